/-
  The mathematics of names and of the table of long names: no
-/
import Derived.Test.YtlmolmohhpdhdaaGreatDoorYMg
set_option maxRecDepth 100000
set_option maxHeartbeats 16000000
set_option linter.all false
namespace Go.Proofs.YtlmolmohhpdhdaaGreatDoor
open Go.RowKit Go.Proofs Tryz
namespace JN
open JD
def bts (s:ByteArray):List UInt8:=s.data.toList
def str (l:List UInt8):ByteArray:=⟨l.toArray⟩
theorem qac (l:List UInt8):bts (str l)=l:=by simp[bts,str]
theorem qaw (s:ByteArray):str (bts s)=s:=by cases s;simp[bts,str]
theorem qyd {a b:ByteArray}(h:bts a=bts b):a=b:=by rw[<-qaw a,<-qaw b,h]
theorem qa2 (s:ByteArray):(bts s).length=s.size:=Array.length_toList (xs:=s.data)
theorem qat (l:List UInt8):(str l).size=l.length:=by rw[<-qa2,qac]
def okB (c:UInt8):Bool:=c !=47&&(c !=10&&c !=0)
def vld (l:List UInt8):Bool:=decide (1<=l.length)&&(decide (l.length<=255)&&l.all okB)
def sht (l:List UInt8):Bool:=vld l&&(decide (l.length<=15)&&!Lib.hasSuffix l [32])
theorem qmd {l:List UInt8}:vld l=true↔1<=l.length/\l.length<=255/\∀c∈l,okB c=true:=by simp[vld]
theorem Qge {c:UInt8}:okB c=true↔c≠47/\c≠10/\c≠0:=by simp[okB]
theorem sht_vld {l:List UInt8}(h:sht l=true):vld l=true:=by unfold sht at h;simp at h;exact h.1
theorem qwg {l:List UInt8}(h:vld l=true){c:UInt8}(hc:c∈l):c≠47/\c≠10/\c≠0:=Qge.1 ((qmd.1 h).2.2 c hc)
def tab:List ByteArray->List UInt8
 |[]=>[]
 |n::r=>bts n++([47,10]++tab r)
theorem qme:∀a b:List ByteArray,tab (a++b)=tab a++tab b
 |[],b=>rfl
 |n::r,b=>by rw[zlE,tab,qme r b,tab];simp
theorem qtr (a:List ByteArray)(n:ByteArray):tab (a++[n])=tab a++(bts n++[47,10]):=by rw[qme];simp[tab]
def qeu (ns:List ByteArray):Bool:=ns.all fun n=>vld (bts n)
theorem qb7 {ns:List ByteArray}:qeu ns=true↔∀n∈ns,vld (bts n)=true:=by simp[qeu]
theorem qh9 {a b:List ByteArray}:qeu (a++b)=true↔qeu a=true/\qeu b=true:=by
 rw[qb7,qb7,qb7];constructor
 ·exact fun h=>⟨fun n hn=>h n (by simp[hn]),fun n hn=>h n (by simp[hn])⟩
 ·rintro ⟨h1,h2⟩ n hn;rcases zlG.1 hn with h|h
  ·exact h1 n h
  ·exact h2 n h
def qam (ns:List ByteArray):List ByteArray:=ns.filter fun n=>!sht (bts n)
theorem qic (a b:List ByteArray):qam (a++b)=qam a++qam b:=by simp[qam]
theorem qmf {ns:List ByteArray}(h:qeu ns=true):qeu (qam ns)=true:=by
 rw[qb7] at h |-;exact fun n hn=>h n (List.mem_filter.1 hn).1
def fld (pre:List ByteArray)(n:ByteArray):ByteArray:=if sht (bts n)=true then str (bts n++[47]) else str ([47]++tx 10 (tab (qam pre)).length)
def qj7:List ByteArray->List ByteArray->List ByteArray
 |_,[]=>[]
 |pre,n::r=>fld pre n::qj7 (pre++[n]) r
theorem qqg:∀(pre a b:List ByteArray),qj7 pre (a++b)=qj7 pre a++qj7 (pre++a) b
 |pre,[],b=>by simp[qj7]
 |pre,n::r,b=>by rw[zlE,qj7,qqg (pre++[n]) r b,qj7];simp
theorem qe2:∀(pre a:List ByteArray),(qj7 pre a).length=a.length
 |_,[]=>rfl
 |pre,n::r=>by rw[qj7,zlk,zlk,qe2]
theorem qqh (a:List ByteArray)(n:ByteArray):qj7 [] (a++[n])=qj7 [] a++[fld a n]:=by rw[qqg];simp[qj7]
theorem Qgf:∀(pre a:List ByteArray)(i:Nat)(h:i<a.length),(qj7 pre a)[i]?=some (fld (pre++a.take i) a[i])
 |pre,n::r,0,h=>by simp[qj7]
 |pre,n::r,i+1,h=>by
  rw[qj7,List.getElem?_cons_succ,Qgf (pre++[n]) r i (by simpa using h)];simp
theorem qmg:∀(ns:List ByteArray)(k:Nat),(∀n∈ns,n.size<=k)->(tab ns).length<=ns.length * (k+2)
 |[],k,_=>by simp[tab]
 |n::r,k,h=>by
  have h1:=qmg r k fun x hx=>h x (by simp[hx]);have h2:=h n (by simp);rw[tab,zlb,zlb,qa2,show (n::r).length * (k+2)=r.length * (k+2)+(k+2) from Nat.succ_mul _ _];simp only[zlk,List.length_nil];omega
theorem qha {n:ByteArray}(h:vld (bts n)=true):1<=n.size/\n.size<=255:=by
 have:=qmd.1 h;rw[qa2] at this;exact⟨this.1,this.2.1⟩
def first (l:List UInt8):List UInt8:=if 0<=Lib.index l [47,10]/\vld (l.take (Lib.index l [47,10]).toNat)=true then l.take (Lib.index l [47,10]).toNat else []
theorem Qcb {n r:List UInt8}(h:vld n=true):Lib.index (n++([47,10]++r)) [47,10]=(n.length:Int):=by
 refine Lib.index_first (by simp) ?_ fun j hj=>?_
 ·unfold Lib.occAt;rw[List.drop_left];simp
 ·unfold Lib.occAt;rw[List.drop_append_of_le_length (by omega),List.drop_eq_getElem_cons hj];have:=(qwg h (zlq hj)).1;simp only[zlE,List.isPrefixOf,Bool.and_eq_false_imp];intro e;exact absurd (by simpa using e:(47:UInt8)=n[j]).symm this
theorem qs9 {n r:List UInt8}(h:vld n=true):first (n++([47,10]++r))=n:=by
 unfold first
 rw[Qcb h];simp[h]
theorem qmh {l:List UInt8}(h:first l≠[]):vld (first l)=true/\l=first l++([47,10]++l.drop ((first l).length+2)):=by
 unfold first at h |-
 split at h
 ·rename_i hc
  rw[if_pos hc];obtain⟨h0,hv⟩:=hc;rcases Lib.index_spec l [47,10] with ⟨e,_⟩|⟨i,e,hi,ho,_⟩
  ·omega
  ·rw[e] at hv |-;simp only[zlt] at hv |-;refine⟨hv,?_⟩;unfold Lib.occAt at ho;obtain⟨t,ht⟩:=List.isPrefixOf_iff_prefix.1 ho;have h1:l.drop (i+2)=t:=by rw[<-List.drop_drop,<-ht];rfl
   have h2:(l.take i).length=i:=by rw[zlu];omega
   rw[h2,h1,ht,List.take_append_drop]
 ·exact absurd rfl h
def seq (l:List UInt8):List ByteArray:=
 if h0:l=[] then [] else if first l=[] then [str []] else str (first l)::seq (l.drop ((first l).length+2))
termination_by l.length
decreasing_by
 have:0<l.length:=List.length_pos_iff.2 h0
 rw[zlm]
 omega
theorem qqi:seq []=[]:=by rw[seq];simp
theorem qye {l:List UInt8}(h0:l≠[])(h:first l=[]):seq l=[str []]:=by rw[seq,dif_neg h0,if_pos h]
theorem qnj {l:List UInt8}(h0:l≠[])(h:first l≠[]):seq l=str (first l)::seq (l.drop ((first l).length+2)):=by rw[seq,dif_neg h0,if_neg h]
theorem seq_name {n:ByteArray}{r:List UInt8}(h:vld (bts n)=true):seq (bts n++([47,10]++r))=n::seq r:=by
 have h1:=qs9 (r:=r) h;have h2:=qha h;rw[<-qa2] at h2;have hne:bts n≠[]:=fun e=>by rw[e] at h2;simp at h2
 rw[qnj (by simp[hne]) (by rw[h1];exact hne),h1,qaw];congr 2
 rw[<-zln,List.drop_left' (by simp)]
theorem qyf:∀(ns:List ByteArray)(r:List UInt8),qeu ns=true->seq (tab ns++r)=ns++seq r
 |[],r,_=>rfl
 |n::ns,r,h=>by
  obtain⟨h1,h2⟩:=qh9.1 (show qeu ([n]++ns)=true from h);rw[tab,zln,zln,seq_name (qb7.1 h1 n (by simp)),qyf ns r h2,zlE]
def good (l:List UInt8):Bool:=(seq l).all fun n=>n.size !=0
theorem Qac {ns:List ByteArray}(h:qeu ns=true)(r:List UInt8):good (tab ns++r)=good r:=by
 unfold good;rw[qyf ns r h,List.all_append]
 have:(ns.all fun n=>n.size !=0)=true:=by
  rw[List.all_eq_true];intro n hn;have:=qha (qb7.1 h n hn);rw[bne_iff_ne];omega
 rw[this,Bool.true_and]
theorem Qad:good []=true:=by unfold good;rw[qqi];rfl
theorem qqj {ns:List ByteArray}(h:qeu ns=true):good (tab ns)=true/\seq (tab ns)=ns:=by
 have h1:=Qac h [];have h2:=qyf ns [] h;rw[zlJ] at h1 h2;rw[qqi,zlJ] at h2;exact⟨by rw[h1,Qad],h2⟩
theorem qqk:∀{l:List UInt8},good l=true->l=tab (seq l)/\qeu (seq l)=true:=by
 intro l;generalize hk:l.length=k
 induction k using Nat.strongRecOn generalizing l with
 |_ k ih=>
  intro h;by_cases h0:l=[]
  ·subst h0;rw[qqi];exact⟨rfl,rfl⟩
  ·by_cases hf:first l=[]
   ·unfold good at h;rw[qye h0 hf] at h;simp[qat] at h
   ·obtain⟨hv,hl⟩:=qmh hf;have hs:=qnj h0 hf
    have hg:good (l.drop ((first l).length+2))=true:=by
     unfold good at h |-;rw[hs,List.all_cons] at h;simp at h |-;exact h.2
    have hlen:0<l.length:=List.length_pos_iff.2 h0;obtain⟨h1,h2⟩:=ih _ (by rw[zlm];omega) rfl hg;rw[hs];refine⟨?_,?_⟩
    ·rw[tab,qac,<-h1];exact hl
    ·rw[qb7] at h2 |-;intro n hn;rcases List.mem_cons.1 hn with rfl|hn
     ·rw[qac];exact hv
     ·exact h2 n hn
def qyg (l:List UInt8):List ByteArray:=if good l=true then seq l else []
def qqm (l:List UInt8):Int:=if good l=true then 0 else 7
theorem Qae:∀{ns:List ByteArray},ns≠[]->(tab ns).getLast?=some 10
 |[n],_=>by simp[tab]
 |n::m::r,_=>by
  have:=Qae (ns:=m::r) (by simp);rw[tab,List.getLast?_append,List.getLast?_append,this];rfl
theorem qwh:∀(ns:List ByteArray)(k:Nat),qeu ns=true->k<(tab ns).length->(k=0∨(tab ns)[k-1]?=some 10)->∃i,i<ns.length/\k=(tab (ns.take i)).length
 |[],k,_,h,_=>by simp[tab] at h
 |n::r,k,hv,h,h1=>by
  obtain⟨v1,v2⟩:=qh9.1 (show qeu ([n]++r)=true from hv);have vn:=qb7.1 v1 n (by simp);rcases h1 with rfl|h1
  ·exact⟨0,by simp,by simp[tab]⟩
  ·by_cases h0:k=0
   ·subst h0;exact⟨0,by simp,by simp[tab]⟩
   ·rw[tab] at h1 h;simp only[zlb,zlk,List.length_nil] at h;by_cases hk:k-1<(bts n).length
    ·rw[List.getElem?_append_left hk,zlh hk] at h1;injection h1 with h1;exact absurd h1 (qwg vn (zlq hk)).2.1
    ·rw[zlC (by omega)] at h1;by_cases hk1:k-1-(bts n).length=0
     ·rw[hk1] at h1;simp at h1
     ·have hlt:(bts n).length+2<=k:=by omega
      have hrest:k-((bts n).length+2)=0∨(tab r)[k-((bts n).length+2)-1]?=some 10:=by
       by_cases hk2:k=(bts n).length+2
       ·left;omega
       ·right
        rw[zlC (by simp;omega)] at h1;rw[<-h1];congr 1
        simp only[zlk,List.length_nil];omega
      obtain⟨i,hi,e⟩:=qwh r (k-((bts n).length+2)) v2 (by omega) hrest;refine⟨i+1,by simpa using hi,?_⟩;rw[List.take_succ_cons,tab];simp only[zlb,zlk,List.length_nil];omega
theorem qqn (ns:List ByteArray)(i:Nat):tab ns=tab (ns.take i)++tab (ns.drop i):=by rw[<-qme,List.take_append_drop]
theorem qwi {ns:List ByteArray}{i:Nat}(hi:i<ns.length):(tab (ns.take i)).length<(tab ns).length/\((tab (ns.take i)).length=0∨(tab ns)[(tab (ns.take i)).length-1]?=some 10):=by
 refine⟨?_,?_⟩
 ·have h:=congrArg List.length (qqn ns i);rw[List.drop_eq_getElem_cons hi,tab] at h;simp only[zlb,zlk,List.length_nil] at h;omega
 ·by_cases h0:ns.take i=[]
  ·left;rw[h0];rfl
  ·right
   have h1:=Qae h0;rw[List.getLast?_eq_getElem?] at h1
   have hpos:0<(tab (ns.take i)).length:=by
    rcases Nat.eq_zero_or_pos (tab (ns.take i)).length with h|h
    ·rw[zli h] at h1;simp at h1
    ·exact h
   rw[qqn ns i,List.getElem?_append_left (by omega)];exact h1
theorem first_at {ns:List ByteArray}(hv:qeu ns=true){i:Nat}(hi:i<ns.length):first ((tab ns).drop (tab (ns.take i)).length)=bts ns[i]:=by
 have h:(tab ns).drop (tab (ns.take i)).length=tab (ns.drop i):=by
  conv=>lhs;rw[qqn ns i]
  exact List.drop_left
 rw[h,List.drop_eq_getElem_cons hi,tab];exact qs9 (qb7.1 hv _ (zlq hi))
end JN
namespace JN
open JB JU JD
theorem qwj (c:UInt8):([47,10,0]:List UInt8).contains c=!okB c:=by
 unfold okB;by_cases h1:c=47
 ·subst h1;rfl
 ·by_cases h2:c=10
  ·subst h2;rfl
  ·by_cases h3:c=0
   ·subst h3;rfl
   ·simp[h1,h2,h3]
theorem Qgg:∀l:List UInt8,(!bad l)=l.all okB
 |[]=>rfl
 |b::l=>by
  have ih:=Qgg l;unfold bad Lib.containsAny at ih |-;unfold Lib.indexAny;rw[qwj,List.all_cons];cases h:okB b
  ·simp
  ·rw[Bool.not_true,Bool.true_and,<-ih];have hge:=Lib.indexAny_ge [47,10,0] l;simp only[Bool.false_eq_true,if_false];by_cases h2:Lib.indexAny l [47,10,0]= -1
   ·rw[h2];rfl
   ·have h3:(Lib.indexAny l [47,10,0]== -1)=false:=by simpa using h2
    rw[h3];simp only[Bool.false_eq_true,if_false];congr 1
    rw[decide_eq_decide];omega
theorem qfm (s:ByteArray)(w:World)(hs:s.size<=140737488355328):
 Calls prog 195 #[.string s] w fun e w'=>e=.returned (.bool (vld (bts s)))/\Below w.heap.size w w':=by
 by_cases h1:1<=s.size
 ·by_cases h2:s.size<=255
  ·have Hr:Hid (vld (bts s)=!bad (bts s)):=hid (by rw[Qgg];unfold vld;rw[qa2];simp[h1,h2]);have Hc:=hid (qf7 s w (by omega));go_enter func195,ntmps195;go_wp2_with (go_at_call 182;refine Hc.out.mono ?_;rintro e w' ⟨rfl,hw⟩)
   go_ret
   exact⟨qa1 (by rw[Hr.out];rfl),hw⟩
  ·have Hr':Hid (vld (bts s)=false):=hid (by unfold vld;rw[qa2];simp[h2]);go_enter func195,ntmps195;go_wp2_with fail
   go_ret
   exact⟨qa1 Hr'.out.symm,Below.refl _ _⟩
 ·have Hr':Hid (vld (bts s)=false):=hid (by unfold vld;rw[qa2];simp[h1]);go_enter func195,ntmps195;go_wp2_with fail
  go_ret
  exact⟨qa1 Hr'.out.symm,Below.refl _ _⟩
theorem qfn (s:ByteArray)(w:World)(hs:s.size<=140737488355328):
 Calls prog 148 #[.string s] w fun e w'=>e=.returned (.bool (sht (bts s)))/\Below w.heap.size w w':=by
 have Hc:=hid (qfm s w hs);cases hv:vld (bts s)
 ·have Hr:Hid (sht (bts s)=false):=hid (by unfold sht;rw[hv];rfl);go_enter func148,ntmps148;go_wp2_with (go_at_call 195;refine Hc.out.mono ?_;rintro e w' ⟨rfl,hw⟩;rw[hv])
  go_ret
  exact⟨qa1 Hr.out.symm,hw⟩
 ·by_cases h15:s.size<=15
  ·have Hr:Hid (sht (bts s)=!Lib.hasSuffix s.data.toList [32]):=hid (by unfold sht;rw[hv,qa2];simp[h15];rfl);go_enter func148,ntmps148;go_wp2_with (first|(go_at_call 195;refine Hc.out.mono ?_;rintro e w' ⟨rfl,hw⟩;rw[hv])|(go_at_call 183;refine (Tryz.strings_HasSuffix _ _ _ (by omega)).mono ?_;rintro e w'' ⟨rfl,hw2⟩;rw[hw2]))
   go_ret
   exact⟨qa1 (by rw[Hr.out]),hw⟩
  ·have Hr:Hid (sht (bts s)=false):=hid (by unfold sht;rw[qa2];simp[h15]);go_enter func148,ntmps148;go_wp2_with (go_at_call 195;refine Hc.out.mono ?_;rintro e w' ⟨rfl,hw⟩;rw[hv])
   go_ret
   exact⟨qa1 Hr.out.symm,hw⟩
theorem qkm (s:ByteArray)(i:Nat)(h:i<s.size):(bts s)[i]?=some (s[i]'h):=Lib.data_getElem? s i h
theorem Qgh {s:ByteArray}{i:Nat}{c:UInt8}(h2:(bts s)[i]?=some c)(h3:okB c=false):vld (bts s)=false:=by
 cases h:vld (bts s)
 ·rfl
 ·have:=(qmd.1 h).2.2 c (List.mem_of_getElem? h2);rw[h3] at this;cases this
def OkTo (l:List UInt8)(i:Nat):Prop:=∀c∈l.take i,okB c=true
theorem OkTo.succ {l:List UInt8}{i:Nat}{c:UInt8}(h:OkTo l i)(h2:l[i]?=some c)(h3:okB c=true):OkTo l (i+1):=by
 obtain⟨hi,rfl⟩:=zlv.1 h2;unfold OkTo at h |-;rw[zlg hi];intro c hc;rcases zlG.1 hc with hc|hc
 ·exact h c hc
 ·rw[zlw] at hc;rw[hc];exact h3
theorem qcg {x:UInt8}{k:UInt8}(h:x=k):((x.toNat:Int)==(k.toNat:Int))=true:=by rw[h];simp
theorem qts {x:UInt8}{k:UInt8}(h:x≠k):((x.toNat:Int)==(k.toNat:Int))=false:=by
 rw[zls];intro e;apply h;rw[<-UInt8.toNat_inj];omega
theorem qf0 (s:ByteArray)(w:World)(hs:s.size<=140737488355328):
 Calls prog 93 #[.string s] w fun e w'=>e=.returned (.bool (vld (bts s)))/\∃m,w'=w.drewN m:=by
 by_cases h1:s.size=0
 ·have Hr:Hid (vld (bts s)=false):=hid (by unfold vld;rw[qa2,h1];rfl);have h1':((s.size:Int)==0)=true:=by rw[h1];rfl
  clear h1;go_enter func93,ntmps93;go_wp2_with fail
  go_ret
  exact⟨qa1 Hr.out.symm,0,rfl⟩
 ·have h1':((s.size:Int)==0)=false:=by rw[zls];omega
  by_cases h2:255<s.size
  ·have Hr:Hid (vld (bts s)=false):=hid (by unfold vld;rw[qa2];simp;omega);go_enter func93,ntmps93;go_wp2_with fail
   go_ret
   exact⟨qa1 Hr.out.symm,0,rfl⟩
  ·have Hfull:Hid (OkTo (bts s) s.size->vld (bts s)=true):=hid fun h=>by
    rw[qmd,qa2];refine⟨by omega,by omega,fun c hc=>h c ?_⟩;rw[zlj (by rw[qa2];omega)];exact hc
   go_enter func93,ntmps93;go_wp2_with fail
   go_loop [3] (fun i=>∃j:Nat,i=.int .i64 (j:Int)/\j<=s.size/\OkTo (bts s) j) (fun i=>s.size-(intOf i).toNat)
   case atStart=>exact⟨0,rfl,by omega,fun c hc=>by simp at hc⟩
   case round=>
    obtain⟨j,rfl,hj,hno⟩:=hrel;have Hno:=hid hno;clear hno;by_cases hlt:j<s.size
    ·have Hj:=hid (qkm s j hlt);obtain⟨x,hx⟩:∃x:UInt8,s[j]'hlt=x:=⟨_,rfl⟩;rw[hx] at Hj;have Hx:=hid hx;by_cases hx1:x=47
     ·have Hb:=hid (Qgh Hj.out (by rw[hx1];rfl));have hx2:((s[j].toNat:Int)==47)=true:=by rw[hx];exact qcg hx1
      clear hx hx1;go_wp2_with fail
      go_ret
      exact⟨qa1 Hb.out.symm,0,rfl⟩
     ·have hx2:((s[j].toNat:Int)==47)=false:=by rw[hx];exact qts hx1
      by_cases hx3:x=10
      ·have Hb:=hid (Qgh Hj.out (by rw[hx3];rfl));have hx4:((s[j].toNat:Int)==10)=true:=by rw[hx];exact qcg hx3
       clear hx hx1 hx3;go_wp2_with fail
       go_ret
       exact⟨qa1 Hb.out.symm,0,rfl⟩
      ·have hx4:((s[j].toNat:Int)==10)=false:=by rw[hx];exact qts hx3
       by_cases hx5:x=0
       ·have Hb:=hid (Qgh Hj.out (by rw[hx5];rfl));have hx6:((s[j].toNat:Int)==0)=true:=by rw[hx];exact qcg hx5
        clear hx hx1 hx3 hx5;go_wp2_with fail
        go_ret
        exact⟨qa1 Hb.out.symm,0,rfl⟩
       ·have hx6:((s[j].toNat:Int)==0)=false:=by rw[hx];exact qts hx5
        have Hn:=hid (Hno.out.succ Hj.out (Qge.2 ⟨hx1,hx3,hx5⟩));clear hx hx1 hx3 hx5;go_wp2_with fail
        go_round
        case rel=>exact⟨j+1,by go_num,by omega,Hn.out⟩
        case measure=>simp[intOf];omega
    ·obtain rfl:j=s.size:=by omega
     have Hb:=hid (Hfull.out Hno.out);clear Hfull;go_wp2_with fail
     go_ret
     exact⟨qa1 Hb.out.symm,0,rfl⟩
theorem sht_last {s:ByteArray}{k:Nat}{c:UInt8}(hv:vld (bts s)=true)(hk:s.size=k+1)(hk2:k<15)(hc:(bts s)[k]?=some c):sht (bts s)=!(32==c):=by
 have hl:(bts s).length=k+1:=by rw[qa2];exact hk
 have e:bts s=(bts s).take k++[c]:=by
  obtain⟨h1,h2⟩:=zlv.1 hc;rw[<-h2,<-zlg h1,zlj (by omega)]
 have hs:Lib.hasSuffix (bts s) [32]=(32==c):=by
  rw[e];unfold Lib.hasSuffix;rw[Bool.eq_iff_iff,List.isSuffixOf_iff_suffix];constructor
  ·rintro ⟨t,ht⟩;have:=congrArg List.getLast? ht;simp at this;simp[this]
  ·intro h;have:(32:UInt8)=c:=by simpa using h
   rw[<-this];exact⟨_,rfl⟩
 unfold sht;rw[hs,hv];have h2:s.size<=15:=by omega
 rw[qa2];simp[h2]
theorem qiy (s:ByteArray)(w:World)(hs:s.size<=140737488355328):
 Calls prog 133 #[.string s] w fun e w'=>e=.returned (.bool (sht (bts s)))/\∃m,w'=w.drewN m:=by
 have Hc:=hid (qf0 s w hs);cases hv:vld (bts s)
 ·have Hr:Hid (sht (bts s)=false):=hid (by unfold sht;rw[hv];rfl);go_enter func133,ntmps133;go_wp2_with (go_at_call 93;refine Hc.out.mono ?_;rintro e w' ⟨rfl,m,rfl⟩;rw[hv])
  go_ret
  exact⟨qa1 Hr.out.symm,m,rfl⟩
 ·by_cases h15:s.size<16
  ·have h1:=(qha hv).1;obtain⟨k,hk⟩:∃k,s.size=k+1:=⟨s.size-1,by omega⟩;have hkl:k<s.size:=by omega
   have hz:(s.size:Int)-1=(k:Int):=by omega
   have Hr:Hid (sht (bts s)=!(32==s[k])):=hid (sht_last hv hk (by omega) (qkm s k hkl));have Hv:=hid hv;clear hk;by_cases h32:s[k]=32
   ·have Hr':Hid (sht (bts s)=false):=hid (by rw[Hr.out,h32];rfl);have hq:((s[k].toNat:Int) !=32)=false:=by rw[h32];rfl
    clear h32 Hr hv;go_enter func133,ntmps133;go_wp2_with (go_at_call 93;refine Hc.out.mono ?_;rintro e w' ⟨rfl,m,rfl⟩;rw[Hv.out])
    go_ret
    exact⟨qa1 Hr'.out.symm,m,rfl⟩
   ·have Hr':Hid (sht (bts s)=true):=hid (by
     rw[Hr.out];have:((32:UInt8)==s[k])=false:=by rw[zls];exact fun e=>h32 e.symm
     rw[this];rfl)
    have hq:((s[k].toNat:Int) !=32)=true:=by
     have:=qts h32;simp only[bne,Bool.not_eq_true'];exact this
    clear h32 Hr hv;go_enter func133,ntmps133;go_wp2_with (go_at_call 93;refine Hc.out.mono ?_;rintro e w' ⟨rfl,m,rfl⟩;rw[Hv.out])
    go_ret
    exact⟨qa1 Hr'.out.symm,m,rfl⟩
  ·have Hr:Hid (sht (bts s)=false):=hid (by unfold sht;rw[qa2];simp;omega);go_enter func133,ntmps133;go_wp2_with (go_at_call 93;refine Hc.out.mono ?_;rintro e w' ⟨rfl,m,rfl⟩;rw[hv])
   go_ret
   exact⟨qa1 Hr.out.symm,m,rfl⟩
def Gnd (w:World):Prop:=∃m,w.cell? ⟨0,0,none⟩=some (.int .i64 m)
theorem Gnd.below {w w':World}{K:Nat}(h:Gnd w)(hb:Below K w w')(hK:w.heap.size<=K):Gnd w':=by
 obtain⟨m,hm⟩:=h;refine⟨m,?_⟩;rw[hb.cell (p:=⟨0,0,none⟩) (Nat.lt_of_lt_of_le (World.block_lt_of_cell? _ _ hm) hK)];exact hm
theorem Gnd.on {w w':World}(h:Gnd w)(hb:Below w.heap.size w w'):Gnd w':=h.below hb zjn
theorem Gnd.alloc {w:World}(h:Gnd w)(o:Obj):Gnd (w.alloc o):=h.on ((Below.refl _ _).alloc zjn _)
theorem Gnd.drewN {w:World}(h:Gnd w)(m:Nat):Gnd (w.drewN m):=h.on (qa0 _ _)
theorem qwk : prog.globalNamed "internal/strconv.uint64pow10" = some 3 := by kernel_rfl
def qev (w : World) : Prop := Gnd w /\ Lib.TabIs prog w "internal/strconv.uint64pow10" .u64 Lib.pow10Tab /\ 3 = 3
theorem qev.below {w w':World}{K:Nat}(h:qev w)(hb:Below K w w')(hK:w.heap.size<=K):qev w':=by
 obtain⟨h0,ht,_⟩:=h;refine⟨h0.below hb hK,?_,rfl⟩;unfold Lib.TabIs World.var? at ht |-;rw[qwk] at ht |-;simp only[Option.bind_some] at ht |-
 have hlt:3<w.heap.size:=by
  by_cases h:3<w.heap.size
  ·exact h
  ·rw[Array.getElem?_eq_none (by omega)] at ht;cases ht
 rw[hb.block _ (Nat.lt_of_lt_of_le hlt hK)];exact ht
theorem qev.on {w w':World}(h:qev w)(hb:Below w.heap.size w w'):qev w':=h.below hb zjn
theorem qev.alloc {w:World}(h:qev w)(o:Obj):qev (w.alloc o):=h.on ((Below.refl _ _).alloc zjn _)
theorem qev.drewN {w:World}(h:qev w)(m:Nat):qev (w.drewN m):=h.on (qa0 _ _)
theorem qev.gnd {w:World}(h:qev w):Gnd w:=h.1
theorem dec_tx:∀n:Nat,Lib.decDigits n=tx 10 n:=by
 refine qeh (B:=10) (by omega) (fun n h=>?_) (fun n h ih=>?_)
 ·rw[Lib.decDigits_one h,qhd h]
 ·rw[Lib.decDigits,dif_neg (by omega),ih,qqs (by omega) h]
theorem Qcc (w:World)(k:Nat)(os:Array Obj):Below w.heap.size w (Sort.grow (w.drewN k) os):=
 ⟨rfl,rfl,rfl,by simp[Sort.grow],fun i hi=>by
  show ((w.drewN k).heap++os)[i]?=_
  rw[Array.getElem?_append_left (by show i<w.heap.size;omega)];rfl⟩
theorem qtt (n:Nat)(w:World)(hg:qev w)(hn:n<9223372036854775808):
 Calls prog 33 #[.int .i64 (n:Int)] w fun e w'=>e=.returned (.string (str (tx 10 n)))/\Below w.heap.size w w':=by
 refine (Tryz.strconv_Itoa (n:Int) (by omega) (by omega) w hg.2.1).mono fun e w' ⟨he,k,os,hw⟩=>⟨?_,?_⟩
 ·rw[he,Lib.itoa_nonneg,dec_tx];rfl
 ·rw[hw];exact Qcc w k os
def qna (l:List UInt8):List Int:=l.map fun c=>(c.toNat:Int)
theorem qfa (l:List UInt8):(qna l).length=l.length:=by simp[qna]
theorem qiz (l:List UInt8):Lib.bytesOf (qna l)=l:=by
 unfold Lib.bytesOf qna;rw[List.map_map]
 conv=>rhs;rw[<-List.map_id l]
 apply List.map_congr_left;intro c _;simp
theorem qwm (l:List UInt8):∀x∈qna l,0<=x/\x<256:=by
 intro x hx;unfold qna at hx;obtain⟨c,_,rfl⟩:=List.mem_map.1 hx;have:=c.toNat_lt;omega
theorem qst {l:List UInt8}{i:Nat}(h:i<l.length):(qna l).getD i 0=(l[i].toNat:Int):=by
 unfold qna;simp[List.getD_eq_getElem?_getD,zlh h]
theorem Rd.bytesIn {w:World}{K n:Nat}{A:Option Addr}{l:List UInt8}(h:Rd w K A n l):Lib.BytesIn w A n (qna l):=by
 intro hn;obtain⟨b,o,e,_,_⟩:=h.2 0 (by have:=h.1;omega);refine⟨b,o,e,fun i hi=>?_⟩;have hi':i<l.length:=by have:=h.1;omega
 obtain⟨b',o',e',_,hc⟩:=h.2 i hi';rw[e] at e';injection e' with e';injection e' with e1 e2;subst e1;subst e2;rw[qst hi'];exact hc
theorem cut_any (K:Nat)(A:Option Addr)(n c:Nat)(l:List UInt8)(A2:Option Addr)(c2:Nat)(w:World)(hg:Gnd w)(hr:Rd w K A n l)(h2:Rd w w.heap.size A2 2 [47,10])(hpos:0<n)(hc:n<=c)(hn:n<4294967281):
 Calls prog 198 #[.slice A n c,.slice A2 2 c2] w fun e w'=>∃q,w'=w.drewN q/\
  e=.returned (if 0<=Lib.index l [47,10] then .tuple #[.slice A (Lib.index l [47,10]).toNat c,Lib.fromV A n c ((Lib.index l [47,10]).toNat+2),.bool true] else .tuple #[.slice A n c,.slice none 0 0,.bool false]):=by
 obtain⟨m,hm⟩:=hg;obtain⟨b,o,e,_⟩:=hr.2 0 (by have:=hr.1;omega);refine (Tryz.bytes_Cut_all A A2 n c 2 c2 (qna l) (qna [47,10]) m w (by rw[qfa];exact hr.1) rfl (qwm _) (qwm _) (Rd.bytesIn hr) (Rd.bytesIn h2) (by rw[e];intro h;cases h) hc hn (by decide) hm).mono fun e w' ⟨he,q,hw⟩=>⟨q,hw,?_⟩;rw[he,qiz,qiz];rfl
theorem qyh (p:Option Addr)(n c j:Nat):∃B m k,Lib.fromV p n c j=.slice B m k:=⟨_,_,_,rfl⟩
theorem qwn (K:Nat)(A:Option Addr)(n c:Nat)(l:List UInt8)(w:World)(hg:Gnd w)(hr:Rd w K A n l)(hK:K<=w.heap.size)(hpos:0<n)(hc:n<=c)(hn:n<4294967281):
 Calls prog 152 #[.slice A n c] w fun e w'=>e=.returned (.string (str (first l)))/\Below w.heap.size w w':=by
 have hbl:Below w.heap.size w (w.alloc (.cells #[.int .u8 47,.int .u8 10] 5 (2,3))):=(Below.refl _ w).alloc zjn _;have hsz:(w.alloc (.cells #[.int .u8 47,.int .u8 10] 5 (2,3))).heap.size=w.heap.size+1:=by simp
 have hr1:=hr.below (hbl.mono hK);have h2:Rd (w.alloc (.cells #[.int .u8 47,.int .u8 10] 5 (2,3))) (w.heap.size+1) (some ⟨w.heap.size,0,none⟩) 2 [47,10]:=Rd.lit w [47,10] _ rfl 2 rfl (2,3);rw[<-hsz] at h2;have Hcut:=hid (cut_any K A n c l (some ⟨w.heap.size,0,none⟩) 2 _ (hg.alloc _) hr1 h2 hpos hc hn);have Hbl:=hid hbl;clear h2 hsz hbl;have kc:=Lib.run_convert_bytes_const (P:=prog) w 22 5 #[.int .u8 47,.int .u8 10] 2 2 underlying22 underlying5;rw[show (#[.int .u8 47,.int .u8 10]:Array Value).size=2 from rfl] at kc;by_cases hi:0<=Lib.index l [47,10]
 ·obtain⟨i,hi2⟩:=zlA hi;have hroom:=Lib.index_room l [47,10] hi;have hl:=hr.1;have hin:i<=n:=by rw[hi2] at hroom;simp only[zlk,List.length_nil] at hroom;omega
  have Hf:Hid (first l=if vld (l.take i)=true then l.take i else []):=hid (by unfold first;rw[hi2];simp);rw[if_pos hi,hi2,zlt] at Hcut
  have hstr:∀q,(convert 22 9 (.slice A i c)).run prog ((w.alloc (.cells #[.int .u8 47,.int .u8 10] 5 (2,3))).drewN q)=.ok (.string ⟨(l.take i).toArray⟩) ((w.alloc (.cells #[.int .u8 47,.int .u8 10] 5 (2,3))).drewN q):=
   fun q=>qmi _ K A i c (l.take i) ((hr1.pre hin).drewN q)
  have hssz:(ByteArray.mk (l.take i).toArray).size<=140737488355328:=by
   show (l.take i).toArray.size<=_
   simp;omega
  obtain⟨B,m,k,hfv⟩:=qyh A n c (i+2);rw[hfv] at Hcut;have Hin:=hid hin;clear hfv hi2 hi hroom hin hr1 hl;have Hstr:=hid hstr;clear hstr;have hvv:bts ⟨(l.take i).toArray⟩=l.take i:=qac _;cases hv:vld (l.take i)
  ·have Hf':Hid (first l=[]):=hid (by rw[Hf.out,if_neg (by rw[hv];simp)]);clear Hf;go_enter func152,ntmps152;go_wp2_with fail
   refine Hcut.out.mono ?_;rintro e w1 ⟨q,rfl,rfl⟩;have hs1:=Hstr.out q;have Hb:=hid (Hbl.out.trans ((qa0 (K:=w.heap.size) (w.alloc (.cells #[.int .u8 47,.int .u8 10] 5 (2,3))) q)));go_wp2_with fail
   refine (qfm _ _ hssz).mono ?_;rintro e w2 ⟨rfl,hb2⟩;rw[hvv,hv];have Hb2:=hid (Hb.out.trans (hb2.mono Hb.out.size));clear hb2 hs1;go_wp2_with fail
   go_ret
   exact⟨qqq (by rw[Hf'.out];rfl),Hb2.out⟩
  ·have Hf':Hid (first l=l.take i):=hid (by rw[Hf.out,if_pos hv]);clear Hf;go_enter func152,ntmps152;go_wp2_with fail
   refine Hcut.out.mono ?_;rintro e w1 ⟨q,rfl,rfl⟩;have hs1:=Hstr.out q;have Hb:=hid (Hbl.out.trans ((qa0 (K:=w.heap.size) (w.alloc (.cells #[.int .u8 47,.int .u8 10] 5 (2,3))) q)));go_wp2_with fail
   refine (qfm _ _ hssz).mono ?_;rintro e w2 ⟨rfl,hb2⟩;rw[hvv,hv];have hr2:=(hr.more hK).below (Hb.out.trans (hb2.mono Hb.out.size));have hs2:=qmi w2 _ A i c (l.take i) (hr2.pre Hin.out);have Hb2:=hid (Hb.out.trans (hb2.mono Hb.out.size));clear hb2 hs1 hr2;go_wp2_with fail
   go_ret
   exact⟨qqq (by rw[Hf'.out];rfl),Hb2.out⟩
 ·have Hf:Hid (first l=[]):=hid (by unfold first;rw[if_neg (fun h=>hi h.1)]);rw[if_neg hi] at Hcut;clear hi hr1;go_enter func152,ntmps152;go_wp2_with fail
  refine Hcut.out.mono ?_;rintro e w1 ⟨q,rfl,rfl⟩;have Hb:=hid (Hbl.out.trans ((qa0 (K:=w.heap.size) (w.alloc (.cells #[.int .u8 47,.int .u8 10] 5 (2,3))) q)));go_wp2_with fail
  go_ret
  exact⟨qqq (by rw[Hf.out];rfl),Hb.out⟩
def beg (l:List UInt8)(k:Nat):Bool:=decide (k<l.length)&&(k==0||l[k-1]?==some 10)
theorem Qcd (K:Nat)(A:Option Addr)(n c:Nat)(l:List UInt8)(k:Nat)(w:World)(hr:Rd w K A n l)(_:n<=c)(hk:k<9223372036854775808):
 Calls prog 151 #[.slice A n c,.int .i64 (k:Int)] w fun e w'=>e=.returned (.bool (beg l k))/\w=w':=by
 have hl:=hr.1;by_cases h1:k<n
 ·by_cases h0:k=0
  ·subst h0;have Hr:Hid (beg l 0=true):=hid (by unfold beg;simp;omega);clear hl;go_enter func151,ntmps151;go_wp2_with fail
   go_ret
   exact⟨qa1 Hr.out.symm,rfl⟩
  ·obtain⟨j,rfl⟩:∃j,k=j+1:=⟨k-1,by omega⟩;obtain⟨b,o,rfl,hb,hcell⟩:=hr.2 j (by omega);have hsub:((j+1:Nat):Int)-1=(j:Int):=by omega
   have hz:(((j+1:Nat):Int)==0)=false:=by rw[zls];omega
   obtain⟨x,hx⟩:∃x:UInt8,l[j]'(by omega)=x:=⟨_,rfl⟩
   have Hr:Hid (beg l (j+1)=(x==10)):=hid (by
    unfold beg;rw[show j+1-1=j from rfl,zlh (by omega:j<l.length),hx];simp;omega)
   rw[hx] at hcell;clear hx;by_cases hx:x=10
   ·have hq:((x.toNat:Int)==10)=true:=qcg hx;have Hr':Hid (beg l (j+1)=true):=hid (by rw[Hr.out,hx];rfl);clear hx Hr hl;go_enter func151,ntmps151;go_wp2_with fail
    go_ret
    exact⟨qa1 Hr'.out.symm,rfl⟩
   ·have hq:((x.toNat:Int)==10)=false:=qts hx;have Hr':Hid (beg l (j+1)=false):=hid (by rw[Hr.out];simpa using hx);clear hx Hr hl;go_enter func151,ntmps151;go_wp2_with fail
    go_ret
    exact⟨qa1 Hr'.out.symm,rfl⟩
 ·have Hr:Hid (beg l k=false):=hid (by unfold beg;simp;omega);clear hl;go_enter func151,ntmps151;go_wp2_with fail
  go_ret
  exact⟨qa1 Hr.out.symm,rfl⟩
def qtu:List UInt8->Option Nat
 |47::d=>if d.length<=15 then (match qcv 10 d with|some n=>if nd 10 n=d.length then some n else none|none=>none) else none
 |_=>none
theorem qwp {l:List UInt8}{k:Nat}(h:qtu l=some k):l=47::tx 10 k/\(tx 10 k).length<=15:=by
 unfold qtu at h;split at h
 ·rename_i d
  split at h
  ·rename_i hd
   split at h
   ·rename_i n hp
    split at h
    ·rename_i hn
     injection h with h;subst h;have h1:=(qj1 (B:=10) (by omega) (by omega) hp).2;rw[hn,Nat.sub_self,List.replicate_zero,zlJ] at h1;rw[<-h1];exact⟨rfl,hd⟩
    ·cases h
   ·cases h
  ·cases h
 ·cases h
theorem poff_tx {k:Nat}(h:(tx 10 k).length<=15):qtu (47::tx 10 k)=some k:=by
 unfold qtu;have h1:=qtw (B:=10) (by omega) (by omega) k 0;rw[List.replicate_zero,zlJ] at h1;have h2:=qb0 (B:=10) (by omega) k;rw[h2] at h;simp only[h2,h,if_true,h1]
theorem qnk (d:List UInt8)(w:World):Calls prog 197 #[.string (str (47::d)),.string ⟨#[47]⟩] w fun e w'=>e=.returned (.tuple #[.string (str d),.bool true])/\w=w':=
 (Tryz.strings_CutPrefix _ _ w).mono fun e w' ⟨he,hw⟩=>⟨by
  rw[he];have h1:(str (47::d)).data.toList=47::d:=qac _;have h2:(ByteArray.mk #[47]).data.toList=[47]:=rfl;have h3:Lib.hasPrefix (47::d) [47]=true:=by unfold Lib.hasPrefix;simp
  unfold Lib.trimPrefix;rw[h1,h2,h3];rfl,hw.symm⟩
theorem cutp_no (s:ByteArray)(h:Lib.hasPrefix (bts s) [47]=false)(w:World):Calls prog 197 #[.string s,.string ⟨#[47]⟩] w fun e w'=>e=.returned (.tuple #[.string s,.bool false])/\w=w':=
 (Tryz.strings_CutPrefix _ _ w).mono fun e w' ⟨he,hw⟩=>⟨by
  rw[he];have h2:(ByteArray.mk #[47]).data.toList=[47]:=rfl;have h1:s.data.toList=bts s:=rfl;unfold Lib.trimPrefix;rw[h1,h2,h];show Ending.returned (.tuple #[.string (str (bts s)),.bool false])=_
  rw[qaw],hw.symm⟩
def pk (o:Option Nat):Int:=match o with|some k=>(k:Int)|none=>0
theorem perr_10 (d:List UInt8)(h:d.length<=15):(∃n,qcv 10 d=some n/\qcz d 10=0/\qxt d 10=(n:Int)/\n<1000000000000000000)∨(qcv 10 d=none/\qcz d 10≠0):=by
 by_cases h0:d.length=0
 ·right
  have:d=[]:=zli h0;subst this;exact⟨by decide+kernel,by decide+kernel⟩
 ·have hv:vb 10=true/\vw (d.length:Int)=true:=⟨rfl,qdx.2 (by omega)⟩;rcases hp:qcv 10 d with _|n
  ·right
   exact⟨rfl,by rw[(qwu hv hp).1];decide⟩
  ·left
   refine⟨n,rfl,(qhr hv hp).1,(qhr hv hp).2,?_⟩;have h1:=Qgk (B:=10) (by omega) n;have h2:=(qj1 (B:=10) (by omega) (by omega) hp).1;have h3:10^nd 10 n<=10^18:=Nat.pow_le_pow_right (by omega) (by omega);omega
theorem poff_any (s:ByteArray)(w:World)(hs:s.size<=140737488355328):
 Calls prog 150 #[.string s] w fun e w'=>e=.returned (.tuple #[.int .i64 (pk (qtu (bts s))),.bool (qtu (bts s)).isSome])/\Below w.heap.size w w':=by
 by_cases hp:Lib.hasPrefix (bts s) [47]=true
 ·obtain⟨d,hd⟩:∃d,bts s=47::d:=by
   unfold Lib.hasPrefix at hp;obtain⟨t,ht⟩:=List.isPrefixOf_iff_prefix.1 hp;exact⟨t,ht.symm⟩
  obtain rfl:s=str (47::d):=by rw[<-hd,qaw]
  rw[qat] at hs;have hs':d.length<=140737488355328:=by simp at hs;omega
  have hsz:(str d).size=d.length:=qat d;have Hsz:=hid hsz;rw[qac];clear hp hd hs hsz;by_cases h15:d.length<=15
  ·have hb15:¬(15<(str d).size):=by rw[Hsz.out];omega
   have hb15z:¬((15:Int)<((str d).size:Int)):=by omega
   rcases perr_10 d h15 with ⟨n,p1,p2,p3,p4⟩|⟨p1,p2⟩
   ·have hg:Hid (dgs (n:Int) 10=(nd 10 n:Int)):=hid (by unfold dgs;rw[if_pos ⟨by omega,rfl⟩];rfl);by_cases hn:nd 10 n=d.length
    ·have Hr:Hid (qtu (47::d)=some n):=hid (by unfold qtu;simp only[h15,if_true,p1,hn]);have hne:((nd 10 n:Int) !=((str d).size:Int))=false:=by rw[Hsz.out,hn];simp
     have HP:=hid (And.intro p2 p3);clear p1 p2 p3 hn;go_enter func150,ntmps150;go_wp2_with fail
     refine (qnk d _).mono ?_;rintro e w1 ⟨rfl,rfl⟩;go_wp2_with (refine qg2 _ d (by omega) w.heap.size zjn rfl _ rfl rfl ?_;intro v1 w1 hown1 hb1)
     obtain⟨A,c,rfl,hr,hc,_⟩:=hown1.reads;go_wp2_with fail
     refine (qfe _ A _ c d 10 _ hr hc).mono ?_;rintro e w2 ⟨rfl,rfl⟩;rw[HP.out.1,HP.out.2];go_wp2_with fail
     refine (qsb (n:Int) 10 (by omega) _).mono ?_;rintro e w2 ⟨rfl,rfl⟩;rw[hg.out];go_wp2_with fail
     go_ret2
     exact⟨by rw[Hr.out];rfl,hb1⟩
    ·have Hr:Hid (qtu (47::d)=none):=hid (by unfold qtu;simp only[h15,if_true,p1,hn,if_false]);have hne:((nd 10 n:Int) !=((str d).size:Int))=true:=by rw[Hsz.out];simp;omega
     have HP:=hid (And.intro p2 p3);clear p1 p2 p3 hn;go_enter func150,ntmps150;go_wp2_with fail
     refine (qnk d _).mono ?_;rintro e w1 ⟨rfl,rfl⟩;go_wp2_with (refine qg2 _ d (by omega) w.heap.size zjn rfl _ rfl rfl ?_;intro v1 w1 hown1 hb1)
     obtain⟨A,c,rfl,hr,hc,_⟩:=hown1.reads;go_wp2_with fail
     refine (qfe _ A _ c d 10 _ hr hc).mono ?_;rintro e w2 ⟨rfl,rfl⟩;rw[HP.out.1,HP.out.2];go_wp2_with fail
     refine (qsb (n:Int) 10 (by omega) _).mono ?_;rintro e w2 ⟨rfl,rfl⟩;rw[hg.out];go_wp2_with fail
     go_ret2
     exact⟨by rw[Hr.out];rfl,hb1⟩
   ·have Hr:Hid (qtu (47::d)=none):=hid (by unfold qtu;simp only[h15,if_true,p1]);have hne:(qcz d 10 !=0)=true:=by simpa using p2
    clear p1 p2;go_enter func150,ntmps150;go_wp2_with fail
    refine (qnk d _).mono ?_;rintro e w1 ⟨rfl,rfl⟩;go_wp2_with (refine qg2 _ d (by omega) w.heap.size zjn rfl _ rfl rfl ?_;intro v1 w1 hown1 hb1)
    obtain⟨A,c,rfl,hr,hc,_⟩:=hown1.reads;go_wp2_with fail
    refine (qfe _ A _ c d 10 _ hr hc).mono ?_;rintro e w2 ⟨rfl,rfl⟩;go_wp2_with fail
    go_ret2
    exact⟨by rw[Hr.out];rfl,hb1⟩
  ·have Hr:Hid (qtu (47::d)=none):=hid (by unfold qtu;simp only[h15,if_false]);have hb15:15<(str d).size:=by rw[Hsz.out];omega
   have hb15z:((15:Int)<((str d).size:Int)):=by omega
   go_enter func150,ntmps150;go_wp2_with fail
   refine (qnk d _).mono ?_;rintro e w1 ⟨rfl,rfl⟩;go_wp2_with fail
   go_ret2
   exact⟨by rw[Hr.out];rfl,Below.refl _ _⟩
 ·have hp':Lib.hasPrefix (bts s) [47]=false:=by simpa using hp
  have Hr:Hid (qtu (bts s)=none):=hid (by
   unfold qtu;split
   ·rename_i d e
    rw[e] at hp';unfold Lib.hasPrefix at hp';simp at hp'
   ·rfl)
  clear hp;go_enter func150,ntmps150;go_wp2_with fail
  refine (cutp_no s hp' _).mono ?_;rintro e w1 ⟨rfl,rfl⟩;go_wp2_with fail
  go_ret2
  exact⟨by rw[Hr.out];rfl,Below.refl _ _⟩
def qhb (f:List UInt8):Option ByteArray:=if Lib.hasSuffix f [47]=true/\sht (Lib.trimSuffix f [47])=true then some (str (Lib.trimSuffix f [47])) else none
def qdr (f l:List UInt8):Option ByteArray:=match qtu f with|some k=>if beg l k=true/\first (l.drop k)≠[] then some (str (first (l.drop k))) else none|none=>none
def qj0 (f l:List UInt8):Option ByteArray:=match qhb f with|some n=>some n|none=>qdr f l
def rs (o:Option ByteArray):ByteArray:=match o with|some s=>s|none=>⟨#[]⟩
def re (o:Option ByteArray):Int:=match o with|some _=>0|none=>6
theorem qew (s:ByteArray)(w:World)(hs:s.size<=140737488355328):
 Calls prog 147 #[.string s,.string ⟨#[47]⟩] w fun e w'=>e=.returned (.tuple #[.string (str (Lib.trimSuffix (bts s) [47])),.bool (Lib.hasSuffix (bts s) [47])])/\w=w':=
 (Tryz.strings_CutSuffix _ _ w (by omega)).mono fun e w' ⟨he,hw⟩=>⟨he,hw.symm⟩
theorem qwq (s:ByteArray):(str (Lib.trimSuffix (bts s) [47])).size<=s.size:=by
 rw[qat];unfold Lib.trimSuffix;split
 ·rw[zlu,qa2];omega
 ·rw[qa2];omega
theorem Qgi (s:ByteArray)(w:World)(hs:s.size<=140737488355328):
 Calls prog 149 #[.string s] w fun e w'=>e=.returned (.string s)/\Below w.heap.size w w':=by
 go_enter func149,ntmps149;go_wp2_with (go_at_call 196;refine (Tryz.stringslite_Clone _ _ (by omega)).mono ?_;rintro e w' ⟨rfl,hw⟩)
 go_ret
 exact⟨rfl,hw⟩
theorem qtv (s:ByteArray)(v:Value)(w:World)(hs:s.size<=140737488355328)(h1:Lib.hasSuffix (bts s) [47]=true)(h2:sht (Lib.trimSuffix (bts s) [47])=true):
 Calls prog 105 #[.string s,v] w fun e w'=>e=.returned (.tuple #[.string (str (Lib.trimSuffix (bts s) [47])),.int .i64 0])/\Below w.heap.size w w':=by
 have ht:=qwq s;go_enter func105,ntmps105;go_wp2_with fail
 refine (qew s _ hs).mono ?_;rintro e w1 ⟨rfl,rfl⟩;rw[h1];go_wp2_with fail
 refine (qfn _ _ (by omega)).mono ?_;rintro e w1 ⟨rfl,hb1⟩;rw[qac,h2];go_wp2_with fail
 refine (Qgi _ _ (by omega)).mono ?_;rintro e w2 ⟨rfl,hb2⟩;go_wp2_with fail
 go_ret2
 exact⟨rfl,hb1.trans (hb2.mono hb1.size)⟩
theorem qwr (K:Nat)(A:Option Addr)(n c:Nat)(l:List UInt8)(s:ByteArray)(w:World)(hg:Gnd w)(hr:Rd w K A n l)(hK:K<=w.heap.size)(hc:n<=c)(hn:n<4294967281)(hs:s.size<=140737488355328)
 (h1:Lib.hasSuffix (bts s) [47]=false∨(Lib.hasSuffix (bts s) [47]=true/\sht (Lib.trimSuffix (bts s) [47])=false)):
 Calls prog 105 #[.string s,.slice A n c] w fun e w'=>e=.returned (.tuple #[.string (rs (qdr (bts s) l)),.int .i64 (re (qdr (bts s) l))])/\Below w.heap.size w w':=by
 have ht:=qwq s;have hl:=hr.1;have Hp:=hid fun w'=>poff_any s w' hs;rcases hp:qtu (bts s) with _|k
 ·have Hr:Hid (qdr (bts s) l=none):=hid (by unfold qdr;rw[hp]);rw[hp] at Hp;clear hp;rcases h1 with h1|⟨h1,h2⟩
  ·go_enter func105,ntmps105;go_wp2_with fail
   refine (qew s _ hs).mono ?_;rintro e w1 ⟨rfl,rfl⟩;rw[h1];go_wp2_with fail
   refine (Hp.out _).mono ?_;rintro e w2 ⟨rfl,hb2⟩;go_wp2_with fail
   go_ret2
   exact⟨by rw[Hr.out];rfl,hb2⟩
  ·go_enter func105,ntmps105;go_wp2_with fail
   refine (qew s _ hs).mono ?_;rintro e w1 ⟨rfl,rfl⟩;rw[h1];go_wp2_with fail
   refine (qfn _ _ (by omega)).mono ?_;rintro e w1 ⟨rfl,hb1⟩;rw[qac,h2];go_wp2_with fail
   refine (Hp.out _).mono ?_;rintro e w2 ⟨rfl,hb2⟩;go_wp2_with fail
   go_ret2
   exact⟨by rw[Hr.out];rfl,hb1.trans (hb2.mono hb1.size)⟩
 ·have hk:=(qwp hp).2
  have hk2:k<1000000000000000:=by
   have h3:=Qgk (B:=10) (by omega) k;rw[qb0 (by omega)] at hk;have h4:10^nd 10 k<=10^15:=Nat.pow_le_pow_right (by omega) hk;omega
  rw[hp,show pk (some k)=(k:Int) from rfl,show (some k).isSome=true from rfl] at Hp;have Hbg:=hid fun w' (hr':Rd w' K A n l)=>Qcd K A n c l k w' hr' hc (by omega);cases hbg:beg l k
  ·have Hr:Hid (qdr (bts s) l=none):=hid (by unfold qdr;rw[hp];simp only;rw[if_neg (by rw[hbg];simp)]);rw[hbg] at Hbg;clear hp hbg hk hl;rcases h1 with h1|⟨h1,h2⟩
   ·go_enter func105,ntmps105;go_wp2_with fail
    refine (qew s _ hs).mono ?_;rintro e w1 ⟨rfl,rfl⟩;rw[h1];go_wp2_with fail
    refine (Hp.out _).mono ?_;rintro e w2 ⟨rfl,hb2⟩;go_wp2_with fail
    refine (Hbg.out _ (hr.below (hb2.mono hK))).mono ?_;rintro e w3 ⟨rfl,rfl⟩;go_wp2_with fail
    go_ret2
    exact⟨by rw[Hr.out];rfl,hb2⟩
   ·go_enter func105,ntmps105;go_wp2_with fail
    refine (qew s _ hs).mono ?_;rintro e w1 ⟨rfl,rfl⟩;rw[h1];go_wp2_with fail
    refine (qfn _ _ (by omega)).mono ?_;rintro e w1 ⟨rfl,hb1⟩;rw[qac,h2];go_wp2_with fail
    refine (Hp.out _).mono ?_;rintro e w2 ⟨rfl,hb2⟩;have hb12:=hb1.trans (hb2.mono hb1.size);clear hb1 hb2;go_wp2_with fail
    refine (Hbg.out _ (hr.below (hb12.mono hK))).mono ?_;rintro e w3 ⟨rfl,rfl⟩;go_wp2_with fail
    go_ret2
    exact⟨by rw[Hr.out];rfl,hb12⟩
  ·have hkn:k<n:=by
    unfold beg at hbg;simp at hbg;omega
   obtain⟨b,o,rfl⟩:∃b o:Nat,A=some ⟨b,o,none⟩:=by
    obtain⟨b,o,e,_,_⟩:=hr.2 0 (by omega);exact⟨b,o,e⟩
   have Hfirst:=hid fun w' (hg':Gnd w') (hr':Rd w' K (some ⟨b,o,none⟩) n l) (hK':K<=w'.heap.size)=>qwn K (some ⟨b,o+k,none⟩) (n-k) (c-k) (l.drop k) w' hg' (hr'.cut k) hK' (by omega) (by omega) (by omega);have hck:¬c=k:=by omega
   have had:(⟨b,o,none⟩:Addr).add k=⟨b,o+k,none⟩:=by unfold Addr.add;split<;>simp_all
   rw[hbg] at Hbg;have Had:=hid had;by_cases hf:first (l.drop k)=[]
   ·have Hr:Hid (qdr (bts s) l=none):=hid (by unfold qdr;rw[hp];simp only;rw[if_neg (fun h=>h.2 hf)]);rw[hf,show str []=⟨#[]⟩ from rfl] at Hfirst;clear hp hbg hk hl hf had;rcases h1 with h1|⟨h1,h2⟩
    ·go_enter func105,ntmps105;go_wp2_with fail
     refine (qew s _ hs).mono ?_;rintro e w1 ⟨rfl,rfl⟩;rw[h1];go_wp2_with fail
     refine (Hp.out _).mono ?_;rintro e w2 ⟨rfl,hb2⟩;go_wp2_with fail
     refine (Hbg.out _ (hr.below (hb2.mono hK))).mono ?_;rintro e w3 ⟨rfl,rfl⟩;go_wp2_with fail
     refine (Hfirst.out _ (hg.on hb2) (hr.below (hb2.mono hK)) (Nat.le_trans hK hb2.size)).mono ?_;rintro e w3 ⟨rfl,hb3⟩;have Hb:=hid (hb2.trans (hb3.mono hb2.size));clear hb2 hb3;go_wp2_with fail
     go_ret2
     exact⟨by rw[Hr.out];rfl,Hb.out⟩
    ·go_enter func105,ntmps105;go_wp2_with fail
     refine (qew s _ hs).mono ?_;rintro e w1 ⟨rfl,rfl⟩;rw[h1];go_wp2_with fail
     refine (qfn _ _ (by omega)).mono ?_;rintro e w1 ⟨rfl,hb1⟩;rw[qac,h2];go_wp2_with fail
     refine (Hp.out _).mono ?_;rintro e w2 ⟨rfl,hb2'⟩;have hb2:=hb1.trans (hb2'.mono hb1.size);clear hb1 hb2';go_wp2_with fail
     refine (Hbg.out _ (hr.below (hb2.mono hK))).mono ?_;rintro e w3 ⟨rfl,rfl⟩;go_wp2_with fail
     refine (Hfirst.out _ (hg.on hb2) (hr.below (hb2.mono hK)) (Nat.le_trans hK hb2.size)).mono ?_;rintro e w3 ⟨rfl,hb3⟩;have Hb:=hid (hb2.trans (hb3.mono hb2.size));clear hb2 hb3;go_wp2_with fail
     go_ret2
     exact⟨by rw[Hr.out];rfl,Hb.out⟩
   ·have Hr:Hid (qdr (bts s) l=some (str (first (l.drop k)))):=hid (by unfold qdr;rw[hp];simp only;rw[if_pos ⟨hbg,hf⟩])
    have hne:(str (first (l.drop k))).toList=[]->False:=by
     intro h;apply hf;rw[<-qac (first (l.drop k))];have h2:(str (first (l.drop k))).size=0:=by rw[Lib.size_eq,<-Lib.toList_data,h];rfl
     exact zli (by rw[qa2];exact h2)
    have hne1:((str (first (l.drop k))).toList==[])=false:=by rw[zls];exact hne
    have hne2:(str (first (l.drop k))).toList.isEmpty=false:=by
     cases h:(str (first (l.drop k))).toList
     ·exact absurd h hne
     ·rfl
    clear hp hbg hk hl hf had hne;generalize str (first (l.drop k))=F at *;rcases h1 with h1|⟨h1,h2⟩
    ·go_enter func105,ntmps105;go_wp2_with fail
     refine (qew s _ hs).mono ?_;rintro e w1 ⟨rfl,rfl⟩;rw[h1];go_wp2_with fail
     refine (Hp.out _).mono ?_;rintro e w2 ⟨rfl,hb2⟩;go_wp2_with fail
     refine (Hbg.out _ (hr.below (hb2.mono hK))).mono ?_;rintro e w3 ⟨rfl,rfl⟩;go_wp2_with fail
     refine (Hfirst.out _ (hg.on hb2) (hr.below (hb2.mono hK)) (Nat.le_trans hK hb2.size)).mono ?_;rintro e w3 ⟨rfl,hb3⟩;have Hb:=hid (hb2.trans (hb3.mono hb2.size));clear hb2 hb3;go_wp2_with fail
     go_ret2
     exact⟨by rw[Hr.out];rfl,Hb.out⟩
    ·go_enter func105,ntmps105;go_wp2_with fail
     refine (qew s _ hs).mono ?_;rintro e w1 ⟨rfl,rfl⟩;rw[h1];go_wp2_with fail
     refine (qfn _ _ (by omega)).mono ?_;rintro e w1 ⟨rfl,hb1⟩;rw[qac,h2];go_wp2_with fail
     refine (Hp.out _).mono ?_;rintro e w2 ⟨rfl,hb2'⟩;have hb2:=hb1.trans (hb2'.mono hb1.size);clear hb1 hb2';go_wp2_with fail
     refine (Hbg.out _ (hr.below (hb2.mono hK))).mono ?_;rintro e w3 ⟨rfl,rfl⟩;go_wp2_with fail
     refine (Hfirst.out _ (hg.on hb2) (hr.below (hb2.mono hK)) (Nat.le_trans hK hb2.size)).mono ?_;rintro e w3 ⟨rfl,hb3⟩;have Hb:=hid (hb2.trans (hb3.mono hb2.size));clear hb2 hb3;go_wp2_with fail
     go_ret2
     exact⟨by rw[Hr.out];rfl,Hb.out⟩
theorem qqp (K:Nat)(A:Option Addr)(n c:Nat)(l:List UInt8)(s:ByteArray)(w:World)(hg:Gnd w)(hr:Rd w K A n l)(hK:K<=w.heap.size)(hc:n<=c)(hn:n<4294967281)(hs:s.size<=140737488355328):
 Calls prog 105 #[.string s,.slice A n c] w fun e w'=>e=.returned (.tuple #[.string (rs (qj0 (bts s) l)),.int .i64 (re (qj0 (bts s) l))])/\Below w.heap.size w w':=by
 by_cases h:Lib.hasSuffix (bts s) [47]=true/\sht (Lib.trimSuffix (bts s) [47])=true
 ·have e:qj0 (bts s) l=some (str (Lib.trimSuffix (bts s) [47])):=by unfold qj0 qhb;rw[if_pos h]
  rw[e];exact qtv s _ w hs h.1 h.2
 ·have e:qj0 (bts s) l=qdr (bts s) l:=by unfold qj0 qhb;rw[if_neg h]
  rw[e];refine qwr K A n c l s w hg hr hK hc hn hs ?_;cases h1:Lib.hasSuffix (bts s) [47]
  ·exact .inl rfl
  ·right
   refine⟨rfl,?_⟩;cases h2:sht (Lib.trimSuffix (bts s) [47])
   ·rfl
   ·exact absurd ⟨h1,h2⟩ h
end JN
end Go.Proofs.YtlmolmohhpdhdaaGreatDoor
