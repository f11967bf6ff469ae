/-
  The reference of longname: Table, Build, Texts, Few. The
-/
import Derived.Test.YtlmolmohhpdhdaaGreatDoorYLnf
set_option maxRecDepth 100000
set_option maxHeartbeats 16000000
set_option linter.all false
namespace Go.Proofs.YtlmolmohhpdhdaaGreatDoor
open Go.RowKit Go.Proofs Tryz
namespace JN
open JB JU JD
theorem Qg6 {ns:List ByteArray}{m:Nat}(h:∀s∈ns,s.size<=1000)(hm:ns.length<=m):(tab ns).length<=m * 1002:=
 Nat.le_trans (qmg ns 1000 h) (Nat.mul_le_mul_right 1002 hm)
theorem qix (K:Nat)(A:Option Addr)(n c:Nat)(ns:List ByteArray)(w:World)(hr:JS.Rd w K A n ns)(hK:K<=w.heap.size)(hn:n<=200000)(hs:∀s∈ns,s.size<=1000):
 Calls prog 134 #[.slice A n c] w fun e w'=>∃v,e=.returned v/\JB.Own w' w.heap.size v (tab ns).length (tab ns)/\Below w.heap.size w w':=by
 have hl:=hr.1;have Hl:=hid hl;clear hl;go_enter func134,ntmps134;go_wp2_with fail
 go_loopw [3,4] (fun v i W=>∃k:Nat,i=.int .i64 (k:Int)/\k<=n/\JB.Own W w.heap.size v (tab (ns.take k)).length (tab (ns.take k))/\Below w.heap.size w W) (fun _ i _=>n-(intOf i).toNat)
 case atStart=>exact⟨0,rfl,by omega,JB.Own.nil _ _,Below.refl _ _⟩
 case round=>
  obtain⟨k,rfl,hk,ho,hb⟩:=hrel;by_cases hlt:k<n
  ·have hkl:k<ns.length:=by have:=Hl.out;omega
   obtain⟨b,o,rfl,hbK,hcell⟩:=hr.2 k hkl;obtain⟨s,hss⟩:∃s,ns[k]=s:=⟨_,rfl⟩;have hsz:=hs _ (zlq hkl);have Hat:Hid (ns[k]?=some s):=hid (by rw[zlh hkl,hss]);rw[hss] at hsz;have hcell':wr.cell? ⟨b,o+k,none⟩=some (.string s):=by rw[hb.cell (p:=⟨b,o+k,none⟩) (by show b<_;omega),hcell,hss]
   clear hss hcell;have hll:=Qg6 (ns:=ns.take k) (m:=k) (fun s hs'=>hs s (List.mem_of_mem_take hs')) (by rw[zlu];omega);have Htk:Hid (tab (ns.take (k+1))=tab (ns.take k)++s.data.toList++[47,10]):=hid (by rw[qd5 Hat.out,qtr,zln];rfl);generalize ns.take k=T at *;have Hb:=hid hb;have Ho:=hid ho;clear hb ho
   go_wp2_with (first
    |(at_builtin;refine qe8 _ w.heap.size _ _ _ Ho.out Hb.out.size s (by omega) rfl (.tmp 11) (.tmp 15) rfl rfl rfl ?_;intro v4 w4 ho4 hb4 _;have hb04:=Hb.out.trans hb4)
    |(at_builtin;refine qah _ w.heap.size _ _ _ (ho4.alloc _) (by simp;have:=hb04.size;omega) (some ⟨w4.heap.size,0,none⟩) 2 2 (w4.heap.size+1) [47,10] (Rd.lit w4 [47,10] _ rfl 2 rfl) (by omega) rfl (.tmp 16) (.tmp 17) rfl rfl rfl ?_;intro v5 w5 ho5 hb5))
   go_roundw
   case rel=>
    refine⟨k+1,by go_num,by omega,?_,hb04.trans (((Below.refl _ w4).alloc hb04.size _).trans hb5)⟩;rw[Htk.out]
    have e:(tab T++s.data.toList++[47,10]).length=(tab T).length+s.size+2:=by
     rw[zlb,zlb];have:=qa2 s;unfold bts at this;rw[this];rfl
    rw[e];exact ho5
   case measure=>simp[intOf];omega
  ·obtain rfl:k=n:=by omega
   have hfull:ns.take k=ns:=qds Hl.out;rw[hfull] at ho;clear hfull;go_wp2_with fail
   go_ret
   exact⟨_,rfl,ho,hb⟩
theorem qwc {ns:List ByteArray}{s:ByteArray}(h:s∈qam ns):s∈ns:=(List.mem_filter.1 h).1
theorem Qc7 (K:Nat)(A:Option Addr)(n c:Nat)(ns:List ByteArray)(w:World)(hr:JS.Rd w K A n ns)(hK:K<=w.heap.size)(hn:n<=202)(hs:∀s∈ns,s.size<=1000):
 Calls prog 98 #[.slice A n c] w (qs7 ns w):=by
 have hl:=hr.1
 have Hbad:Hid (qeu ns=false->∀w',Below w.heap.size w w'->qs7 ns w (.returned (.tuple #[.slice none 0 0,.slice none 0 0,.int .i64 6])) w'):=hid fun h w' hb=>by
  have h1:bo ns=[]:=if_neg (by rw[h];simp);have h2:fo ns=[]:=if_neg (by rw[h];simp);have h3:be ns=6:=if_neg (by rw[h];simp);refine⟨_,_,by rw[h3],?_,?_,hb⟩
  ·rw[h1];exact JB.Own.nil _ _
  ·rw[h2];exact JS.Own.nil _ _
 have Hgood:Hid (qeu ns=true->∀v f w',JB.Own w' w.heap.size v (tab (qam ns)).length (tab (qam ns))->JS.Own w' w.heap.size f n (qj7 [] ns)->Below w.heap.size w w'->qs7 ns w (.returned (.tuple #[v,f,.int .i64 0])) w'):=hid fun h v f w' o1 o2 hb=>by
  have h1:bo ns=tab (qam ns):=if_pos h;have h2:fo ns=qj7 [] ns:=if_pos h;have h3:be ns=0:=if_pos h;refine⟨v,f,by rw[h3],by rw[h1];exact o1,?_,hb⟩;rw[h2,qe2,hl];exact o2
 have Hl:=hid hl;clear hl;go_enter func98,ntmps98;go_wp2_with fail
 go_loopw [5,6,7] (fun v f i W=>∃k:Nat,i=.int .i64 (k:Int)/\k<=n/\qeu (ns.take k)=true/\JS.Own W w.heap.size v (qam (ns.take k)).length (qam (ns.take k))/\JS.Own W w.heap.size f k (qj7 [] (ns.take k))/\JS.qe0 v f/\Below w.heap.size w W) (fun _ _ i _=>n-(intOf i).toNat)
 case atStart=>exact⟨0,rfl,by omega,by simp[qeu],JS.Own.nil _ _,JS.Own.nil _ _,JS.qe0.nil _ _ _,Below.refl _ _⟩
 case round=>
  obtain⟨k,rfl,hk,hv,ho,hf,hap,hb⟩:=hrel;by_cases hlt:k<n
  ·have hkl:k<ns.length:=by have:=Hl.out;omega
   obtain⟨b,o,rfl,hbK,hcell⟩:=hr.2 k hkl;obtain⟨s,hss⟩:∃s,ns[k]=s:=⟨_,rfl⟩;have hsz:=hs _ (zlq hkl);have Hat:Hid (ns[k]?=some s):=hid (by rw[zlh hkl,hss]);rw[hss] at hsz;have hcellx:∀w',Below w.heap.size w w'->w'.cell? ⟨b,o+k,none⟩=some (.string s):=fun w' hb'=>by rw[hb'.cell (p:=⟨b,o+k,none⟩) (by show b<_;omega),hcell,hss]
   have Hcell:=hid hcellx;clear hss hcell hcellx;have hcell1:=Hcell.out _ hb;have hll:=qh8 (k:=k) hv (by rw[zlu];omega);have hlen:=qqd (ns.take k);have htl:(ns.take k).length<=k:=by rw[zlu];omega
   have hsT:∀s∈qam (ns.take k),s.size<=1000:=fun s hs'=>hs s (List.mem_of_mem_take (qwc hs'));have HsT:=hid hsT;clear hsT;generalize hT:ns.take k=T at *;have HT:=hid hT;clear hT;have Hv:=hid hv;have Hb:=hid hb;have Ho:=hid ho;have Hf:=hid hf;have Hap:=hid hap;clear hv hb ho hf hap;have hbl:=Hb.out.size;cases hvs:vld (bts s)
   ·have Hno:=hid (Qgc Hat.out hvs);go_wp2_with fail
    refine (qf0 s _ (by omega)).mono ?_;rintro e w1 ⟨rfl,m1,rfl⟩;rw[hvs];have Hb1:=hid (Hb.out.trans (qa0 _ m1));go_wp2_with fail
    go_ret3
    exact Hbad.out Hno.out _ Hb1.out
   ·have Hvn:Hid (qeu (ns.take (k+1))=true):=hid (by rw[qd5 Hat.out,HT.out];exact qqe Hv.out hvs);have Hfk:Hid (qj7 [] (ns.take (k+1))=qj7 [] T++[fld T s]):=hid (by rw[qd5 Hat.out,HT.out,qqh]);cases hsh:sht (bts s)
    ·have Hfl:=hid (Qab (a:=T) hsh);have Hlk:Hid (qam (ns.take (k+1))=qam T++[s]):=hid (by rw[qd5 Hat.out,HT.out,qs8 hsh]);obtain⟨A1,c1,hv1,hrd1,hc1,_⟩:=Ho.out.reads;subst hv1;go_wp2_with fail
     refine (qf0 s _ (by omega)).mono ?_;rintro e w1 ⟨rfl,m1,rfl⟩;rw[hvs];have hcell2:=Hcell.out _ (Hb.out.trans (qa0 _ m1));go_wp2_with fail
     refine (qiy s _ (by omega)).mono ?_;rintro e w2 ⟨rfl,m2,rfl⟩;rw[hsh];have hb2:=(Hb.out.trans (qa0 _ m1)).trans (qa0 (wr.drewN m1) m2);have ho2:=(Ho.out.drewN m1).drewN m2;have hf2:=(Hf.out.drewN m1).drewN m2;have hrd2:=(hrd1.drewN m1).drewN m2;have hK2:wr.heap.size<=((wr.drewN m1).drewN m2).heap.size:=Nat.le_refl _;generalize (wr.drewN m1).drewN m2=w2 at *;have Hit:Hid (∀w',Calls prog 18 #[.int .i64 ((tab (qam T)).length:Int),.int .i64 10] w' fun e w''=>e=.returned (.string (str (tx 10 (tab (qam T)).length)))/\∃m,w''=w'.drewN m):=hid fun w'=>qhf 10 rfl (tab (qam T)).length (by omega) w'
     have hD:(str (tx 10 (tab (qam T)).length)).size<=64:=by
      rw[qat,qb0 (by omega)];exact Nat.le_trans (qex (by omega) (by omega)) (by omega)
     generalize str (tx 10 (tab (qam T)).length)=D at *;go_wp2_with fail
     refine (qix wr.heap.size A1 _ c1 (qam T) w2 hrd2 hK2 (by omega) HsT.out).mono ?_;rintro e w3 ⟨v3,rfl,ho3,hb3⟩;obtain⟨A3,c3,rfl,_,_⟩:=ho3.reads;have hb03:=hb2.trans (hb3.mono hb2.size);have hl3:=ho2.below hb3;have hf3:=hf2.below hb3;clear ho3 hb3 hb2 ho2 hf2 hrd2 hrd1;go_wp2_with fail
     refine (Hit.out _).mono ?_;rintro e w4 ⟨rfl,m4,rfl⟩;have hb04:=hb03.trans (qa0 w3 m4);have hl4:=hl3.drewN m4;have hf4:=hf3.drewN m4;clear hb03 hl3 hf3;generalize w3.drewN m4=w4 at *
     go_wp2_with (first
      |(at_builtin;refine JS.qa4 _ w.heap.size _ _ _ _ hf4 hb04.size (by omega) rfl (.tmp 33) (.tmp 39) rfl rfl rfl ?_;intro f5 w5 hf5 hb45 _ hr45;have hb05:=hb04.trans hb45;have hcell5:=Hcell.out _ hb05;have hl5:=hl4.fr hr45 Hap.out;have hap5:=(Hap.out.fr hl4 hr45).symm)
      |(at_builtin;refine JS.qa4 _ w.heap.size _ _ _ _ hl5 hb05.size (by omega) rfl (.tmp 41) (.tmp 46) rfl rfl rfl ?_;intro v6 w6 hl6 hb56 _ hr56))
     go_roundw
     case rel=>
      refine⟨k+1,by go_num,by omega,Hvn.out,?_,?_,(hap5.fr hf5 hr56).symm,hb05.trans hb56⟩
      ·rw[Hlk.out,zlb];exact hl6
      ·rw[Hfk.out,<-Hfl.out];exact hf5.fr hr56 hap5
     case measure=>simp[intOf];omega
    ·have Hfl:=hid (qwf (a:=T) hsh);have Hlk:Hid (qam (ns.take (k+1))=qam T):=hid (by rw[qd5 Hat.out,HT.out,qqf hsh]);go_wp2_with fail
     refine (qf0 s _ (by omega)).mono ?_;rintro e w1 ⟨rfl,m1,rfl⟩;rw[hvs];have hcell2:=Hcell.out _ (Hb.out.trans (qa0 _ m1));go_wp2_with fail
     refine (qiy s _ (by omega)).mono ?_;rintro e w2 ⟨rfl,m2,rfl⟩;rw[hsh];have hb2:=(Hb.out.trans (qa0 _ m1)).trans (qa0 (wr.drewN m1) m2);have ho2:=(Ho.out.drewN m1).drewN m2;have hf2:=(Hf.out.drewN m1).drewN m2;have hcell3:=Hcell.out _ hb2;generalize (wr.drewN m1).drewN m2=w2 at *;go_wp2_with (at_builtin;refine JS.qa4 _ w.heap.size _ _ _ _ hf2 hb2.size (by omega) rfl (.tmp 25) (.tmp 31) rfl rfl rfl ?_;intro f4 w4 hf4 hb24 _ hr24)
     go_roundw
     case rel=>
      refine⟨k+1,by go_num,by omega,Hvn.out,?_,?_,Hap.out.fr ho2 hr24,hb2.trans hb24⟩
      ·rw[Hlk.out];exact ho2.fr hr24 Hap.out
      ·rw[Hfk.out,<-Hfl.out];exact hf4
     case measure=>simp[intOf];omega
  ·obtain rfl:k=n:=by omega
   have hfull:ns.take k=ns:=qds Hl.out;rw[hfull] at hv ho hf;have Hfin:=hid (Hgood.out hv);have hll:=qqd ns;have hl:=Hl.out;obtain⟨A1,c1,rfl,hrd1,hc1,_⟩:=ho.reads;have HsT:Hid (∀s∈qam ns,s.size<=1000):=hid fun s hs'=>hs s (qwc hs');have Hf:=hid hf;have Hrd:=hid hrd1;have h100:(qam ns).length<=2000:=by omega
   clear hv hfull hl ho hf hap hrd1;go_wp2_with fail
   refine (qix wr.heap.size A1 _ c1 (qam ns) wr Hrd.out zjn (Nat.le_trans h100 (by omega)) HsT.out).mono ?_;rintro e w3 ⟨v3,rfl,ho3,hb3⟩;have hf3:=Hf.out.below hb3;have hbb:=hb.trans (hb3.mono hb.size);have hbs:=hb.size;go_wp2_with fail
   go_ret3
   exact Hfin.out _ _ _ (ho3.more hbs) hf3 hbb
theorem qdk {u v:ByteArray}:(u.toList=v.toList)↔u=v:=by
 constructor
 ·intro h;rw[Lib.toList_data,Lib.toList_data] at h;exact qyd h
 ·exact fun h=>by rw[h]
def eqs (xs ys:List ByteArray):Bool:=xs.map bts==ys.map bts
theorem qib {xs ys:List ByteArray}:eqs xs ys=true↔xs=ys:=by
 unfold eqs;rw[beq_iff_eq];constructor
 ·intro h;have h2:=congrArg (List.map str) h;rw[List.map_map,List.map_map] at h2;have e:(str∘bts)=id:=funext fun s=>qaw s;rw[e,List.map_id,List.map_id] at h2;exact h2
 ·exact fun h=>by rw[h]
theorem eqs_no {xs ys:List ByteArray}(h:xs≠ys):eqs xs ys=false:=by
 cases e:eqs xs ys
 ·rfl
 ·exact absurd (qib.1 e) h
theorem qgk (K K':Nat)(A A':Option Addr)(n c n' c':Nat)(xs ys:List ByteArray)(w:World)(h:JS.Rd w K A n xs)(h':JS.Rd w K' A' n' ys)(hn:n<=140737488355328):
 Calls prog 13 #[.slice A n c,.slice A' n' c'] w fun e w'=>e=.returned (.bool (eqs xs ys))/\∃m,w'=w.drewN m:=by
 by_cases hl:n=n'
 ·subst hl;have hne:((n:Int) !=(n:Int))=false:=by simp
  go_enter func13,ntmps13;go_wp2
  go_loopw [5] (fun i W=>∃k m:Nat,i=.int .i64 (k:Int)/\k<=n/\xs.take k=ys.take k/\W=w.drewN m) (fun i _=>n-(intOf i).toNat)
  case atStart=>exact⟨0,0,rfl,by omega,by simp,rfl⟩
  case round=>
   obtain⟨k,m,rfl,hk,hs,rfl⟩:=hrel;have Hs:=hid hs;clear hs;by_cases hlt:k<n
   ·obtain⟨b,o,rfl,hbK,hcell⟩:=h.2 k (by have:=h.1;omega);obtain⟨b',o',rfl,hbK',hcell'⟩:=h'.2 k (by have:=h'.1;omega);have hkl:k<xs.length:=by have:=h.1;omega
    have hkl':k<ys.length:=by have:=h'.1;omega
    have hne2:Hid (xs[k]≠ys[k]->eqs xs ys=false):=hid (by
     intro hne;refine eqs_no ?_;rintro rfl;exact hne rfl)
    have hone:Hid (xs[k]=ys[k]->xs.take (k+1)=ys.take (k+1)):=hid (by
     intro he;rw[zlg hkl,zlg hkl',Hs.out,he])
    clear Hs hne;generalize xs[k]=u at *;generalize ys[k]=v at *;by_cases hu:u=v
    ·have Hr:=hid (hone.out hu);subst hu;clear hone hne2;go_wp2
     go_region
     all_goals go_wp2
     all_goals go_roundw
     case rel=>exact⟨k+1,m+1,by go_num,by omega,Hr.out,rfl⟩
     case measure=>simp[intOf];omega
    ·have hu3:(u.toList==v.toList)=false:=by rw[zls];exact fun e=>hu (qdk.1 e)
     have hu4:(u.toList !=v.toList)=true:=by rw[bne_iff_ne];exact fun e=>hu (qdk.1 e)
     have Hr:=hid (hne2.out hu);clear hone hne2 hu;go_wp2
     go_region
     all_goals go_wp2
     all_goals go_ret
     all_goals exact⟨qa1 Hr.out.symm,_,rfl⟩
   ·obtain rfl:k=n:=by omega
    have hfull:Hid ((eqs xs ys)=true):=hid (by
     have:=Hs.out;rw[qds h.1,qds h'.1] at this;exact qib.2 this)
    clear Hs;go_wp2
    go_ret
    exact⟨qa1 hfull.out.symm,_,rfl⟩
 ·have hne:((n:Int) !=(n':Int))=true:=by simp;omega
  have hfull:Hid ((eqs xs ys)=false):=hid (by
   refine eqs_no ?_;rintro rfl;exact hl (h.1.symm.trans h'.1))
  go_enter func13,ntmps13;go_wp2
  go_ret
  exact⟨qa1 hfull.out.symm,0,rfl⟩
def few (ns:List ByteArray):Bool:=decide (ns.length<=40)&&ns.all fun s=>decide (s.size<=300)
def NoLf (l:List UInt8)(f i:Nat):Prop:=∀j,f<=j->j<i->l[j]?≠some 10
theorem qs6 {r:List UInt8}(h0:r≠[])(hg:good r=true):∃n rest,r=bts n++([47,10]++rest)/\vld (bts n)=true:=by
 obtain⟨h1,h2⟩:=qqk hg
 cases hs:seq r with
 |nil=>rw[hs] at h1;exact absurd h1 h0
 |cons n t=>
  rw[hs] at h1 h2;obtain⟨v1,_⟩:=qh9.1 (show qeu ([n]++t)=true from h2);exact⟨n,tab t,h1,qb7.1 v1 n (by simp)⟩
theorem qwd {l:List UInt8}{out:List ByteArray}{f:Nat}(ho:qeu out=true)(hf:l.take f=tab out):good l=good (l.drop f):=by
 conv=>lhs;rw[<-List.take_append_drop f l,hf]
 exact Qac ho _
theorem qqb {l:List UInt8}{out:List ByteArray}{f i:Nat}(ho:qeu out=true)(hf:l.take f=tab out)(hfi:f<=i)(hi:l[i]?=some 10)(hno:NoLf l f i)(hg:good l=true):
 f<i/\l[i-1]?=some 47/\vld ((l.drop f).take (i-1-f))=true:=by
 rw[qwd ho hf] at hg;have hil:=(zlv.1 hi).1;have h0:l.drop f≠[]:=fun e=>by have:=congrArg List.length e;rw[zlm] at this;simp at this;omega
 obtain⟨n,rest,hr,hv⟩:=qs6 h0 hg;have hat:∀j,f<=j->l[j]?=(bts n++([47,10]++rest))[j-f]?:=fun j hj=>by rw[<-hr,List.getElem?_drop];congr 1;omega
 have h10:l[f+(bts n).length+1]?=some 10:=by
  rw[hat _ (by omega),show f+(bts n).length+1-f=(bts n).length+1 by omega,zlC (by omega)];simp
 have h47:l[f+(bts n).length]?=some 47:=by
  rw[hat _ (by omega),show f+(bts n).length-f=(bts n).length by omega,zlC (by omega)];simp
 have hi2:i=f+(bts n).length+1:=by
  rcases Nat.lt_trichotomy i (f+(bts n).length+1) with h|h|h
  ·rw[hat i hfi] at hi;by_cases hq:i-f<(bts n).length
   ·rw[List.getElem?_append_left hq,zlh hq] at hi;injection hi with hi;exact absurd hi (qwg hv (zlq hq)).2.1
   ·rw[show i-f=(bts n).length by omega,zlC (by omega)] at hi;simp at hi
  ·exact h
  ·exact absurd h10 (hno _ (by omega) h)
 subst hi2;refine⟨by omega,by rw[show f+(bts n).length+1-1=f+(bts n).length by omega];exact h47,?_⟩;rw[show f+(bts n).length+1-1-f=(bts n).length by omega,hr,List.take_left];exact hv
theorem accept {l:List UInt8}{out:List ByteArray}{f i:Nat}(hf:l.take f=tab out)(hfi:f<i)(hi:l[i]?=some 10)(h47:l[i-1]?=some 47):
 l.take (i+1)=tab (out++[str ((l.drop f).take (i-1-f))]):=by
 rw[qtr,qac,<-hf];obtain⟨h1,h2⟩:=zlv.1 hi;obtain⟨h3,h4⟩:=zlv.1 h47
 have e1:l.take (i+1)=l.take (i-1)++[47,10]:=by
  rw[zlg h1,h2];have:i=i-1+1:=by omega
  conv=>lhs;rw[this,zlg h3,h4]
  simp
 rw[e1,<-zln];congr 1
 have:i-1=f+(i-1-f):=by omega
 conv=>lhs;rw[this,List.take_add]
theorem end_lf {l:List UInt8}{out:List ByteArray}{f:Nat}(ho:qeu out=true)(hf:l.take f=tab out)(hfl:f<l.length)(hno:NoLf l f l.length):good l=false:=by
 cases hg:good l
 ·rfl
 ·rw[qwd ho hf] at hg;have h0:l.drop f≠[]:=fun e=>by have:=congrArg List.length e;rw[zlm] at this;simp at this;omega
  obtain⟨n,rest,hr,_⟩:=qs6 h0 hg;exfalso
  have h10:l[f+(bts n).length+1]?=some 10:=by
   have:l[f+(bts n).length+1]?=(l.drop f)[(bts n).length+1]?:=by rw[List.getElem?_drop];congr 1
   rw[this,hr,zlC (by omega)];simp
  exact hno _ (by omega) (zlv.1 h10).1 h10
theorem Qg7 {l:List UInt8}{out:List ByteArray}(ho:qeu out=true)(hf:l=tab out):good l=true/\seq l=out:=by rw[hf];exact qqj ho
theorem u8_bne {x k:UInt8}(h:x=k):((x.toNat:Int) !=(k.toNat:Int))=false:=by rw[h];simp
theorem Qg8 {x k:UInt8}(h:x≠k):((x.toNat:Int) !=(k.toNat:Int))=true:=by
 have:=qts h;simp only[bne,Bool.not_eq_true'];exact this
theorem qmw (K:Nat)(A:Option Addr)(m c:Nat)(l:List UInt8)(w:World)(hr:Rd w K A m l)(hK:K<=w.heap.size)(hc:m<=c)(hm:m<100000):
 Calls prog 87 #[.slice A m c] w (Ents l w):=by
 have Hl:=hid hr.1
 have Hbad:Hid (good l=false->∀w',Below w.heap.size w w'->Ents l w (.returned (.tuple #[.slice none 0 0,.int .i64 7])) w'):=hid fun h w' hb=>by
  have h1:qyg l=[]:=if_neg (by rw[h];simp);have h2:qqm l=7:=if_neg (by rw[h];simp);refine⟨_,by rw[h2],?_,hb⟩;rw[h1];exact JS.Own.nil _ _
 have Hgood:Hid (∀out v w',good l=true->seq l=out->JS.Own w' w.heap.size v out.length out->Below w.heap.size w w'->Ents l w (.returned (.tuple #[v,.int .i64 0])) w'):=hid fun out v w' h h' ho hb=>by
  have h1:qyg l=seq l:=if_pos h;have h2:qqm l=0:=if_pos h;refine⟨v,by rw[h2],?_,hb⟩;rw[h1,h'];exact ho
 go_enter func87,ntmps87;go_wp2_with fail
 go_loopw [4,5,6] (fun v f i W=>∃(p q:Nat)(out:List ByteArray),i=.int .i64 (q:Int)/\f=.int .i64 (p:Int)/\p<=q/\q<=m/\out.length<=q/\qeu out=true/\l.take p=tab out/\NoLf l p q/\JS.Own W w.heap.size v out.length out/\Below w.heap.size w W) (fun _ _ i _=>m-(intOf i).toNat)
 case atStart=>exact⟨0,0,[],rfl,rfl,by omega,by omega,by simp,rfl,rfl,fun j h1 h2=>by omega,JS.Own.nil _ _,Below.refl _ _⟩
 case round=>
  obtain⟨p,q,out,rfl,rfl,hpq,hqm,hol,hv,htk,hno,ho,hb⟩:=hrel;by_cases hlt:q<m
  ·have hql:q<l.length:=by have:=Hl.out;omega
   obtain⟨b,o,rfl⟩:∃b o:Nat,A=some ⟨b,o,none⟩:=by
    obtain⟨b,o,e,_,_⟩:=hr.2 q hql;exact⟨b,o,e⟩
   have qdv:∀j (hj:j<l.length) w',Below w.heap.size w w'->w'.cell? ⟨b,o+j,none⟩=some (.int .u8 (l[j].toNat:Int)):=fun j hj w' hb'=>by
    obtain⟨b',o',e,hbK,hcell⟩:=hr.2 j hj;injection e with e;injection e with e1 e2;subst e1;subst e2;rw[hb'.cell (p:=⟨b,o+j,none⟩) (by show b<_;omega)];exact hcell
   have hcq:=qdv q hql wr hb;obtain⟨x,hx⟩:∃x:UInt8,l[q]=x:=⟨_,rfl⟩;have Hatq:Hid (l[q]?=some x):=hid (by rw[zlh hql,hx]);rw[hx] at hcq;clear hx;have Hno:=hid hno;have Htk:=hid htk;have Hv:=hid hv;have Ho:=hid ho;have Hcells:=hid qdv;clear hno htk hv ho qdv;by_cases hx10:x=10
   ·have hxb:((x.toNat:Int) !=10)=false:=u8_bne hx10;have Hat10:Hid (l[q]?=some 10):=hid (by rw[Hatq.out,hx10]);clear hx10;by_cases hpe:p=q
    ·subst hpe
     have Hb:Hid (good l=false):=hid (by
      cases hg:good l
      ·rfl
      ·have:=(qqb Hv.out Htk.out zjn Hat10.out Hno.out hg).1;omega)
     have heq:((p:Int)==(p:Int))=true:=by simp
     go_wp2_with fail
     go_ret2
     exact Hbad.out Hb.out _ hb
    ·have heq:((q:Int)==(p:Int))=false:=by rw[zls];omega
     obtain⟨j,rfl⟩:∃j,q=j+1:=⟨q-1,by omega⟩;have hjl:j<l.length:=by omega
     have hsub:((j+1:Nat):Int)-1=(j:Int):=by omega
     have hcj:=Hcells.out j hjl wr hb;obtain⟨y,hy⟩:∃y:UInt8,l[j]=y:=⟨_,rfl⟩;have Haty:Hid (l[j]?=some y):=hid (by rw[zlh hjl,hy]);rw[hy] at hcj;clear hy;by_cases hy47:y=47
     ·have hyb:((y.toNat:Int) !=47)=false:=u8_bne hy47;have Hat47:Hid (l[j]?=some 47):=hid (by rw[Haty.out,hy47]);clear hy47;have hrd:=((hr.more hK).below hb).cut p |>.pre (show j-p<=m-p by omega)
      have Hrd:=hid hrd;have hs1:=qmi wr _ (some ⟨b,o+p,none⟩) (j-p) (c-p) _ hrd;have hsz:(str ((l.drop p).take (j-p))).size<=140737488355328:=by rw[qat,zlu,zlm];have:=Hl.out;omega
      have hcp:¬c=p:=by omega
      have Hval:=hid fun w'=>qf0 (str ((l.drop p).take (j-p))) w' hsz;rw[qac] at Hval;cases hvx:vld ((l.drop p).take (j-p))
      ·have Hb:Hid (good l=false):=hid (by
        cases hg:good l
        ·rfl
        ·have:=(qqb Hv.out Htk.out hpq Hat10.out Hno.out hg).2.2;rw[show j+1-1-p=j-p by omega,hvx] at this;cases this)
       rw[hvx] at Hval;clear hrd hvx;go_wp2_with fail
       refine (Hval.out _).mono ?_;rintro e w1 ⟨rfl,m1,rfl⟩;have Hb1:=hid (hb.trans (qa0 _ m1));go_wp2_with fail
       go_ret2
       exact Hbad.out Hb.out _ Hb1.out
      ·rw[hvx] at Hval;have Hacc:=hid (accept Htk.out (show p<j+1 by omega) Hat10.out Hat47.out);have Hvn:Hid (qeu (out++[str ((l.drop p).take (j-p))])=true):=hid (qqe Hv.out (by rw[qac];exact hvx));rw[show j+1-1-p=j-p by omega] at Hacc;have Hs1:Hid (∀m1,(convert 22 9 (.slice (some ⟨b,o+p,none⟩) (j-p) (c-p))).run prog (wr.drewN m1)=.ok (.string (str ((l.drop p).take (j-p)))) (wr.drewN m1)):=hid fun m1=>qmi (wr.drewN m1) _ (some ⟨b,o+p,none⟩) (j-p) (c-p) _ (hrd.drewN m1);have hs1':(convert 22 9 (.slice (some ⟨b,o+p,none⟩) (j-p) (c-p))).run prog wr=.ok (.string (str ((l.drop p).take (j-p)))) wr:=hs1;clear hrd hvx hs1 hsz;generalize str ((l.drop p).take (j-p))=S at *;go_wp2_with fail
       refine (Hval.out _).mono ?_;rintro e w1 ⟨rfl,m1,rfl⟩;have hs2:=Hs1.out m1;have ho1:=Ho.out.drewN m1;have hb1:=hb.trans (qa0 _ m1);clear hs1';go_wp2_with (at_builtin;refine JS.qa4 _ w.heap.size _ _ _ _ ho1 hb1.size (by omega) rfl (.tmp 39) (.tmp 46) rfl rfl rfl ?_;intro v5 w5 ho5 hb5 _ _)
       go_roundw
       case rel=>
        refine⟨j+1+1,j+1+1,out++[S],by go_num,by go_num,by omega,by omega,?_,Hvn.out,Hacc.out,fun i h1 h2=>by omega,?_,hb1.trans hb5⟩
        ·rw[zlb];simp only[zlk,List.length_nil];omega
        ·rw[zlb];exact ho5
       case measure=>simp[intOf];omega
     ·have hyb:((y.toNat:Int) !=47)=true:=Qg8 hy47
      have Hb:Hid (good l=false):=hid (by
       cases hg:good l
       ·rfl
       ·have:=(qqb Hv.out Htk.out hpq Hat10.out Hno.out hg).2.1;rw[show j+1-1=j from rfl,Haty.out] at this;injection this with this;exact absurd this hy47)
      clear hy47;go_wp2_with fail
      go_ret2
      exact Hbad.out Hb.out _ hb
   ·have hxb:((x.toNat:Int) !=10)=true:=Qg8 hx10
    have Hn:Hid (NoLf l p (q+1)):=hid fun j h1 h2=>by
     by_cases h:j=q
     ·subst h;rw[Hatq.out];intro e;injection e with e;exact hx10 e
     ·exact Hno.out j h1 (by omega)
    clear hx10;go_wp2_with fail
    go_roundw
    case rel=>exact⟨p,q+1,out,by go_num,rfl,by omega,by omega,by omega,Hv.out,Htk.out,Hn.out,Ho.out,hb⟩
    case measure=>simp[intOf];omega
  ·obtain rfl:q=m:=by omega
   by_cases hpm:p=q
   ·subst hpm;have hfull:l.take p=l:=qds Hl.out;rw[hfull] at htk;have hgd:=Qg7 hv htk;have Hg:=hid hgd;clear hgd htk hfull hv hno;have heq:((p:Int) !=(p:Int))=false:=by simp
    go_wp2_with fail
    go_ret2
    exact Hgood.out _ _ _ Hg.out.1 Hg.out.2 ho hb
   ·have Hb:Hid (good l=false):=hid (end_lf hv htk (by have:=Hl.out;omega) (by rw[Hl.out];exact hno));have heq:((p:Int) !=(q:Int))=true:=by rw[bne_iff_ne];omega
    clear htk hv hno;go_wp2_with fail
    go_ret2
    exact Hbad.out Hb.out _ hb
theorem Qa9 {ns:List ByteArray}{f:List UInt8}{i:Nat}(hv:qeu ns=true)(hi:i<ns.length)(hf:f=47::tx 10 (tab (ns.take i)).length)(h15:(tx 10 (tab (ns.take i)).length).length<=15):qdr f (tab ns)=some ns[i]:=by
 have h1:=qwi hi;have h2:=first_at hv hi;have hn:=qha (qb7.1 hv _ (zlq hi));have h3:bts ns[i]≠[]:=fun e=>by have:=congrArg List.length e;rw[qa2,List.length_nil] at this;omega
 have hb:beg (tab ns) (tab (ns.take i)).length=true:=by
  unfold beg;rw[zlx,decide_eq_true_iff];refine⟨h1.1,?_⟩;rcases h1.2 with h|h
  ·rw[h];simp
  ·rw[h];simp
 unfold qdr;rw[hf,poff_tx h15];simp only;rw[h2,if_pos ⟨hb,h3⟩,qaw]
theorem Qg9 {ns:List ByteArray}{f:List UInt8}(hv:qeu ns=true)(h:∀i,i<ns.length->¬(f=47::tx 10 (tab (ns.take i)).length/\(tx 10 (tab (ns.take i)).length).length<=15)):qdr f (tab ns)=none:=by
 unfold qdr;rcases hp:qtu f with _|k
 ·rfl
 ·obtain⟨e1,e2⟩:=qwp hp;simp only;rw[if_neg];rintro ⟨hb,_⟩;unfold beg at hb;rw[zlx,decide_eq_true_iff] at hb
  obtain⟨i,hi,rfl⟩:=qwh ns k hv hb.1 (by
   have:=hb.2;simp at this;exact this)
  exact h i hi ⟨e1,e2⟩
theorem qkk {f:List UInt8}{k:Nat}(hk:f.length=k+1):qhb f=if f[k]?=some 47/\sht (f.take k)=true then some (str (f.take k)) else none:=by
 have e:f=f.take k++[f[k]'(by omega)]:=by
  rw[<-zlg (by omega),zlj (by omega)]
 have hs:Lib.hasSuffix f [47]=true↔f[k]?=some 47:=by
  rw[zlh (by omega)];unfold Lib.hasSuffix;rw[List.isSuffixOf_iff_suffix];constructor
  ·rintro ⟨t,ht⟩;have hl:t.length=k:=by have:=congrArg List.length ht;simp at this;omega
   have h2:f[k]?=some 47:=by rw[<-ht,zlC (by omega),hl];simp
   rw[zlh (by omega)] at h2;exact h2
  ·intro h;injection h with h;refine⟨f.take k,?_⟩;rw[h] at e;exact e.symm
 unfold qhb Lib.trimSuffix;by_cases h:f[k]?=some 47
 ·have hs':=hs.2 h;rw[hs'];simp only[if_true,true_and,h,zlk,List.length_nil];rw[hk,show k+1-(0+1)=k by omega]
 ·have hs':Lib.hasSuffix f [47]=false:=by
   cases h2:Lib.hasSuffix f [47]
   ·rfl
   ·exact absurd (hs.1 h2) h
  rw[hs',if_neg (by simp),if_neg (fun h2=>h h2.1)]
theorem Qga (s:ByteArray)(k:Nat):s.extract 0 k=str ((bts s).take k):=by
 apply qyd;rw[qac];have h:=Lib.extract_toList s 0 k;rw[Lib.toList_data] at h;unfold bts;rw[h];simp
theorem Qgb {f:List UInt8}(h:f=[]):qhb f=none:=by subst h;rfl
theorem long_nil {f l:List UInt8}(h:f=[]):qdr f l=none:=by subst h;rfl
theorem Qc8 (v:Value)(t:List UInt8)(s:ByteArray)(w:World)(h0:s.size=0):
 Calls prog 88 #[.string s,v] w fun e w'=>e=.returned (.tuple #[.string (rs (qj0 (bts s) t)),.int .i64 (re (qj0 (bts s) t))])/\Below w.heap.size w w':=by
 have hb:bts s=[]:=zli (by rw[qa2];exact h0);have Hr:Hid (qj0 (bts s) t=none):=hid (by unfold qj0;rw[Qgb hb];exact long_nil hb);have h0':((s.size:Int)==0)=true:=by rw[h0];rfl
 clear h0 hb;go_enter func88,ntmps88;go_wp2_with fail
 go_ret2
 exact⟨by rw[Hr.out];rfl,Below.refl _ _⟩
theorem Qc9 (v:Value)(t:List UInt8)(s:ByteArray)(k:Nat)(w:World)(hs:s.size<=140737488355328)(hk:s.size=k+1)(h47:(bts s)[k]?=some 47)(hsh:sht ((bts s).take k)=true):
 Calls prog 88 #[.string s,v] w fun e w'=>e=.returned (.tuple #[.string (rs (qj0 (bts s) t)),.int .i64 (re (qj0 (bts s) t))])/\Below w.heap.size w w':=by
 have Hr:Hid (qj0 (bts s) t=some (str ((bts s).take k))):=hid (by unfold qj0;rw[qkk (by rw[qa2];exact hk),if_pos ⟨h47,hsh⟩]);have h0':((s.size:Int)==0)=false:=by rw[zls];omega
 have hz:(s.size:Int)-1=(k:Int):=by omega
 have hkl:k<s.size:=by omega
 have hq:((s[k].toNat:Int)==47)=true:=by
  have:=qkm s k hkl;rw[h47] at this;injection this with this;exact qcg this.symm
 have Hk:=hid hk;have Hsh:=hid hsh;clear hk h47 hsh;go_enter func88,ntmps88;have hsz:(str ((bts s).take k)).size<=140737488355328:=by rw[qat,zlu,qa2];omega
 have he:=Qga s k;have Hc:=hid (qiy (str ((bts s).take k)) w hsz);rw[<-he] at Hc Hr;have Hb:Hid (sht (bts (s.extract 0 k))=true):=hid (by rw[he,qac];exact Hsh.out);clear he Hsh hsz;go_wp2_with fail
 refine Hc.out.mono ?_;rintro e w1 ⟨rfl,m1,rfl⟩;rw[Hb.out];go_wp2_with fail
 go_ret2
 exact⟨by rw[Hr.out];rfl,qa0 _ _⟩
theorem Qca (K:Nat)(A:Option Addr)(m c:Nat)(t:List UInt8)(s:ByteArray)(k:Nat)(w:World)(hr:Rd w K A m t)(hK:K<=w.heap.size)(hc:m<=c)(hm:m<100000)(hs:s.size<=140737488355328)(hg:good t=true)(hk:s.size=k+1)
 (hno:¬((bts s)[k]?=some 47/\sht ((bts s).take k)=true)):
 Calls prog 88 #[.string s,.slice A m c] w fun e w'=>e=.returned (.tuple #[.string (rs (qj0 (bts s) t)),.int .i64 (re (qj0 (bts s) t))])/\Below w.heap.size w w':=by
 have h0':((s.size:Int)==0)=false:=by rw[zls];omega
 have hz:(s.size:Int)-1=(k:Int):=by omega
 have hkl:k<s.size:=by omega
 obtain⟨ht,hv⟩:=qqk hg;have hlen:=qsc t;have htl:=hr.1
 have hR:qj0 (bts s) t=qdr (bts s) (tab (seq t)):=by
  unfold qj0;rw[qkk (by rw[qa2];exact hk),if_neg hno,<-ht]
 have HR:=hid hR;have Hhit:=hid fun i (hi:i<(seq t).length)=>Qa9 (f:=bts s) hv hi;have Hnone:=hid (Qg9 (f:=bts s) hv);have HV:=hid hv;have Hent:=hid fun w' (hr':Rd w' K A m t) (hK':K<=w'.heap.size)=>qmw K A m c t w' hr' hK' hc (by omega);have HO:Hid (qyg t=seq t/\qqm t=0):=hid ⟨if_pos hg,if_pos hg⟩;have hnl:(seq t).length<=100000:=by omega
 have HsN:Hid (∀n∈seq t,n.size<=1000):=hid fun n hn=>by have:=(qha (qb7.1 hv n hn)).2;omega
 clear ht hv hR hg hlen htl hk;generalize seq t=ns at *;by_cases h47:(bts s)[k]?=some 47
 ·have hsh:sht ((bts s).take k)=false:=by
   cases h:sht ((bts s).take k)
   ·rfl
   ·exact absurd ⟨h47,h⟩ hno
  have hq:((s[k].toNat:Int)==47)=true:=by
   have:=qkm s k hkl;rw[h47] at this;injection this with this;exact qcg this.symm
  have hsz:(str ((bts s).take k)).size<=140737488355328:=by rw[qat,zlu,qa2];omega
  have he:=Qga s k;have Hc:=hid (qiy (str ((bts s).take k)) w hsz);rw[<-he] at Hc;have Hb:Hid (sht (bts (s.extract 0 k))=false):=hid (by rw[he,qac];exact hsh);clear he hsz hsh hno h47;go_enter func88,ntmps88;go_wp2_with fail
  refine Hc.out.mono ?_;rintro e w1 ⟨rfl,m1,rfl⟩;rw[Hb.out];have hb0:=qa0 (K:=w.heap.size) w m1;go_wp2_with fail
  refine (Hent.out _ (hr.below (hb0.mono hK)) (Nat.le_trans hK hb0.size)).mono ?_;rintro e w2 ⟨v2,rfl,hown2,hb2⟩;rw[HO.out.1] at hown2;rw[HO.out.2];obtain⟨A2,c2,rfl,hrd2,hc2,_⟩:=hown2.reads;have hb02:=hb0.trans (hb2.mono hb0.size);have Hrd2:=hid hrd2;clear hb2 hown2 hrd2;go_wp2_with fail
  go_loopw [8] (fun i W=>∃q:Nat,i=.int .i64 (q:Int)/\q<=ns.length/\(∀j,j<q->¬(bts s=47::tx 10 (tab (ns.take j)).length/\(tx 10 (tab (ns.take j)).length).length<=15))/\Below w2.heap.size w2 W) (fun i _=>ns.length-(intOf i).toNat)
  case atStart=>exact⟨0,rfl,by omega,fun j hj=>by omega,Below.refl _ _⟩
  case round=>
   obtain⟨q,rfl,hq,hnoq,hb⟩:=hrel;have Hnoq:=hid hnoq;clear hnoq;by_cases hlt:q<ns.length
   ·obtain⟨b,o,rfl,hbK,hcell⟩:=Hrd2.out.2 q hlt;have hcell':wr.cell? ⟨b,o+q,none⟩=some (.string ns[q]):=by rw[hb.cell (p:=⟨b,o+q,none⟩) (by show b<_;omega),hcell]
    have hcellx:∀w',Below wr.heap.size wr w'->w'.cell? ⟨b,o+q,none⟩=some (.string ns[q]):=fun w' hb'=>by
     rw[hb'.cell (p:=⟨b,o+q,none⟩) (by have:=hb.size;show b<_;omega)];exact hcell'
    have Hcell:=hid hcellx;clear hcell hcell' hcellx;have hrdq:=(Hrd2.out.below hb).pre (m:=q) (by omega);have hT:∀x∈ns.take q,x.size<=1000:=fun x hx=>HsN.out x (List.mem_of_mem_take hx);have hll:=Qg6 (m:=q) hT (by rw[zlu];omega);have Htab:=hid (qix w2.heap.size (some ⟨b,o,none⟩) q c2 (ns.take q) wr hrdq hb.size (by omega) hT);have Hh:=hid (Hhit.out q hlt)
    have Hnx:Hid (¬(bts s=47::tx 10 (tab (ns.take q)).length/\(tx 10 (tab (ns.take q)).length).length<=15)->∀j,j<q+1->¬(bts s=47::tx 10 (tab (ns.take j)).length/\(tx 10 (tab (ns.take j)).length).length<=15)):=hid fun h j hj=>by
     by_cases e:j=q
     ·subst e;exact h
     ·exact Hnoq.out j (by omega)
    generalize ns[q]=N at *;clear hT hrdq;generalize hL:(tab (ns.take q)).length=L at *;have HL:=hid hL;clear hL;have Hit:Hid (∀w',Calls prog 18 #[.int .i64 (L:Int),.int .i64 10] w' fun e w''=>e=.returned (.string (str (tx 10 L)))/\∃m,w''=w'.drewN m):=hid fun w'=>qhf 10 rfl L (by omega) w'
    have hD:(str (tx 10 L)).size<=64:=by
     rw[qat,qb0 (by omega)];exact Nat.le_trans (qex (by omega) (by omega)) (by omega)
    have Hc1:Hid (bts s=47::tx 10 L↔s.toList=((⟨#[47]⟩:ByteArray)++str (tx 10 L)).toList):=hid (by
     rw[qdk];have e:(⟨#[47]⟩:ByteArray)++str (tx 10 L)=str (47::tx 10 L):=qf1 [47] _;rw[e];constructor
     ·intro h;rw[<-h,qaw]
     ·intro h;rw[h,qac])
    have Hc2:Hid ((tx 10 L).length=(str (tx 10 L)).size):=hid (qat _).symm;generalize str (tx 10 L)=D at *;by_cases hc1:bts s=47::tx 10 L
    ·have hq1:(s.toList==((⟨#[47]⟩:ByteArray)++D).toList)=true:=by rw[beq_iff_eq];exact Hc1.out.1 hc1
     have Hs1:=hid hc1;clear hc1;by_cases hc2:D.size<=15
     ·have Hr:Hid (qj0 (bts s) t=some N):=hid (by rw[HR.out];exact Hh.out Hs1.out (by rw[Hc2.out];exact hc2));go_wp2_with fail
      refine Htab.out.mono ?_;rintro e w3 ⟨v3,rfl,ho3,hb3⟩;obtain⟨A3,c3,rfl,_,_⟩:=ho3.reads;clear ho3;go_wp2_with fail
      refine (Hit.out _).mono ?_;rintro e w4 ⟨rfl,m4,rfl⟩;have hb4:=hb3.trans (qa0 _ m4);have hcl:=Hcell.out _ hb4;clear hb3;go_wp2_with fail
      go_ret2
      exact⟨by rw[Hr.out];rfl,hb02.trans ((hb.trans (hb4.mono hb.size)).mono hb02.size)⟩
     ·have Hn:=hid (Hnx.out (fun h=>hc2 (by rw[<-Hc2.out];exact h.2)));go_wp2_with fail
      refine Htab.out.mono ?_;rintro e w3 ⟨v3,rfl,ho3,hb3⟩;obtain⟨A3,c3,rfl,_,_⟩:=ho3.reads;clear ho3;go_wp2_with fail
      refine (Hit.out _).mono ?_;rintro e w4 ⟨rfl,m4,rfl⟩;have hb4:=hb3.trans (qa0 _ m4);clear hb3;go_wp2_with fail
      go_roundw
      case rel=>exact⟨q+1,by go_num,by omega,Hn.out,hb.trans (hb4.mono hb.size)⟩
      case measure=>simp[intOf];omega
    ·have hq1:(s.toList==((⟨#[47]⟩:ByteArray)++D).toList)=false:=by rw[zls];exact fun h=>hc1 (Hc1.out.2 h)
     have Hn:=hid (Hnx.out (fun h=>hc1 h.1));clear hc1;go_wp2_with fail
     refine Htab.out.mono ?_;rintro e w3 ⟨v3,rfl,ho3,hb3⟩;obtain⟨A3,c3,rfl,_,_⟩:=ho3.reads;clear ho3;go_wp2_with fail
     refine (Hit.out _).mono ?_;rintro e w4 ⟨rfl,m4,rfl⟩;have hb4:=hb3.trans (qa0 _ m4);clear hb3;go_wp2_with fail
     go_roundw
     case rel=>exact⟨q+1,by go_num,by omega,Hn.out,hb.trans (hb4.mono hb.size)⟩
     case measure=>simp[intOf];omega
   ·obtain rfl:q=ns.length:=by omega
    have Hr:Hid (qj0 (bts s) t=none):=hid (by rw[HR.out];exact Hnone.out Hnoq.out);go_wp2_with fail
    go_ret2
    exact⟨by rw[Hr.out];rfl,hb02.trans (hb.mono hb02.size)⟩
 ·have hq:((s[k].toNat:Int)==47)=false:=by
   have hne:s[k]≠47:=fun h=>h47 (by rw[qkm s k hkl,h]);exact qts hne
  have hb0:=Below.refl w.heap.size w;clear hno h47;go_enter func88,ntmps88;go_wp2_with fail
  refine (Hent.out _ (hr.below (hb0.mono hK)) (Nat.le_trans hK hb0.size)).mono ?_;rintro e w2 ⟨v2,rfl,hown2,hb2⟩;rw[HO.out.1] at hown2;rw[HO.out.2];obtain⟨A2,c2,rfl,hrd2,hc2,_⟩:=hown2.reads;have hb02:=hb0.trans (hb2.mono hb0.size);have Hrd2:=hid hrd2;clear hb2 hown2 hrd2;go_wp2_with fail
  go_loopw [8] (fun i W=>∃q:Nat,i=.int .i64 (q:Int)/\q<=ns.length/\(∀j,j<q->¬(bts s=47::tx 10 (tab (ns.take j)).length/\(tx 10 (tab (ns.take j)).length).length<=15))/\Below w2.heap.size w2 W) (fun i _=>ns.length-(intOf i).toNat)
  case atStart=>exact⟨0,rfl,by omega,fun j hj=>by omega,Below.refl _ _⟩
  case round=>
   obtain⟨q,rfl,hq,hnoq,hb⟩:=hrel;have Hnoq:=hid hnoq;clear hnoq;by_cases hlt:q<ns.length
   ·obtain⟨b,o,rfl,hbK,hcell⟩:=Hrd2.out.2 q hlt;have hcell':wr.cell? ⟨b,o+q,none⟩=some (.string ns[q]):=by rw[hb.cell (p:=⟨b,o+q,none⟩) (by show b<_;omega),hcell]
    have hcellx:∀w',Below wr.heap.size wr w'->w'.cell? ⟨b,o+q,none⟩=some (.string ns[q]):=fun w' hb'=>by
     rw[hb'.cell (p:=⟨b,o+q,none⟩) (by have:=hb.size;show b<_;omega)];exact hcell'
    have Hcell:=hid hcellx;clear hcell hcell' hcellx;have hrdq:=(Hrd2.out.below hb).pre (m:=q) (by omega);have hT:∀x∈ns.take q,x.size<=1000:=fun x hx=>HsN.out x (List.mem_of_mem_take hx);have hll:=Qg6 (m:=q) hT (by rw[zlu];omega);have Htab:=hid (qix w2.heap.size (some ⟨b,o,none⟩) q c2 (ns.take q) wr hrdq hb.size (by omega) hT);have Hh:=hid (Hhit.out q hlt)
    have Hnx:Hid (¬(bts s=47::tx 10 (tab (ns.take q)).length/\(tx 10 (tab (ns.take q)).length).length<=15)->∀j,j<q+1->¬(bts s=47::tx 10 (tab (ns.take j)).length/\(tx 10 (tab (ns.take j)).length).length<=15)):=hid fun h j hj=>by
     by_cases e:j=q
     ·subst e;exact h
     ·exact Hnoq.out j (by omega)
    generalize ns[q]=N at *;clear hT hrdq;generalize hL:(tab (ns.take q)).length=L at *;have HL:=hid hL;clear hL;have Hit:Hid (∀w',Calls prog 18 #[.int .i64 (L:Int),.int .i64 10] w' fun e w''=>e=.returned (.string (str (tx 10 L)))/\∃m,w''=w'.drewN m):=hid fun w'=>qhf 10 rfl L (by omega) w'
    have hD:(str (tx 10 L)).size<=64:=by
     rw[qat,qb0 (by omega)];exact Nat.le_trans (qex (by omega) (by omega)) (by omega)
    have Hc1:Hid (bts s=47::tx 10 L↔s.toList=((⟨#[47]⟩:ByteArray)++str (tx 10 L)).toList):=hid (by
     rw[qdk];have e:(⟨#[47]⟩:ByteArray)++str (tx 10 L)=str (47::tx 10 L):=qf1 [47] _;rw[e];constructor
     ·intro h;rw[<-h,qaw]
     ·intro h;rw[h,qac])
    have Hc2:Hid ((tx 10 L).length=(str (tx 10 L)).size):=hid (qat _).symm;generalize str (tx 10 L)=D at *;by_cases hc1:bts s=47::tx 10 L
    ·have hq1:(s.toList==((⟨#[47]⟩:ByteArray)++D).toList)=true:=by rw[beq_iff_eq];exact Hc1.out.1 hc1
     have Hs1:=hid hc1;clear hc1;by_cases hc2:D.size<=15
     ·have Hr:Hid (qj0 (bts s) t=some N):=hid (by rw[HR.out];exact Hh.out Hs1.out (by rw[Hc2.out];exact hc2));go_wp2_with fail
      refine Htab.out.mono ?_;rintro e w3 ⟨v3,rfl,ho3,hb3⟩;obtain⟨A3,c3,rfl,_,_⟩:=ho3.reads;clear ho3;go_wp2_with fail
      refine (Hit.out _).mono ?_;rintro e w4 ⟨rfl,m4,rfl⟩;have hb4:=hb3.trans (qa0 _ m4);have hcl:=Hcell.out _ hb4;clear hb3;go_wp2_with fail
      go_ret2
      exact⟨by rw[Hr.out];rfl,hb02.trans ((hb.trans (hb4.mono hb.size)).mono hb02.size)⟩
     ·have Hn:=hid (Hnx.out (fun h=>hc2 (by rw[<-Hc2.out];exact h.2)));go_wp2_with fail
      refine Htab.out.mono ?_;rintro e w3 ⟨v3,rfl,ho3,hb3⟩;obtain⟨A3,c3,rfl,_,_⟩:=ho3.reads;clear ho3;go_wp2_with fail
      refine (Hit.out _).mono ?_;rintro e w4 ⟨rfl,m4,rfl⟩;have hb4:=hb3.trans (qa0 _ m4);clear hb3;go_wp2_with fail
      go_roundw
      case rel=>exact⟨q+1,by go_num,by omega,Hn.out,hb.trans (hb4.mono hb.size)⟩
      case measure=>simp[intOf];omega
    ·have hq1:(s.toList==((⟨#[47]⟩:ByteArray)++D).toList)=false:=by rw[zls];exact fun h=>hc1 (Hc1.out.2 h)
     have Hn:=hid (Hnx.out (fun h=>hc1 h.1));clear hc1;go_wp2_with fail
     refine Htab.out.mono ?_;rintro e w3 ⟨v3,rfl,ho3,hb3⟩;obtain⟨A3,c3,rfl,_,_⟩:=ho3.reads;clear ho3;go_wp2_with fail
     refine (Hit.out _).mono ?_;rintro e w4 ⟨rfl,m4,rfl⟩;have hb4:=hb3.trans (qa0 _ m4);clear hb3;go_wp2_with fail
     go_roundw
     case rel=>exact⟨q+1,by go_num,by omega,Hn.out,hb.trans (hb4.mono hb.size)⟩
     case measure=>simp[intOf];omega
   ·obtain rfl:q=ns.length:=by omega
    have Hr:Hid (qj0 (bts s) t=none):=hid (by rw[HR.out];exact Hnone.out Hnoq.out);go_wp2_with fail
    go_ret2
    exact⟨by rw[Hr.out];rfl,hb02.trans (hb.mono hb02.size)⟩
theorem qwe (K:Nat)(A:Option Addr)(m c:Nat)(t:List UInt8)(s:ByteArray)(w:World)(hr:Rd w K A m t)(hK:K<=w.heap.size)(hc:m<=c)(hm:m<100000)(hs:s.size<=140737488355328)(hg:good t=true):
 Calls prog 88 #[.string s,.slice A m c] w fun e w'=>e=.returned (.tuple #[.string (rs (qj0 (bts s) t)),.int .i64 (re (qj0 (bts s) t))])/\Below w.heap.size w w':=by
 rcases Nat.eq_zero_or_pos s.size with h0|h0
 ·exact Qc8 _ t s w h0
 ·obtain⟨k,hk⟩:∃k,s.size=k+1:=⟨s.size-1,by omega⟩;by_cases h:(bts s)[k]?=some 47/\sht ((bts s).take k)=true
  ·exact Qc9 _ t s k w hs hk h.1 h.2
  ·exact Qca K A m c t s k w hr hK hc hm hs hg hk h
end JN
namespace JR
open JB JD JN
def RdI (w:World)(K:Nat)(A:Option Addr)(n:Nat)(xs:List Int):Prop:=
 xs.length=n/\∀k (h:k<xs.length),∃b o:Nat,A=some ⟨b,o,none⟩/\b<K/\w.cell? ⟨b,o+k,none⟩=some (.int .i64 xs[k])
theorem RdI.below {w w':World}{K n:Nat}{A:Option Addr}{xs:List Int}(h:RdI w K A n xs)(hb:Below K w w'):RdI w' K A n xs:=
 ⟨h.1,fun k hk=>by
  obtain⟨b,o,e,hl,hc⟩:=h.2 k hk;exact⟨b,o,e,hl,by rw[hb.cell (p:=⟨b,o+k,none⟩) hl];exact hc⟩⟩
theorem RdI.more {w:World}{K K' n:Nat}{A:Option Addr}{xs:List Int}(h:RdI w K A n xs)(hK:K<=K'):RdI w K' A n xs:=
 ⟨h.1,fun k hk=>by
  obtain⟨b,o,e,hl,hc⟩:=h.2 k hk;exact⟨b,o,e,by omega,hc⟩⟩
theorem RdI.cells {w:World}{K n:Nat}{A:Option Addr}{xs:List Int}:RdI w K A n xs↔JC.Rd w K A n 1 (xs.map (Value.int .i64)):=by
 constructor
 ·rintro ⟨h,g⟩;refine⟨by rw[zlB,h,Nat.mul_one],fun k hk=>?_⟩;obtain⟨b,o,e,hl,hc⟩:=g k (by rw[zlB] at hk;exact hk);exact⟨b,o,e,hl,by rw[hc,List.getElem_map]⟩
 ·rintro ⟨h,g⟩;refine⟨by rw[zlB,Nat.mul_one] at h;exact h,fun k hk=>?_⟩;obtain⟨b,o,e,hl,hc⟩:=g k (by rw[zlB];exact hk);exact⟨b,o,e,hl,by rw[hc,List.getElem_map]⟩
def sameM (s s':ByteArray)(t t' u u' g g' m m':Int)(xs ys:List UInt8):Bool:=
 (s.toList==s'.toList)&&(t==t')&&(u==u')&&(g==g')&&(m==m')&&(xs==ys)
structure Mem where
 name:ByteArray
 time:Int
 uid:Int
 gid:Int
 mode:Int
 ptr:Option Addr
 len:Nat
 cap:Nat
 data:List UInt8
def Mem.val (x:Mem):Value:=.agg #[.string x.name,.int .i64 x.time,.int .i64 x.uid,.int .i64 x.gid,.int .i64 x.mode,.slice x.ptr x.len x.cap]
def Mem.same (x y:Mem):Bool:=sameM x.name y.name x.time y.time x.uid y.uid x.gid y.gid x.mode y.mode x.data y.data
def Qaa:List Mem->List Mem->Bool
 |[],[]=>true
 |x::l,y::r=>x.same y&&Qaa l r
 |_,_=>false
def qqc (w:World)(b o:Nat)(x:Mem):Prop:=
 w.cell? ⟨b,o,none⟩=some (.string x.name)/\w.cell? ⟨b,o+1,none⟩=some (.int .i64 x.time)/\w.cell? ⟨b,o+2,none⟩=some (.int .i64 x.uid)/\w.cell? ⟨b,o+3,none⟩=some (.int .i64 x.gid)/\w.cell? ⟨b,o+4,none⟩=some (.int .i64 x.mode)/\w.cell? ⟨b,o+5,none⟩=some (.slice x.ptr x.len x.cap)
theorem qqc.below {w w':World}{K b o:Nat}{x:Mem}(h:qqc w b o x)(hb:Below K w w')(hl:b<K):qqc w' b o x:=by
 obtain⟨h0,h1,h2,h3,h4,h5⟩:=h;exact⟨by rw[hb.cell (p:=⟨b,o,none⟩) hl];exact h0,by rw[hb.cell (p:=⟨b,o+1,none⟩) hl];exact h1,by rw[hb.cell (p:=⟨b,o+2,none⟩) hl];exact h2,by rw[hb.cell (p:=⟨b,o+3,none⟩) hl];exact h3,by rw[hb.cell (p:=⟨b,o+4,none⟩) hl];exact h4,by rw[hb.cell (p:=⟨b,o+5,none⟩) hl];exact h5⟩
def RdM (w:World)(K:Nat)(A:Option Addr)(n:Nat)(xs:List Mem):Prop:=
 xs.length=n/\∀k (h:k<xs.length),(∃b o:Nat,A=some ⟨b,o,none⟩/\b<K/\qqc w b (o+k * 6) xs[k])/\JB.Rd w K xs[k].ptr xs[k].len xs[k].data/\xs[k].len<=140737488355328
theorem RdM.below {w w':World}{K n:Nat}{A:Option Addr}{xs:List Mem}(h:RdM w K A n xs)(hb:Below K w w'):RdM w' K A n xs:=
 ⟨h.1,fun k hk=>by
  obtain⟨⟨b,o,e,hl,hc⟩,hr,hn⟩:=h.2 k hk;exact⟨⟨b,o,e,hl,hc.below hb hl⟩,hr.below hb,hn⟩⟩
theorem RdM.more {w:World}{K K' n:Nat}{A:Option Addr}{xs:List Mem}(h:RdM w K A n xs)(hK:K<=K'):RdM w K' A n xs:=
 ⟨h.1,fun k hk=>by
  obtain⟨⟨b,o,e,hl,hc⟩,hr,hn⟩:=h.2 k hk;exact⟨⟨b,o,e,by omega,hc⟩,hr.more hK,hn⟩⟩
structure Arc where
 hasMap:Bool
 mp:Option Addr
 mn:Nat
 mc:Nat
 map:List UInt8
 ap:Option Addr
 an:Nat
 ac:Nat
 mems:List Mem
 op:Option Addr
 on:Nat
 oc:Nat
 offs:List Int
def Arc.val (x:Arc):Value:=.agg #[.bool x.hasMap,.slice x.mp x.mn x.mc,.slice x.ap x.an x.ac,.slice x.op x.on x.oc]
def Arc.same (x y:Arc):Bool:=(x.hasMap==y.hasMap)&&(x.map==y.map)&&Qaa x.mems y.mems&&(x.offs==y.offs)
def RdA (w:World)(K:Nat)(x:Arc):Prop:=
 JB.Rd w K x.mp x.mn x.map/\RdM w K x.ap x.an x.mems/\RdI w K x.op x.on x.offs/\x.mn<=140737488355328/\x.an<=140737488355328/\x.on<=140737488355328
theorem RdA.below {w w':World}{K:Nat}{x:Arc}(h:RdA w K x)(hb:Below K w w'):RdA w' K x:=⟨h.1.below hb,h.2.1.below hb,h.2.2.1.below hb,h.2.2.2⟩
theorem RdA.more {w:World}{K K':Nat}{x:Arc}(h:RdA w K x)(hK:K<=K'):RdA w K' x:=⟨h.1.more hK,h.2.1.more hK,h.2.2.1.more hK,h.2.2.2⟩
end JR
end Go.Proofs.YtlmolmohhpdhdaaGreatDoor
