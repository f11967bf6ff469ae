/-
  longname:
-/
import Derived.Test.YtlmolmohhpdhdaaGreatDoorYMh
set_option maxRecDepth 100000
set_option maxHeartbeats 16000000
set_option linter.all false
namespace Go.Proofs.YtlmolmohhpdhdaaGreatDoor
open Go.RowKit Go.Proofs Tryz
namespace JN
open JB JU JD
def bo (ns:List ByteArray):List UInt8:=if qeu ns=true then tab (qam ns) else []
def fo (ns:List ByteArray):List ByteArray:=if qeu ns=true then qj7 [] ns else []
def be (ns:List ByteArray):Int:=if qeu ns=true then 0 else 6
def qs7 (ns:List ByteArray)(w:World)(e:Ending)(w':World):Prop:=
 ∃v f,e=.returned (.tuple #[v,f,.int .i64 (be ns)])/\Own w' w.heap.size v (bo ns).length (bo ns)/\JS.Own w' w.heap.size f (fo ns).length (fo ns)/\Below w.heap.size w w'
theorem tab_len {ns:List ByteArray}(h:qeu ns=true):(tab ns).length<=ns.length * 257:=qmg ns 255 fun n hn=>(qha (qb7.1 h n hn)).2
theorem qqd (ns:List ByteArray):(qam ns).length<=ns.length:=List.length_filter_le _ _
theorem qh8 {ns:List ByteArray}{k:Nat}(h:qeu ns=true)(hk:ns.length<=k):(tab (qam ns)).length<=k * 257:=
 Nat.le_trans (tab_len (qmf h)) (Nat.mul_le_mul_right 257 (Nat.le_trans (qqd ns) hk))
theorem qd5 {α:Type}{l:List α}{k:Nat}{x:α}(h:l[k]?=some x):l.take (k+1)=l.take k++[x]:=by
 obtain⟨h1,rfl⟩:=zlv.1 h;exact zlg h1
theorem Qgc {ns:List ByteArray}{k:Nat}{x:ByteArray}(h:ns[k]?=some x)(hv:vld (bts x)=false):qeu ns=false:=by
 cases h2:qeu ns
 ·rfl
 ·have:=qb7.1 h2 x (List.mem_of_getElem? h);rw[hv] at this;cases this
theorem qqe {a:List ByteArray}{x:ByteArray}(h:qeu a=true)(hv:vld (bts x)=true):qeu (a++[x])=true:=qh9.2 ⟨h,by simp[qeu,hv]⟩
theorem qqf {a:List ByteArray}{x:ByteArray}(h:sht (bts x)=true):qam (a++[x])=qam a:=by rw[qic];simp[qam,h]
theorem qs8 {a:List ByteArray}{x:ByteArray}(h:sht (bts x)=false):qam (a++[x])=qam a++[x]:=by rw[qic];simp[qam,h]
theorem qwf {a:List ByteArray}{x:ByteArray}(h:sht (bts x)=true):x++⟨#[47]⟩=fld a x:=by
 unfold fld;rw[if_pos h];have:=qf1 (bts x) [47];show x++⟨#[47]⟩=⟨(bts x++[47]).toArray⟩
 rw[<-this];show x++_=str (bts x)++_
 rw[qaw]
theorem Qab {a:List ByteArray}{x:ByteArray}(h:sht (bts x)=false):(⟨#[47]⟩:ByteArray)++str (tx 10 (tab (qam a)).length)=fld a x:=by
 unfold fld;rw[if_neg (by rw[h];simp)];exact qf1 [47] _
theorem Qgd (K:Nat)(A:Option Addr)(n c:Nat)(ns:List ByteArray)(w:World)(hg:qev w)(hr:JS.Rd w K A n ns)(hK:K<=w.heap.size)(hn:n<=202)(hs:∀s∈ns,s.size<=1000):
 Calls prog 209 #[.slice A n c] w (qs7 ns w):=by
 have hl:=hr.1
 have Hbad:Hid (qeu ns=false->∀w',Below w.heap.size w w'->qs7 ns w (.returned (.tuple #[.slice none 0 0,.slice none 0 0,.int .i64 6])) w'):=hid fun h w' hb=>by
  have h1:bo ns=[]:=if_neg (by rw[h];simp);have h2:fo ns=[]:=if_neg (by rw[h];simp);have h3:be ns=6:=if_neg (by rw[h];simp);refine⟨_,_,by rw[h3],?_,?_,hb⟩
  ·rw[h1];exact Own.nil _ _
  ·rw[h2];exact JS.Own.nil _ _
 have Hgood:Hid (qeu ns=true->∀v f w',Own w' w.heap.size v (tab (qam ns)).length (tab (qam ns))->JS.Own w' w.heap.size f n (qj7 [] ns)->Below w.heap.size w w'->qs7 ns w (.returned (.tuple #[v,f,.int .i64 0])) w'):=hid fun h v f w' o1 o2 hb=>by
  have h1:bo ns=tab (qam ns):=if_pos h;have h2:fo ns=qj7 [] ns:=if_pos h;have h3:be ns=0:=if_pos h;refine⟨v,f,by rw[h3],by rw[h1];exact o1,?_,hb⟩;rw[h2,qe2,hl];exact o2
 have Hl:=hid hl;clear hl;go_enter func209,ntmps209;go_wp2_with fail
 go_loopw [2,3,9] (fun v f i W=>∃k:Nat,i=.int .i64 (k:Int)/\k<=n/\qeu (ns.take k)=true/\Own W w.heap.size v (tab (qam (ns.take k))).length (tab (qam (ns.take k)))/\JS.Own W w.heap.size f k (qj7 [] (ns.take k))/\Below w.heap.size w W) (fun _ _ i _=>n-(intOf i).toNat)
 case atStart=>exact⟨0,rfl,by omega,by simp[qeu],Own.nil _ _,JS.Own.nil _ _,Below.refl _ _⟩
 case round=>
  obtain⟨k,rfl,hk,hv,ho,hf,hb⟩:=hrel;by_cases hlt:k<n
  ·have hkl:k<ns.length:=by have:=Hl.out;omega
   obtain⟨b,o,rfl,hbK,hcell⟩:=hr.2 k hkl;obtain⟨s,hss⟩:∃s,ns[k]=s:=⟨_,rfl⟩;have hsz:=hs _ (zlq hkl);have Hat:Hid (ns[k]?=some s):=hid (by rw[zlh hkl,hss]);rw[hss] at hsz;have hcell':wr.cell? ⟨b,o+k,none⟩=some (.string s):=by rw[hb.cell (p:=⟨b,o+k,none⟩) (by show b<_;omega),hcell,hss]
   clear hss hcell;have hll:=qh8 (k:=k) hv (by rw[zlu];omega);generalize hT:ns.take k=T at *;have HT:=hid hT;clear hT;have Hv:=hid hv;have Hb:=hid hb;have Ho:=hid ho;have Hf:=hid hf;clear hv hb ho hf;have hbl:=Hb.out.size;cases hvs:vld (bts s)
   ·have Hno:=hid (Qgc Hat.out hvs);go_wp2_with fail
    refine (qfm s _ (by omega)).mono ?_;rintro e w1 ⟨rfl,hb1⟩;rw[hvs];have Hb1:=hid (Hb.out.trans (hb1.mono hbl));clear hb1;go_wp2_with fail
    go_ret3
    exact Hbad.out Hno.out _ Hb1.out
   ·have Hvn:Hid (qeu (ns.take (k+1))=true):=hid (by rw[qd5 Hat.out,HT.out];exact qqe Hv.out hvs);cases hsh:sht (bts s)
    ·have hTl:(T.length:Nat)=T.length:=rfl;have Hfl:=hid (Qab (a:=T) hsh);have Htk:Hid (tab (qam (ns.take (k+1)))=tab (qam T)++(s.data.toList++[47,10])):=hid (by rw[qd5 Hat.out,HT.out,qs8 hsh,qtr];rfl);have Hfk:Hid (qj7 [] (ns.take (k+1))=qj7 [] T++[fld T s]):=hid (by rw[qd5 Hat.out,HT.out,qqh]);have hgr:=(hg.on Hb.out);obtain⟨A1,c1,hv1,hrd1,hc1,_⟩:=Ho.out.reads;subst hv1;go_wp2_with fail
     refine (qfm s _ (by omega)).mono ?_;rintro e w1 ⟨rfl,hb1⟩;rw[hvs];have hb01:=Hb.out.trans (hb1.mono hbl);have hg1:=hgr.on hb1;have ho1:=Ho.out.below hb1;have hf1:=Hf.out.below hb1;clear hb1;go_wp2_with fail
     refine (qfn s _ (by omega)).mono ?_;rintro e w2 ⟨rfl,hb2⟩;rw[hsh];have hb02:=hb01.trans (hb2.mono hb01.size);have hg2:=hg1.on hb2;have ho2:=ho1.below hb2;have hf2:=hf1.below hb2;clear hb2 hb01 hg1 ho1 hf1;have Hit:=hid (qtt (tab (qam T)).length _ hg2 (by omega))
     have hD:(str (tx 10 (tab (qam T)).length)).size<=64:=by
      rw[qat,qb0 (by omega)];exact Nat.le_trans (qex (by omega) (by omega)) (by omega)
     generalize str (tx 10 (tab (qam T)).length)=D at *;go_wp2_with fail
     refine Hit.out.mono ?_;rintro e w3 ⟨rfl,hb3⟩;have hb03:=hb02.trans (hb3.mono hb02.size);have ho3:=ho2.below hb3;have hf3:=hf2.below hb3;clear hb3 hb02 hg2 ho2 hf2
     go_wp2_with (first
      |(at_builtin;refine JS.qa4 _ w.heap.size _ _ _ _ hf3 hb03.size (by omega) rfl (.tmp 13) (.tmp 18) rfl rfl rfl ?_;intro f4 w4 hf4 hb34 hq34 _;have hb04:=hb03.trans hb34;have ho4:=ho3.oth hq34)
      |(at_builtin;refine qe8 _ w.heap.size _ _ _ ho4 hb04.size s (by omega) rfl (.tmp 20) (.tmp 21) rfl rfl rfl ?_;intro v5 w5 ho5 hb45 hq45;have hb05:=hb04.trans hb45;have hf5:=hf4.oth hq45)
      |(at_builtin;refine qe8 _ w.heap.size _ _ _ ho5 hb05.size ⟨#[47,10]⟩ (by show _+2<=_;omega) rfl (.tmp 23) (.const (.string ⟨#[47,10]⟩)) rfl rfl rfl ?_;intro v6 w6 ho6 hb56 hq56))
     have hb06:=hb05.trans hb56;have hf6:=hf5.oth hq56;go_roundw
     case rel=>
      refine⟨k+1,by go_num,by omega,Hvn.out,?_,?_,hb06⟩
      ·rw[Htk.out]
       have e:(tab (qam T)++(s.data.toList++[47,10])).length=(tab (qam T)).length+s.size+(ByteArray.mk #[47,10]).size:=by
        rw[zlb,zlb];have:=qa2 s;unfold bts at this;rw[this,<-Nat.add_assoc];rfl
       rw[e,<-zln];exact ho6
      ·rw[Hfk.out,<-Hfl.out];exact hf6
     case measure=>simp[intOf];omega
    ·have Hfl:=hid (qwf (a:=T) hsh);have Htk:Hid (tab (qam (ns.take (k+1)))=tab (qam T)):=hid (by rw[qd5 Hat.out,HT.out,qqf hsh]);have Hfk:Hid (qj7 [] (ns.take (k+1))=qj7 [] T++[fld T s]):=hid (by rw[qd5 Hat.out,HT.out,qqh]);go_wp2_with fail
     refine (qfm s _ (by omega)).mono ?_;rintro e w1 ⟨rfl,hb1⟩;rw[hvs];have hb01:=Hb.out.trans (hb1.mono hbl);have ho1:=Ho.out.below hb1;have hf1:=Hf.out.below hb1;clear hb1;go_wp2_with fail
     refine (qfn s _ (by omega)).mono ?_;rintro e w2 ⟨rfl,hb2⟩;rw[hsh];have hb02:=hb01.trans (hb2.mono hb01.size);have ho2:=ho1.below hb2;have hf2:=hf1.below hb2;clear hb2 hb01 ho1 hf1;go_wp2_with (at_builtin;refine JS.qa4 _ w.heap.size _ _ _ _ hf2 hb02.size (by omega) rfl (.tmp 32) (.tmp 35) rfl rfl rfl ?_;intro f4 w4 hf4 hb24 hq24 _;have hb04:=hb02.trans hb24;have ho4:=ho2.oth hq24)
     go_roundw
     case rel=>
      refine⟨k+1,by go_num,by omega,Hvn.out,?_,?_,hb04⟩
      ·rw[Htk.out];exact ho4
      ·rw[Hfk.out,<-Hfl.out];exact hf4
     case measure=>simp[intOf];omega
  ·obtain rfl:k=n:=by omega
   have hfull:ns.take k=ns:=qds Hl.out;rw[hfull] at hv ho hf;have Hfin:=hid (Hgood.out hv);clear hv hfull;go_wp2_with fail
   go_ret3
   exact Hfin.out _ _ _ ho hf hb
end JN
end Go.Proofs.YtlmolmohhpdhdaaGreatDoor
