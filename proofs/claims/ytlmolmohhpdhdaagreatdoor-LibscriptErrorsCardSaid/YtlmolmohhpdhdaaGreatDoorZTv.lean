/-
  LibscriptErrors: a line with an error has one line of
-/
import Derived.Test.YtlmolmohhpdhdaaGreatDoorZTr
set_option maxRecDepth 100000
set_option maxHeartbeats 16000000
set_option linter.unusedSimpArgs false
set_option linter.unusedVariables false
namespace Go.Proofs.YtlmolmohhpdhdaaGreatDoor
open Go.RowKit Go.Proofs
namespace Lsc
open JB
open JN (bts str qa8 qak qa0 Gnd qcj)
open JR (Mem ar)
open JL
open JD (tx)
theorem Qbh {l:List UInt8}{fs:List Mem}{t:ByteArray}(h:(qbf l fs t).2.2≠0):qbf l fs t=(l,errL (qbf l fs t).2.2,(qbf l fs t).2.2):=by
 unfold qbf qn4 at h ⊢
 split
 ·rfl
 ·split
  ·rfl
  ·rename_i h1 h2
   rw[if_neg h1,if_neg h2] at h
   exact absurd rfl h
theorem lineS_e (l:List UInt8)(fs:List Mem)(t:ByteArray):E17 (qbf l fs t).2.2:=by
 unfold qbf qn4
 split
 ·exact ask_e _ _
 ·split
  ·exact runS_e _ _
  ·exact qsu
theorem Qbi (c:UInt8):∀(r cur p:List UInt8),(spl c cur r)[0]?=some p→∃q,cur++r=p++q
 |[],cur,p,h=>by
  simp[spl] at h
  exact⟨[],by rw[h]⟩
 |x::r,cur,p,h=>by
  by_cases hx:x=c
  ·rw[qi7 hx] at h
   simp at h
   exact⟨x::r,by rw[h]⟩
  ·rw[qfv hx] at h
   obtain⟨q,hq⟩:=Qbi c r _ p h
   exact⟨q,by rw[←hq,List.append_assoc];rfl⟩
theorem first_op {t:ByteArray}{op:UInt8}(h:opW (atW (qd9 32 t) 0)=some op):∃h0:0<t.size,t[0]=op:=by
 have h1:bts (atW (qd9 32 t) 0)=[op]:=by
  unfold opW at h
  split at h
  ·rename_i c hc
   split at h
   ·injection h with h;rw[hc,h]
   ·cases h
  ·cases h
 unfold atW qd9 at h1
 rw[List.getElem?_map] at h1
 rcases hp:(spl 32 [] (bts t))[0]? with _|p
 ·rw[hp] at h1
  have h5:bts eN=[op]:=h1
  exact absurd (congrArg List.length h5) (show ¬(0:Nat)=1 by decide)
 ·rw[hp] at h1
  have h2:p=[op]:=by rw[←h1];exact (qa8 p).symm
  obtain⟨q,hq⟩:=Qbi 32 _ _ _ hp
  rw[h2,List.nil_append] at hq
  have h3:0<t.size:=by rw[←qa0,hq];simp
  refine⟨h3,?_⟩
  have h4:=JN.qt3 t 0 h3
  rw[hq] at h4
  simpa using h4.symm
theorem qy1 {l:List UInt8}{fs:List Mem}{t:ByteArray}(h:(qbf l fs t).2.2=0):(qbf l fs t).1=l∨∃(h0:0<t.size),t[0]≠120∧t[0]≠116∧(qbf l fs t).2.1=[okN]:=by
 unfold qbf at h ⊢
 by_cases h1:(ask fs (qd9 32 t)).2=0
 ·obtain⟨op,x,z,a,ho,hw,_,_,_,e⟩:=Qb7 h1
  obtain⟨h0,ht⟩:=first_op hw
  rw[h1] at h ⊢
  by_cases h2:(qbp l (ask fs (qd9 32 t)).1).2.2.2=0
  ·rw[qfw h2]
   have hop:(ask fs (qd9 32 t)).1.op=op:=by rw[e];rfl
   by_cases h3:op=116∨op=120
   ·left
    show (qbp l _).1=l
    have hm:(qaa l).2=0:=by
     by_cases hm:(qaa l).2=0
     ·exact hm
     ·rw[qkn (by rw[hop];exact ho) hm] at h2
      exact absurd h2 hm
    rcases h3 with h3|h3
    ·rw[qsn hm (by rw[hop];exact h3)]
    ·rw[qsp hm (by rw[hop];exact h3)]
   ·right
    refine⟨h0,by rw[ht];exact fun e=>h3 (.inr e),by rw[ht];exact fun e=>h3 (.inl e),?_⟩
    show outL _ _ _=_
    unfold outL
    rw[hop,if_neg (fun e=>h3 (.inl e)),if_neg (fun e=>h3 (.inr e))]
  ·rw[qf7 h2] at h
   exact absurd h h2
 ·rw[qh1 h1] at h
  exact absurd h h1
theorem errors12 (w:World)(hG:qcj w)(A:Option Addr)(n c:Nat)(l:List UInt8)(hr:JB.Rd w w.heap.size A n l)(hnc:n≤c)(hcm:c≤maxLen)(F:Option Addr)(fn fc:Nat)(fs:List Mem)(hF:qg9 w F fn fs)(s:ByteArray):
 Calls Tryz.prog 5 #[.slice A n c,.slice F fn fc,.string s] w fun e w'=>e=.returned (.bool true)∧Below w.heap.size w w':=by
 have Hr:=hid hr.1
 have HFB:=hid hF
 have Hnc:=hid (And.intro hnc hcm)
 have FB:=hid fun (W:World) (h:Below w.heap.size w W)=>h
 have FG:=hid fun (W:World) (h:Below w.heap.size w W)=>hG.on h
 have FA:=hid fun (W:World) (h:Below w.heap.size w W)=>(hr.below h).more h.size
 have FF:=hid fun (W:World) (h:Below w.heap.size w W)=>(hF.1.below h).more h.size
 clear hG hr hF hnc hcm
 go_enter Tryz.func5,Tryz.ntmps5
 go_wp2_with fail
 refine (qaq _ (FG.out w zjb)).mono ?_
 rintro e v1 ⟨rfl,b1⟩
 replace FB:=zjF FB b1
 replace FG:=zjF FG b1
 replace FA:=zjF FA b1
 replace FF:=zjF FF b1
 clear b1
 by_cases hn:5000<n
 ·have hni:(5000:Int)<(n:Int):=by omega
  go_wp2_with fail
  refine (qaq _ (FG.out v1 zjb)).mono ?_
  rintro e v9 ⟨rfl,bq⟩
  go_wp2_with fail
  go_ret
  exact⟨rfl,(FB.out v1 zjb).trans (bq.mono (FB.out v1 zjb).size)⟩
 have hni:¬(5000:Int)<(n:Int):=by omega
 have HX:=hid (qiu _ F fn fc fs s v1 (FF.out v1 zjb) zjn)
 go_wp2_with fail
 refine HX.out.mono ?_
 rintro e v2 ⟨rfl,b2⟩
 replace FB:=zjF FB b2
 replace FG:=zjF FG b2
 replace FA:=zjF FA b2
 replace FF:=zjF FF b2
 clear HX
 clear b2
 cases hf:qw4 fs s
 case false=>
  go_wp2_with fail
  refine (qaq _ (FG.out v2 zjb)).mono ?_
  rintro e v9 ⟨rfl,bq⟩
  go_wp2_with fail
  go_ret
  exact⟨rfl,(FB.out v2 zjb).trans (bq.mono (FB.out v2 zjb).size)⟩
 obtain⟨hok,hfn⟩:=qkq HFB.out hf
 have HFk:=hid hok
 have HSc:=hid (qwc (l:=l) (by have:=Hr.out;omega) hok hf)
 have Hsz:Hid (s.size≤1000):=hid (qd3 hf).2.2.1
 have HLl:Hid ((qag s).length≤12):=hid (qd3 hf).2.2.2
 obtain⟨ls,hls⟩:∃ls,qag s=ls:=⟨_,rfl⟩
 have Hls:=hid hls
 clear hf hok hls
 have HX:=hid (qjf s v2 (by have:=Hsz.out;omega))
 rw[Hls.out] at HX
 go_wp2_with fail
 refine HX.out.mono ?_
 rintro e v3 ⟨L3,m3,q3,rfl,h3,_,_,b3⟩
 replace FB:=zjF FB b3
 replace FG:=zjF FG b3
 replace FA:=zjF FA b3
 replace FF:=zjF FF b3
 have F1:=hid fun (W:World) (h:Below v3.heap.size v3 W)=>(h3.below h).more h.size
 clear HX b3 h3
 have Hm3:Hid (ls.length=m3):=hid (F1.out v3 zjb).1
 have hm9:m3≤12:=by have:=Hm3.out;have:=HLl.out;rw[Hls.out] at this;omega
 by_cases h1:m3=1
 case neg=>
  have h1i:((m3:Int) !=1)=true:=by rw[bne_iff_ne];omega
  clear h1
  go_wp2_with fail
  refine (qaq _ (FG.out v3 zjb)).mono ?_
  rintro e v9 ⟨rfl,bq⟩
  go_wp2_with fail
  go_ret
  exact⟨rfl,(FB.out v3 zjb).trans (bq.mono (FB.out v3 zjb).size)⟩
 have h1i:((m3:Int) !=1)=false:=by rw[h1];rfl
 have hlt:0<ls.length:=by have:=Hm3.out;omega
 clear F1
 have HX:=hid (qjf s v3 (by have:=Hsz.out;omega))
 rw[Hls.out] at HX
 go_wp2_with fail
 refine HX.out.mono ?_
 rintro e v4 ⟨L4,m4,q4,rfl,h4,_,_,b4⟩
 replace FB:=zjF FB b4
 replace FG:=zjF FG b4
 replace FA:=zjF FA b4
 replace FF:=zjF FF b4
 have F1:=hid fun (W:World) (h:Below v4.heap.size v4 W)=>(h4.below h).more h.size
 clear HX b4 h4
 have h40:(0:Int)<(m4:Int):=by have h2:=(F1.out v4 zjb).1;omega
 obtain⟨t,ht⟩:∃t,ls[0]'hlt=t:=⟨_,rfl⟩
 have HTz:Hid (t.size≤1000):=hid (by rw[←ht];exact HSc.out.l _ (by rw[Hls.out];exact List.getElem_mem hlt))
 have HBk:Hid (BOk l):=hid (HSc.out.sml.bok (by omega) (by omega))
 obtain⟨LX,hLX⟩:∃LX,qbf l fs t=LX:=⟨_,rfl⟩
 have HLX:=hid hLX
 have HLb:Hid (LX.1.length≤99000∧LX.2.1.length≤200):=hid (by rw[←hLX];exact⟨(qn5 HSc.out.sml (by omega) (by omega) HFk.out HTz.out).len,qn6 HBk.out.n fs t⟩)
 have HLe:=hid (lineS_e l fs t)
 have HLr:=hid (fun h=>Qbh (l:=l) (fs:=fs) (t:=t) h)
 have HLf:=hid (fun h=>qy1 (l:=l) (fs:=fs) (t:=t) h)
 rw[hLX] at HLe HLr HLf
 clear hLX h1
 obtain⟨b0,o0,rfl,_,y0⟩:=(F1.out v4 zjb).2 0 hlt
 rw[ht,Nat.add_zero] at y0
 have HX:=hid (qiv A n c l F fn fc fs t v4 (FG.out v4 zjb) (FA.out v4 zjb) Hnc.out.1 Hnc.out.2 HBk.out (FF.out v4 zjb) HFk.out (by omega) HTz.out)
 rw[HLX.out] at HX
 go_wp2_with fail
 refine HX.out.mono ?_
 rintro e v5 ⟨A5,n5,c5,B5,k5,d5,rfl,o5,s5,b5⟩
 replace FB:=zjF FB b5
 replace FG:=zjF FG b5
 replace FA:=zjF FA b5
 replace FF:=zjF FF b5
 replace F1:=zjF F1 b5
 obtain⟨_,_,ee,hr5,hn5,hm5⟩:=o5.reads
 injection ee with ee2 _ ee3
 subst ee2 ee3
 have G1:=hid fun (W:World) (h:Below v5.heap.size v5 W)=>(hr5.below h).more h.size
 have Hn5:=hid (And.intro hn5 hm5)
 clear hr5 hn5 hm5
 have G2:=hid fun (W:World) (h:Below v5.heap.size v5 W)=>(s5.below h).more h.size
 clear HX b5 s5 o5
 clear y0
 obtain⟨zz,hzz⟩:∃zz,LX.2.2=zz:=⟨_,rfl⟩
 have HZ:=hid hzz
 rw[hzz] at HLe HLr ⊢
 clear hzz
 by_cases hz:zz=0
 case neg=>
  have hzb:(zz !=0)=true:=by simpa using hz
  have HLR:=hid (HLr.out hz)
  obtain⟨k,rfl⟩:∃k:Nat,zz=(k:Int):=⟨zz.toNat,by have:=HLe.out.1;omega⟩
  have hk:k<9223372036854775808:=by have:=HLe.out.2;omega
  have HTx:=hid (fun W=>JD.text_any 10 (by decide) k hk W)
  have hlen:(tx 10 k).length≤63:=by rw[JD.qbd (by omega)];exact JD.qhs (by omega) (by omega)
  have hX1:LX.1=l:=by rw[HLR.out]
  have hX2:LX.2.1=[⟨#[101,114,114,111,114,32]⟩++⟨(tx 10 k).toArray⟩]:=by rw[HLR.out,←qwb]
  have HX12:=hid (And.intro hX1 hX2)
  clear hX1 hX2 hk hz HLe HLr HLf HLR
  have HX:=hid (JD.qiy _ rfl _ _ A5 A n5 c5 n c LX.1 l v5 (G1.out v5 zjb) (FA.out v5 zjb) (by have:=(G1.out v5 zjb).1;have:=HLb.out.1;omega))
  rw[HX12.out.1,show (l==l)=true from by simp] at HX
  go_wp2_with fail
  refine HX.out.mono ?_
  rintro e v6 ⟨rfl,mm,hm⟩
  have bb:=JD.qa4 (K:=v5.heap.size) v5 mm
  rw[←hm] at bb
  replace FB:=zjF FB bb
  replace FG:=zjF FG bb
  replace FA:=zjF FA bb
  replace FF:=zjF FF bb
  replace F1:=zjF F1 bb
  replace G1:=zjF G1 bb
  replace G2:=zjF G2 bb
  clear HX bb hm
  go_wp2_with fail
  refine (HTx.out v6).mono ?_
  rintro e v7 ⟨rfl,mm,hm⟩
  have bb:=JD.qa4 (K:=v6.heap.size) v6 mm
  rw[←hm] at bb
  replace FB:=zjF FB bb
  replace FG:=zjF FG bb
  replace FA:=zjF FA bb
  replace FF:=zjF FF bb
  replace F1:=zjF F1 bb
  replace G1:=zjF G1 bb
  replace G2:=zjF G2 bb
  clear HTx bb hm
  have ba:=(Below.refl v7.heap.size v7).alloc zjn (.cells #[.string (⟨#[101,114,114,111,114,32]⟩++⟨(tx 10 k).toArray⟩)] 9)
  have hrd:=JS.Rd.lit v7 [⟨#[101,114,114,111,114,32]⟩++⟨(tx 10 k).toArray⟩] #[.string (⟨#[101,114,114,111,114,32]⟩++⟨(tx 10 k).toArray⟩)] rfl 1 rfl
  have HX:=hid (JN.qeb _ _ B5 (some ⟨v7.heap.size,0,none⟩) k5 d5 1 1 LX.2.1 [⟨#[101,114,114,111,114,32]⟩++⟨(tx 10 k).toArray⟩] (v7.alloc (.cells #[.string (⟨#[101,114,114,111,114,32]⟩++⟨(tx 10 k).toArray⟩)] 9)) (G2.out _ ba) hrd (by have:=(G2.out _ ba).1;have:=HLb.out.2;omega))
  rw[HX12.out.2,show ∀x:List ByteArray,JN.eqs x x=true from fun x=>JN.qfx.2 rfl] at HX
  have HBa:=hid ba
  clear ba hrd
  go_wp2_with fail
  refine HX.out.mono ?_
  rintro e v8 ⟨rfl,mm,hm⟩
  have bb:=HBa.out.trans (JD.qa4 (K:=v7.heap.size) (v7.alloc (.cells #[.string (⟨#[101,114,114,111,114,32]⟩++⟨(tx 10 k).toArray⟩)] 9)) mm)
  rw[←hm] at bb
  replace FB:=zjF FB bb
  replace FG:=zjF FG bb
  replace FA:=zjF FA bb
  replace FF:=zjF FF bb
  replace F1:=zjF F1 bb
  replace G1:=zjF G1 bb
  replace G2:=zjF G2 bb
  clear HX HBa bb hm
  go_wp2_with fail
  go_ret
  exact⟨rfl,(FB.out v8 zjb)⟩
 subst hz
 have HLF:=hid (HLf.out HZ.out)
 clear HLf HLr HLe
 obtain⟨sm,hsm⟩:∃sm,(LX.1==l)=sm:=⟨_,rfl⟩
 have HSM:=hid hsm
 have HX:=hid (JD.qiy _ rfl _ _ A5 A n5 c5 n c LX.1 l v5 (G1.out v5 zjb) (FA.out v5 zjb) (by have:=(G1.out v5 zjb).1;have:=HLb.out.1;omega))
 rw[hsm] at HX
 clear hsm
 go_wp2_with fail
 refine HX.out.mono ?_
 rintro e v6 ⟨rfl,mm,hm⟩
 have bb:=JD.qa4 (K:=v5.heap.size) v5 mm
 rw[←hm] at bb
 replace FB:=zjF FB bb
 replace FG:=zjF FG bb
 replace FA:=zjF FA bb
 replace FF:=zjF FF bb
 replace F1:=zjF F1 bb
 replace G1:=zjF G1 bb
 replace G2:=zjF G2 bb
 clear HX bb hm
 cases sm
 case true=>
  go_wp2_with fail
  go_ret
  exact⟨rfl,(FB.out v6 zjb)⟩
 obtain⟨h0,h120,h116,hout⟩:∃(h0:0<t.size),t[0]≠120∧t[0]≠116∧LX.2.1=[okN]:=by
  rcases HLF.out with e|e
  ·rw[e] at HSM;exact absurd HSM.out (by simp)
  ·exact e
 have h0i:(0:Int)<(t.size:Int):=by omega
 have q1:((t[0].toNat:Int) !=120)=true:=by rw[bne_iff_ne];exact fun e=>h120 (UInt8.toNat_inj.1 (have h9:t[0].toNat=120:=(by omega);h9))
 have q2:((t[0].toNat:Int) !=116)=true:=by rw[bne_iff_ne];exact fun e=>h116 (UInt8.toNat_inj.1 (have h9:t[0].toNat=116:=(by omega);h9))
 have HO:=hid hout
 clear h120 h116 hout HLF HSM
 have ba:=(Below.refl v6.heap.size v6).alloc zjn (.cells #[.string ⟨#[111,107]⟩] 9)
 have hrd:=JS.Rd.lit v6 [okN] #[.string ⟨#[111,107]⟩] rfl 1 rfl
 have HX:=hid (JN.qeb _ _ B5 (some ⟨v6.heap.size,0,none⟩) k5 d5 1 1 LX.2.1 [okN] (v6.alloc (.cells #[.string ⟨#[111,107]⟩] 9)) (G2.out _ ba) hrd (by have:=(G2.out _ ba).1;have:=HLb.out.2;omega))
 rw[HO.out,show JN.eqs [okN] [okN]=true from JN.qfx.2 rfl] at HX
 have HBa:=hid ba
 clear ba hrd
 go_wp2_with fail
 refine HX.out.mono ?_
 rintro e v8 ⟨rfl,mm,hm⟩
 have bb:=HBa.out.trans (JD.qa4 (K:=v6.heap.size) (v6.alloc (.cells #[.string ⟨#[111,107]⟩] 9)) mm)
 rw[←hm] at bb
 replace FB:=zjF FB bb
 replace FG:=zjF FG bb
 replace FA:=zjF FA bb
 replace FF:=zjF FF bb
 replace F1:=zjF F1 bb
 replace G1:=zjF G1 bb
 replace G2:=zjF G2 bb
 clear HX HBa bb hm
 go_wp2_with fail
 go_ret
 exact⟨rfl,(FB.out v8 zjb)⟩
end Lsc
end Go.Proofs.YtlmolmohhpdhdaaGreatDoor
