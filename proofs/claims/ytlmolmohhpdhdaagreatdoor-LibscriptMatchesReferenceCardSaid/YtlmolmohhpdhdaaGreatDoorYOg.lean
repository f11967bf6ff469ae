/-
  objsym: reading a
-/
import Derived.Test.YtlmolmohhpdhdaaGreatDoorYOb
set_option maxRecDepth 100000
set_option maxHeartbeats 16000000
set_option linter.all false
namespace Go.Proofs.YtlmolmohhpdhdaaGreatDoor
open Go.RowKit Go.Proofs Tryz
namespace Obj
open JB
open JS (Oth)
theorem Rdr.below {w w':World}{R K:Nat}{l:List UInt8}(h:Rdr w R K l)(hb:Below w.heap.size w w')(hK:K<=w.heap.size):Rdr w' R K l:=by
 obtain⟨b,o,m,c,hrow,hr,hm,hc⟩:=h;exact⟨b,o,m,c,(hb.block R (zla.1 hrow).1).trans hrow,hr.below (hb.mono hK),hm,hc⟩
theorem Rdr.set {w:World}{R K g:Nat}{l:List UInt8}(h:Rdr w R K l)(hne:R≠g)(hg:K<=g)(i:Nat)(v:Value):Rdr (w.setCell ⟨g,i,none⟩ v) R K l:=by
 obtain⟨b,o,m,c,hrow,hr,hm,hc⟩:=h;exact⟨b,o,m,c,(zly w ⟨g,i,none⟩ v R hne).trans hrow,hr.below ((Below.refl K w).setCell (p:=⟨g,i,none⟩) hg v),hm,hc⟩
theorem Rdr.lt {w:World}{R K:Nat}{l:List UInt8}(h:Rdr w R K l):R<w.heap.size:=by
 obtain⟨b,o,m,c,hrow,_⟩:=h;exact (zla.1 hrow).1
theorem qea {w W:World}{R g:Nat}(h:w.grownBy W (some R))(hg:w.heap.size<=g)(i:Nat)(v:Value):w.grownBy (W.setCell ⟨g,i,none⟩ v) (some R):=
 ⟨h.os,h.tape,h.output,by have:=h.size;simpa using this,fun k hk hne=>(zly W ⟨g,i,none⟩ v k (by show k≠g;omega)).trans (h.block k hk hne)⟩
theorem qk3 {w w':World}{R:Nat}(h:Below w.heap.size w w'):w.grownBy w' (some R):=⟨h.os,h.tape,h.output,h.size,fun k hk _=>h.block k hk⟩
def ReadsSym (R K:Nat)(l:List UInt8)(w:World)(e:Ending)(w':World):Prop:=
 w.grownBy w' (some R)/\((qtz l/\e=qp6 2)∨(¬qtz l/\e=.returned (rdS l).val/\Rdr w' R K (l.drop (10+kS l))))
theorem qxd (w:World)(R K:Nat)(l:List UInt8)(h:Rdr w R K l)(hKR:K<=R):
 Calls prog 239 #[.pointer (some ⟨R,0,none⟩)] w (ReadsSym R K l w):=by
 have hRw:=h.lt;have hb0:=((Below.refl w.heap.size w).alloc zjn (.cells #[.string ⟨#[]⟩,.int .i64 0,.int .i64 0,.int .i64 0] 174)).alloc (by simp) (.cells #[.string ⟨#[]⟩,.int .i64 0,.int .i64 0,.int .i64 0] 174);have hN:=(zlz (w.alloc (.cells #[.string ⟨#[]⟩,.int .i64 0,.int .i64 0,.int .i64 0] 174)) (.cells #[.string ⟨#[]⟩,.int .i64 0,.int .i64 0,.int .i64 0] 174) w.heap.size (by simp)).trans (zld w _);have hM:=zld (w.alloc (.cells #[.string ⟨#[]⟩,.int .i64 0,.int .i64 0,.int .i64 0] 174)) (.cells #[.string ⟨#[]⟩,.int .i64 0,.int .i64 0,.int .i64 0] 174);rw[zlr] at hM;have hR1:=h.below hb0 (by omega);have hG1:=qk3 (R:=R) hb0;go_enter func239,ntmps239;go_wp2_with fail
 generalize (w.alloc (.cells #[.string ⟨#[]⟩,.int .i64 0,.int .i64 0,.int .i64 0] 174)).alloc (.cells #[.string ⟨#[]⟩,.int .i64 0,.int .i64 0,.int .i64 0] 174)=w0 at *;clear hb0 h;by_cases h1:l.length<1
 ·refine (qk2 w0 R K l hR1 (by omega)).mono ?_;rintro e w1 ⟨rfl,rfl⟩;exact⟨rfl,hG1,.inl ⟨by unfold qtz;omega,rfl⟩⟩
 refine (qp7 w0 R K l hR1 hKR (by omega)).mono ?_;rintro e w1 ⟨rfl,hRa,hga⟩;rw[show l.drop 1=l.drop 1 from rfl] at hRa;obtain⟨v1,hv⟩:∃v:Nat,v=(l.getD 0 0).toNat:=⟨_,rfl⟩;rw[<-hv];have Hv1:=hid hv;have hGa:=hG1.trans hga;have hNa:=(hga.block w.heap.size (zla.1 hN).1 (fun e=>by injection e with e;omega)).trans hN;have hMa:=(hga.block (w.heap.size+1) (zla.1 hM).1 (fun e=>by injection e with e;omega)).trans hM;clear hN hM hga hG1 hR1 hv;have hM:=zle w1 (w.heap.size+1) 1 _ _ (.int .i64 (v1:Int)) hMa;have hN:=(zly w1 ⟨w.heap.size+1,1,none⟩ (.int .i64 (v1:Int)) w.heap.size (by show w.heap.size≠w.heap.size+1;omega)).trans hNa;have hR2:=hRa.set (g:=w.heap.size+1) (by omega) (by omega) 1 (.int .i64 (v1:Int));have hG2:=qea hGa (g:=w.heap.size+1) (by omega) 1 (.int .i64 (v1:Int));have qa:=zlc w1 (w.heap.size+1) 1 _ _ _ hMa;have fa:=fun o=>zlp w1 (w.heap.size+1) o _ _ hMa;clear hRa hGa hNa hMa;go_wp2_with fail
 generalize w1.setCell ⟨w.heap.size+1,1,none⟩ (.int .i64 (v1:Int))=W2 at *;clear qa fa;by_cases h2:l.length<5
 ·refine (qf9 W2 R K (l.drop 1) hR2 (by rw[zlm];omega)).mono ?_;rintro e w1 ⟨rfl,rfl⟩;exact⟨rfl,hG2,.inl ⟨by unfold qtz;omega,rfl⟩⟩
 refine (qgu W2 R K (l.drop 1) hR2 hKR (by rw[zlm];omega)).mono ?_;rintro e w2 ⟨rfl,hRa,hga⟩;rw[List.drop_drop] at hRa;obtain⟨v2,hv⟩:∃v:Nat,v=n4 (l.drop 1):=⟨_,rfl⟩;rw[<-hv];have Hv2:=hid hv;have hGa:=hG2.trans hga;have hNa:=(hga.block w.heap.size (zla.1 hN).1 (fun e=>by injection e with e;omega)).trans hN;have hMa:=(hga.block (w.heap.size+1) (zla.1 hM).1 (fun e=>by injection e with e;omega)).trans hM;clear hN hM hga hG2 hR2 hv;have hM:=zle w2 (w.heap.size+1) 2 _ _ (.int .i64 (v2:Int)) hMa;have hN:=(zly w2 ⟨w.heap.size+1,2,none⟩ (.int .i64 (v2:Int)) w.heap.size (by show w.heap.size≠w.heap.size+1;omega)).trans hNa;have hR3:=hRa.set (g:=w.heap.size+1) (by omega) (by omega) 2 (.int .i64 (v2:Int));have hG3:=qea hGa (g:=w.heap.size+1) (by omega) 2 (.int .i64 (v2:Int));have qa:=zlc w2 (w.heap.size+1) 2 _ _ _ hMa;have fa:=fun o=>zlp w2 (w.heap.size+1) o _ _ hMa;clear hRa hGa hNa hMa;go_wp2_with fail
 generalize w2.setCell ⟨w.heap.size+1,2,none⟩ (.int .i64 (v2:Int))=W3 at *;clear qa fa;by_cases h3:l.length<9
 ·refine (qf9 W3 R K (l.drop (1+4)) hR3 (by rw[zlm];omega)).mono ?_;rintro e w1 ⟨rfl,rfl⟩;exact⟨rfl,hG3,.inl ⟨by unfold qtz;omega,rfl⟩⟩
 refine (qgu W3 R K (l.drop (1+4)) hR3 hKR (by rw[zlm];omega)).mono ?_;rintro e w3 ⟨rfl,hRa,hga⟩;rw[List.drop_drop] at hRa;obtain⟨v3,hv⟩:∃v:Nat,v=n4 (l.drop (1+4)):=⟨_,rfl⟩;rw[<-hv];have Hv3:=hid hv;have hGa:=hG3.trans hga;have hNa:=(hga.block w.heap.size (zla.1 hN).1 (fun e=>by injection e with e;omega)).trans hN;have hMa:=(hga.block (w.heap.size+1) (zla.1 hM).1 (fun e=>by injection e with e;omega)).trans hM;clear hN hM hga hG3 hR3 hv;have hM:=zle w3 (w.heap.size+1) 3 _ _ (.int .i64 (v3:Int)) hMa;have hN:=(zly w3 ⟨w.heap.size+1,3,none⟩ (.int .i64 (v3:Int)) w.heap.size (by show w.heap.size≠w.heap.size+1;omega)).trans hNa;have hR4:=hRa.set (g:=w.heap.size+1) (by omega) (by omega) 3 (.int .i64 (v3:Int));have hG4:=qea hGa (g:=w.heap.size+1) (by omega) 3 (.int .i64 (v3:Int));have qa:=zlc w3 (w.heap.size+1) 3 _ _ _ hMa;have fa:=fun o=>zlp w3 (w.heap.size+1) o _ _ hMa;clear hRa hGa hNa hMa;go_wp2_with fail
 generalize w3.setCell ⟨w.heap.size+1,3,none⟩ (.int .i64 (v3:Int))=W4 at *;clear qa fa;by_cases h4:l.length<10
 ·refine (qk2 W4 R K (l.drop (1+4+4)) hR4 (by rw[zlm];omega)).mono ?_;rintro e w1 ⟨rfl,rfl⟩;exact⟨rfl,hG4,.inl ⟨by unfold qtz;omega,rfl⟩⟩
 refine (qp7 W4 R K (l.drop (1+4+4)) hR4 hKR (by rw[zlm];omega)).mono ?_;rintro e w4 ⟨rfl,hRa,hga⟩;rw[List.drop_drop] at hRa;obtain⟨v4,hv⟩:∃v:Nat,v=((l.drop (1+4+4)).getD 0 0).toNat:=⟨_,rfl⟩;rw[<-hv];have Hv4:=hid hv;have hGa:=hG4.trans hga;have hNa:=(hga.block w.heap.size (zla.1 hN).1 (fun e=>by injection e with e;omega)).trans hN;have hMa:=(hga.block (w.heap.size+1) (zla.1 hM).1 (fun e=>by injection e with e;omega)).trans hM;clear hN hM hga hG4 hR4 hv
 have hk:kS l=v4:=by
  rw[Hv4.out];unfold kS;rw[List.getD_eq_getElem?_getD,List.getD_eq_getElem?_getD,List.getElem?_drop]
 have Hk:=hid hk;have hM:=hMa;have hN:=hNa;have hR5:=hRa;have hG5:=hGa;clear hRa hGa hNa hMa hk;go_wp2_with fail
 by_cases h5:l.length<10+v4
 ·refine (qk1 w4 R K (l.drop (1+4+4+1)) hR5 v4 (by rw[zlm];omega)).mono ?_;rintro e w1 ⟨rfl,rfl⟩;exact⟨rfl,hG5,.inl ⟨by unfold qtz;rw[Hk.out];omega,rfl⟩⟩
 refine (qsr w4 R K (l.drop (1+4+4+1)) hR5 hKR v4 (by rw[zlm];omega)).mono ?_;rintro e w5 ⟨b,o,c,rfl,hrd,hvc,hRa,hga⟩;have hGa:=hG5.trans hga;have hNa:=(hga.block w.heap.size (zla.1 hN).1 (fun e=>by injection e with e;omega)).trans hN;have hMa:=(hga.block (w.heap.size+1) (zla.1 hM).1 (fun e=>by injection e with e;omega)).trans hM;clear hN hM hga hG5 hR5;have e10:1+4+4+1=10:=rfl;rw[e10] at hrd hRa;rw[List.drop_drop] at hRa;obtain⟨ls,hls⟩:∃ls,ls=(l.drop 10).take v4:=⟨_,rfl⟩;rw[<-hls] at hrd
 have hx:rdS l=⟨⟨ls.toArray⟩,(v1:Int),(v2:Int),(v3:Int)⟩:=by
  unfold rdS;rw[Hk.out,Hv1.out,Hv2.out,Hv3.out,hls];rfl
 have Hx:=hid hx;have hN6:=(zly w5 ⟨w.heap.size+1,0,none⟩ (.string ⟨ls.toArray⟩) w.heap.size (by show w.heap.size≠w.heap.size+1;omega)).trans hNa;have hM6:=zle w5 (w.heap.size+1) 0 _ _ (.string ⟨ls.toArray⟩) hMa;have hl:=qui _ _ _ (qn8 hN6 (.string ⟨ls.toArray⟩) (.int .i64 (v1:Int)) (.int .i64 (v2:Int)) (.int .i64 (v3:Int))) rfl;have hRz:=((((hRa.set (g:=w.heap.size+1) (by omega) (by omega) 0 (.string ⟨ls.toArray⟩)).set (g:=w.heap.size) (by omega) (by omega) 0 (.string ⟨ls.toArray⟩)).set (g:=w.heap.size) (by omega) (by omega) 1 (.int .i64 (v1:Int))).set (g:=w.heap.size) (by omega) (by omega) 2 (.int .i64 (v2:Int))).set (g:=w.heap.size) (by omega) (by omega) 3 (.int .i64 (v3:Int));have hGz:=qea (qea (qea (qea (qea hGa (g:=w.heap.size+1) (by omega) 0 (.string ⟨ls.toArray⟩)) (g:=w.heap.size) (by omega) 0 (.string ⟨ls.toArray⟩)) (g:=w.heap.size) (by omega) 1 (.int .i64 (v1:Int))) (g:=w.heap.size) (by omega) 2 (.int .i64 (v2:Int))) (g:=w.heap.size) (by omega) 3 (.int .i64 (v3:Int));have m0:=zjc (w.heap.size+1) 0 hMa;have mf:=fun o=>zlp w5 (w.heap.size+1) o _ _ hMa;have Hrd:=hid hrd;have zzg:=fun k=>zjc w.heap.size k hN6;have gf:=fun o=>zlp _ w.heap.size o _ _ hN6;have zzk:=fun k=>zjc (w.heap.size+1) k hM6;have Hz:=hid (And.intro hRz hGz);unfold put4 at hl;clear hrd hls hx hRa hGa hNa hMa hN6 hM6 hRz hGz;go_wp2_with (first|(refine qay _ _ _ _ _ _ Hrd.out rfl (.tmp 16) rfl rfl ?_))
 refine zlf (v:=.agg #[.string ⟨ls.toArray⟩,.int .i64 (v1:Int),.int .i64 (v2:Int),.int .i64 (v3:Int)]) (by simp[results,results239,asAddr,hl]) rfl ⟨Hz.out.2,.inr ⟨by unfold qtz;rw[Hk.out];omega,by rw[Hx.out];rfl,by rw[Hk.out];exact Hz.out.1⟩⟩
theorem Rdr.keep {w w':World}{R K M:Nat}{l:List UInt8}(h:Rdr w R K l)(hb:Below M w w')(hR:R<M)(hK:K<=M):Rdr w' R K l:=by
 obtain⟨b,o,m,c,hrow,hr,hm,hc⟩:=h;exact⟨b,o,m,c,(hb.block R hR).trans hrow,hr.below (hb.mono hK),hm,hc⟩
theorem Rdr.grown {w w':World}{R K q:Nat}{l:List UInt8}(h:Rdr w R K l)(hg:w.grownBy w' (some q))(hq:R≠q)(hK:K<=q)(hw:K<=w.heap.size):Rdr w' R K l:=by
 obtain⟨b,o,m,c,hrow,hr,hm,hc⟩:=h;exact⟨b,o,m,c,(hg.block R (zla.1 hrow).1 (fun e=>by injection e with e;exact hq e)).trans hrow,hr.below ((Below.refl K w).grown hg hw fun k hk=>by injection hk with hk;omega),hm,hc⟩
theorem Nms.block {w:World}{b n:Nat}{xs:List Sy}(h:Nms w b n xs):∃es clock,w.heap[b]?=some (.map es clock):=by
 obtain⟨D,⟨es,clock,hb,_⟩,_⟩:=h;exact⟨es,clock,hb⟩
theorem Nms.same {w w':World}{b n:Nat}{xs:List Sy}(h:Nms w b n xs)(hs:w'.heap[b]?=w.heap[b]?):Nms w' b n xs:=by
 obtain⟨D,⟨es,clock,hb,r⟩,h2⟩:=h;exact⟨D,⟨es,clock,hs.trans hb,r⟩,h2⟩
theorem Nms.oth {w w':World}{b n:Nat}{xs:List Sy}{t:TypeId}(h:Nms w b n xs)(ho:Oth t w w'):Nms w' b n xs:=by
 obtain⟨es,clock,hb⟩:=h.block;exact h.same ((ho b _ hb (fun _ _ e=>by cases e)).trans hb.symm)
theorem Qdf {t:TypeId}{sz:Nat}{w w':World}{K n R:Nat}{v:Value}{cs:List Value}(h:JC.Own t sz w K v n cs)(hg:w.grownBy w' (some R))(hR:R<K):JC.Own t sz w' K v n cs:=
 h.keep fun g hk hlt=>hg.block g hlt (fun e=>by injection e with e;omega)
theorem own_map {t:TypeId}{sz:Nat}{w w':World}{K n b:Nat}{v:Value}{cs:List Value}(h:JC.Own t sz w K v n cs)(hg:w.grownBy w' (some b))(hb:∃es clock,w.heap[b]?=some (.map es clock)):JC.Own t sz w' K v n cs:=by
 refine⟨h.1,?_⟩;rcases h.2 with h|⟨g,cap,cur,m,hv,hg1,hh,r⟩
 ·exact .inl h
 ·refine .inr ⟨g,cap,cur,m,hv,hg1,(hg.block g (zla.1 hh).1 (fun e=>?_)).trans hh,r⟩;injection e with e;subst e;obtain⟨es,clock,hb⟩:=hb;rw[hh] at hb;cases hb
theorem Qdg:JC.Qar 168 174 4 40 (.agg #[.string ⟨#[]⟩,.int .i64 0,.int .i64 0,.int .i64 0]):=⟨by kernel_rfl,by kernel_rfl,by kernel_rfl,by decide⟩
theorem Qay {w W W':World}{R b:Nat}(h:w.grownBy W (some R))(hg:W.grownBy W' (some b))(hb:w.heap.size<=b):w.grownBy W' (some R):=
 ⟨hg.os.trans h.os,hg.tape.trans h.tape,hg.output.trans h.output,Nat.le_trans h.size hg.size,fun k hk hne=>(hg.block k (Nat.lt_of_lt_of_le hk h.size) (fun e=>by injection e with e;omega)).trans (h.block k hk hne)⟩
theorem grown_on {w W W':World}{R:Nat}(h:w.grownBy W (some R))(hb:Below w.heap.size W W'):w.grownBy W' (some R):=
 ⟨hb.os.trans h.os,hb.tape.trans h.tape,hb.output.trans h.output,Nat.le_trans h.size hb.size,fun k hk hne=>(hb.block k hk).trans (h.block k hk hne)⟩
def Qaz (R K:Nat)(l:List UInt8)(w:World)(e:Ending)(w':World):Prop:=
 w.grownBy w' (some R)/\((l.length<4/\e=qp6 2)∨(4<=l.length/\l.take 4≠qbd/\e=qp6 1)∨(4<=l.length/\l.take 4=qbd/\e=.returned (.tuple #[])/\Rdr w' R K (l.drop 4)))
theorem qss (w:World)(R K:Nat)(l:List UInt8)(h:Rdr w R K l)(hKR:K<=R):
 Calls prog 226 #[.pointer (some ⟨R,0,none⟩)] w (Qaz R K l w):=by
 by_cases h4:l.length<4
 ·have H:=hid (qk1 w R K l h 4 h4);go_enter func226,ntmps226;go_wp2_with fail
  refine H.out.mono ?_;rintro e w1 ⟨rfl,rfl⟩;exact⟨rfl,qk3 zjb,.inl ⟨h4,rfl⟩⟩
 ·have H:=hid (qsr w R K l h hKR 4 (by omega));by_cases hm:l.take 4=qbd
  ·have hb:(l.take 4==[79,66,74,49])=true:=by rw[beq_iff_eq];exact hm
   have HM:=hid hm;clear hm;go_enter func226,ntmps226;go_wp2_with fail
   refine H.out.mono ?_;rintro e w1 ⟨b,o,c,rfl,hr,hc,hR,hg⟩;obtain⟨t,ht⟩:∃t,l.take 4=t:=⟨_,rfl⟩;rw[ht] at hr hb;clear ht;go_wp2_with (first|(refine qay _ _ _ _ _ _ hr rfl (.tmp 3) rfl rfl ?_))
   refine zlf (results_none rfl _ _ _) rfl ⟨hg,.inr (.inr ⟨by omega,HM.out,rfl,hR⟩)⟩
  ·have hb:(l.take 4==[79,66,74,49])=false:=by rw[zls];exact hm
   have HM:=hid hm;clear hm;go_enter func226,ntmps226;go_wp2_with fail
   refine H.out.mono ?_;rintro e w1 ⟨b,o,c,rfl,hr,hc,hR,hg⟩;obtain⟨t,ht⟩:∃t,l.take 4=t:=⟨_,rfl⟩;rw[ht] at hr hb;clear ht;go_wp2_with (first|(refine qay _ _ _ _ _ _ hr rfl (.tmp 3) rfl rfl ?_))
   exact⟨rfl,hg,.inr (.inl ⟨by omega,HM.out,rfl⟩)⟩
def qn9 (l:List UInt8):Int×List Sy×List UInt8:=if l.length<4 then (2,[],[]) else if 65536<n4 l then (12,[],[]) else qn1 (n4 l) [] (l.drop 4)
def Qdh (R K:Nat)(l:List UInt8)(w:World)(e:Ending)(w':World):Prop:=
 w.grownBy w' (some R)/\(((qn9 l).1≠0/\e=qp6 (qn9 l).1)∨((qn9 l).1=0/\∃A c,e=.returned (.slice A (qn9 l).2.1.length c)/\JC.Own 174 4 w' w.heap.size (.slice A (qn9 l).2.1.length c) (qn9 l).2.1.length (qbq (qn9 l).2.1)/\Rdr w' R K (qn9 l).2.2))
theorem quj (w:World)(R K:Nat)(l:List UInt8)(h:Rdr w R K l)(hKR:K<=R):
 Calls prog 227 #[.pointer (some ⟨R,0,none⟩)] w (Qdh R K l w):=by
 have hRw:=h.lt;by_cases h4:l.length<4
 ·have H:=hid (qf9 w R K l h h4);have hd:qn9 l=(2,[],[]):=if_pos h4;go_enter func227,ntmps227;go_wp2_with fail
  refine H.out.mono ?_;rintro e w1 ⟨rfl,rfl⟩;exact⟨rfl,qk3 zjb,.inl ⟨by rw[hd];simp,by rw[hd];rfl⟩⟩
 ·have H:=hid (qgu w R K l h hKR (by omega));have hmm:=@run_makeMap prog;obtain⟨n,hn⟩:∃n,n=n4 l:=⟨_,rfl⟩;rw[<-hn] at H;have hd1:qn9 l=if 65536<n then (12,[],[]) else qn1 n [] (l.drop 4):=by unfold qn9;rw[if_neg h4,hn]
  have HD:=hid hd1;clear hn hd1;by_cases hbig:65536<n
  ·have hbi:(65536:Int)<(n:Int):=by omega
   have hd:qn9 l=(12,[],[]):=by rw[HD.out,if_pos hbig]
   go_enter func227,ntmps227;go_wp2_with fail
   refine H.out.mono ?_;rintro e w1 ⟨rfl,hR,hg⟩;go_wp2_with fail
   exact⟨rfl,hg,.inl ⟨by rw[hd];simp,by rw[hd];rfl⟩⟩
  ·have hbi:¬(65536:Int)<(n:Int):=by omega
   have hd:qn9 l=qn1 n [] (l.drop 4):=by rw[HD.out,if_neg hbig]
   have Hd:=hid hd;clear hd HD;go_enter func227,ntmps227;go_wp2_with fail
   refine H.out.mono ?_;rintro e w1 ⟨rfl,hR,hg⟩;have hsz:=hg.size;have hN0:=Nms.start w1;have hbm:=zjB w1 (.map #[] 0);have hR1:=hR.below hbm (by omega);have hg1:=hg.trans (qk3 hbm);go_wp2_with fail
   generalize w1.alloc (.map #[] 0)=w2 at *;generalize w1.heap.size=bm at *;clear hbm hR hg;go_loopw [4,14] (fun v i W=>∃(k:Nat)(A':Option Addr)(c':Nat)(acc:List Sy)(r:List UInt8),i=.int .i64 (k:Int)/\v=.slice A' k c'/\k<=n/\acc.length=k/\JC.Own 174 4 W w.heap.size (.slice A' k c') k (qbq acc)/\Nms W bm k acc/\Rdr W R K r/\w.grownBy W (some R)/\Hid (qn1 n [] (l.drop 4)=qn1 (n-k) acc r)) (fun _ i _=>n-(intOf i).toNat)
   case atStart=>exact⟨0,none,0,[],_,rfl,rfl,by omega,rfl,JC.Own.nil _ _ _ _,hN0,hR1,hg1,hid rfl⟩
   case round=>
    obtain⟨k,A',c',acc,r,rfl,rfl,hk,hacc,hO,hN,hR,hG,hD⟩:=hrel;have hszr:=hG.size;by_cases hlt:k<n
    ·obtain⟨j,hj⟩:∃j,n-k=j+1:=⟨n-k-1,by omega⟩;have HD:Hid (qn1 n [] (l.drop 4)=if qtz r then (2,[],[]) else if has acc (rdS r).name=true∨qb3 (rdS r)=false then (12,[],[]) else qn1 (n-(k+1)) (acc++[rdS r]) (r.drop (10+kS r))):=hid (by rw[hD.out,hj,show n-(k+1)=j by omega];rfl);clear hD hj;go_wp2_with fail
     refine (qxd _ R K r hR hKR).mono ?_;rintro e w3 ⟨hg3,hcase⟩;have hG3:=hG.trans hg3;rcases hcase with ⟨hc,rfl⟩|⟨hc,rfl,hR3⟩
     ·have hdd:qn9 l=(2,[],[]):=by rw[Hd.out,HD.out,if_pos hc]
      exact⟨rfl,hG3,.inl ⟨by rw[hdd];simp,by rw[hdd];rfl⟩⟩
     ·have HD1:Hid (qn1 n [] (l.drop 4)=if has acc (rdS r).name=true∨qb3 (rdS r)=false then (12,[],[]) else qn1 (n-(k+1)) (acc++[rdS r]) (r.drop (10+kS r))):=hid (HD.out.trans (if_neg hc))
      have hns:(rdS r).name.size<=1000000:=by
       show (str ((r.drop 10).take (kS r))).size<=_
       have hk8:kS r<256:=(r.getD 9 0).toNat_lt;rw[qat,zlu];omega
      have hO3:=Qdf hO hg3 hRw;have hN3:=hN.same (hg3.block bm (by obtain⟨es,clock,hb⟩:=hN.block;exact (zla.1 hb).1) (fun e=>by injection e with e;omega));have hbw3:bm<w3.heap.size:=by obtain⟨es,clock,hb⟩:=hN3.block;exact (zla.1 hb).1
      obtain⟨q,hq⟩:∃q,q=r.drop (10+kS r):=⟨_,rfl⟩;rw[<-hq] at HD1 hR3;clear HD hq hN hO hR hG hc hg3;generalize rdS r=x at *;obtain⟨x0,x1,x2,x3⟩:=x;simp only[Sy.val];simp only at hns;have hb34:=zjB w3 (.cells #[.string x0,.int .i64 x1,.int .i64 x2,.int .i64 x3] 174);have hrow4:=zld w3 (.cells #[.string x0,.int .i64 x1,.int .i64 x2,.int .i64 x3] 174);have hN4:=hN3.alloc (.cells #[.string x0,.int .i64 x1,.int .i64 x2,.int .i64 x3] 174);have hO4:=hO3.alloc (.cells #[.string x0,.int .i64 x1,.int .i64 x2,.int .i64 x3] 174);have hG4:=hG3.trans (qk3 hb34);have hR4:=hR3.below hb34 (by omega);have hsz4:(w3.alloc (.cells #[.string x0,.int .i64 x1,.int .i64 x2,.int .i64 x3] 174)).heap.size=w3.heap.size+1:=zlr _ _;go_wp2_with fail
      generalize w3.alloc (.cells #[.string x0,.int .i64 x1,.int .i64 x2,.int .i64 x3] 174)=w4 at *;refine (Qdc ⟨x0,x1,x2,x3⟩ bm k acc w4 hN4 (by unfold maxLen;simp only;omega) (by unfold maxLen;omega)).mono ?_;rintro e w5 ⟨rfl,hg5,hN5⟩;have hG5:=Qay hG4 hg5 hsz;have hO5:=own_map hO4 hg5 hN4.block;have hR5:=hR4.grown hg5 (by omega) (by omega) (by omega);have hrow5:=(hg5.block w3.heap.size (by omega) (fun e=>by injection e with e;omega)).trans hrow4;have zze:=fun k=>zjc w3.heap.size k hrow5;have hsz5:=hG5.size;clear hN3 hN4 hO3 hO4 hG3 hG4 hR3 hR4 hg5 hrow4 hrow5 hb34;cases hq:(!has acc x0&&qb3 ⟨x0,x1,x2,x3⟩)
      ·have hor:has acc x0=true∨qb3 ⟨x0,x1,x2,x3⟩=false:=by
        cases h1:has acc x0 with
        |true=>exact .inl rfl
        |false=>rw[h1] at hq;exact .inr (by simpa using hq)
       have hdd:qn9 l=(12,[],[]):=by rw[Hd.out,HD1.out,if_pos hor]
       have Hdd:=hid hdd;clear hdd hor hN5;go_wp2_with fail
       exact⟨rfl,hG5,.inl ⟨by rw[Hdd.out];simp,by rw[Hdd.out];rfl⟩⟩
      ·have hnor:¬(has acc x0=true∨qb3 ⟨x0,x1,x2,x3⟩=false):=by
        rw[zlx] at hq;rintro (h1|h1)
        ·rw[h1] at hq;exact absurd hq.1 (by simp)
        ·rw[h1] at hq;exact absurd hq.2 (by simp)
       have HD2:Hid (qn1 n [] (l.drop 4)=qn1 (n-(k+1)) (acc++[⟨x0,x1,x2,x3⟩]) q):=hid (HD1.out.trans (if_neg hnor));have hN6:=hN5 hq;clear hnor hq hN5 HD1;go_wp2_with (at_builtin;refine JC.qa4 Qdg w5 w.heap.size (.slice A' k c') k (qbq acc) hO5 hsz5 1 1 #[.string x0,.int .i64 x1,.int .i64 x2,.int .i64 x3] (0,0) rfl (by simp[Value.oneCell']) (by omega) (by omega) rfl (.tmp 23) (.tmp 25) rfl rfl rfl ?_;intro v6 w6 hown6 hb6 ho6 hf6;obtain⟨A6,c6,rfl,_⟩:=hown6.reads)
       have hN7:=hN6.oth ho6;have hR6:=hR5.keep hb6 hRw (by omega);have hG6:=grown_on hG5 hb6;have e4:qbq acc++[.string x0,.int .i64 x1,.int .i64 x2,.int .i64 x3]=qbq (acc++[⟨x0,x1,x2,x3⟩]):=by rw[qgs];rfl
       rw[e4] at hown6;clear e4;go_roundw
       ·exact⟨k+1,A6,c6,acc++[⟨x0,x1,x2,x3⟩],q,by go_num,rfl,by omega,by rw[zlb,hacc];rfl,hown6,hN7,hR6,hG6,HD2⟩
       ·simp[intOf];omega
    ·obtain rfl:k=n:=by omega
     have hdd:qn9 l=(0,acc,r):=by rw[Hd.out,hD.out,Nat.sub_self];rfl
     have Hdd:=hid hdd;have Hacc:=hid hacc;clear hdd hacc;go_wp2_with fail
     go_ret
     refine⟨hG,.inr ⟨by rw[Hdd.out],A',c',?_⟩⟩;rw[Hdd.out];simp only[Hacc.out];exact⟨rfl,hO,hR⟩
theorem decO_eq (l:List UInt8):qdm l=if l.length<4 then (2,[],[]) else if l.take 4≠qbd then (1,[],[]) else qn9 (l.drop 4):=by
 unfold qdm qn9;rw[zlm,List.drop_drop];by_cases h4:l.length<4
 ·rw[if_pos h4,if_pos h4]
 ·rw[if_neg h4,if_neg h4];by_cases h8:l.length<8
  ·rw[if_pos h8,if_pos (show l.length-4<4 by omega)]
  ·rw[if_neg h8,if_neg (show ¬l.length-4<4 by omega)]
theorem Qb0 (k:Int)(w:World):(Instr.typeAssert (.iface 32 (.int .i64 k)) 20 32 true).run prog w=.ok (.tuple #[.int .i64 k,.bool true]) w:=by kernel_rfl
theorem Qdi (w:World):(Instr.typeAssert .nilIface 20 32 true).run prog w=.ok (.tuple #[.int .i64 0,.bool false]) w:=by kernel_rfl
theorem qp8 (p:Addr)(x k:Int)(older:List PanicEntry)(w:World)(hc:w.cell? p=some (.int .i64 x))(hz:w.frozen? p=false):
 CallsD prog 225 #[.pointer (some p)] (.panicking ({v:=.iface 32 (.int .i64 k),recovered:=false}::older)) w fun e u' w'=>
  e=.returned (.tuple #[])/\u'=.panicking ({v:=.iface 32 (.int .i64 k),recovered:=true}::older)/\w'=w.setCell p (.int .i64 k):=by
 refine callsD_of_wpS func225 rfl fun c₀ cs hu=>?_;apply wpS_seq;apply wpS_region;simp[wpOpsS,go_sem,recoverD,hu,Qb0,ntmps225,Exit.thenS];apply wpS_seq;apply wpS_region;simp[wpOpsS,go_sem,Exit.thenS];refine wpS_cond (t:=true) (by simp[Act.eval,Array.replicate]) ?_;simp only[if_true];apply wpS_region;simp[wpOpsS,go_sem,hc,hz,bodyPostS,results,results225]
theorem Qb1 (p:Addr)(w:World):
 CallsD prog 225 #[.pointer (some p)] .returning w fun e u' w'=>e=.returned (.tuple #[])/\u'=.returning/\w'=w:=by
 refine callsD_of_wpS func225 rfl fun c₀ cs hu=>?_;apply wpS_seq;apply wpS_region;simp[wpOpsS,go_sem,recoverD,hu,Qdi,ntmps225,Exit.thenS];apply wpS_seq;apply wpS_region;simp[wpOpsS,go_sem,Exit.thenS];refine wpS_cond (t:=false) (by simp[Act.eval,Array.replicate]) ?_;simp only[Bool.false_eq_true,if_false];refine wpS_of_wp (wp_skip ?_);cases c₀;simp_all [bodyPostS,results,results225]
theorem Qb2 (w:World)(R n:Nat)(A:Option Addr)(m c:Nat)(hrow:w.heap[R]?=some (.cells #[.slice A m c] 303 (0,0)))(hn:m<n):
 Calls prog 237 #[.pointer (some ⟨R,0,none⟩),.int .i64 (n:Int)] w fun e w'=>e=qp6 2/\w'=w:=by
 have hni:(m:Int)<(n:Int):=by omega
 have c0:=zjc R 0 hrow;unfold qp6;go_enter func237,ntmps237;go_wp2_with fail
 exact⟨rfl,rfl,rfl⟩
theorem qxe (w:World)(R:Nat)(A:Option Addr)(m c:Nat)(hrow:w.heap[R]?=some (.cells #[.slice A m c] 303 (0,0)))(hn:m<4):
 Calls prog 226 #[.pointer (some ⟨R,0,none⟩)] w fun e w'=>e=qp6 2/\w'=w:=by
 have H:=hid (Qb2 w R 4 A m c hrow hn);go_enter func226,ntmps226;go_wp2_with fail
 refine H.out.mono ?_;rintro e w1 ⟨rfl,rfl⟩;exact⟨rfl,rfl,rfl⟩
def qna (l:List UInt8):List Int:=l.map fun c=>(c.toNat:Int)
theorem qfa (l:List UInt8):(qna l).length=l.length:=by simp[qna]
theorem qst {l:List UInt8}{i:Nat}(h:i<l.length):(qna l).getD i 0=(l[i].toNat:Int):=by
 unfold qna;simp[List.getD_eq_getElem?_getD,zlh h]
theorem qge (K:Nat)(a:Addr)(n c:Nat)(l:List UInt8)(w:World)(hr:Rd w K (some a) n l)(hn:n<=140737488355328):
 Calls prog 20 #[.slice (some a) n c] w fun e w'=>∃D k,e=.returned (.slice D n k)/\JB.Own w' w.heap.size (.slice D n k) n l/\Below w.heap.size w w':=by
 refine (Tryz.bytes_Clone_at a n c (qna l) w (by rw[qfa];exact hr.1) hn fun i hi=>?_).mono fun e w' ⟨v,he,ho,_,hb⟩=>?_
 ·have hi':i<l.length:=by have:=hr.1;omega
  obtain⟨b,o,e,_,hc⟩:=hr.2 i hi';injection e with e;subst e;have ha:(⟨b,o,none⟩:Addr).add i=⟨b,o+i,none⟩:=by unfold Addr.add;split<;>simp_all
  rw[ha,hc,qst hi']
 ·have ho':JB.Own w' w.heap.size v n l:=by
   refine JB.Own.of_row ?_;rw[show enc l=(qna l).map (Value.int .u8) from by simp[enc,qna]];exact ho
  obtain⟨D,k,e1,_⟩:=ho'.reads;exact⟨D,k,by rw[he,e1],by rw[<-e1];exact ho',hb⟩
def qad (l:List UInt8)(w:World)(e:Ending)(w':World):Prop:=
 ∃A n c B m d,e=.returned (.tuple #[.agg #[.slice A n c,.slice B m d],.int .i64 (qdm l).1])/\JC.Own 174 4 w' w.heap.size (.slice A n c) n (qbq (qdm l).2.1)/\JB.Own w' w.heap.size (.slice B m d) m (qdm l).2.2/\Below w.heap.size w w'
theorem qad.bad {l:List UInt8}{w w':World}{z:Int}(h:qdm l=(z,[],[]))(hb:Below w.heap.size w w'):
 qad l w (.returned (.tuple #[.agg #[.slice none 0 0,.slice none 0 0],.int .i64 z])) w':=
 ⟨none,0,0,none,0,0,by rw[h],by rw[h];exact JC.Own.nil _ _ _ _,by rw[h];exact JB.Own.nil _ _,hb⟩
theorem quk (w:World)(B:Nat)(cs:Array Value)(h:w.heap[B]?=some (.cells cs 170 (0,0)))(hs:cs.size=2):
 (loadVar 170 ⟨B,0,none⟩).run prog w=.ok (.agg cs) w:=
 run_loadVar_row w B 170 170 cs (0,0) _ h underlying170 rfl (by rw[hs];kernel_rfl)
structure Qdj (w W:World):Prop where
 res:W.heap[w.heap.size]?=some (.cells #[.slice none 0 0,.slice none 0 0] 170 (0,0))
 err:W.heap[w.heap.size+1]?=some (.cells #[.int .i64 0] 32 (0,0))
 below:Below w.heap.size w W
theorem Qdj.grown {w W W':World}(h:Qdj w W)(hg:W.grownBy W' (some (w.heap.size+1+1))):Qdj w W':=
 ⟨(hg.block _ (zla.1 h.res).1 (fun e=>by injection e with e;omega)).trans h.res,(hg.block _ (zla.1 h.err).1 (fun e=>by injection e with e;omega)).trans h.err,
  h.below.grown hg h.below.size fun k hk=>by injection hk with hk;omega⟩
theorem Qdj.on {w W W':World}(h:Qdj w W)(hb:Below W.heap.size W W'):Qdj w W':=
 ⟨(hb.block _ (zla.1 h.res).1).trans h.res,(hb.block _ (zla.1 h.err).1).trans h.err,h.below.trans (hb.mono h.below.size)⟩
theorem Qdj.start (w:World)(v:Value):Qdj w (((w.alloc (.cells #[.slice none 0 0,.slice none 0 0] 170)).alloc (.cells #[.int .i64 0] 32)).alloc (.cells #[v] 303))/\
 (((w.alloc (.cells #[.slice none 0 0,.slice none 0 0] 170)).alloc (.cells #[.int .i64 0] 32)).alloc (.cells #[v] 303)).heap[w.heap.size+1+1]?=some (.cells #[v] 303 (0,0)):=by
 have h1:=zld w (.cells #[.slice none 0 0,.slice none 0 0] 170);have h2:=zld (w.alloc (.cells #[.slice none 0 0,.slice none 0 0] 170)) (.cells #[.int .i64 0] 32);have h3:=zld ((w.alloc (.cells #[.slice none 0 0,.slice none 0 0] 170)).alloc (.cells #[.int .i64 0] 32)) (.cells #[v] 303);rw[zlr] at h2;rw[zlr,zlr] at h3;refine⟨⟨?_,?_,?_⟩,h3⟩
 ·exact (zlz _ _ _ (by simp;omega)).trans ((zlz _ _ _ (by simp)).trans h1)
 ·exact (zlz _ _ _ (by simp)).trans h2
 ·exact (((Below.refl w.heap.size w).alloc zjn _).alloc (by simp) _).alloc (by simp;omega) _
theorem qjh {l:List UInt8}{w W:World}{k:Int}(h:Qdj w W)(hd:qdm l=(k,[],[]))(tmps:Array Value)(h2:tmps[2]?=some (.pointer (some ⟨w.heap.size,0,none⟩)))(h3:tmps[3]?=some (.pointer (some ⟨w.heap.size+1,0,none⟩))):
 bodyPostD prog Tryz.f206 (qad l w) (Exit.panic [{v:=.iface 32 (.int .i64 k),recovered:=false}])
  {tmps:=tmps,defers:=[{target:=Target.fn (Fn.func 225) #[.pointer (some ⟨w.heap.size+1,0,none⟩)],args:=#[]}]} W:=by
 have e0:=zjc (w.heap.size+1) 0 h.err;have hl:=quk (W.setCell ⟨w.heap.size+1,0,none⟩ (.int .i64 k)) w.heap.size _ ((zly W ⟨w.heap.size+1,0,none⟩ (.int .i64 k) w.heap.size (by show w.heap.size≠w.heap.size+1;omega)).trans h.res) rfl;refine leaves_cons (f:=225) (args:=#[.pointer (some ⟨w.heap.size+1,0,none⟩)]) (by simp) (by simp[go_sem]) ?_;refine (qp8 ⟨w.heap.size+1,0,none⟩ 0 k [] W e0 (zlp W _ 0 _ _ h.err)).mono ?_;rintro e u' w'' ⟨rfl,rfl,rfl⟩;have hB:=qad.bad hd (h.below.setCell (p:=⟨w.heap.size+1,0,none⟩) (by show w.heap.size<=w.heap.size+1;omega) (.int .i64 k));have e1:(W.setCell ⟨w.heap.size+1,0,none⟩ (.int .i64 k)).cell? ⟨w.heap.size+1,0,none⟩=some (.int .i64 k):=zlc _ _ 0 _ _ _ (zle W (w.heap.size+1) 0 _ _ (.int .i64 k) h.err);simp[Leaves,settle,results,results206,asAddr,h2,h3,hl];refine⟨_,?_,hB⟩;simp[go_sem,e1]
theorem qsf (w:World)(A:Option Addr)(n c:Nat)(l:List UInt8)(hl:l.length=n)(h4:n<4):
 Calls prog 206 #[.slice A n c] w (qad l w):=by
 have hmf:∀(fn:Fn)(first cap:Array Value)(w:World),(Instr.makeFunc fn first cap).run prog w=.ok (.func fn first cap) w:=fun _ _ _ _=>rfl;have Hd:Hid (qdm l=(2,[],[])):=hid (by unfold qdm;rw[if_pos (by omega)]);obtain⟨hD,hrow⟩:=Qdj.start w (.slice A n c);go_enter_defers func206,ntmps206
 go_wp2_with fail
 refine (qxe _ _ A n c hrow h4).mono ?_;rintro e w1 ⟨rfl,rfl⟩;exact qjh hD Hd.out _ rfl rfl
theorem Qb3 (w W:World){l:List UInt8}(v:Value)(tmps:Array Value)(p:Addr)(h:(results Tryz.f206 tmps).run prog W=.ok v W)(hq:qad l w (.returned v) W):
 bodyPostD prog Tryz.f206 (qad l w) Exit.ret
  {tmps:=tmps,defers:=[{target:=Target.fn (Fn.func 225) #[.pointer (some p)],args:=#[]}]} W:=by
 refine leaves_cons (f:=225) (args:=#[.pointer (some p)]) (by simp) (by simp[go_sem]) ?_;refine (Qb1 p W).mono ?_;rintro e u' w'' ⟨rfl,rfl,rfl⟩;simp[Leaves,settle,h];exact hq
theorem Qdk (w:World)(K b o:Nat)(n c:Nat)(l:List UInt8)(hr:JB.Rd w K (some ⟨b,o,none⟩) n l)(hK:K<=w.heap.size)(hnc:n<=c)(hc:c<=maxLen)(h4:4<=n)(hn:n<=140737488355328):
 Calls prog 206 #[.slice (some ⟨b,o,none⟩) n c] w (qad l w):=by
 have hmf:∀(fn:Fn)(first cap:Array Value)(w:World),(Instr.makeFunc fn first cap).run prog w=.ok (.func fn first cap) w:=fun _ _ _ _=>rfl;have hl:=hr.1;have Hd:Hid (qdm l=if l.take 4≠qbd then (1,[],[]) else qn9 (l.drop 4)):=hid (by rw[decO_eq,if_neg (by omega)]);obtain⟨hD,hrow⟩:=Qdj.start w (.slice (some ⟨b,o,none⟩) n c);go_enter_defers func206,ntmps206
 go_wp2_with fail
 generalize ((w.alloc (.cells #[.slice none 0 0,.slice none 0 0] 170)).alloc (.cells #[.int .i64 0] 32)).alloc (.cells #[.slice (some ⟨b,o,none⟩) n c] 303)=w0 at *;have hR:Rdr w0 (w.heap.size+1+1) K l:=⟨b,o,n,c,hrow,hr.below (hD.below.mono hK),hnc,hc⟩;clear hrow;refine (qss w0 _ K l hR (by omega)).mono ?_;rintro e w1 ⟨hg1,hcase⟩;have hD1:=hD.grown hg1;rcases hcase with ⟨q,_⟩|⟨_,hm,rfl⟩|⟨_,hm,rfl,hR1⟩
 ·omega
 ·exact qjh hD1 (by rw[Hd.out,if_pos hm]) _ rfl rfl
 ·have Hd1:Hid (qdm l=qn9 (l.drop 4)):=hid (by rw[Hd.out,if_neg (fun q=>q hm)]);clear Hd hm hR hg1 hD;go_wp2_with fail
  refine (quj w1 _ K (l.drop 4) hR1 (by omega)).mono ?_;rintro e w2 ⟨hg2,hcase⟩;have hD2:=hD1.grown hg2;rcases hcase with ⟨hz,rfl⟩|⟨hz,A,cs,rfl,hO,hR2⟩
  ·refine qjh hD2 ?_ _ rfl rfl;rw[Hd1.out];have h0:=qsp l (by rw[Hd1.out];exact hz);rw[Hd1.out] at h0;rw[<-h0]
  ·have hd2:qdm l=(0,(qn9 (l.drop 4)).2.1,(qn9 (l.drop 4)).2.2):=by rw[Hd1.out];exact Prod.ext hz rfl
   have Hd2:=hid hd2;clear hd2 Hd1 hz;generalize (qn9 (l.drop 4)).2.1=xs at *;generalize (qn9 (l.drop 4)).2.2=body at *;obtain⟨b2,o2,m,d,hrow2,hr2,hmd,hdm⟩:=hR2;have e0:=zjc (w.heap.size+1+1) 0 hrow2
   have hbl:m<=140737488355328:=by
    have h1:=(qsq l xs body Hd2.out).2;have h2:=congrArg List.length h1;have h3:=hr2.1;unfold encO at h2;simp only[zlb] at h2;omega
   have hwz:w.heap.size<=w1.heap.size:=hD1.below.size;clear hrow2;go_wp2_with fail
   refine (qge K ⟨b2,o2,none⟩ m d body w2 hr2 hbl).mono ?_;rintro e w3 ⟨D,kd,rfl,hB,hb3⟩;have hD3:=hD2.on hb3;have hO3:=(hO.more hwz).below hb3;have hB3:=hB.more hD2.below.size;obtain⟨hres,qxs,hbel⟩:=hD3;have zzq:=fun k=>zjc w.heap.size k hres;have qf:=fun o=>zlp _ w.heap.size o _ _ hres;have p0:=zjc (w.heap.size+1) 0 qxs;have pf:=fun o=>zlp _ (w.heap.size+1) o _ _ qxs;have hres0:=zle w3 w.heap.size 0 _ _ (.slice A xs.length cs) hres;have hres1:=zle _ w.heap.size 1 _ _ (.slice D m kd) hres0;have herr1:=(zly _ ⟨w.heap.size,1,none⟩ (.slice D m kd) (w.heap.size+1) (by show w.heap.size+1≠w.heap.size;omega)).trans ((zly w3 ⟨w.heap.size,0,none⟩ (.slice A xs.length cs) (w.heap.size+1) (by show w.heap.size+1≠w.heap.size;omega)).trans qxs);have hres2:=(zly _ ⟨w.heap.size+1,0,none⟩ (.int .i64 0) w.heap.size (by show w.heap.size≠w.heap.size+1;omega)).trans hres1;have herr2:=zle _ (w.heap.size+1) 0 _ _ (.int .i64 0) herr1;have hl2:=quk _ _ _ hres2 rfl;have e9:=zjc (w.heap.size+1) 0 herr2;have hbz:=((hbel.setCell (p:=⟨w.heap.size,0,none⟩) zjn (.slice A xs.length cs)).setCell (p:=⟨w.heap.size,1,none⟩) zjn (.slice D m kd)).setCell (p:=⟨w.heap.size+1,0,none⟩) (by show w.heap.size<=w.heap.size+1;omega) (.int .i64 0);have hOz:=((hO3.setc hres (by decide) 0 (.slice A xs.length cs)).setc hres0 (by decide) 1 (.slice D m kd)).setc herr1 (by decide) 0 (.int .i64 0);have hBz:=((hB3.oth (JS.Oth.put hres (fun k hk=>zly w3 ⟨w.heap.size,0,none⟩ (.slice A xs.length cs) k hk)) (by decide)).oth (JS.Oth.put hres0 (fun k hk=>zly _ ⟨w.heap.size,1,none⟩ (.slice D m kd) k hk)) (by decide)).oth (JS.Oth.put herr1 (fun k hk=>zly _ ⟨w.heap.size+1,0,none⟩ (.int .i64 0) k hk)) (by decide);have HO:=hid hOz;have HB:=hid hBz;clear hOz hBz hB3 hO3 hB hO hres hres0 hres1 hres2 qxs herr1 herr2 hD1 hD2 hb3;go_wp2_with fail
   refine Qb3 w _ (.tuple #[.agg #[.slice A xs.length cs,.slice D m kd],.int .i64 0]) _ _ ?_ ?_
   ·simp[results,results206,asAddr,hl2];simp[go_sem,e9]
   ·exact⟨A,xs.length,cs,D,m,kd,by rw[Hd2.out],by rw[Hd2.out];exact HO.out,by rw[Hd2.out];exact HB.out,hbz⟩
theorem qz8 (z:Int):qty z=true↔∃i,i<=16/\z=((2^i:Nat):Int):=by
 unfold qty pows;simp only[List.contains_eq_mem,List.mem_cons,List.not_mem_nil,or_false,decide_eq_true_eq];constructor
 ·intro h;rcases h with h|h|h|h|h|h|h|h|h|h|h|h|h|h|h|h|h
  all_goals first|exact⟨0,by omega,by rw[h];rfl⟩|exact⟨1,by omega,by rw[h];rfl⟩|exact⟨2,by omega,by rw[h];rfl⟩|exact⟨3,by omega,by rw[h];rfl⟩|exact⟨4,by omega,by rw[h];rfl⟩|exact⟨5,by omega,by rw[h];rfl⟩|exact⟨6,by omega,by rw[h];rfl⟩|exact⟨7,by omega,by rw[h];rfl⟩|exact⟨8,by omega,by rw[h];rfl⟩|exact⟨9,by omega,by rw[h];rfl⟩|exact⟨10,by omega,by rw[h];rfl⟩|exact⟨11,by omega,by rw[h];rfl⟩|exact⟨12,by omega,by rw[h];rfl⟩|exact⟨13,by omega,by rw[h];rfl⟩|exact⟨14,by omega,by rw[h];rfl⟩|exact⟨15,by omega,by rw[h];rfl⟩|exact⟨16,by omega,by rw[h];rfl⟩
 ·rintro ⟨i,hi,hz⟩;have:i=0∨i=1∨i=2∨i=3∨i=4∨i=5∨i=6∨i=7∨i=8∨i=9∨i=10∨i=11∨i=12∨i=13∨i=14∨i=15∨i=16:=by omega
  rcases this with h|h|h|h|h|h|h|h|h|h|h|h|h|h|h|h|h
  all_goals subst h
  all_goals simp at hz
  all_goals omega
theorem Qb4 (z:Int)(w:World):
 Calls prog 177 #[.int .i64 z] w fun e w'=>e=.returned (.bool (qty z))/\w'=w:=by
 go_enter func177,ntmps177;go_wp2_with fail
 go_loopw [3] (fun v W=>∃j p:Nat,v=.int .i64 (p:Int)/\j<=17/\Hid (p=2^j)/\1<=p/\p<=131072/\Hid (∀i,i<j->z≠((2^i:Nat):Int))/\Hid (W=w)) (fun v _=>131073-(intOf v).toNat)
 case atStart=>exact⟨0,1,rfl,by omega,hid rfl,by omega,by omega,hid (fun i hi=>by omega),hid rfl⟩
 case round=>
  obtain⟨j,p,rfl,hj,hp,h1,h2,hz,hw⟩:=hrel;by_cases hlt:p<=65536
  ·have hj16:j<=16:=by
    rcases Nat.lt_or_ge 16 j with h|h
    ·have:=Nat.pow_le_pow_right (n:=2) (by omega) h;have e:(2:Nat)^(16+1)=131072:=rfl;have:=hp.out;omega
    ·exact h
   have hli:(p:Int)<=65536:=by omega
   by_cases hq:(p:Int)=z
   ·have hqb:((p:Int)==z)=true:=by rw[beq_iff_eq];exact hq
    have HR:Hid (qty z=true):=hid ((qz8 z).2 ⟨j,hj16,by rw[<-hq,hp.out]⟩);clear hq;go_wp2_with fail
    go_ret
    exact⟨qa1 HR.out.symm,hw.out⟩
   ·have hqb:((p:Int)==z)=false:=by rw[zls];exact hq
    have HZ:Hid (∀i,i<j+1->z≠((2^i:Nat):Int)):=hid fun i hi=>by
     by_cases e:i=j
     ·subst e;rw[<-hp.out];exact fun h=>hq h.symm
     ·exact hz.out i (by omega)
    have HP:Hid (2 * p=2^(j+1)):=hid (by rw[hp.out,Nat.pow_succ];omega);clear hq hp hz;go_wp2_with fail
    go_roundw
    ·exact⟨j+1,2 * p,by go_num,by omega,HP,by omega,by omega,HZ,hw⟩
    ·simp[intOf];omega
  ·have hli:¬(p:Int)<=65536:=by omega
   have hj17:17<=j:=by
    rcases Nat.lt_or_ge j 17 with h|h
    ·have:=Nat.pow_le_pow_right (n:=2) (by omega) (show j<=16 by omega);have e:(2:Nat)^16=65536:=rfl;have:=hp.out;omega
    ·exact h
   have HR:Hid (qty z=false):=hid (by
    cases h:qty z with
    |false=>rfl
    |true=>obtain⟨i,hi,e⟩:=(qz8 z).1 h;exact absurd e (hz.out i (by omega)))
   clear hp hz;go_wp2_with fail
   go_ret
   exact⟨qa1 HR.out.symm,hw.out⟩
theorem at_str (s:ByteArray)(i:Nat)(h:i<s.size):s.data.toList[i]?=some (s[i]'h):=by
 show s.data.toList[i]?=some (s.data[i]'h)
 rw[Array.getElem?_toList];exact Array.getElem?_eq_getElem h
theorem rsym_any (x:Sy)(w:World):
 Calls prog 138 #[x.val] w fun e w'=>e=.returned (.bool (qb3 x))/\Below w.heap.size w w':=by
 obtain⟨s,b,z,a⟩:=x;have hb0:=zjB w (.cells #[.string s,.int .i64 b,.int .i64 z,.int .i64 a] 174);have hrow:=zld w (.cells #[.string s,.int .i64 b,.int .i64 z,.int .i64 a] 174);have zzc:=fun k=>zjc w.heap.size k hrow;unfold Sy.val;clear hrow;by_cases h0:s.size=0
 ·have h0b:((s.size:Int)==0)=true:=by simp only[beq_iff_eq];omega
  have hS:Hid (qb3 ⟨s,b,z,a⟩=false):=hid (by simp[qb3,qaa,h0]);clear h0;go_enter func138,ntmps138;go_wp2_with fail
  go_ret
  exact⟨qa1 hS.out.symm,hb0⟩
 have h0b:((s.size:Int)==0)=false:=by simp only[zls];omega
 by_cases h1:255<s.size
 ·have hS:Hid (qb3 ⟨s,b,z,a⟩=false):=hid (by unfold qb3 qaa;rw[show decide (s.size<=255)=false from by simp;omega];simp);have h1i:decide ((255:Int)<(s.size:Int))=true:=by simp;omega
  clear h0;go_enter func138,ntmps138;go_wp2_with fail
  go_ret
  exact⟨qa1 hS.out.symm,hb0⟩
 have h1i:decide ((255:Int)<(s.size:Int))=false:=by simp;omega
 by_cases h2:z<0
 ·have hS:Hid (qb3 ⟨s,b,z,a⟩=false):=hid (by
   cases h:qb3 ⟨s,b,z,a⟩ with
   |false=>rfl
   |true=>unfold qb3 at h;rw[zlx] at h;have:=qmm h.2;simp only at this;omega)
  have h2i:decide (z<0)=true:=by simpa using h2
  clear h0;go_enter func138,ntmps138;go_wp2_with fail
  go_ret
  exact⟨qa1 hS.out.symm,hb0⟩
 have h2i:decide (z<0)=false:=by simpa using h2
 by_cases h3:4294967295<z
 ·have hS:Hid (qb3 ⟨s,b,z,a⟩=false):=hid (by
   cases h:qb3 ⟨s,b,z,a⟩ with
   |false=>rfl
   |true=>unfold qb3 at h;rw[zlx] at h;have:=qmm h.2;simp only at this;omega)
  have h3i:decide (4294967295<z)=true:=by simpa using h3
  clear h0 h2;go_enter func138,ntmps138;go_wp2_with fail
  go_ret
  exact⟨qa1 hS.out.symm,hb0⟩
 have h3i:decide (4294967295<z)=false:=by simpa using h3
 have hsz:qfy z=true:=by unfold qfy;simp;omega
 have Hsz:=hid hsz;have hs255:s.size<=255:=by omega
 have HN:Hid (qaa s=!(s.data.toList.contains 0)):=hid (by unfold qaa;simp[h0,hs255]);clear hsz h0 h2 h3 h1;go_enter func138,ntmps138;go_wp2_with fail
 go_loopw [3] (fun v W=>∃k:Nat,v=.int .i64 (k:Int)/\k<=s.size/\Hid (∀i,i<k->s.data.toList[i]?≠some 0)/\Hid (W=w.alloc (.cells #[.string s,.int .i64 b,.int .i64 z,.int .i64 a] 174))) (fun v _=>s.size-(intOf v).toNat)
 case atStart=>exact⟨0,rfl,by omega,hid (fun i hi=>by omega),hid rfl⟩
 case round=>
  obtain⟨k,rfl,hk,hno,hw⟩:=hrel;have hw':=hw.out;subst hw';by_cases hlt:k<s.size
  ·have hli:(k:Int)<(s.size:Int):=by omega
   have hat:=at_str s k hlt;by_cases hq:(s[k]'hlt)=0
   ·have hqb:(((s[k]'hlt).toNat:Int)==0)=true:=by rw[hq];rfl
    have hS:Hid (qb3 ⟨s,b,z,a⟩=false):=hid (by
     unfold qb3;rw[show qaa s=false from by rw[HN.out,Bool.not_eq_false',List.contains_eq_mem,decide_eq_true_eq];exact List.mem_of_getElem? (by rw[hat,hq])];rfl)
    clear hat hno;go_wp2_with fail
    go_ret
    exact⟨qa1 hS.out.symm,hb0⟩
   ·have hqb:(((s[k]'hlt).toNat:Int)==0)=false:=by
     rw[zls];intro e;apply hq;rw[<-UInt8.toNat_inj];show (s[k]'hlt).toNat=0;omega
    have HZ:Hid (∀i,i<k+1->s.data.toList[i]?≠some 0):=hid fun i hi=>by
     by_cases e:i=k
     ·subst e;rw[hat];intro q;injection q with q;exact hq q
     ·exact hno.out i (by omega)
    clear hat hno hq;go_wp2_with fail
    go_roundw
    ·exact⟨k+1,by go_num,by omega,HZ,hid trivial⟩
    ·simp[intOf];omega
  ·have hli:¬(k:Int)<(s.size:Int):=by omega
   have hN:qaa s=true:=by
    rw[HN.out,Bool.not_eq_true',List.contains_eq_mem,decide_eq_false_iff_not];intro hm;obtain⟨i,hi⟩:=List.getElem?_of_mem hm;have:=(zlv.1 hi).1;rw[qe5] at this;exact hno.out i (by omega) hi
   have hS:qb3 ⟨s,b,z,a⟩=qe9 b z a:=by unfold qb3;rw[hN];rfl
   have HS:=hid hS;clear hN hS hno;by_cases b3:b=3
   ·have b3b:(b==3)=true:=by simpa using b3
    have HS':Hid (qb3 ⟨s,b,z,a⟩=qty a):=hid (by rw[HS.out];unfold qe9;rw[if_neg (by omega),if_pos b3,Hsz.out];rfl);clear b3;go_wp2_with (go_at_call 177;refine (Qb4 a _).mono ?_;rintro e w1 ⟨rfl,rfl⟩)
    go_ret
    exact⟨qa1 HS'.out.symm,hb0⟩
   have b3b:(b==3)=false:=by simpa using b3
   by_cases b4:b=4
   ·have b4b:(b==4)=true:=by simpa using b4
    have HS':Hid (qb3 ⟨s,b,z,a⟩=(decide (z=0)&&decide (a=0))):=hid (by rw[HS.out];unfold qe9;rw[if_neg (by omega),if_neg b3,if_pos (.inl b4)]);clear b3 b4;by_cases hz:z=0
    ·have hzb:(z==0)=true:=by simpa using hz
     clear hz;go_wp2_with fail
     go_ret
     exact⟨qa1 (by rw[HS'.out,show decide (z=0)=true from hzb];rfl),hb0⟩
    ·have hzb:(z==0)=false:=by simpa using hz
     go_wp2_with fail
     go_ret
     exact⟨qa1 (by rw[HS'.out,show decide (z=0)=false from hzb];rfl),hb0⟩
   have b4b:(b==4)=false:=by simpa using b4
   by_cases b5:b=5
   ·have b5b:(b==5)=true:=by simpa using b5
    have HS':Hid (qb3 ⟨s,b,z,a⟩=(decide (z=0)&&decide (a=0))):=hid (by rw[HS.out];unfold qe9;rw[if_neg (by omega),if_neg b3,if_pos (.inr b5)]);clear b3 b4 b5;by_cases hz:z=0
    ·have hzb:(z==0)=true:=by simpa using hz
     clear hz;go_wp2_with fail
     go_ret
     exact⟨qa1 (by rw[HS'.out,show decide (z=0)=true from hzb];rfl),hb0⟩
    ·have hzb:(z==0)=false:=by simpa using hz
     go_wp2_with fail
     go_ret
     exact⟨qa1 (by rw[HS'.out,show decide (z=0)=false from hzb];rfl),hb0⟩
   have b5b:(b==5)=false:=by simpa using b5
   by_cases b1:b=1
   ·have b1b:(b==1)=true:=by simpa using b1
    have HS':Hid (qb3 ⟨s,b,z,a⟩=decide (a=0)):=hid (by rw[HS.out];unfold qe9;rw[if_pos (.inl b1),Hsz.out];rfl);clear b1 b3 b4 b5;go_wp2_with fail
    go_ret
    exact⟨qa1 (by rw[HS'.out];rfl),hb0⟩
   have b1b:(b==1)=false:=by simpa using b1
   by_cases b2:b=2
   ·have b2b:(b==2)=true:=by simpa using b2
    have HS':Hid (qb3 ⟨s,b,z,a⟩=decide (a=0)):=hid (by rw[HS.out];unfold qe9;rw[if_pos (.inr b2),Hsz.out];rfl);clear b1 b2 b3 b4 b5;go_wp2_with fail
    go_ret
    exact⟨qa1 (by rw[HS'.out];rfl),hb0⟩
   have b2b:(b==2)=false:=by simpa using b2
   have HS':Hid (qb3 ⟨s,b,z,a⟩=false):=hid (by rw[HS.out];unfold qe9;rw[if_neg (by omega),if_neg b3,if_neg (by omega)]);clear b1 b2 b3 b4 b5;go_wp2_with fail
   go_ret
   exact⟨qa1 HS'.out.symm,hb0⟩
theorem rhas_any (K:Nat)(A:Option Addr)(n c:Nat)(xs:List Sy)(s:ByteArray)(w:World)(h:RdS w K A n xs)(hn:n<=140737488355328):
 Calls prog 139 #[.slice A n c,.string s] w fun e w'=>e=.returned (.bool (has xs s))/\w'=w:=by
 have Hl:=hid h.1;go_enter func139,ntmps139;go_wp2_with fail
 go_loopw [5] (fun i W=>∃k:Nat,i=.int .i64 (k:Int)/\k<=n/\Hid (has xs s=has (xs.drop k) s)/\Hid (W=w)) (fun i _=>n-(intOf i).toNat)
 case atStart=>exact⟨0,rfl,by omega,hid rfl,hid rfl⟩
 case round=>
  obtain⟨k,rfl,hk,hG,hw⟩:=hrel;have hw':=hw.out;subst hw';by_cases hlt:k<n
  ·have hkl:k<xs.length:=by have:=Hl.out;omega
   obtain⟨⟨b,o,rfl,hbK,hcell⟩,hsz⟩:=h.2 k hkl;have Hstep:=hid (Qde hkl s);generalize xs[k]=x at *;obtain⟨x0,x1,x2,x3⟩:=x;obtain⟨p0,p1,p2,p3⟩:=hcell;by_cases hq:x0=s
   ·have hqb:(x0.toList==s.toList)=true:=by rw[beq_iff_eq,qdk];exact hq
    have HR:Hid (has xs s=true):=hid (hG.out.trans (Hstep.out.1 hq).1);clear hq;go_wp2_with fail
    go_ret
    exact⟨qa1 HR.out.symm,rfl⟩
   ·have hqb:(x0.toList==s.toList)=false:=by rw[zls,ne_eq,qdk];exact hq
    have HR:Hid (has xs s=has (xs.drop (k+1)) s):=hid (hG.out.trans (Hstep.out.2 hq).1);clear hq;go_wp2_with fail
    go_roundw
    ·exact⟨k+1,by go_num,by omega,HR,hid trivial⟩
    ·simp[intOf];omega
  ·obtain rfl:k=n:=by omega
   have HR:Hid (has xs s=false):=hid (by rw[hG.out,zlD (by have:=Hl.out;omega)];rfl);go_wp2_with fail
   go_ret
   exact⟨qa1 HR.out.symm,rfl⟩
end Obj
end Go.Proofs.YtlmolmohhpdhdaaGreatDoor
