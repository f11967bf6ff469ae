/-
  What header.Decode gives: the plain mathematics.
-/
import Derived.Test.YtlmolmohhpdhdaaGreatDoorYMb
import Derived.Laws.EntriesVeiled
set_option maxRecDepth 100000
set_option maxHeartbeats 16000000
set_option linter.all false
namespace Go.Proofs.YtlmolmohhpdhdaaGreatDoor
open Go.RowKit Go.Proofs Tryz
namespace JH
open JB JT JD
def qcb (l:List UInt8)(k:Nat):List UInt8:=(l.drop (off k)).take (wd k)
def rdF (tab:Bool)(k:Nat)(x:List UInt8):Option Nat:=if (mo k&&tab)=true then (if qdg x=true then some 0 else none) else qcv (bs k) x
def nm (l:List UInt8):ByteArray:=⟨(Lib.trimRightB (l.take 16) 32).toArray⟩
theorem by_nm (l:List UInt8):by_ (nm l)=Lib.trimRightB (l.take 16) 32:=rfl
theorem qks (l:List UInt8):(nm l).size<=16:=by
 rw[<-qgb,by_nm];unfold Lib.trimRightB;rw[List.length_reverse];have h1:=(List.dropWhile_sublist (·==(32:UInt8)) (l:=(l.take 16).reverse)).length_le;rw[List.length_reverse,zlu] at h1;omega
def qeq (l:List UInt8):Nat->Bool
 |0=>true
 |k+1=>qeq l k&&(rdF (qa5 (nm l)) k (qcb l k)).isSome
theorem qbc {l:List UInt8}{k:Nat}(h:rdF (qa5 (nm l)) k (qcb l k)=none):∀j,k<j->qeq l j=false
 |0,hj=>by omega
 |j+1,hj=>by
  simp only[qeq];by_cases e:k=j
  ·subst e;rw[h];simp
  ·rw[qbc h j (by omega)];rfl
def qg6 (l:List UInt8):Int:=
 if l.length<60 then 2 else if (l.drop 58).take 2≠[96,10] then 4 else if qaa (nm l)=false then 6 else if qeq l 5=false then 3 else 0
def qax (l:List UInt8):ByteArray:=if qg6 l=0 then nm l else ⟨#[]⟩
def qak (l:List UInt8)(k:Nat):Int:=if qg6 l=0 then (((rdF (qa5 (nm l)) k (qcb l k)).getD 0:Nat):Int) else 0
theorem qyr {l:List UInt8}(h:l.length<60):qg6 l=2:=if_pos h
theorem derr_4 {l:List UInt8}(h:60<=l.length)(h2:(l.drop 58).take 2≠[96,10]):qg6 l=4:=by
 unfold qg6;rw[if_neg (by omega),if_pos h2]
theorem derr_6 {l:List UInt8}(h:60<=l.length)(h2:(l.drop 58).take 2=[96,10])(h3:qaa (nm l)=false):qg6 l=6:=by
 unfold qg6;rw[if_neg (by omega),if_neg (by simp[h2]),if_pos h3]
theorem Qct {l:List UInt8}(h:60<=l.length)(h2:(l.drop 58).take 2=[96,10])(h3:qaa (nm l)=true)(h4:qeq l 5=false):qg6 l=3:=by
 unfold qg6;rw[if_neg (by omega),if_neg (by simp[h2]),if_neg (by simp[h3]),if_pos h4]
theorem qys {l:List UInt8}(h:60<=l.length)(h2:(l.drop 58).take 2=[96,10])(h3:qaa (nm l)=true)(h4:qeq l 5=true):qg6 l=0:=by
 unfold qg6;rw[if_neg (by omega),if_neg (by simp[h2]),if_neg (by simp[h3]),if_neg (by simp[h4])]
def qad (l:List UInt8)(w:World)(e:Ending)(w':World):Prop:=
 e=.returned (.tuple #[.agg #[.string (qax l),.int .i64 (qak l 0),.int .i64 (qak l 1),.int .i64 (qak l 2),.int .i64 (qak l 3),.int .i64 (qak l 4)],.int .i64 (qg6 l)])/\Below w.heap.size w w'
theorem qad.bad {l:List UInt8}{w w':World}{k:Int}(h:qg6 l=k)(hk:k≠0)(hb:Below w.heap.size w w'):
 qad l w (.returned (.tuple #[.agg #[.string ⟨#[]⟩,.int .i64 0,.int .i64 0,.int .i64 0,.int .i64 0,.int .i64 0],.int .i64 k])) w':=by
 have h0:¬qg6 l=0:=by rw[h];exact hk
 have h1:qax l=⟨#[]⟩:=if_neg h0;have h2:∀k,qak l k=0:=fun k=>if_neg h0;refine⟨?_,hb⟩;rw[h1,h2,h2,h2,h2,h2,h]
theorem qad.good {l:List UInt8}{w w':World}(h:qg6 l=0)(hb:Below w.heap.size w w'):
 qad l w (.returned (.tuple #[.agg #[.string (nm l),.int .i64 (((rdF (qa5 (nm l)) 0 (qcb l 0)).getD 0:Nat):Int),.int .i64 (((rdF (qa5 (nm l)) 1 (qcb l 1)).getD 0:Nat):Int),.int .i64 (((rdF (qa5 (nm l)) 2 (qcb l 2)).getD 0:Nat):Int),
  .int .i64 (((rdF (qa5 (nm l)) 3 (qcb l 3)).getD 0:Nat):Int),.int .i64 (((rdF (qa5 (nm l)) 4 (qcb l 4)).getD 0:Nat):Int)],.int .i64 0])) w':=by
 have h1:qax l=nm l:=if_pos h;have h2:∀k,qak l k=(((rdF (qa5 (nm l)) k (qcb l k)).getD 0:Nat):Int):=fun k=>if_pos h;refine⟨?_,hb⟩;rw[h1,h2,h2,h2,h2,h2,h]
theorem qig {w:World}{K n:Nat}{A:Option Addr}{l:List UInt8}(h:Rd w K A n l)(hn:0<n):∃b o,A=some ⟨b,o,none⟩/\b<K:=by
 obtain⟨b,o,e,hb,_⟩:=h.2 0 (by have:=h.1;omega);exact⟨b,o,e,hb⟩
theorem qsf (K:Nat)(A:Option Addr)(n c:Nat)(l:List UInt8)(w:World)(hr:Rd w K A n l)(h:n<60):
 Calls prog 103 #[.slice A n c] w (qad l w):=by
 have Hf:=hid fun w' (hb:Below w.heap.size w w')=>qad.bad (qyr (l:=l) (by rw[hr.1];exact h)) (by decide) hb;go_enter func103,ntmps103;go_wp2_with fail
 exact zlf (v:=.tuple #[.agg #[.string ⟨#[]⟩,.int .i64 0,.int .i64 0,.int .i64 0,.int .i64 0,.int .i64 0],.int .i64 2]) (by simp[results,results103,go_sem]) rfl (Hf.out _ ((Below.refl _ _).alloc zjn _))
theorem decode_4 (K b o:Nat)(n c:Nat)(l:List UInt8)(w:World)(hr:Rd w K (some ⟨b,o,none⟩) n l)(hK:K<=w.heap.size)(h:60<=n)(hc:n<=c)(hx:¬(l.drop 58).take 2=[96,10]):
 Calls prog 103 #[.slice (some ⟨b,o,none⟩) n c] w (qad l w):=by
 have Hf:=hid fun w' (hb:Below w.heap.size w w')=>qad.bad (derr_4 (l:=l) (by rw[hr.1];exact h) hx) (by decide) hb;have hb0:Below w.heap.size w (w.alloc (.cells #[.string ⟨#[]⟩,.int .i64 0,.int .i64 0,.int .i64 0,.int .i64 0,.int .i64 0] 105)):=(Below.refl _ _).alloc zjn _;have hr1:=((hr.more hK).below hb0).cut 58 |>.pre (show 2<=n-58 by omega)
 have Hr1:=hid hr1;have Hb0:=hid hb0;have hx':(List.take 2 (List.drop 58 l)==[96,10])=false:=by simpa using hx
 clear hx hr1 hb0;go_enter func103,ntmps103;go_wp2_with (refine qay _ _ _ _ _ _ Hr1.out rfl (.tmp 17) rfl rfl ?_)
 exact zlf (v:=.tuple #[.agg #[.string ⟨#[]⟩,.int .i64 0,.int .i64 0,.int .i64 0,.int .i64 0,.int .i64 0],.int .i64 4]) (by simp[results,results103,go_sem]) rfl (Hf.out _ Hb0.out)
theorem six (w:World)(B:Nat)(cs:Array Value)(t:TypeId)(h:w.heap[B]?=some (.cells cs t (0,0)))(hs:cs.size=6)(x0 x1 x2 x3 x4 x5:Value):
 ((((((w.setCell ⟨B,0,none⟩ x0).setCell ⟨B,1,none⟩ x1).setCell ⟨B,2,none⟩ x2).setCell ⟨B,3,none⟩ x3).setCell ⟨B,4,none⟩ x4).setCell ⟨B,5,none⟩ x5).heap[B]?=some (.cells #[x0,x1,x2,x3,x4,x5] t (0,0)):=by
 obtain⟨l⟩:=cs
 match l,hs with
 |[_,_,_,_,_,_],_=>
  have h0:=zle w B 0 _ t x0 h;have h1:=zle _ B 1 _ t x1 h0;have h2:=zle _ B 2 _ t x2 h1;have h3:=zle _ B 3 _ t x3 h2;have h4:=zle _ B 4 _ t x4 h3;have h5:=zle _ B 5 _ t x5 h4;exact h5
theorem qba {w0 w:World}{B K:Nat}(h:Below K w0 w)(hB:K<=B)(x0 x1 x2 x3 x4 x5:Value):
 Below K w0 ((((((w.setCell ⟨B,0,none⟩ x0).setCell ⟨B,1,none⟩ x1).setCell ⟨B,2,none⟩ x2).setCell ⟨B,3,none⟩ x3).setCell ⟨B,4,none⟩ x4).setCell ⟨B,5,none⟩ x5):=
 ((((((h.setCell (p:=⟨B,0,none⟩) hB x0).setCell (p:=⟨B,1,none⟩) hB x1).setCell (p:=⟨B,2,none⟩) hB x2).setCell (p:=⟨B,3,none⟩) hB x3).setCell (p:=⟨B,4,none⟩) hB x4).setCell (p:=⟨B,5,none⟩) hB x5)
theorem qci (w:World)(B:Nat)(cs:Array Value)(h:w.heap[B]?=some (.cells cs 105 (0,0)))(hs:cs.size=6):
 (loadVar 105 ⟨B,0,none⟩).run prog w=.ok (.agg cs) w:=
 run_loadVar_row w B 105 105 cs (0,0) _ h underlying105 rfl (by rw[hs];kernel_rfl)
theorem qns (l:List UInt8)(w:World):Calls prog 140 #[.string ⟨(l.take 16).toArray⟩,.string ⟨#[32]⟩] w fun e w'=>e=.returned (.string (nm l))/\w'=w:=by
 refine (Tryz.strings_TrimRight_one ⟨(l.take 16).toArray⟩ 32 (by decide) w ?_).mono fun e w' ⟨he,hw⟩=>⟨he,hw⟩;show (l.take 16).toArray.size<=_
 simp;omega
theorem qap {w w':World}{B K:Nat}(hb:Below K w w')(hB:B<K):∀o,w'.frozen? ⟨B,o,none⟩=w.frozen? ⟨B,o,none⟩:=fun o=>hb.frozen (p:=⟨B,o,none⟩) hB
theorem decode_6 (K b o:Nat)(n c:Nat)(l:List UInt8)(w:World)(hr:Rd w K (some ⟨b,o,none⟩) n l)(hK:K<=w.heap.size)(h:60<=n)(hc:n<=c)(hx:(l.drop 58).take 2=[96,10])(h6:qaa (nm l)=false):
 Calls prog 103 #[.slice (some ⟨b,o,none⟩) n c] w (qad l w):=by
 have Hf:=hid fun w' (hb:Below w.heap.size w w')=>qad.bad (derr_6 (l:=l) (by rw[hr.1];exact h) hx h6) (by decide) hb;have hb0:Below w.heap.size w (w.alloc (.cells #[.string ⟨#[]⟩,.int .i64 0,.int .i64 0,.int .i64 0,.int .i64 0,.int .i64 0] 105)):=(Below.refl _ _).alloc zjn _;have hr1:=((hr.more hK).below hb0);have Hr1:=hid (hr1.cut 58 |>.pre (show 2<=n-58 by omega));have Hr2:=hid (hr1.pre (show 16<=n by omega));have Hb0:=hid hb0;have hx':(List.take 2 (List.drop 58 l)==[96,10])=true:=by simpa using hx
 have hns:=qks l;have Hn:=hid fun w'=>qdd (nm l) w' (by omega);clear hx hr1 hb0;go_enter func103,ntmps103
 go_wp2_with (first
  |(refine qay _ _ _ _ _ _ Hr1.out rfl (.tmp 17) rfl rfl ?_)
  |(refine qay _ _ _ _ _ _ Hr2.out rfl (.tmp 22) rfl rfl ?_)
  |(go_at_call 140;refine (qns l _).mono ?_;rintro e w' ⟨rfl,hw⟩;rw[hw])
  |(go_at_call 141;refine (Hn.out _).mono ?_;rintro e w2 ⟨rfl,hb2⟩;rw[h6];have k2:=qa7 (B:=w.heap.size) hb2 (by simp);have f2:=qap (B:=w.heap.size) hb2 (by simp)))
 have hh:w2.heap[w.heap.size]?=some (.cells #[.string ⟨#[]⟩,.int .i64 0,.int .i64 0,.int .i64 0,.int .i64 0,.int .i64 0] 105 (0,0)):=by
  rw[hb2.block _ (by simp)];exact zld w _
 have hl:=qci _ _ _ (six w2 w.heap.size _ 105 hh rfl (.string ⟨#[]⟩) (.int .i64 0) (.int .i64 0) (.int .i64 0) (.int .i64 0) (.int .i64 0)) rfl
 exact zlf (v:=.tuple #[.agg #[.string ⟨#[]⟩,.int .i64 0,.int .i64 0,.int .i64 0,.int .i64 0,.int .i64 0],.int .i64 6]) (by simp[results,results103,asAddr,hl]) rfl
  (Hf.out _ (qba (Hb0.out.trans (hb2.mono (by simp))) zjn _ _ _ _ _ _))
def val (l:List UInt8)(k j:Nat):Int:=if j<k then (((rdF (qa5 (nm l)) j (qcb l j)).getD 0:Nat):Int) else 0
def qdv (l:List UInt8)(k:Nat):Array Value:=#[.string (nm l),.int .i64 (val l k 0),.int .i64 (val l k 1),.int .i64 (val l k 2),.int .i64 (val l k 3),.int .i64 (val l k 4)]
theorem qey {l:List UInt8}{k x:Nat}(hk:k<5)(h:rdF (qa5 (nm l)) k (qcb l k)=some x):(qdv l k).setIfInBounds (k+1) (.int .i64 (x:Int))=qdv l (k+1):=by
 have h5:k=0∨k=1∨k=2∨k=3∨k=4:=by omega
 rcases h5 with rfl|rfl|rfl|rfl|rfl<;>simp[qdv,val,h]
theorem qgp {l:List UInt8}{k:Nat}(hk:k<5)(h:rdF (qa5 (nm l)) k (qcb l k)=some 0):qdv l k=qdv l (k+1):=by
 have h5:k=0∨k=1∨k=2∨k=3∨k=4:=by omega
 rcases h5 with rfl|rfl|rfl|rfl|rfl<;>simp[qdv,val,h]
theorem qc0 {l:List UInt8}{k x:Nat}(h:qeq l k=true)(h2:rdF (qa5 (nm l)) k (qcb l k)=some x):qeq l (k+1)=true:=by
 simp only[qeq,h,h2];rfl
theorem qn0 {b x x' p p' q q':Nat}(h1:x=x')(h2:p=p')(h3:q=q'):Value.slice (some ⟨b,x,none⟩) p q=.slice (some ⟨b,x',none⟩) p' q':=by rw[h1,h2,h3]
theorem qnt {l:List UInt8}(h:60<=l.length)(k:Nat)(hk:k<5):(qcb l k).length=wd k:=by
 have h5:k=0∨k=1∨k=2∨k=3∨k=4:=by omega
 unfold qcb;rw[zlu,zlm];rcases h5 with rfl|rfl|rfl|rfl|rfl<;>simp[off,wd]<;>omega
theorem qby {w:World}{K b o n:Nat}{l:List UInt8}(h:Rd w K (some ⟨b,o,none⟩) n l)(hn:60<=n)(k:Nat)(hk:k<5):Rd w K (some ⟨b,o+off k,none⟩) (wd k) (qcb l k):=by
 have h5:k=0∨k=1∨k=2∨k=3∨k=4:=by omega
 refine (h.cut (off k)).pre ?_;rcases h5 with rfl|rfl|rfl|rfl|rfl<;>simp[off,wd]<;>omega
theorem qgc (k:Nat)(K:Nat)(A:Option Addr)(c:Nat)(x:List UInt8)(v:Nat)(w:World)(hr:Rd w K A (wd k) x)(hc:wd k<=c)(h:qcv (bs k) x=some v):
 Calls prog 145 #[.slice A (wd k) c,.int .i64 (bs k:Int)] w fun e w'=>e=.returned (.tuple #[.int .i64 (v:Int),.int .i64 0])/\w=w':=by
 have hw:=Qaf k;have h0:=qhr (l:=x) (b:=bs k) ⟨Qcs k,by rw[hr.1];exact qdx.2 (by omega)⟩ (n:=v) (by rw[zlt];exact h);refine (qfe K A (wd k) c x (bs k) w hr hc).mono fun e w' ⟨he,hw'⟩=>⟨?_,hw'⟩;rw[he,h0.1,h0.2]
theorem qih (k:Nat)(K:Nat)(A:Option Addr)(c:Nat)(x:List UInt8)(w:World)(hr:Rd w K A (wd k) x)(hc:wd k<=c)(h:qcv (bs k) x=none):
 Calls prog 145 #[.slice A (wd k) c,.int .i64 (bs k:Int)] w fun e w'=>e=.returned (.tuple #[.int .i64 0,.int .i64 3])/\w=w':=by
 have hw:=Qaf k;have h0:=qwu (l:=x) (b:=bs k) ⟨Qcs k,by rw[hr.1];exact qdx.2 (by omega)⟩ (by rw[zlt];exact h);refine (qfe K A (wd k) c x (bs k) w hr hc).mono fun e w' ⟨he,hw'⟩=>⟨?_,hw'⟩;rw[he,h0.1,h0.2]
theorem qnu (xs:List UInt8)(c:UInt8):Lib.hasSuffix (xs++[c]) [32]=(32==c):=by
 unfold Lib.hasSuffix List.isSuffixOf;simp[List.isPrefixOf]
theorem qr5:Lib.hasSuffix [] [32]=false:=rfl
theorem qyt {xs:List UInt8}(h:Lib.hasSuffix xs [32]=false)(k:Nat):Lib.trimRightB (xs++List.replicate k 32) 32=xs:=by
 unfold Lib.trimRightB;rw[List.reverse_append,List.reverse_replicate]
 have h1:(List.replicate k (32:UInt8)++xs.reverse).dropWhile (·==32)=xs.reverse.dropWhile (·==32):=by
  induction k with
  |zero=>rfl
  |succ k ih=>simp[List.replicate_succ]
 rw[h1];rcases List.eq_nil_or_concat xs with rfl|⟨ys,c,rfl⟩
 ·rfl
 ·rw[List.concat_eq_append,qnu] at h
  have hc:(c==32)=false:=by
   rw[zls] at h |-;exact fun e=>h e.symm
  simp[hc]
theorem by_inj {s s':ByteArray}(h:by_ s=by_ s'):s=s':=by
 obtain⟨⟨a⟩⟩:=s;obtain⟨⟨b⟩⟩:=s';simp only[by_] at h;rw[h]
theorem qu5 (s:ByteArray)(f:Nat->Int)(k:Nat):∀j,k<j->∃t,pre s f j=pre s f k++(qkr (qa5 s) k (f k)++t)
 |0,h=>by omega
 |j+1,h=>by
  by_cases e:k=j
  ·subst e;exact⟨[],by simp[pre]⟩
  ·obtain⟨t,ht⟩:=qu5 s f k j (by omega);exact⟨t++qkr (qa5 s) j (f j),by simp[pre,ht]⟩
theorem qsg {s:ByteArray}{f:Nat->Int}{k:Nat}:∀j,k<j->qb4 s f j=true->qb4 s f k=true/\okF (qa5 s) k (f k)=true
 |0,h,_=>by omega
 |j+1,h,ha=>by
  simp only[qb4,zlx] at ha;by_cases e:k=j
  ·subst e;exact ha
  ·exact qsg j (by omega) ha.1
theorem rdF_fldF {tab:Bool}{k:Nat}{n:Int}(h:okF tab k n=true):rdF tab k (qkr tab k n)=some n.toNat/\((n.toNat:Nat):Int)=n:=by
 unfold okF at h;unfold rdF qkr;split
 ·rename_i ht
  rw[if_pos ht,beq_iff_eq] at h;subst h;rw[if_pos (by simp[qdg])];exact⟨rfl,rfl⟩
 ·rename_i ht
  rw[if_neg ht,zlx,decide_eq_true_eq,decide_eq_true_eq] at h;exact⟨qqv (bs_2 k).1 (bs_2 k).2 _ _,by omega⟩
theorem part_pre {s:ByteArray}{f:Nat->Int}{k:Nat}(hs:s.size<=16)(hk:k<5)(h:qb4 s f 5=true)(r:List UInt8):qcb (pre s f 5++r) k=qkr (qa5 s) k (f k):=by
 obtain⟨t,ht⟩:=qu5 s f k 5 hk;obtain⟨h1,h2⟩:=qsg 5 hk h;unfold qcb;rw[ht,zln,zln,List.drop_left' (qch hs k h1),List.take_left' (qja h2)]
theorem nm_pre {s:ByteArray}{f:Nat->Int}(hn:qaa s=true)(r:List UInt8):nm (pre s f 5++r)=s:=by
 obtain⟨_,hs,_,hx⟩:=qbu.1 hn;apply by_inj;rw[by_nm]
 have e:(pre s f 5++r).take 16=by_ s++List.replicate (16-s.size) 32:=by
  have e2:pre s f 5=pre s f 0++(qkr (qa5 s) 0 (f 0)++(qkr (qa5 s) 1 (f 1)++(qkr (qa5 s) 2 (f 2)++(qkr (qa5 s) 3 (f 3)++qkr (qa5 s) 4 (f 4))))):=by simp[pre]
  rw[e2,zln];exact List.take_left' (qch hs 0 rfl)
 rw[e,qyt hx]
theorem dec_enc {s:ByteArray}{f:Nat->Int}(hn:qaa s=true)(h:qb4 s f 5=true)(r:List UInt8):
 qg6 (pre s f 5++[96,10]++r)=0/\qax (pre s f 5++[96,10]++r)=s/\∀k,k<5->qak (pre s f 5++[96,10]++r) k=f k:=by
 have hs:=(qbu.1 hn).2.1;have hl:(pre s f 5).length=58:=qch hs 5 h;rw[zln];have hnm:nm (pre s f 5++([96,10]++r))=s:=nm_pre hn _
 have hrd:∀k,k<5->rdF (qa5 s) k (qcb (pre s f 5++([96,10]++r)) k)=some (f k).toNat/\(((f k).toNat:Nat):Int)=f k:=fun k hk=>by
  rw[part_pre hs hk h];exact rdF_fldF (qsg 5 hk h).2
 have hall:∀j,j<=5->qeq (pre s f 5++([96,10]++r)) j=true:=by
  intro j
  induction j with
  |zero=>intro _;rfl
  |succ j ih=>intro hj;exact qc0 (ih (by omega)) (by rw[hnm];exact (hrd j (by omega)).1)
 have h0:qg6 (pre s f 5++([96,10]++r))=0:=by
  refine qys ?_ ?_ (by rw[hnm];exact hn) (hall 5 (by omega))
  ·simp[hl];omega
  ·rw[List.drop_left' hl];rfl
 refine⟨h0,?_,fun k hk=>?_⟩
 ·unfold qax;rw[if_pos h0,hnm]
 ·unfold qak;rw[if_pos h0,hnm,(hrd k hk).1];exact (hrd k hk).2
theorem qyu {tab:Bool}{k x:Nat}{p:List UInt8}(hl:p.length=wd k)(h:rdF tab k p=some x):okF tab k (x:Int)=true/\qkr tab k (x:Int)=p:=by
 unfold rdF at h;unfold okF qkr;split at h
 ·rename_i ht
  rw[if_pos ht,if_pos ht];split at h
  ·rename_i hsp
   injection h with h;subst h;refine⟨rfl,?_⟩;unfold qdg at hsp;refine (List.eq_replicate_iff.2 ⟨hl,fun b hb=>?_⟩).symm;have:=List.all_eq_true.1 hsp b hb;simpa using this
  ·cases h
 ·rename_i ht
  rw[if_neg ht,if_neg ht,zlt];obtain⟨h1,h2⟩:=(Qgp (bs_2 k).1 (bs_2 k).2).1 h;rw[hl] at h1 h2;refine⟨by simp[h1],?_⟩;unfold field;exact h2.symm
theorem qsh {l:List UInt8}{k:Nat}:∀j,k<j->qeq l j=true->∃x,rdF (qa5 (nm l)) k (qcb l k)=some x
 |0,h,_=>by omega
 |j+1,h,ha=>by
  simp only[qeq,zlx] at ha;by_cases e:k=j
  ·subst e;exact Option.isSome_iff_exists.1 ha.2
  ·exact qsh j (by omega) ha.1
theorem qkt {l:List UInt8}(h:qg6 l=0):60<=l.length/\(l.drop 58).take 2=[96,10]/\qaa (nm l)=true/\qeq l 5=true:=by
 unfold qg6 at h;split at h
 ·omega
 ·split at h
  ·omega
  ·split at h
   ·omega
   ·split at h
    ·omega
    ·rename_i h1 h2 h3 h4
     exact⟨by omega,by simpa using h2,by simpa using h3,by simpa using h4⟩
theorem qx3 (s:ByteArray)(t u g m z:Int)(w:World)(hs:s.size<=140737488355328)(h:qaa s=false):
 Calls prog 174 #[.agg #[.string s,.int .i64 t,.int .i64 u,.int .i64 g,.int .i64 m,.int .i64 z]] w (qc9 s (num t u g m z) w):=by
 have Hf:=hid fun w' (hb:Below w.heap.size w w')=>qc9.empty (qyq (f:=num t u g m z) h) hb;go_enter func174,ntmps174;go_wp2_with (go_at_call 141;refine (qdd s _ hs).mono ?_;rintro e w1 ⟨rfl,hb1⟩;rw[h])
 go_ret2
 exact Hf.out _ (((Below.refl _ _).alloc zjn _).trans (hb1.mono (by simp)))
theorem Qag (s:ByteArray)(t u g m z:Int)(w:World)(h:qaa s=true)(htab:qa5 s=true)(_l0:t<9223372036854775808)(_l1:u<9223372036854775808)(_l2:g<9223372036854775808)(_l3:m<9223372036854775808)(l4:z<9223372036854775808):
 Calls prog 174 #[.agg #[.string s,.int .i64 t,.int .i64 u,.int .i64 g,.int .i64 m,.int .i64 z]] w (qc9 s (num t u g m z) w):=by
 obtain⟨s1,s2,_,_⟩:=qbu.1 h;have H9:=hid fun (h2:qb4 s (num t u g m z) 5=false) w' (hb:Below w.heap.size w w')=>qc9.empty (qu3 h h2) hb;have H0:=hid fun h2=>qjw (f:=num t u g m z) h h2;have Hat:=hid (HAt.new w s t u g m z 105);have HbA:=hid (show Below w.heap.size w (w.alloc (.cells #[.string s,.int .i64 t,.int .i64 u,.int .i64 g,.int .i64 m,.int .i64 z] 105)) from (Below.refl _ _).alloc zjn _);go_enter func174,ntmps174;go_wp2_with fail
 refine (qdd s _ (by omega)).mono ?_;rintro e w1 ⟨rfl,hb1⟩;rw[h];have hat1:=Hat.out.below hb1 (by simp);have HbA1:=hid (HbA.out.trans (hb1.mono (by simp)));have hB:w.heap.size<w1.heap.size:=hat1.2.2.2.2.2.2;clear hb1 Hat HbA;obtain⟨c0,c1,c2,c3,c4,c5,_⟩:=hat1;have e16:=qx1 s2
 go_wp2_with (first
  |(at_make;refine qbk _ 60 (by omega) w1.heap.size zjn rfl _ _ rfl _ _ rfl rfl ?_;intro v2 w2 hown2 hb2;have k2:=qa7 hb2 hB)
  |(at_builtin;refine qgm w2 w1.heap.size _ 0 [] hown2 hb2.size s (by omega) rfl (.tmp 15) (.tmp 17) rfl rfl rfl ?_;intro v3 w3 hown3 hb3;have hb13:=hb2.trans hb3;have k3:=qa7 hb13 hB)
  |(go_at_call 211;refine (qbt w1.heap.size v3 _ _ (16-s.size) _ hown3 hb13.size (by omega) (by omega)).mono ?_;rintro e w4 ⟨v4,rfl,hown4,hb4⟩;have hb14:=hb13.trans hb4;have k4:=qa7 hb14 hB)
  |(go_at_call 142;refine (qif _).mono ?_;rintro e w5 ⟨rfl,hb5⟩;have hb15:=hb14.trans (hb5.mono hb14.size);have k5:=qa7 hb15 hB))
 have hown5:=(hown4.below (hb5.mono zjn))
 have hown5':Own w5 w1.heap.size v4 (off 0) (pre s (num t u g m z) 0):=by
  have e1:0+s.size+(16-s.size)=off 0:=by show _=16;omega
  rw[e1,zlI] at hown5;exact hown5
 clear hown2 hown3 hown4 hown5 hb2 hb3 hb13 hb4 hb14 hb5 k2 k3 k4 k5 e16;go_loopw [4,26] (fun v i W=>∃k:Nat,i=.int .i64 (k:Int)/\k<=5/\qb4 s (num t u g m z) k=true/\Own W w1.heap.size v (off k) (pre s (num t u g m z) k)/\Below w1.heap.size w1 W) (fun _ i _=>5-qj2 i)
 case atStart=>exact⟨0,rfl,by omega,rfl,hown5',hb15⟩
 case round=>
  clear hown5' hb15;obtain⟨k,rfl,hk,hok,hown,hbel⟩:=hrel;have kr:=qa7 hbel hB;have hsz:=hbel.size;have hBr:w.heap.size<wr.heap.size:=by omega
  have Hok:=hid hok;clear hok;by_cases hlt:k<5
  ·have h5:k=0∨k=1∨k=2∨k=3∨k=4:=by omega
   clear hlt hk;rcases h5 with rfl|rfl|rfl|rfl|rfl
   ·have ik:=at0;simp only[row0] at ik;by_cases hn:t=0
    ·have Hn:Hid (qb4 s (num t u g m z) 1=true):=hid (by show (qb4 s _ 0&&okF (qa5 s) 0 t)=true;rw[Hok.out,htab,hn];rfl);have hne:((t:Int) !=0)=false:=by rw[hn];rfl
     have Hp:Hid (pre s (num t u g m z) 1=pre s (num t u g m z) 0++List.replicate 12 32):=hid (by show _++qkr (qa5 s) 0 t=_;rw[htab];rfl);clear hn;go_wp2_with (first|(go_at_call 184;refine (var1 _ _).mono ?_;rintro e w' ⟨rfl,rfl⟩)|(go_at_call 143;refine (qa6 _ _ _ _ s _).mono ?_;rintro e w6 ⟨rfl,hb6⟩;rw[htab];have hb16:=(hbel.alloc hbel.size _).trans (hb6.mono (by simp;omega));have k6:=qa7 hb16 hB;have kf:=qa7 (B:=wr.heap.size) hb6 (by simp);have hown6:=(hown.alloc _).below hb6)|(go_at_call 211;refine (qbt w1.heap.size u4 (off 0) _ 12 _ hown6 hb16.size (by decide) (by omega)).mono ?_;rintro e w7 ⟨v7,rfl,hown7,hb7⟩;have hb17:=hb16.trans hb7))
     go_roundw
     case rel=>exact⟨1,rfl,by omega,Hn.out,by rw[Hp.out];exact hown7,hb17⟩
     case measure=>decide
    ·have hok1:okF (qa5 s) 0 t=false:=by rw[htab];show (t==0)=false;simpa using hn
     have hne:((t:Int) !=0)=true:=by simpa using hn
     have Hx:=hid (H9.out (qbp hok1 5 (by omega)));clear hn hok1;go_wp2_with (first|(go_at_call 184;refine (var1 _ _).mono ?_;rintro e w' ⟨rfl,rfl⟩)|(go_at_call 143;refine (qa6 _ _ _ _ s _).mono ?_;rintro e w6 ⟨rfl,hb6⟩;rw[htab];have hb16:=(hbel.alloc hbel.size _).trans (hb6.mono (by simp;omega));have k6:=qa7 hb16 hB;have kf:=qa7 (B:=wr.heap.size) hb6 (by simp);have hown6:=(hown.alloc _).below hb6))
     go_ret2
     exact Hx.out _ (HbA1.out.trans (hb16.mono (by omega)))
   ·have ik:=at1;simp only[row1] at ik;by_cases hn:u=0
    ·have Hn:Hid (qb4 s (num t u g m z) 2=true):=hid (by show (qb4 s _ 1&&okF (qa5 s) 1 u)=true;rw[Hok.out,htab,hn];rfl);have hne:((u:Int) !=0)=false:=by rw[hn];rfl
     have Hp:Hid (pre s (num t u g m z) 2=pre s (num t u g m z) 1++List.replicate 6 32):=hid (by show _++qkr (qa5 s) 1 u=_;rw[htab];rfl);clear hn;go_wp2_with (first|(go_at_call 185;refine (var2 _ _).mono ?_;rintro e w' ⟨rfl,rfl⟩)|(go_at_call 143;refine (qa6 _ _ _ _ s _).mono ?_;rintro e w6 ⟨rfl,hb6⟩;rw[htab];have hb16:=(hbel.alloc hbel.size _).trans (hb6.mono (by simp;omega));have k6:=qa7 hb16 hB;have kf:=qa7 (B:=wr.heap.size) hb6 (by simp);have hown6:=(hown.alloc _).below hb6)|(go_at_call 211;refine (qbt w1.heap.size u4 (off 1) _ 6 _ hown6 hb16.size (by decide) (by omega)).mono ?_;rintro e w7 ⟨v7,rfl,hown7,hb7⟩;have hb17:=hb16.trans hb7))
     go_roundw
     case rel=>exact⟨2,rfl,by omega,Hn.out,by rw[Hp.out];exact hown7,hb17⟩
     case measure=>decide
    ·have hok1:okF (qa5 s) 1 u=false:=by rw[htab];show (u==0)=false;simpa using hn
     have hne:((u:Int) !=0)=true:=by simpa using hn
     have Hx:=hid (H9.out (qbp hok1 5 (by omega)));clear hn hok1;go_wp2_with (first|(go_at_call 185;refine (var2 _ _).mono ?_;rintro e w' ⟨rfl,rfl⟩)|(go_at_call 143;refine (qa6 _ _ _ _ s _).mono ?_;rintro e w6 ⟨rfl,hb6⟩;rw[htab];have hb16:=(hbel.alloc hbel.size _).trans (hb6.mono (by simp;omega));have k6:=qa7 hb16 hB;have kf:=qa7 (B:=wr.heap.size) hb6 (by simp);have hown6:=(hown.alloc _).below hb6))
     go_ret2
     exact Hx.out _ (HbA1.out.trans (hb16.mono (by omega)))
   ·have ik:=at2;simp only[row2] at ik;by_cases hn:g=0
    ·have Hn:Hid (qb4 s (num t u g m z) 3=true):=hid (by show (qb4 s _ 2&&okF (qa5 s) 2 g)=true;rw[Hok.out,htab,hn];rfl);have hne:((g:Int) !=0)=false:=by rw[hn];rfl
     have Hp:Hid (pre s (num t u g m z) 3=pre s (num t u g m z) 2++List.replicate 6 32):=hid (by show _++qkr (qa5 s) 2 g=_;rw[htab];rfl);clear hn;go_wp2_with (first|(go_at_call 186;refine (var3 _ _).mono ?_;rintro e w' ⟨rfl,rfl⟩)|(go_at_call 143;refine (qa6 _ _ _ _ s _).mono ?_;rintro e w6 ⟨rfl,hb6⟩;rw[htab];have hb16:=(hbel.alloc hbel.size _).trans (hb6.mono (by simp;omega));have k6:=qa7 hb16 hB;have kf:=qa7 (B:=wr.heap.size) hb6 (by simp);have hown6:=(hown.alloc _).below hb6)|(go_at_call 211;refine (qbt w1.heap.size u4 (off 2) _ 6 _ hown6 hb16.size (by decide) (by omega)).mono ?_;rintro e w7 ⟨v7,rfl,hown7,hb7⟩;have hb17:=hb16.trans hb7))
     go_roundw
     case rel=>exact⟨3,rfl,by omega,Hn.out,by rw[Hp.out];exact hown7,hb17⟩
     case measure=>decide
    ·have hok1:okF (qa5 s) 2 g=false:=by rw[htab];show (g==0)=false;simpa using hn
     have hne:((g:Int) !=0)=true:=by simpa using hn
     have Hx:=hid (H9.out (qbp hok1 5 (by omega)));clear hn hok1;go_wp2_with (first|(go_at_call 186;refine (var3 _ _).mono ?_;rintro e w' ⟨rfl,rfl⟩)|(go_at_call 143;refine (qa6 _ _ _ _ s _).mono ?_;rintro e w6 ⟨rfl,hb6⟩;rw[htab];have hb16:=(hbel.alloc hbel.size _).trans (hb6.mono (by simp;omega));have k6:=qa7 hb16 hB;have kf:=qa7 (B:=wr.heap.size) hb6 (by simp);have hown6:=(hown.alloc _).below hb6))
     go_ret2
     exact Hx.out _ (HbA1.out.trans (hb16.mono (by omega)))
   ·have ik:=at3;simp only[row3] at ik;by_cases hn:m=0
    ·have Hn:Hid (qb4 s (num t u g m z) 4=true):=hid (by show (qb4 s _ 3&&okF (qa5 s) 3 m)=true;rw[Hok.out,htab,hn];rfl);have hne:((m:Int) !=0)=false:=by rw[hn];rfl
     have Hp:Hid (pre s (num t u g m z) 4=pre s (num t u g m z) 3++List.replicate 8 32):=hid (by show _++qkr (qa5 s) 3 m=_;rw[htab];rfl);clear hn;go_wp2_with (first|(go_at_call 187;refine (var4 _ _).mono ?_;rintro e w' ⟨rfl,rfl⟩)|(go_at_call 143;refine (qa6 _ _ _ _ s _).mono ?_;rintro e w6 ⟨rfl,hb6⟩;rw[htab];have hb16:=(hbel.alloc hbel.size _).trans (hb6.mono (by simp;omega));have k6:=qa7 hb16 hB;have kf:=qa7 (B:=wr.heap.size) hb6 (by simp);have hown6:=(hown.alloc _).below hb6)|(go_at_call 211;refine (qbt w1.heap.size u4 (off 3) _ 8 _ hown6 hb16.size (by decide) (by omega)).mono ?_;rintro e w7 ⟨v7,rfl,hown7,hb7⟩;have hb17:=hb16.trans hb7))
     go_roundw
     case rel=>exact⟨4,rfl,by omega,Hn.out,by rw[Hp.out];exact hown7,hb17⟩
     case measure=>decide
    ·have hok1:okF (qa5 s) 3 m=false:=by rw[htab];show (m==0)=false;simpa using hn
     have hne:((m:Int) !=0)=true:=by simpa using hn
     have Hx:=hid (H9.out (qbp hok1 5 (by omega)));clear hn hok1;go_wp2_with (first|(go_at_call 187;refine (var4 _ _).mono ?_;rintro e w' ⟨rfl,rfl⟩)|(go_at_call 143;refine (qa6 _ _ _ _ s _).mono ?_;rintro e w6 ⟨rfl,hb6⟩;rw[htab];have hb16:=(hbel.alloc hbel.size _).trans (hb6.mono (by simp;omega));have k6:=qa7 hb16 hB;have kf:=qa7 (B:=wr.heap.size) hb6 (by simp);have hown6:=(hown.alloc _).below hb6))
     go_ret2
     exact Hx.out _ (HbA1.out.trans (hb16.mono (by omega)))
   ·have ik:=at4;simp only[qyp] at ik;by_cases hn:0<=z/\(nd 10 z.toNat:Int)<=10
    ·obtain⟨n0,hn0⟩:=zlA hn.1;have hnd:nd 10 n0<=10:=by have:=hn.2;rw[hn0,zlt] at this;omega
     have Hn:Hid (qb4 s (num t u g m z) 5=true):=hid (by show (qb4 s _ 4&&okF (qa5 s) 4 z)=true;rw[Hok.out,htab,hn0];show (decide (0<=(n0:Int))&&decide (nd 10 (n0:Int).toNat<=10))=true;rw[zlt];simp[hnd]);have Hp:Hid (pre s (num t u g m z) 5=pre s (num t u g m z) 4++field 10 n0 10):=hid (by show _++qkr (qa5 s) 4 z=_;rw[htab,hn0];rfl);have hl0:n0<9223372036854775808:=by omega
     have HF:=hid (qf2 n0 10 10 hl0 (by decide) (by omega) hnd);have Hn0:=hid hn0;have ck:=c5;rw[hn0] at ck;clear hn hn0 hnd c5 hl0;go_wp2_with (first|(go_at_call 188;refine (var5 _ _).mono ?_;rintro e w' ⟨rfl,rfl⟩)|(go_at_call 143;refine (qa6 _ _ _ _ s _).mono ?_;rintro e w6 ⟨rfl,hb6⟩;rw[htab];have hb16:=(hbel.alloc hbel.size _).trans (hb6.mono (by simp;omega));have k6:=qa7 hb16 hB;have kf:=qa7 (B:=wr.heap.size) hb6 (by simp);have hown6:=(hown.alloc _).below hb6)|(go_at_call 212;refine (HF.out _).mono ?_;rintro e w7 ⟨A7,cp7,rfl,_,hr7,hc7,hb7⟩;have hb17:=hb16.trans (hb7.mono hb16.size);have hown7:=hown6.below hb7)|(at_builtin;refine qah _ w1.heap.size u4 (off 4) _ hown7 hb17.size A7 10 cp7 _ _ hr7 (by decide) rfl (.tmp 56) (.tmp 57) rfl rfl rfl ?_;intro v8 w8 hown8 hb8;have hb18:=hb17.trans hb8))
     go_roundw
     case rel=>exact⟨5,rfl,by omega,Hn.out,by rw[Hp.out];exact hown8,hb18⟩
     case measure=>decide
    ·have hok1:okF (qa5 s) 4 z=false:=by rw[htab];show (decide (0<=z)&&decide (nd 10 z.toNat<=10))=false;rw[Bool.and_eq_false_iff,decide_eq_false_iff_not,decide_eq_false_iff_not];omega
     have Hx:=hid (H9.out (qbp hok1 5 (by omega)));have HF:=hid (qdh z 10 10 l4 (by decide) (by omega) hn);clear hn hok1;go_wp2_with (first|(go_at_call 188;refine (var5 _ _).mono ?_;rintro e w' ⟨rfl,rfl⟩)|(go_at_call 143;refine (qa6 _ _ _ _ s _).mono ?_;rintro e w6 ⟨rfl,hb6⟩;rw[htab];have hb16:=(hbel.alloc hbel.size _).trans (hb6.mono (by simp;omega));have k6:=qa7 hb16 hB;have kf:=qa7 (B:=wr.heap.size) hb6 (by simp);have hown6:=(hown.alloc _).below hb6)|(go_at_call 212;refine (HF.out _).mono ?_;rintro e w7 ⟨A7,cp7,rfl,_,hb7⟩;have hb17:=hb16.trans (hb7.mono hb16.size)))
     go_ret2
     exact Hx.out _ (HbA1.out.trans (hb17.mono (by omega)))
  ·obtain rfl:k=5:=by omega
   go_wp2_with (at_builtin;refine qgm wr w1.heap.size u4 (off 5) _ hown hsz ⟨#[96,10]⟩ (by decide) rfl (.tmp 60) (.const (.string ⟨#[96,10]⟩)) rfl rfl rfl ?_;intro v8 w8 hown8 hb8)
   go_ret2
   have e0:=H0.out Hok.out;refine⟨_,by rw[e0.1];rfl,?_,HbA1.out.trans ((hbel.trans hb8).mono (by omega))⟩;have e1:(qqy s (num t u g m z)).length=off 5+2:=by rw[e0.2,zlb,qch s2 5 Hok.out];rfl
   rw[e1,e0.2];exact hown8.more (by omega)
theorem Qah (s:ByteArray)(t u g m z:Int)(w:World)(h:qaa s=true)(htab:qa5 s=false)(l0:t<9223372036854775808)(l1:u<9223372036854775808)(l2:g<9223372036854775808)(l3:m<9223372036854775808)(l4:z<9223372036854775808):
 Calls prog 174 #[.agg #[.string s,.int .i64 t,.int .i64 u,.int .i64 g,.int .i64 m,.int .i64 z]] w (qc9 s (num t u g m z) w):=by
 obtain⟨s1,s2,_,_⟩:=qbu.1 h;have H9:=hid fun (h2:qb4 s (num t u g m z) 5=false) w' (hb:Below w.heap.size w w')=>qc9.empty (qu3 h h2) hb;have H0:=hid fun h2=>qjw (f:=num t u g m z) h h2;have Hat:=hid (HAt.new w s t u g m z 105);have HbA:=hid (show Below w.heap.size w (w.alloc (.cells #[.string s,.int .i64 t,.int .i64 u,.int .i64 g,.int .i64 m,.int .i64 z] 105)) from (Below.refl _ _).alloc zjn _);go_enter func174,ntmps174;go_wp2_with fail
 refine (qdd s _ (by omega)).mono ?_;rintro e w1 ⟨rfl,hb1⟩;rw[h];have hat1:=Hat.out.below hb1 (by simp);have HbA1:=hid (HbA.out.trans (hb1.mono (by simp)));have hB:w.heap.size<w1.heap.size:=hat1.2.2.2.2.2.2;clear hb1 Hat HbA;obtain⟨c0,c1,c2,c3,c4,c5,_⟩:=hat1;have e16:=qx1 s2
 go_wp2_with (first
  |(at_make;refine qbk _ 60 (by omega) w1.heap.size zjn rfl _ _ rfl _ _ rfl rfl ?_;intro v2 w2 hown2 hb2;have k2:=qa7 hb2 hB)
  |(at_builtin;refine qgm w2 w1.heap.size _ 0 [] hown2 hb2.size s (by omega) rfl (.tmp 15) (.tmp 17) rfl rfl rfl ?_;intro v3 w3 hown3 hb3;have hb13:=hb2.trans hb3;have k3:=qa7 hb13 hB)
  |(go_at_call 211;refine (qbt w1.heap.size v3 _ _ (16-s.size) _ hown3 hb13.size (by omega) (by omega)).mono ?_;rintro e w4 ⟨v4,rfl,hown4,hb4⟩;have hb14:=hb13.trans hb4;have k4:=qa7 hb14 hB)
  |(go_at_call 142;refine (qif _).mono ?_;rintro e w5 ⟨rfl,hb5⟩;have hb15:=hb14.trans (hb5.mono hb14.size);have k5:=qa7 hb15 hB))
 have hown5:=(hown4.below (hb5.mono zjn))
 have hown5':Own w5 w1.heap.size v4 (off 0) (pre s (num t u g m z) 0):=by
  have e1:0+s.size+(16-s.size)=off 0:=by show _=16;omega
  rw[e1,zlI] at hown5;exact hown5
 clear hown2 hown3 hown4 hown5 hb2 hb3 hb13 hb4 hb14 hb5 k2 k3 k4 k5 e16;go_loopw [4,26] (fun v i W=>∃k:Nat,i=.int .i64 (k:Int)/\k<=5/\qb4 s (num t u g m z) k=true/\Own W w1.heap.size v (off k) (pre s (num t u g m z) k)/\Below w1.heap.size w1 W) (fun _ i _=>5-qj2 i)
 case atStart=>exact⟨0,rfl,by omega,rfl,hown5',hb15⟩
 case round=>
  clear hown5' hb15;obtain⟨k,rfl,hk,hok,hown,hbel⟩:=hrel;have kr:=qa7 hbel hB;have hsz:=hbel.size;have hBr:w.heap.size<wr.heap.size:=by omega
  have Hok:=hid hok;clear hok;by_cases hlt:k<5
  ·have h5:k=0∨k=1∨k=2∨k=3∨k=4:=by omega
   clear hlt hk;rcases h5 with rfl|rfl|rfl|rfl|rfl
   ·have ik:=at0;simp only[row0] at ik;by_cases hn:0<=t/\(nd 10 t.toNat:Int)<=12
    ·obtain⟨n0,hn0⟩:=zlA hn.1;have hnd:nd 10 n0<=12:=by have:=hn.2;rw[hn0,zlt] at this;omega
     have Hn:Hid (qb4 s (num t u g m z) 1=true):=hid (by show (qb4 s _ 0&&okF (qa5 s) 0 t)=true;rw[Hok.out,htab,hn0];show (decide (0<=(n0:Int))&&decide (nd 10 (n0:Int).toNat<=12))=true;rw[zlt];simp[hnd]);have Hp:Hid (pre s (num t u g m z) 1=pre s (num t u g m z) 0++field 10 n0 12):=hid (by show _++qkr (qa5 s) 0 t=_;rw[htab,hn0];rfl);have hl0:n0<9223372036854775808:=by omega
     have HF:=hid (qf2 n0 10 12 hl0 (by decide) (by omega) hnd);have Hn0:=hid hn0;have ck:=c1;rw[hn0] at ck;clear hn hn0 hnd c1 hl0;go_wp2_with (first|(go_at_call 184;refine (var1 _ _).mono ?_;rintro e w' ⟨rfl,rfl⟩)|(go_at_call 143;refine (qa6 _ _ _ _ s _).mono ?_;rintro e w6 ⟨rfl,hb6⟩;rw[htab];have hb16:=(hbel.alloc hbel.size _).trans (hb6.mono (by simp;omega));have k6:=qa7 hb16 hB;have kf:=qa7 (B:=wr.heap.size) hb6 (by simp);have hown6:=(hown.alloc _).below hb6)|(go_at_call 212;refine (HF.out _).mono ?_;rintro e w7 ⟨A7,cp7,rfl,_,hr7,hc7,hb7⟩;have hb17:=hb16.trans (hb7.mono hb16.size);have hown7:=hown6.below hb7)|(at_builtin;refine qah _ w1.heap.size u4 (off 0) _ hown7 hb17.size A7 12 cp7 _ _ hr7 (by decide) rfl (.tmp 56) (.tmp 57) rfl rfl rfl ?_;intro v8 w8 hown8 hb8;have hb18:=hb17.trans hb8))
     go_roundw
     case rel=>exact⟨1,rfl,by omega,Hn.out,by rw[Hp.out];exact hown8,hb18⟩
     case measure=>decide
    ·have hok1:okF (qa5 s) 0 t=false:=by rw[htab];show (decide (0<=t)&&decide (nd 10 t.toNat<=12))=false;rw[Bool.and_eq_false_iff,decide_eq_false_iff_not,decide_eq_false_iff_not];omega
     have Hx:=hid (H9.out (qbp hok1 5 (by omega)));have HF:=hid (qdh t 10 12 l0 (by decide) (by omega) hn);clear hn hok1;go_wp2_with (first|(go_at_call 184;refine (var1 _ _).mono ?_;rintro e w' ⟨rfl,rfl⟩)|(go_at_call 143;refine (qa6 _ _ _ _ s _).mono ?_;rintro e w6 ⟨rfl,hb6⟩;rw[htab];have hb16:=(hbel.alloc hbel.size _).trans (hb6.mono (by simp;omega));have k6:=qa7 hb16 hB;have kf:=qa7 (B:=wr.heap.size) hb6 (by simp);have hown6:=(hown.alloc _).below hb6)|(go_at_call 212;refine (HF.out _).mono ?_;rintro e w7 ⟨A7,cp7,rfl,_,hb7⟩;have hb17:=hb16.trans (hb7.mono hb16.size)))
     go_ret2
     exact Hx.out _ (HbA1.out.trans (hb17.mono (by omega)))
   ·have ik:=at1;simp only[row1] at ik;by_cases hn:0<=u/\(nd 10 u.toNat:Int)<=6
    ·obtain⟨n0,hn0⟩:=zlA hn.1;have hnd:nd 10 n0<=6:=by have:=hn.2;rw[hn0,zlt] at this;omega
     have Hn:Hid (qb4 s (num t u g m z) 2=true):=hid (by show (qb4 s _ 1&&okF (qa5 s) 1 u)=true;rw[Hok.out,htab,hn0];show (decide (0<=(n0:Int))&&decide (nd 10 (n0:Int).toNat<=6))=true;rw[zlt];simp[hnd]);have Hp:Hid (pre s (num t u g m z) 2=pre s (num t u g m z) 1++field 10 n0 6):=hid (by show _++qkr (qa5 s) 1 u=_;rw[htab,hn0];rfl);have hl0:n0<9223372036854775808:=by omega
     have HF:=hid (qf2 n0 10 6 hl0 (by decide) (by omega) hnd);have Hn0:=hid hn0;have ck:=c2;rw[hn0] at ck;clear hn hn0 hnd c2 hl0;go_wp2_with (first|(go_at_call 185;refine (var2 _ _).mono ?_;rintro e w' ⟨rfl,rfl⟩)|(go_at_call 143;refine (qa6 _ _ _ _ s _).mono ?_;rintro e w6 ⟨rfl,hb6⟩;rw[htab];have hb16:=(hbel.alloc hbel.size _).trans (hb6.mono (by simp;omega));have k6:=qa7 hb16 hB;have kf:=qa7 (B:=wr.heap.size) hb6 (by simp);have hown6:=(hown.alloc _).below hb6)|(go_at_call 212;refine (HF.out _).mono ?_;rintro e w7 ⟨A7,cp7,rfl,_,hr7,hc7,hb7⟩;have hb17:=hb16.trans (hb7.mono hb16.size);have hown7:=hown6.below hb7)|(at_builtin;refine qah _ w1.heap.size u4 (off 1) _ hown7 hb17.size A7 6 cp7 _ _ hr7 (by decide) rfl (.tmp 56) (.tmp 57) rfl rfl rfl ?_;intro v8 w8 hown8 hb8;have hb18:=hb17.trans hb8))
     go_roundw
     case rel=>exact⟨2,rfl,by omega,Hn.out,by rw[Hp.out];exact hown8,hb18⟩
     case measure=>decide
    ·have hok1:okF (qa5 s) 1 u=false:=by rw[htab];show (decide (0<=u)&&decide (nd 10 u.toNat<=6))=false;rw[Bool.and_eq_false_iff,decide_eq_false_iff_not,decide_eq_false_iff_not];omega
     have Hx:=hid (H9.out (qbp hok1 5 (by omega)));have HF:=hid (qdh u 10 6 l1 (by decide) (by omega) hn);clear hn hok1;go_wp2_with (first|(go_at_call 185;refine (var2 _ _).mono ?_;rintro e w' ⟨rfl,rfl⟩)|(go_at_call 143;refine (qa6 _ _ _ _ s _).mono ?_;rintro e w6 ⟨rfl,hb6⟩;rw[htab];have hb16:=(hbel.alloc hbel.size _).trans (hb6.mono (by simp;omega));have k6:=qa7 hb16 hB;have kf:=qa7 (B:=wr.heap.size) hb6 (by simp);have hown6:=(hown.alloc _).below hb6)|(go_at_call 212;refine (HF.out _).mono ?_;rintro e w7 ⟨A7,cp7,rfl,_,hb7⟩;have hb17:=hb16.trans (hb7.mono hb16.size)))
     go_ret2
     exact Hx.out _ (HbA1.out.trans (hb17.mono (by omega)))
   ·have ik:=at2;simp only[row2] at ik;by_cases hn:0<=g/\(nd 10 g.toNat:Int)<=6
    ·obtain⟨n0,hn0⟩:=zlA hn.1;have hnd:nd 10 n0<=6:=by have:=hn.2;rw[hn0,zlt] at this;omega
     have Hn:Hid (qb4 s (num t u g m z) 3=true):=hid (by show (qb4 s _ 2&&okF (qa5 s) 2 g)=true;rw[Hok.out,htab,hn0];show (decide (0<=(n0:Int))&&decide (nd 10 (n0:Int).toNat<=6))=true;rw[zlt];simp[hnd]);have Hp:Hid (pre s (num t u g m z) 3=pre s (num t u g m z) 2++field 10 n0 6):=hid (by show _++qkr (qa5 s) 2 g=_;rw[htab,hn0];rfl);have hl0:n0<9223372036854775808:=by omega
     have HF:=hid (qf2 n0 10 6 hl0 (by decide) (by omega) hnd);have Hn0:=hid hn0;have ck:=c3;rw[hn0] at ck;clear hn hn0 hnd c3 hl0;go_wp2_with (first|(go_at_call 186;refine (var3 _ _).mono ?_;rintro e w' ⟨rfl,rfl⟩)|(go_at_call 143;refine (qa6 _ _ _ _ s _).mono ?_;rintro e w6 ⟨rfl,hb6⟩;rw[htab];have hb16:=(hbel.alloc hbel.size _).trans (hb6.mono (by simp;omega));have k6:=qa7 hb16 hB;have kf:=qa7 (B:=wr.heap.size) hb6 (by simp);have hown6:=(hown.alloc _).below hb6)|(go_at_call 212;refine (HF.out _).mono ?_;rintro e w7 ⟨A7,cp7,rfl,_,hr7,hc7,hb7⟩;have hb17:=hb16.trans (hb7.mono hb16.size);have hown7:=hown6.below hb7)|(at_builtin;refine qah _ w1.heap.size u4 (off 2) _ hown7 hb17.size A7 6 cp7 _ _ hr7 (by decide) rfl (.tmp 56) (.tmp 57) rfl rfl rfl ?_;intro v8 w8 hown8 hb8;have hb18:=hb17.trans hb8))
     go_roundw
     case rel=>exact⟨3,rfl,by omega,Hn.out,by rw[Hp.out];exact hown8,hb18⟩
     case measure=>decide
    ·have hok1:okF (qa5 s) 2 g=false:=by rw[htab];show (decide (0<=g)&&decide (nd 10 g.toNat<=6))=false;rw[Bool.and_eq_false_iff,decide_eq_false_iff_not,decide_eq_false_iff_not];omega
     have Hx:=hid (H9.out (qbp hok1 5 (by omega)));have HF:=hid (qdh g 10 6 l2 (by decide) (by omega) hn);clear hn hok1;go_wp2_with (first|(go_at_call 186;refine (var3 _ _).mono ?_;rintro e w' ⟨rfl,rfl⟩)|(go_at_call 143;refine (qa6 _ _ _ _ s _).mono ?_;rintro e w6 ⟨rfl,hb6⟩;rw[htab];have hb16:=(hbel.alloc hbel.size _).trans (hb6.mono (by simp;omega));have k6:=qa7 hb16 hB;have kf:=qa7 (B:=wr.heap.size) hb6 (by simp);have hown6:=(hown.alloc _).below hb6)|(go_at_call 212;refine (HF.out _).mono ?_;rintro e w7 ⟨A7,cp7,rfl,_,hb7⟩;have hb17:=hb16.trans (hb7.mono hb16.size)))
     go_ret2
     exact Hx.out _ (HbA1.out.trans (hb17.mono (by omega)))
   ·have ik:=at3;simp only[row3] at ik;by_cases hn:0<=m/\(nd 8 m.toNat:Int)<=8
    ·obtain⟨n0,hn0⟩:=zlA hn.1;have hnd:nd 8 n0<=8:=by have:=hn.2;rw[hn0,zlt] at this;omega
     have Hn:Hid (qb4 s (num t u g m z) 4=true):=hid (by show (qb4 s _ 3&&okF (qa5 s) 3 m)=true;rw[Hok.out,htab,hn0];show (decide (0<=(n0:Int))&&decide (nd 8 (n0:Int).toNat<=8))=true;rw[zlt];simp[hnd]);have Hp:Hid (pre s (num t u g m z) 4=pre s (num t u g m z) 3++field 8 n0 8):=hid (by show _++qkr (qa5 s) 3 m=_;rw[htab,hn0];rfl);have hl0:n0<9223372036854775808:=by omega
     have HF:=hid (qf2 n0 8 8 hl0 (by decide) (by omega) hnd);have Hn0:=hid hn0;have ck:=c4;rw[hn0] at ck;clear hn hn0 hnd c4 hl0;go_wp2_with (first|(go_at_call 187;refine (var4 _ _).mono ?_;rintro e w' ⟨rfl,rfl⟩)|(go_at_call 143;refine (qa6 _ _ _ _ s _).mono ?_;rintro e w6 ⟨rfl,hb6⟩;rw[htab];have hb16:=(hbel.alloc hbel.size _).trans (hb6.mono (by simp;omega));have k6:=qa7 hb16 hB;have kf:=qa7 (B:=wr.heap.size) hb6 (by simp);have hown6:=(hown.alloc _).below hb6)|(go_at_call 212;refine (HF.out _).mono ?_;rintro e w7 ⟨A7,cp7,rfl,_,hr7,hc7,hb7⟩;have hb17:=hb16.trans (hb7.mono hb16.size);have hown7:=hown6.below hb7)|(at_builtin;refine qah _ w1.heap.size u4 (off 3) _ hown7 hb17.size A7 8 cp7 _ _ hr7 (by decide) rfl (.tmp 56) (.tmp 57) rfl rfl rfl ?_;intro v8 w8 hown8 hb8;have hb18:=hb17.trans hb8))
     go_roundw
     case rel=>exact⟨4,rfl,by omega,Hn.out,by rw[Hp.out];exact hown8,hb18⟩
     case measure=>decide
    ·have hok1:okF (qa5 s) 3 m=false:=by rw[htab];show (decide (0<=m)&&decide (nd 8 m.toNat<=8))=false;rw[Bool.and_eq_false_iff,decide_eq_false_iff_not,decide_eq_false_iff_not];omega
     have Hx:=hid (H9.out (qbp hok1 5 (by omega)));have HF:=hid (qdh m 8 8 l3 (by decide) (by omega) hn);clear hn hok1;go_wp2_with (first|(go_at_call 187;refine (var4 _ _).mono ?_;rintro e w' ⟨rfl,rfl⟩)|(go_at_call 143;refine (qa6 _ _ _ _ s _).mono ?_;rintro e w6 ⟨rfl,hb6⟩;rw[htab];have hb16:=(hbel.alloc hbel.size _).trans (hb6.mono (by simp;omega));have k6:=qa7 hb16 hB;have kf:=qa7 (B:=wr.heap.size) hb6 (by simp);have hown6:=(hown.alloc _).below hb6)|(go_at_call 212;refine (HF.out _).mono ?_;rintro e w7 ⟨A7,cp7,rfl,_,hb7⟩;have hb17:=hb16.trans (hb7.mono hb16.size)))
     go_ret2
     exact Hx.out _ (HbA1.out.trans (hb17.mono (by omega)))
   ·have ik:=at4;simp only[qyp] at ik;by_cases hn:0<=z/\(nd 10 z.toNat:Int)<=10
    ·obtain⟨n0,hn0⟩:=zlA hn.1;have hnd:nd 10 n0<=10:=by have:=hn.2;rw[hn0,zlt] at this;omega
     have Hn:Hid (qb4 s (num t u g m z) 5=true):=hid (by show (qb4 s _ 4&&okF (qa5 s) 4 z)=true;rw[Hok.out,htab,hn0];show (decide (0<=(n0:Int))&&decide (nd 10 (n0:Int).toNat<=10))=true;rw[zlt];simp[hnd]);have Hp:Hid (pre s (num t u g m z) 5=pre s (num t u g m z) 4++field 10 n0 10):=hid (by show _++qkr (qa5 s) 4 z=_;rw[htab,hn0];rfl);have hl0:n0<9223372036854775808:=by omega
     have HF:=hid (qf2 n0 10 10 hl0 (by decide) (by omega) hnd);have Hn0:=hid hn0;have ck:=c5;rw[hn0] at ck;clear hn hn0 hnd c5 hl0;go_wp2_with (first|(go_at_call 188;refine (var5 _ _).mono ?_;rintro e w' ⟨rfl,rfl⟩)|(go_at_call 143;refine (qa6 _ _ _ _ s _).mono ?_;rintro e w6 ⟨rfl,hb6⟩;rw[htab];have hb16:=(hbel.alloc hbel.size _).trans (hb6.mono (by simp;omega));have k6:=qa7 hb16 hB;have kf:=qa7 (B:=wr.heap.size) hb6 (by simp);have hown6:=(hown.alloc _).below hb6)|(go_at_call 212;refine (HF.out _).mono ?_;rintro e w7 ⟨A7,cp7,rfl,_,hr7,hc7,hb7⟩;have hb17:=hb16.trans (hb7.mono hb16.size);have hown7:=hown6.below hb7)|(at_builtin;refine qah _ w1.heap.size u4 (off 4) _ hown7 hb17.size A7 10 cp7 _ _ hr7 (by decide) rfl (.tmp 56) (.tmp 57) rfl rfl rfl ?_;intro v8 w8 hown8 hb8;have hb18:=hb17.trans hb8))
     go_roundw
     case rel=>exact⟨5,rfl,by omega,Hn.out,by rw[Hp.out];exact hown8,hb18⟩
     case measure=>decide
    ·have hok1:okF (qa5 s) 4 z=false:=by rw[htab];show (decide (0<=z)&&decide (nd 10 z.toNat<=10))=false;rw[Bool.and_eq_false_iff,decide_eq_false_iff_not,decide_eq_false_iff_not];omega
     have Hx:=hid (H9.out (qbp hok1 5 (by omega)));have HF:=hid (qdh z 10 10 l4 (by decide) (by omega) hn);clear hn hok1;go_wp2_with (first|(go_at_call 188;refine (var5 _ _).mono ?_;rintro e w' ⟨rfl,rfl⟩)|(go_at_call 143;refine (qa6 _ _ _ _ s _).mono ?_;rintro e w6 ⟨rfl,hb6⟩;rw[htab];have hb16:=(hbel.alloc hbel.size _).trans (hb6.mono (by simp;omega));have k6:=qa7 hb16 hB;have kf:=qa7 (B:=wr.heap.size) hb6 (by simp);have hown6:=(hown.alloc _).below hb6)|(go_at_call 212;refine (HF.out _).mono ?_;rintro e w7 ⟨A7,cp7,rfl,_,hb7⟩;have hb17:=hb16.trans (hb7.mono hb16.size)))
     go_ret2
     exact Hx.out _ (HbA1.out.trans (hb17.mono (by omega)))
  ·obtain rfl:k=5:=by omega
   go_wp2_with (at_builtin;refine qgm wr w1.heap.size u4 (off 5) _ hown hsz ⟨#[96,10]⟩ (by decide) rfl (.tmp 60) (.const (.string ⟨#[96,10]⟩)) rfl rfl rfl ?_;intro v8 w8 hown8 hb8)
   go_ret2
   have e0:=H0.out Hok.out;refine⟨_,by rw[e0.1];rfl,?_,HbA1.out.trans ((hbel.trans hb8).mono (by omega))⟩;have e1:(qqy s (num t u g m z)).length=off 5+2:=by rw[e0.2,zlb,qch s2 5 Hok.out];rfl
   rw[e1,e0.2];exact hown8.more (by omega)
theorem qr6 (s:ByteArray)(t u g m z:Int)(w:World)(hs:s.size<=140737488355328)(l0:t<9223372036854775808)(l1:u<9223372036854775808)(l2:g<9223372036854775808)(l3:m<9223372036854775808)(l4:z<9223372036854775808):
 Calls prog 174 #[.agg #[.string s,.int .i64 t,.int .i64 u,.int .i64 g,.int .i64 m,.int .i64 z]] w (qc9 s (num t u g m z) w):=by
 cases h:qaa s
 ·exact qx3 s t u g m z w hs h
 ·cases htab:qa5 s
  ·exact Qah s t u g m z w h htab l0 l1 l2 l3 l4
  ·exact Qag s t u g m z w h htab l0 l1 l2 l3 l4
theorem qsi (s:ByteArray)(t u g m z:Int)(w:World)(hs:s.size<=140737488355328)(l0:t<9223372036854775808)(l1:u<9223372036854775808)(l2:g<9223372036854775808)(l3:m<9223372036854775808)(l4:z<9223372036854775808):
 Calls prog 205 #[.agg #[.string s,.int .i64 t,.int .i64 u,.int .i64 g,.int .i64 m,.int .i64 z]] w fun e w'=>e=.returned (.int .i64 (qjb s (num t u g m z)))/\Below w.heap.size w w':=by
 have HE:=hid fun w'=>qr6 s t u g m z w' hs l0 l1 l2 l3 l4;go_enter func205,ntmps205;go_wp2_with fail
 refine (HE.out _).mono ?_;rintro e w1 ⟨v,rfl,_,hb1⟩;go_wp2_with fail
 go_ret
 exact⟨rfl,((Below.refl _ _).alloc zjn _).trans (hb1.mono (by simp))⟩
end JH
end Go.Proofs.YtlmolmohhpdhdaaGreatDoor
