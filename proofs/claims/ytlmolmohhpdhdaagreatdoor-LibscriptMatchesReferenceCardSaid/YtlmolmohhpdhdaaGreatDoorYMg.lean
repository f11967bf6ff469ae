/-
  Slices of strings in memory: what reads as a list of
-/
import Derived.Test.YtlmolmohhpdhdaaGreatDoorYMb
import Derived.Deep.RegionHeld3
set_option maxRecDepth 100000
set_option maxHeartbeats 16000000
set_option linter.all false
namespace Go.Proofs.YtlmolmohhpdhdaaGreatDoor
open Go.RowKit Go.Proofs Tryz
namespace JS
open JB (qhc hid qds)
def Oth (t:TypeId)(w w':World):Prop:=∀(g:Nat)(o:Obj),w.heap[g]?=some o->(∀cs m,o≠.cells cs t m)->w'.heap[g]?=some o
theorem Oth.refl (t:TypeId)(w:World):Oth t w w:=fun _ _ h _=>h
theorem Oth.trans {t:TypeId}{a b c:World}(h:Oth t a b)(k:Oth t b c):Oth t a c:=fun g o hg ho=>k g o (h g o hg ho) ho
theorem Oth.below {t:TypeId}{w w':World}(h:Below w.heap.size w w'):Oth t w w':=fun g o hg _=>by rw[h.block g (zla.1 hg).1];exact hg
theorem Oth.new (t:TypeId)(w:World)(o:Obj):Oth t w (w.drew.alloc o):=Oth.below ((Below.refl _ w).drew.alloc zjn o)
theorem Oth.alloc (t:TypeId)(w:World)(o:Obj):Oth t w (w.alloc o):=Oth.below ((Below.refl _ w).alloc zjn o)
theorem Oth.put {t:TypeId}{w w':World}{g:Nat}{cs:Array Value}{m:Nat×Nat}(h:w.heap[g]?=some (.cells cs t m))(ho:∀k,k≠g->w'.heap[k]?=w.heap[k]?):Oth t w w':=fun k o hk hne=>by
 by_cases e:k=g
 ·subst e;rw[h] at hk;injection hk with hk;exact absurd hk.symm (hne _ _)
 ·rw[ho k e];exact hk
def blk:Value->Option Nat
 |.slice (some a) _ _=>some a.block
 |_=>none
def Fr (v:Value)(w:World)(v':Value)(w':World):Prop:=
 (∀k,k<w.heap.size->blk v≠some k->w'.heap[k]?=w.heap[k]?)/\(∀k,blk v'=some k->blk v=some k∨w.heap.size<=k)
theorem Fr.refl (v:Value)(w:World):Fr v w v w:=⟨fun _ _ _=>rfl,fun _ h=>.inl h⟩
theorem Fr.new (v:Value)(w:World)(o:Obj)(n c:Nat):Fr v w (.slice (some ⟨w.heap.size,0,none⟩) n c) (w.drew.alloc o):=
 ⟨fun k hk _=>zlz w.drew o k hk,fun k h=>.inr (by injection h with h;exact Nat.le_of_eq h)⟩
theorem Fr.put {w w':World}{g:Nat}(ho:∀k,k≠g->w'.heap[k]?=w.heap[k]?)(n m c:Nat):Fr (.slice (some ⟨g,0,none⟩) n c) w (.slice (some ⟨g,0,none⟩) m c) w':=
 ⟨fun k _ hb=>ho k fun e=>hb (by rw[e];rfl),fun _ h=>.inl h⟩
theorem Fr.ahead {v v':Value}{w w':World}(o:Obj)(h:Fr v (w.alloc o) v' w'):Fr v w v' w':=by
 have hs:(w.alloc o).heap.size=w.heap.size+1:=by simp
 refine⟨fun k hk hb=>?_,fun k hb=>?_⟩
 ·rw[h.1 k (by omega) hb];exact zlz w o k hk
 ·rcases h.2 k hb with h|h
  ·exact .inl h
  ·right;omega
def qe0 (v u:Value):Prop:=∀k,blk v=some k->blk u≠some k
theorem qe0.nil (u:Value)(n c:Nat):qe0 (.slice none n c) u:=fun k h=>by cases h
def Rd (w:World)(K:Nat)(A:Option Addr)(n:Nat)(xs:List ByteArray):Prop:=
 xs.length=n/\∀k (h:k<xs.length),∃b o:Nat,A=some ⟨b,o,none⟩/\b<K/\w.cell? ⟨b,o+k,none⟩=some (.string xs[k])
theorem Rd.below {w w':World}{K n:Nat}{A:Option Addr}{xs:List ByteArray}(h:Rd w K A n xs)(hb:Below K w w'):Rd w' K A n xs:=
 ⟨h.1,fun k hk=>by
  obtain⟨b,o,e,hl,hc⟩:=h.2 k hk;exact⟨b,o,e,hl,by rw[hb.cell (p:=⟨b,o+k,none⟩) hl];exact hc⟩⟩
theorem Rd.more {w:World}{K K' n:Nat}{A:Option Addr}{xs:List ByteArray}(h:Rd w K A n xs)(hK:K<=K'):Rd w K' A n xs:=
 ⟨h.1,fun k hk=>by
  obtain⟨b,o,e,hl,hc⟩:=h.2 k hk;exact⟨b,o,e,by omega,hc⟩⟩
theorem Rd.nil (w:World)(K:Nat)(A:Option Addr):Rd w K A 0 []:=⟨rfl,fun k hk=>absurd hk (by simp)⟩
theorem Rd.pre {w:World}{K n m:Nat}{A:Option Addr}{xs:List ByteArray}(h:Rd w K A n xs)(hm:m<=n):Rd w K A m (xs.take m):=by
 refine⟨by rw[zlu,h.1];omega,fun j hj=>?_⟩;rw[zlu] at hj;obtain⟨b',o',e,hl,hcell⟩:=h.2 j (by omega);exact⟨b',o',e,hl,by rw[hcell,List.getElem_take]⟩
theorem Rd.cut_at {w:World}{K n:Nat}{A B:Option Addr}{xs:List ByteArray}(h:Rd w K A n xs)(k:Nat)(hk:n<=k):Rd w K B (n-k) (xs.drop k):=by
 refine⟨by rw[zlm,h.1],fun j hj=>?_⟩;rw[zlm,h.1] at hj;omega
theorem Rd.drewN {w:World}{K n:Nat}{A:Option Addr}{xs:List ByteArray}(h:Rd w K A n xs)(m:Nat):Rd (w.drewN m) K A n xs:=h
def enc (l:List ByteArray):List Value:=l.map fun c=>Value.string c
theorem qbn (a b:List ByteArray):enc (a++b)=enc a++enc b:=by simp[enc]
theorem qa3 (a:List ByteArray):(enc a).length=a.length:=by simp[enc]
theorem qhp {l:List ByteArray}:∀v∈enc l,v.oneCell'=true:=by
 intro v hv;unfold enc at hv;rw[List.mem_map] at hv;obtain⟨c,_,rfl⟩:=hv;rfl
def Own (w:World)(K:Nat)(v:Value)(n:Nat)(l:List ByteArray):Prop:=
 l.length=n/\((v=.slice none 0 0/\n=0)∨
  ∃(g cap:Nat)(cur:Array Value)(m:Nat×Nat),v=.slice (some ⟨g,0,none⟩) n cap/\K<=g/\w.heap[g]?=some (.cells cur 9 m)/\n<=cap/\cap<=maxLen/\cur.size=cap/\cur.toList.take n=enc l/\
   ∀j,j<cap->¬(m.1<=j/\j<m.2))
theorem qjd:(prog.info? 9).map (fun i=>(i.zero,i.size,i.bytes))=some (some (.string ⟨#[]⟩),1,16):=by kernel_rfl
theorem Own.nil (w:World)(K:Nat):Own w K (.slice none 0 0) 0 []:=⟨rfl,.inl ⟨rfl,rfl⟩⟩
theorem Own.of_row {w:World}{K n:Nat}{v:Value}{l:List ByteArray}(h:w.ownsRow K 9 1 v n (enc l)):Own w K v n l:=by
 refine⟨by have:=h.1;rw[qa3] at this;omega,?_⟩;rcases h.2 with h|⟨g,cap,cur,hv,hg,hh,hn,hm,hs,ht⟩
 ·exact .inl h
 ·exact .inr ⟨g,cap,cur,(0,0),hv,hg,hh,hn,hm,by omega,by rw[<-ht];simp,fun j _ hj=>by simp at hj⟩
theorem Own.reads {w:World}{K n:Nat}{v:Value}{l:List ByteArray}(h:Own w K v n l):∃A c,v=.slice A n c/\Rd w w.heap.size A n l/\n<=c/\c<=maxLen:=by
 obtain⟨hl,h⟩:=h;rcases h with ⟨rfl,rfl⟩|⟨g,cap,cur,m,rfl,hg,hh,hn,hm,hs,ht,_⟩
 ·exact⟨none,0,rfl,⟨hl,fun k hk=>by omega⟩,by omega,by unfold maxLen;omega⟩
 ·refine⟨_,cap,rfl,⟨hl,fun k hk=>⟨g,0,rfl,(zla.1 hh).1,?_⟩⟩,hn,hm⟩;rw[zlc w g (0+k) cur 9 m hh,Nat.zero_add,<-Array.getElem?_toList];have h1:(cur.toList.take n)[k]?=some (Value.string l[k]):=by rw[ht];simp[enc,zlh hk]
  rw[List.getElem?_take] at h1;split at h1
  ·exact h1
  ·cases h1
theorem Own.keep {w w':World}{K n:Nat}{v:Value}{l:List ByteArray}(h:Own w K v n l)(hk:∀g,K<=g->g<w.heap.size->w'.heap[g]?=w.heap[g]?):Own w' K v n l:=by
 refine⟨h.1,?_⟩;rcases h.2 with h|⟨g,cap,cur,m,hv,hg,hh,r⟩
 ·exact .inl h
 ·exact .inr ⟨g,cap,cur,m,hv,hg,(hk g hg (zla.1 hh).1).trans hh,r⟩
theorem Own.alloc {w:World}{K n:Nat}{v:Value}{l:List ByteArray}(h:Own w K v n l)(o:Obj):Own (w.alloc o) K v n l:=h.keep fun g _ hlt=>zlz w o g hlt
theorem Own.drewN {w:World}{K n:Nat}{v:Value}{l:List ByteArray}(h:Own w K v n l)(m:Nat):Own (w.drewN m) K v n l:=h
theorem Own.below {w w':World}{K n:Nat}{v:Value}{l:List ByteArray}(h:Own w K v n l)(hb:Below w.heap.size w w'):Own w' K v n l:=h.keep fun g _ hlt=>hb.block g hlt
theorem Own.more {w:World}{K K' n:Nat}{v:Value}{l:List ByteArray}(h:Own w K v n l)(hK:K'<=K):Own w K' v n l:=by
 refine⟨h.1,?_⟩;rcases h.2 with h|⟨g,cap,cur,m,hv,hg,r⟩
 ·exact .inl h
 ·exact .inr ⟨g,cap,cur,m,hv,by omega,r⟩
theorem qgq (w:World)(K:Nat)(ty:TypeId)(v:Value)(n:Nat)(l:List ByteArray)(hown:Own w K v n l)(hK:K<=w.heap.size)
 (ad:Addr)(k c:Nat)(src:List ByteArray)(hl:src.length=k)(hc:∀j u,(enc src)[j]?=some u->w.cell? (ad.add j)=some u)(hsz:n+k<=1000000):
 ∃v' w',(Builtin.append_ #[26,26] ty #[v,.slice (some ad) k c]).run prog w=.ok v' w'/\Own w' K v' (n+k) (l++src)/\Below K w w'/\Oth 9 w w'/\Fr v w v' w':=by
 obtain⟨i,hi,hz0,hz1,hz2⟩:=info_parts qjd;have ht:=underlying26;have hll:=hown.1;have hf:=run_firstCells_some (P:=prog) w i.size k ad k c (enc src) (by rw[qa3,hz1];omega) hc
 have hnew:∀(olds:List Value)(cap:Nat),olds=enc l->n+k<=cap->cap<=maxLen->
  Own (w.drew.alloc (.cells (olds.toArray++(enc src).toArray++Builtin.zeroCells (Value.string ⟨#[]⟩).cells (cap-(n+k))) 9)) K (.slice (some ⟨w.heap.size,0,none⟩) (n+k) cap) (n+k) (l++src):=by
  intro olds cap ho hcap hm;subst ho;refine⟨by rw[zlb];omega,.inr ⟨w.heap.size,cap,_,(0,0),rfl,hK,zld w.drew _,hcap,hm,?_,?_,fun j _ hj=>by simp at hj⟩⟩
  ·have h1:(Value.string ⟨#[]⟩).cells.size=1:=rfl;simp[size_zeroCells,qa3,hll,hl,h1];omega
  ·rw[qbn];simp only[Array.toList_append];rw[List.take_append_of_le_length (by simp[qa3];omega)];exact zlj (by simp[qa3];omega)
 have hgb:∀o,Below K w (w.drew.alloc o):=fun o=>(Below.refl K w).drew.alloc hK o;rcases hown.2 with ⟨rfl,rfl⟩|⟨g,cap,cur,m,rfl,hg,hh,hn,hm,hs,htk,hfr⟩
 ·rcases Nat.eq_zero_or_pos k with rfl|hk
  ·have:src=[]:=zli hl;subst this;refine⟨.slice none 0 0,w,?_,by simpa using hown,Below.refl _ _,Oth.refl _ _,Fr.refl _ _⟩;simp[Builtin.append_,run_underlying ht,sizeOf,typeInfo,hi,Builtin.lenOf,hf]
  ·have hr:=run_append_nil (P:=prog) w 26 ty 9 i (.string ⟨#[]⟩) ht hi hz0 ad k c (enc src) (by rw[qa3,hz1];omega) hc hk (by omega) (by rw[hz2];omega);have hl0:l=[]:=zli hll;subst hl0;have h0:=hnew [] (grownCap w k 0 9) rfl (by rw[Nat.zero_add];exact grownCap_ge _ _ _ _) (grownCap_le_maxLen _ _ _ _ (by unfold maxLen;omega));exact⟨_,_,hr,by simpa using h0,hgb _,Oth.new _ _ _,Fr.new _ _ _ _ _⟩
 ·have hz1':=hz1;by_cases hroom:n+k<=cap
  ·obtain⟨w',cur',hrun,hg',hs',ht',hb',ho',hz'⟩:=qhc prog g 9 m (enc src) n 0 cur w hh (by rw[qa3];omega) (fun j hj=>hfr j (by rw[qa3] at hj;omega)) qhp;refine⟨.slice (some ⟨g,0,none⟩) (n+k) cap,w',?_,⟨by rw[zlb];omega,.inr ⟨g,cap,cur',m,rfl,hg,hg',hroom,hm,by omega,?_,hfr⟩⟩,hb'.mono hg,Oth.put hh ho',Fr.put ho' _ _ _⟩
   ·rw[hz1] at hf;simp[Builtin.append_,run_underlying ht,sizeOf,typeInfo,hi,hz1,Builtin.lenOf,hroom,Addr.add_lit,hf,hrun]
   ·rw[qbn,<-htk];rw[qa3,hl] at ht';simpa using ht'
  ·have hr:=run_append_grow (P:=prog) w 26 ty 9 i (.string ⟨#[]⟩) ht hi hz0 ⟨g,0,none⟩ n cap (enc l) (by rw[qa3,hz1];omega)
    (fun j u hj=>by
     have ha:(⟨g,0,none⟩:Addr).add j=⟨g,j,none⟩:=by unfold Addr.add;split<;>simp_all
     rw[ha,zlc w g j cur 9 m hh,<-Array.getElem?_toList];rw[<-htk,List.getElem?_take] at hj;split at hj
     ·exact hj
     ·cases hj) ad k c (enc src) (by rw[qa3,hz1];omega) hc (by omega) (by omega) (growslice_fits (by omega) (by rw[hz2];omega))
   exact⟨_,_,hr,hnew _ _ rfl (grownCap_ge _ _ _ _) (grownCap_le_maxLen _ _ _ _ (by unfold maxLen;omega)),hgb _,Oth.new _ _ _,Fr.new _ _ _ _ _⟩
theorem qah {ops:Array Oper}{rest:List Oper}{o:Oper}{a:Act}{Q:Exit->Act->World->Prop}(w:World)(K:Nat)(v:Value)(n:Nat)(l:List ByteArray)
 (hown:Own w K v n l)(hK:K<=w.heap.size)(A:Option Addr)(k c B:Nat)(src:List ByteArray)(hr:Rd w B A k src)(hsz:n+k<=1000000)(hgd:o.guard=none)(s x:Operand)
 (ho:o.op=.call {callee:=.builtin .append,args:=#[s,x],argTypes:=#[26,26]})
 (hs:a.eval s=v)(hx:a.eval x=.slice A k c)
 (h:∀v' w',Own w' K v' (n+k) (l++src)->Below K w w'->Oth 9 w w'->Fr v w v' w'->wpList prog ops Q rest (a.put o.dst v') w'):
 wpList prog ops Q (o::rest) a w:=by
 refine wpList_plain hgd fun K' hK'=>?_
 have hrun:∃v' w',(Builtin.append_ #[26,26] o.type #[v,.slice A k c]).run prog w=.ok v' w'/\Own w' K v' (n+k) (l++src)/\Below K w w'/\Oth 9 w w'/\Fr v w v' w':=by
  rcases A with _|ad
  ·have hk:k=0:=by
    rcases Nat.eq_zero_or_pos k with h0|h0
    ·exact h0
    ·obtain⟨b,o',e,_⟩:=hr.2 0 (by have:=hr.1;omega);cases e
   subst hk;have hn:src=[]:=zli hr.1;subst hn;obtain⟨i,hi,hz0,hz1,hz2⟩:=info_parts qjd;have ht:=underlying26;refine⟨v,w,?_,by simpa using hown,Below.refl _ _,Oth.refl _ _,Fr.refl _ _⟩;rcases hown.2 with ⟨rfl,rfl⟩|⟨g,cap,cur,m,rfl,_,_,hnc,_⟩
   ·simp[Builtin.append_,run_underlying ht,sizeOf,typeInfo,hi,Builtin.lenOf,Builtin.firstCells]
   ·simp[Builtin.append_,run_underlying ht,sizeOf,typeInfo,hi,Builtin.lenOf,Builtin.firstCells,hnc,storeCells]
  ·refine qgq w K o.type v n l hown hK ad k c src hr.1 (fun j u hj=>?_) hsz;unfold enc at hj;rw[zlF] at hj;rcases hx:src[j]? with _|y
   ·rw[hx] at hj;cases hj
   ·rw[hx] at hj;obtain⟨hlt,rfl⟩:=zlv.1 hx;obtain⟨b,o',e,_,hc⟩:=hr.2 j hlt;injection e with e;subst e;have ha:(⟨b,o',none⟩:Addr).add j=⟨b,o'+j,none⟩:=by unfold Addr.add;split<;>simp_all
    rw[ha,hc];exact hj
 obtain⟨v',w',hrun,h1,h2,h3,h4⟩:=hrun;unfold Oper.wp execOp;simp only[ho,resolve,invoke,builtin,Sem.run_bind,Sem.run_pure,Result.andThen_ok,List.map_toArray,List.map_cons,List.map_nil,hs,hx,hrun];exact hK' _ _ (h v' w' h1 h2 h3 h4)
theorem qa4 {ops:Array Oper}{rest:List Oper}{o:Oper}{a:Act}{Q:Exit->Act->World->Prop}(w:World)(K:Nat)(v:Value)(n:Nat)(l:List ByteArray)(u:ByteArray)
 (hown:Own w K v n l)(hK:K<=w.heap.size)(hn:n<1000000)(hgd:o.guard=none)(s x:Operand)
 (ho:o.op=.call {callee:=.builtin .append,args:=#[s,x],argTypes:=#[26,26]})
 (hs:a.eval s=v)(hx:a.eval x=.slice (some ⟨w.heap.size,0,none⟩) 1 1)
 (h:∀v' w',Own w' K v' (n+1) (l++[u])->Below K w w'->Oth 9 w w'->Fr v w v' w'->wpList prog ops Q rest (a.put o.dst v') w'):
 wpList prog ops Q (o::rest) a (w.alloc (.cells #[.string u] 9)):=by
 refine qah _ K v n l (hown.alloc _) (by simp;omega) (some ⟨w.heap.size,0,none⟩) 1 1 (w.heap.size+1) [u] ⟨rfl,fun k hk=>⟨w.heap.size,0,rfl,by omega,?_⟩⟩ (by omega) hgd s x ho hs hx
  (fun v' w' h1 h2 h3 h4=>h v' w' h1 (((Below.refl K w).alloc hK _).trans h2) ((Oth.alloc _ _ _).trans h3) (Fr.ahead _ h4))
 simp only[List.length_singleton] at hk;obtain rfl:k=0:=by omega
 simp
theorem Rd.lit (w:World)(l:List ByteArray)(cs:Array Value)(h:cs=(enc l).toArray)(n:Nat)(hn:l.length=n)(m:Nat×Nat:=(0,0)):Rd (w.alloc (.cells cs 9 m)) (w.heap.size+1) (some ⟨w.heap.size,0,none⟩) n l:=by
 subst h;refine⟨hn,fun k hk=>⟨_,0,rfl,by omega,?_⟩⟩;rw[zlc _ w.heap.size (0+k) _ 9 m (zld w _),Nat.zero_add];simp[enc,zlh hk]
theorem Own.lit0 (w:World)(K:Nat)(hK:K<=w.heap.size):Own (w.alloc (.cells #[] 9)) K (.slice (some ⟨w.heap.size,0,none⟩) 0 0) 0 []:=
 ⟨rfl,.inr ⟨w.heap.size,0,#[],(0,0),rfl,hK,zld w _,by omega,by unfold maxLen;omega,rfl,rfl,fun j hj=>by omega⟩⟩
theorem Own.oth {w w':World}{K n:Nat}{v:Value}{l:List ByteArray}(h:Own w K v n l)(ho:Oth 5 w w'):Own w' K v n l:=by
 refine⟨h.1,?_⟩;rcases h.2 with h|⟨g,cap,cur,m,hv,hg,hh,r⟩
 ·exact .inl h
 ·exact .inr ⟨g,cap,cur,m,hv,hg,ho g _ hh (fun cs m' e=>by injection e with _ e2;exact absurd e2 (by decide)),r⟩
theorem _root_.Go.Proofs.YtlmolmohhpdhdaaGreatDoor.JB.Own.oth {w w':World}{t:TypeId}{K n:Nat}{v:Value}{l:List UInt8}(h:JB.Own w K v n l)(ho:Oth t w w')(ht:5≠t:=by decide):JB.Own w' K v n l:=by
 refine⟨h.1,?_⟩;rcases h.2 with h|⟨g,cap,cur,m,hv,hg,hh,r⟩
 ·exact .inl h
 ·exact .inr ⟨g,cap,cur,m,hv,hg,ho g _ hh (fun cs m' e=>by injection e with _ e2;exact ht e2),r⟩
theorem Own.fr {w w':World}{K n:Nat}{v u u':Value}{l:List ByteArray}(h:Own w K v n l)(ho:Fr u w u' w')(ha:qe0 v u):Own w' K v n l:=by
 refine⟨h.1,?_⟩;rcases h.2 with h|⟨g,cap,cur,m,hv,hg,hh,r⟩
 ·exact .inl h
 ·refine .inr ⟨g,cap,cur,m,hv,hg,(ho.1 g (zla.1 hh).1 (ha g (by rw[hv];rfl))).trans hh,r⟩
theorem Own.blk_lt {w:World}{K n:Nat}{v:Value}{l:List ByteArray}(h:Own w K v n l){k:Nat}(hk:blk v=some k):k<w.heap.size:=by
 rcases h.2 with ⟨rfl,_⟩|⟨g,cap,cur,m,rfl,hg,hh,r⟩
 ·cases hk
 ·injection hk with hk;subst hk;exact (zla.1 hh).1
theorem qe0.fr {w w':World}{K n:Nat}{v u u':Value}{l:List ByteArray}(ha:qe0 v u)(h:Own w K v n l)(ho:Fr u w u' w'):qe0 v u':=fun k hk hu=>by
 rcases ho.2 k hu with h1|h1
 ·exact ha k hk h1
 ·have:=h.blk_lt hk;omega
theorem qe0.symm {v u:Value}(h:qe0 v u):qe0 u v:=fun k hu hv=>h k hv hu
end JS
namespace JB
open JS (Oth Oth.refl Oth.new Oth.put Oth.alloc Oth.trans)
theorem qyx (w:World)(K:Nat)(ty:TypeId)(v:Value)(n:Nat)(l:List UInt8)(hown:Own w K v n l)(hK:K<=w.heap.size)
 (ad:Addr)(k c:Nat)(src:List UInt8)(hl:src.length=k)(hc:∀j u,(enc src)[j]?=some u->w.cell? (ad.add j)=some u)(hsz:n+k<=140737488355328):
 ∃v' w',(Builtin.append_ #[22,22] ty #[v,.slice (some ad) k c]).run prog w=.ok v' w'/\Own w' K v' (n+k) (l++src)/\Below K w w'/\Oth 5 w w':=by
 obtain⟨i,hi,hz0,hz1,hz2⟩:=info_parts qjd;have ht:=underlying22;have hll:=hown.1;have hf:=run_firstCells_some (P:=prog) w i.size k ad k c (enc src) (by rw[qa3,hz1];omega) hc
 have hnew:∀(olds:List Value)(cap:Nat),olds=enc l->n+k<=cap->cap<=maxLen->
  Own (w.drew.alloc (.cells (olds.toArray++(enc src).toArray++Builtin.zeroCells (Value.int .u8 0).cells (cap-(n+k))) 5)) K (.slice (some ⟨w.heap.size,0,none⟩) (n+k) cap) (n+k) (l++src):=by
  intro olds cap ho hcap hm;subst ho;refine⟨by rw[zlb];omega,.inr ⟨w.heap.size,cap,_,(0,0),rfl,hK,zld w.drew _,hcap,hm,?_,?_,fun j _ hj=>by simp at hj⟩⟩
  ·have h1:(Value.int IntKind.u8 0).cells.size=1:=rfl;simp[size_zeroCells,qa3,hll,hl,h1];omega
  ·rw[qbn];simp only[Array.toList_append];rw[List.take_append_of_le_length (by simp[qa3];omega)];exact zlj (by simp[qa3];omega)
 have hgb:∀o,Below K w (w.drew.alloc o):=fun o=>(Below.refl K w).drew.alloc hK o;rcases hown.2 with ⟨rfl,rfl⟩|⟨g,cap,cur,m,rfl,hg,hh,hn,hm,hs,htk,hfr⟩
 ·rcases Nat.eq_zero_or_pos k with rfl|hk
  ·have:src=[]:=zli hl;subst this;refine⟨.slice none 0 0,w,?_,by simpa using hown,Below.refl _ _,Oth.refl _ _⟩;simp[Builtin.append_,run_underlying ht,sizeOf,typeInfo,hi,Builtin.lenOf,hf]
  ·have hr:=run_append_nil (P:=prog) w 22 ty 5 i (.int .u8 0) ht hi hz0 ad k c (enc src) (by rw[qa3,hz1];omega) hc hk (by omega) (by rw[hz2];omega);have hl0:l=[]:=zli hll;subst hl0;have h0:=hnew [] (grownCap w k 0 5) rfl (by rw[Nat.zero_add];exact grownCap_ge _ _ _ _) (grownCap_le_maxLen _ _ _ _ (by unfold maxLen;omega));exact⟨_,_,hr,by simpa using h0,hgb _,Oth.new _ _ _⟩
 ·have hz1':=hz1;by_cases hroom:n+k<=cap
  ·obtain⟨w',cur',hrun,hg',hs',ht',hb',ho',hz'⟩:=qhc prog g 5 m (enc src) n 0 cur w hh (by rw[qa3];omega) (fun j hj=>hfr j (by rw[qa3] at hj;omega)) qhp;refine⟨.slice (some ⟨g,0,none⟩) (n+k) cap,w',?_,⟨by rw[zlb];omega,.inr ⟨g,cap,cur',m,rfl,hg,hg',hroom,hm,by omega,?_,hfr⟩⟩,hb'.mono hg,Oth.put hh ho'⟩
   ·rw[hz1] at hf;simp[Builtin.append_,run_underlying ht,sizeOf,typeInfo,hi,hz1,Builtin.lenOf,hroom,Addr.add_lit,hf,hrun]
   ·rw[qbn,<-htk];rw[qa3,hl] at ht';simpa using ht'
  ·have hr:=run_append_grow (P:=prog) w 22 ty 5 i (.int .u8 0) ht hi hz0 ⟨g,0,none⟩ n cap (enc l) (by rw[qa3,hz1];omega)
    (fun j u hj=>by
     have ha:(⟨g,0,none⟩:Addr).add j=⟨g,j,none⟩:=by unfold Addr.add;split<;>simp_all
     rw[ha,zlc w g j cur 5 m hh,<-Array.getElem?_toList];rw[<-htk,List.getElem?_take] at hj;split at hj
     ·exact hj
     ·cases hj) ad k c (enc src) (by rw[qa3,hz1];omega) hc (by omega) (by omega) (growslice_fits (by omega) (by rw[hz2];omega))
   exact⟨_,_,hr,hnew _ _ rfl (grownCap_ge _ _ _ _) (grownCap_le_maxLen _ _ _ _ (by unfold maxLen;omega)),hgb _,Oth.new _ _ _⟩
theorem qcc {ops:Array Oper}{rest:List Oper}{o:Oper}{a:Act}{Q:Exit->Act->World->Prop}(w:World)(K:Nat)(v:Value)(n:Nat)(l:List UInt8)
 (hown:Own w K v n l)(hK:K<=w.heap.size)(A:Option Addr)(k c B:Nat)(src:List UInt8)(hr:Rd w B A k src)(hsz:n+k<=140737488355328)(hgd:o.guard=none)(s x:Operand)
 (ho:o.op=.call {callee:=.builtin .append,args:=#[s,x],argTypes:=#[22,22]})
 (hs:a.eval s=v)(hx:a.eval x=.slice A k c)
 (h:∀v' w',Own w' K v' (n+k) (l++src)->Below K w w'->Oth 5 w w'->wpList prog ops Q rest (a.put o.dst v') w'):
 wpList prog ops Q (o::rest) a w:=by
 refine wpList_plain hgd fun K' hK'=>?_
 have hrun:∃v' w',(Builtin.append_ #[22,22] o.type #[v,.slice A k c]).run prog w=.ok v' w'/\Own w' K v' (n+k) (l++src)/\Below K w w'/\Oth 5 w w':=by
  rcases A with _|ad
  ·have hk:k=0:=by
    rcases Nat.eq_zero_or_pos k with h0|h0
    ·exact h0
    ·obtain⟨b,o',e,_⟩:=hr.2 0 (by have:=hr.1;omega);cases e
   subst hk;have hn:src=[]:=zli hr.1;subst hn;obtain⟨i,hi,hz0,hz1,hz2⟩:=info_parts qjd;have ht:=underlying22;refine⟨v,w,?_,by simpa using hown,Below.refl _ _,Oth.refl _ _⟩;rcases hown.2 with ⟨rfl,rfl⟩|⟨g,cap,cur,m,rfl,_,_,hnc,_⟩
   ·simp[Builtin.append_,run_underlying ht,sizeOf,typeInfo,hi,Builtin.lenOf,Builtin.firstCells]
   ·simp[Builtin.append_,run_underlying ht,sizeOf,typeInfo,hi,Builtin.lenOf,Builtin.firstCells,hnc,storeCells]
  ·refine qyx w K o.type v n l hown hK ad k c src hr.1 (fun j u hj=>?_) hsz;unfold enc at hj;rw[zlF] at hj;rcases hx:src[j]? with _|y
   ·rw[hx] at hj;cases hj
   ·rw[hx] at hj;obtain⟨hlt,rfl⟩:=zlv.1 hx;obtain⟨b,o',e,_,hc⟩:=hr.2 j hlt;injection e with e;subst e;have ha:(⟨b,o',none⟩:Addr).add j=⟨b,o'+j,none⟩:=by unfold Addr.add;split<;>simp_all
    rw[ha,hc];exact hj
 obtain⟨v',w',hrun,h1,h2,h3⟩:=hrun;unfold Oper.wp execOp;simp only[ho,resolve,invoke,builtin,Sem.run_bind,Sem.run_pure,Result.andThen_ok,List.map_toArray,List.map_cons,List.map_nil,hs,hx,hrun];exact hK' _ _ (h v' w' h1 h2 h3)
theorem qmj {ops:Array Oper}{rest:List Oper}{o:Oper}{a:Act}{Q:Exit->Act->World->Prop}(w:World)(K:Nat)(v:Value)(n:Nat)(l:List UInt8)(u:UInt8)(X:Int)(hX:X=(u.toNat:Int))
 (hown:Own w K v n l)(hK:K<=w.heap.size)(hn:n<140737488355328)(hgd:o.guard=none)(s x:Operand)
 (ho:o.op=.call {callee:=.builtin .append,args:=#[s,x],argTypes:=#[22,22]})
 (hs:a.eval s=v)(hx:a.eval x=.slice (some ⟨w.heap.size,0,none⟩) 1 1)
 (h:∀v' w',Own w' K v' (n+1) (l++[u])->Below K w w'->Oth 5 w w'->wpList prog ops Q rest (a.put o.dst v') w'):
 wpList prog ops Q (o::rest) a (w.alloc (.cells #[.int .u8 X] 5)):=by
 subst hX
 refine qcc _ K v n l (hown.alloc _) (by simp;omega) (some ⟨w.heap.size,0,none⟩) 1 1 (w.heap.size+1) [u] ⟨rfl,fun k hk=>⟨w.heap.size,0,rfl,by omega,?_⟩⟩ (by omega) hgd s x ho hs hx
  (fun v' w' h1 h2 h3=>h v' w' h1 (((Below.refl K w).alloc hK _).trans h2) ((Oth.alloc _ _ _).trans h3))
 simp only[List.length_singleton] at hk;obtain rfl:k=0:=by omega
 simp
theorem Qd2 (w:World)(K:Nat)(ty:TypeId)(v:Value)(n:Nat)(l:List UInt8)(hown:Own w K v n l)(hK:K<=w.heap.size)(s:ByteArray)(hsz:n+s.size<=140737488355328):
 ∃v' w',(Builtin.append_ #[22,9] ty #[v,.string s]).run prog w=.ok v' w'/\Own w' K v' (n+s.size) (l++s.data.toList)/\Below K w w'/\Oth 5 w w':=by
 obtain⟨i,hi,hz0,hz1,hz2⟩:=info_parts qjd;have ht:=underlying22;have hu:=underlying9;have hll:=hown.1;have hsl:s.data.toList.length=s.size:=(Array.length_toList (xs:=s.data))
 have hnew:∀(olds:List Value)(cap:Nat),olds=enc l->n+s.size<=cap->cap<=maxLen->
  Own (w.drew.alloc (.cells (olds.toArray++(enc s.data.toList).toArray++Builtin.zeroCells (Value.int .u8 0).cells (cap-(n+s.size))) 5)) K (.slice (some ⟨w.heap.size,0,none⟩) (n+s.size) cap) (n+s.size) (l++s.data.toList):=by
  intro olds cap ho hcap hm;subst ho;refine⟨by rw[zlb];omega,.inr ⟨w.heap.size,cap,_,(0,0),rfl,hK,zld w.drew _,hcap,hm,?_,?_,fun j _ hj=>by simp at hj⟩⟩
  ·have h1:(Value.int IntKind.u8 0).cells.size=1:=rfl;have h2:(enc l).length=n:=by rw[qa3];exact hll
   have h3:(enc s.data.toList).length=s.size:=by rw[qa3];exact hsl
   simp only[Array.size_append,size_zeroCells,h1,List.size_toArray,h2,h3];omega
  ·rw[qbn];simp only[Array.toList_append];rw[List.take_append_of_le_length (by simp only[zlb,qa3];omega)];exact zlj (by simp only[zlb,qa3];omega)
 have hgb:∀o,Below K w (w.drew.alloc o):=fun o=>(Below.refl K w).drew.alloc hK o;have hf:=Lib.run_firstCells_string (P:=prog) w 1 s;rcases hown.2 with ⟨rfl,rfl⟩|⟨g,cap,cur,m,rfl,hg,hh,hn,hm,hs,htk,hfr⟩
 ·rcases Nat.eq_zero_or_pos s.size with h0|hk
  ·have:s.data.toList=[]:=zli (by omega);rw[this,h0];refine⟨.slice none 0 0,w,?_,by simpa using hown,Below.refl _ _,Oth.refl _ _⟩;rw[hz1.symm] at hf;rw[h0] at hf;simp[Builtin.append_,run_underlying ht,run_underlying hu,sizeOf,typeInfo,hi,Builtin.lenOf,h0,hf]
  ·have hr:=run_append_nil_string (P:=prog) w 22 9 ty 5 i (.int .u8 0) ht hu hi hz0 s hk (by omega) (by rw[hz2];omega);have hl0:l=[]:=zli hll;subst hl0;have h0:=hnew [] (grownCap w s.size 0 5) rfl (by rw[Nat.zero_add];exact grownCap_ge _ _ _ _) (grownCap_le_maxLen _ _ _ _ (by unfold maxLen;omega))
   have e:(s.data.map (fun b=>Value.int .u8 b.toNat))=#[]++(enc s.data.toList).toArray:=by
    apply Array.ext';simp[enc]
   rw[e] at hr;exact⟨_,_,hr,by simpa using h0,hgb _,Oth.new _ _ _⟩
 ·by_cases hroom:n+s.size<=cap
  ·obtain⟨w',cur',hrun,hg',hs',ht',hb',ho',hz'⟩:=qhc prog g 5 m (enc s.data.toList) n 0 cur w hh (by rw[qa3];omega) (fun j hj=>hfr j (by rw[qa3] at hj;omega)) qhp;refine⟨.slice (some ⟨g,0,none⟩) (n+s.size) cap,w',?_,⟨by rw[zlb];omega,.inr ⟨g,cap,cur',m,rfl,hg,hg',hroom,hm,by omega,?_,hfr⟩⟩,hb'.mono hg,Oth.put hh ho'⟩
   ·rw[Qcp] at hf;simp[Builtin.append_,run_underlying ht,run_underlying hu,sizeOf,typeInfo,hi,hz1,Builtin.lenOf,hroom,Addr.add_lit,hf,hrun]
   ·rw[qbn,<-htk];rw[qa3,hsl] at ht';simpa using ht'
  ·have hr:=Lib.run_append_grow_string (P:=prog) w 22 9 ty 5 i (.int .u8 0) ht hu hi hz0 ⟨g,0,none⟩ n cap (enc l) (by rw[qa3,hz1];omega)
    (fun j u hj=>by
     have ha:(⟨g,0,none⟩:Addr).add j=⟨g,j,none⟩:=by unfold Addr.add;split<;>simp_all
     rw[ha,zlc w g j cur 5 m hh,<-Array.getElem?_toList];rw[<-htk,List.getElem?_take] at hj;split at hj
     ·exact hj
     ·cases hj) s (by omega) (by omega) (growslice_fits (by omega) (by rw[hz2];omega))
   exact⟨_,_,hr,hnew _ _ rfl (grownCap_ge _ _ _ _) (grownCap_le_maxLen _ _ _ _ (by unfold maxLen;omega)),hgb _,Oth.new _ _ _⟩
theorem qe8 {ops:Array Oper}{rest:List Oper}{o:Oper}{a:Act}{Q:Exit->Act->World->Prop}(w:World)(K:Nat)(v:Value)(n:Nat)(l:List UInt8)
 (hown:Own w K v n l)(hK:K<=w.heap.size)(src:ByteArray)(hsz:n+src.size<=140737488355328)(hgd:o.guard=none)(s x:Operand)
 (ho:o.op=.call {callee:=.builtin .append,args:=#[s,x],argTypes:=#[22,9]})
 (hs:a.eval s=v)(hx:a.eval x=.string src)
 (h:∀v' w',Own w' K v' (n+src.size) (l++src.data.toList)->Below K w w'->Oth 5 w w'->wpList prog ops Q rest (a.put o.dst v') w'):
 wpList prog ops Q (o::rest) a w:=by
 refine wpList_plain hgd fun K' hK'=>?_;obtain⟨v',w',hrun,h1,h2,h3⟩:=Qd2 w K o.type v n l hown hK src hsz;unfold Oper.wp execOp;simp only[ho,resolve,invoke,builtin,Sem.run_bind,Sem.run_pure,Result.andThen_ok,List.map_toArray,List.map_cons,List.map_nil,hs,hx,hrun];exact hK' _ _ (h v' w' h1 h2 h3)
end JB
namespace JU
open JB
theorem qgn {P:Program}{f:FuncId}{xs:Array Value}{W:World}{i j:Nat}{u:Value}(hc:Calls P f xs (W.drewN (i+j)) fun e V=>e=.returned u/\V=W.drewN (i+j)):
 Calls P f xs (W.drewN (i+j)) fun e V=>e=.returned u/\∃k,V=W.drewN (i+k):=by
 refine hc.mono ?_;rintro e V ⟨h1,h2⟩;exact⟨h1,j,h2⟩
theorem qnn {r:Int}(h:r≠65533):(r==65533)=false:=by simpa using h
theorem qdy (r:Int)(w:World)(h:128<=r)(he:(r==65533)=false)(hv:Lib.validRune r=false):
 Calls prog 231 #[.string ⟨#[47,10,0]⟩,.int .i32 r] w fun e w'=>e=.returned (.int .i64 (-1))/\Below w.heap.size w w':=by
 go_enter func231,ntmps231;go_wp2_with (go_at_call 241;refine (Tryz.utf8_ValidRune _ _).mono ?_;rintro e w' ⟨rfl,rfl⟩;rw[hv])
 try rw[Exit.noGoto_ret]
 go_ret
 exact⟨rfl,Below.refl _ _⟩
theorem qf3 (w:World):
 Calls prog 231 #[.string ⟨#[47,10,0]⟩,.int .i32 65533] w fun e w'=>e=.returned (.int .i64 (-1))/\Below w.heap.size w w':=by
 go_enter func231,ntmps231;go_wp2_with fail
 go_loopg [5,6] 3 (fun g _ _ wx=>∃i:Nat,i+g=3/\wx=w.iter ⟨#[47,10,0]⟩ i)
 case atStart=>exact⟨0,by omega,rfl⟩
 case round=>
  obtain⟨i,hi,rfl⟩:=hrel
  cases gk with
  |zero=>
   obtain rfl:i=3:=by omega
   have hnx:=fun ty=>run_next_end (P:=prog) w ⟨#[47,10,0]⟩ 3 ty (by decide);go_wp2
   try rw[Exit.noGoto_ret]
   go_ret
   exact⟨rfl,(Below.refl _ _).alloc zjn _⟩
  |succ g=>
   have hi2:i=0∨i=1∨i=2:=by omega
   rcases hi2 with rfl|rfl|rfl
   ·have hnx:=fun ty=>run_next_ascii (P:=prog) w ⟨#[47,10,0]⟩ 0 ty (by decide) (by decide);go_wp2
    go_roundg g
    case measure=>omega
    case rel=>exact⟨1,by omega,rfl⟩
   ·have hnx:=fun ty=>run_next_ascii (P:=prog) w ⟨#[47,10,0]⟩ 1 ty (by decide) (by decide);go_wp2
    go_roundg g
    case measure=>omega
    case rel=>exact⟨2,by omega,rfl⟩
   ·have hnx:=fun ty=>run_next_ascii (P:=prog) w ⟨#[47,10,0]⟩ 2 ty (by decide) (by decide);go_wp2
    go_roundg g
    case measure=>omega
    case rel=>exact⟨3,by omega,rfl⟩
theorem Qaq (b:UInt8)(h:128<=b.toNat):Lib.indexByte [0] b= -1:=by
 have hb:b≠0:=by rintro rfl;simp at h
 have h0:Lib.indexByte [] b= -1:=rfl;unfold Lib.indexByte;simp[hb.symm,h0]
theorem qf4 (r:Int)(w:World)(h:128<=r)(he:(r==65533)=false)(hv:Lib.validRune r=true):
 Calls prog 231 #[.string ⟨#[47,10,0]⟩,.int .i32 r] w fun e w'=>e=.returned (.int .i64 (-1))/\Below w.heap.size w w':=by
 have hv':Utf8.valid r=true:=by
  unfold Lib.validRune at hv;unfold Utf8.valid;simp at hv |-;omega
 obtain⟨f1,f2,f3⟩:=encode_facts r hv' h;obtain⟨E,hE⟩:∃E,Utf8.encode r=E:=⟨_,rfl⟩;rw[hE] at f1 f2 f3;have F3:=hid f3;have Hv:=hid hv';clear f3 hv';by_cases h2:E.size=2
 ·obtain⟨a,b,rfl⟩:∃a b:UInt8,E=⟨#[a,b]⟩:=by
   obtain⟨⟨l⟩⟩:=E
   match l,h2 with
   |[a,b],_=>exact⟨a,b,rfl⟩
  have hb:128<=b.toNat:=F3.out (by show 2-1<2;omega)
  have hne:((((⟨#[47,10,0]⟩:ByteArray)[1]'(by decide)).toNat:Int) !=(((⟨#[a,b]⟩:ByteArray)[1]'(show 1<2 by omega)).toNat:Int))=true:=by
   show (((10:Nat):Int) !=(b.toNat:Int))=true
   simp;omega
  have hib:Lib.indexByte [0] ((⟨#[a,b]⟩:ByteArray)[1]'(show 1<2 by omega))= -1:=Qaq b hb;clear F3 f1 f2 h2;go_enter func231,ntmps231;go_wp2_with (go_at_call 241;refine (Tryz.utf8_ValidRune _ _).mono ?_;rintro e w' ⟨rfl,rfl⟩;rw[hv])
  go_step3
  go_wp2
  refine wp_loop_rounds 1 ?_;rw[rounds_succ];go_wp2
  go_step3
  go_wp2
  go_quiet (fail)
  go_wp2_with fail
  go_quiet ((go_at_call 228;exact qgn (Tryz.strings_IndexByte _ _ _)))
  go_wp2
  rw[Exit.noGoto_ret];go_wp2
  rw[Exit.noGoto_ret];go_ret
  exact⟨rfl,⟨rfl,rfl,rfl,Nat.le_refl _,fun _ _=>rfl⟩⟩
 ·by_cases h3:E.size=3
  ·obtain⟨a,a1,b,rfl⟩:∃a a1 b:UInt8,E=⟨#[a,a1,b]⟩:=by
    obtain⟨⟨l⟩⟩:=E
    match l,h3 with
    |[a,a1,b],_=>exact⟨a,a1,b,rfl⟩
   have hb:128<=b.toNat:=F3.out (by show 3-1<3;omega)
   have hne:((((⟨#[47,10,0]⟩:ByteArray)[2]'(by decide)).toNat:Int) !=(((⟨#[a,a1,b]⟩:ByteArray)[2]'(show 2<3 by omega)).toNat:Int))=true:=by
    show (((0:Nat):Int) !=(b.toNat:Int))=true
    simp;omega
   clear F3 f1 f2 h2 h3;go_enter func231,ntmps231;go_wp2_with (go_at_call 241;refine (Tryz.utf8_ValidRune _ _).mono ?_;rintro e w' ⟨rfl,rfl⟩;rw[hv])
   go_step3
   go_wp2
   refine wp_loop_rounds 1 ?_;rw[rounds_succ];go_wp2
   go_step3
   go_wp2
   go_quiet (fail)
   go_wp2_with fail
   go_quiet ((go_at_call 228;exact qgn (Tryz.strings_IndexByte _ _ _)))
   go_wp2
   rw[Exit.noGoto_ret];go_wp2
   rw[Exit.noGoto_ret];go_ret
   exact⟨rfl,⟨rfl,rfl,rfl,Nat.le_refl _,fun _ _=>rfl⟩⟩
  ·have f1':4<=E.size:=by omega
   clear F3 f1 h2 h3;go_enter func231,ntmps231;go_wp2_with (go_at_call 241;refine (Tryz.utf8_ValidRune _ _).mono ?_;rintro e w' ⟨rfl,rfl⟩;rw[hv])
   go_step3
   go_wp2
   refine wp_loop_rounds 1 ?_;rw[rounds_succ];go_wp2
   rw[Exit.noGoto_ret];go_ret
   exact⟨rfl,Below.refl _ _⟩
theorem qg3 (r:Int)(w:World)(h:128<=r):
 Calls prog 231 #[.string ⟨#[47,10,0]⟩,.int .i32 r] w fun e w'=>e=.returned (.int .i64 (-1))/\Below w.heap.size w w':=by
 by_cases he:r=65533
 ·subst he;exact qf3 w
 ·cases hv:Lib.validRune r
  ·exact qdy r w h (qnn he) hv
  ·exact qf4 r w h (qnn he) hv
theorem qnp {n b0 b1 b2 b3:Nat}(h:128<=b0):∀j,j<(Lib.decodeN n b0 b1 b2 b3).2->j=0∨(j=1/\128<=b1)∨(j=2/\128<=b2)∨(j=3/\128<=b3):=by
 intro j;unfold Lib.decodeN;rw[if_neg (by omega)];repeat' split
 all_goals (intro hj;simp only at hj;omega)
theorem qjv (s:ByteArray)(i:Nat)(b:UInt8)(h:s.data.toList[i]?=some b):s.get! i=b:=by
 obtain⟨⟨l⟩⟩:=s;simp only at h;obtain⟨h1,h2⟩:=zlv.1 h;subst h2;show (Array.mk l)[i]! =_
 simp[getElem!_pos,h1]
theorem qnq (s:ByteArray)(pos:Nat)(h:128<=(s.get! pos).toNat)(j:Nat)(b:UInt8)(h1:pos<=j)(h2:j<pos+(Utf8.decode s pos).2)(hb:s.data.toList[j]?=some b):128<=b.toNat:=by
 rw[Lib.decode_at] at h2;have hb':=qjv s j b hb;obtain⟨k,rfl⟩:∃k,j=pos+k:=⟨j-pos,by omega⟩;rcases qnp h k (Nat.lt_of_add_lt_add_left h2) with rfl|⟨rfl,h3⟩|⟨rfl,h3⟩|⟨rfl,h3⟩
 ·rw[<-hb'];exact h
 all_goals rw[<-hb'];exact h3
theorem qnr {P:Program}(w:World)(g:Nat)(s:ByteArray)(pos:Nat)(ty:TypeId)(hg:w.heap[g]?=some (.stringIter s pos))(h:pos<s.size):
 (Instr.next (.pointer (some ⟨g,0,none⟩)) true ty).run P w=
  .ok (.tuple #[.bool true,.int .i64 pos,.int .i32 (Utf8.decode s pos).1]) {w with heap:=w.heap.setIfInBounds g (.stringIter s (pos+(Utf8.decode s pos).2))}:=by
 simp only[Instr.next,getObj,setObj,Sem.run_bind,Sem.run,hg,Result.andThen,h,if_true];simp[goInt]
theorem qsd {P:Program}(w:World)(g:Nat)(s:ByteArray)(pos:Nat)(ty:TypeId)(hg:w.heap[g]?=some (.stringIter s pos))(h:¬pos<s.size):
 (Instr.next (.pointer (some ⟨g,0,none⟩)) true ty).run P w=.ok (.tuple #[.bool false]) w:=by
 simp[Instr.next,getObj,Sem.run,hg,h]
def bad (l:List UInt8):Bool:=Lib.containsAny l [47,10,0]
def qf5 (w:World)(s:ByteArray)(i:Nat)(wx:World):Prop:=
 wx.heap[w.heap.size]?=some (.stringIter s i)/\Below w.heap.size w wx/\Lib.NoAny s.data.toList [47,10,0] i
theorem qf5.start (w:World)(s:ByteArray):qf5 w s 0 (w.iter s 0):=
 ⟨World.iter_heap w s 0,(Below.refl _ _).alloc zjn _,Lib.NoAny.zero _ _⟩
theorem Qcq {b:UInt8}(h:128<=b.toNat):([47,10,0]:List UInt8).contains b=false:=by
 have h1:b≠10:=by rintro rfl;simp at h
 have h2:b≠0:=by rintro rfl;simp at h
 have h3:b≠47:=by rintro rfl;simp at h
 simp[h1,h2,h3]
def qg4 (w:World)(wx:World)(s:ByteArray)(j:Nat):World:={wx with heap:=wx.heap.setIfInBounds w.heap.size (.stringIter s j)}
theorem qf6 {w wx:World}{s:ByteArray}{j:Nat}(h:Below w.heap.size w wx):Below w.heap.size w (qg4 w wx s j):=by
 refine⟨h.os,h.tape,h.output,by simpa [qg4] using h.size,fun k hk=>?_⟩;rw[<-h.block k hk];simp only[qg4];rw[Array.getElem?_setIfInBounds_ne (by omega)]
theorem qse {w wx:World}{s:ByteArray}{i j:Nat}(h:wx.heap[w.heap.size]?=some (.stringIter s i)):(qg4 w wx s j).heap[w.heap.size]?=some (.stringIter s j):=by
 have:=(zla.1 h).1;simp[qg4,this]
theorem qga (w wx:World)(s:ByteArray)(j:Nat):(qg4 w wx s j).heap.size=wx.heap.size:=by simp[qg4]
theorem qf5.step {w wx wy:World}{s:ByteArray}{i j:Nat}(h:qf5 w s i wx)(hb:Below (qg4 w wx s j).heap.size (qg4 w wx s j) wy)(hn:Lib.NoAny s.data.toList [47,10,0] j):qf5 w s j wy:=by
 have hlt:=(zla.1 h.1).1;refine⟨?_,(qf6 h.2.1).trans (hb.mono ?_),hn⟩
 ·rw[hb.block _ (by rw[qga];exact hlt)];exact qse h.1
 ·rw[qga];omega
theorem qg5 (s:ByteArray)(w:World)(h8:s.size<=8):
 Calls prog 217 #[.string s,.string ⟨#[47,10,0]⟩] w fun e w'=>e=.returned (.int .i64 (Lib.indexAny s.data.toList [47,10,0]))/\Below w.heap.size w w':=by
 have h8z:decide ((8:Int)<(s.size:Int))=false:=decide_eq_false (by omega);go_enter func217,ntmps217;go_wp2_with (go_at_call 232;refine (Tryz.strings_shouldUseASCIISet _ _).mono ?_;rintro e w' ⟨rfl,hw⟩;rw[hw,h8z])
 go_loopg [9,10] s.size (fun g _ _ wx=>∃i:Nat,s.size-i<=g/\qf5 w s i wx)
 case atStart=>exact⟨0,by omega,qf5.start _ _⟩
 case round=>
  obtain⟨i,hi,hat⟩:=hrel;by_cases hlt:i<s.size
  ·cases gk with
   |zero=>omega
   |succ g=>
   have hnx:∀ty,(Instr.next (.pointer (some ⟨w.heap.size,0,none⟩)) true ty).run prog wr=.ok (.tuple #[.bool true,.int .i64 i,.int .i32 (Utf8.decode s i).1]) (qg4 w wr s (i+(Utf8.decode s i).2)):=
    fun ty=>qnr wr w.heap.size s i ty hat.1 hlt
   obtain⟨x,hx⟩:∃x:UInt8,s[i]'hlt=x:=⟨_,rfl⟩;have hxl:s.data.toList[i]?=some x:=by rw[<-hx];exact Lib.data_getElem? s i hlt
   by_cases hx128:x.toNat<128
   ·rw[decode_ascii s i hlt (by rw[hx];exact hx128),hx] at hnx;have hcon:=Lib.contains_iff_indexByte [47,10,0] x;have hback:((x.toNat:Int)).toNat.toUInt8=x:=by simp
    have Hx:=hid hxl;have Hi:=hid hi;have Hl:=hid hlt;have Hat:=hid hat;clear hxl hx hat hi hlt;cases hin:([47,10,0]:List UInt8).contains x
    ·rw[hin] at hcon;have hlt0:¬((0:Int)<=Lib.indexByte [47,10,0] x):=of_decide_eq_false hcon.symm;have Hin:=hid hin;clear hcon hin;go_wp2_with (go_at_call 231;refine (Tryz.strings_IndexRune_ascii _ _ _ (by omega) (by omega)).mono ?_;rintro e w' ⟨rfl,hw⟩;rw[hw,hback])
     go_roundg g
     case measure=>omega
     case rel=>exact⟨i+1,by have:=Hi.out;omega,Hat.out.step zjb (Hat.out.2.2.succ Hx.out Hin.out)⟩
    ·rw[hin] at hcon;have hge0:(0:Int)<=Lib.indexByte [47,10,0] x:=of_decide_eq_true hcon.symm;have Hin:=hid hin;clear hcon hin;go_wp2_with (go_at_call 231;refine (Tryz.strings_IndexRune_ascii _ _ _ (by omega) (by omega)).mono ?_;rintro e w' ⟨rfl,hw⟩;rw[hw,hback])
     go_ret
     exact⟨by rw[Lib.indexAny_hit Hat.out.2.2 Hx.out Hin.out];rfl,qf6 Hat.out.2.1⟩
   ·have hd:=decode_high s i hlt (by rw[hx];omega);have hg:s.get! i=x:=qjv s i x hxl
    have hno:Lib.NoAny s.data.toList [47,10,0] (i+(Utf8.decode s i).2):=by
     intro j b hj hb;by_cases h:j<i
     ·exact hat.2.2 j b h hb
     ·exact Qcq (qnq s i (by rw[hg];omega) j b (by omega) hj hb)
    generalize (Utf8.decode s i).1=r at *;generalize (Utf8.decode s i).2=k at *;obtain⟨hd1,hd2⟩:=hd;have Hi:=hid hi;have Hat:=hid hat;have Hno:=hid hno;clear hxl hx hat hi hlt hg hno;go_wp2_with (go_at_call 231;refine (qg3 _ _ (by omega)).mono ?_;rintro e w1 ⟨rfl,hb1⟩)
    go_roundg g
    case measure=>omega
    case rel=>exact⟨i+k,by have:=Hi.out;omega,Hat.out.step hb1 Hno.out⟩
  ·have hnx:=fun ty=>qsd (P:=prog) wr w.heap.size s i ty hat.1 hlt;have Hat:=hid hat;have Hlt:=hid hlt;clear hat hlt hi;go_wp2
   go_ret
   exact⟨by rw[Lib.indexAny_none (fun j b hj hb=>Hat.out.2.2 j b (by have h1:=(zlv.1 hb).1;have h2:=Hlt.out;rw[<-Lib.size_eq] at h1;omega) hb)];rfl,Hat.out.2.1⟩
theorem Qcr (w:World):(zeroValue 272).run prog w=.ok (.agg (Array.replicate 256 (.bool false))) w:=by kernel_rfl
theorem qhm (s:ByteArray)(w:World)(hs:s.size<4294967281):
 Calls prog 217 #[.string s,.string ⟨#[47,10,0]⟩] w fun e w'=>e=.returned (.int .i64 (Lib.indexAny s.data.toList [47,10,0]))/\Below w.heap.size w w':=by
 by_cases h8:8<s.size
 ·refine (Tryz.strings_IndexAny_long Qcr s ⟨#[47,10,0]⟩ w (by decide) h8 hs (by decide) (fun j b hb=>?_)).mono fun e w' ⟨he,hw⟩=>⟨he,?_⟩
  ·have:=List.mem_of_getElem? hb;simp at this;rcases this with rfl|rfl|rfl<;>decide
  ·rw[hw];exact ((Below.refl _ _).alloc zjn _).alloc (by simp) _
 ·exact qg5 s w (by omega)
theorem qf7 (s:ByteArray)(w:World)(hs:s.size<4294967281):
 Calls prog 182 #[.string s,.string ⟨#[47,10,0]⟩] w fun e w'=>e=.returned (.bool (bad s.data.toList))/\Below w.heap.size w w':=by
 have Hi:=hid (qhm s w hs);go_enter func182,ntmps182;go_wp2_with (go_at_call 217;refine Hi.out.mono ?_;rintro e w' ⟨rfl,hw⟩)
 go_ret
 exact⟨rfl,hw⟩
end JU
namespace JC
open JB (qhc hid qds)
open JS (Oth Oth.refl Oth.new Oth.put Oth.alloc Oth.trans Fr Fr.refl Fr.new Fr.put Fr.ahead qe0 blk)
structure Qar (st t:TypeId) (sz bs:Nat) (z:Value):Prop where
 under:prog.underlying st=some (.slice t)
 info:(prog.info? t).map (fun i=>(i.zero,i.size,i.bytes))=some (some z,sz,bs)
 cells:z.cells.size=sz
 pos:0<sz
def Rd (w:World)(K:Nat)(A:Option Addr)(n sz:Nat)(cs:List Value):Prop:=
 cs.length=n * sz/\∀k (h:k<cs.length),∃b o:Nat,A=some ⟨b,o,none⟩/\b<K/\w.cell? ⟨b,o+k,none⟩=some cs[k]
theorem Rd.below {w w':World}{K n sz:Nat}{A:Option Addr}{cs:List Value}(h:Rd w K A n sz cs)(hb:Below K w w'):Rd w' K A n sz cs:=
 ⟨h.1,fun k hk=>by
  obtain⟨b,o,e,hl,hc⟩:=h.2 k hk;exact⟨b,o,e,hl,by rw[hb.cell (p:=⟨b,o+k,none⟩) hl];exact hc⟩⟩
theorem Rd.more {w:World}{K K' n sz:Nat}{A:Option Addr}{cs:List Value}(h:Rd w K A n sz cs)(hK:K<=K'):Rd w K' A n sz cs:=
 ⟨h.1,fun k hk=>by
  obtain⟨b,o,e,hl,hc⟩:=h.2 k hk;exact⟨b,o,e,by omega,hc⟩⟩
theorem Rd.nil (w:World)(K sz:Nat)(A:Option Addr):Rd w K A 0 sz []:=⟨by simp,fun k hk=>absurd hk (by simp)⟩
theorem Rd.drewN {w:World}{K n sz:Nat}{A:Option Addr}{cs:List Value}(h:Rd w K A n sz cs)(m:Nat):Rd (w.drewN m) K A n sz cs:=h
def Own (t:TypeId)(sz:Nat)(w:World)(K:Nat)(v:Value)(n:Nat)(cs:List Value):Prop:=
 cs.length=n * sz/\((v=.slice none 0 0/\n=0)∨
  ∃(g cap:Nat)(cur:Array Value)(m:Nat×Nat),v=.slice (some ⟨g,0,none⟩) n cap/\K<=g/\w.heap[g]?=some (.cells cur t m)/\n<=cap/\cap<=maxLen/\cur.size=cap * sz/\cur.toList.take (n * sz)=cs/\
   ∀j,j<cap * sz->¬(m.1<=j/\j<m.2))
theorem Own.nil (t:TypeId)(sz:Nat)(w:World)(K:Nat):Own t sz w K (.slice none 0 0) 0 []:=⟨by simp,.inl ⟨rfl,rfl⟩⟩
theorem Own.reads {t:TypeId}{sz:Nat}{w:World}{K n:Nat}{v:Value}{cs:List Value}(h:Own t sz w K v n cs):∃A c,v=.slice A n c/\Rd w w.heap.size A n sz cs/\n<=c/\c<=maxLen:=by
 obtain⟨hl,h⟩:=h;rcases h with ⟨rfl,rfl⟩|⟨g,cap,cur,m,rfl,hg,hh,hn,hm,hs,ht,_⟩
 ·exact⟨none,0,rfl,⟨hl,fun k hk=>by omega⟩,by omega,by unfold maxLen;omega⟩
 ·refine⟨_,cap,rfl,⟨hl,fun k hk=>⟨g,0,rfl,(zla.1 hh).1,?_⟩⟩,hn,hm⟩;rw[zlc w g (0+k) cur t m hh,Nat.zero_add,<-Array.getElem?_toList];have h1:(cur.toList.take (n * sz))[k]?=some cs[k]:=by rw[ht];exact zlh hk
  rw[List.getElem?_take] at h1;split at h1
  ·exact h1
  ·cases h1
theorem Own.keep {t:TypeId}{sz:Nat}{w w':World}{K n:Nat}{v:Value}{cs:List Value}(h:Own t sz w K v n cs)(hk:∀g,K<=g->g<w.heap.size->w'.heap[g]?=w.heap[g]?):Own t sz w' K v n cs:=by
 refine⟨h.1,?_⟩;rcases h.2 with h|⟨g,cap,cur,m,hv,hg,hh,r⟩
 ·exact .inl h
 ·exact .inr ⟨g,cap,cur,m,hv,hg,(hk g hg (zla.1 hh).1).trans hh,r⟩
theorem Own.alloc {t:TypeId}{sz:Nat}{w:World}{K n:Nat}{v:Value}{cs:List Value}(h:Own t sz w K v n cs)(o:Obj):Own t sz (w.alloc o) K v n cs:=h.keep fun g _ hlt=>zlz w o g hlt
theorem Own.drewN {t:TypeId}{sz:Nat}{w:World}{K n:Nat}{v:Value}{cs:List Value}(h:Own t sz w K v n cs)(m:Nat):Own t sz (w.drewN m) K v n cs:=h
theorem Own.below {t:TypeId}{sz:Nat}{w w':World}{K n:Nat}{v:Value}{cs:List Value}(h:Own t sz w K v n cs)(hb:Below w.heap.size w w'):Own t sz w' K v n cs:=h.keep fun g _ hlt=>hb.block g hlt
theorem Own.more {t:TypeId}{sz:Nat}{w:World}{K K' n:Nat}{v:Value}{cs:List Value}(h:Own t sz w K v n cs)(hK:K'<=K):Own t sz w K' v n cs:=by
 refine⟨h.1,?_⟩;rcases h.2 with h|⟨g,cap,cur,m,hv,hg,r⟩
 ·exact .inl h
 ·exact .inr ⟨g,cap,cur,m,hv,by omega,r⟩
theorem Own.oth {t t':TypeId}{sz:Nat}{w w':World}{K n:Nat}{v:Value}{cs:List Value}(h:Own t sz w K v n cs)(ho:Oth t' w w')(ht:t≠t'):Own t sz w' K v n cs:=by
 refine⟨h.1,?_⟩;rcases h.2 with h|⟨g,cap,cur,m,hv,hg,hh,r⟩
 ·exact .inl h
 ·exact .inr ⟨g,cap,cur,m,hv,hg,ho g _ hh (fun cs m' e=>by injection e with _ e2;exact ht e2),r⟩
theorem Own.fr {t:TypeId}{sz:Nat}{w w':World}{K n:Nat}{v u u':Value}{cs:List Value}(h:Own t sz w K v n cs)(ho:Fr u w u' w')(ha:qe0 v u):Own t sz w' K v n cs:=by
 refine⟨h.1,?_⟩;rcases h.2 with h|⟨g,cap,cur,m,hv,hg,hh,r⟩
 ·exact .inl h
 ·exact .inr ⟨g,cap,cur,m,hv,hg,(ho.1 g (zla.1 hh).1 (ha g (by rw[hv];rfl))).trans hh,r⟩
theorem Own.blk_lt {t:TypeId}{sz:Nat}{w:World}{K n:Nat}{v:Value}{cs:List Value}(h:Own t sz w K v n cs){k:Nat}(hk:blk v=some k):k<w.heap.size:=by
 rcases h.2 with ⟨rfl,_⟩|⟨g,cap,cur,m,rfl,hg,hh,r⟩
 ·cases hk
 ·injection hk with hk;subst hk;exact (zla.1 hh).1
theorem Own.setc {t t':TypeId}{sz:Nat}{W:World}{K n:Nat}{v:Value}{cs:List Value}{g:Nat}{ds:Array Value}{m:Nat×Nat}(h:Own t sz W K v n cs)(hb:W.heap[g]?=some (.cells ds t' m))(ht:t≠t')(i:Nat)(y:Value):Own t sz (W.setCell ⟨g,i,none⟩ y) K v n cs:=by
 refine⟨h.1,?_⟩;rcases h.2 with h|⟨g',cap,cur,m',hv,hgk,hh,r⟩
 ·exact .inl h
 ·refine .inr ⟨g',cap,cur,m',hv,hgk,(zly W ⟨g,i,none⟩ y g' ?_).trans hh,r⟩;intro e;have e':g'=g:=e;rw[e',hb] at hh;injection hh with hh;injection hh with _ e2;exact ht e2.symm
theorem qgq {st t:TypeId}{sz bs:Nat}{z:Value}(hk:Qar st t sz bs z)(w:World)(K:Nat)(ty:TypeId)(v:Value)(n:Nat)(l:List Value)(hown:Own t sz w K v n l)(hK:K<=w.heap.size)
 (ad:Addr)(k c:Nat)(src:List Value)(hl:src.length=k * sz)(h1:∀u∈src,u.oneCell'=true)(hc:∀j u,src[j]?=some u->w.cell? (ad.add j)=some u)(hsz:n+k<=1000000)(hby:(n+k) * bs<=140737488355328):
 ∃v' w',(Builtin.append_ #[st,st] ty #[v,.slice (some ad) k c]).run prog w=.ok v' w'/\Own t sz w' K v' (n+k) (l++src)/\Below K w w'/\Oth t w w'/\Fr v w v' w':=by
 obtain⟨i,hi,hz0,hz1,hz2⟩:=info_parts hk.info;have ht:=hk.under;have hzc:=hk.cells;have hll:=hown.1;have hpos:=hk.pos;have hf:=run_firstCells_some (P:=prog) w i.size k ad k c src (by rw[hz1];exact hl) hc
 have hnew:∀(olds:List Value)(cap:Nat),olds=l->n+k<=cap->cap<=maxLen->
  Own t sz (w.drew.alloc (.cells (olds.toArray++src.toArray++Builtin.zeroCells z.cells (cap-(n+k))) t)) K (.slice (some ⟨w.heap.size,0,none⟩) (n+k) cap) (n+k) (l++src):=by
  intro olds cap ho hcap hm;subst ho;have hmul:(n+k) * sz=n * sz+k * sz:=Nat.add_mul _ _ _;refine⟨by rw[zlb];omega,.inr ⟨w.heap.size,cap,_,(0,0),rfl,hK,zld w.drew _,hcap,hm,?_,?_,fun j _ hj=>by simp at hj⟩⟩
  ·simp only[Array.size_append,size_zeroCells,hzc,List.size_toArray,hll,hl];have:cap=(n+k)+(cap-(n+k)):=by omega
   conv=>rhs;rw[this,Nat.add_mul,hmul]
  ·simp only[Array.toList_append];rw[List.take_append_of_le_length (by simp only[zlb];omega)];exact zlj (by simp only[zlb];omega)
 have hgb:∀o,Below K w (w.drew.alloc o):=fun o=>(Below.refl K w).drew.alloc hK o;rcases hown.2 with ⟨rfl,rfl⟩|⟨g,cap,cur,m,rfl,hg,hh,hn,hm,hs,htk,hfr⟩
 ·rcases Nat.eq_zero_or_pos k with rfl|hk0
  ·have:src=[]:=zli (by rw[hl];simp);subst this;refine⟨.slice none 0 0,w,?_,by simpa using hown,Below.refl _ _,Oth.refl _ _,Fr.refl _ _⟩;simp[Builtin.append_,run_underlying ht,sizeOf,typeInfo,hi,Builtin.lenOf,hf]
  ·have hr:=run_append_nil (P:=prog) w st ty t i z ht hi hz0 ad k c src (by rw[hz1];exact hl) hc hk0 (by omega) (by rw[hz2];rw[Nat.zero_add] at hby;omega);have hl0:l=[]:=zli (by rw[hll];simp);subst hl0;have h0:=hnew [] (grownCap w k 0 t) rfl (by rw[Nat.zero_add];exact grownCap_ge _ _ _ _) (grownCap_le_maxLen _ _ _ _ (by unfold maxLen;omega));exact⟨_,_,hr,by simpa using h0,hgb _,Oth.new _ _ _,Fr.new _ _ _ _ _⟩
 ·by_cases hroom:n+k<=cap
  ·have hmul:(n+k) * sz=n * sz+k * sz:=Nat.add_mul _ _ _;have hle:(n+k) * sz<=cap * sz:=Nat.mul_le_mul_right _ hroom;obtain⟨w',cur',hrun,hg',hs',ht',hb',ho',hz'⟩:=qhc prog g t m src (n * sz) 0 cur w hh (by omega) (fun j hj=>hfr j (by omega)) h1;refine⟨.slice (some ⟨g,0,none⟩) (n+k) cap,w',?_,⟨by rw[zlb];omega,.inr ⟨g,cap,cur',m,rfl,hg,hg',hroom,hm,by omega,?_,hfr⟩⟩,hb'.mono hg,Oth.put hh ho',Fr.put ho' _ _ _⟩
   ·rw[hz1] at hf;simp[Builtin.append_,run_underlying ht,sizeOf,typeInfo,hi,hz1,Builtin.lenOf,hroom,Addr.add_lit,hf,hrun]
   ·rw[<-htk,hmul];rw[hl] at ht';simpa using ht'
  ·have hr:=run_append_grow (P:=prog) w st ty t i z ht hi hz0 ⟨g,0,none⟩ n cap l (by rw[hz1];exact hll)
    (fun j u hj=>by
     have ha:(⟨g,0,none⟩:Addr).add j=⟨g,j,none⟩:=by unfold Addr.add;split<;>simp_all
     rw[ha,zlc w g j cur t m hh,<-Array.getElem?_toList];rw[<-htk,List.getElem?_take] at hj;split at hj
     ·exact hj
     ·cases hj) ad k c src (by rw[hz1];exact hl) hc (by omega) (by omega) (growslice_fits (by omega) (by rw[hz2];exact hby))
   exact⟨_,_,hr,hnew _ _ rfl (grownCap_ge _ _ _ _) (grownCap_le_maxLen _ _ _ _ (by unfold maxLen;omega)),hgb _,Oth.new _ _ _,Fr.new _ _ _ _ _⟩
theorem qa4 {st t:TypeId}{sz bs:Nat}{z:Value}(hk:Qar st t sz bs z){ops:Array Oper}{rest:List Oper}{o:Oper}{a:Act}{Q:Exit->Act->World->Prop}(w:World)(K:Nat)(v:Value)(n:Nat)(l:List Value)
 (hown:Own t sz w K v n l)(hK:K<=w.heap.size)(k c:Nat)(src:Array Value)(m:Nat×Nat)(hl:src.size=k * sz)(h1:∀u∈src.toList,u.oneCell'=true)(hn:n+k<=1000000)(hby:(n+k) * bs<=140737488355328)(hgd:o.guard=none)(s x:Operand)
 (ho:o.op=.call {callee:=.builtin .append,args:=#[s,x],argTypes:=#[st,st]})
 (hs:a.eval s=v)(hx:a.eval x=.slice (some ⟨w.heap.size,0,none⟩) k c)
 (h:∀v' w',Own t sz w' K v' (n+k) (l++src.toList)->Below K w w'->Oth t w w'->Fr v w v' w'->wpList prog ops Q rest (a.put o.dst v') w'):
 wpList prog ops Q (o::rest) a (w.alloc (.cells src t m)):=by
 refine wpList_plain hgd fun K' hK'=>?_
 obtain⟨v',w',hrun,r1,r2,r3,r4⟩:=qgq hk (w.alloc (.cells src t m)) K o.type v n l (hown.alloc _) (by simp;omega) ⟨w.heap.size,0,none⟩ k c src.toList (by rw[Array.length_toList];exact hl) h1 (fun j u hj=>by
  have ha:(⟨w.heap.size,0,none⟩:Addr).add j=⟨w.heap.size,j,none⟩:=by unfold Addr.add;split<;>simp_all
  rw[ha,zlc _ w.heap.size j src t m (zld w _),<-Array.getElem?_toList];exact hj) hn hby
 unfold Oper.wp execOp;simp only[ho,resolve,invoke,builtin,Sem.run_bind,Sem.run_pure,Result.andThen_ok,List.map_toArray,List.map_cons,List.map_nil,hs,hx,hrun];exact hK' _ _ (h v' w' r1 (((Below.refl K w).alloc hK _).trans r2) ((Oth.alloc _ _ _).trans r3) (Fr.ahead _ r4))
theorem qyy {st t:TypeId}{sz bs:Nat}{z:Value}(hk:Qar st t sz bs z){ops:Array Oper}{o:Oper}{a:Act}{C:Act->World->Prop}{Q:Exit->Act->World->Prop}{E:Prop}(w:World)(K:Nat)(v:Value)(n:Nat)(l:List Value)
 (hown:Own t sz w K v n l)(hK:K<=w.heap.size)(ad:Addr)(k c:Nat)(src:List Value)(hl:src.length=k * sz)(h1:∀u∈src,u.oneCell'=true)(hc:∀j u,src[j]?=some u->w.cell? (ad.add j)=some u)(hn:n+k<=1000000)(hby:(n+k) * bs<=140737488355328)
 (hgd:o.guard=none)(s x:Operand)(ho:o.op=.call {callee:=.builtin .append,args:=#[s,x],argTypes:=#[st,st]})(hs:a.eval s=v)(hx:a.eval x=.slice (some ad) k c)
 (h:∀v' w',Own t sz w' K v' (n+k) (l++src)->Below K w w'->Oth t w w'->Fr v w v' w'->C (a.put o.dst v') w'):
 if Region.wanted o (yielded ops a.tmps)=true then Oper.wp prog o a w C Q else E:=by
 have hw:Region.wanted o (yielded ops a.tmps)=true:=by simp[Region.wanted,hgd]
 rw[if_pos hw];obtain⟨v',w',hrun,r1,r2,r3,r4⟩:=qgq hk w K o.type v n l hown hK ad k c src hl h1 hc hn hby;unfold Oper.wp execOp;simp only[ho,resolve,invoke,builtin,Sem.run_bind,Sem.run_pure,Result.andThen_ok,List.map_toArray,List.map_cons,List.map_nil,hs,hx,hrun];exact h v' w' r1 r2 r3 r4
end JC
namespace Ord
variable {P : Program} {ops : Array Oper} {Q : Exit -> Act -> World -> Prop} {md : Region.Mode} {S : World -> Prop} {z : Nat}
def qaf (P:Program)(md:Region.Mode)(ops:Array Oper)(Q:Exit->Act->World->Prop)(S:World->Prop)(z:Nat):Nat->Array Bool->Act->World->Prop
 |0,li,a,w=>Region.ready md ops li=[]/\Q .normal a w
 |k+1,li,a,w=>(Region.ready md ops li=[]->Q .normal a w)/\∀j∈Region.ready md ops li,wpOp P ops Q j (fun b v=>(j≠z->S v)/\qaf P md ops Q S z k (li.setIfInBounds j true) b v) a w
theorem qaf.any:∀(k:Nat)(li:Array Bool)(a:Act)(w:World),qaf P md ops Q S z k li a w->wpAny P md ops Q k li a w
 |0,_,_,_,h=>h
 |k+1,_,_,_,h=>⟨h.1,fun j hj=>wpOp_mono (fun b v q=>qaf.any k _ b v q.2) (h.2 j hj)⟩
theorem qaf.first {i:Nat}{oi:Oper}{x:Value}(hi:ops[i]?=some oi)(hsel:∀(j:Nat)(o:Oper) cs b,ops[j]?=some o->o.op≠.select cs b)
 (hQ:∀c a w,Q (.panic c) (a.put oi.dst x) w->Q (.panic c) a w)(hz:∀o,ops[z]?=some o->∃e∈o.after,Region.binds md e=true/\e.on=i):
 ∀(k:Nat)(li:Array Bool)(a:Act)(w:World),
  (∀j oj,ops[j]?=some oj->j≠i->li.getD j true=false->(∀e∈oj.after,Region.binds md e=true->e.on≠i)->oi.apart ops oj=true)->
  i∈Region.ready md ops li->YieldsIf P ops S oi x a->S w->
  qaf P md ops Q S z k (li.setIfInBounds i true) (a.put oi.dst x) w->qaf P md ops Q S z (k+1) li a w:=by
 intro k
 induction k with
 |zero=>
  intro li a w _ hr hy hS H;refine⟨fun h=>(by rw[h] at hr;cases hr),fun j hj=>?_⟩;by_cases e:j=i
  ·subst e;exact hy.wpOp hi hS ⟨fun _=>hS,H⟩
  ·have q:=ready_mono hj e;rw[H.1] at q;cases q
 |succ k ih=>
  intro li a w hf hr hy hS H;refine⟨fun h=>(by rw[h] at hr;cases hr),fun j hj=>?_⟩;by_cases e:j=i
  ·subst e;exact hy.wpOp hi hS ⟨fun _=>hS,H⟩
  ·have hun:=(mem_ready.1 hr).1;obtain⟨hju,oj,hoj,hall⟩:=mem_ready.1 hj
   have hno:∀d∈oj.after,Region.binds md d=true->d.on≠i:=fun d hd hb q=>by
    have h1:=hall d hd hb;rw[q] at h1;rcases Nat.lt_or_ge i li.size with g|g
    ·simp[g] at hun h1;rw[hun] at h1;cases h1
    ·simp[Array.getElem?_eq_none g] at h1
   have hjz:j≠z:=fun q=>by
    subst q;obtain⟨d,hd,hb,hon⟩:=hz oj hoj;exact hno d hd hb hon
   refine wpOp_mono (fun b v q=>⟨q.2.1,ih (li.setIfInBounds j true) b v ?_ (ready_mono hr (Ne.symm e)) q.1 (q.2.1 hjz) ?_⟩)
    (wpOp_putIf hoj (hf j oj hoj e hju hno) (fun cs b=>hsel i oi cs b hi) (fun cs b=>hsel j oj cs b hoj) hQ hy (H.2 j (ready_mono hj e)))
   ·intro m om hm hmi hmu hmo;refine hf m om hm hmi ?_ hmo;by_cases hjm:j=m
    ·subst hjm;exact hju
    ·rw[getD_set_ne true hjm] at hmu;exact hmu
   ·rw[Array.setIfInBounds_comm _ _ e];exact q.2.2
theorem qaf.take (i:Nat){oi:Oper}{x:Value}{k:Nat}{li:Array Bool}{a:Act}{w:World}(hi:ops[i]?=some oi)
 (hs:Region.noSelect ops=true)(hf:Region.free md ops li i=true)(hr:(Region.ready md ops li).contains i=true)(hzb:(match ops[z]? with|some o=>o.after.any (fun e=>Region.binds md e&&e.on==i)|none=>true)=true)
 (hQ:∀c a w,Q (.panic c) (a.put oi.dst x) w->Q (.panic c) a w)(hw:Region.wanted oi (yielded ops a.tmps)=true)(hy:∀v,S v->(execOp a.eval oi).run P v=.ok (.value x) v)(hS:S w)
 (h:qaf P md ops Q S z k (li.setIfInBounds i true) (a.put oi.dst x) w):qaf P md ops Q S z (k+1) li a w:=by
 refine qaf.first hi (Region.noSelect_spec hs) hQ (fun o ho=>?_) k li a w (Region.free_spec hi hf) (by simpa using hr) (.inl ⟨hw,hy⟩) hS h
 rw[ho] at hzb;obtain⟨e,he,hq⟩:=Array.any_eq_true'.1 hzb;rw[zlx,beq_iff_eq] at hq;exact⟨e,he,hq.1,hq.2⟩
theorem qaf.step (i:Nat){oi:Oper}{k:Nat}{li:Array Bool}{a:Act}{w:World}(hr:Region.ready md ops li=[i])(hi:ops[i]?=some oi)
 (h:∀C:Act->World->Prop,Shut (∀b v,(i≠z->S v)->qaf P md ops Q S z k (li.setIfInBounds i true) b v->C b v)->if Region.wanted oi (yielded ops a.tmps)=true then Oper.wp P oi a w C Q else C (a.put oi.dst undef) w):
 qaf P md ops Q S z (k+1) li a w:=by
 refine⟨fun h0=>(by rw[hr] at h0;cases h0),fun j hj=>?_⟩;rw[hr,zlw] at hj;subst hj;exact wpOp_step hi (fun C hC=>h C (fun b v h1 h2=>hC b v ⟨h1,h2⟩))
theorem qaf.done {li:Array Bool}{a:Act}{w:World}(hr:Region.ready md ops li=[])(h:Q .normal a w):∀k,qaf P md ops Q S z k li a w
 |0=>⟨hr,h⟩
 |_+1=>⟨fun _=>h,by rw[hr];simp⟩
theorem qaf.begin (S:World->Prop)(z:Nat){id:Nat}{a:Act}{w:World}(hm:P.follows .mixedOrders=true)(h:qaf P .any ops Q S z ops.size (Array.replicate ops.size false) a w.drew):(Code.region id ops true).wp P Q a w:=
 wp_region_any hm (qaf.any _ _ _ _ h)
end Ord
namespace Ord
variable {P : Program} {ops : Array Oper} {Q : Exit -> Act -> World -> Prop} {md : Region.Mode} {S : World -> Prop} {z : Nat}
theorem qaf.two (i j:Nat){oi oj:Oper}{k:Nat}{li:Array Bool}{a:Act}{w:World}(hr:Region.ready md ops li=[i,j])(hi:ops[i]?=some oi)(hj:ops[j]?=some oj)
 (h1:∀C:Act->World->Prop,Shut (∀b v,(i≠z->S v)->qaf P md ops Q S z k (li.setIfInBounds i true) b v->C b v)->if Region.wanted oi (yielded ops a.tmps)=true then Oper.wp P oi a w C Q else C (a.put oi.dst undef) w)
 (h2:∀C:Act->World->Prop,Shut (∀b v,(j≠z->S v)->qaf P md ops Q S z k (li.setIfInBounds j true) b v->C b v)->if Region.wanted oj (yielded ops a.tmps)=true then Oper.wp P oj a w C Q else C (a.put oj.dst undef) w):
 qaf P md ops Q S z (k+1) li a w:=by
 refine⟨fun h0=>(by rw[hr] at h0;cases h0),fun x hx=>?_⟩;rw[hr,List.mem_cons,zlw] at hx;rcases hx with rfl|rfl
 ·exact wpOp_step hi (fun C hC=>h1 C (fun b v q1 q2=>hC b v ⟨q1,q2⟩))
 ·exact wpOp_step hj (fun C hC=>h2 C (fun b v q1 q2=>hC b v ⟨q1,q2⟩))
theorem qaf.take' (i:Nat)(d:Option Nat){oi:Oper}{x:Value}{k:Nat}{li:Array Bool}{a:Act}{w:World}(hi:ops[i]?=some oi)(hd:oi.dst=d)
 (hs:Region.noSelect ops=true)(hf:Region.free md ops li i=true)(hr:(Region.ready md ops li).contains i=true)(hzb:(match ops[z]? with|some o=>o.after.any (fun e=>Region.binds md e&&e.on==i)|none=>true)=true)
 (hQ:∀c a w,Q (.panic c) (a.put oi.dst x) w->Q (.panic c) a w)(hw:Region.wanted oi (yielded ops a.tmps)=true)(hy:∀v,S v->(execOp a.eval oi).run P v=.ok (.value x) v)(hS:S w)
 (h:qaf P md ops Q S z k (li.setIfInBounds i true) (a.put d x) w):qaf P md ops Q S z (k+1) li a w:=by
 subst hd;exact qaf.take i hi hs hf hr hzb hQ hw hy hS h
end Ord
namespace JC
open JS (Oth Oth.refl Oth.new Oth.put Oth.alloc Oth.trans Fr Fr.refl Fr.new Fr.put Fr.ahead qe0 blk)
theorem Own.lit0 (t:TypeId)(sz:Nat)(w:World)(K:Nat)(hK:K<=w.heap.size):Own t sz (w.alloc (.cells #[] t)) K (.slice (some ⟨w.heap.size,0,none⟩) 0 0) 0 []:=
 ⟨by simp,.inr ⟨w.heap.size,0,#[],(0,0),rfl,hK,zld w _,Nat.le_refl _,by unfold maxLen;omega,by simp,by simp,fun j hj=>by omega⟩⟩
theorem Qd3 {st t:TypeId}{sz bs:Nat}{z:Value}(hk:Qar st t sz bs z)(w:World)(K B:Nat)(ty:TypeId)(v:Value)(n:Nat)(l:List Value)(hown:Own t sz w K v n l)(hK:K<=w.heap.size)
 (A:Option Addr)(k c:Nat)(src:List Value)(hr:Rd w B A k sz src)(h1:∀u∈src,u.oneCell'=true)(hn:n+k<=1000000)(hby:(n+k) * bs<=140737488355328):
 ∃v' w',(Builtin.append_ #[st,st] ty #[v,.slice A k c]).run prog w=.ok v' w'/\Own t sz w' K v' (n+k) (l++src)/\Below K w w'/\Fr v w v' w':=by
 have hpos:=hk.pos;rcases A with _|ad
 ·have hk0:k=0:=by
   rcases Nat.eq_zero_or_pos k with h0|h0
   ·exact h0
   ·obtain⟨b,o,e,_⟩:=hr.2 0 (by rw[hr.1];exact Nat.mul_pos h0 hpos);cases e
  subst hk0;have hs:src=[]:=zli (by rw[hr.1];simp);subst hs;obtain⟨i,hi,hz0,hz1,hz2⟩:=info_parts hk.info;have ht:=hk.under;refine⟨v,w,?_,by simpa using hown,Below.refl _ _,Fr.refl _ _⟩;rcases hown.2 with ⟨rfl,rfl⟩|⟨g,cap,cur,m,rfl,_,_,hnc,_⟩
  ·simp[Builtin.append_,run_underlying ht,sizeOf,typeInfo,hi,Builtin.lenOf,Builtin.firstCells]
  ·simp[Builtin.append_,run_underlying ht,sizeOf,typeInfo,hi,Builtin.lenOf,Builtin.firstCells,hnc,storeCells]
 ·obtain⟨v',w',q1,q2,q3,_,q4⟩:=qgq hk w K ty v n l hown hK ad k c src hr.1 h1 (fun j u hj=>by
   obtain⟨hlt,rfl⟩:=zlv.1 hj;obtain⟨b,o,e,_,hc⟩:=hr.2 j hlt;injection e with e;subst e;have ha:(⟨b,o,none⟩:Addr).add j=⟨b,o+j,none⟩:=by unfold Addr.add;split<;>simp_all
   rw[ha,hc]) hn hby
  exact⟨v',w',q1,q2,q3,q4⟩
theorem Qd4 {st t:TypeId}{sz bs:Nat}{z:Value}(hk:Qar st t sz bs z){ops:Array Oper}{rest:List Oper}{o:Oper}{a:Act}{Q:Exit->Act->World->Prop}(w:World)(K B:Nat)(v:Value)(n:Nat)(l:List Value)
 (hown:Own t sz w K v n l)(hK:K<=w.heap.size)(A:Option Addr)(k c:Nat)(src:List Value)(hr:Rd w B A k sz src)(h1:∀u∈src,u.oneCell'=true)(hn:n+k<=1000000)(hby:(n+k) * bs<=140737488355328)(hgd:o.guard=none)(s x:Operand)
 (ho:o.op=.call {callee:=.builtin .append,args:=#[s,x],argTypes:=#[st,st]})
 (hs:a.eval s=v)(hx:a.eval x=.slice A k c)
 (h:∀v' w',Own t sz w' K v' (n+k) (l++src)->Below K w w'->wpList prog ops Q rest (a.put o.dst v') w'):
 wpList prog ops Q (o::rest) a w:=by
 refine wpList_plain hgd fun K' hK'=>?_;obtain⟨v',w',hrun,r1,r2,_⟩:=Qd3 hk w K B o.type v n l hown hK A k c src hr h1 hn hby;unfold Oper.wp execOp;simp only[ho,resolve,invoke,builtin,Sem.run_bind,Sem.run_pure,Result.andThen_ok,List.map_toArray,List.map_cons,List.map_nil,hs,hx,hrun];exact hK' _ _ (h v' w' r1 r2)
end JC
theorem zjU {P:Program}{ops:Array Oper}{Q:Exit->Act->World->Prop}{md:Region.Mode}{S:World->Prop}{z:Nat}(i:Nat){oi:Oper}{k:Nat}{li:Array Bool}{a:Act}{w:World}(hi:ops[i]?=some oi)
 (hs:(Region.noSelect ops&&Region.free md ops li i&&(Region.ready md ops li).contains i&&(match ops[z]? with|some o=>o.after.any (fun e=>Region.binds md e&&e.on==i)|none=>true)&&Region.wanted oi (yielded ops a.tmps))=true)
 {x:Value}(hQ:∀c a w,Q (.panic c) (a.put oi.dst x) w->Q (.panic c) a w)(hy:∀v,S v->(execOp a.eval oi).run P v=.ok (.value x) v)(hS:S w)
 (h:Ord.qaf P md ops Q S z k (li.setIfInBounds i true) (a.put oi.dst x) w):Ord.qaf P md ops Q S z (k+1) li a w:=by
 simp only[zlx] at hs;obtain⟨⟨⟨⟨h1,h2⟩,h3⟩,h4⟩,h5⟩:=hs;exact Ord.qaf.take i hi h1 h2 h3 h4 hQ h5 hy hS h
theorem zjT {P:Program}{ops:Array Oper}{Q:Exit->Act->World->Prop}{md:Region.Mode}{S:World->Prop}{z:Nat}(i d:Nat){oi:Oper}{k:Nat}{li:Array Bool}{a:Act}{w:World}(hi:ops[i]?=some oi)(hd:oi.dst=some d)
 (hs:(Region.noSelect ops&&Region.free md ops li i&&(Region.ready md ops li).contains i&&(match ops[z]? with|some o=>o.after.any (fun e=>Region.binds md e&&e.on==i)|none=>true)&&Region.wanted oi (yielded ops a.tmps))=true)
 {x:Value}(hQ:∀c a w,Q (.panic c) (a.put oi.dst x) w->Q (.panic c) a w)(hy:∀v,S v->(execOp a.eval oi).run P v=.ok (.value x) v)(hS:S w)
 (h:Ord.qaf P md ops Q S z k (li.setIfInBounds i true) (a.put (some d) x) w):Ord.qaf P md ops Q S z (k+1) li a w:=by
 rw[<-hd] at h;exact zjU i hi hs hQ hy hS h
theorem zjA:(∀(a:Act)(t:Tmp)(v:Value),a.put (some t) v={a with tmps:=a.tmps.setIfInBounds t v})/\(∀(a:Act)(v:Value),a.put none v=a)/\(∀(l:List Value)(i:Nat)(v:Value),l.toArray.setIfInBounds i v=(l.set i v).toArray)/\(∀(x y:Value)(l:List Value),(x::l).set 0 y=y::l)/\(∀(x y:Value)(l:List Value)(n:Nat),(x::l).set (n+1) y=x::l.set n y):=
 ⟨fun _ _ _=>rfl,fun _ _=>rfl,fun l i v=>List.setIfInBounds_toArray l i v,fun _ _ _=>rfl,fun _ _ _ _=>rfl⟩
theorem zjW {P:Program}{ops:Array Oper}{Q:Exit->Act->World->Prop}{md:Region.Mode}{S:World->Prop}{z:Nat}(i:Nat){oi:Oper}{k:Nat}{li:Array Bool}{a b:Act}{w:World}{x:Value}(hS:S w)
 (h:Ord.qaf P md ops Q S z k (li.setIfInBounds i true) b w)(hi:ops[i]?=some oi:=by rfl)
 (hs:(Region.noSelect ops&&Region.free md ops li i&&(Region.ready md ops li).contains i&&(match ops[z]? with|some o=>o.after.any (fun e=>Region.binds md e&&e.on==i)|none=>true)&&Region.wanted oi (yielded ops a.tmps))=true:=by kernel_rfl)
 (hy:∀v,S v->(execOp a.eval oi).run P v=.ok (.value x) v:=by intro v hv;(repeat (rcases hv with ⟨_,hv⟩));go_simp;first|done|rfl)
 (hb:a.put oi.dst x=b:=by (try simp only[zjA]);rfl)
 (hQ:∀c a w,Q (.panic c) (a.put oi.dst x) w->Q (.panic c) a w:=by exact fun _ _ _ h=>h):Ord.qaf P md ops Q S z (k+1) li a w:=by
 subst hb;exact zjU i hi hs hQ hy hS h
theorem zjV {P:Program}{ops:Array Oper}{Q:Exit->Act->World->Prop}{md:Region.Mode}{S:World->Prop}{z:Nat}(i d:Nat){oi:Oper}{k:Nat}{li:Array Bool}{a b:Act}{w:World}{x:Value}(hS:S w)
 (h:Ord.qaf P md ops Q S z k (li.setIfInBounds i true) b w)(hi:ops[i]?=some oi:=by rfl)(hd:oi.dst=some d:=by rfl)
 (hs:(Region.noSelect ops&&Region.free md ops li i&&(Region.ready md ops li).contains i&&(match ops[z]? with|some o=>o.after.any (fun e=>Region.binds md e&&e.on==i)|none=>true)&&Region.wanted oi (yielded ops a.tmps))=true:=by kernel_rfl)
 (hy:∀v,S v->(execOp a.eval oi).run P v=.ok (.value x) v:=by intro v hv;(repeat (rcases hv with ⟨_,hv⟩));go_simp;first|done|rfl)
 (hb:a.put (some d) x=b:=by (try simp only[zjA]);rfl)
 (hQ:∀c a w,Q (.panic c) (a.put oi.dst x) w->Q (.panic c) a w:=by exact fun _ _ _ h=>h):Ord.qaf P md ops Q S z (k+1) li a w:=by
 subst hb;exact zjT i d hi hd hs hQ hy hS h
end Go.Proofs.YtlmolmohhpdhdaaGreatDoor
