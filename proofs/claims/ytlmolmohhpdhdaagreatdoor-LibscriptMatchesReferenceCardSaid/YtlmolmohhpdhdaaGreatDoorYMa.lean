/-
  Byte slices in memory: what reads as a list of bytes, and
-/
import Derived.Test.YtlmolmohhpdhdaaGreatDoorChecked
import Derived.WalkSpells
import Derived.BigQuiet
import Derived.Lib.SlBytesConst
set_option maxRecDepth 100000
set_option maxHeartbeats 16000000
set_option linter.all false
namespace Go.Proofs.YtlmolmohhpdhdaaGreatDoor
open Go.RowKit Go.Proofs Tryz
abbrev zla:=@Array.getElem?_eq_some_iff
abbrev zlb:=@List.length_append
abbrev zlc:=@cell_of_row
abbrev zld:=@heap_alloc_new
abbrev zle:=@heap_setCell_same
abbrev zlf:=@bodyPost_ret
abbrev zlg:=@List.take_succ_eq_append_getElem
abbrev zlh:=@List.getElem?_eq_getElem
abbrev zli:=@List.eq_nil_of_length_eq_zero
abbrev zlj:=@List.take_of_length_le
abbrev zlk:=@List.length_cons
abbrev zlm:=@List.length_drop
abbrev zln:=@List.append_assoc
abbrev zlp:=@frozen_of_row
abbrev zlq:=@List.getElem_mem
abbrev zlr:=@World.size_alloc
abbrev zls:=@beq_eq_false_iff_ne
abbrev zlt:=@Int.toNat_natCast
abbrev zlu:=@List.length_take
abbrev zlv:=@List.getElem?_eq_some_iff
abbrev zlw:=@List.mem_singleton
abbrev zlx:=@Bool.and_eq_true
abbrev zly:=@Below.heap_setCell
abbrev zlz:=@Below.heap_alloc
abbrev zlA:=@Int.eq_ofNat_of_zero_le
abbrev zlB:=@List.length_map
abbrev zlC:=@List.getElem?_append_right
abbrev zlD:=@List.drop_eq_nil_of_le
abbrev zlE:=@List.cons_append
abbrev zlF:=@List.getElem?_map
abbrev zlG:=@List.mem_append
abbrev zlH:=@List.getElem_cons_zero
abbrev zlI:=@List.nil_append
abbrev zlJ:=@List.append_nil
theorem zjc {w:World}{cs:Array Value}{t:TypeId}{fr:Nat×Nat}(g j:Nat)(h:w.heap[g]?=some (.cells cs t fr)):w.cell? ⟨g,j,none⟩=cs[j]?:=zlc w g j cs t fr h
theorem zjF {P:World->Prop}{x y:World}(F:Hid (∀W,Below x.heap.size x W->P W))(b:Below x.heap.size x y):Hid (∀W,Below y.heap.size y W->P W):=fun W h=>F.out W (b.trans (h.mono b.size))
theorem zjn {n:Nat}:n<=n:=Nat.le_refl _
theorem zjb {K:Nat}{w:World}:Below K w w:=Below.refl _ _
theorem zjB (w:World)(o:Obj):Below w.heap.size w (w.alloc o):=(Below.refl w.heap.size w).alloc (Nat.le_refl _) o
namespace JB
theorem hid {p:Prop}(h:p):Hid p:=h
theorem qa1 {a b:Bool}(h:a=b):Ending.returned (.bool a)=.returned (.bool b):=by rw[h]
theorem qyi {k:IntKind}{a b:Int}(h:a=b):Ending.returned (.int k a)=.returned (.int k b):=by rw[h]
theorem qqq {a b:ByteArray}(h:a=b):Ending.returned (.string a)=.returned (.string b):=by rw[h]
def Rd (w:World)(K:Nat)(A:Option Addr)(n:Nat)(xs:List UInt8):Prop:=
 xs.length=n/\∀k (h:k<xs.length),∃b o:Nat,A=some ⟨b,o,none⟩/\b<K/\w.cell? ⟨b,o+k,none⟩=some (.int .u8 (xs[k].toNat:Int))
theorem Rd.below {w w':World}{K n:Nat}{A:Option Addr}{xs:List UInt8}(h:Rd w K A n xs)(hb:Below K w w'):Rd w' K A n xs:=
 ⟨h.1,fun k hk=>by
  obtain⟨b,o,e,hl,hc⟩:=h.2 k hk;exact⟨b,o,e,hl,by rw[hb.cell (p:=⟨b,o+k,none⟩) hl];exact hc⟩⟩
theorem Rd.more {w:World}{K K' n:Nat}{A:Option Addr}{xs:List UInt8}(h:Rd w K A n xs)(hK:K<=K'):Rd w K' A n xs:=
 ⟨h.1,fun k hk=>by
  obtain⟨b,o,e,hl,hc⟩:=h.2 k hk;exact⟨b,o,e,by omega,hc⟩⟩
theorem Rd.nil (w:World)(K:Nat)(A:Option Addr):Rd w K A 0 []:=⟨rfl,fun k hk=>absurd hk (by simp)⟩
theorem Rd.cut {w:World}{K n b o:Nat}{xs:List UInt8}(h:Rd w K (some ⟨b,o,none⟩) n xs)(k:Nat):Rd w K (some ⟨b,o+k,none⟩) (n-k) (xs.drop k):=by
 refine⟨by rw[zlm,h.1],fun j hj=>?_⟩;rw[zlm] at hj;obtain⟨b',o',e,hl,hcell⟩:=h.2 (k+j) (by omega);injection e with e;injection e with e1 e2;subst e1;subst e2;refine⟨_,_,rfl,hl,?_⟩;rw[Nat.add_assoc,hcell,List.getElem_drop]
theorem Rd.pre {w:World}{K n m:Nat}{A:Option Addr}{xs:List UInt8}(h:Rd w K A n xs)(hm:m<=n):Rd w K A m (xs.take m):=by
 refine⟨by rw[zlu,h.1];omega,fun j hj=>?_⟩;rw[zlu] at hj;obtain⟨b',o',e,hl,hcell⟩:=h.2 j (by omega);exact⟨b',o',e,hl,by rw[hcell,List.getElem_take]⟩
theorem Rd.cut_at {w:World}{K n:Nat}{A B:Option Addr}{xs:List UInt8}(h:Rd w K A n xs)(k:Nat)(hk:n<=k):Rd w K B (n-k) (xs.drop k):=by
 refine⟨by rw[zlm,h.1],fun j hj=>?_⟩;rw[zlm,h.1] at hj;omega
theorem Rd.drewN {w:World}{K n:Nat}{A:Option Addr}{xs:List UInt8}(h:Rd w K A n xs)(m:Nat):Rd (w.drewN m) K A n xs:=h
theorem qds {α:Type}{xs:List α}{n:Nat}(h:xs.length=n):xs.take n=xs:=zlj (by omega)
def enc (l:List UInt8):List Value:=l.map fun c=>Value.int .u8 (c.toNat:Int)
theorem qbn (a b:List UInt8):enc (a++b)=enc a++enc b:=by simp[enc]
theorem qa3 (a:List UInt8):(enc a).length=a.length:=by simp[enc]
theorem qhp {l:List UInt8}:∀v∈enc l,v.oneCell'=true:=by
 intro v hv;unfold enc at hv;rw[List.mem_map] at hv;obtain⟨c,_,rfl⟩:=hv;rfl
def Own (w:World)(K:Nat)(v:Value)(n:Nat)(l:List UInt8):Prop:=
 l.length=n/\((v=.slice none 0 0/\n=0)∨
  ∃(g cap:Nat)(cur:Array Value)(m:Nat×Nat),v=.slice (some ⟨g,0,none⟩) n cap/\K<=g/\w.heap[g]?=some (.cells cur 5 m)/\n<=cap/\cap<=maxLen/\cur.size=cap/\cur.toList.take n=enc l/\
   ∀j,j<cap->¬(m.1<=j/\j<m.2))
theorem qjd:(prog.info? 5).map (fun i=>(i.zero,i.size,i.bytes))=some (some (.int .u8 0),1,1):=by kernel_rfl
theorem Own.nil (w:World)(K:Nat):Own w K (.slice none 0 0) 0 []:=⟨rfl,.inl ⟨rfl,rfl⟩⟩
theorem Own.of_row {w:World}{K n:Nat}{v:Value}{l:List UInt8}(h:w.ownsRow K 5 1 v n (enc l)):Own w K v n l:=by
 refine⟨by have:=h.1;rw[qa3] at this;omega,?_⟩;rcases h.2 with h|⟨g,cap,cur,hv,hg,hh,hn,hm,hs,ht⟩
 ·exact .inl h
 ·exact .inr ⟨g,cap,cur,(0,0),hv,hg,hh,hn,hm,by omega,by rw[<-ht];simp,fun j _ hj=>by simp at hj⟩
theorem Own.reads {w:World}{K n:Nat}{v:Value}{l:List UInt8}(h:Own w K v n l):∃A c,v=.slice A n c/\Rd w w.heap.size A n l/\n<=c/\c<=maxLen:=by
 obtain⟨hl,h⟩:=h;rcases h with ⟨rfl,rfl⟩|⟨g,cap,cur,m,rfl,hg,hh,hn,hm,hs,ht,_⟩
 ·exact⟨none,0,rfl,⟨hl,fun k hk=>by omega⟩,by omega,by unfold maxLen;omega⟩
 ·refine⟨_,cap,rfl,⟨hl,fun k hk=>⟨g,0,rfl,(zla.1 hh).1,?_⟩⟩,hn,hm⟩;rw[zlc w g (0+k) cur 5 m hh,Nat.zero_add,<-Array.getElem?_toList];have h1:(cur.toList.take n)[k]?=some (Value.int .u8 (l[k].toNat:Int)):=by rw[ht];simp[enc,zlh hk]
  rw[List.getElem?_take] at h1;split at h1
  ·exact h1
  ·cases h1
theorem Own.keep {w w':World}{K n:Nat}{v:Value}{l:List UInt8}(h:Own w K v n l)(hk:∀g,K<=g->g<w.heap.size->w'.heap[g]?=w.heap[g]?):Own w' K v n l:=by
 refine⟨h.1,?_⟩;rcases h.2 with h|⟨g,cap,cur,m,hv,hg,hh,r⟩
 ·exact .inl h
 ·exact .inr ⟨g,cap,cur,m,hv,hg,(hk g hg (zla.1 hh).1).trans hh,r⟩
theorem Own.alloc {w:World}{K n:Nat}{v:Value}{l:List UInt8}(h:Own w K v n l)(o:Obj):Own (w.alloc o) K v n l:=h.keep fun g _ hlt=>zlz w o g hlt
theorem Own.drewN {w:World}{K n:Nat}{v:Value}{l:List UInt8}(h:Own w K v n l)(m:Nat):Own (w.drewN m) K v n l:=h
theorem Own.below {w w':World}{K n:Nat}{v:Value}{l:List UInt8}(h:Own w K v n l)(hb:Below w.heap.size w w'):Own w' K v n l:=h.keep fun g _ hlt=>hb.block g hlt
theorem Own.more {w:World}{K K' n:Nat}{v:Value}{l:List UInt8}(h:Own w K v n l)(hK:K'<=K):Own w K' v n l:=by
 refine⟨h.1,?_⟩;rcases h.2 with h|⟨g,cap,cur,m,hv,hg,r⟩
 ·exact .inl h
 ·exact .inr ⟨g,cap,cur,m,hv,by omega,r⟩
theorem qhc (P:Program)(g:Nat)(t:TypeId)(m:Nat×Nat):∀(vs:List Value)(o i:Nat)(cur:Array Value)(w:World),w.heap[g]?=some (.cells cur t m)->o+i+vs.length<=cur.size->
 (∀j,j<o+i+vs.length->¬(m.1<=j/\j<m.2))->(∀v∈vs,v.oneCell'=true)->
 ∃w' cur',(storeCells ⟨g,o,none⟩ vs i).run P w=.ok () w'/\w'.heap[g]?=some (.cells cur' t m)/\cur'.size=cur.size/\cur'.toList.take (o+i+vs.length)=cur.toList.take (o+i)++vs/\Below g w w'/\
  (∀k,k≠g->w'.heap[k]?=w.heap[k]?)/\w'.heap.size=w.heap.size:=by
 intro vs
 induction vs with
 |nil=>
  intro o i cur w hg hl hm h1;exact⟨w,cur,by simp[storeCells],hg,rfl,by simp,Below.refl _ _,fun _ _=>rfl,rfl⟩
 |cons v rest ih=>
  intro o i cur w hg hl hm h1;rw[zlk] at hl hm;have hi:o+i<cur.size:=by omega
  have hadd:(⟨g,o,none⟩:Addr).add i=⟨g,o+i,none⟩:=by unfold Addr.add;split<;>simp_all
  have hcell:w.cell? ⟨g,o+i,none⟩=some cur[o+i]:=by simp[World.cell?,hg,hi]
  have hfro:w.frozen? ⟨g,o+i,none⟩=false:=by
   have:=hm (o+i) (by omega);simp[World.frozen?,hg];omega
  have hst:(store ((⟨g,o,none⟩:Addr).add i) v).run P w=.ok () (w.setCell ⟨g,o+i,none⟩ v):=by
   rw[hadd,run_store P w _ v _ (h1 v (by simp)),hcell];simp[hfro]
  have hg1:(w.setCell ⟨g,o+i,none⟩ v).heap[g]?=some (.cells (cur.setIfInBounds (o+i) v) t m):=by
   simp[World.setCell,Array.getElem?_modify,hg]
  obtain⟨w',cur',hrun,hg',hs',ht',hb',ho',hz'⟩:=ih o (i+1) (cur.setIfInBounds (o+i) v) (w.setCell ⟨g,o+i,none⟩ v) hg1 (by simp;omega) (fun j hj=>hm j (by omega)) (fun x hx=>h1 x (by simp[hx]));refine⟨w',cur',?_,hg',by rw[hs'];simp,?_,((Below.refl g w).setCell (p:=⟨g,o+i,none⟩) zjn v).trans hb',fun k hk=>?_,?_⟩
  ·simp only[storeCells,Sem.run_bind,hst,Result.andThen_ok,hrun]
  ·rw[show o+i+(v::rest).length=o+(i+1)+rest.length by rw[zlk];omega,ht',Array.toList_setIfInBounds,show o+(i+1)=o+i+1 by omega,
    zlg (by simp;omega),List.take_set_of_le (by omega)]
   simp
  ·rw[ho' k hk,zly _ _ _ _ (by exact hk)]
  ·rw[hz'];simp[World.setCell]
theorem qgq (w:World)(K:Nat)(ty:TypeId)(v:Value)(n:Nat)(l:List UInt8)(hown:Own w K v n l)(hK:K<=w.heap.size)
 (ad:Addr)(k c:Nat)(src:List UInt8)(hl:src.length=k)(hc:∀j u,(enc src)[j]?=some u->w.cell? (ad.add j)=some u)(hsz:n+k<=140737488355328):
 ∃v' w',(Builtin.append_ #[22,22] ty #[v,.slice (some ad) k c]).run prog w=.ok v' w'/\Own w' K v' (n+k) (l++src)/\Below K w w':=by
 obtain⟨i,hi,hz0,hz1,hz2⟩:=info_parts qjd;have ht:=underlying22;have hll:=hown.1;have hf:=run_firstCells_some (P:=prog) w i.size k ad k c (enc src) (by rw[qa3,hz1];omega) hc
 have hnew:∀(olds:List Value)(cap:Nat),olds=enc l->n+k<=cap->cap<=maxLen->
  Own (w.drew.alloc (.cells (olds.toArray++(enc src).toArray++Builtin.zeroCells (Value.int .u8 0).cells (cap-(n+k))) 5)) K (.slice (some ⟨w.heap.size,0,none⟩) (n+k) cap) (n+k) (l++src):=by
  intro olds cap ho hcap hm;subst ho;refine⟨by rw[zlb];omega,.inr ⟨w.heap.size,cap,_,(0,0),rfl,hK,zld w.drew _,hcap,hm,?_,?_,fun j _ hj=>by simp at hj⟩⟩
  ·have h1:(Value.int IntKind.u8 0).cells.size=1:=rfl;simp[size_zeroCells,qa3,hll,hl,h1];omega
  ·rw[qbn];simp only[Array.toList_append];rw[List.take_append_of_le_length (by simp[qa3];omega)];exact zlj (by simp[qa3];omega)
 have hgb:∀o,Below K w (w.drew.alloc o):=fun o=>(Below.refl K w).drew.alloc hK o;rcases hown.2 with ⟨rfl,rfl⟩|⟨g,cap,cur,m,rfl,hg,hh,hn,hm,hs,htk,hfr⟩
 ·rcases Nat.eq_zero_or_pos k with rfl|hk
  ·have:src=[]:=zli hl;subst this;refine⟨.slice none 0 0,w,?_,by simpa using hown,Below.refl _ _⟩;simp[Builtin.append_,run_underlying ht,sizeOf,typeInfo,hi,Builtin.lenOf,hf]
  ·have hr:=run_append_nil (P:=prog) w 22 ty 5 i (.int .u8 0) ht hi hz0 ad k c (enc src) (by rw[qa3,hz1];omega) hc hk (by omega) (by rw[hz2];omega);have hl0:l=[]:=zli hll;subst hl0;have h0:=hnew [] (grownCap w k 0 5) rfl (by rw[Nat.zero_add];exact grownCap_ge _ _ _ _) (grownCap_le_maxLen _ _ _ _ (by unfold maxLen;omega));exact⟨_,_,hr,by simpa using h0,hgb _⟩
 ·have hz1':=hz1;by_cases hroom:n+k<=cap
  ·obtain⟨w',cur',hrun,hg',hs',ht',hb',ho',hz'⟩:=qhc prog g 5 m (enc src) n 0 cur w hh (by rw[qa3];omega) (fun j hj=>hfr j (by rw[qa3] at hj;omega)) qhp;refine⟨.slice (some ⟨g,0,none⟩) (n+k) cap,w',?_,⟨by rw[zlb];omega,.inr ⟨g,cap,cur',m,rfl,hg,hg',hroom,hm,by omega,?_,hfr⟩⟩,hb'.mono hg⟩
   ·rw[hz1] at hf;simp[Builtin.append_,run_underlying ht,sizeOf,typeInfo,hi,hz1,Builtin.lenOf,hroom,Addr.add_lit,hf,hrun]
   ·rw[qbn,<-htk];rw[qa3,hl] at ht';simpa using ht'
  ·have hr:=run_append_grow (P:=prog) w 22 ty 5 i (.int .u8 0) ht hi hz0 ⟨g,0,none⟩ n cap (enc l) (by rw[qa3,hz1];omega)
    (fun j u hj=>by
     have ha:(⟨g,0,none⟩:Addr).add j=⟨g,j,none⟩:=by unfold Addr.add;split<;>simp_all
     rw[ha,zlc w g j cur 5 m hh,<-Array.getElem?_toList];rw[<-htk,List.getElem?_take] at hj;split at hj
     ·exact hj
     ·cases hj) ad k c (enc src) (by rw[qa3,hz1];omega) hc (by omega) (by omega) (growslice_fits (by omega) (by rw[hz2];omega))
   exact⟨_,_,hr,hnew _ _ rfl (grownCap_ge _ _ _ _) (grownCap_le_maxLen _ _ _ _ (by unfold maxLen;omega)),hgb _⟩
theorem qah {ops:Array Oper}{rest:List Oper}{o:Oper}{a:Act}{Q:Exit->Act->World->Prop}(w:World)(K:Nat)(v:Value)(n:Nat)(l:List UInt8)
 (hown:Own w K v n l)(hK:K<=w.heap.size)(A:Option Addr)(k c B:Nat)(src:List UInt8)(hr:Rd w B A k src)(hsz:n+k<=140737488355328)(hgd:o.guard=none)(s x:Operand)
 (ho:o.op=.call {callee:=.builtin .append,args:=#[s,x],argTypes:=#[22,22]})
 (hs:a.eval s=v)(hx:a.eval x=.slice A k c)
 (h:∀v' w',Own w' K v' (n+k) (l++src)->Below K w w'->wpList prog ops Q rest (a.put o.dst v') w'):
 wpList prog ops Q (o::rest) a w:=by
 refine wpList_plain hgd fun K' hK'=>?_
 have hrun:∃v' w',(Builtin.append_ #[22,22] o.type #[v,.slice A k c]).run prog w=.ok v' w'/\Own w' K v' (n+k) (l++src)/\Below K w w':=by
  rcases A with _|ad
  ·have hk:k=0:=by
    rcases Nat.eq_zero_or_pos k with h0|h0
    ·exact h0
    ·obtain⟨b,o',e,_⟩:=hr.2 0 (by have:=hr.1;omega);cases e
   subst hk;have hn:src=[]:=zli hr.1;subst hn;obtain⟨i,hi,hz0,hz1,hz2⟩:=info_parts qjd;have ht:=underlying22;refine⟨v,w,?_,by simpa using hown,Below.refl _ _⟩;rcases hown.2 with ⟨rfl,rfl⟩|⟨g,cap,cur,m,rfl,_,_,hnc,_⟩
   ·simp[Builtin.append_,run_underlying ht,sizeOf,typeInfo,hi,Builtin.lenOf,Builtin.firstCells]
   ·simp[Builtin.append_,run_underlying ht,sizeOf,typeInfo,hi,Builtin.lenOf,Builtin.firstCells,hnc,storeCells]
  ·refine qgq w K o.type v n l hown hK ad k c src hr.1 (fun j u hj=>?_) hsz;unfold enc at hj;rw[zlF] at hj;rcases hx:src[j]? with _|y
   ·rw[hx] at hj;cases hj
   ·rw[hx] at hj;obtain⟨hlt,rfl⟩:=zlv.1 hx;obtain⟨b,o',e,_,hc⟩:=hr.2 j hlt;injection e with e;subst e;have ha:(⟨b,o',none⟩:Addr).add j=⟨b,o'+j,none⟩:=by unfold Addr.add;split<;>simp_all
    rw[ha,hc];exact hj
 obtain⟨v',w',hrun,h1,h2⟩:=hrun;unfold Oper.wp execOp;simp only[ho,resolve,invoke,builtin,Sem.run_bind,Sem.run_pure,Result.andThen_ok,List.map_toArray,List.map_cons,List.map_nil,hs,hx,hrun];exact hK' _ _ (h v' w' h1 h2)
theorem qa4 {ops:Array Oper}{rest:List Oper}{o:Oper}{a:Act}{Q:Exit->Act->World->Prop}(w:World)(K:Nat)(v:Value)(n:Nat)(l:List UInt8)(u:UInt8)(X:Int)(hX:X=(u.toNat:Int))
 (hown:Own w K v n l)(hK:K<=w.heap.size)(hn:n<140737488355328)(hgd:o.guard=none)(s x:Operand)
 (ho:o.op=.call {callee:=.builtin .append,args:=#[s,x],argTypes:=#[22,22]})
 (hs:a.eval s=v)(hx:a.eval x=.slice (some ⟨w.heap.size,0,none⟩) 1 1)
 (h:∀v' w',Own w' K v' (n+1) (l++[u])->Below K w w'->wpList prog ops Q rest (a.put o.dst v') w'):
 wpList prog ops Q (o::rest) a (w.alloc (.cells #[.int .u8 X] 5)):=by
 subst hX
 refine qah _ K v n l (hown.alloc _) (by simp;omega) (some ⟨w.heap.size,0,none⟩) 1 1 (w.heap.size+1) [u] ⟨rfl,fun k hk=>⟨w.heap.size,0,rfl,by omega,?_⟩⟩ (by omega) hgd s x ho hs hx
  (fun v' w' h1 h2=>h v' w' h1 (((Below.refl K w).alloc hK _).trans h2))
 simp only[List.length_singleton] at hk;obtain rfl:k=0:=by omega
 simp
theorem qbk {ops:Array Oper}{rest:List Oper}{o:Oper}{a:Act}{Q:Exit->Act->World->Prop}(w:World)(c:Nat)(hc:c<=140737488355328)(K:Nat)(hK:K<=w.heap.size)(hgd:o.guard=none)(l x:Operand)
 (ho:o.op=Op.makeSlice 22 l x)(kl kc:IntKind)(hl:a.eval l=.int kl 0)(hx:a.eval x=.int kc (c:Int))
 (h:∀v' w',Own w' K v' 0 []->Below w.heap.size w w'->wpList prog ops Q rest (a.put o.dst v') w'):
 wpList prog ops Q (o::rest) a w:=by
 obtain⟨i,hi,hz0,hz1,hz2⟩:=info_parts qjd;refine wpList_make_own w hgd l x 22 ho K 5 i (.int .u8 0) 1 underlying22 hi hz0 hz1 kl kc (c:Int) c hl hx rfl (by rw[hz2];omega) (by unfold maxLen;omega) hK (fun w' h1 h2=>?_);exact h _ w' (Own.of_row (l:=[]) h1) ((Below.refl _ _).grown h2 zjn (fun k hk=>by cases hk))
theorem qg2 {ops:Array Oper}{rest:List Oper}{o:Oper}{a:Act}{Q:Exit->Act->World->Prop}(w:World)(l:List UInt8)(hl:l.length<=140737488355328)(K:Nat)(hK:K<=w.heap.size)(hgd:o.guard=none)(x:Operand)
 (ho:o.op=Op.convert 9 22 x)(hx:a.eval x=.string ⟨l.toArray⟩)
 (h:∀v' w',Own w' K v' l.length l->Below w.heap.size w w'->wpList prog ops Q rest (a.put o.dst v') w'):
 wpList prog ops Q (o::rest) a w:=by
 refine wpList_plain hgd fun K' hK'=>?_;have hrun:=run_bytes_of_string (P:=prog) w 9 22 5 ⟨l.toArray⟩ underlying9 underlying22 underlying5;have hs:(ByteArray.mk l.toArray).size=l.length:=by simp[ByteArray.size]
 rw[hs] at hrun;unfold Oper.wp execOp;simp only[ho,hx,Sem.run_bind,Sem.run_pure,hrun,Result.andThen_ok];refine hK' _ _ (h _ _ ⟨rfl,.inr ⟨w.heap.size,_,_,_,rfl,hK,zld w.drew _,grownCap_ge _ _ _ _,grownCap_le_maxLen _ _ _ _ (by unfold maxLen;omega),?_,?_,?_⟩⟩ ((Below.refl _ w).drew.alloc zjn _))
 ·have:=grownCap_ge w l.length 0 5;simp[bytesRow,hs];omega
 ·simp[bytesRow,enc]
 ·intro j hj;have:=grownCap_ge w l.length 0 5;simp[bytesRow,hs];omega
theorem Rd.lit (w:World)(l:List UInt8)(cs:Array Value)(h:cs=(enc l).toArray)(n:Nat)(hn:l.length=n)(m:Nat×Nat:=(0,0)):Rd (w.alloc (.cells cs 5 m)) (w.heap.size+1) (some ⟨w.heap.size,0,none⟩) n l:=by
 subst h;refine⟨hn,fun k hk=>⟨_,0,rfl,by omega,?_⟩⟩;rw[zlc _ w.heap.size (0+k) _ 5 m (zld w _),Nat.zero_add];simp[enc,zlh hk]
theorem qmi (w:World)(K:Nat)(A:Option Addr)(n c:Nat)(l:List UInt8)(hr:Rd w K A n l):(convert 22 9 (.slice A n c)).run prog w=.ok (.string ⟨l.toArray⟩) w:=by
 obtain⟨hl,hc⟩:=hr;subst hl;rcases Nat.eq_zero_or_pos l.length with h0|h0
 ·have:l=[]:=zli h0;subst this;show (convert 22 9 (.slice A 0 c)).run prog w=.ok (.string ⟨#[]⟩) w
  rw[run_convert_bytes_string w 22 9 5 A 0 c underlying22 underlying5 underlying9];rcases A with _|a
  ·rfl
  ·rw[run_bytesToString w a 0 c [] (by simpa using run_loadCells_list (P:=prog) w a [] (by simp))];rfl
 ·obtain⟨b,o,rfl,_,_⟩:=hc 0 h0;refine run_convert_bytes_back w 22 9 5 ⟨b,o,none⟩ c l underlying22 underlying5 underlying9 (fun j hj=>?_);obtain⟨b',o',e,_,hcell⟩:=hc j hj;injection e with e;injection e with e1 e2;subst e1;subst e2;have ha:(⟨b,o,none⟩:Addr).add j=⟨b,o+j,none⟩:=by unfold Addr.add;split<;>simp_all
  rw[ha,hcell]
theorem qay {ops:Array Oper}{rest:List Oper}{o:Oper}{a:Act}{Q:Exit->Act->World->Prop}(w:World)(K:Nat)(A:Option Addr)(n c:Nat)(l:List UInt8)(hr:Rd w K A n l)(hgd:o.guard=none)(x:Operand)
 (ho:o.op=Op.convert 22 9 x)(hx:a.eval x=.slice A n c)
 (h:wpList prog ops Q rest (a.put o.dst (.string ⟨l.toArray⟩)) w):
 wpList prog ops Q (o::rest) a w:=by
 refine wpList_plain hgd fun K' hK'=>?_;have hrun:=qmi w K A n c l hr;unfold Oper.wp execOp;simp only[ho,hx,Sem.run_bind,Sem.run_pure,hrun,Result.andThen_ok];exact hK' _ _ h
theorem Own.lit0 (w:World)(K:Nat)(hK:K<=w.heap.size):Own (w.alloc (.cells #[] 5)) K (.slice (some ⟨w.heap.size,0,none⟩) 0 0) 0 []:=
 ⟨rfl,.inr ⟨w.heap.size,0,#[],(0,0),rfl,hK,zld w _,by omega,by unfold maxLen;omega,rfl,rfl,fun j hj=>by omega⟩⟩
end JB
namespace JD
def ndF (B:Nat):Nat->Nat->Nat
 |0,_=>1
 |f+1,n=>if n<B then 1 else ndF B f (n / B)+1
def nd (B n:Nat):Nat:=ndF B n n
def txF (B:Nat):Nat->Nat->List UInt8
 |0,n=>[UInt8.ofNat (48+n%B)]
 |f+1,n=>if n<B then [UInt8.ofNat (48+n%B)] else txF B f (n / B)++[UInt8.ofNat (48+n%B)]
def tx (B n:Nat):List UInt8:=txF B n n
theorem ndF_more (B:Nat)(hB:2<=B):∀f g n,n<=f->n<=g->ndF B f n=ndF B g n:=by
 intro f
 induction f with
 |zero=>
  intro g n hf _;obtain rfl:n=0:=by omega
  cases g with
  |zero=>rfl
  |succ g=>simp[ndF];omega
 |succ f ih=>
  intro g n hf hg
  cases g with
  |zero=>
   obtain rfl:n=0:=by omega
   simp[ndF];omega
  |succ g=>
   simp only[ndF];by_cases h:n<B
   ·rw[if_pos h,if_pos h]
   ·have hl:n / B<n:=Nat.div_lt_self (by omega) hB;rw[if_neg h,if_neg h,ih g (n / B) (by omega) (by omega)]
theorem txF_more (B:Nat)(hB:2<=B):∀f g n,n<=f->n<=g->txF B f n=txF B g n:=by
 intro f
 induction f with
 |zero=>
  intro g n hf _;obtain rfl:n=0:=by omega
  cases g with
  |zero=>rfl
  |succ g=>simp[txF];omega
 |succ f ih=>
  intro g n hf hg
  cases g with
  |zero=>
   obtain rfl:n=0:=by omega
   simp[txF];omega
  |succ g=>
   simp only[txF];by_cases h:n<B
   ·rw[if_pos h,if_pos h]
   ·have hl:n / B<n:=Nat.div_lt_self (by omega) hB;rw[if_neg h,if_neg h,ih g (n / B) (by omega) (by omega)]
theorem qcu {B n:Nat}(h:n<B):nd B n=1:=by
 unfold nd
 cases n with
 |zero=>rfl
 |succ n=>simp only[ndF];rw[if_pos h]
theorem qqr {B n:Nat}(hB:2<=B)(h:B<=n):nd B n=nd B (n / B)+1:=by
 have hl:n / B<n:=Nat.div_lt_self (by omega) hB;unfold nd
 cases n with
 |zero=>omega
 |succ n=>
  rw[ndF,if_neg (by omega),ndF_more B hB n ((n+1) / B) ((n+1) / B) (by omega) zjn]
theorem qhd {B n:Nat}(h:n<B):tx B n=[UInt8.ofNat (48+n)]:=by
 unfold tx
 cases n with
 |zero=>simp[txF]
 |succ n=>simp only[txF];rw[if_pos h,Nat.mod_eq_of_lt h]
theorem qqs {B n:Nat}(hB:2<=B)(h:B<=n):tx B n=tx B (n / B)++[UInt8.ofNat (48+n%B)]:=by
 have hl:n / B<n:=Nat.div_lt_self (by omega) hB;unfold tx
 cases n with
 |zero=>omega
 |succ n=>
  rw[txF,if_neg (by omega),txF_more B hB n ((n+1) / B) ((n+1) / B) (by omega) zjn]
theorem qmx (B n:Nat):1<=nd B n:=by
 unfold nd
 cases n with
 |zero=>exact Nat.le_refl _
 |succ n=>simp only[ndF];split<;>omega
theorem qeh {B:Nat}(hB:2<=B){P:Nat->Prop}(hs:∀n,n<B->P n)(hb:∀n,B<=n->P (n / B)->P n):∀n,P n:=by
 intro n
 induction n using Nat.strongRecOn with
 |_ n ih=>
  by_cases h:n<B
  ·exact hs n h
  ·exact hb n (by omega) (ih _ (Nat.div_lt_self (by omega) hB))
theorem qb0 {B:Nat}(hB:2<=B):∀n,(tx B n).length=nd B n:=
 qeh hB (fun n h=>by rw[qhd h,qcu h];rfl) (fun n h ih=>by rw[qqs hB h,qqr hB h,zlb,ih];rfl)
theorem Qgj {B:Nat}(hB:2<=B):∀n,1<=n->B^(nd B n-1)<=n:=by
 refine qeh hB (fun n h h1=>?_) (fun n h ih _=>?_)
 ·rw[qcu h];simpa using h1
 ·have h1:1<=n / B:=(Nat.le_div_iff_mul_le (by omega)).2 (by omega);have:=ih h1;rw[qqr hB h,Nat.add_sub_cancel];have hp:=qmx B (n / B);obtain⟨k,hk⟩:∃k,nd B (n / B)=k+1:=⟨nd B (n / B)-1,by omega⟩;rw[hk] at this |-;rw[Nat.add_sub_cancel] at this;rw[Nat.pow_succ];exact (Nat.le_div_iff_mul_le (by omega)).1 this
theorem Qgk {B:Nat}(hB:2<=B):∀n,n<B^nd B n:=by
 refine qeh hB (fun n h=>?_) (fun n h ih=>?_)
 ·rw[qcu h];simpa using h
 ·rw[qqr hB h,Nat.pow_succ];exact (Nat.div_lt_iff_lt_mul (by omega)).1 ih
theorem qfp {B:Nat}(hB:2<=B){n k:Nat}(h1:1<=k)(h:n<B^k):nd B n<=k:=by
 by_cases h0:n=0
 ·subst h0;rw[qcu (by omega)];exact h1
 ·have hp:=Qgj hB n (by omega);by_cases hk:nd B n<=k
  ·exact hk
  ·have:B^k<=B^(nd B n-1):=Nat.pow_le_pow_right (by omega) (by omega);omega
theorem qex {B n:Nat}(hB:2<=B)(hn:n<9223372036854775808):nd B n<=63:=by
 refine qfp hB (by omega) (Nat.lt_of_lt_of_le hn ?_)
 calc 9223372036854775808=2^63:=by decide+kernel
  _<=B^63:=Nat.pow_le_pow_left hB 63
theorem tx_at {B:Nat}(hB:2<=B):∀n k,k<nd B n->(tx B n)[k]?=some (UInt8.ofNat (48+n / B^(nd B n-1-k)%B)):=by
 refine qeh hB (fun n h k hk=>?_) (fun n h ih k hk=>?_)
 ·rw[qcu h] at hk |-;obtain rfl:k=0:=by omega
  rw[qhd h];simp[Nat.mod_eq_of_lt h]
 ·rw[qqr hB h] at hk |-;rw[qqs hB h,List.getElem?_append,qb0 hB];by_cases h1:k<nd B (n / B)
  ·rw[if_pos h1,ih k h1,Nat.div_div_eq_div_mul];congr 5
   obtain⟨j,hj⟩:∃j,nd B (n / B)=k+j+1:=⟨nd B (n / B)-1-k,by omega⟩;rw[hj,show k+j+1-1-k=j by omega,show k+j+1+1-1-k=j+1 by omega,Nat.pow_succ,Nat.mul_comm]
  ·obtain rfl:k=nd B (n / B):=by omega
   rw[if_neg h1,Nat.sub_self,Nat.add_sub_cancel,Nat.sub_self];simp
theorem Qgm {α:Type}{P:List α->Prop}(h0:P [])(hs:∀l c,P l->P (l++[c])):∀l,P l:=by
 have h:∀l:List α,P l.reverse:=fun l=>by
  induction l with
  |nil=>exact h0
  |cons c l ih=>rw[List.reverse_cons];exact hs _ _ ih
 intro l;have:=h l.reverse;rwa [List.reverse_reverse] at this
def isD (B:Nat)(c:UInt8):Bool:=decide (48<=c.toNat)&&decide (c.toNat<48+B)
def val (B:Nat)(l:List UInt8):Nat:=l.foldl (fun n c=>n * B+(c.toNat-48)) 0
theorem qkn (B:Nat)(l:List UInt8)(c:UInt8):val B (l++[c])=val B l * B+(c.toNat-48):=by simp[val]
theorem Qgn (B:Nat):val B []=0:=rfl
theorem qid {B:Nat}{c:UInt8}:isD B c=true↔48<=c.toNat/\c.toNat<48+B:=by simp[isD]
theorem qie {B n:Nat}(hB:B<=10)(h:n<B):(UInt8.ofNat (48+n)).toNat=48+n:=by
 rw[UInt8.toNat_ofNat'];omega
theorem qqt {B:Nat}(hB:2<=B)(hB':B<=10):∀n,∀c∈tx B n,isD B c=true:=by
 refine qeh hB (fun n h c hc=>?_) (fun n h ih c hc=>?_)
 ·rw[qhd h,zlw] at hc;subst hc;rw[qid,qie hB' h];omega
 ·rw[qqs hB h,zlG,zlw] at hc;rcases hc with hc|rfl
  ·exact ih c hc
  ·have:=Nat.mod_lt n (show 0<B by omega);rw[qid,qie hB' this];omega
theorem val_tx {B:Nat}(hB:2<=B)(hB':B<=10):∀n,val B (tx B n)=n:=by
 refine qeh hB (fun n h=>?_) (fun n h ih=>?_)
 ·rw[qhd h,<-zlI [_],qkn,Qgn,qie hB' h];omega
 ·rw[qqs hB h,qkn,ih,qie hB' (Nat.mod_lt n (by omega))];have:=Nat.div_add_mod n B;rw[Nat.mul_comm] at this;omega
theorem val_lt {B:Nat}:∀l:List UInt8,(∀c∈l,isD B c=true)->val B l<B^l.length:=by
 refine Qgm (fun _=>by simp[val]) (fun l c ih h=>?_)
 ·have h1:=ih fun x hx=>h x (by simp[hx]);have hc:=qid.1 (h c (by simp));rw[qkn,zlb,List.length_singleton,Nat.pow_succ];have:(val B l+1) * B<=B^l.length * B:=Nat.mul_le_mul_right B h1;rw[Nat.add_mul] at this;omega
theorem qmy {α:Type}{p:α->Bool}:∀(l:List α)(i:Nat),(∀c∈l.take i,p c=true)->(∀c,l[i]?=some c->p c=false)->l.takeWhile p=l.take i/\l.dropWhile p=l.drop i:=by
 intro l
 induction l with
 |nil=>intro i _ _;simp
 |cons x l ih=>
  intro i h1 h2
  cases i with
  |zero=>
   have:=h2 x (by simp);simp[this]
  |succ i=>
   have hx:=h1 x (by simp);have:=ih i (fun c hc=>h1 c (by simp[hc])) (fun c hc=>h2 c (by simpa using hc));simp[hx,this]
def qcv (B:Nat)(l:List UInt8):Option Nat:=
 if ((l.dropWhile (isD B)).all (·==32)&&(l.takeWhile (isD B)).length==nd B (val B (l.takeWhile (isD B))))=true then some (val B (l.takeWhile (isD B))) else none
theorem qqu {B:Nat}:isD B 32=false:=by
 simp[isD]
theorem tx_val {B:Nat}(hB:2<=B)(hB':B<=10):∀l:List UInt8,(∀c∈l,isD B c=true)->l.length=nd B (val B l)->tx B (val B l)=l:=by
 refine Qgm (fun _ h=>?_) (fun l c ih hd hl=>?_)
 ·have:=qmx B (val B []);simp at h;omega
 ·have hc:=qid.1 (hd c (by simp));have hdl:∀c∈l,isD B c=true:=fun x hx=>hd x (by simp[hx]);rw[qkn] at hl |-;rw[zlb,List.length_singleton] at hl
  have hq:(val B l * B+(c.toNat-48)) / B=val B l:=by
   rw[Nat.mul_comm,Nat.mul_add_div (by omega),Nat.div_eq_of_lt (by omega)];omega
  have hm:(val B l * B+(c.toNat-48))%B=c.toNat-48:=by
   rw[Nat.mul_comm,Nat.mul_add_mod,Nat.mod_eq_of_lt (by omega)]
  have hcc:UInt8.ofNat (48+(c.toNat-48))=c:=by
   rw[show 48+(c.toNat-48)=c.toNat by omega];simp
  by_cases h:val B l * B+(c.toNat-48)<B
  ·rw[qcu h] at hl;obtain rfl:l=[]:=zli (by omega);rw[qhd h,Qgn,Nat.zero_mul,Nat.zero_add,hcc];rfl
  ·rw[qqr hB (by omega),hq] at hl;rw[qqs hB (by omega),hq,hm,hcc,ih hdl (by omega)]
theorem qj1 {B:Nat}(hB:2<=B)(hB':B<=10){l:List UInt8}{n:Nat}(h:qcv B l=some n):
 nd B n<=l.length/\l=tx B n++List.replicate (l.length-nd B n) 32:=by
 unfold qcv at h;split at h
 ·rename_i hc
  rw[zlx,List.all_eq_true,beq_iff_eq] at hc;obtain⟨h1,h2⟩:=hc;injection h with h
  have hd:∀c∈l.takeWhile (isD B),isD B c=true:=fun c hc=>by
   have:=List.all_takeWhile (p:=isD B) (l:=l);exact List.all_eq_true.1 this c hc
  have ht:=tx_val hB hB' _ hd h2;rw[h] at ht h2;have hsplit:l.takeWhile (isD B)++l.dropWhile (isD B)=l:=List.takeWhile_append_dropWhile;have hlen:=congrArg List.length hsplit;rw[zlb,h2] at hlen;refine⟨by omega,?_⟩;rw[ht];refine hsplit.symm.trans ?_;congr 1
  refine List.eq_replicate_iff.2 ⟨by omega,fun b hb=>by simpa using h1 b hb⟩
 ·cases h
theorem qtw {B:Nat}(hB:2<=B)(hB':B<=10)(n k:Nat):qcv B (tx B n++List.replicate k 32)=some n:=by
 have h:=qmy (p:=isD B) (tx B n++List.replicate k 32) (tx B n).length
  (fun c hc=>qqt hB hB' n c (by simpa using hc))
  (fun c hc=>by
   rw[zlC zjn,Nat.sub_self] at hc;have:=List.mem_of_getElem? hc;rw[List.mem_replicate] at this;rw[this.2];exact qqu)
 rw[List.take_left',List.drop_left'] at h<;>try rfl
 unfold qcv;rw[h.1,h.2,val_tx hB hB',qb0 hB];simp
theorem Qgp {B:Nat}(hB:2<=B)(hB':B<=10){l:List UInt8}{n:Nat}:
 qcv B l=some n↔nd B n<=l.length/\l=tx B n++List.replicate (l.length-nd B n) 32:=
 ⟨qj1 hB hB',fun h=>by rw[h.2];exact qtw hB hB' _ _⟩
def field (B n w:Nat):List UInt8:=tx B n++List.replicate (w-nd B n) 32
theorem qmz {B n w:Nat}(hB:2<=B)(h:nd B n<=w):(field B n w).length=w:=by
 rw[field,zlb,qb0 hB,List.length_replicate];omega
theorem qqv {B:Nat}(hB:2<=B)(hB':B<=10)(n w:Nat):qcv B (field B n w)=some n:=qtw hB hB' _ _
theorem Qgq {B:Nat}(hB':B<=10){l:List UInt8}(h:∀c∈l,isD B c=true)(hl:l.length<=18):val B l<1000000000000000000:=by
 refine Nat.lt_of_lt_of_le (val_lt l h) (Nat.le_trans (Nat.pow_le_pow_left hB' _) (Nat.le_trans (Nat.pow_le_pow_right (by omega) hl) (by decide+kernel)))
theorem qnm {B:Nat}{l:List UInt8}{k:Nat}(h1:∀c∈l.take k,isD B c=true)(h2:∀c,l[k]?=some c->isD B c=false)(hk:k<=l.length):
 qcv B l=if ((l.drop k).all (·==32))=true/\k=nd B (val B (l.take k)) then some (val B (l.take k)) else none:=by
 obtain⟨e1,e2⟩:=qmy l k h1 h2;unfold qcv;rw[e1,e2,zlu,Nat.min_eq_left hk];simp only[zlx,beq_iff_eq]
theorem Qgr {B:Nat}{l:List UInt8}{k:Nat}(h1:∀c∈l.take k,isD B c=true)(h2:∀c,l[k]?=some c->isD B c=false)(hk:k<=l.length)(h3:(l.drop k).all (·==32)=false):qcv B l=none:=by
 rw[qnm h1 h2 hk,if_neg (by rw[h3];simp)]
open JB
def vb (b:Int):Bool:=b==8||b==10
theorem qdw {b:Int}:vb b=true↔b=8∨b=10:=by simp[vb]
theorem qbj (b:Int)(w:World):Calls prog 189 #[.int .i64 b] w fun e w'=>e=.returned (.bool (vb b))/\w=w':=by
 by_cases h:b=8
 ·subst h;go_enter func189,ntmps189;go_wp2
  go_ret
  exact⟨rfl,rfl⟩
 ·have h8:(b==8)=false:=by simpa using h
  have hv:Hid (vb b=(b==10)):=by unfold Hid vb;rw[h8];rfl
  go_enter func189,ntmps189;go_wp2
  go_ret
  exact⟨qa1 hv.out.symm,rfl⟩
theorem qd6 (b:Int)(w:World):Calls prog 213 #[.int .i64 b] w fun e w'=>e=.returned (.bool (vb b))/\w=w':=by
 by_cases h:b=8
 ·subst h;go_enter func213,ntmps213;go_wp2
  go_ret
  exact⟨rfl,rfl⟩
 ·have h8:(b==8)=false:=by simpa using h
  have hv:Hid (vb b=(b==10)):=by unfold Hid vb;rw[h8];rfl
  go_enter func213,ntmps213;go_wp2
  go_ret
  exact⟨qa1 hv.out.symm,rfl⟩
def vw (n:Int):Bool:=decide (1<=n)&&decide (n<=18)
theorem qdx {b:Int}:vw b=true↔1<=b/\b<=18:=by simp[vw]
theorem qd7 (b:Int)(w:World):Calls prog 190 #[.int .i64 b] w fun e w'=>e=.returned (.bool (vw b))/\w=w':=by
 by_cases h:1<=b
 ·have hv:Hid (vw b=decide (b<=18)):=by unfold Hid vw;simp[h]
  go_enter func190,ntmps190;go_wp2
  go_ret
  exact⟨qa1 hv.out.symm,rfl⟩
 ·have hv:Hid (vw b=false):=by unfold Hid vw;simp[h]
  go_enter func190,ntmps190;go_wp2
  go_ret
  exact⟨qa1 hv.out.symm,rfl⟩
theorem qhe (c:UInt8)(b:Nat)(hb:b=8∨b=10)(w:World):Calls prog 191 #[.int .u8 (c.toNat:Int),.int .i64 (b:Int)] w fun e w'=>e=.returned (.bool (isD b c))/\w=w':=by
 have hc:c.toNat<256:=c.toNat_lt;have hb1:b<=10:=by omega
 have hb2:8<=b:=by omega
 clear hb;by_cases h:48<=c.toNat
 ·have hv:Hid (isD b c=decide ((c.toNat:Int)<48+(b:Int))):=by
   unfold Hid isD;rw[Bool.eq_iff_iff];simp;omega
  go_enter func191,ntmps191;go_wp2
  go_ret
  exact⟨qa1 hv.out.symm,rfl⟩
 ·have hv:Hid (isD b c=false):=by unfold Hid isD;simp[h]
  go_enter func191,ntmps191;go_wp2
  go_ret
  exact⟨qa1 hv.out.symm,rfl⟩
def dgs (n b:Int):Int:=if 0<=n/\vb b=true then (nd b.toNat n.toNat:Int) else 0
theorem qyj (n b:Int)(h:¬(0<=n/\vb b=true))(w:World):Calls prog 192 #[.int .i64 n,.int .i64 b] w fun e w'=>e=.returned (.int .i64 0)/\w=w':=by
 by_cases h0:n<0
 ·clear h;go_enter func192,ntmps192;go_wp2_with (go_at_call 189;refine (qbj _ _).mono ?_;rintro e w' ⟨rfl,rfl⟩)
  go_ret
  exact⟨rfl,rfl⟩
 ·have hv:vb b=false:=by
   cases hh:vb b
   ·rfl
   ·exact absurd ⟨by omega,hh⟩ h
  clear h;go_enter func192,ntmps192;go_wp2_with (go_at_call 189;refine (qbj _ _).mono ?_;rintro e w' ⟨rfl,rfl⟩)
  go_ret
  exact⟨rfl,rfl⟩
def qyk (B n:Nat)(c r:Value):Prop:=∃k q:Nat,c=.int .i64 (k:Int)/\r=.int .i64 (q:Int)/\q<=n/\k<=64/\((q=0/\k=nd B n)∨(0<q/\k+nd B q=nd B n))
theorem qyk.start {B n:Nat}(hB:2<=B):qyk B n (.int .i64 1) (.int .i64 ((n / B:Nat):Int)):=by
 refine⟨1,n / B,rfl,rfl,Nat.div_le_self _ _,by omega,?_⟩;by_cases h:n<B
 ·exact .inl ⟨Nat.div_eq_of_lt h,(qcu h).symm⟩
 ·have:=qqr hB (n:=n) (by omega);exact .inr ⟨(Nat.le_div_iff_mul_le (by omega)).2 (by omega),by omega⟩
theorem qyk.next {B n k q:Nat}(hB:2<=B)(hn:n<9223372036854775808)(hq:q<=n)(h:k+nd B q=nd B n):
 qyk B n (.int .i64 ((k:Int)+1)) (.int .i64 ((q / B:Nat):Int)):=by
 have h64:=qex hB hn;have hp:=qmx B q;refine⟨k+1,q / B,by simp,rfl,Nat.le_trans (Nat.div_le_self _ _) hq,by omega,?_⟩;by_cases hs:q<B
 ·rw[qcu hs] at h;exact .inl ⟨Nat.div_eq_of_lt hs,h⟩
 ·refine .inr ⟨(Nat.le_div_iff_mul_le (by omega)).2 (by omega),?_⟩;rw[qqr hB (by omega)] at h;omega
theorem quo_bd (q b:Nat):0<=(q:Int) / (b:Int)/\(q:Int) / (b:Int)<=q:=
 ⟨Int.ediv_nonneg (by omega) (by omega),Int.ediv_le_self _ (by omega)⟩
theorem qe3 (n b:Nat)(hb:vb (b:Int)=true)(hn:n<9223372036854775808)(w:World):
 Calls prog 192 #[.int .i64 (n:Int),.int .i64 (b:Int)] w fun e w'=>e=.returned (.int .i64 (nd b n:Int))/\w=w':=by
 have hb2:8<=b:=by have:=qdw.1 hb;omega
 have hq0:=quo_bd n b;obtain⟨hq1,hq2⟩:=hq0;go_enter func192,ntmps192;go_wp2_with (go_at_call 189;refine (qbj _ _).mono ?_;rintro e w' ⟨rfl,rfl⟩)
 go_loop [5,6] (fun c r=>qyk b n c r) (fun _ r=>(intOf r).toNat)
 case atStart=>exact qyk.start (by omega)
 case round=>
  clear hq1 hq2;obtain⟨k,q,rfl,rfl,hq,hk,hrel⟩:=hrel;obtain⟨hq1,hq2⟩:=quo_bd q b;by_cases h0:0<q
  ·have hx:=qyk.next (B:=b) (by omega) hn hq (by omega:k+nd b q=nd b n)
   have hm:Hid (q / b<q):=Nat.div_lt_self h0 (by omega);clear hrel;go_wp2
   go_round
   case rel=>exact hx
   case measure=>have:=hm.out;simp[intOf];omega
  ·have hx:nd b n=k:=by omega
   go_wp2
   go_ret
   exact⟨qyi (by omega),rfl⟩
def qdg (xs:List UInt8):Bool:=xs.all (·==32)
theorem qdt (K:Nat)(A:Option Addr)(n c:Nat)(xs:List UInt8)(w:World)(h:Rd w K A n xs)(hn:n<=140737488355328):
 Calls prog 144 #[.slice A n c] w fun e w'=>e=.returned (.bool (qdg xs))/\w=w':=by
 go_enter func144,ntmps144;go_wp2
 go_loop [7] (fun i=>∃k:Nat,i=.int .i64 (k:Int)/\k<=n/\qdg (xs.take k)=true) (fun i=>n-(intOf i).toNat)
 case atStart=>exact⟨0,rfl,by omega,by simp[qdg]⟩
 case round=>
  obtain⟨k,rfl,hk,hs⟩:=hrel;have Hs:=hid hs;clear hs;by_cases hlt:k<n
  ·obtain⟨b,o,rfl,hbK,hcell⟩:=h.2 k (by have:=h.1;omega);have hkl:k<xs.length:=by have:=h.1;omega
   have hx:Hid (xs.take (k+1)=xs.take k++[xs[k]]):=hid (by simp)
   have hall:Hid (xs[k].toNat≠32->qdg xs=false):=by
    intro hne;unfold qdg;rw[List.all_eq_false];exact⟨xs[k],zlq hkl,by simpa [<-UInt8.toNat_inj] using hne⟩
   have hone:Hid (xs[k].toNat=32->qdg (xs.take (k+1))=true):=by
    intro he;have h2:=Hs.out;rw[hx.out];unfold qdg at h2 |-;rw[List.all_append,h2];simp[<-UInt8.toNat_inj,he]
   clear Hs hx;generalize xs[k]=u at *;by_cases hu:u.toNat=32
   ·have hu1:((u.toNat:Int) !=32)=false:=by rw[hu];rfl
    have hr:=hone.out hu;have Hr:=hid hr;clear hr hone hall;go_wp2
    go_round
    case rel=>exact⟨k+1,by go_num,by omega,Hr.out⟩
    case measure=>simp[intOf];omega
   ·have hu1:((u.toNat:Int) !=32)=true:=by simp;omega
    have hr:=hall.out hu;have Hr:=hid hr;clear hr hone hall;go_wp2
    go_ret
    exact⟨qa1 Hr.out.symm,rfl⟩
  ·obtain rfl:k=n:=by omega
   have hfull:Hid (qdg xs=true):=by
    have:=Hs.out;rwa [zlj (by have:=h.1;omega)] at this
   clear Hs;go_wp2
   go_ret
   exact⟨qa1 hfull.out.symm,rfl⟩
theorem qe7 (f:Nat)(hf:f=12)(K K':Nat)(A A':Option Addr)(n c n' c':Nat)(xs ys:List UInt8)(w:World)(h:Rd w K A n xs)(h':Rd w K' A' n' ys)(hn:n<=140737488355328):
 Calls prog f #[.slice A n c,.slice A' n' c'] w fun e w'=>e=.returned (.bool (xs==ys))/\∃m,w'=w.drewN m:=by
 subst hf;by_cases hl:n=n'
 ·subst hl;have hne:((n:Int) !=(n:Int))=false:=by simp
  go_enter func12,ntmps12;go_wp2
  go_loopw [5] (fun i W=>∃k m:Nat,i=.int .i64 (k:Int)/\k<=n/\xs.take k=ys.take k/\W=w.drewN m) (fun i _=>n-(intOf i).toNat)
  case atStart=>exact⟨0,0,rfl,by omega,by simp,rfl⟩
  case round=>
   obtain⟨k,m,rfl,hk,hs,rfl⟩:=hrel;have Hs:=hid hs;clear hs;by_cases hlt:k<n
   ·obtain⟨b,o,rfl,hbK,hcell⟩:=h.2 k (by have:=h.1;omega);obtain⟨b',o',rfl,hbK',hcell'⟩:=h'.2 k (by have:=h'.1;omega);have hkl:k<xs.length:=by have:=h.1;omega
    have hkl':k<ys.length:=by have:=h'.1;omega
    have hne2:Hid (xs[k].toNat≠ys[k].toNat->(xs==ys)=false):=hid (by
     intro hne;rw[zls];rintro rfl;exact hne rfl)
    have hone:Hid (xs[k].toNat=ys[k].toNat->xs.take (k+1)=ys.take (k+1)):=hid (by
     intro he;rw[zlg hkl,zlg hkl',Hs.out,UInt8.toNat_inj.1 he])
    clear Hs hne;generalize xs[k]=u at *;generalize ys[k]=v at *;by_cases hu:u.toNat=v.toNat
    ·have hu1:((u.toNat:Int) !=(v.toNat:Int))=false:=by rw[hu];simp
     have Hr:=hid (hone.out hu);clear hone hne2;go_wp2
     go_region
     all_goals go_wp2
     all_goals go_roundw
     case rel=>exact⟨k+1,m+1,by go_num,by omega,Hr.out,rfl⟩
     case measure=>simp[intOf];omega
    ·have hu1:((u.toNat:Int) !=(v.toNat:Int))=true:=by simp;omega
     have Hr:=hid (hne2.out hu);clear hone hne2;go_wp2
     go_region
     all_goals go_wp2
     all_goals go_ret
     all_goals exact⟨qa1 Hr.out.symm,_,rfl⟩
   ·obtain rfl:k=n:=by omega
    have hfull:Hid ((xs==ys)=true):=hid (by
     have:=Hs.out;rw[qds h.1,qds h'.1] at this;simpa using this)
    clear Hs;go_wp2
    go_ret
    exact⟨qa1 hfull.out.symm,_,rfl⟩
 ·have hne:((n:Int) !=(n':Int))=true:=by simp;omega
  have hfull:Hid ((xs==ys)=false):=hid (by
   rw[zls];rintro rfl;exact hl (h.1.symm.trans h'.1))
  go_enter func12,ntmps12;go_wp2
  go_ret
  exact⟨qa1 hfull.out.symm,0,rfl⟩
theorem pow_step {b n d j:Nat}(hb:8<=b)(hd:d=nd b n)(hj:j+1<d):b^j * b<=n:=by
 have hn:1<=n:=by
  rcases Nat.eq_zero_or_pos n with h|h
  ·subst h;rw[qcu (by omega)] at hd;omega
  ·exact h
 have h:=Qgj (B:=b) (by omega) n hn;rw[<-Nat.pow_succ];exact Nat.le_trans (Nat.pow_le_pow_right (by omega) (by omega)) h
def Unit1 (b d:Nat)(u j:Value):Prop:=∃k:Nat,j=.int .i64 (k:Int)/\k+1<=d/\u=.int .i64 ((b^k:Nat):Int)
def Unit2 (w:World)(K b n m d:Nat)(l:List UInt8)(v u j:Value)(W:World):Prop:=
 ∃k q:Nat,j=.int .i64 (k:Int)/\k<=d/\u=.int .i64 (q:Int)/\q=(if k<d then b^(d-1-k) else 0)/\Own W K v (m+k) (l++(tx b n).take k)/\Below K w W
theorem digit_at {b n d k q:Nat}(hb:8<=b)(hb3:b<=10)(hd:d=nd b n)(hk:k<d)(hq:q=(if k<d then b^(d-1-k) else 0)):
 1<=q/\∃p r c:Nat,((n:Int) / (q:Int)=(p:Int)/\(p:Int)%(b:Int)=(r:Int)/\(q:Int) / (b:Int)=(c:Int))/\(r<10/\p<=n/\c<=n)/\(tx b n)[k]?=some (UInt8.ofNat (48+r))/\
  c=(if k+1<d then b^(d-1-(k+1)) else 0):=by
 rw[if_pos hk] at hq;have hpos:1<=q:=by rw[hq];exact Nat.pow_pos (by omega)
 refine⟨hpos,n / q,n / q%b,q / b,⟨by simp,by simp,by simp⟩,⟨?_,Nat.div_le_self _ _,?_⟩,?_,?_⟩
 ·have:=Nat.mod_lt (n / q) (show 0<b by omega);omega
 ·have hqn:q<=n+1:=by
   rcases Nat.eq_zero_or_pos n with h|h
   ·subst h;rw[qcu (by omega)] at hd;rw[hq,show d-1-k=0 by omega];simp
   ·have:=Qgj (B:=b) (by omega) n h;have h2:b^(d-1-k)<=b^(nd b n-1):=Nat.pow_le_pow_right (by omega) (by omega);omega
  have h8:q / b<=q / 8:=Nat.div_le_div_left hb (by omega);omega
 ·rw[tx_at (by omega) n k (by omega),hq,hd]
 ·by_cases h1:k+1<d
  ·rw[if_pos h1,hq];obtain⟨j,hj⟩:∃j,d-1-k=j+1:=⟨d-1-(k+1),by omega⟩;rw[hj,show d-1-(k+1)=j by omega,Nat.pow_succ,Nat.mul_div_cancel _ (by omega)]
  ·rw[if_neg h1,hq,show d-1-k=0 by omega,Nat.pow_zero];exact Nat.div_eq_of_lt (by omega)
theorem qn5 (K:Nat)(v:Value)(m n b:Nat)(l:List UInt8)(w:World)(hv:Own w K v m l)(hK:K<=w.heap.size)(hm:m<=1000)(hb:vb (b:Int)=true)(hn:n<9223372036854775808):
 Calls prog 229 #[v,.int .i64 (n:Int),.int .i64 (b:Int)] w fun e w'=>∃v',e=.returned v'/\Own w' K v' (m+nd b n) (l++tx b n)/\Below K w w':=by
 have hb2:8<=b:=by have:=qdw.1 hb;omega
 have hb3:b<=10:=by have:=qdw.1 hb;omega
 have hd1:=qmx b n;have hd2:=qex (B:=b) (by omega) hn;have hdig:=qe3 n b hb hn;have Hdig:=hid hdig;clear hdig;obtain⟨d,hd⟩:∃d,d=nd b n:=⟨_,rfl⟩;rw[<-hd] at hd1 hd2 Hdig;have Hd:=hid hd;clear hd;go_enter func229,ntmps229;go_wp2_with fail
 refine (Hdig.out _).mono ?_;rintro e w' ⟨rfl,rfl⟩;go_wp2_with fail
 go_loop [8,14] (fun u j=>Unit1 b d u j) (fun _ j=>d-(intOf j).toNat)
 case atStart=>exact⟨0,rfl,by omega,rfl⟩
 case round=>
  obtain⟨k,rfl,hk,rfl⟩:=hrel;by_cases hlt:k+1<d
  ·have h1:=pow_step (n:=n) hb2 Hd.out hlt;have h2:((b^k:Nat):Int) * (b:Int)=((b^k * b:Nat):Int):=by simp
   have h3:Hid (b^(k+1)=b^k * b):=Nat.pow_succ ..
   generalize b^k * b=p at *;generalize b^k=q at *;go_wp2
   go_round
   case rel=>exact⟨k+1,by go_num,by omega,by rw[h3.out]⟩
   case measure=>simp[intOf];omega
  ·obtain rfl:d=k+1:=by omega
   go_wp2
   go_loopw [0,8,21] (fun v' u j W=>Unit2 w K b n m (k+1) l v' u j W) (fun _ _ j _=>(k+1)-(intOf j).toNat)
   case atStart=>exact⟨0,b^k,rfl,by omega,by simp,by simp,by simpa using hv,Below.refl _ _⟩
   case round=>
    obtain⟨j,q,rfl,hj,rfl,hq,hown,hbel⟩:=hrel;by_cases hlt:j<k+1
    ·have hKr:K<=wr.heap.size:=Nat.le_trans hK hbel.size;obtain⟨hq0,p,r,c,⟨e1,e2,e3⟩,⟨hr10,hpn,hcq⟩,ht,hc⟩:=digit_at (n:=n) hb2 hb3 Hd.out hlt hq;have Hc:=hid hc;have Ht:=hid ht;clear hq hc ht;have hu:(UInt8.ofNat (48+r)).toNat=48+r:=qie (B:=10) (by omega) hr10;have Hu:=hid hu;clear hu;go_wp2_with (at_builtin;refine qa4 wr K u0 (m+j) (l++(tx b n).take j) (UInt8.ofNat (48+r)) (48+(r:Int)) (by rw[Hu.out];simp) hown hKr (by omega) rfl (.tmp 23) (.tmp 31) rfl rfl rfl ?_;intro v1 w1 hown1 hb1)
     go_roundw
     case rel=>
      refine⟨j+1,c,by go_num,by omega,rfl,Hc.out,?_,hbel.trans hb1⟩;have hd:=Hd.out;rw[zln] at hown1;rw[List.take_add_one,Ht.out];exact hown1
     case measure=>simp[intOf];omega
    ·obtain rfl:j=k+1:=by omega
     have hd:=Hd.out;rw[hd,zlj (by rw[qb0 (by omega)];omega)] at hown;have Hown:=hid hown;clear hown hd hq;go_wp2
     go_ret
     exact⟨_,rfl,Hown.out,hbel⟩
def qws (n b w:Int):Int:=if vb b=true/\vw w=true then (if 0<=n/\(nd b.toNat n.toNat:Int)<=w then 0 else 9) else 13
def Qce (n b w:Int):List UInt8:=if qws n b w=0 then field b.toNat n.toNat w.toNat else []
theorem ferr_13 {n b w:Int}(h:¬(vb b=true/\vw w=true)):qws n b w=13/\Qce n b w=[]:=by
 have:qws n b w=13:=if_neg h;exact⟨this,by unfold Qce;rw[this];rfl⟩
theorem qqw {n b w:Int}(h:vb b=true/\vw w=true)(h2:¬(0<=n/\(nd b.toNat n.toNat:Int)<=w)):qws n b w=9/\Qce n b w=[]:=by
 have:qws n b w=9:=by unfold qws;rw[if_pos h,if_neg h2]
 exact⟨this,by unfold Qce;rw[this];rfl⟩
theorem Qgs {n b w:Int}(h:vb b=true/\vw w=true)(h2:0<=n/\(nd b.toNat n.toNat:Int)<=w):qws n b w=0/\Qce n b w=field b.toNat n.toNat w.toNat:=by
 have:qws n b w=0:=by unfold qws;rw[if_pos h,if_pos h2]
 exact⟨this,by unfold Qce;rw[this];rfl⟩
def qfq (n b wd:Int)(w:World)(e:Ending)(w':World):Prop:=
 ∃v,e=.returned (.tuple #[v,.int .i64 (qws n b wd)])/\Own w' w.heap.size v (Qce n b wd).length (Qce n b wd)/\Below w.heap.size w w'
theorem qfq.empty {n b wd:Int}{w:World}{k:Int}(h:qws n b wd=k/\Qce n b wd=[]):qfq n b wd w (.returned (.tuple #[.slice none 0 0,.int .i64 k])) w:=by
 refine⟨_,by rw[h.1],?_,Below.refl _ _⟩;rw[h.2];exact Own.nil _ _
theorem format_9 (n b wd:Int)(w:World)(hn:n<9223372036854775808)(h:vb b=true/\vw wd=true)(h2:¬(0<=n/\(nd b.toNat n.toNat:Int)<=wd)):
 Calls prog 212 #[.int .i64 n,.int .i64 b,.int .i64 wd] w (qfq n b wd w):=by
 have hf:=hid (qfq.empty (w:=w) (qqw (n:=n) h h2));obtain⟨hb,hw⟩:=h;obtain⟨b',rfl⟩:=zlA (a:=b) (by have:=qdw.1 hb;omega);by_cases h0:n<0
 ·clear h2;go_enter func212,ntmps212;go_wp2_with (first|(go_at_call 189;refine (qbj _ _).mono ?_;rintro e w' ⟨rfl,rfl⟩)|(go_at_call 190;refine (qd7 _ _).mono ?_;rintro e w' ⟨rfl,rfl⟩))
  go_ret2
  exact hf.out
 ·obtain⟨m,rfl⟩:=zlA (a:=n) (by omega);have hd:=hid (qe3 m b' hb (by omega))
  have hlt:wd<(nd b' m:Int):=by
   have h3:¬((nd b' m:Int)<=wd):=fun hh=>h2 ⟨by omega,by simpa using hh⟩;omega
  clear h2;go_enter func212,ntmps212;go_wp2_with (first|(go_at_call 189;refine (qbj _ _).mono ?_;rintro e w' ⟨rfl,rfl⟩)|(go_at_call 190;refine (qd7 _ _).mono ?_;rintro e w' ⟨rfl,rfl⟩)|(go_at_call 192;refine (hd.out _).mono ?_;rintro e w' ⟨rfl,rfl⟩))
  go_ret2
  exact hf.out
def lenOf:Value->Nat|.slice _ n _=>n|_=>0
theorem format_0 (n b wd:Nat)(w:World)(hn:n<9223372036854775808)(hb:vb (b:Int)=true)(hw:vw (wd:Int)=true)(h2:nd b n<=wd):
 Calls prog 212 #[.int .i64 (n:Int),.int .i64 (b:Int),.int .i64 (wd:Int)] w fun e w'=>
  ∃v,e=.returned (.tuple #[v,.int .i64 0])/\Own w' w.heap.size v wd (field b n wd)/\Below w.heap.size w w':=by
 have hd:=hid (qe3 n b hb (by omega));have hwd:wd<=18:=by have:=qdx.1 hw;omega
 have hle:(nd b n:Int)<=wd:=by omega
 have hb2:2<=b:=by have:=qdw.1 hb;omega
 go_enter func212,ntmps212;go_wp2_with (first|(go_at_call 189;refine (qbj _ _).mono ?_;rintro e w' ⟨rfl,rfl⟩)|(go_at_call 190;refine (qd7 _ _).mono ?_;rintro e w' ⟨rfl,rfl⟩)|(go_at_call 192;refine (hd.out _).mono ?_;rintro e w' ⟨rfl,rfl⟩)|(at_make;refine qbk _ wd (by omega) w.heap.size zjn rfl _ _ rfl _ _ rfl rfl ?_;intro v1 w1 hown1 hbel1)|(go_at_call 229;refine (qn5 w.heap.size _ 0 n b [] w1 hown1 hbel1.size (by omega) hb hn).mono ?_;rintro e w2 ⟨v2,rfl,hown2,hbel2⟩))
 have hbel3:=hbel1.trans hbel2;rw[Nat.zero_add,zlI] at hown2;clear hbel1 hbel2 hown1;go_loopw [8] (fun v W=>∃k:Nat,k<=wd-nd b n/\Own W w.heap.size v (nd b n+k) (tx b n++List.replicate k 32)/\Below w.heap.size w W) (fun v _=>wd-lenOf v)
 case atStart=>exact⟨0,by omega,by simpa using hown2,hbel3⟩
 case round=>
  clear hown2 hbel3;obtain⟨k,hk,hown,hbel⟩:=hrel;obtain⟨A,c,rfl,_,_⟩:=hown.reads;by_cases hlt:k<wd-nd b n
  ·go_wp2_with (at_builtin;refine qa4 wr w.heap.size _ _ _ 32 32 rfl hown hbel.size (by omega) rfl (.tmp 35) (.tmp 36) rfl rfl rfl ?_;intro v1 w1' hown1 hb1)
   obtain⟨A1,c1,rfl,_,_⟩:=hown1.reads;go_roundw
   case rel=>
    refine⟨k+1,by omega,?_,hbel.trans hb1⟩;rw[zln,<-List.replicate_succ'] at hown1;exact hown1
   case measure=>simp[lenOf];omega
  ·obtain rfl:k=wd-nd b n:=by omega
   have hfull:Hid (Own wr w.heap.size (.slice A (nd b n+(wd-nd b n)) c) wd (field b n wd)):=by
    have h1:nd b n+(wd-nd b n)=wd:=by omega
    unfold field;unfold Hid;rw[h1] at hown |-;exact hown
   clear hown;go_wp2
   go_ret2
   exact⟨_,rfl,hfull.out,hbel⟩
theorem qwt:∀n:Nat,n<10->(ByteArray.mk #[48,49,50,51,52,53,54,55,56,57]).extract n (n+1)=ByteArray.mk #[UInt8.ofNat (48+n)]:=by decide+kernel
theorem qf1 (a b:List UInt8):ByteArray.mk a.toArray++ByteArray.mk b.toArray=ByteArray.mk (a++b).toArray:=by
 apply ByteArray.ext;simp
theorem qhf (b:Nat)(hb:vb (b:Int)=true):∀n:Nat,n<9223372036854775808->∀w:World,
 Calls prog 18 #[.int .i64 (n:Int),.int .i64 (b:Int)] w fun e w'=>e=.returned (.string ⟨(tx b n).toArray⟩)/\∃m,w'=w.drewN m:=by
 have hb2:8<=b:=by have:=qdw.1 hb;omega
 have hb3:b<=10:=by have:=qdw.1 hb;omega
 refine qeh (B:=b) (by omega) (fun n hlt hn w=>?_) (fun n hge ih hn w=>?_)
 ·have hm:(n:Int)%(b:Int)=(n:Int):=Int.emod_eq_of_lt (by omega) (by omega);go_enter func18,ntmps18;go_wp2_with fail
  go_quiet (fail)
  go_wp2
  go_ret
  exact⟨qqq (by rw[qhd hlt];exact qwt n (by omega)),_,rfl⟩
 ·have hm:(n:Int)%(b:Int)=((n%b:Nat):Int):=by simp
  have hq:(n:Int) / (b:Int)=((n / b:Nat):Int):=by simp
  have hr:n%b<10:=by have:=Nat.mod_lt n (show 0<b by omega);omega
  have hql:n / b<=n:=Nat.div_le_self _ _;have Hd:=hid (qwt _ hr);have Ht:=hid (qqs (B:=b) (by omega) hge);have Ih:=hid (ih (by omega));have hlen:(tx b (n / b)).length<=63:=by rw[qb0 (by omega)];exact qex (by omega) (by omega)
  clear ih;generalize n%b=r at *;generalize n / b=q at *;go_enter func18,ntmps18;go_wp2_with fail
  go_quiet (fail)
  go_wp2_with fail
  refine (Ih.out _).mono ?_;rintro e w' ⟨rfl,m,rfl⟩;go_wp2
  go_ret
  exact⟨qqq (by rw[Hd.out,Ht.out];exact qf1 _ [_]),_,rfl⟩
theorem Qcf (n b wd:Int)(w:World)(h:¬(vb b=true/\vw wd=true)):
 Calls prog 176 #[.int .i64 n,.int .i64 b,.int .i64 wd] w (qfq n b wd w):=by
 have hf:=hid (qfq.empty (w:=w) (ferr_13 (n:=n) h));cases hb:vb b
 ·clear h;go_enter func176,ntmps176;go_wp2_with (go_at_call 213;refine (qd6 _ _).mono ?_;rintro e w' ⟨rfl,rfl⟩)
  go_ret2
  exact hf.out
 ·have hw:¬(1<=wd/\wd<=18):=fun hh=>h ⟨hb,qdx.2 hh⟩;clear h;by_cases h1:wd<1
  ·clear hw;go_enter func176,ntmps176;go_wp2_with (go_at_call 213;refine (qd6 _ _).mono ?_;rintro e w' ⟨rfl,rfl⟩)
   go_ret2
   exact hf.out
  ·have h2:18<wd:=by omega
   clear hw;go_enter func176,ntmps176;go_wp2_with (go_at_call 213;refine (qd6 _ _).mono ?_;rintro e w' ⟨rfl,rfl⟩)
   go_ret2
   exact hf.out
theorem qa0 {K:Nat}(w:World)(m:Nat):Below K w (w.drewN m):=⟨rfl,rfl,rfl,Nat.le_refl _,fun _ _=>rfl⟩
theorem qfq.drewN {n b wd:Int}{w:World}{k:Int}(m:Nat)(h:qws n b wd=k/\Qce n b wd=[]):qfq n b wd w (.returned (.tuple #[.slice none 0 0,.int .i64 k])) (w.drewN m):=by
 refine⟨_,by rw[h.1],?_,qa0 _ _⟩;rw[h.2];exact Own.nil _ _
theorem Qgt (n b wd:Int)(w:World)(hn:n<9223372036854775808)(h:vb b=true/\vw wd=true)(h2:¬(0<=n/\(nd b.toNat n.toNat:Int)<=wd)):
 Calls prog 176 #[.int .i64 n,.int .i64 b,.int .i64 wd] w (qfq n b wd w):=by
 have hf:=hid fun m=>qfq.drewN (w:=w) m (qqw (n:=n) h h2);obtain⟨hb,hw⟩:=h;obtain⟨hw1,hw2⟩:=qdx.1 hw;obtain⟨b',rfl⟩:=zlA (a:=b) (by have:=qdw.1 hb;omega);clear hw;by_cases h0:n<0
 ·clear h2;go_enter func176,ntmps176;go_wp2_with (go_at_call 213;refine (qd6 _ _).mono ?_;rintro e w' ⟨rfl,rfl⟩)
  go_ret2
  exact hf.out 0
 ·obtain⟨m,rfl⟩:=zlA (a:=n) (by omega);have hd:=hid (qhf b' hb m (by omega))
  have hlt:wd<((tx b' m).length:Int):=by
   have h3:¬((nd b' m:Int)<=wd):=fun hh=>h2 ⟨by omega,by simpa using hh⟩;rw[qb0 (by have:=qdw.1 hb;omega)];omega
  clear h2 h0 hn;go_enter func176,ntmps176;go_wp2_with (first|(go_at_call 213;refine (qd6 _ _).mono ?_;rintro e w' ⟨rfl,rfl⟩)|(go_at_call 18;refine (hd.out _).mono ?_;rintro e w' ⟨rfl,k,rfl⟩))
  go_ret2
  exact hf.out k
theorem qkp (n b wd:Nat)(w:World)(hn:n<9223372036854775808)(hb:vb (b:Int)=true)(hw:vw (wd:Int)=true)(h2:nd b n<=wd):
 Calls prog 176 #[.int .i64 (n:Int),.int .i64 (b:Int),.int .i64 (wd:Int)] w fun e w'=>
  ∃v,e=.returned (.tuple #[v,.int .i64 0])/\Own w' w.heap.size v wd (field b n wd)/\Below w.heap.size w w':=by
 have hd:=hid (qhf b hb n (by omega));have hb2:2<=b:=by have:=qdw.1 hb;omega
 obtain⟨hw1,hw2⟩:=qdx.1 hw;have hlen:=qb0 hb2 n;have hle:((tx b n).length:Int)<=wd:=by omega
 have Hlen:=hid hlen;clear hlen hw;go_enter func176,ntmps176;go_wp2_with (first|(go_at_call 213;refine (qd6 _ _).mono ?_;rintro e w' ⟨rfl,rfl⟩)|(go_at_call 18;refine (hd.out _).mono ?_;rintro e w' ⟨rfl,k,rfl⟩)|(refine qg2 _ (tx b n) (by omega) w.heap.size (by simp) rfl _ rfl rfl ?_;intro v2 w2 hown2 hbel2))
 have hbel3:Below w.heap.size w w2:=(qa0 w _).trans hbel2;clear hbel2;go_loopw [8] (fun v W=>∃j:Nat,j<=wd-nd b n/\Own W w.heap.size v (nd b n+j) (tx b n++List.replicate j 32)/\Below w.heap.size w W) (fun v _=>wd-lenOf v)
 case atStart=>exact⟨0,by omega,by rw[Hlen.out] at hown2;simpa using hown2,hbel3⟩
 case round=>
  clear hown2 hbel3;obtain⟨j,hj,hown,hbel⟩:=hrel;obtain⟨A,c,rfl,_,_⟩:=hown.reads;by_cases hlt:j<wd-nd b n
  ·go_wp2_with (at_builtin;refine qa4 wr w.heap.size _ _ _ 32 32 rfl hown hbel.size (by omega) rfl (.tmp 38) (.tmp 39) rfl rfl rfl ?_;intro v1 w1' hown1 hb1)
   obtain⟨A1,c1,rfl,_,_⟩:=hown1.reads;go_roundw
   case rel=>
    refine⟨j+1,by omega,?_,hbel.trans hb1⟩;rw[zln,<-List.replicate_succ'] at hown1;exact hown1
   case measure=>simp[lenOf];omega
  ·obtain rfl:j=wd-nd b n:=by omega
   have hfull:Hid (Own wr w.heap.size (.slice A (nd b n+(wd-nd b n)) c) wd (field b n wd)):=by
    have h1:nd b n+(wd-nd b n)=wd:=by omega
    unfold field;unfold Hid;rw[h1] at hown |-;exact hown
   clear hown;go_wp2
   go_ret2
   exact⟨_,rfl,hfull.out,hbel⟩
theorem qe4 (n b wd:Int)(w:World)(hn:n<9223372036854775808):
 Calls prog 176 #[.int .i64 n,.int .i64 b,.int .i64 wd] w (qfq n b wd w):=by
 by_cases h:vb b=true/\vw wd=true
 ·by_cases h2:0<=n/\(nd b.toNat n.toNat:Int)<=wd
  ·obtain⟨b',rfl⟩:=zlA (a:=b) (by have:=qdw.1 h.1;omega);obtain⟨n',rfl⟩:=zlA h2.1;obtain⟨wd',rfl⟩:=zlA (a:=wd) (by have:=qdx.1 h.2;omega);have hle:nd b' n'<=wd':=by have:=h2.2;simp only[zlt] at this;omega
   refine (qkp n' b' wd' w (by omega) h.1 h.2 hle).mono fun e w' ⟨v,he,ho,hb⟩=>?_;have h0:=Qgs h h2;simp only[zlt] at h0;refine⟨v,by rw[h0.1];exact he,?_,hb⟩;rw[h0.2,qmz (by have:=qdw.1 h.1;omega) hle];exact ho
  ·exact Qgt n b wd w hn h h2
 ·exact Qcf n b wd w h
def qcz (l:List UInt8)(b:Int):Int:=if vb b=true/\vw (l.length:Int)=true then (if (qcv b.toNat l).isSome=true then 0 else 3) else 13
def qxt (l:List UInt8)(b:Int):Int:=if vb b=true/\vw (l.length:Int)=true then (((qcv b.toNat l).getD 0:Nat):Int) else 0
theorem Qgu {l:List UInt8}{b:Int}(h:¬(vb b=true/\vw (l.length:Int)=true)):qcz l b=13/\qxt l b=0:=⟨if_neg h,if_neg h⟩
theorem qwu {l:List UInt8}{b:Int}(h:vb b=true/\vw (l.length:Int)=true)(h2:qcv b.toNat l=none):qcz l b=3/\qxt l b=0:=by
 unfold qcz qxt;rw[if_pos h,if_pos h,h2];exact⟨rfl,rfl⟩
theorem qhr {l:List UInt8}{b:Int}(h:vb b=true/\vw (l.length:Int)=true){n:Nat}(h2:qcv b.toNat l=some n):qcz l b=0/\qxt l b=(n:Int):=by
 unfold qcz qxt;rw[if_pos h,if_pos h,h2];exact⟨rfl,rfl⟩
theorem qb8 {k:IntKind}{a b c d:Int}(h:a=c)(h2:b=d):Ending.returned (.tuple #[.int k a,.int k b])=.returned (.tuple #[.int k c,.int k d]):=by rw[h,h2]
theorem parse_13 (K:Nat)(A:Option Addr)(n c:Nat)(l:List UInt8)(b:Int)(w:World)(hr:Rd w K A n l)(h:¬(vb b=true/\vw (n:Int)=true)):
 Calls prog 145 #[.slice A n c,.int .i64 b] w fun e w'=>e=.returned (.tuple #[.int .i64 (qxt l b),.int .i64 (qcz l b)])/\w=w':=by
 have hf:=hid (Qgu (l:=l) (b:=b) (by rw[hr.1];exact h));cases hb:vb b
 ·clear h;go_enter func145,ntmps145;go_wp2
  go_step3
  go_wp2_with (go_at_call 189;refine (qbj _ _).mono ?_;rintro e w' ⟨rfl,rfl⟩)
  rw[Exit.noGoto_ret];go_ret2
  exact⟨qb8 hf.out.2.symm hf.out.1.symm,rfl⟩
 ·have hw:vw (n:Int)=false:=by
   cases hh:vw (n:Int)
   ·rfl
   ·exact absurd ⟨hb,hh⟩ h
  clear h;go_enter func145,ntmps145;go_wp2
  go_step3
  go_wp2_with (first|(go_at_call 189;refine (qbj _ _).mono ?_;rintro e w' ⟨rfl,rfl⟩)|(go_at_call 190;refine (qd7 _ _).mono ?_;rintro e w' ⟨rfl,rfl⟩))
  rw[Exit.noGoto_ret];go_ret2
  exact⟨qb8 hf.out.2.symm hf.out.1.symm,rfl⟩
def PRel (b n:Nat)(l:List UInt8)(v c i:Value):Prop:=
 ∃k x:Nat,v=.int .i64 (x:Int)/\c=.int .i64 (k:Int)/\i=.int .i64 (k:Int)/\k<=n/\x<1000000000000000000/\Hid (x=val b (l.take k)/\∀u∈l.take k,isD b u=true)
theorem PRel.step {b n:Nat}{l:List UInt8}{k x:Nat}(hb3:b<=10)(hl:l.length=n)(hn:n<=18)(hk:k<n)(h:x=val b (l.take k)/\∀u∈l.take k,isD b u=true)(hd:isD b (l[k]'(by omega))=true):
 x * b+((l[k]'(by omega)).toNat-48)<1000000000000000000/\(x * b+((l[k]'(by omega)).toNat-48)=val b (l.take (k+1))/\∀u∈l.take (k+1),isD b u=true):=by
 have ht:l.take (k+1)=l.take k++[l[k]'(by omega)]:=zlg (by omega)
 have h2:∀u∈l.take (k+1),isD b u=true:=by
  rw[ht];intro u hu;rw[zlG,zlw] at hu;rcases hu with hu|rfl
  ·exact h.2 u hu
  ·exact hd
 have hv:x * b+((l[k]'(by omega)).toNat-48)=val b (l.take (k+1)):=by rw[ht,qkn,h.1]
 refine⟨?_,hv,h2⟩;rw[hv];exact Qgq hb3 h2 (by rw[zlu];omega)
theorem parse_ok (K:Nat)(A:Option Addr)(n c:Nat)(l:List UInt8)(b:Nat)(w:World)(hr:Rd w K A n l)(hc:n<=c)(hb:vb (b:Int)=true)(hw:vw (n:Int)=true):
 Calls prog 145 #[.slice A n c,.int .i64 (b:Int)] w fun e w'=>e=.returned (.tuple #[.int .i64 (qxt l b),.int .i64 (qcz l b)])/\w=w':=by
 have hf0:=hid fun m=>qhr (l:=l) (b:=b) ⟨hb,by rw[hr.1];exact hw⟩ (n:=m);have hf3:=hid (qwu (l:=l) (b:=b) ⟨hb,by rw[hr.1];exact hw⟩);obtain⟨hw1,hw2⟩:=qdx.1 hw;have hb8:b=8∨b=10:=by have:=qdw.1 hb;omega
 have hb2:8<=b:=by omega
 have hb3:b<=10:=by omega
 have Hb8:=hid hb8;clear hb8;go_enter func145,ntmps145;go_wp2
 go_step3
 go_wp2_with (first|(go_at_call 189;refine (qbj _ _).mono ?_;rintro e w' ⟨rfl,rfl⟩)|(go_at_call 190;refine (qd7 _ _).mono ?_;rintro e w' ⟨rfl,rfl⟩))
 go_step3
 go_wp2
 go_loop [6,7,21] (fun v c i=>PRel b n l v c i) (fun _ _ i=>n-(intOf i).toNat)
 case atStart=>exact⟨0,0,rfl,rfl,rfl,by omega,by omega,hid ⟨rfl,by simp⟩⟩
 case round=>
  obtain⟨k,x,rfl,rfl,rfl,hk,hx,hv⟩:=hrel;by_cases hlt:k<n
  ·have hkl:k<l.length:=by have:=hr.1;omega
   obtain⟨b0,o,rfl,hbK,hcell⟩:=hr.2 k hkl;have hst:=hid (PRel.step (x:=x) hb3 hr.1 (by omega) hlt hv.out);have hbad:=hid fun h1 h2=>Qgr (B:=b) (l:=l) (k:=k) hv.out.2 h1 (by omega) h2;have hat:=hid fun h1=>qnm (B:=b) (l:=l) (k:=k) hv.out.2 h1 (by omega)
   have hnext:Hid (isD b l[k]=false->∀c,l[k]?=some c->isD b c=false):=hid (fun h c hc=>by
    rw[zlh hkl] at hc;injection hc with hc;rwa [<-hc])
   generalize l[k]=u at *;have hu:=u.toNat_lt;cases hd:isD b u
   ·have Hcut:=hid (qdt K _ (n-k) (c-k) (l.drop k) w (hr.cut k) (by omega));have hnx:=hnext.out hd;cases hs:qdg (l.drop k)
    ·have Hr:=hid (hf3.out (hbad.out hnx hs));clear hst hbad hat hnext hnx hf0 hf3;go_wp2_with (first|(go_at_call 191;refine (qhe _ _ Hb8.out _).mono ?_;rintro e w' ⟨rfl,rfl⟩)|(go_at_call 144;refine Hcut.out.mono ?_;rintro e w' ⟨rfl,rfl⟩))
     rw[Exit.noGoto_ret];go_ret2
     exact⟨qb8 Hr.out.2.symm Hr.out.1.symm,rfl⟩
    ·have Hdig:=hid (qe3 x b hb (by omega));have Hp:=hid (hat.out hnx);by_cases hcnt:k=nd b x
     ·have Hr:=hid (hf0.out x (by rw[zlt,Hp.out,if_pos ⟨hs,by rw[<-hv.out.1];exact hcnt⟩,<-hv.out.1]));have hne:((k:Int) !=(nd b x:Int))=false:=by rw[<-hcnt];simp
      clear hst hbad hat hnext hnx hf0 hf3 Hp hcnt;go_wp2_with (first|(go_at_call 191;refine (qhe _ _ Hb8.out _).mono ?_;rintro e w' ⟨rfl,rfl⟩)|(go_at_call 144;refine Hcut.out.mono ?_;rintro e w' ⟨rfl,rfl⟩)|(go_at_call 192;refine (Hdig.out _).mono ?_;rintro e w' ⟨rfl,rfl⟩))
      rw[Exit.noGoto_ret];go_ret2
      exact⟨qb8 Hr.out.2.symm Hr.out.1.symm,rfl⟩
     ·have Hr:=hid (hf3.out (by rw[zlt,Hp.out,if_neg (by rintro ⟨_,h⟩;rw[<-hv.out.1] at h;exact hcnt h)]));have hne:((k:Int) !=(nd b x:Int))=true:=by simp;omega
      clear hst hbad hat hnext hnx hf0 hf3 Hp hcnt;go_wp2_with (first|(go_at_call 191;refine (qhe _ _ Hb8.out _).mono ?_;rintro e w' ⟨rfl,rfl⟩)|(go_at_call 144;refine Hcut.out.mono ?_;rintro e w' ⟨rfl,rfl⟩)|(go_at_call 192;refine (Hdig.out _).mono ?_;rintro e w' ⟨rfl,rfl⟩))
      rw[Exit.noGoto_ret];go_ret2
      exact⟨qb8 Hr.out.2.symm Hr.out.1.symm,rfl⟩
   ·obtain⟨h48,h58⟩:=qid.1 hd;obtain⟨hs1,hs2⟩:=hst.out hd;have hp:(x:Int) * (b:Int)=((x * b:Nat):Int):=by simp
    have Hs2:=hid hs2;clear hst hs2 hbad hat hnext;generalize x * b=p at *;go_wp2_with (go_at_call 191;refine (qhe _ _ Hb8.out _).mono ?_;rintro e w' ⟨rfl,rfl⟩)
    go_round
    case rel=>exact⟨k+1,_,by go_num,by go_num,by go_num,by omega,hs1,Hs2⟩
    case measure=>simp[intOf];omega
  ·obtain rfl:k=n:=by omega
   have Hdig:=hid (qe3 x b hb (by omega))
   have hend:∀c,l[k]?=some c->isD b c=false:=fun c hc=>by
    rw[List.getElem?_eq_none (by have:=hr.1;omega)] at hc;cases hc
   have Hp:=hid (qnm (B:=b) (l:=l) (k:=k) hv.out.2 hend (by have:=hr.1;omega));have hs:((l.drop k).all (·==32))=true:=by rw[zlD (by have:=hr.1;omega)];rfl
   clear hend;by_cases hcnt:k=nd b x
   ·have Hr:=hid (hf0.out x (by rw[zlt,Hp.out,if_pos ⟨hs,by rw[<-hv.out.1];exact hcnt⟩,<-hv.out.1]));have hne:((k:Int) !=(nd b x:Int))=false:=by rw[<-hcnt];simp
    clear hf0 hf3 Hp hcnt hs;go_wp2_with (go_at_call 192;refine (Hdig.out _).mono ?_;rintro e w' ⟨rfl,rfl⟩)
    rw[Exit.noGoto_ret];go_ret2
    exact⟨qb8 Hr.out.2.symm Hr.out.1.symm,rfl⟩
   ·have Hr:=hid (hf3.out (by rw[zlt,Hp.out,if_neg (by rintro ⟨_,h⟩;rw[<-hv.out.1] at h;exact hcnt h)]));have hne:((k:Int) !=(nd b x:Int))=true:=by simp;omega
    clear hf0 hf3 Hp hcnt hs;go_wp2_with (go_at_call 192;refine (Hdig.out _).mono ?_;rintro e w' ⟨rfl,rfl⟩)
    rw[Exit.noGoto_ret];go_ret2
    exact⟨qb8 Hr.out.2.symm Hr.out.1.symm,rfl⟩
theorem qfe (K:Nat)(A:Option Addr)(n c:Nat)(l:List UInt8)(b:Int)(w:World)(hr:Rd w K A n l)(hc:n<=c):
 Calls prog 145 #[.slice A n c,.int .i64 b] w fun e w'=>e=.returned (.tuple #[.int .i64 (qxt l b),.int .i64 (qcz l b)])/\w=w':=by
 by_cases h:vb b=true/\vw (n:Int)=true
 ·obtain⟨b',rfl⟩:=zlA (a:=b) (by have:=qdw.1 h.1;omega);exact parse_ok K A n c l b' w hr hc h.1 h.2
 ·exact parse_13 K A n c l b w hr h
def qcx (l:List UInt8)(b:Int)(w:World)(e:Ending)(w':World):Prop:=
 e=.returned (.tuple #[.int .i64 (qxt l b),.int .i64 (qcz l b)])/\Below w.heap.size w w'
theorem Qgv (K:Nat)(A:Option Addr)(n c:Nat)(l:List UInt8)(b:Int)(w:World)(hr:Rd w K A n l)(h:¬(vb b=true/\vw (n:Int)=true)):
 Calls prog 175 #[.slice A n c,.int .i64 b] w (qcx l b w):=by
 have hf:=hid (Qgu (l:=l) (b:=b) (by rw[hr.1];exact h));cases hb:vb b
 ·clear h;go_enter func175,ntmps175;go_wp2_with (go_at_call 213;refine (qd6 _ _).mono ?_;rintro e w' ⟨rfl,rfl⟩)
  go_ret2
  exact⟨qb8 hf.out.2.symm hf.out.1.symm,Below.refl _ _⟩
 ·have hw:¬(1<=(n:Int)/\(n:Int)<=18):=fun hh=>h ⟨hb,qdx.2 hh⟩;clear h;by_cases h1:(n:Int)<1
  ·clear hw;go_enter func175,ntmps175;go_wp2_with (go_at_call 213;refine (qd6 _ _).mono ?_;rintro e w' ⟨rfl,rfl⟩)
   go_ret2
   exact⟨qb8 hf.out.2.symm hf.out.1.symm,Below.refl _ _⟩
  ·have h2:18<(n:Int):=by omega
   clear hw;go_enter func175,ntmps175;go_wp2_with (go_at_call 213;refine (qd6 _ _).mono ?_;rintro e w' ⟨rfl,rfl⟩)
   go_ret2
   exact⟨qb8 hf.out.2.symm hf.out.1.symm,Below.refl _ _⟩
def QRel (b n:Nat)(l:List UInt8)(v i:Value):Prop:=
 ∃k x:Nat,v=.int .i64 (x:Int)/\i=.int .i64 (k:Int)/\k<=n/\x<1000000000000000000/\Hid (x=val b (l.take k)/\∀u∈l.take k,isD b u=true)
theorem qsa {b n k x:Nat}{l:List UInt8}(hb2:2<=b)(hb3:b<=10)(hl:l.length=n)(hk:k<=n)(hx:x=val b (l.take k))(h1:∀u∈l.take k,isD b u=true)(h2:∀c,l[k]?=some c->isD b c=false):
 (k=0->qcv b l=none)/\(n<nd b x->qcv b l=none)/\(nd b x<=n->(field b x n==l)=true->qcv b l=some x)/\(nd b x<=n->(field b x n==l)=false->qcv b l=none):=by
 have hp:=qnm h1 h2 (by omega);rw[<-hx] at hp;refine⟨fun h=>?_,fun h=>?_,fun h h3=>?_,fun h h3=>?_⟩
 ·rw[hp,if_neg];rintro ⟨_,h4⟩;have:=qmx b x;omega
 ·rw[hp,if_neg];rintro ⟨_,h4⟩;omega
 ·rw[beq_iff_eq] at h3;rw[<-h3];exact qqv hb2 hb3 _ _
 ·rw[hp,if_neg];intro h4;rw[if_pos h4] at hp;have:=(qj1 hb2 hb3 hp).2;rw[hl] at this;rw[zls] at h3;exact h3 this.symm
theorem Qgw (K:Nat)(A:Option Addr)(n c:Nat)(l:List UInt8)(b:Nat)(w:World)(hr:Rd w K A n l)(hK:K<=w.heap.size)(hb:vb (b:Int)=true)(hw:vw (n:Int)=true):
 Calls prog 175 #[.slice A n c,.int .i64 (b:Int)] w (qcx l b w):=by
 have hf0:=hid fun m=>qhr (l:=l) (b:=b) ⟨hb,by rw[hr.1];exact hw⟩ (n:=m);have hf3:=hid (qwu (l:=l) (b:=b) ⟨hb,by rw[hr.1];exact hw⟩);obtain⟨hw1,hw2⟩:=qdx.1 hw;have hb8:b=8∨b=10:=by have:=qdw.1 hb;omega
 have hb2:8<=b:=by omega
 have hb3:b<=10:=by omega
 clear hb8;go_enter func175,ntmps175;go_wp2_with (go_at_call 213;refine (qd6 _ _).mono ?_;rintro e w' ⟨rfl,rfl⟩)
 go_loop [6,7] (fun v i=>QRel b n l v i) (fun _ i=>n-(intOf i).toNat)
 case atStart=>exact⟨0,0,rfl,rfl,by omega,by omega,hid ⟨rfl,by simp⟩⟩
 case round=>
  obtain⟨k,x,rfl,rfl,hk,hx,hv⟩:=hrel;by_cases hlt:k<n
  ·have hkl:k<l.length:=by have:=hr.1;omega
   obtain⟨b0,o,rfl,hbK,hcell⟩:=hr.2 k hkl;have hst:=hid (PRel.step (x:=x) hb3 hr.1 (by omega) hlt hv.out);have hend:=hid fun h2=>qsa (b:=b) (n:=n) (k:=k) (x:=x) (l:=l) (by omega) hb3 hr.1 hk hv.out.1 hv.out.2 h2
   have hnext:Hid (isD b l[k]=false->∀c,l[k]?=some c->isD b c=false):=hid (fun h c hc=>by
    rw[zlh hkl] at hc;injection hc with hc;rwa [<-hc])
   generalize l[k]=u at *;have hu:=u.toNat_lt;cases hd:isD b u
   ·have hE:=hid (hend.out (hnext.out hd));have hnd:¬(48<=u.toNat/\u.toNat<48+b):=fun h=>by rw[qid.2 h] at hd;cases hd
    clear hst hend hnext hd;by_cases hu48:u.toNat<48
    ·clear hnd;by_cases h0:k=0
     ·have hk0:((k:Int)==0)=true:=by simp;omega
      have Hr:=hid (hf3.out (by rw[zlt];exact hE.out.1 h0));have Hfm:=hid fun w'=>qe4 x b n w' (by omega);clear hE hf0 hf3 h0;go_wp2_with (go_at_call 176;refine (Hfm.out _).mono ?_;rintro e w1 ⟨v1,rfl,hown1,hbel1⟩)
      go_ret2
      exact⟨qb8 Hr.out.2.symm Hr.out.1.symm,hbel1⟩
     ·have hk0:((k:Int)==0)=false:=by simp;omega
      by_cases h9:n<nd b x
      ·have Hr:=hid (hf3.out (by rw[zlt];exact hE.out.2.1 h9));have hfe:qws (x:Int) (b:Int) (n:Int)=9:=(qqw ⟨hb,hw⟩ (by simp;omega)).1;have Hfm:=hid fun w'=>qe4 x b n w' (by omega);clear hE hf0 hf3 h9;go_wp2_with (go_at_call 176;refine (Hfm.out _).mono ?_;rintro e w1 ⟨v1,rfl,hown1,hbel1⟩)
       go_ret2
       exact⟨qb8 Hr.out.2.symm Hr.out.1.symm,hbel1⟩
      ·have Hfm:=hid fun w'=>qkp x b n w' (by omega) hb hw (by omega);cases hs:(field b x n==l)
       ·have Hr:=hid (hf3.out (by rw[zlt];exact hE.out.2.2.2 (by omega) hs));clear hE hf0 hf3 h9;go_wp2_with (first|(go_at_call 176;refine (Hfm.out _).mono ?_;rintro e w1 ⟨v1,rfl,hown1,hbel1⟩;obtain⟨A1,c1,rfl,hrd1,_,_⟩:=hown1.reads)|(go_at_call 12;refine (qe7 _ rfl w1.heap.size w.heap.size A1 _ n c1 n c (field b x n) l w1 hrd1 ((hr.more hK).below hbel1) (by omega)).mono ?_;rintro e w2 ⟨rfl,m,rfl⟩))
        go_ret2
        exact⟨qb8 Hr.out.2.symm Hr.out.1.symm,hbel1.trans (qa0 _ _)⟩
       ·have Hr:=hid (hf0.out x (by rw[zlt];exact hE.out.2.2.1 (by omega) hs));clear hE hf0 hf3 h9;go_wp2_with (first|(go_at_call 176;refine (Hfm.out _).mono ?_;rintro e w1 ⟨v1,rfl,hown1,hbel1⟩;obtain⟨A1,c1,rfl,hrd1,_,_⟩:=hown1.reads)|(go_at_call 12;refine (qe7 _ rfl w1.heap.size w.heap.size A1 _ n c1 n c (field b x n) l w1 hrd1 ((hr.more hK).below hbel1) (by omega)).mono ?_;rintro e w2 ⟨rfl,m,rfl⟩))
        go_ret2
        exact⟨qb8 Hr.out.2.symm Hr.out.1.symm,hbel1.trans (qa0 _ _)⟩
    ·have hu58:48+b<=u.toNat:=by omega
     clear hnd;by_cases h0:k=0
     ·have hk0:((k:Int)==0)=true:=by simp;omega
      have Hr:=hid (hf3.out (by rw[zlt];exact hE.out.1 h0));have Hfm:=hid fun w'=>qe4 x b n w' (by omega);clear hE hf0 hf3 h0;go_wp2_with (go_at_call 176;refine (Hfm.out _).mono ?_;rintro e w1 ⟨v1,rfl,hown1,hbel1⟩)
      go_ret2
      exact⟨qb8 Hr.out.2.symm Hr.out.1.symm,hbel1⟩
     ·have hk0:((k:Int)==0)=false:=by simp;omega
      by_cases h9:n<nd b x
      ·have Hr:=hid (hf3.out (by rw[zlt];exact hE.out.2.1 h9));have hfe:qws (x:Int) (b:Int) (n:Int)=9:=(qqw ⟨hb,hw⟩ (by simp;omega)).1;have Hfm:=hid fun w'=>qe4 x b n w' (by omega);clear hE hf0 hf3 h9;go_wp2_with (go_at_call 176;refine (Hfm.out _).mono ?_;rintro e w1 ⟨v1,rfl,hown1,hbel1⟩)
       go_ret2
       exact⟨qb8 Hr.out.2.symm Hr.out.1.symm,hbel1⟩
      ·have Hfm:=hid fun w'=>qkp x b n w' (by omega) hb hw (by omega);cases hs:(field b x n==l)
       ·have Hr:=hid (hf3.out (by rw[zlt];exact hE.out.2.2.2 (by omega) hs));clear hE hf0 hf3 h9;go_wp2_with (first|(go_at_call 176;refine (Hfm.out _).mono ?_;rintro e w1 ⟨v1,rfl,hown1,hbel1⟩;obtain⟨A1,c1,rfl,hrd1,_,_⟩:=hown1.reads)|(go_at_call 12;refine (qe7 _ rfl w1.heap.size w.heap.size A1 _ n c1 n c (field b x n) l w1 hrd1 ((hr.more hK).below hbel1) (by omega)).mono ?_;rintro e w2 ⟨rfl,m,rfl⟩))
        go_ret2
        exact⟨qb8 Hr.out.2.symm Hr.out.1.symm,hbel1.trans (qa0 _ _)⟩
       ·have Hr:=hid (hf0.out x (by rw[zlt];exact hE.out.2.2.1 (by omega) hs));clear hE hf0 hf3 h9;go_wp2_with (first|(go_at_call 176;refine (Hfm.out _).mono ?_;rintro e w1 ⟨v1,rfl,hown1,hbel1⟩;obtain⟨A1,c1,rfl,hrd1,_,_⟩:=hown1.reads)|(go_at_call 12;refine (qe7 _ rfl w1.heap.size w.heap.size A1 _ n c1 n c (field b x n) l w1 hrd1 ((hr.more hK).below hbel1) (by omega)).mono ?_;rintro e w2 ⟨rfl,m,rfl⟩))
        go_ret2
        exact⟨qb8 Hr.out.2.symm Hr.out.1.symm,hbel1.trans (qa0 _ _)⟩
   ·obtain⟨h48,h58⟩:=qid.1 hd;obtain⟨hs1,hs2⟩:=hst.out hd;have hp:(x:Int) * (b:Int)=((x * b:Nat):Int):=by simp
    have Hs2:=hid hs2;clear hst hs2 hend hnext;generalize x * b=p at *;go_wp2
    go_round
    case rel=>exact⟨k+1,_,by go_num,by go_num,by omega,hs1,Hs2⟩
    case measure=>simp[intOf];omega
  ·obtain rfl:k=n:=by omega
   have hE:=hid (qsa (b:=b) (n:=k) (k:=k) (x:=x) (l:=l) (by omega) hb3 hr.1 hk hv.out.1 hv.out.2 (fun c hc=>by
    rw[List.getElem?_eq_none (by have:=hr.1;omega)] at hc;cases hc))
   have hk0:((k:Int)==0)=false:=by simp;omega
   by_cases h9:k<nd b x
   ·have Hr:=hid (hf3.out (by rw[zlt];exact hE.out.2.1 h9));have hfe:qws (x:Int) (b:Int) (k:Int)=9:=(qqw ⟨hb,hw⟩ (by simp;omega)).1;have Hfm:=hid fun w'=>qe4 x b k w' (by omega);clear hE hf0 hf3 h9;go_wp2_with (go_at_call 176;refine (Hfm.out _).mono ?_;rintro e w1 ⟨v1,rfl,hown1,hbel1⟩)
    go_ret2
    exact⟨qb8 Hr.out.2.symm Hr.out.1.symm,hbel1⟩
   ·have Hfm:=hid fun w'=>qkp x b k w' (by omega) hb hw (by omega);cases hs:(field b x k==l)
    ·have Hr:=hid (hf3.out (by rw[zlt];exact hE.out.2.2.2 (by omega) hs));clear hE hf0 hf3 h9;go_wp2_with (first|(go_at_call 176;refine (Hfm.out _).mono ?_;rintro e w1 ⟨v1,rfl,hown1,hbel1⟩;obtain⟨A1,c1,rfl,hrd1,_,_⟩:=hown1.reads)|(go_at_call 12;refine (qe7 _ rfl w1.heap.size w.heap.size A1 _ k c1 k c (field b x k) l w1 hrd1 ((hr.more hK).below hbel1) (by omega)).mono ?_;rintro e w2 ⟨rfl,m,rfl⟩))
     go_ret2
     exact⟨qb8 Hr.out.2.symm Hr.out.1.symm,hbel1.trans (qa0 _ _)⟩
    ·have Hr:=hid (hf0.out x (by rw[zlt];exact hE.out.2.2.1 (by omega) hs));clear hE hf0 hf3 h9;go_wp2_with (first|(go_at_call 176;refine (Hfm.out _).mono ?_;rintro e w1 ⟨v1,rfl,hown1,hbel1⟩;obtain⟨A1,c1,rfl,hrd1,_,_⟩:=hown1.reads)|(go_at_call 12;refine (qe7 _ rfl w1.heap.size w.heap.size A1 _ k c1 k c (field b x k) l w1 hrd1 ((hr.more hK).below hbel1) (by omega)).mono ?_;rintro e w2 ⟨rfl,m,rfl⟩))
     go_ret2
     exact⟨qb8 Hr.out.2.symm Hr.out.1.symm,hbel1.trans (qa0 _ _)⟩
theorem qm2 (K:Nat)(A:Option Addr)(n c:Nat)(l:List UInt8)(b:Int)(w:World)(hr:Rd w K A n l)(hK:K<=w.heap.size):
 Calls prog 175 #[.slice A n c,.int .i64 b] w (qcx l b w):=by
 by_cases h:vb b=true/\vw (n:Int)=true
 ·obtain⟨b',rfl⟩:=zlA (a:=b) (by have:=qdw.1 h.1;omega);exact Qgw K A n c l b' w hr hK h.1 h.2
 ·exact Qgv K A n c l b w hr h
theorem qf2 (n b wd:Nat)(hn:n<9223372036854775808)(hb:vb (b:Int)=true)(hw:1<=wd/\wd<=18)(h2:nd b n<=wd)(w:World):
 Calls prog 212 #[.int .i64 (n:Int),.int .i64 (b:Int),.int .i64 (wd:Int)] w fun e w'=>
  ∃A c,e=.returned (.tuple #[.slice A wd c,.int .i64 0])/\Own w' w.heap.size (.slice A wd c) wd (field b n wd)/\Rd w' w'.heap.size A wd (field b n wd)/\wd<=c/\Below w.heap.size w w':=by
 refine (format_0 n b wd w hn hb (qdx.2 (by omega)) h2).mono fun e w' ⟨v,he,ho,hbl⟩=>?_;obtain⟨A,c,rfl,hr,hc,_⟩:=ho.reads;exact⟨A,c,he,ho,hr,hc,hbl⟩
theorem qdh (n b wd:Int)(hn:n<9223372036854775808)(hb:vb b=true)(hw:1<=wd/\wd<=18)(h2:¬(0<=n/\(nd b.toNat n.toNat:Int)<=wd))(w:World):
 Calls prog 212 #[.int .i64 n,.int .i64 b,.int .i64 wd] w fun e w'=>
  ∃A c,e=.returned (.tuple #[.slice A 0 c,.int .i64 9])/\Own w' w.heap.size (.slice A 0 c) 0 []/\Below w.heap.size w w':=by
 refine (format_9 n b wd w hn ⟨hb,qdx.2 hw⟩ h2).mono fun e w' ⟨v,he,ho,hbl⟩=>?_;have h9:=qqw ⟨hb,qdx.2 hw⟩ h2;rw[h9.2] at ho;rw[h9.1] at he;obtain⟨A,c,rfl,_⟩:=ho.reads;exact⟨A,c,he,ho,hbl⟩
theorem qsb (n b:Int)(hn:n<9223372036854775808)(w:World):Calls prog 192 #[.int .i64 n,.int .i64 b] w fun e w'=>e=.returned (.int .i64 (dgs n b))/\w=w':=by
 by_cases h:0<=n/\vb b=true
 ·obtain⟨b',rfl⟩:=zlA (a:=b) (by have:=qdw.1 h.2;omega);obtain⟨n',rfl⟩:=zlA h.1;refine (qe3 n' b' h.2 (by omega) w).mono fun e w' ⟨he,hw⟩=>⟨?_,hw⟩;rw[he];unfold dgs;rw[if_pos h,zlt,zlt]
 ·refine (qyj n b h w).mono fun e w' ⟨he,hw⟩=>⟨?_,hw⟩;rw[he];unfold dgs;rw[if_neg h]
end JD
namespace JB
theorem qg7 (K K':Nat)(A A':Option Addr)(n c n' c':Nat)(xs ys:List UInt8)(w:World)(h:Rd w K A n xs)(h':Rd w K' A' n' ys)(hK:K<=w.heap.size)(hK':K'<=w.heap.size)(hn:n<=100000)(hn':n'<=100000):
 Calls prog 100 #[.slice A n c,.slice A' n' c'] w fun e w'=>∃v,e=.returned v/\Own w' w.heap.size v (n+n') (xs++ys)/\Below w.heap.size w w':=by
 have hbl:=hid ((Below.refl w.heap.size w).alloc zjn (.cells #[] 5));have H1:=hid ((h.more hK).below hbl.out);have H2:=hid ((h'.more hK').below hbl.out);clear h h';go_enter func100,ntmps100
 go_wp2_with (first
  |(at_builtin;refine qah _ w.heap.size _ 0 [] (Own.lit0 w w.heap.size zjn) (by simp) A n c _ xs H1.out (by omega) rfl (.tmp 5) (.tmp 6) rfl rfl rfl ?_;intro v1 w1 hown1 hb1;have hb01:=hbl.out.trans hb1)
  |(at_builtin;refine qah _ w.heap.size _ _ _ hown1 hb01.size A' n' c' _ ys (H2.out.below hb1) (by omega) rfl (.tmp 7) (.tmp 8) rfl rfl rfl ?_;intro v2 w2 hown2 hb2))
 go_ret
 refine⟨_,rfl,?_,hb01.trans hb2⟩;rw[Nat.zero_add,zlI] at hown2;exact hown2
end JB
end Go.Proofs.YtlmolmohhpdhdaaGreatDoor
