/-
  append of a string's bytes onto a byte slice of the call's
-/
import Derived.Test.YtlmolmohhpdhdaaGreatDoorYMa
import Derived.Test.YtlmolmohhpdhdaaGreatDoorYShelf
import Derived.Lib.DecodeN
set_option maxRecDepth 100000
set_option maxHeartbeats 16000000
set_option linter.all false
namespace Go.Proofs.YtlmolmohhpdhdaaGreatDoor
open Go.RowKit Go.Proofs Tryz
namespace JB
theorem Qcp (s:ByteArray):Lib.strCells s=enc s.data.toList:=rfl
theorem run_apps (w:World)(K:Nat)(ty:TypeId)(v:Value)(n:Nat)(l:List UInt8)(hown:Own w K v n l)(hK:K<=w.heap.size)(s:ByteArray)(hsz:n+s.size<=140737488355328):
 ∃v' w',(Builtin.append_ #[22,9] ty #[v,.string s]).run prog w=.ok v' w'/\Own w' K v' (n+s.size) (l++s.data.toList)/\Below K w w':=by
 obtain⟨i,hi,hz0,hz1,hz2⟩:=info_parts qjd;have ht:=underlying22;have hu:=underlying9;have hll:=hown.1;have hsl:s.data.toList.length=s.size:=(Array.length_toList (xs:=s.data))
 have hnew:∀(olds:List Value)(cap:Nat),olds=enc l->n+s.size<=cap->cap<=maxLen->
  Own (w.drew.alloc (.cells (olds.toArray++(enc s.data.toList).toArray++Builtin.zeroCells (Value.int .u8 0).cells (cap-(n+s.size))) 5)) K (.slice (some ⟨w.heap.size,0,none⟩) (n+s.size) cap) (n+s.size) (l++s.data.toList):=by
  intro olds cap ho hcap hm;subst ho;refine⟨by rw[zlb];omega,.inr ⟨w.heap.size,cap,_,(0,0),rfl,hK,zld w.drew _,hcap,hm,?_,?_,fun j _ hj=>by simp at hj⟩⟩
  ·have h1:(Value.int IntKind.u8 0).cells.size=1:=rfl;have h2:(enc l).length=n:=by rw[qa3];exact hll
   have h3:(enc s.data.toList).length=s.size:=by rw[qa3];exact hsl
   simp only[Array.size_append,size_zeroCells,h1,List.size_toArray,h2,h3];omega
  ·rw[qbn];simp only[Array.toList_append];rw[List.take_append_of_le_length (by simp only[zlb,qa3];omega)];exact zlj (by simp only[zlb,qa3];omega)
 have hgb:∀o,Below K w (w.drew.alloc o):=fun o=>(Below.refl K w).drew.alloc hK o;have hf:=Lib.run_firstCells_string (P:=prog) w 1 s;rcases hown.2 with ⟨rfl,rfl⟩|⟨g,cap,cur,m,rfl,hg,hh,hn,hm,hs,htk,hfr⟩
 ·rcases Nat.eq_zero_or_pos s.size with h0|hk
  ·have:s.data.toList=[]:=zli (by omega);rw[this,h0];refine⟨.slice none 0 0,w,?_,by simpa using hown,Below.refl _ _⟩;rw[hz1.symm] at hf;rw[h0] at hf;simp[Builtin.append_,run_underlying ht,run_underlying hu,sizeOf,typeInfo,hi,Builtin.lenOf,h0,hf]
  ·have hr:=run_append_nil_string (P:=prog) w 22 9 ty 5 i (.int .u8 0) ht hu hi hz0 s hk (by omega) (by rw[hz2];omega);have hl0:l=[]:=zli hll;subst hl0;have h0:=hnew [] (grownCap w s.size 0 5) rfl (by rw[Nat.zero_add];exact grownCap_ge _ _ _ _) (grownCap_le_maxLen _ _ _ _ (by unfold maxLen;omega))
   have e:(s.data.map (fun b=>Value.int .u8 b.toNat))=#[]++(enc s.data.toList).toArray:=by
    apply Array.ext';simp[enc]
   rw[e] at hr;exact⟨_,_,hr,by simpa using h0,hgb _⟩
 ·by_cases hroom:n+s.size<=cap
  ·obtain⟨w',cur',hrun,hg',hs',ht',hb',ho',hz'⟩:=qhc prog g 5 m (enc s.data.toList) n 0 cur w hh (by rw[qa3];omega) (fun j hj=>hfr j (by rw[qa3] at hj;omega)) qhp;refine⟨.slice (some ⟨g,0,none⟩) (n+s.size) cap,w',?_,⟨by rw[zlb];omega,.inr ⟨g,cap,cur',m,rfl,hg,hg',hroom,hm,by omega,?_,hfr⟩⟩,hb'.mono hg⟩
   ·rw[Qcp] at hf;simp[Builtin.append_,run_underlying ht,run_underlying hu,sizeOf,typeInfo,hi,hz1,Builtin.lenOf,hroom,Addr.add_lit,hf,hrun]
   ·rw[qbn,<-htk];rw[qa3,hsl] at ht';simpa using ht'
  ·have hr:=Lib.run_append_grow_string (P:=prog) w 22 9 ty 5 i (.int .u8 0) ht hu hi hz0 ⟨g,0,none⟩ n cap (enc l) (by rw[qa3,hz1];omega)
    (fun j u hj=>by
     have ha:(⟨g,0,none⟩:Addr).add j=⟨g,j,none⟩:=by unfold Addr.add;split<;>simp_all
     rw[ha,zlc w g j cur 5 m hh,<-Array.getElem?_toList];rw[<-htk,List.getElem?_take] at hj;split at hj
     ·exact hj
     ·cases hj) s (by omega) (by omega) (growslice_fits (by omega) (by rw[hz2];omega))
   exact⟨_,_,hr,hnew _ _ rfl (grownCap_ge _ _ _ _) (grownCap_le_maxLen _ _ _ _ (by unfold maxLen;omega)),hgb _⟩
theorem qgm {ops:Array Oper}{rest:List Oper}{o:Oper}{a:Act}{Q:Exit->Act->World->Prop}(w:World)(K:Nat)(v:Value)(n:Nat)(l:List UInt8)
 (hown:Own w K v n l)(hK:K<=w.heap.size)(src:ByteArray)(hsz:n+src.size<=140737488355328)(hgd:o.guard=none)(s x:Operand)
 (ho:o.op=.call {callee:=.builtin .append,args:=#[s,x],argTypes:=#[22,9]})
 (hs:a.eval s=v)(hx:a.eval x=.string src)
 (h:∀v' w',Own w' K v' (n+src.size) (l++src.data.toList)->Below K w w'->wpList prog ops Q rest (a.put o.dst v') w'):
 wpList prog ops Q (o::rest) a w:=by
 refine wpList_plain hgd fun K' hK'=>?_;obtain⟨v',w',hrun,h1,h2⟩:=run_apps w K o.type v n l hown hK src hsz;unfold Oper.wp execOp;simp only[ho,resolve,invoke,builtin,Sem.run_bind,Sem.run_pure,Result.andThen_ok,List.map_toArray,List.map_cons,List.map_nil,hs,hx,hrun];exact hK' _ _ (h v' w' h1 h2)
end JB
namespace JT
open JB
theorem qgn {P:Program}{f:FuncId}{xs:Array Value}{W:World}{i j:Nat}{u:Value}(hc:Calls P f xs (W.drewN (i+j)) fun e V=>e=.returned u/\V=W.drewN (i+j)):
 Calls P f xs (W.drewN (i+j)) fun e V=>e=.returned u/\∃k,V=W.drewN (i+k):=by
 refine hc.mono ?_;rintro e V ⟨h1,h2⟩;exact⟨h1,j,h2⟩
theorem qnn {r:Int}(h:r≠65533):(r==65533)=false:=by simpa using h
theorem qdy (r:Int)(w:World)(h:128<=r)(he:(r==65533)=false)(hv:Lib.validRune r=false):
 Calls prog 231 #[.string ⟨#[10,0]⟩,.int .i32 r] w fun e w'=>e=.returned (.int .i64 (-1))/\Below w.heap.size w w':=by
 go_enter func231,ntmps231;go_wp2_with (go_at_call 241;refine (Tryz.utf8_ValidRune _ _).mono ?_;rintro e w' ⟨rfl,rfl⟩;rw[hv])
 try rw[Exit.noGoto_ret]
 go_ret
 exact⟨rfl,Below.refl _ _⟩
theorem qf3 (w:World):
 Calls prog 231 #[.string ⟨#[10,0]⟩,.int .i32 65533] w fun e w'=>e=.returned (.int .i64 (-1))/\Below w.heap.size w w':=by
 go_enter func231,ntmps231;go_wp2_with fail
 go_loopg [5,6] 2 (fun g _ _ wx=>∃i:Nat,i+g=2/\wx=w.iter ⟨#[10,0]⟩ i)
 case atStart=>exact⟨0,by omega,rfl⟩
 case round=>
  obtain⟨i,hi,rfl⟩:=hrel
  cases gk with
  |zero=>
   obtain rfl:i=2:=by omega
   have hnx:=fun ty=>run_next_end (P:=prog) w ⟨#[10,0]⟩ 2 ty (by decide);go_wp2
   try rw[Exit.noGoto_ret]
   go_ret
   exact⟨rfl,(Below.refl _ _).alloc zjn _⟩
  |succ g=>
   have hi2:i=0∨i=1:=by omega
   rcases hi2 with rfl|rfl
   ·have hnx:=fun ty=>run_next_ascii (P:=prog) w ⟨#[10,0]⟩ 0 ty (by decide) (by decide);go_wp2
    go_roundg g
    case measure=>omega
    case rel=>exact⟨1,by omega,rfl⟩
   ·have hnx:=fun ty=>run_next_ascii (P:=prog) w ⟨#[10,0]⟩ 1 ty (by decide) (by decide);go_wp2
    go_roundg g
    case measure=>omega
    case rel=>exact⟨2,by omega,rfl⟩
theorem qf4 (r:Int)(w:World)(h:128<=r)(he:(r==65533)=false)(hv:Lib.validRune r=true):
 Calls prog 231 #[.string ⟨#[10,0]⟩,.int .i32 r] w fun e w'=>e=.returned (.int .i64 (-1))/\Below w.heap.size w w':=by
 have hv':Utf8.valid r=true:=by
  unfold Lib.validRune at hv;unfold Utf8.valid;simp at hv |-;omega
 obtain⟨f1,f2,f3⟩:=encode_facts r hv' h;obtain⟨E,hE⟩:∃E,Utf8.encode r=E:=⟨_,rfl⟩;rw[hE] at f1 f2 f3;have F3:=hid f3;have Hv:=hid hv';clear f3 hv';by_cases h2:E.size=2
 ·obtain⟨a,b,rfl⟩:∃a b:UInt8,E=⟨#[a,b]⟩:=by
   obtain⟨⟨l⟩⟩:=E
   match l,h2 with
   |[a,b],_=>exact⟨a,b,rfl⟩
  have hb:128<=b.toNat:=F3.out (by show 2-1<2;omega)
  have hne:((((⟨#[10,0]⟩:ByteArray)[1]'(by decide)).toNat:Int) !=(((⟨#[a,b]⟩:ByteArray)[1]'(show 1<2 by omega)).toNat:Int))=true:=by
   show (((0:Nat):Int) !=(b.toNat:Int))=true
   simp;omega
  clear F3 f1 f2 h2;go_enter func231,ntmps231;go_wp2_with (go_at_call 241;refine (Tryz.utf8_ValidRune _ _).mono ?_;rintro e w' ⟨rfl,rfl⟩;rw[hv])
  go_step3
  go_wp2
  refine wp_loop_rounds 1 ?_;rw[rounds_succ];go_wp2
  go_step3
  go_wp2
  go_quiet (fail)
  go_wp2_with fail
  go_quiet ((go_at_call 228;exact qgn (Tryz.strings_IndexByte _ _ _)))
  go_wp2
  rw[Exit.noGoto_ret];go_wp2
  rw[Exit.noGoto_ret];go_ret
  exact⟨rfl,⟨rfl,rfl,rfl,Nat.le_refl _,fun _ _=>rfl⟩⟩
 ·have f1':3<=E.size:=by omega
  clear F3 f1 h2;go_enter func231,ntmps231;go_wp2_with (go_at_call 241;refine (Tryz.utf8_ValidRune _ _).mono ?_;rintro e w' ⟨rfl,rfl⟩;rw[hv])
  go_step3
  go_wp2
  refine wp_loop_rounds 1 ?_;rw[rounds_succ];go_wp2
  rw[Exit.noGoto_ret];go_ret
  exact⟨rfl,Below.refl _ _⟩
theorem qg3 (r:Int)(w:World)(h:128<=r):
 Calls prog 231 #[.string ⟨#[10,0]⟩,.int .i32 r] w fun e w'=>e=.returned (.int .i64 (-1))/\Below w.heap.size w w':=by
 by_cases he:r=65533
 ·subst he;exact qf3 w
 ·cases hv:Lib.validRune r
  ·exact qdy r w h (qnn he) hv
  ·exact qf4 r w h (qnn he) hv
theorem qnp {n b0 b1 b2 b3:Nat}(h:128<=b0):∀j,j<(Lib.decodeN n b0 b1 b2 b3).2->j=0∨(j=1/\128<=b1)∨(j=2/\128<=b2)∨(j=3/\128<=b3):=by
 intro j;unfold Lib.decodeN;rw[if_neg (by omega)];repeat' split
 all_goals (intro hj;simp only at hj;omega)
theorem qjv (s:ByteArray)(i:Nat)(b:UInt8)(h:s.data.toList[i]?=some b):s.get! i=b:=by
 obtain⟨⟨l⟩⟩:=s;simp only at h;obtain⟨h1,h2⟩:=zlv.1 h;subst h2;show (Array.mk l)[i]! =_
 simp[getElem!_pos,h1]
theorem qnq (s:ByteArray)(pos:Nat)(h:128<=(s.get! pos).toNat)(j:Nat)(b:UInt8)(h1:pos<=j)(h2:j<pos+(Utf8.decode s pos).2)(hb:s.data.toList[j]?=some b):128<=b.toNat:=by
 rw[Lib.decode_at] at h2;have hb':=qjv s j b hb;obtain⟨k,rfl⟩:∃k,j=pos+k:=⟨j-pos,by omega⟩;rcases qnp h k (Nat.lt_of_add_lt_add_left h2) with rfl|⟨rfl,h3⟩|⟨rfl,h3⟩|⟨rfl,h3⟩
 ·rw[<-hb'];exact h
 all_goals rw[<-hb'];exact h3
theorem qnr {P:Program}(w:World)(g:Nat)(s:ByteArray)(pos:Nat)(ty:TypeId)(hg:w.heap[g]?=some (.stringIter s pos))(h:pos<s.size):
 (Instr.next (.pointer (some ⟨g,0,none⟩)) true ty).run P w=
  .ok (.tuple #[.bool true,.int .i64 pos,.int .i32 (Utf8.decode s pos).1]) {w with heap:=w.heap.setIfInBounds g (.stringIter s (pos+(Utf8.decode s pos).2))}:=by
 simp only[Instr.next,getObj,setObj,Sem.run_bind,Sem.run,hg,Result.andThen,h,if_true];simp[goInt]
theorem qsd {P:Program}(w:World)(g:Nat)(s:ByteArray)(pos:Nat)(ty:TypeId)(hg:w.heap[g]?=some (.stringIter s pos))(h:¬pos<s.size):
 (Instr.next (.pointer (some ⟨g,0,none⟩)) true ty).run P w=.ok (.tuple #[.bool false]) w:=by
 simp[Instr.next,getObj,Sem.run,hg,h]
def bad (l:List UInt8):Bool:=Lib.containsAny l [10,0]
def qf5 (w:World)(s:ByteArray)(i:Nat)(wx:World):Prop:=
 wx.heap[w.heap.size]?=some (.stringIter s i)/\Below w.heap.size w wx/\Lib.NoAny s.data.toList [10,0] i
theorem qf5.start (w:World)(s:ByteArray):qf5 w s 0 (w.iter s 0):=
 ⟨World.iter_heap w s 0,(Below.refl _ _).alloc zjn _,Lib.NoAny.zero _ _⟩
theorem Qcq {b:UInt8}(h:128<=b.toNat):([10,0]:List UInt8).contains b=false:=by
 have h1:b≠10:=by rintro rfl;simp at h
 have h2:b≠0:=by rintro rfl;simp at h
 simp[h1,h2]
def qg4 (w:World)(wx:World)(s:ByteArray)(j:Nat):World:={wx with heap:=wx.heap.setIfInBounds w.heap.size (.stringIter s j)}
theorem qf6 {w wx:World}{s:ByteArray}{j:Nat}(h:Below w.heap.size w wx):Below w.heap.size w (qg4 w wx s j):=by
 refine⟨h.os,h.tape,h.output,by simpa [qg4] using h.size,fun k hk=>?_⟩;rw[<-h.block k hk];simp only[qg4];rw[Array.getElem?_setIfInBounds_ne (by omega)]
theorem qse {w wx:World}{s:ByteArray}{i j:Nat}(h:wx.heap[w.heap.size]?=some (.stringIter s i)):(qg4 w wx s j).heap[w.heap.size]?=some (.stringIter s j):=by
 have:=(zla.1 h).1;simp[qg4,this]
theorem qga (w wx:World)(s:ByteArray)(j:Nat):(qg4 w wx s j).heap.size=wx.heap.size:=by simp[qg4]
theorem qf5.step {w wx wy:World}{s:ByteArray}{i j:Nat}(h:qf5 w s i wx)(hb:Below (qg4 w wx s j).heap.size (qg4 w wx s j) wy)(hn:Lib.NoAny s.data.toList [10,0] j):qf5 w s j wy:=by
 have hlt:=(zla.1 h.1).1;refine⟨?_,(qf6 h.2.1).trans (hb.mono ?_),hn⟩
 ·rw[hb.block _ (by rw[qga];exact hlt)];exact qse h.1
 ·rw[qga];omega
theorem qg5 (s:ByteArray)(w:World)(h8:s.size<=8):
 Calls prog 217 #[.string s,.string ⟨#[10,0]⟩] w fun e w'=>e=.returned (.int .i64 (Lib.indexAny s.data.toList [10,0]))/\Below w.heap.size w w':=by
 have h8z:decide ((8:Int)<(s.size:Int))=false:=decide_eq_false (by omega);go_enter func217,ntmps217;go_wp2_with (go_at_call 232;refine (Tryz.strings_shouldUseASCIISet _ _).mono ?_;rintro e w' ⟨rfl,hw⟩;rw[hw,h8z])
 go_loopg [9,10] s.size (fun g _ _ wx=>∃i:Nat,s.size-i<=g/\qf5 w s i wx)
 case atStart=>exact⟨0,by omega,qf5.start _ _⟩
 case round=>
  obtain⟨i,hi,hat⟩:=hrel;by_cases hlt:i<s.size
  ·cases gk with
   |zero=>omega
   |succ g=>
   have hnx:∀ty,(Instr.next (.pointer (some ⟨w.heap.size,0,none⟩)) true ty).run prog wr=.ok (.tuple #[.bool true,.int .i64 i,.int .i32 (Utf8.decode s i).1]) (qg4 w wr s (i+(Utf8.decode s i).2)):=
    fun ty=>qnr wr w.heap.size s i ty hat.1 hlt
   obtain⟨x,hx⟩:∃x:UInt8,s[i]'hlt=x:=⟨_,rfl⟩;have hxl:s.data.toList[i]?=some x:=by rw[<-hx];exact Lib.data_getElem? s i hlt
   by_cases hx128:x.toNat<128
   ·rw[decode_ascii s i hlt (by rw[hx];exact hx128),hx] at hnx;have hcon:=Lib.contains_iff_indexByte [10,0] x;have hback:((x.toNat:Int)).toNat.toUInt8=x:=by simp
    have Hx:=hid hxl;have Hi:=hid hi;have Hl:=hid hlt;have Hat:=hid hat;clear hxl hx hat hi hlt;cases hin:([10,0]:List UInt8).contains x
    ·rw[hin] at hcon;have hlt0:¬((0:Int)<=Lib.indexByte [10,0] x):=of_decide_eq_false hcon.symm;have Hin:=hid hin;clear hcon hin;go_wp2_with (go_at_call 231;refine (Tryz.strings_IndexRune_ascii _ _ _ (by omega) (by omega)).mono ?_;rintro e w' ⟨rfl,hw⟩;rw[hw,hback])
     go_roundg g
     case measure=>omega
     case rel=>exact⟨i+1,by have:=Hi.out;omega,Hat.out.step zjb (Hat.out.2.2.succ Hx.out Hin.out)⟩
    ·rw[hin] at hcon;have hge0:(0:Int)<=Lib.indexByte [10,0] x:=of_decide_eq_true hcon.symm;have Hin:=hid hin;clear hcon hin;go_wp2_with (go_at_call 231;refine (Tryz.strings_IndexRune_ascii _ _ _ (by omega) (by omega)).mono ?_;rintro e w' ⟨rfl,hw⟩;rw[hw,hback])
     go_ret
     exact⟨by rw[Lib.indexAny_hit Hat.out.2.2 Hx.out Hin.out];rfl,qf6 Hat.out.2.1⟩
   ·have hd:=decode_high s i hlt (by rw[hx];omega);have hg:s.get! i=x:=qjv s i x hxl
    have hno:Lib.NoAny s.data.toList [10,0] (i+(Utf8.decode s i).2):=by
     intro j b hj hb;by_cases h:j<i
     ·exact hat.2.2 j b h hb
     ·exact Qcq (qnq s i (by rw[hg];omega) j b (by omega) hj hb)
    generalize (Utf8.decode s i).1=r at *;generalize (Utf8.decode s i).2=k at *;obtain⟨hd1,hd2⟩:=hd;have Hi:=hid hi;have Hat:=hid hat;have Hno:=hid hno;clear hxl hx hat hi hlt hg hno;go_wp2_with (go_at_call 231;refine (qg3 _ _ (by omega)).mono ?_;rintro e w1 ⟨rfl,hb1⟩)
    go_roundg g
    case measure=>omega
    case rel=>exact⟨i+k,by have:=Hi.out;omega,Hat.out.step hb1 Hno.out⟩
  ·have hnx:=fun ty=>qsd (P:=prog) wr w.heap.size s i ty hat.1 hlt;have Hat:=hid hat;have Hlt:=hid hlt;clear hat hlt hi;go_wp2
   go_ret
   exact⟨by rw[Lib.indexAny_none (fun j b hj hb=>Hat.out.2.2 j b (by have h1:=(zlv.1 hb).1;have h2:=Hlt.out;rw[<-Lib.size_eq] at h1;omega) hb)];rfl,Hat.out.2.1⟩
theorem Qcr (w:World):(zeroValue 272).run prog w=.ok (.agg (Array.replicate 256 (.bool false))) w:=by kernel_rfl
theorem qhm (s:ByteArray)(w:World)(hs:s.size<4294967281):
 Calls prog 217 #[.string s,.string ⟨#[10,0]⟩] w fun e w'=>e=.returned (.int .i64 (Lib.indexAny s.data.toList [10,0]))/\Below w.heap.size w w':=by
 by_cases h8:8<s.size
 ·refine (Tryz.strings_IndexAny_long Qcr s ⟨#[10,0]⟩ w (by decide) h8 hs (by decide) (fun j b hb=>?_)).mono fun e w' ⟨he,hw⟩=>⟨he,?_⟩
  ·have:=List.mem_of_getElem? hb;simp at this;rcases this with rfl|rfl<;>decide
  ·rw[hw];exact ((Below.refl _ _).alloc zjn _).alloc (by simp) _
 ·exact qg5 s w (by omega)
theorem qf7 (s:ByteArray)(w:World)(hs:s.size<4294967281):
 Calls prog 182 #[.string s,.string ⟨#[10,0]⟩] w fun e w'=>e=.returned (.bool (bad s.data.toList))/\Below w.heap.size w w':=by
 have Hi:=hid (qhm s w hs);go_enter func182,ntmps182;go_wp2_with (go_at_call 217;refine Hi.out.mono ?_;rintro e w' ⟨rfl,hw⟩)
 go_ret
 exact⟨rfl,hw⟩
end JT
namespace JH
open JB JT JD
def by_ (s:ByteArray):List UInt8:=s.data.toList
theorem qgb (s:ByteArray):(by_ s).length=s.size:=Array.length_toList (xs:=s.data)
def qaa (s:ByteArray):Bool:=decide (1<=s.size)&&(decide (s.size<=16)&&(!bad (by_ s)&&!Lib.hasSuffix (by_ s) [32]))
theorem qdd (s:ByteArray)(w:World)(hs:s.size<=140737488355328):
 Calls prog 141 #[.string s] w fun e w'=>e=.returned (.bool (qaa s))/\Below w.heap.size w w':=by
 by_cases h1:1<=s.size
 ·by_cases h2:s.size<=16
  ·have Hr:Hid (qaa s=(!bad (by_ s)&&!Lib.hasSuffix (by_ s) [32])):=hid (by simp[qaa,h1,h2]);have Hc:=hid (qf7 s w (by omega));cases hb:bad s.data.toList
   ·cases hp:Lib.hasSuffix s.data.toList [32]
    ·have Hr':Hid (qaa s=true):=hid (by rw[Hr.out];unfold by_;rw[hb,hp];rfl);clear Hr;go_enter func141,ntmps141;go_wp2_with (first|(go_at_call 182;refine Hc.out.mono ?_;rintro e w' ⟨rfl,hw⟩;rw[hb])|(go_at_call 183;refine (Tryz.strings_HasSuffix _ _ _ (by omega)).mono ?_;rintro e w'' ⟨rfl,hw2⟩;rw[hw2,hp]))
     go_ret
     exact⟨qa1 Hr'.out.symm,hw⟩
    ·have Hr':Hid (qaa s=false):=hid (by rw[Hr.out];unfold by_;rw[hb,hp];rfl);clear Hr;go_enter func141,ntmps141;go_wp2_with (first|(go_at_call 182;refine Hc.out.mono ?_;rintro e w' ⟨rfl,hw⟩;rw[hb])|(go_at_call 183;refine (Tryz.strings_HasSuffix _ _ _ (by omega)).mono ?_;rintro e w'' ⟨rfl,hw2⟩;rw[hw2,hp]))
     go_ret
     exact⟨qa1 Hr'.out.symm,hw⟩
   ·have Hr':Hid (qaa s=false):=hid (by rw[Hr.out];unfold by_;rw[hb];rfl);clear Hr;go_enter func141,ntmps141;go_wp2_with (first|(go_at_call 182;refine Hc.out.mono ?_;rintro e w' ⟨rfl,hw⟩;rw[hb])|(go_at_call 183;refine (Tryz.strings_HasSuffix _ _ _ (by omega)).mono ?_;rintro e w'' ⟨rfl,hw2⟩;rw[hw2,hp]))
    go_ret
    exact⟨qa1 Hr'.out.symm,hw⟩
  ·have Hr':Hid (qaa s=false):=hid (by simp[qaa,h2]);go_enter func141,ntmps141;go_wp2_with fail
   go_ret
   exact⟨qa1 Hr'.out.symm,Below.refl _ _⟩
 ·have Hr':Hid (qaa s=false):=hid (by simp[qaa,h1]);go_enter func141,ntmps141;go_wp2_with fail
  go_ret
  exact⟨qa1 Hr'.out.symm,Below.refl _ _⟩
def qa5 (s:ByteArray):Bool:=s.toList==[47,47]
theorem qa6 (a b:Int)(mo:Bool)(v:Value)(s:ByteArray)(w:World):
 Calls prog 143 #[.agg #[.int .i64 a,.int .i64 b,.bool mo,v],.string s] w fun e w'=>e=.returned (.bool (mo&&qa5 s))/\Below w.heap.size w w':=by
 cases mo
 ·go_enter func143,ntmps143;go_wp2_with fail
  go_ret
  exact⟨rfl,(Below.refl _ _).alloc zjn _⟩
 ·go_enter func143,ntmps143;go_wp2_with fail
  go_ret
  exact⟨rfl,(Below.refl _ _).alloc zjn _⟩
theorem qb9 (d:Option Nat){ops:Array Oper}{rest:List Oper}{o:Oper}{a:Act}{Q:Exit->Act->World->Prop}{w:World}(_:o.dst=d)(hgd:o.guard=none)(t:TypeId)(ps:Array (Nat×Operand))(ho:o.op=.build t ps)(vs:Array (Nat×Value))(v:Value)(hrun:(Instr.build t vs).run prog w=.ok v w)
 (hvs:ps.map (fun x=>(x.1,a.eval x.2))=vs)(h:wpList prog ops Q rest (a.put o.dst v) w):wpList prog ops Q (o::rest) a w:=by
 refine wpList_plain hgd fun K' hK'=>?_;unfold Oper.wp execOp;simp only[ho,hvs,Sem.run_bind,Sem.run_pure,hrun,Result.andThen_ok];exact hK' _ _ h
theorem qep {ops:Array Oper}{rest:List Oper}{o:Oper}{a:Act}{Q:Exit->Act->World->Prop}{w w':World}(hd:o.dst=none)(hgd:o.guard=none)(t:TypeId)(p x:Operand)(ho:o.op=.store t p x)(vp vx:Value)(hp:a.eval p=vp)(hx:a.eval x=vx)
 (hrun:(Instr.storeAt t vp vx).run prog w=.ok () w')(h:wpList prog ops Q rest a w'):wpList prog ops Q (o::rest) a w:=by
 refine wpList_plain hgd fun K' hK'=>?_;unfold Oper.wp execOp;simp only[ho,hp,hx,Sem.run_bind,Sem.run_pure,hrun,Result.andThen_ok];rw[Oper.upon_skip];have e:∀v,a.put o.dst v=a:=fun v=>by rw[hd];rfl
 rw[e];exact hK' _ _ h
def row0:Array Value:=#[.int .i64 12,.int .i64 10,.bool true,.func (.func 184) #[] #[]]
def row1:Array Value:=#[.int .i64 6,.int .i64 10,.bool true,.func (.func 185) #[] #[]]
def row2:Array Value:=#[.int .i64 6,.int .i64 10,.bool true,.func (.func 186) #[] #[]]
def row3:Array Value:=#[.int .i64 8,.int .i64 8,.bool true,.func (.func 187) #[] #[]]
def qyp:Array Value:=#[.int .i64 10,.int .i64 10,.bool false,.func (.func 188) #[] #[]]
def rows:Array Value:=row0++row1++row2++row3++qyp
theorem built0 (w:World):(Instr.build 225 #[(0,.int .i64 12),(1,.int .i64 10),(2,.bool true),(3,.func (.func 184) #[] #[])]).run prog w=.ok (.agg row0) w:=by kernel_rfl
theorem built1 (w:World):(Instr.build 225 #[(0,.int .i64 6),(1,.int .i64 10),(2,.bool true),(3,.func (.func 185) #[] #[])]).run prog w=.ok (.agg row1) w:=by kernel_rfl
theorem built2 (w:World):(Instr.build 225 #[(0,.int .i64 6),(1,.int .i64 10),(2,.bool true),(3,.func (.func 186) #[] #[])]).run prog w=.ok (.agg row2) w:=by kernel_rfl
theorem built3 (w:World):(Instr.build 225 #[(0,.int .i64 8),(1,.int .i64 8),(2,.bool true),(3,.func (.func 187) #[] #[])]).run prog w=.ok (.agg row3) w:=by kernel_rfl
theorem built4 (w:World):(Instr.build 225 #[(0,.int .i64 10),(1,.int .i64 10),(2,.bool false),(3,.func (.func 188) #[] #[])]).run prog w=.ok (.agg qyp) w:=by kernel_rfl
theorem builtAll (w:World):(Instr.build 226 #[(0,.agg row0),(1,.agg row1),(2,.agg row2),(3,.agg row3),(4,.agg qyp)]).run prog w=.ok (.agg rows) w:=by kernel_rfl
theorem at0 (w:World):(Instr.index 226 (.agg rows) (.int .i64 0)).run prog w=.ok (.agg row0) w:=by kernel_rfl
theorem at1 (w:World):(Instr.index 226 (.agg rows) (.int .i64 1)).run prog w=.ok (.agg row1) w:=by kernel_rfl
theorem at2 (w:World):(Instr.index 226 (.agg rows) (.int .i64 2)).run prog w=.ok (.agg row2) w:=by kernel_rfl
theorem at3 (w:World):(Instr.index 226 (.agg rows) (.int .i64 3)).run prog w=.ok (.agg row3) w:=by kernel_rfl
theorem at4 (w:World):(Instr.index 226 (.agg rows) (.int .i64 4)).run prog w=.ok (.agg qyp) w:=by kernel_rfl
theorem qif (w:World):
 Calls prog 142 #[] w fun e w'=>e=.returned (.agg rows)/\Below w.heap.size w w':=by
 go_enter func142,ntmps142;go_upto_region 1 with (fail)
 go_step
 refine qb9 (some 1) rfl rfl _ _ rfl _ _ (built0 _) (by kernel_rfl) ?_;refine qb9 (some 2) rfl rfl _ _ rfl _ _ (built1 _) (by kernel_rfl) ?_;refine qb9 (some 3) rfl rfl _ _ rfl _ _ (built2 _) (by kernel_rfl) ?_;refine qb9 (some 4) rfl rfl _ _ rfl _ _ (built3 _) (by kernel_rfl) ?_;refine qb9 (some 5) rfl rfl _ _ rfl _ _ (built4 _) (by kernel_rfl) ?_;refine qb9 (some 6) rfl rfl _ _ rfl _ _ (builtAll _) (by kernel_rfl) ?_;refine qep rfl rfl _ _ _ rfl _ _ rfl rfl (run_storeAt_new w 226 _ rows (by kernel_rfl) (by kernel_rfl) (by kernel_rfl)) ?_;go_wp2
 have hl:=run_loadVar_new (P:=prog) w 226 rows 5 225 underlying226 (by kernel_rfl);exact zlf (v:=.agg rows) (by simp[results,results142,Act.put,asAddr,hl]) rfl ⟨rfl,(Below.refl _ _).alloc zjn _⟩
theorem var1 (b:Nat)(w:World):Calls prog 184 #[.pointer (some ⟨b,0,none⟩)] w fun e w'=>e=.returned (.pointer (some ⟨b,1,none⟩))/\w=w':=by
 go_enter func184,ntmps184;go_wp2_with fail
 go_ret
 exact⟨rfl,rfl⟩
theorem var2 (b:Nat)(w:World):Calls prog 185 #[.pointer (some ⟨b,0,none⟩)] w fun e w'=>e=.returned (.pointer (some ⟨b,2,none⟩))/\w=w':=by
 go_enter func185,ntmps185;go_wp2_with fail
 go_ret
 exact⟨rfl,rfl⟩
theorem var3 (b:Nat)(w:World):Calls prog 186 #[.pointer (some ⟨b,0,none⟩)] w fun e w'=>e=.returned (.pointer (some ⟨b,3,none⟩))/\w=w':=by
 go_enter func186,ntmps186;go_wp2_with fail
 go_ret
 exact⟨rfl,rfl⟩
theorem var4 (b:Nat)(w:World):Calls prog 187 #[.pointer (some ⟨b,0,none⟩)] w fun e w'=>e=.returned (.pointer (some ⟨b,4,none⟩))/\w=w':=by
 go_enter func187,ntmps187;go_wp2_with fail
 go_ret
 exact⟨rfl,rfl⟩
theorem var5 (b:Nat)(w:World):Calls prog 188 #[.pointer (some ⟨b,0,none⟩)] w fun e w'=>e=.returned (.pointer (some ⟨b,5,none⟩))/\w=w':=by
 go_enter func188,ntmps188;go_wp2_with fail
 go_ret
 exact⟨rfl,rfl⟩
def qj2:Value->Nat|.int _ n=>n.toNat|_=>0
theorem qbt (K:Nat)(v:Value)(m:Nat)(l:List UInt8)(k:Nat)(w:World)(hv:Own w K v m l)(hK:K<=w.heap.size)(hm:m<=1000)(hk:k<=1000):
 Calls prog 211 #[v,.int .i64 (k:Int)] w fun e w'=>∃v',e=.returned v'/\Own w' K v' (m+k) (l++List.replicate k 32)/\Below K w w':=by
 go_enter func211,ntmps211;go_wp2_with fail
 go_loopw [0,6] (fun u i W=>∃j:Nat,i=.int .i64 (j:Int)/\j<=k/\Own W K u (m+j) (l++List.replicate j 32)/\Below K w W) (fun _ i _=>k-qj2 i)
 case atStart=>exact⟨0,rfl,by omega,by simpa using hv,Below.refl _ _⟩
 case round=>
  clear hv;obtain⟨j,rfl,hj,hown,hbel⟩:=hrel;by_cases hlt:j<k
  ·have hKr:K<=wr.heap.size:=Nat.le_trans hK hbel.size;go_wp2_with (at_builtin;refine qa4 wr K u0 (m+j) (l++List.replicate j 32) 32 32 rfl hown hKr (by omega) rfl (.tmp 8) (.tmp 9) rfl rfl rfl ?_;intro v1 w1 hown1 hb1)
   go_roundw
   case rel=>
    refine⟨j+1,by go_num,by omega,?_,hbel.trans hb1⟩;rw[zln,<-List.replicate_succ'] at hown1;exact hown1
   case measure=>simp[qj2];omega
  ·obtain rfl:j=k:=by omega
   have Hown:=hid hown;clear hown;go_wp2
   go_ret
   exact⟨_,rfl,Hown.out,hbel⟩
theorem qj9 (k:Nat)(w:World)(hk:k<=1000):
 Calls prog 136 #[.int .i64 (k:Int)] w fun e w'=>∃v',e=.returned v'/\Own w' w.heap.size v' k (List.replicate k 32)/\Below w.heap.size w w':=by
 go_enter func136,ntmps136;go_wp2_with fail
 go_loopw [3,4] (fun u i W=>∃j:Nat,i=.int .i64 (j:Int)/\j<=k/\Own W w.heap.size u j (List.replicate j 32)/\Below w.heap.size w W) (fun _ i _=>k-qj2 i)
 case atStart=>exact⟨0,rfl,by omega,Own.nil _ _,Below.refl _ _⟩
 case round=>
  obtain⟨j,rfl,hj,hown,hbel⟩:=hrel;by_cases hlt:j<k
  ·go_wp2_with (at_builtin;refine qa4 wr w.heap.size u3 j (List.replicate j 32) 32 32 rfl hown hbel.size (by omega) rfl (.tmp 10) (.tmp 11) rfl rfl rfl ?_;intro v1 w1 hown1 hb1)
   go_roundw
   case rel=>
    refine⟨j+1,by go_num,by omega,?_,hbel.trans hb1⟩;rw[<-List.replicate_succ'] at hown1;exact hown1
   case measure=>simp[qj2];omega
  ·obtain rfl:j=k:=by omega
   have Hown:=hid hown;clear hown;go_wp2
   go_ret
   exact⟨_,rfl,Hown.out,hbel⟩
def num (t u g m z:Int):Nat->Int|0=>t|1=>u|2=>g|3=>m|_=>z
def wd:Nat->Nat|0=>12|1=>6|2=>6|3=>8|_=>10
def bs:Nat->Nat|3=>8|_=>10
def mo:Nat->Bool|4=>false|_=>true
theorem Qcs (k:Nat):vb (bs k:Int)=true:=by
 rw[qdw];unfold bs;split<;>simp
theorem bs_2 (k:Nat):2<=bs k/\bs k<=10:=by unfold bs;split<;>omega
theorem Qaf (k:Nat):1<=wd k/\wd k<=18:=by unfold wd;split<;>omega
def okF (tab:Bool)(k:Nat)(n:Int):Bool:=if (mo k&&tab)=true then n==0 else decide (0<=n)&&decide (nd (bs k) n.toNat<=wd k)
def qkr (tab:Bool)(k:Nat)(n:Int):List UInt8:=if (mo k&&tab)=true then List.replicate (wd k) 32 else field (bs k) n.toNat (wd k)
theorem qja {tab:Bool}{k:Nat}{n:Int}(h:okF tab k n=true):(qkr tab k n).length=wd k:=by
 unfold okF at h;unfold qkr;split
 ·simp
 ·rename_i h2
  rw[if_neg h2,zlx,decide_eq_true_eq,decide_eq_true_eq] at h;exact qmz (bs_2 k).1 h.2
def pre (s:ByteArray)(f:Nat->Int):Nat->List UInt8
 |0=>by_ s++List.replicate (16-s.size) 32
 |k+1=>pre s f k++qkr (qa5 s) k (f k)
def off:Nat->Nat|0=>16|k+1=>off k+wd k
def qb4 (s:ByteArray)(f:Nat->Int):Nat->Bool
 |0=>true
 |k+1=>qb4 s f k&&okF (qa5 s) k (f k)
theorem qch {s:ByteArray}{f:Nat->Int}(hs:s.size<=16):∀k,qb4 s f k=true->(pre s f k).length=off k
 |0,_=>by simp[pre,off,qgb];omega
 |k+1,h=>by
  simp only[qb4,zlx] at h;simp only[pre,off,zlb];rw[qch hs k h.1,qja h.2]
theorem qbp {s:ByteArray}{f:Nat->Int}{k:Nat}(h:okF (qa5 s) k (f k)=false):∀j,k<j->qb4 s f j=false
 |0,hj=>by omega
 |j+1,hj=>by
  simp only[qb4];by_cases e:k=j
  ·subst e;rw[h];simp
  ·rw[qbp h j (by omega)];rfl
def qjb (s:ByteArray)(f:Nat->Int):Int:=if qaa s=true then (if qb4 s f 5=true then 0 else 9) else 6
def qqy (s:ByteArray)(f:Nat->Int):List UInt8:=if qjb s f=0 then pre s f 5++[96,10] else []
theorem qyq {s:ByteArray}{f:Nat->Int}(h:qaa s=false):qjb s f=6/\qqy s f=[]:=by
 have:qjb s f=6:=by unfold qjb;rw[if_neg (by rw[h];simp)]
 exact⟨this,by unfold qqy;rw[this];rfl⟩
theorem qu3 {s:ByteArray}{f:Nat->Int}(h:qaa s=true)(h2:qb4 s f 5=false):qjb s f=9/\qqy s f=[]:=by
 have:qjb s f=9:=by unfold qjb;rw[if_pos h,if_neg (by rw[h2];simp)]
 exact⟨this,by unfold qqy;rw[this];rfl⟩
theorem qjw {s:ByteArray}{f:Nat->Int}(h:qaa s=true)(h2:qb4 s f 5=true):qjb s f=0/\qqy s f=pre s f 5++[96,10]:=by
 have:qjb s f=0:=by unfold qjb;rw[if_pos h,if_pos h2]
 exact⟨this,by unfold qqy;rw[this];rfl⟩
theorem qbu {s:ByteArray}:qaa s=true↔1<=s.size/\s.size<=16/\bad (by_ s)=false/\Lib.hasSuffix (by_ s) [32]=false:=by
 unfold qaa;simp
theorem qx0 (s:ByteArray)(f:Nat->Int):(qqy s f).length<=60:=by
 by_cases h:qaa s=true
 ·cases h2:qb4 s f 5
  ·rw[(qu3 h h2).2];simp
  ·rw[(qjw h h2).2,zlb,qch (qbu.1 h).2.1 5 h2];decide
 ·rw[(qyq (f:=f) (by simpa using h)).2];simp
def qc9 (s:ByteArray)(f:Nat->Int)(w:World)(e:Ending)(w':World):Prop:=
 ∃v,e=.returned (.tuple #[v,.int .i64 (qjb s f)])/\Own w' w.heap.size v (qqy s f).length (qqy s f)/\Below w.heap.size w w'
theorem qc9.empty {s:ByteArray}{f:Nat->Int}{w w':World}{k:Int}(h:qjb s f=k/\qqy s f=[])(hb:Below w.heap.size w w'):qc9 s f w (.returned (.tuple #[.slice none 0 0,.int .i64 k])) w':=by
 refine⟨_,by rw[h.1],?_,hb⟩;rw[h.2];exact Own.nil _ _
def HAt (w:World)(B:Nat)(s:ByteArray)(t u g m z:Int):Prop:=
 w.cell? ⟨B,0,none⟩=some (.string s)/\w.cell? ⟨B,1,none⟩=some (.int .i64 t)/\w.cell? ⟨B,2,none⟩=some (.int .i64 u)/\w.cell? ⟨B,3,none⟩=some (.int .i64 g)/\
  w.cell? ⟨B,4,none⟩=some (.int .i64 m)/\w.cell? ⟨B,5,none⟩=some (.int .i64 z)/\B<w.heap.size
theorem HAt.below {w w':World}{B K:Nat}{s:ByteArray}{t u g m z:Int}(h:HAt w B s t u g m z)(hb:Below K w w')(hB:B<K):HAt w' B s t u g m z:=by
 obtain⟨h0,h1,h2,h3,h4,h5,h6⟩:=h;refine⟨?_,?_,?_,?_,?_,?_,Nat.lt_of_lt_of_le h6 hb.size⟩<;>(rw[hb.cell (by exact hB)];assumption)
theorem HAt.new (w:World)(s:ByteArray)(t u g m z:Int)(ty:TypeId):HAt (w.alloc (.cells #[.string s,.int .i64 t,.int .i64 u,.int .i64 g,.int .i64 m,.int .i64 z] ty)) w.heap.size s t u g m z:=by
 refine⟨?_,?_,?_,?_,?_,?_,by simp⟩<;>(rw[World.cell?_alloc_at _ _ _ _ rfl];rfl)
theorem qa7 {w w':World}{B K:Nat}(hb:Below K w w')(hB:B<K):∀o,w'.cell? ⟨B,o,none⟩=w.cell? ⟨B,o,none⟩:=fun o=>hb.cell (p:=⟨B,o,none⟩) hB
theorem qx1 {n:Nat}(h:n<=16):(16:Int)-(n:Int)=((16-n:Nat):Int):=by omega
end JH
namespace JB
theorem qx2 (w:World)(b o n c f t:Nat)(hft:f<=t)(htc:t<=c):
 (Instr.sliceAt 22 (.slice (some ⟨b,o,none⟩) n c) (some (.int .i64 (f:Int))) (some (.int .i64 (t:Int))) none).run prog w=.ok (.slice (if c=f then some ⟨b,o,none⟩ else some ⟨b,o+f,none⟩) (t-f) (c-f)) w:=by
 have h1:(f:Int)<=(t:Int):=by omega
 have h2:(t:Int)<=(c:Int):=by omega
 have h3:(f:Int)<=(c:Int):=by omega
 by_cases hc:c=f
 ·subst hc;obtain rfl:t=c:=by omega
  rw[if_pos rfl];go_simp
 ·rw[if_neg hc];go_simp
theorem slice_rd {w:World}{K b o n c f t:Nat}{l:List UInt8}(h:Rd w K (some ⟨b,o,none⟩) n l)(hft:f<=t)(htn:t<=n)(hnc:n<=c):
 Rd w K (if c=f then some ⟨b,o,none⟩ else some ⟨b,o+f,none⟩) (t-f) ((l.drop f).take (t-f)):=by
 have hl:=h.1;split
 ·rename_i hc
  have e:t-f=0:=by omega
  rw[e,List.take_zero];exact Rd.nil _ _ _
 ·exact (h.cut f).pre (by omega)
theorem qu4 {ops:Array Oper}{rest:List Oper}{o:Oper}{a:Act}{Q:Exit->Act->World->Prop}{w:World}(x lo hi:Operand)(ho:o.op=.slice 22 x (some lo) (some hi) none)(hgd:o.guard=none)(b p n c f t:Nat)
 (hx:a.eval x=.slice (some ⟨b,p,none⟩) n c)(u v:Int)(hl:a.eval lo=.int .i64 u)(hh:a.eval hi=.int .i64 v)(hu:u=(f:Int))(hv:v=(t:Int))(hft:f<=t)(htc:t<=c)
 (h:wpList prog ops Q rest (a.put o.dst (.slice (if c=f then some ⟨b,p,none⟩ else some ⟨b,p+f,none⟩) (t-f) (c-f))) w):wpList prog ops Q (o::rest) a w:=by
 subst hu hv;refine wpList_plain hgd fun K' hK'=>?_;have hrun:=qx2 w b p n c f t hft htc;unfold Oper.wp execOp;simp only[ho,hx,hl,hh,Option.map_some,Option.map_none,hrun,Sem.run_bind,Sem.run_pure,Result.andThen_ok];exact hK' _ _ h
end JB
end Go.Proofs.YtlmolmohhpdhdaaGreatDoor
