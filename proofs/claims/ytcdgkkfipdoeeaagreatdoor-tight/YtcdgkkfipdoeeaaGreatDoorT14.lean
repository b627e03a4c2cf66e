/- Parts. -/
import Derived.Test.YtcdgkkfipdoeeaaGreatDoorT00
import Derived.Shelf.Strings.BuilderK
import Derived.Test.YtcdgkkfipdoeeaaGreatDoorT13
import Derived.Test.YtcdgkkfipdoeeaaGreatDoorT12
set_option maxRecDepth 100000
set_option maxHeartbeats 2000000
namespace Go.Proofs.YtcdgkkfipdoeeaaGreatDoor
open Go.RowKit LS
theorem Zl7:(Tryz.prog.info? 89).map (·.size)=some 2:=by kernel_rfl
theorem Zrj:liesAt Tryz.prog Tryz.prog.depth 89 (2 / Tryz.prog.cellsOf 89) 0 89 1=true:=by kernel_rfl
theorem Zhw:(Tryz.prog.info? 5).map (fun i=>(i.zero,i.size,i.bytes))=some (some (.int .u8 0),1,1):=by kernel_rfl
theorem Zri(b:Nat)(w:World)(h0:w.cell? ⟨b,0,none⟩=some (.pointer (some ⟨b,0,none⟩))) :
  Calls Tryz.prog 112 #[.pointer (some ⟨b,0,none⟩)] w fun e w'=>e=.returned (.tuple #[])/\w'=w:=by
 obtain⟨j,hj,_⟩:=Option.map_eq_some_iff.1 Zl7
 go_enter Tryz.func112,Tryz.ntmps112
 go_wp2
 rw[Lib.run_neq_ptr_same w _ Tryz.underlying86 hj]
 go_wp2
 go_end0
 exact⟨rfl,rfl⟩
theorem Zrh(b:Nat)(w:World)(h0:w.cell? ⟨b,0,none⟩=some (.pointer none))(hsh:w.shape? b=some (89,2))(hfz:w.frozen? ⟨b,0,none⟩=false) :
  Calls Tryz.prog 112 #[.pointer (some ⟨b,0,none⟩)] w fun e w'=>e=.returned (.tuple #[])/\w'=w.setCell ⟨b,0,none⟩ (.pointer (some ⟨b,0,none⟩)):=by
 obtain⟨j,hj,hjs⟩:=Option.map_eq_some_iff.1 Zl7
 go_enter Tryz.func112,Tryz.ntmps112
 go_wp2
 rw[Lib.run_to_unsafe w ⟨b,0,none⟩ Tryz.underlying86 Tryz.underlying131 hj (by rw[hjs];decide) hsh (Nat.zero_lt_succ 1)]
 simp only[Result.andThen]
 rw[Oper.upon_value]
 go_wp2
 rw[run_callFunc_extern Tryz.func174 (by kernel_rfl) (by kernel_rfl) (by kernel_rfl) (e:=Extern.AbiNoEscape.same) (by kernel_rfl)]
 rw[Lib.run_noEscape]
 simp only[Result.andThen]
 rw[Oper.upon_value]
 go_wp2
 rw[Lib.run_from_unsafe w ⟨b,0,none⟩ Tryz.underlying131 Tryz.underlying86 hj hsh Zrj]
 simp only[Result.andThen]
 rw[Oper.upon_value]
 go_wp2
 go_end0
 exact⟨rfl,rfl⟩
theorem Zrg(B b:Nat)(bs:List Value)(w:World)(h:Lib.IsBuilderF 89 5 B b bs w) :
  Calls Tryz.prog 112 #[.pointer (some ⟨b,0,none⟩)] w fun e w'=>e=.returned (.tuple #[])/\(Lib.BuilderAtF 89 5 B b (.pointer (some ⟨b,0,none⟩)) bs w'/\Below B w w'/\Lib.OthersKept 5 (some b) w w'):=by
 rcases h with h|h
 ·refine(Zrh b w h.cell0 h.shape h.frozen0).mono ?_
  rintro e w' ⟨rfl,rfl⟩
  exact⟨rfl,h.used _,(Below.refl B w).setCell (p:=⟨b,0,none⟩) h.1 _,(Lib.OthersKept.refl _ _ w).setCell ⟨b,0,none⟩ rfl _⟩
 ·refine(Zri b w h.cell0).mono ?_
  rintro e w' ⟨rfl,rfl⟩
  exact⟨rfl,h,Below.refl B _,Lib.OthersKept.refl _ _ _⟩
theorem ZgG(B b:Nat)(bs:List Value)(s:ByteArray)(w:World)(h:Lib.IsBuilderF 89 5 B b bs w)(hlen:bs.length+s.size<=140737488355328)(hBw:B<=w.heap.size) :
  Calls Tryz.prog 63 #[.pointer (some ⟨b,0,none⟩),.string s] w fun e w'=>e=.returned (.tuple #[.int .i64 s.size,.nilIface])/\(Lib.BuilderAtF 89 5 B b (.pointer (some ⟨b,0,none⟩)) (bs++Lib.strCells s) w'/\Below B w w'/\Lib.OthersKept 5 (some b) w w'):=by
 obtain⟨i0,hi,hz0,hz1,hz2⟩:=info_parts Zhw
 go_enter Tryz.func63,Tryz.ntmps63
 go_wp2_with fail
 refine(Zrg B b bs _ h).mono ?_
 rintro e w1 ⟨rfl,h1,hb1,hk1⟩
 obtain⟨hB,v,hbk,hown,hne⟩:=h1
 have c0:w1.cell? ⟨b,0,none⟩=some (.pointer (some ⟨b,0,none⟩)):=by rw[Lib.cell_of_heap hbk];rfl
 have c1:w1.cell? ⟨b,1,none⟩=some v:=by rw[Lib.cell_of_heap hbk];rfl
 go_wp2_with (at_builtin;refine Lib.wpList_append_own_stringF _ rfl _ _ 87 9 rfl B 5 i0 Tryz.underlying87 Tryz.underlying9 hi hz0 hz1 hz2 _ _ _ rfl hown s rfl ?c3 ?c4 ?c5 ?_)
 case c3=>unfold maxLen;omega
 case c4=>omega
 case c5=>have:=hb1.size;omega
 intro v' w2 hown' hgrow _
 have hlt:b<w1.heap.size:=by
  rcases Nat.lt_or_ge b w1.heap.size with h'|h'
  ·exact h'
  ·simp[Array.getElem?_eq_none h']at hbk
 have hb2:w2.heap[b]?=some (.cells #[.pointer (some ⟨b,0,none⟩),v] 89 (0,0)):=by
  rw[hgrow.block b hlt (fun e=>hne e.symm)]
  exact hbk
 have d0:w2.cell? ⟨b,0,none⟩=some (.pointer (some ⟨b,0,none⟩)):=by rw[Lib.cell_of_heap hb2];rfl
 have d1:w2.cell? ⟨b,1,none⟩=some v:=by rw[Lib.cell_of_heap hb2];rfl
 have f1:w2.frozen? ⟨b,1,none⟩=false:=Lib.frozen_of_heap hb2 1
 obtain⟨ao,n',cap,rfl⟩:∃ao n' cap,v'=.slice ao n' cap:=by
  rcases hown'.2 with ⟨hv,_⟩|⟨g,cap,cur,fz,hv,_⟩
  ·exact⟨_,_,_,hv⟩
  ·exact⟨_,_,_,hv⟩
 go_wp2
 go_ret2
 refine⟨rfl,?_,?_,(hk1.grown hgrow (Lib.ownsRowF_kind hown)).setCell ⟨b,1,none⟩ rfl _⟩
 ·exact Lib.BuilderAtF.put (T:=89) (e:=5) hB hb2 (bs':=bs++Lib.strCells s) (by simpa [Lib.strCells_length] using hown') (by decide)
 ·exact(hb1.grown hgrow (by have:=hb1.size;omega) (fun k hk=>(hown.lt k hk).1)).setCell (p:=⟨b,1,none⟩) hB _
def Zcp(p:ByteArray×ByteArray):List UInt8:=bl p.1++61::bl p.2
def ZU:List (ByteArray×ByteArray)->List UInt8
 | []=>[]
 | [p]=>Zcp p
 | p::l=>Zcp p++44::ZU l
theorem Zt1(l:List (ByteArray×ByteArray))(p:ByteArray×ByteArray):ZU (l++[p])=(if l.isEmpty then [] else ZU l++[44])++Zcp p:=by
 induction l with
 | nil=>rfl
 | cons a l ih=>
  cases l with
  | nil=>simp[ZU]
  | cons c l=>
   have e:ZU (a::c::l++[p])=Zcp a++44::ZU (c::l++[p]):=rfl
   rw[e,ih]
   simp[ZU]
theorem Zt0(l:List (ByteArray×ByteArray))(h:∀p∈l,p.1.size<=6000/\p.2.size<=6000):(ZU l).length<=12002*l.length:=by
 induction l with
 | nil=>simp[ZU]
 | cons a l ih=>
  have h1:=h a (List.mem_cons_self ..)
  have h2:=ih (fun p hp=>h p (List.mem_cons_of_mem _ hp))
  have h3:(Zcp a).length<=12001:=by unfold Zcp;rw[List.length_append,List.length_cons,Zi,Zi];omega
  cases l with
  | nil=>simp[ZU];omega
  | cons c l=>
   have e:ZU (a::c::l)=Zcp a++44::ZU (c::l):=rfl
   rw[e,List.length_append,List.length_cons]
   simp at *
   omega
theorem ZsP(l:List (ByteArray×ByteArray)):∀u∈ZbD l,u.oneCell'=true:=by
 induction l with
 | nil=>intro u hu;cases hu
 | cons a l ih=>
  intro u hu
  simp[ZbD]at hu
  rcases hu with rfl|rfl|hu
  ·rfl
  ·rfl
  ·exact ih u hu
theorem ZrF(a:Option Addr)(n cap:Nat)(w:World)(qs:List (ByteArray×ByteArray))(h:ZbT w 0 (.slice a n cap) n qs) :
  Calls Tryz.prog 228 #[.slice a n cap] w fun e w'=>∃(a':Option Addr) (cap':Nat),e=.returned (.slice a' n cap')/\ZbT w' 0 (.slice a' n cap') n qs/\Below w.heap.size w w':=by
 obtain⟨i0,hi,hz0,hz1,hz2⟩:=info_parts Tryz.infoLabel
 obtain⟨hown,hn,hz⟩:=h
 rcases hown.2 with ⟨hv,hn0⟩|⟨g,cp,cur,hv,_⟩
 ·injection hv with h1 h2 h3
  subst h1;subst h2;subst h3
  have HZ:Hid (ZbT w 0 (.slice none 0 0) 0 qs):=⟨hown,hn,hz⟩
  have he:∀W:World,(binOp .eql 266 (.slice none 0 0) (.slice none 0 0)).run Tryz.prog W=.ok (.bool true) W:=fun _=>rfl
  clear hown hz
  go_enter Tryz.func228,Tryz.ntmps228
  go_wp2
  go_ret
  exact⟨none,0,rfl,HZ.out,Below.refl _ _⟩
 ·injection hv with h1 h2 h3
  subst h1;subst h3
  have HC:Hid (∀j u,(ZbD qs)[j]?=some u->w.cell? ((⟨g,0,none⟩:Addr).add j)=some u):=hown.cells rfl
  have hl:(ZbD qs).length=n*2:=hown.1
  have he:∀W:World,(binOp .eql 266 (.slice (some ⟨g,0,none⟩) n cap) (.slice none 0 0)).run Tryz.prog W=.ok (.bool false) W:=fun _=>rfl
  have HZ:Hid (∀p∈qs,p.1.size<=6000/\p.2.size<=6000):=hz
  clear hown hz
  go_enter Tryz.func228,Tryz.ntmps228
  go_wp2_with (at_builtin;refine wpList_append_own _ rfl (.tmp 5) (.tmp 6) 266 rfl w.heap.size 378 i0 (.agg #[.string ByteArray.empty,.string ByteArray.empty]) 2 32 Tryz.underlying266 hi hz0 hz1 hz2 rfl (by decide) _ 0 [] rfl (World.ownsRow_made w #[] 0 (Nat.le_refl _) (by unfold maxLen;omega) rfl) ⟨g,0,none⟩ n _ (ZbD qs) rfl hl ?c1 ?c2 ?c3 ?c4 ?c5 ?_)
  case c1 => intro j u hj; have := HC.out j u hj; rw [Zfd] at this; try rw [Zfd]
             rw[World.cell?_alloc_lt _ _ _ (World.block_lt_of_cell? _ _ this)];exact this
  case c2=>exact ZsP qs
  case c3=>unfold maxLen;omega
  case c4=>omega
  intro v' w3 hown3 hgrow _
  obtain⟨av,cp3,hv3⟩:=Zv hown3
  subst hv3
  have hb3:Below w.heap.size w w3:=Zbal.grown hgrow (by simp) (fun q hq=>by simp[Value.ownBlock]at hq;omega)
  go_wp2
  go_ret
  exact⟨av,cp3,rfl,⟨Zk0 hown3,hn,HZ.out⟩,hb3⟩
theorem Zro{T e:TypeId}{B b:Nat}{bs:List Value}{w w':World}(h:Lib.IsBuilderF T e B b bs w)(hb:Below w.heap.size w w'):Lib.IsBuilderF T e B b bs w':=by
 have one:∀p,Lib.BuilderAtF T e B b p bs w->Lib.BuilderAtF T e B b p bs w':=by
  intro p h1
  have hlt:=h1.lt
  obtain⟨hB,v,hbk,hown,hne⟩:=h1
  refine⟨hB,v,(hb.block b hlt).trans hbk,⟨hown.1,?_⟩,hne⟩
  rcases hown.2 with hn|⟨g,cap,cur,fz,hv,hbg,hg,rest⟩
  ·exact .inl hn
  ·exact .inr ⟨g,cap,cur,fz,hv,hbg,(hb.block g (Array.getElem?_eq_some_iff.1 hg).1).trans hg,rest⟩
 exact h.elim (fun x=>.inl (one _ x)) (fun x=>.inr (one _ x))
theorem ZbT.below{w w':World}{base:Nat}{v:Value}{n:Nat}{qs:List (ByteArray×ByteArray)}(h:ZbT w base v n qs)(hb:Below w.heap.size w w'):ZbT w' base v n qs:=⟨Zw h.1 hb,h.2⟩
theorem Zg8{w w':World}{base:Nat}{e:TypeId}{size:Nat}{v:Value}{n:Nat}{xs:List Value}(h:w.ownsRow base e size v n xs)(hb:∀k,v.ownBlock=some k->w'.heap[k]?=w.heap[k]?):w'.ownsRow base e size v n xs:=by
 refine⟨h.1,?_⟩
 rcases h.2 with h2|⟨g,cap,cur,rfl,hg,hh,r⟩
 ·exact Or.inl h2
 ·exact Or.inr ⟨g,cap,cur,rfl,hg,(hb g rfl).trans hh,r⟩
theorem ZvV{w w':World}{base:Nat}{e u:TypeId}{size:Nat}{v:Value}{n:Nat}{xs:List Value}{b:Nat}(h:w.ownsRow base e size v n xs)(hk:Lib.OthersKept u (some b) w w')(he:e≠u)(hb:v.ownBlock≠some b):w'.ownsRow base e size v n xs:=by
 refine⟨h.1,?_⟩
 rcases h.2 with h2|⟨g,cap,cur,rfl,hg,hh,r⟩
 ·exact Or.inl h2
 ·exact Or.inr ⟨g,cap,cur,rfl,hg,hk g _ hh (fun x=>hb x) (fun c fz x=>by injection x with _ x2;exact he x2),r⟩
theorem Zrp{T e t:TypeId}{B b:Nat}{bs:List Value}{w:World}(h:Lib.IsBuilderF T e B b bs w){base size n:Nat}{v:Value}{xs:List Value}(hown:w.ownsRow base t size v n xs)(ht:T≠t):v.ownBlock≠some b:=by
 rcases h with ⟨_,_,hb,_⟩|⟨_,_,hb,_⟩ <;> exact fun x=>Zdl hown hb ht x.symm
theorem Zp2{w:World}{a:Nat}{x y:Value}{t:TypeId}{fr:Nat×Nat}(h:w.heap[a]?=some (.cells #[x,y] t fr)):w.cell? ⟨a,0,none⟩=some x/\w.cell? ⟨a,1,none⟩=some y:=by
 constructor <;> simp[World.cell?,h]
theorem ZeM(a b:ByteArray):bl (a++b)=bl a++bl b:=by simp[bl]
theorem ZoM(a:Option Addr)(n cap:Nat)(w:World)(qs:List (ByteArray×ByteArray))(h:ZbT w 0 (.slice a n cap) n qs) :
  Calls Tryz.prog 194 #[.slice a n cap] w fun e w'=>∃(a':Option Addr) (cap':Nat),e=.returned (.agg #[.slice a' n cap',.string ⟨(ZU qs).toArray⟩])/\ZbT w' 0 (.slice a' n cap') n qs/\Below w.heap.size w w':=by
 have hlen:qs.length=n:=by have:=h.1.1;rw[ZhK]at this;omega
 have HR:Hid (ZbT w 0 (.slice a n cap) n qs):=h
 have hn6:n<=6001:=h.2.1
 have HLS : Hid (∀ k, (ZU (qs.take k)).length <= 12002 * 6001) := hid (fun k => by
   have:=Zt0 (qs.take k) (fun p hp=>h.2.2 p (List.mem_of_mem_take hp))
   rw[List.length_take]at this
   have h2:min k qs.length<=6001:=by omega
   exact Nat.le_trans this (Nat.mul_le_mul_left _ h2))
 clear h
 go_enter Tryz.func194,Tryz.ntmps194
 go_wp2
 go_loopw [8] (fun i wr=>∃k:Nat,k<=n/\i=.int .i64 k/\Hid (Lib.IsBuilderF 89 5 (w.heap.size+1) (w.heap.size+1) (Lib.byteCells (ZU (qs.take k))) wr)/\Hid (Below (w.heap.size+1) (w.alloc (.cells #[.slice none 0 0,.string ⟨#[]⟩] 268)) wr)) (fun i _=>n - (intOf i).toNat)
 case atStart=>
  refine⟨0,Nat.zero_le _,rfl,?_,(Below.refl _ _).alloc (by simp) _⟩
  have:=Lib.IsBuilderF.of (Lib.fresh_isBuilder 89 5 (w.alloc (.cells #[.slice none 0 0,.string ⟨#[]⟩] 268)))
  rw[Go.Deep.nblk_alloc]at this
  exact this
 case round=>
  obtain⟨k,hk,rfl,HI,HB⟩:=hrel
  have hwr:w.heap.size+1<=wr.heap.size:=by have:=HB.size;rw[Go.Deep.nblk_alloc]at this;exact this
  have HBw:Hid (Below w.heap.size w wr):=hid (((Below.refl w.heap.size w).alloc (Nat.le_refl _) _).trans (HB.mono (by omega)))
  by_cases hlt:k<n
  ·have hg:∃g,a=some ⟨g,0,none⟩:=by
    obtain⟨g,cp,hv⟩:=ZW HR.1 (by omega)
    injection hv with hv1;exact⟨g,hv1⟩
   obtain⟨g,rfl⟩:=hg
   have hkq:k<qs.length:=by omega
   obtain⟨f1,f2⟩:=ZhJ qs k
   rw[List.getElem?_eq_getElem hkq]at f1 f2
   have hgl:=Zbq HR.1
   have c1:wr.cell? ⟨g,k*2,none⟩=some (.string qs[k].1):=(HBw.cell (p:=⟨g,k*2,none⟩) hgl).trans (Zr HR.1 _ _ f1)
   have c2:wr.cell? ⟨g,k*2+1,none⟩=some (.string qs[k].2):=(HBw.cell (p:=⟨g,k*2+1,none⟩) hgl).trans (Zr HR.1 _ _ f2)
   have hz:=HR.2.2 qs[k] (List.getElem_mem hkq)
   have HT:Hid (ZU (qs.take (k+1))=(if (qs.take k).isEmpty then [] else ZU (qs.take k)++[44])++Zcp qs[k]):=hid (by
    rw[List.take_succ_eq_append_getElem hkq];exact Zt1 _ _)
   have hls:=HLS.out k
   generalize qs[k]=p at *
   obtain⟨x,y⟩:=p
   clear f1 f2
   have hzx:x.size<=6000:=hz.1
   have hzy:y.size<=6000:=hz.2
   clear hz
   have hnew:∀t,(wr.alloc (.cells #[.string x,.string y] t)).heap[wr.heap.size]?=some (.cells #[.string x,.string y] t (0,0)):=fun t=>Go.Deep.blk_alloc_new _ _
   have hl1:(Lib.byteCells (ZU (qs.take k))).length+(⟨#[44]⟩:ByteArray).size<=140737488355328:=by rw[Lib.byteCells_length];show _+1<=_;omega
   have hl2:(Lib.byteCells (ZU (qs.take k))).length+(x++⟨#[61]⟩++y).size<=140737488355328:=by
    rw[Lib.byteCells_length,ByteArray.size_append,ByteArray.size_append];show _+(_+1+_)<=_;omega
   have hl3:(Lib.byteCells (ZU (qs.take k)++[44])).length+(x++⟨#[61]⟩++y).size<=140737488355328:=by
    rw[Lib.byteCells_length,List.length_append,ByteArray.size_append,ByteArray.size_append];show _+1+(_+1+_)<=_;omega
   have hb2:w.heap.size+1<wr.heap.size:=by
    rcases HI.out with h|h <;> exact h.lt
   have hb1:∀o,w.heap.size+1<=(wr.alloc o).heap.size:=fun o=>by rw[Go.Deep.nblk_alloc];omega
   by_cases hk0:k=0
   ·have HT2:Hid (ZU (qs.take (k+1))=ZU (qs.take k)++Zcp (x,y)):=hid (by rw[HT.out,hk0];rfl)
    have hdec:decide (0<(k:Int))=false:=decide_eq_false (by omega)
    clear HT
    have c1':wr.cell? ⟨g,0,none⟩=some (.string x):=by rw[hk0]at c1;simpa using c1
    have c2':wr.cell? ⟨g,1,none⟩=some (.string y):=by rw[hk0]at c2;simpa using c2
    go_wp2_with fail
    clear hdec
    refine(ZgG (w.heap.size+1) (w.heap.size+1) _ _ _ (Lib.IsBuilderF.alloc HI.out _) hl2 (hb1 _)).mono ?_
    rintro e W2 ⟨rfl,h2,b2,k2⟩
    have HI2:Hid (Lib.IsBuilderF 89 5 (w.heap.size+1) (w.heap.size+1) (Lib.byteCells (ZU (qs.take (k+1)))) W2):=hid (by
     rw[HT2.out,Lib.byteCells_append];refine Or.inr ?_
     have e:Lib.byteCells (Zcp (x,y))=Lib.strCells (x++⟨#[61]⟩++y):=by
      rw[Lib.strCells_eq];show _=Lib.byteCells (bl _);rw[ZeM,ZeM,List.append_assoc];rfl
     rw[e];exact h2)
    have HB2:Hid (Below (w.heap.size+1) (w.alloc (.cells #[.slice none 0 0,.string ⟨#[]⟩] 268)) W2):=(HB.alloc hwr _).trans b2
    clear h2 b2 k2
    go_wp2
    go_roundw
    case rel=>exact⟨k+1,by omega,by subst hk0;rfl,HI2,HB2⟩
    case measure=>simp[intOf];omega
   ·have HT2:Hid (ZU (qs.take (k+1))=ZU (qs.take k)++[44]++Zcp (x,y)):=hid (by
     rw[HT.out,if_neg (by rw[List.isEmpty_iff];intro e;have:=congrArg List.length e;rw[List.length_take,List.length_nil]at this;omega)])
    have hdec:decide (0<(k:Int))=true:=decide_eq_true (by omega)
    have hk2:0<k:=by omega
    clear HT
    go_wp2_with fail
    clear hk0 hdec hk2
    refine(ZgG (w.heap.size+1) (w.heap.size+1) _ _ _ (Lib.IsBuilderF.alloc HI.out _) hl1 (hb1 _)).mono ?_
    rintro e W1 ⟨rfl,h1,b1,k1⟩
    obtain⟨o0,o1⟩:=Zp2 (k1 wr.heap.size _ (hnew _) (by simp;omega) (by intro c fz h;simp at h))
    have hW1:w.heap.size+1<=W1.heap.size:=by have:=b1.size;rw[Go.Deep.nblk_alloc]at this;omega
    have HI1:Hid (Lib.IsBuilderF 89 5 (w.heap.size+1) (w.heap.size+1) (Lib.byteCells (ZU (qs.take k)++[44])) W1):=hid (by
     rw[Lib.byteCells_append];exact Or.inr h1)
    have HB1:Hid (Below (w.heap.size+1) (w.alloc (.cells #[.slice none 0 0,.string ⟨#[]⟩] 268)) W1):=(HB.alloc hwr _).trans b1
    clear h1 b1 k1
    go_wp2_with fail
    refine(ZgG (w.heap.size+1) (w.heap.size+1) _ _ _ HI1.out hl3 hW1).mono ?_
    rintro e W2 ⟨rfl,h2,b2,k2⟩
    have HI2:Hid (Lib.IsBuilderF 89 5 (w.heap.size+1) (w.heap.size+1) (Lib.byteCells (ZU (qs.take (k+1)))) W2):=hid (by
     rw[HT2.out,Lib.byteCells_append];refine Or.inr ?_
     have e:Lib.byteCells (Zcp (x,y))=Lib.strCells (x++⟨#[61]⟩++y):=by
      rw[Lib.strCells_eq];show _=Lib.byteCells (bl _);rw[ZeM,ZeM,List.append_assoc];rfl
     rw[e];exact h2)
    have HB2:Hid (Below (w.heap.size+1) (w.alloc (.cells #[.slice none 0 0,.string ⟨#[]⟩] 268)) W2):=HB1.trans b2
    clear h2 b2 k2 o0 o1
    go_wp2
    go_roundw
    case rel=>exact⟨k+1,by omega,by go_num,HI2,HB2⟩
    case measure=>simp[intOf];omega
  ·obtain rfl:k=n:=by omega
   have HI2:Hid (Lib.IsBuilderF 89 5 (w.heap.size+1) (w.heap.size+1) (Lib.byteCells (ZU qs)) wr):=hid (by
    have:=HI.out;rwa [List.take_of_length_le (by omega)]at this)
   clear HI
   go_wp2_with fail
   refine(ZrF _ _ _ wr qs (ZbT.below HR.out HBw.out)).mono ?_
   rintro e w2 ⟨a',cap',rfl,hr2,hb2⟩
   have HR2:Hid (ZbT w2 0 (.slice a' k cap') k qs):=hr2
   have HI3:Hid (Lib.IsBuilderF 89 5 (w.heap.size+1) (w.heap.size+1) (Lib.byteCells (ZU qs)) w2):=Zro HI2.out hb2
   have HB3:Hid (Below (w.heap.size+1) (w.alloc (.cells #[.slice none 0 0,.string ⟨#[]⟩] 268)) w2):=HB.trans (hb2.mono hwr)
   have hw2:w.heap.size+1<=w2.heap.size:=Nat.le_trans hwr hb2.size
   clear hr2 hb2
   go_wp2_with fail
   refine(Tryz.Builder_String_any_k (w.heap.size+1) (w.heap.size+1) (ZU qs) _ HI3.out hw2).mono ?_
   rintro e w3 ⟨rfl,_,b3,k3⟩
   have hbox:w3.heap[w.heap.size]?=some (.cells #[.slice none 0 0,.string ⟨#[]⟩] 268 (0,0)):=((HB3.trans b3).block _ (by omega)).trans (Go.Deep.blk_alloc_new _ _)
   obtain⟨k0,k1⟩:=Zp2 hbox
   have g0:w3.frozen? ⟨w.heap.size,0,none⟩=false:=by simp[World.frozen?,hbox]
   have g1:w3.frozen? ⟨w.heap.size,1,none⟩=false:=by simp[World.frozen?,hbox]
   have ho3:w3.ownsRow 0 378 2 (.slice a' k cap') k (ZbD qs):=ZvV HR2.1 k3 (by decide) (Zrp HI3.out HR2.1 (by decide))
   have HO3 : Hid (∀ x y, ((w3.setCell ⟨w.heap.size, 0, none⟩ x).setCell ⟨w.heap.size, 1, none⟩ y).ownsRow 0 378 2 (.slice a' k cap') k (ZbD qs)) := fun x y => Zg8 ho3 (fun j hj => by
     have hne:j≠w.heap.size:=by rintro rfl;exact Zdl ho3 hbox (by decide) hj.symm
     rw[Go.Deep.blk_setCell_other _ _ _ _ hne,Go.Deep.blk_setCell_other _ _ _ _ hne])
   have HBw3:Hid (Below w.heap.size w w3):=((Below.refl w.heap.size w).alloc (Nat.le_refl _) _).trans ((HB3.trans b3).mono (by omega))
   clear ho3 hbox b3 k3
   go_wp2
   exact bodyPost_ret (v:=.agg #[.slice a' k cap',.string ⟨(ZU qs).toArray⟩]) (by simp[results,Tryz.results194,go_sem,k0,k1]) rfl ⟨a',cap',rfl,⟨HO3.out _ _,HR2.2⟩,(HBw3.setCell (p:=⟨w.heap.size,0,none⟩) (Nat.le_refl _) _).setCell (p:=⟨w.heap.size,1,none⟩) (Nat.le_refl _) _⟩
def ZdY(p:Lab):Prop:=ZA p.1=true/\ZS p.2=true
def Zc0(l:List Lab):Prop:=l.length<=6001/\∀p∈l,ZdY p
theorem ZoC{c:UInt8}(hc:Zk c=false){n:List UInt8}(h:ZA n=true):c∉n:=by
 intro hm
 unfold ZA at h
 rw[Bool.and_eq_true]at h
 have:=List.all_eq_true.1 h.1 _ hm
 rw[hc]at this;cases this
theorem ZzY{c:UInt8}(hc:(Zk c || Zt c)=false){n:List UInt8}(h:ZS n=true):c∉n:=by
 intro hm
 unfold ZS at h
 rw[Bool.and_eq_true]at h
 have:=List.all_eq_true.1 h.1 _ hm
 rw[hc]at this;cases this
theorem ZnY{p:Lab}(h:ZdY p):(44:UInt8)∉lab1 p:=by
 unfold lab1
 rw[List.mem_append,List.mem_append]
 rintro((h1|h1)|h1)
 ·exact ZoC (by decide) h.1 h1
 ·exact absurd h1 (by decide)
 ·exact ZzY (by decide) h.2 h1
theorem ZnW{p:Lab}(h:ZdY p):cut 61 (lab1 p)=some p:=by
 unfold lab1
 rw[List.append_assoc]
 exact ZmF (ZoC (by decide) h.1)
theorem ZlL(p q:Lab)(l:List Lab):wrt (p::q::l)=lab1 p++44::wrt (q::l):=rfl
theorem ZlN(p:Lab):wrt [p]=lab1 p:=rfl
theorem Zlv:∀l:List Lab,l≠[]->(∀p∈l,ZdY p)->split 44 (wrt l)=l.map lab1
 | [],h,_=>absurd rfl h
 | [p], _, h => by
   have hn:=ZnY (h p (by simp))
   have e:=ZiM 44 (lab1 p) [] hn
   rw[List.append_nil]at e
   rw[ZlN,e]
   simp[split,pre]
 | p :: q :: l, _, h => by
   have hn:=ZnY (h p (by simp))
   rw[ZlL,ZiM 44 _ _ hn,Zhf,Zlv (q::l) (by simp) (fun x hx=>h x (List.mem_cons_of_mem _ hx))]
   simp[pre]
theorem Zos:∀l m:List Lab,(∀p∈l,ZdY p)->(∀p∈m,ZdY p)->l.map lab1=m.map lab1->l=m
 | [],[],_,_,_=>rfl
 | [],_::_,_,_,h=>by simp at h
 | _::_,[],_,_,h=>by simp at h
 | p :: l, q :: m, hl, hm, h => by
   rw[List.map_cons,List.map_cons]at h
   injection h with h1 h2
   have e1:=ZnW (hl p (by simp))
   rw[h1,ZnW (hm q (by simp))]at e1
   rw[Option.some.inj e1,Zos l m (fun x hx=>hl x (List.mem_cons_of_mem _ hx)) (fun x hx=>hm x (List.mem_cons_of_mem _ hx)) h2]
theorem ZqA(l:List Lab):wrt l=[] ↔ l=[]:=by
 constructor
 ·intro h
  match l,h with
  | [],_=>rfl
  | [p],h=>rw[ZlN]at h;unfold lab1 at h;simp at h
  | p::q::l,h=>rw[ZlL]at h;simp at h
 ·rintro rfl;rfl
theorem ZlM{l m:List Lab}(hl:Zc0 l)(hm:Zc0 m)(h:wrt l=wrt m):l=m:=by
 by_cases h0:l=[]
 ·subst h0
  exact((ZqA m).1 h.symm).symm
 ·have h1:m≠[]:=fun e=>h0 ((ZqA l).1 (by rw[h,e];rfl))
  have e1:=Zlv l h0 hl.2
  rw[h,Zlv m h1 hm.2]at e1
  exact Zos l m hl.2 hm.2 e1.symm
theorem ZnX{p:Lab}(h:ZdY p):(lab1 p).length<=17:=by
 have h1:=h.1
 have h2:=h.2
 unfold ZA at h1
 unfold ZS at h2
 simp only[Bool.and_eq_true,decide_eq_true_eq]at h1 h2
 unfold lab1
 simp only[List.length_append,List.length_singleton]
 omega
theorem Zqz:∀l:List Lab,(∀p∈l,ZdY p)->(wrt l).length<=18*l.length
 | [],_=>by simp[wrt,commas]
 | [p],h=>by rw[ZlN];have:=ZnX (h p (by simp));simp;omega
 | p :: q :: l, h => by
   have h1:=ZnX (h p (by simp))
   have h2:=Zqz (q::l) (fun x hx=>h x (List.mem_cons_of_mem _ hx))
   rw[ZlL,List.length_append,List.length_cons]
   simp only[List.length_cons]at *
   omega
theorem Zc0.len{l:List Lab}(h:Zc0 l):(wrt l).length<=108018:=by
 have:=Zqz l h.2
 have:=h.1
 omega
theorem Zc0.kept{l:List Lab}(h:Zc0 l)(bs:List (List UInt8)):Zc0 (Zz l bs):=⟨Nat.le_trans (List.length_filter_le _ _) h.1,fun p hp=>h.2 p (List.mem_filter.1 hp).1⟩
theorem Zkn:∀qs:List (ByteArray×ByteArray),ZU qs=wrt (qs.map blP)
 | []=>rfl
 | [p] => by
   show Zcp p=lab1 (blP p)
   unfold Zcp lab1 blP
   simp
 | p :: q :: l => by
   have e:ZU (p::q::l)=Zcp p++44::ZU (q::l):=rfl
   rw[e,Zkn (q::l)]
   show Zcp p++44::wrt ((q::l).map blP)=lab1 (blP p)++44::wrt ((q::l).map blP)
   congr 1
   unfold Zcp lab1 blP
   simp
theorem Zn0:∀(xs:List (List UInt8)) (last:List UInt8) (acc r:List Lab),Zbw last acc xs=some r->(∀p∈acc,ZdY p)->∀p∈r,ZdY p
 | [], _, _, _, h, ha => by
   rw[Zbw]at h
   injection h with h
   subst h
   exact ha
 | x :: xs, last, acc, r, h, ha => by
   rw[Zbw]at h
   split at h
   · cases h
   · rename_i p hp
     refine Zn0 xs p.1 _ r h (fun q hq=>?_)
     rcases List.mem_append.1 hq with hq|hq
     · exact ha q hq
     · rw[List.mem_singleton]at hq
       subst hq
       unfold ZdN at hp
       split at hp
       · cases hp
       · split at hp
         · rename_i hc
           injection hp with hp
           subst hp
           simp only[Bool.and_eq_true]at hc
           exact⟨hc.1.1.1,hc.1.1.2⟩
         · cases hp
theorem Zt2{l:List UInt8}{ps:List Lab}(h:ZbV l=some ps)(hl:ps.length<=6001):Zc0 ps:=by
 refine⟨hl,?_⟩
 unfold ZbV at h
 split at h
 ·injection h with h
  subst h
  intro p hp;cases hp
 ·exact Zn0 _ _ _ _ h (by simp)
theorem Zlw:∀(l m:List El),Srt l->Srt m->(∀z,z∈l ↔ z∈m)->l=m
 | [],[],_,_,_=>rfl
 | [],b::m,_,_,h=>by have:=(h b).2 (by simp);cases this
 | a::l,[],_,_,h=>by have:=(h a).1 (by simp);cases this
 | a :: l, b :: m, hl, hm, h => by
   obtain⟨l1,l2⟩:=List.pairwise_cons.1 hl
   obtain⟨m1,m2⟩:=List.pairwise_cons.1 hm
   have hab:a=b:=by
     rcases List.mem_cons.1 ((h a).1 (by simp))with e|e
     · exact e
     · rcases List.mem_cons.1 ((h b).2 (by simp))with e2|e2
       · exact e2.symm
       · have h1:Op.bytesLess (wrt b.1) (wrt a.1)=true:=m1 a e
         have h2:Op.bytesLess (wrt a.1) (wrt b.1)=true:=l1 b e2
         have:=ZdG _ _ _ h1 h2
         rw[ZcE]at this
         cases this
   subst hab
   have irr : ∀ z, lt1 a z -> z ≠ a := fun z hz e => by
     subst e
     unfold lt1 at hz
     rw[ZcE]at hz
     cases hz
   rw[Zlw l m l2 m2 (fun z=>?_)]
   constructor
   · intro hz
     rcases List.mem_cons.1 ((h z).1 (List.mem_cons_of_mem _ hz))with e|e
     · exact absurd e (irr z (l1 z hz))
     · exact e
   · intro hz
     rcases List.mem_cons.1 ((h z).2 (List.mem_cons_of_mem _ hz))with e|e
     · exact absurd e (irr z (m1 z hz))
     · exact e
def DstE(L:List El):Prop:=L.Pairwise fun a b=>wrt a.1≠wrt b.1
theorem ZxX {L L' : List El} (hd : DstE L) (hp : L'.Perm L) (hs : L'.Pairwise fun a b => Op.bytesLess (wrt b.1) (wrt a.1) = false) : L' = L.foldl Zb9 [] := by
  obtain⟨h1,h2,h3⟩:=ZgS L [] List.Pairwise.nil hd (by simp)
  have hd':DstE L':=(List.Perm.pairwise_iff (R:=fun(a b:El)=>wrt a.1≠wrt b.1) (fun h=>Ne.symm h) hp).2 hd
  refine Zlw _ _ ?_ h1 (fun z=>?_)
  · unfold Srt
    have:=hs.and hd'
    refine this.imp (fun {a b} hab=>?_)
    unfold lt1
    cases h:Op.bytesLess (wrt a.1) (wrt b.1)with
    | true=>rfl
    | false=>exact absurd (Zdq _ _ h hab.1) hab.2
  · rw[h3,hp.mem_iff]
    simp
theorem Zwn{L M:List El}(hL:DstE L)(hM:DstE M)(h:∀z,z∈L ↔ z∈M):L.foldl Zb9 []=M.foldl Zb9 []:=by
 obtain⟨h1,_,h3⟩:=ZgS L [] List.Pairwise.nil hL (by simp)
 obtain⟨k1,_,k3⟩:=ZgS M [] List.Pairwise.nil hM (by simp)
 refine Zlw _ _ h1 k1 (fun z=>?_)
 rw[h3,k3]
 simp[h z]
def TmS(l:List (Int×Int)):Prop:=l.Pairwise fun a b=>a.1<b.1
def ZY(l:List (Int×Int))(t:Int):Nat:=l.countP fun x=>decide (x.1<=t)
theorem Zmm{l:List (Int×Int)}{t:Int}(h:∀x∈l,t<x.1):ZY l t=0:=by
 unfold ZY
 rw[List.countP_eq_zero]
 intro x hx
 have:=h x hx
 simp;omega
theorem ZpS (t : Int) : ∀ l : List (Int × Int), TmS l -> l.take (ZY l t) = l.filter fun x => decide (x.1 <= t)
  | [],_=>rfl
  | a :: l, h => by
    obtain⟨h1,h2⟩:=List.pairwise_cons.1 h
    by_cases ha:a.1<=t
    · have e:ZY (a::l) t=ZY l t+1:=List.countP_cons_of_pos (by simpa using ha)
      rw[e,List.take_succ_cons,ZpS t l h2,List.filter_cons_of_pos (by simpa using ha)]
    · have hz : ∀ x ∈ a :: l, t < x.1 := fun x hx => by
        rcases List.mem_cons.1 hx with rfl|hx
        · omega
        · have:=h1 x hx;omega
      rw[Zmm hz,List.take_zero]
      symm
      rw[List.filter_eq_nil_iff]
      intro x hx
      have:=hz x hx
      simp;omega
theorem ZmN (t : Int) : ∀ l : List (Int × Int), TmS l -> l.drop (ZY l t) = l.filter fun x => decide (t < x.1)
  | [],_=>rfl
  | a :: l, h => by
    obtain⟨h1,h2⟩:=List.pairwise_cons.1 h
    by_cases ha:a.1<=t
    · have e:ZY (a::l) t=ZY l t+1:=List.countP_cons_of_pos (by simpa using ha)
      rw[e,List.drop_succ_cons,ZmN t l h2,List.filter_cons_of_neg (by simp;omega)]
    · have hz : ∀ x ∈ a :: l, t < x.1 := fun x hx => by
        rcases List.mem_cons.1 hx with rfl|hx
        · omega
        · have:=h1 x hx;omega
      rw[Zmm hz,List.drop_zero]
      symm
      rw[List.filter_eq_self]
      intro x hx
      have:=hz x hx
      simp;omega
theorem ZrL(l:List (Int×Int)){s t:Int}(h:s<=t):ZY l s<=ZY l t:=by
 unfold ZY
 refine List.countP_mono_left (fun x _ hx=>?_)
 simp at hx ⊢;omega
theorem ZjB(l:List (Int×Int))(t:Int):ZY l t<=l.length:=List.countP_le_length
theorem ZzX{l:List (Int×Int)}(h:TmS l){n t:Int}(hn:0<=n):(l.take (ZY l t)).drop (ZY l (t - n))=ZbI l n t:=by
 have e : ZY l (t - n) = ZY (l.filter fun x => decide (x.1 <= t)) (t - n) := by
   unfold ZY
   rw[List.countP_filter]
   refine List.countP_congr (fun x _=>?_)
   simp;omega
 rw[ZpS t l h,e,ZmN _ _ (h.filter _),List.filter_filter]
 rfl
theorem Zs6 {α : Type} (l : List α) (d : α) : (List.range l.length).map (fun i => l.getD i d) = l := by
  refine List.ext_getElem (by simp) (fun i h1 h2=>?_)
  simp[h2]
abbrev Grp:=List Lab×List Int
def addG(k:List Lab)(v:Int):List Grp->List Grp
 | []=>[(k,[v])]
 | g::m=>if g.1=k then (k,g.2++[v])::m else g::addG k v m
def grpV(bs:List (List UInt8))(l:List El):List Grp:=l.foldl (fun m e=>addG (Zz e.1 bs) e.2 m) []
def Zdm(bs:List (List UInt8))(l:List El)(k:List Lab):List Int:=(l.filter fun f=>decide (Zz f.1 bs=k)).map (·.2)
theorem Zi5(k:List Lab)(v:Int):∀m:List Grp,(addG k v m).map (·.1)=if k∈m.map (·.1)then m.map (·.1)else m.map (·.1)++[k]
 | []=>by simp[addG]
 | g :: m => by
   rw[addG]
   by_cases h:g.1=k
   · rw[if_pos h];simp[h]
   · rw[if_neg h,List.map_cons,Zi5 k v m]
     have hk:(k∈(g::m).map (·.1)) ↔ (k∈m.map (·.1)):=by
       rw[List.map_cons,List.mem_cons]
       constructor
       · rintro(e|e)
         · exact absurd e.symm h
         · exact e
       · exact Or.inr
     by_cases hm:k∈m.map (·.1)
     · rw[if_pos hm,if_pos (hk.2 hm)];rfl
     · rw[if_neg hm,if_neg (fun e=>hm (hk.1 e))];rfl
theorem ZlP(k:List Lab)(v:Int):∀m:List Grp,(m.map (·.1)).Nodup->∀g:Grp,g∈addG k v m ↔ (g.1≠k/\g∈m)∨(g.1=k/\((∃h∈m,h.1=k/\g.2=h.2++[v])∨(k∉m.map (·.1)/\g.2=[v])))
 | [], _, g => by
   rw[addG]
   simp only[List.mem_singleton,List.not_mem_nil,and_false,false_or,List.map_nil,not_false_eq_true,true_and,false_and,exists_false]
   constructor
   · rintro rfl;exact⟨rfl,rfl⟩
   · rintro⟨h1,h2⟩;exact Prod.ext h1 h2
 | a :: m, hn, g => by
   rw[List.map_cons,List.nodup_cons]at hn
   rw[addG]
   by_cases h:a.1=k
   · rw[if_pos h]
     have hk:k∉m.map (·.1):=by rw[<-h];exact hn.1
     rw[List.mem_cons]
     constructor
     · rintro(rfl|hg)
       · exact Or.inr ⟨rfl,Or.inl ⟨a,by simp,h,rfl⟩⟩
       · refine Or.inl ⟨fun e=>hk (List.mem_map.2 ⟨g,hg,e⟩),List.mem_cons_of_mem _ hg⟩
     · rintro(⟨h1,h2⟩|⟨h1,(⟨x,h2,h3,h4⟩|⟨h2,_⟩)⟩)
       · rcases List.mem_cons.1 h2 with rfl|h2
         · exact absurd h h1
         · exact Or.inr h2
       · rcases List.mem_cons.1 h2 with rfl|h2
         · exact Or.inl (Prod.ext h1 h4)
         · exact absurd (List.mem_map.2 ⟨x,h2,h3⟩) hk
       · exact absurd (by simp[h]) h2
   · rw[if_neg h,List.mem_cons,ZlP k v m hn.2 g]
     constructor
     · rintro(rfl|⟨h1,h2⟩|⟨h1,(⟨x,h2,h3,h4⟩|⟨h2,h3⟩)⟩)
       · exact Or.inl ⟨h,by simp⟩
       · exact Or.inl ⟨h1,List.mem_cons_of_mem _ h2⟩
       · exact Or.inr ⟨h1,Or.inl ⟨x,List.mem_cons_of_mem _ h2,h3,h4⟩⟩
       · refine Or.inr ⟨h1,Or.inr ⟨?_,h3⟩⟩
         rw[List.map_cons,List.mem_cons]
         rintro(e|e)
         · exact h e.symm
         · exact h2 e
     · rintro(⟨h1,h2⟩|⟨h1,(⟨x,h2,h3,h4⟩|⟨h2,h3⟩)⟩)
       · rcases List.mem_cons.1 h2 with rfl|h2
         · exact Or.inl rfl
         · exact Or.inr (Or.inl ⟨h1,h2⟩)
       · rcases List.mem_cons.1 h2 with rfl|h2
         · exact absurd h3 h
         · exact Or.inr (Or.inr ⟨h1,Or.inl ⟨x,h2,h3,h4⟩⟩)
       · exact Or.inr (Or.inr ⟨h1,Or.inr ⟨fun e=>h2 (by rw[List.map_cons];exact List.mem_cons_of_mem _ e),h3⟩⟩)
theorem Zns(bs:List (List UInt8))(l:List El)(e:El):grpV bs (l++[e])=addG (Zz e.1 bs) e.2 (grpV bs l):=by unfold grpV;rw[List.foldl_append];rfl
theorem ZzB(bs:List (List UInt8))(l:List El)(e:El)(k:List Lab):Zdm bs (l++[e]) k=if Zz e.1 bs=k then Zdm bs l k++[e.2] else Zdm bs l k:=by
 unfold Zdm
 rw[List.filter_append,List.map_append]
 split
 ·rename_i h;rw[List.filter_cons_of_pos (by simpa using h)];rfl
 ·rename_i h;rw[List.filter_cons_of_neg (by simpa using h)];simp
theorem ZxS{α:Type}{P:List α->Prop}(h0:P [])(h1:∀l a,P l->P (l++[a]))(l:List α):P l:=by
 have h : ∀ m : List α, P m.reverse := fun m => by
   induction m with
   | nil=>exact h0
   | cons a m ih=>rw[List.reverse_cons];exact h1 _ _ ih
 have:=h l.reverse
 rwa [List.reverse_reverse]at this
theorem Zti(bs:List (List UInt8))(l:List El):((grpV bs l).map (·.1)).Nodup/\(∀k,k∈(grpV bs l).map (·.1) ↔ ∃e∈l,Zz e.1 bs=k)/\(∀g:Grp,g∈grpV bs l ↔ (∃e∈l,Zz e.1 bs=g.1)/\g.2=Zdm bs l g.1):=by
 induction l using ZxS with
 | h0=>exact⟨List.nodup_nil,by simp[grpV],by simp[grpV]⟩
 | h1 l e ih=>
  obtain⟨h1,h2,h3⟩:=ih
  rw[Zns]
  refine⟨?_,fun k=>?_,fun g=>?_⟩
  ·rw[Zi5]
   split
   ·exact h1
   ·rename_i hn
    rw[List.nodup_append]
    exact⟨h1,by simp,fun a ha b hb=>by rw[List.mem_singleton]at hb;subst hb;intro e';subst e';exact hn ha⟩
  ·rw[Zi5]
   split
   ·rename_i hm
    rw[h2]
    constructor
    ·rintro⟨x,hx,e'⟩;exact⟨x,List.mem_append_left _ hx,e'⟩
    ·rintro⟨x,hx,e'⟩
     rcases List.mem_append.1 hx with hx|hx
     ·exact⟨x,hx,e'⟩
     ·rw[List.mem_singleton]at hx;subst hx;subst e';exact(h2 _).1 hm
   ·rw[List.mem_append,h2,List.mem_singleton]
    constructor
    ·rintro(⟨x,hx,e'⟩|rfl)
     ·exact⟨x,List.mem_append_left _ hx,e'⟩
     ·exact⟨e,by simp,rfl⟩
    ·rintro⟨x,hx,e'⟩
     rcases List.mem_append.1 hx with hx|hx
     ·exact Or.inl ⟨x,hx,e'⟩
     ·rw[List.mem_singleton]at hx;subst hx;exact Or.inr e'.symm
  ·rw[ZlP _ _ _ h1 g,ZzB]
   by_cases hk:g.1=Zz e.1 bs
   ·rw[if_pos hk.symm]
    constructor
    ·rintro(⟨a1,_⟩|⟨_,(⟨x,a2,a3,a4⟩|⟨a2,a3⟩)⟩)
     ·exact absurd hk a1
     ·refine⟨⟨e,by simp,hk.symm⟩,?_⟩
      rw[a4,((h3 x).1 a2).2,a3,hk]
     ·refine⟨⟨e,by simp,hk.symm⟩,?_⟩
      rw[a3]
      have:Zdm bs l g.1=[]:=by
       unfold Zdm
       rw[List.map_eq_nil_iff,List.filter_eq_nil_iff]
       intro f hf hc
       exact a2 ((h2 _).2 ⟨f,hf,by rw[<-hk];simpa using hc⟩)
      rw[this];rfl
    ·rintro⟨_,a2⟩
     refine Or.inr ⟨hk,?_⟩
     by_cases hm:Zz e.1 bs∈(grpV bs l).map (·.1)
     ·obtain⟨x,hx,ex⟩:=List.mem_map.1 hm
      refine Or.inl ⟨x,hx,ex,?_⟩
      rw[a2,((h3 x).1 hx).2,ex,hk]
     ·refine Or.inr ⟨hm,?_⟩
      have:Zdm bs l g.1=[]:=by
       unfold Zdm
       rw[List.map_eq_nil_iff,List.filter_eq_nil_iff]
       intro f hf hc
       exact hm ((h2 _).2 ⟨f,hf,by rw[<-hk];simpa using hc⟩)
      rw[a2,this];rfl
   ·rw[if_neg (fun x=>hk x.symm)]
    constructor
    ·rintro(⟨_,a2⟩|⟨a1,_⟩)
     ·obtain⟨⟨x,hx,ex⟩,a3⟩:=(h3 g).1 a2
      exact⟨⟨x,List.mem_append_left _ hx,ex⟩,a3⟩
     ·exact absurd a1 hk
    ·rintro⟨⟨x,hx,ex⟩,a2⟩
     refine Or.inl ⟨hk,(h3 g).2 ⟨?_,a2⟩⟩
     rcases List.mem_append.1 hx with hx|hx
     ·exact⟨x,hx,ex⟩
     ·rw[List.mem_singleton]at hx;subst hx;exact absurd ex.symm hk
def ZgV(op:Nat)(g:Grp):El:=(g.1,cutV (Zek op g.2))
theorem Znn(op:Nat)(bs:List (List UInt8))(all:List El)(hw:∀e∈all,Zc0 e.1):∀(l pre:List El),(∀e∈l,e∈all)->(∀e∈pre,e∈all)->∀x:El,x∈ZcQ op bs all pre l ↔ ∃e∈l,(∀f∈pre,Zz f.1 bs≠Zz e.1 bs)/\x=ZgV op (Zz e.1 bs,Zdm bs all (Zz e.1 bs))
 | [],pre,_,_,x=>by simp[ZcQ]
 | e :: l, pre, hl, hp, x => by
   have ih := Znn op bs all hw l (pre ++ [e]) (fun f hf => hl f (List.mem_cons_of_mem _ hf)) (fun f hf => by
     rcases List.mem_append.1 hf with hf|hf
     · exact hp f hf
     · rw[List.mem_singleton]at hf;subst hf;exact hl f (by simp)) x
   have he:=hl e (by simp)
   have hkey:∀f∈all,(wrt (Zz f.1 bs)=wrt (Zz e.1 bs)) ↔ Zz f.1 bs=Zz e.1 bs:=fun f hf=>⟨fun h=>ZlM ((hw f hf).kept bs) ((hw e he).kept bs) h,fun h=>by rw[h]⟩
   have hval : (all.filter fun f => decide (wrt (Zz f.1 bs) = wrt (Zz e.1 bs))).map (·.2) = Zdm bs all (Zz e.1 bs) := by
     unfold Zdm
     congr 1
     refine List.filter_congr (fun f hf=>?_)
     rw[decide_eq_decide]
     exact hkey f hf
   have hany : pre.any (fun f => decide (wrt (Zz f.1 bs) = wrt (Zz e.1 bs))) = true ↔ ∃ f ∈ pre, Zz f.1 bs = Zz e.1 bs := by
     rw[List.any_eq_true]
     constructor
     · rintro⟨f,hf,h⟩;exact⟨f,hf,(hkey f (hp f hf)).1 (by simpa using h)⟩
     · rintro⟨f,hf,h⟩;exact⟨f,hf,by simpa using (hkey f (hp f hf)).2 h⟩
   rw[ZcQ,List.mem_append,ih,hval]
   constructor
   · rintro(h|⟨f,hf,h1,h2⟩)
     · split at h
       · cases h
       · rename_i hn
         rw[List.mem_singleton]at h
         refine⟨e,by simp,fun f hf hc=>hn (hany.2 ⟨f,hf,hc⟩),h⟩
     · exact⟨f,List.mem_cons_of_mem _ hf,fun z hz=>h1 z (List.mem_append_left _ hz),h2⟩
   · rintro⟨f,hf,h1,h2⟩
     by_cases hc:Zz e.1 bs=Zz f.1 bs
     · left
       rw[if_neg (fun ha=>by obtain⟨z,hz,ez⟩:=hany.1 ha;exact h1 z hz (ez.trans hc)),List.mem_singleton]
       rw[h2,<-hc];rfl
     · right
       rcases List.mem_cons.1 hf with rfl|hf
       · exact absurd rfl hc
       · refine⟨f,hf,fun z hz=>?_,h2⟩
         rcases List.mem_append.1 hz with hz|hz
         · exact h1 z hz
         · rw[List.mem_singleton]at hz;subst hz;exact hc
theorem Ztg(op:Nat)(bs:List (List UInt8))(l:List El)(hw:∀e∈l,Zc0 e.1)(L:List El)(hL:L.Perm ((grpV bs l).map (ZgV op))):DstE L/\L.foldl Zb9 []=Zec op bs l:=by
 obtain⟨s1,s2,s3⟩:=Zti bs l
 have hd0:DstE ((grpV bs l).map (ZgV op)):=by
  unfold DstE
  rw[List.pairwise_map]
  have hnd : (grpV bs l).Pairwise fun a b => a.1 ≠ b.1 := by
    have:=s1
    unfold List.Nodup at this
    rwa [List.pairwise_map]at this
  refine List.Pairwise.imp_of_mem ?_ hnd
  intro a b ha hb hab he
  obtain⟨⟨x,hx,ex⟩,_⟩:=(s3 a).1 ha
  obtain⟨⟨y,hy,ey⟩,_⟩:=(s3 b).1 hb
  refine hab (ZlM ?_ ?_ he)
  ·show Zc0 a.1
   rw[<-ex];exact(hw x hx).kept bs
  ·show Zc0 b.1
   rw[<-ey];exact(hw y hy).kept bs
 have hd:DstE L:=(List.Perm.pairwise_iff (R:=fun(a b:El)=>wrt a.1≠wrt b.1) (fun h=>Ne.symm h) hL).2 hd0
 refine⟨hd,?_⟩
 unfold Zec
 refine Zwn hd (Zj8 op bs l l []).1 (fun z=>?_)
 rw[hL.mem_iff,Znn op bs l hw l [] (fun _ h=>h) (by simp) z,List.mem_map]
 constructor
 ·rintro⟨g,hg,rfl⟩
  obtain⟨⟨x,hx,ex⟩,h2⟩:=(s3 g).1 hg
  refine⟨x,hx,by simp,?_⟩
  unfold ZgV
  rw[ex,<-h2]
 ·rintro⟨e,he,_,h2⟩
  exact⟨(Zz e.1 bs,Zdm bs l (Zz e.1 bs)),(s3 _).2 ⟨⟨e,he,rfl⟩,rfl⟩,h2.symm⟩
end Go.Proofs.YtcdgkkfipdoeeaaGreatDoor
