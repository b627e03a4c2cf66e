/- Parts. -/
import Derived.Test.YtcdgkkfipdoeeaaGreatDoorProg
import Derived.Lib.Strings
import Derived.WalkSpells
import Derived.WalkLawsBesides
import Derived.Deep.Trees
import Derived.Deep.DeepCutAuto
import Derived.Deep.RegionLaw
set_option linter.all false
set_option maxRecDepth 100000
set_option maxHeartbeats 16000000
namespace Go.Proofs.YtcdgkkfipdoeeaaGreatDoor.LS
open Go Go.RowKit
abbrev Ya0:=@List.getElem?_set
abbrev Ya1:=@Nat.not_lt_zero
abbrev Ya2:=@List.getElem?_map
abbrev Ya3:=@List.eq_nil_of_length_eq_zero
abbrev Ya4:=@List.take_length
abbrev Ya5:=@List.take_of_length_le
abbrev Ya6:=@Option.getD_some
abbrev Ya7:=@List.length_take
abbrev Ya8:=@List.prefix_refl
abbrev Ya9:=@List.getElem?_eq_none
abbrev Yaa:=@List.getD_eq_getElem?_getD
abbrev Yab:=@List.length_append
abbrev Yac:=@Nat.le_refl
abbrev Yae:=@Array.getElem?_eq_some_iff
abbrev Yaf:=@Go.RowKit.Below.refl
abbrev Yag:=@Nat.zero_le
abbrev Yah:=@Nat.le_trans
abbrev Yai:=@Go.World.block_lt_of_cell?
abbrev Yaj:=@List.length_cons
abbrev Yak:=@List.length_map
abbrev Yam:=@List.mem_cons_of_mem
abbrev Yan:=@List.append_assoc
abbrev Yap:=@List.mem_singleton
abbrev Yaq:=@List.map_append
abbrev Yar:=@List.mem_append
abbrev Yas:=@Bool.and_eq_true
abbrev Yat:=@List.length_set
abbrev Yau:=@List.mem_cons
abbrev Yav:=@Nat.lt_or_ge
abbrev Yaw:=@Nat.lt_of_lt_of_le
abbrev Yax:=@Option.some.inj
abbrev Yay:=@List.mem_cons_self
abbrev Yaz:=@ByteArray.size_append
abbrev Yb0:=@Option.isSome_some
abbrev Yb1:=@List.map_map
abbrev Yb2:=@Array.getElem?_toList
abbrev Yb3:=@List.getElem?_append_right
abbrev Yb4:=@List.length_tail
abbrev Yb5:=@List.size_toArray
abbrev Yb6:=@Classical.byContradiction
abbrev Yb7:=@Option.isSome_none
abbrev Yb8:=@List.drop_of_length_le
abbrev Yb9:=@List.mem_range
abbrev Ybb:=@List.map_cons
abbrev Ybc:=@Go.World.ownsRow_nil
abbrev Ybd:=@Nat.lt_succ_self
abbrev Ybe:=@List.mem_map
abbrev Ybf:=@Option.map_some
abbrev Ybg:=@List.pairwise_cons
abbrev Ybh:=@Bool.eq_iff_iff
abbrev Ybj:=@List.length_singleton
abbrev Ybk:=@Option.map_eq_some_iff
abbrev Ybl:=@Array.length_toList
abbrev Ybm:=@Go.World.cell?_alloc_lt
abbrev Ybn:=@Array.getElem?_modify
abbrev Ybo:=@Go.IntKind.wrap_i64
abbrev Ybp:=@List.foldl_cons
abbrev Ybq:=@List.length_nil
abbrev Ybr:=@List.getElem?_append_left
abbrev Ybs:=@List.getElem?_replicate
abbrev Ybt:=@Go.MapKept.run_getObj_map
abbrev Ybu:=@List.all_eq_true
abbrev Ybv:=@List.length_drop
abbrev Ybx:=@List.pairwise_map
abbrev Yby:=@List.cons_append
abbrev Yc1:=@List.filter_eq_nil_iff
abbrev Yc2:=@List.find?_eq_none
abbrev Yc3:=@Nat.min_eq_left
abbrev Yc4:=@List.setIfInBounds_toArray
abbrev Yc5:=@Prod.mk.injEq
abbrev Yc6:=@Nat.mul_le_mul_right
abbrev Yc7:=@List.mem_append_left
abbrev Yc8:=@List.drop_take
abbrev Yc9:=@Option.getD_none
abbrev Yca:=@List.append_nil
abbrev Ycb:=@List.map_congr_left
abbrev Ycc:=@Go.World.cell?_of_block
abbrev Ycd:=@List.flatMap_cons
abbrev Yce:=@Bool.eq_false_iff
abbrev Ycf:=@Nat.zero_add
abbrev Ycg:=@List.mem_filter
abbrev Ych:=@Go.MapKept.run_setObj_map
abbrev Yci:=@Option.some.injEq
abbrev Ycj:=@List.length_pos_iff
abbrev Yck:=@List.mem_or_eq_of_mem_set
abbrev Ycl:=@Go.Exit.noGoto_ret
abbrev Ycm:=@List.getElem?_eq_some_iff
abbrev Ycn:=@List.take_append_drop
abbrev Yco:=@List.map_singleton
abbrev Ycp:=@Ne.symm
abbrev Ycq:=@List.mem_of_getElem?
abbrev Ycr:=@Bool.not_eq_true'
abbrev Ycs:=@List.ext_getElem?
abbrev Yct:=@Bool.or_eq_true
abbrev Ycu:=@List.nil_append
abbrev Ycv:=@Bool.false_ne_true
abbrev Ycw:=@Option.isSome_iff_exists
abbrev Ycx:=@List.Pairwise.imp_of_mem
abbrev Ycy:=@List.getElem?_cons_zero
abbrev Ycz:=@List.any_eq_true
abbrev Yd0:=@Int.le_refl
abbrev Yd1:=@List.head?_eq_getElem?
abbrev Yd2:=@List.sum_cons
abbrev Yd3:=@Bool.and_true
abbrev Yd5:=@List.set_append_right
abbrev Yd6:=@List.singleton_append
abbrev Yd8:=@List.map_set
abbrev Yda:=@List.filter_cons_of_pos
abbrev Ydb:=@List.filter_cons_of_neg
abbrev Ydc:=@Go.World.frozen?_alloc_old
abbrev Ydd:=@List.prefix_append
abbrev Yde:=@Bool.false_eq_true
abbrev Ydf:=@UInt8.toNat_inj
abbrev Ydg:=@List.map_nil
abbrev Ydh:=@Nat.le_of_eq
abbrev Ydi:=@Bool.and_false
abbrev Ydj:=@List.length_filter_le
abbrev Ydk:=@List.contains_iff_mem
abbrev Ydl:=@List.isEmpty_iff
abbrev Ydm:=@Go.World.cell?_alloc_at
abbrev Ydn:=@List.mem_of_mem_take
abbrev Ydp:=@Nat.le_succ
abbrev Ydq:=@Go.WideAt.sameKey_self
abbrev Yds:=@List.flatMap_append
abbrev Ydt:=@List.map_eq_nil_iff
abbrev Ydu:=@Array.toList_filter
abbrev Ydx:=@List.set_cons_succ
abbrev Ydy:=@List.foldl_append
abbrev Ye0:=@List.sum_nil
abbrev Ye1:=@Go.WideAt.atKey_mem
abbrev Ye3:=@Array.getElem?_push_size
abbrev Ye4:=@Array.setIfInBounds_comm
abbrev Ye6:=@List.getLast_eq_getLastD
abbrev Ye7:=@List.getElem?_take_of_lt
abbrev Ye9:=@List.pairwise_singleton
abbrev Yea:=@Array.replicate_succ
abbrev Yeb:=@Array.replicate_zero
abbrev Yed:=@List.take_succ_cons
abbrev Yee:=@List.getD_cons_succ
abbrev Yef:=@List.filterMap_cons
abbrev Yeg:=@List.filter_eq_self
abbrev Yeh:=@List.append_toArray
abbrev Yei:=@List.drop_drop
abbrev Yej:=@Nat.mul_one
abbrev Yek:=@Go.World.grownBy.refl
abbrev Yel:=@List.getLastD_cons
abbrev Yem:=@Array.extract_eq_self_of_le
abbrev Yep:=@List.all_cons
abbrev Yeq:=@Array.toList_setIfInBounds
abbrev Yer:=@List.map_take
abbrev Yes:=@Int.tdiv_eq_ediv_of_nonneg
abbrev Yev:=@Nat.lt_trichotomy
abbrev Yew:=@List.push_toArray
abbrev Yex:=@List.mem_of_find?_eq_some
abbrev Yey:=@List.getLastD_eq_getLast?
abbrev Yf0:=@UInt8.toNat_ofNat'
abbrev Yf1:=@List.all_eq_false
abbrev Yf2:=@List.nodup_cons
abbrev Yf3:=@Option.map_eq_none_iff
abbrev Yf4:=@Bool.or_false
abbrev Yf5:=@Nat.add_zero
abbrev Yfb:=@List.countP_cons_of_pos
abbrev Yfc:=@List.all_append
abbrev Yfe:=@Go.Oper.upon_value
abbrev Yff:=@Int.natAbs_tdiv
abbrev Yfg:=@Nat.div_le_self
abbrev Yfh:=@Go.World.var?_cell
abbrev Yfi:=@Array.getElem?_eq_none
abbrev Yfk:=@List.Perm.pairwise_iff
abbrev Yfm:=@Bool.and_eq_false_iff
abbrev Yfo:=@Array.getElem?_append
abbrev Yfp:=@UInt8.lt_iff_toNat_lt
abbrev Yft:=@Bool.false_or
abbrev Yfv:=@Nat.succ_mul
abbrev Yfw:=@Nat.sub_self
abbrev Yfy:=@List.count_cons
abbrev Yfz:=@List.count_eq_zero_of_not_mem
abbrev LB:=List UInt8
abbrev BA:=ByteArray
abbrev Vi(n:Int):Value:=.int .i64 n
abbrev Vp(b:Nat):Value:=.pointer (some ⟨b,0,none⟩)
abbrev S0:Value:=.slice none 0 0
abbrev BW(a b:World):Prop:=Below a.heap.size a b
abbrev Cz:=@Calls Tryz.prog
theorem Dc{p:Prop}(h:p:=by decide):p:=h
theorem Om{p:Prop}(h:p:=by omega):p:=h
theorem Kr{p:Prop}(h:p:=by kernel_rfl):p:=h
theorem hid{p:Prop}(h:p):Hid p:=h
def bl(s:BA):LB:=s.data.toList
theorem Zbt(s:BA):s.toList=bl s:=Lib.toList_data s
theorem Zd(s:BA):(bl s).length=s.size:=by rfl
theorem ZoT{s:BA}(h:s.size<1):s.toList.isEmpty=true:=by
 simp_all
theorem Zrh{s:BA}(h:1<=s.size):s.toList.isEmpty=false:=by
 rw[Zbt,List.isEmpty_eq_false_iff,<-Ycj,Zd];omega
theorem ZbF(l:LB):bl ⟨l.toArray⟩=l:=by rfl
theorem Zq6(s:BA):(⟨(bl s).toArray⟩:BA)=s:=by rfl
theorem ZgE (s : BA) (k : Nat) (h : k < s.size) : (bl s)[k]'(by rw [Zd]; exact h) = s[k] := by
  rfl
theorem ZcW{a b:BA}(h:bl a=bl b):a=b:=by rw[<-Zq6 a,<-Zq6 b,h]
theorem Zfh(s:BA)(a b:Nat):bl (s.extract a b)=((bl s).take b).drop a:=by
 unfold bl;rw[ByteArray.data_extract];simp[Array.toList_extract];rw[Yc8]
def Zp(c:UInt8):Bool:=decide (97<=(c.toNat:Int)) && decide ((c.toNat:Int)<=122)
def ZC(c:UInt8):Bool:=decide (48<=(c.toNat:Int)) && decide ((c.toNat:Int)<=57)
def Zx(l:LB):Bool:=l.all Zp && (decide (1<=(l.length:Int)) && decide ((l.length:Int)<=8))
def Z3(l:LB):Bool:=l.all (fun c=>Zp c || ZC c) && decide ((l.length:Int)<=8)
theorem ZiB(s:BA)(k:Nat)(h:k<s.size):(bl s).take (k+1)=(bl s).take k++[s[k]]:=by
 rw[List.take_succ_eq_append_getElem (by rwa [Zd]),ZgE s k h]
theorem ZdW(s:BA)(k:Nat)(h:k<s.size):(bl s).drop k=s[k]::(bl s).drop (k+1):=by
 rw[List.drop_eq_getElem_cons (by rwa [Zd]),ZgE s k h]
theorem ZkI{p:UInt8->Bool}(s:BA)(k:Nat)(h:k<s.size)(a:((bl s).take k).all p=true)(c:p s[k]=true):((bl s).take (k+1)).all p=true:=by
 rw[ZiB s k h,Yfc,a];simp[c]
theorem ZkH(p:UInt8->Bool)(s:BA)(k:Nat)(h:k<s.size)(a:p s[k]=false):(bl s).all p=false:=by
 rw[Yf1];exact⟨s[k],by rw[<-ZgE s k h];simp,by simp[a]⟩
theorem ZkG{p:UInt8->Bool}(s:BA)(k:Nat)(h:¬k<s.size)(a:((bl s).take k).all p=true):(bl s).all p=true:=by
 rwa [Ya5 (by rw[Zd];omega)]at a
def val(l:LB):Nat:=l.foldl (fun n c=>10*n+(c.toNat - 48)) 0
def ZQ(most:Nat)(l:LB):Option Nat:=
 if l.length<1∨(l.head?=some 48/\1<l.length)∨l.all ZC=false∨most<val l then none else some (val l)
theorem Znt(l:LB)(c:UInt8):val (l++[c])=10*val l+(c.toNat - 48):=by simp[val]
theorem ZDM (r : LB) : ∀ n : Nat, n <= r.foldl (fun n c => 10 * n + (c.toNat - 48)) n := by
  induction r with
  | nil=>simp
  | cons c r ih=>intro n;exact Yah (show n<=10*n+(c.toNat - 48) by omega) (ih _)
theorem ZDO(l:LB)(k:Nat):val (l.take k)<=val l:=by
 conv=>rhs;rw[<-Ycn k l]
 unfold val;rw[Ydy];exact ZDM _ _
theorem Zvx{c:UInt8}(h:ZC c=true):48<=c.toNat/\c.toNat<=57:=by
 simp[ZC]at h;omega
def seek(c:UInt8):LB->Option Nat
 | []=>none
 | b::l=>if b == c then some 0 else (seek c l).map (· + 1)
def cut(c:UInt8)(l:LB):Option (LB×LB):=(seek c l).map fun i=>(l.take i,l.drop (i+1))
theorem ZBX(c:UInt8)(a b:LB)(h:seek c a=none):seek c (a++b)=(seek c b).map (· + a.length):=by
 induction a with
 | nil=>simp
 | cons x a ih=>
  unfold seek at h;split at h
  ·cases h
  ·rename_i d;have e:seek c a=none:=by simpa using h
   simp only[Yby,seek,d];rw[ih e];cases seek c b <;> simp[Nat.add_assoc]
theorem Zj9(c:UInt8)(l:LB):seek c l=none ↔ c∉l:=by
 induction l with
 | nil=>simp[seek]
 | cons b l ih=>
  unfold seek;by_cases a:b=c
  ·simp_all
  ·simp[a,ih,Ycp _]
theorem Ziv{c:UInt8}{l:LB}{i:Nat}(h:seek c l=some i):∃a b,l=a++c::b/\a.length=i/\c∉a:=by
 induction l generalizing i with
 | nil=>simp[seek]at h
 | cons b l ih=>
  unfold seek at h;by_cases d:b=c
  ·subst d;simp at h;subst h;exact⟨[],l,rfl,rfl,by simp⟩
  ·simp[d]at h;obtain⟨j,e,rfl⟩:=h;obtain⟨a',b',rfl,rfl,f⟩:=ih e;exact⟨b::a',b',rfl,by simp,by simp[f,Ycp d]⟩
theorem Zgq(c:UInt8)(a b:LB)(h:c∉a):seek c (a++c::b)=some a.length:=by
 rw[ZBX c a _ ((Zj9 c a).2 h)];simp[seek]
theorem ZBY{c:UInt8}{l:LB}{i:Nat}(h:seek c l=some i):i<l.length:=by
 obtain⟨a,b,rfl,rfl,_⟩:=Ziv h;simp
def pre(p:LB):List (LB)->List (LB)
 | []=>[p]
 | h::t=>(p++h)::t
def split(c:UInt8):LB->List (LB)
 | []=>[[]]
 | b::l=>if b == c then []::split c l else pre [b] (split c l)
theorem Zix(c:UInt8)(l:LB):split c l≠[]:=by
 cases l with
 | nil=>simp[split]
 | cons b l=>
  unfold split;split
  ·simp
  ·cases h:split c l <;> simp[pre]
theorem ZAS(c:UInt8)(l:LB):pre [] (split c l)=split c l:=by
 cases h:split c l with
 | nil=>exact absurd h (Zix c l)
 | cons a t=>rfl
theorem ZAT{p q:LB}{l:List (LB)}(h:l≠[]):pre p (pre q l)=pre (p++q) l:=by
 cases l with
 | nil=>rfl
 | cons a t=>simp[pre]
theorem Zhc(c:UInt8)(l:LB):split c (c::l)=[]::split c l:=by simp[split]
theorem Zke(c b:UInt8)(l:LB)(h:(b == c)=false):split c (b::l)=pre [b] (split c l):=by
 simp only[split,h];rfl
theorem Zhb(c:UInt8)(p r:LB)(h:c∉p):split c (p++r)=pre p (split c r):=by
 induction p with
 | nil=>rw[Ycu,ZAS]
 | cons x p ih=>
  have a:(x == c)=false:=by simp;rintro rfl;simp at h
  rw[Yby,Zke c x _ a,ih (by simp_all),ZAT (Zix c r)];rfl
theorem Zhd(c:UInt8)(l:LB):(split c l).length<=l.length+1:=by
 induction l with
 | nil=>simp[split]
 | cons b l ih=>
  by_cases d:b=c
  ·subst d;rw[Zhc];simp_all
  ·rw[Zke c b l (by simp[d])];cases e:split c l with
   | nil=>simp[pre]
   | cons a t=>rw[e]at ih;simp[pre];simp_all;omega
end Go.Proofs.YtcdgkkfipdoeeaaGreatDoor.LS
namespace Go.Proofs.YtcdgkkfipdoeeaaGreatDoor
open Go.RowKit LS Go.Proofs.Tryz
theorem Zset {α:Type}:(∀(l:List α)(i:Nat)(a:α),l.toArray.setIfInBounds i a=(l.set i a).toArray)/\(∀(a:α)(l:List α)(b:α),(a::l).set 0 b=b::l)/\∀(a:α)(l:List α)(i:Nat)(b:α),(a::l).set (i+1) b=a::l.set i b:=⟨fun _ _ _=>by simp only [Yc4],fun _ _ _=>rfl,fun _ _ _ _=>rfl⟩
theorem Zget {α:Type}:(∀(a:α)(l:List α),(a::l)[0]?=some a)/\∀(a:α)(l:List α)(i:Nat),(a::l)[i+1]?=l[i]?:=⟨fun _ _=>rfl,fun _ _ _=>rfl⟩
theorem Zbal {w:World}{o:Obj}:BW w (w.alloc o):=(Yaf _ _).alloc (Yac _) _
theorem cret{P:Program}{f:Nat}{a:Array Value}{w w':World}{x:Ending}{Q:Ending->World->Prop}(h:Calls P f a w fun e u=>e=x/\u=w')(k:Q x w'):Calls P f a w Q:=h.mono fun e u ⟨c,d⟩=>by rw[c,d];exact k
theorem bnw{w:World}{o:Obj} : (w.alloc o).heap[w.heap.size]?=some o:=by show(w.heap.push o)[w.heap.size]?=_;simp
theorem Zn{w w':World}{base:Nat}{e:TypeId}{size:Nat}{v:Value}{n:Nat}{xs:List Value}(h:w.ownsRow base e size v n xs)(d:BW w w'):w'.ownsRow base e size v n xs:=by
 obtain⟨f,a⟩:=h;refine⟨f,?_⟩;rcases a with a|⟨g,cap,cur,i,j,k,r⟩
 ·simp_all
 ·have c:g<w.heap.size:=by
   rcases Yav g w.heap.size with h|h
   ·exact h
   ·simp_all
  exact .inr ⟨g,cap,cur,i,j,by rwa [d.block g c],r⟩
theorem Zl{w:World}{base:Nat}{e:TypeId}{size:Nat}{v:Value}{n:Nat}{xs:List Value}(h:w.ownsRow base e size v n xs):∃av cp,v=.slice av n cp:=by
 rcases h.2 with ⟨h,a⟩|⟨g,cap,cur,h,_⟩
 ·simp_all
 simp_all
theorem ZzW{w:World}{base:Nat}{e:TypeId}{size:Nat}{v:Value}{n:Nat}{xs:List Value}(h:w.ownsRow base e size v n xs)(k:Nat):(w.drewN k).ownsRow base e size v n xs:=h
theorem ZiX(B:Nat)(w:World)(k:Nat):Below B w (w.drewN k):=⟨rfl,rfl,rfl,Yac _,fun _ _=>rfl⟩
theorem ZhQ{B:Nat}{a w:World}(h:Below B a w)(k:Nat):Below B a (w.drewN k):=h.trans (ZiX B w k)
theorem belB{n:Nat}{a w:World}(h:Below n a w:=by repeat (first|exact Yaf _ _|assumption|refine Below.alloc ?_ (by first|omega|(simp;omega)|simp) _|refine Below.setCell ?_ (by first|omega|(simp;omega)|simp) _|refine ZhQ ?_ _|refine Below.drew ?_)):Below n a w:=h
theorem ZkW{B:Nat}{w w':World}{k:Nat}(h:Below B (w.drewN k) w'):Below B w w':=⟨h.os,h.tape,h.output,h.size,h.block⟩
theorem ZU{s:BA}{r:LB}(h:bl s=r):s.size=r.length:=by rw[<-Zd,h]
theorem Zn9{W:World}{a:Nat}{u v:Value}(d:W.cell? ⟨a,0,none⟩=some u)(e:W.cell? ⟨a,1,none⟩=some v):∀j x,[u,v][j]?=some x->W.cell? ((⟨a,0,none⟩:Addr).add j)=some x:=by
 intro j x c
 match j,c with
 | 0,c=>simp at c;subst c;assumption
 | 1,c=>simp at c;subst c;assumption
theorem Zuy{W:World}{a:Nat}{u v x:Value}(d:W.cell? ⟨a,0,none⟩=some u)(e:W.cell? ⟨a,1,none⟩=some v)(f:W.cell? ⟨a,2,none⟩=some x):∀j y,[u,v,x][j]?=some y->W.cell? ((⟨a,0,none⟩:Addr).add j)=some y:=by
 intro j y c
 match j,c with
 | 0,c=>simp at c;subst c;assumption
 | 1,c=>simp at c;subst c;assumption
 | 2,c=>simp at c;subst c;assumption
theorem ZfO(g j:Nat):(⟨g,0,none⟩:Addr).add j=⟨g,j,none⟩:=by
 by_cases h:j=0 <;> simp[Addr.add,h]
theorem Zi{w:World}{base:Nat}{e:TypeId}{size:Nat}{g n cp:Nat}{xs:List Value}(h:w.ownsRow base e size (.slice (some ⟨g,0,none⟩) n cp) n xs)(j:Nat){u:Value}(a:xs[j]?=some u):w.cell? ⟨g,j,none⟩=some u:=by
 have:=h.cells rfl j u a;rwa [ZfO]at this
theorem Z1{w:World}{base:Nat}{e:TypeId}{size:Nat}{g n cp:Nat}{xs:List Value}(h:w.ownsRow base e size (.slice (some ⟨g,0,none⟩) n cp) n xs):g<w.heap.size:=(h.lt g rfl).2
theorem ZF{w:World}{base:Nat}{e:TypeId}{size:Nat}{v:Value}{n:Nat}{xs:List Value}(h:w.ownsRow base e size v n xs)(a:0<n):∃g cp,v=.slice (some ⟨g,0,none⟩) n cp:=by
 rcases h.2 with ⟨_,c⟩|⟨g,cap,cur,d,_⟩
 ·omega
 simp_all
theorem ZmC{w:World}{b1 b2:Nat}{e1 e2:TypeId}{s1 s2:Nat}{v1 v2:Value}{n1 n2:Nat}{xs1 xs2:List Value}(a:w.ownsRow b1 e1 s1 v1 n1 xs1)(c:w.ownsRow b2 e2 s2 v2 n2 xs2)(f:e1≠e2):v1.ownBlock=none∨v1.ownBlock≠v2.ownBlock:=by
 rcases a.2 with ⟨rfl,_⟩|⟨g1,c1,cur1,rfl,_,d,_⟩
 ·exact .inl rfl
 ·right
  rcases c.2 with ⟨rfl,_⟩|⟨g2,c2,cur2,rfl,_,e,_⟩
  ·simp[Value.ownBlock]
  ·intro h;have g:g1=g2:=by simpa [Value.ownBlock] using h
   simp_all
theorem Zcx{w:World}{b:Nat}{e:TypeId}{sz:Nat}{v:Value}{n:Nat}{xs:List Value}(h:w.ownsRow b e sz v n xs){q:Nat}{c:Array Value}{t:TypeId}{fr:Nat×Nat}(d:w.heap[q]?=some (.cells c t fr))(f:t≠e):some q≠v.ownBlock:=by
 rcases h.2 with ⟨rfl,_⟩|⟨g,cp,cur,rfl,_,i,_⟩
 ·simp[Value.ownBlock]
 ·intro a;have j:q=g:=by simpa [Value.ownBlock] using a
  simp_all
theorem ZgW{s:BA}(h:s.toList.isEmpty=true):bl s=[]:=by rw[Zbt]at h;simp_all
theorem Zij{s:BA}(h:s.toList.isEmpty=false):bl s≠[]:=by rw[Zbt]at h;simp_all
theorem Zne(c:UInt8)(l:LB):∀x∈split c l,x.length<=l.length:=by
 induction l with
 | nil=>simp[split]
 | cons b l ih=>
  intro x a;by_cases e:b=c
  ·subst e;rw[Zhc]at a;rcases Yau.1 a with rfl|a
   ·simp
   constructor<;>simp_all
  ·rw[Zke c b l (by simp[e])]at a;cases d:split c l with
   | nil=>exact absurd d (Zix c l)
   | cons h t=>
    rw[d]at a ih;simp only[pre]at a;rcases Yau.1 a with rfl|a
    ·simp_all
    constructor<;>simp_all
theorem Zkd(c:UInt8)(l:LB)(k:Nat)(a:k<(split c l).length):((split c l).getD k []).length<=l.length:=by
 have e:(split c l).getD k []=(split c l)[k]:=by simp[a]
 rw[e];exact Zne c l _ (List.getElem_mem _)
theorem Zgh{most v:Nat}{l:LB}(h:ZQ most l=some v):v<=most:=by
 unfold ZQ at h;simp_all;omega
def sents:List Nat:=[0,1,2,3,4,5,6,7,8,9,10,11,12]
structure Vars (w:World) (A:Nat->Addr) (m:Int):Prop where
 max:w.cell? ⟨14,0,none⟩=some (Vi m)
 sent:∀g∈sents,w.cell? ⟨g,0,none⟩=some (.iface 432 (.pointer (some (A g))))
 apart:∀g∈sents,∀h∈sents,g≠h->A g≠A h
 row:∀g∈sents,∃c t,w.heap[(A g).block]?=some (.cells c t (0,0))
 handle:w.cell? ⟨13,0,none⟩=some (.iface 209 (.agg #[.pointer (some ⟨20,46,none⟩)]))
theorem Vars.below{w w':World}{A:Nat->Addr}{m:Int}(h:Vars w A m)(a:BW w w'):Vars w' A m where
 max:=(a.cell (p:=⟨_,0,none⟩) (Yai _ _ h.max)).trans h.max
 sent g hg:=(a.cell (p:=⟨_,0,none⟩) (Yai _ _ (h.sent g hg))).trans (h.sent g hg)
 apart:=h.apart
 row g hg:=by
  obtain⟨c,t,e⟩:=h.row g hg;refine⟨c,t,(a.block _ ?_).trans e⟩;rcases Yav (A g).block w.heap.size with h|h
  ·exact h
  simp_all
 handle:=(a.cell (p:=⟨_,0,none⟩) (Yai _ _ h.handle)).trans h.handle
theorem Vars.alloc{w:World}{A:Nat->Addr}{m:Int}(h:Vars w A m)(o:Obj):Vars (w.alloc o) A m:=h.below Zbal
theorem Vars.drewN{w:World}{A:Nat->Addr}{m:Int}(h:Vars w A m)(k:Nat):Vars (w.drewN k) A m:=h.below (ZiX _ _ _)
theorem Zcy{a b:Bool}(h:a=b):Ending.returned (.bool a)=.returned (.bool b):=by rw[h]
theorem ZBw{k:IntKind}{a b:Int}(h:a=b):Ending.returned (.int k a)=.returned (.int k b):=by rw[h]
theorem Zd2{c:UInt8}{w:World} :
  Cz 47 #[.int .u8 c.toNat] w fun e u=>e=.returned (.bool (Zp c))/\u=w:=by
 go_enter func47,ntmps47;go_wp2
 all_goals
  go_ret;exact⟨Zcy (by unfold Zp;simp;omega),rfl⟩
theorem Zdk{c:UInt8}{w:World} :
  Cz 44 #[.int .u8 c.toNat] w fun e u=>e=.returned (.bool (ZC c))/\u=w:=by
 go_enter func44,ntmps44;go_wp2
 all_goals
  go_ret;exact⟨Zcy (by unfold ZC;simp;omega),rfl⟩
theorem Zkt(s:BA)(w:World)(j:s.size<=70000) :
  Cz 48 #[.string s] w fun e u=>e=.returned (.bool (Zx (bl s)))/\u=w:=by
 by_cases l:s.size<1∨8<s.size
 ·have a:Hid (Zx _=false):=hid (by
   unfold Zx;rw[Zd];have:(decide (1<=(s.size:Int)) && decide ((s.size:Int)<=8))=false:=by simp;omega
   rw[this];simp)
  go_enter func48,ntmps48;go_wp2
  all_goals first|omega|(go_ret;exact⟨Zcy a.symm,rfl⟩)
 ·have m:1<=(s.size:Int):=by omega
  have n:(s.size:Int)<=8:=by omega
  go_enter func48,ntmps48;go_wp2
  go_loop [14] (fun i=>∃k:Nat,k<=s.size/\i=Vi k/\((bl s).take k).all Zp=true) (fun i=>s.size - (intOf i).toNat)
  case atStart=>exact⟨0,Yag _,rfl,by simp⟩
  case round=>
   obtain⟨k,o,rfl,c⟩:=hrel;have d:=hid c;by_cases f:k<s.size
   ·cases g:Zp s[k]
    ·have a:Hid (Zx (bl s)=false):=by unfold Zx;rw[ZkH _ s k _ g];rfl
     go_wp2_with (go_at_call 47;refine(Zd2).mono ?_;rintro e u ⟨rfl,rfl⟩)
     go_ret;exact⟨Zcy a.symm,rfl⟩
    ·have h:=hid (ZkI s k _ d g)
     go_wp2_with (go_at_call 47;refine(Zd2).mono ?_;rintro e u ⟨rfl,rfl⟩)
     go_round
     case rel=>exact⟨k+1,by omega,by go_num,h⟩
     case measure=>simp[intOf];omega
   ·have a:Hid (Zx _=true):=hid (by
     unfold Zx;rw[ZkG s k f d,Zd];simp;omega)
    go_wp2;go_ret;exact⟨Zcy a.symm,rfl⟩
theorem Znv(s:BA)(w:World)(a:s.size<=6000) :
  Cz 48 #[.string s] w fun e u=>e=.returned (.bool (Zx (bl s)))/\u=w:=Zkt s w Om
theorem Znw(s:BA)(w:World)(n:s.size<=6000) :
  Cz 49 #[.string s] w fun e u=>e=.returned (.bool (Z3 (bl s)))/\u=w:=by
 by_cases o:8<s.size
 ·have d:Hid (Z3 _=false):=hid (by
   unfold Z3;rw[Zd];have:decide ((s.size:Int)<=8)=false:=by simp;omega
   rw[this];simp)
  go_enter func49,ntmps49;go_wp2;go_ret;exact⟨Zcy d.symm,rfl⟩
 ·have p:(s.size:Int)<=8:=by omega
  go_enter func49,ntmps49;go_wp2
  go_loop [9] (fun i=>∃k:Nat,k<=s.size/\i=Vi k/\((bl s).take k).all (fun c=>Zp c || ZC c)=true) (fun i=>s.size - (intOf i).toNat)
  case atStart=>exact⟨0,Yag _,rfl,by simp⟩
  case round=>
   obtain⟨k,q,rfl,f⟩:=hrel;have g:=hid f;by_cases a:k<s.size
   ·have l:=hid (ZkI s k a g)
    have m : Hid ((Zp s[k] || ZC s[k]) = false -> Z3 (bl s) = false) := fun h => by
      unfold Z3;rw[ZkH (fun c=>Zp c || ZC c) s k a h];rfl
    cases j:Zp s[k] <;> cases hd:ZC s[k]
    ·go_wp2_with (first|(go_at_call 47;refine(Zd2).mono ?_;rintro e u ⟨rfl,rfl⟩)|(go_at_call 44;refine(Zdk).mono ?_;rintro e u ⟨rfl,rfl⟩))
     go_ret;exact⟨Zcy (m (by rw[j,hd];rfl)).symm,rfl⟩
    all_goals
     go_wp2_with (first|(go_at_call 47;refine(Zd2).mono ?_;rintro e u ⟨rfl,rfl⟩)|(go_at_call 44;refine(Zdk).mono ?_;rintro e u ⟨rfl,rfl⟩))
     go_round
     case rel=>exact⟨k+1,by omega,by go_num,l (by rw[j,hd];rfl)⟩
     case measure=>simp[intOf];omega
   ·have d:Hid (Z3 _=true):=hid (by
     unfold Z3;rw[ZkG s k a g,Zd];simp;omega)
    go_wp2;go_ret;exact⟨Zcy d.symm,rfl⟩
def numI(most:Nat)(l:LB):Int:=match ZQ most l with|none=>-1|some v=>v
theorem Zrj{most:Nat}{l:LB}(h:ZQ most l=none):numI most l=-1:=by unfold numI;rw[h]
theorem ZgX{most v:Nat}{l:LB}(h:ZQ most l=some v):numI most l=v:=by unfold numI;rw[h]
theorem Zzz(most:Nat)(s:BA)(h:s.size<1):ZQ most (bl s)=none:=by
 unfold ZQ;rw[if_pos (.inl (by rwa [Zd]))]
theorem ZzC(most:Nat)(s:BA)(a:1<s.size)(h:s[0].toNat=48):ZQ most (bl s)=none:=by
 unfold ZQ;refine if_pos (.inr (.inl ⟨?_,by rwa [Zd]⟩));rw[Yd1,List.getElem?_eq_getElem (by rw[Zd];omega),ZgE s 0 Om];exact congrArg _ (Ydf.1 h)
theorem Zzs(most:Nat)(s:BA)(k:Nat){h:k<s.size}(hd:ZC s[k]=false):ZQ most (bl s)=none:=by
 unfold ZQ;exact if_pos (.inr (.inr (.inl (ZkH _ s k h hd))))
theorem Zzw{most:Nat}(s:BA)(k:Nat){h:k<s.size}(a:most<10*val ((bl s).take k)+(s[k].toNat - 48)):ZQ most (bl s)=none:=by
 unfold ZQ;refine if_pos (.inr (.inr (.inr ?_)));have:=ZDO (bl s) (k+1);rw[ZiB s k h,Znt]at this;omega
theorem Zzv{most:Nat}(s:BA)(k:Nat)(h:¬k<s.size){g:1<=s.size}(d:¬(s[0].toNat=48/\1<s.size))(e:((bl s).take k).all ZC=true)(f:val ((bl s).take k)<=most):ZQ most (bl s)=some (val ((bl s).take k)):=by
 have a:=ZkG s k h e;rw[Ya5 (by rw[Zd];omega)]at f ⊢;unfold ZQ;refine if_neg ?_;rintro(h|⟨h,c⟩|h|h)
 ·rw[Zd]at h;omega
 ·rw[Zd]at c;rw[Yd1,List.getElem?_eq_getElem (by rw[Zd];omega),ZgE s 0 Om]at h;exact d ⟨by rw[Yax h];rfl,c⟩
 ·rw[a]at h;cases h
 ·omega
theorem ZDN(s:BA)(k:Nat)(h:k<s.size):val ((bl s).take (k+1))=10*val ((bl s).take k)+(s[k].toNat - 48):=by
 rw[ZiB s k h,Znt]
def numT(most:Nat)(l:LB):Value:=.tuple #[Vi ((ZQ most l).getD 0:Nat),.bool (ZQ most l).isSome]
theorem Zgg{most:Nat}{l:LB}(h:ZQ most l=none):numT most l=.tuple #[Vi 0,.bool false]:=by unfold numT;rw[h];rfl
theorem ZjO{most v:Nat}{l:LB}(h:ZQ most l=some v):numT most l=.tuple #[Vi v,.bool true]:=by unfold numT;rw[h];rfl
theorem Znx(s:BA){most:Nat}(w:World)(C:s.size<=70000)(z:9<=most)(D:most<=1000000000) :
  Cz 46 #[.string s,Vi most] w fun e u=>e=.returned (numT most (bl s))/\u=w:=by
 by_cases j:s.size<1
 ·have a:=hid (Zgg (Zzz most s j));have q:=ZoT j;go_enter func46,ntmps46;go_wp2;go_ret2;exact⟨by rw[a];rfl,rfl⟩
 have r:1<=s.size:=by omega
 have q:=Zrh r;by_cases c:s[0].toNat=48/\1<s.size
 ·have a:=hid (Zgg (ZzC most s c.2 c.1));have d:((s[0].toNat:Int) == 48)=true:=by rw[c.1];rfl
  have A:=c.2;go_enter func46,ntmps46;go_wp2;go_ret2;exact⟨by rw[a];rfl,rfl⟩
 have t:=hid c
 have f:(((s[0].toNat:Int) == 48)=true/\decide (1<(s.size:Int))=false)∨((s[0].toNat:Int) == 48)=false:=by
  by_cases d:s[0].toNat=48
  ·exact .inl ⟨by rw[d];rfl,by simp;have:¬1<s.size:=fun h=>c ⟨d,h⟩;omega⟩
  ·exact .inr (by rw[beq_eq_false_iff_ne];omega)
 rcases f with ⟨l,B⟩|l
 all_goals
  go_enter func46,ntmps46;go_wp2
  go_loop [6,23] (fun n i=>∃k:Nat,k<=s.size/\i=Vi k/\n=Vi (val ((bl s).take k))/\val ((bl s).take k)<=most/\((bl s).take k).all ZC=true) (fun _ i=>s.size - (intOf i).toNat)
  case atStart=>exact⟨0,Yag _,rfl,by simp[val],by simp[val],by simp⟩
  case round=>
   obtain⟨k,E,rfl,rfl,v,m⟩:=hrel;have o:=hid m;by_cases g:k<s.size
   ·cases hd:ZC s[k]
    ·have a:=hid (Zgg (Zzs most s k hd))
     go_wp2_with (go_at_call 44;refine(Zdk).mono ?_;rintro e u ⟨rfl,rfl⟩)
     go_ret2;exact⟨by rw[a];rfl,rfl⟩
    ·obtain⟨d1,d2⟩:=Zvx hd;have p:=hid (ZDN s k g);have x:=hid (ZkI s k _ o hd);by_cases y:most<10*val ((bl s).take k)+(s[k].toNat - 48)
     ·have a:=hid (Zgg (Zzw s k y))
      go_wp2_with (go_at_call 44;refine(Zdk).mono ?_;rintro e u ⟨rfl,rfl⟩)
      all_goals first|(exfalso;omega)|(go_ret2;exact⟨by rw[a.out];rfl,rfl⟩)
     ·go_wp2_with (go_at_call 44;refine(Zdk).mono ?_;rintro e u ⟨rfl,rfl⟩)
      all_goals first|(exfalso;omega)|skip
      go_round
      case rel=>exact⟨k+1,by omega,by go_num,by rw[p];go_num,by rw[p];omega,x⟩
      case measure=>simp[intOf];omega
   ·have a:=hid (ZjO (Zzv s k g t o v));go_wp2;go_ret2;exact⟨by rw[a];rfl,rfl⟩
theorem Zkv(s:BA)(most:Nat)(w:World)(d:s.size<=6000)(a:9<=most)(c:most<=1000000000) :
  Cz 46 #[.string s,Vi most] w fun e u=>e=.returned (numT most (bl s))/\u=w:=Znx s w Om a c
theorem Zmr{most:Nat}{l:LB} : -1<=numI most l/\numI most l<=most:=by
 cases h:ZQ most l with
 | none=>rw[Zrj h];omega
 | some v=>rw[ZgX h];have:=Zgh h;omega
end Go.Proofs.YtcdgkkfipdoeeaaGreatDoor
namespace Go.Proofs.YtcdgkkfipdoeeaaGreatDoor.LS
open Go Go.RowKit
structure Tok where
 jj:Nat
 txt:LB
 at_:Nat
def run(p:UInt8->Bool):LB->Nat
 | []=>0
 | b::l=>if p b then run p l+1 else 0
def Zdq:LB:=[40,41,123,125,91,93,44,61,43,45,42,47]
def lexC(l:LB)(j:Nat)(c:UInt8)(r:LB):Tok×Nat:=
 if ZC c then (if (ZQ 1000000000 ((c::r).take (run ZC (c::r)))).isSome then ⟨1,(c::r).take (run ZC (c::r)),j⟩else ⟨5,[],j⟩,j+run ZC (c::r))
 else if Zp c then (if 8<run Zp (c::r)then ⟨5,[],j⟩else ⟨2,(c::r).take (run Zp (c::r)),j⟩,j+run Zp (c::r))
 else if c == 34 then match seek 34 r with
  | none=>(⟨5,[],j⟩,l.length)
  | some p=>(if Z3 (r.take p)then ⟨3,r.take p,j⟩else ⟨5,[],j⟩,j+p+2)
 else if c == 33 && r.head? == some 61 then (⟨4,[33,61],j⟩,j+2)
 else if (seek c Zdq).isSome then (⟨4,[c],j⟩,j+1)else (⟨5,[],j⟩,j+1)
def lexJ(l:LB)(j:Nat):Tok×Nat:=match l.drop j with
 | []=>(⟨0,[],j⟩,j)
 | c::r=>lexC l j c r
def Zk(l:LB)(i:Nat):Tok×Nat:=lexJ l (i+run (· == 32) (l.drop i))
theorem Zg6(p:UInt8->Bool)(l:LB):run p l<=l.length:=by
 induction l with
 | nil=>exact Yac _
 | cons b l ih=>unfold run;split<;>simp_all
theorem Zx9(s:BA){j:Nat}{h:j<s.size}(a:s[j]=32):Zk (bl s) j=Zk (bl s) (j+1):=by
 unfold Zk;rw[ZdW s j h];have:run (· == 32) (s[j]::(bl s).drop (j+1))=run (· == 32) ((bl s).drop (j+1))+1:=by rw[a];rfl
 rw[this,show j+(run _ _+1)=j+1+run (· == 32) ((bl s).drop (j+1)) by omega]
theorem ZjD(s:BA)(j:Nat)(h:j<s.size)(a:s[j]≠32):Zk (bl s) j=lexC (bl s) j s[j] ((bl s).drop (j+1)):=by
 unfold Zk;rw[ZdW s j h];have:run (· == 32) (s[j]::(bl s).drop (j+1))=0:=by simp[run,a]
 rw[this,Yf5];unfold lexJ;rw[ZdW s j h]
theorem ZqF(s:BA)(j:Nat)(h:¬j<s.size)(a:j<=s.size):Zk (bl s) j=(⟨0,[],j⟩,j):=by
 have hd:(bl s).drop j=[]:=Yb8 (by rw[Zd];omega);unfold Zk;rw[hd];show lexJ (bl s) j=_;unfold lexJ;rw[hd]
end Go.Proofs.YtcdgkkfipdoeeaaGreatDoor.LS
namespace Go.Proofs.YtcdgkkfipdoeeaaGreatDoor
open Go.RowKit LS Go.Proofs.Tryz
end Go.Proofs.YtcdgkkfipdoeeaaGreatDoor
namespace Go.Proofs.YtcdgkkfipdoeeaaGreatDoor.LS
open Go Go.RowKit
structure Nd where
 jj:Nat
 op:Nat
 n:Int
 name:LB
 jn:List (LB×LB×Bool)
 by_:List (LB)
abbrev Tr:=Go.Deep.BT Nd
abbrev Out (α:Type):=Except (Nat×Nat) (α×List Tok)
def Zbg(a:Nd):Tr:=.node 0 0 a .nil .nil
def nd0(jj op:Nat):Nd:=⟨jj,op,0,[],[],[]⟩
def ZN(l:LB):Nat->Nat->List Tok
 | 0,_=>[]
 | n+1,i=>if (Zk l i).1.jj=0∨(Zk l i).1.jj=5 then [(Zk l i).1] else (Zk l i).1::ZN l n (Zk l i).2
def hd(ts:List Tok):Tok:=ts.headD ⟨0,[],0⟩
def wOr:LB:=[111,114]
def wBy:LB:=[98,121]
def ZW:List (LB):=[[115,117,109],[109,97,120],[109,105,110],[99,111,117,110,116]]
def Z0:List (LB):=[[116,111,116,97,108],[112,101,97,107],[108,111,119],[115,105,122,101],[114,105,115,101]]
def idx(w:LB):List (LB)->Option Nat
 | []=>none
 | x::l=>if x=w then some 0 else (idx w l).map (· + 1)
def isT(s:LB)(t:Tok):Bool:=(t.jj == 2 || t.jj == 4) && t.txt == s
def bnd{α β:Type}(x:Out α)(f:α->List Tok->Out β):Out β:=match x with
 | .error e=>.error e
 | .ok (a,ts)=>f a ts
def Zq(s:LB)(ts:List Tok):Out Unit:=if isT s (hd ts)then .ok ((),ts.tail)else .error (2,(hd ts).at_)
def ZH(k:Nat)(ts:List Tok):Out (LB):=if (hd ts).jj=k then .ok ((hd ts).txt,ts.tail)else .error (2,(hd ts).at_)
def ZS{α:Type}(item:List Tok->Out α)(close:LB):Nat->List α->List Tok->Out (List α)
 | 0,_,_=>.error (0,0)
 | n + 1, acc, ts => if isT close (hd ts) then .ok (acc, ts.tail) else
   bnd (if acc.isEmpty then .ok ((),ts)else Zq [44] ts) fun _ r=>bnd (item r) fun a r=>ZS item close n (acc++[a]) r
def Zdc(ts:List Tok):Out Bool:=if isT [33,61] (hd ts)then .ok (true,ts.tail)else bnd (Zq [61] ts) fun _ r=>.ok (false,r)
def ZV(ts:List Tok):Out (LB×LB×Bool):=bnd (ZH 2 ts) fun a r=>bnd (Zdc r) fun n r=>bnd (ZH 3 r) fun b r=>.ok ((a,b,n),r)
def Zgp(t:Tok):Bool:=(idx t.txt ZW).isSome || (idx t.txt Z0).isSome || isT wOr t || isT wBy t
def ZdQ(ts:List Tok):Out (LB):=if Zgp (hd ts)then .error (2,(hd ts).at_)else ZH 2 ts
def selP(ts:List Tok):Out Nd:=bnd (ZdQ ts) fun a r=>if isT [123] (hd r)then bnd (ZS ZV [125] r.length [] r.tail) fun cs r=>.ok (⟨1,0,0,a,cs,[]⟩,r)else .ok (⟨1,0,0,a,[],[]⟩,r)
def Zc2(ts:List Tok):Out Int:=if (hd ts).jj=1/\1<=numI 1000 (hd ts).txt then .ok (numI 1000 (hd ts).txt,ts.tail)else .error (2,(hd ts).at_)
def winP(o:Nat)(ts:List Tok):Out Tr:=bnd (Zq [40] ts) fun _ r=>bnd (selP r) fun p r=>bnd (Zq [91] r) fun _ r=>bnd (Zc2 r) fun n r=>bnd (Zq [93] r) fun _ r=>bnd (Zq [41] r) fun _ r=>.ok (Zbg ⟨2,o,n,p.name,p.jn,[]⟩,r)
def Zbu(rec:Nat->List Tok->Nat->Out Tr)(ts:List Tok)(deep:Nat):Out Tr:=bnd (Zq [40] ts) fun _ r=>bnd (rec 0 r deep) fun a r=>bnd (Zq [41] r) fun _ r=>.ok (a,r)
def Zcb(rec:Nat->List Tok->Nat->Out Tr)(g:Nat)(ts:List Tok)(deep:Nat):Out Tr:=bnd (Zq wBy ts) fun _ r=>bnd (Zq [40] r) fun _ r=>bnd (ZS (ZH 2) [41] (r.length+1) [] r) fun ns r=>bnd (Zbu rec r deep) fun a r=>.ok (.node 0 0 ⟨5,g,0,[],[],ns⟩ a .nil,r)
def ZdD(t:Tok):Bool:=t.jj == 1 || isT [45] t || isT [40] t || (t.jj == 2 && !isT wOr t && !isT wBy t)
def numV(l:LB):Int:=((ZQ 1000000000 l).getD 0:Nat)
def Zbw(rec:Nat->List Tok->Nat->Out Tr)(ts:List Tok)(deep:Nat):Out Tr:=
 if (hd ts).jj=1 then .ok (Zbg ⟨0,0,numV (hd ts).txt,[],[],[]⟩,ts.tail)
 else if isT [45] (hd ts)then bnd (rec 3 ts.tail deep) fun a r=>.ok (.node 0 0 (nd0 3 0) a .nil,r)
 else if isT [40] (hd ts)then Zbu rec ts deep
 else match idx (hd ts).txt ZW with
  | some g=>Zcb rec g ts.tail deep
  | none => match idx (hd ts).txt Z0 with
    | some o=>winP o ts.tail
    | none=>bnd (selP ts) fun p r=>.ok (Zbg p,r)
def Zb9(rec:Nat->List Tok->Nat->Out Tr)(ts:List Tok)(deep:Nat):Out Tr:=
 if ZdD (hd ts)then (if deep=20 then .error (3,(hd ts).at_)else Zbw rec ts (deep+1))else .error (2,(hd ts).at_)
def opAt(lv:Nat)(t:Tok):Option (Nat×Nat):=
 if lv=0 then (if isT wOr t then some (6,0)else none)
 else if lv=1 then (if isT [43] t then some (4,0)else if isT [45] t then some (4,1)else none)
 else (if isT [42] t then some (4,2)else if isT [47] t then some (4,3)else none)
def Zs:Nat->Bool->Nat->Tr->List Tok->Nat->Out Tr
 | 0,_,_,_,_,_=>.error (0,0)
 | n + 1, false, lv, _, ts, deep => if lv = 3 then Zb9 (fun lv ts d => Zs n false lv .nil ts d) ts deep
   else bnd (Zs n false (lv+1) .nil ts deep) fun a r=>Zs n true lv a r deep
 | n + 1, true, lv, a, ts, deep => match opAt lv (hd ts) with
   | none=>.ok (a,ts)
   | some p=>bnd (Zs n false (lv+1) .nil ts.tail deep) fun b r=>Zs n true lv (.node 0 0 (nd0 p.1 p.2) a b) r deep
def Zf:Tr->Nat
 | .nil=>1
 | .node _ _ a l r => if a.jj = 0 then 1 else if a.jj = 1 ∨ a.jj = 2 then 2 else if a.jj = 3 then Zf l
   else if a.jj=5 then (if Zf l=2 then 2 else 0)
   else if Zf l=0∨Zf r=0∨(a.jj=6/\Zf l+Zf r≠4)then 0 else if Zf l+Zf r=2 then 1 else 2
def ZD(l:LB):Except (Nat×Nat) Tr:=
 if 300<l.length then .error (1,0)else
 match Zs (10*(ZN l (l.length+1) 0).length+5) false 0 .nil (ZN l (l.length+1) 0) 0 with
 | .error e=>.error e
 | .ok (t,r)=>if (hd r).jj=0 then (if Zf t=0 then .error (4,0)else .ok t)else .error (2,(hd r).at_)
def Zz(a:Nd):Nat:=if a.jj=6 then 1 else if a.jj=4 then (if a.op<2 then 2 else 3)else 4
def commas:List (LB)->LB
 | []=>[]
 | [a]=>a
 | a::l=>a++44::commas l
def Z8(c:LB×LB×Bool):LB:=c.1++(if c.2.2 then [33,61] else [61])++[34]++c.2.1++[34]
def selS(a:Nd):LB:=if a.jn=[] then a.name else a.name++[123]++commas (a.jn.map Z8)++[125]
def digL:Nat->Nat->LB
 | _,0=>[]
 | n,k+1=>digL (n / 256) k++[UInt8.ofNat (n % 256)]
def bitS(h:Nat):Nat:=if h % 2=1 then (h / 2) ^^^ 3988292384 else h / 2
def ZfS:Nat->Nat->Nat
 | 0,h=>h
 | k+1,h=>bitS (ZfS k h)
def Zk3(h:Nat)(c:UInt8):Nat:=ZfS 8 (h ^^^ c.toNat)
def sumL(l:LB):Nat:=l.foldl Zk3 4294967295
def sumQ(l:LB):Nat:=4294967295 - sumL l
theorem Zsz(l:LB)(c:UInt8):sumL (l++[c])=Zk3 (sumL l) c:=by simp[sumL]
theorem Zt5{h:Nat}(a:h<4294967296):bitS h<4294967296:=by
 unfold bitS;split
 ·exact Nat.xor_lt_two_pow (n:=32) Om Dc
 ·omega
theorem ZkX{h:Nat}(a:h<4294967296):∀k,ZfS k h<4294967296
 | 0=>a
 | k+1=>Zt5 (ZkX a k)
theorem Zty{h:Nat}(a:h<4294967296)(c:UInt8):h ^^^ c.toNat<4294967296:=Nat.xor_lt_two_pow (n:=32) a (by have:=c.toNat_lt;omega)
theorem Zum{h:Nat}(a:h<4294967296)(c:UInt8):Zk3 h c<4294967296:=ZkX (Zty a c) 8
theorem ZCY(l:LB):sumL l.reverse<4294967296:=by
 induction l with
 | nil=>decide
 | cons c l ih=>rw[List.reverse_cons,Zsz];exact Zum ih c
theorem ZCX(l:LB):sumL l<4294967296:=by
 have:=ZCY l.reverse
 simp_all
theorem Znn(l:LB):sumQ l<4294967296:=by unfold sumQ;omega
structure CodeQ where
 jq:List Int
 jw:List (Nd×Nat)
 jv:List (List (LB))
 jz:List (Nat×Nat)
def sub(l:LB)(p n:Nat):LB:=(l.drop p).take n
end Go.Proofs.YtcdgkkfipdoeeaaGreatDoor.LS
namespace Go.Proofs.YtcdgkkfipdoeeaaGreatDoor
open Go.RowKit LS Go.Proofs.Tryz
theorem Zw{w w':World}{r:Option Nat}(h:BW w w'):w.grownBy w' r:=⟨h.os,h.tape,h.output,h.size,fun k a _=>h.block k a⟩
theorem ZbM(w:World)(r:Option Nat):w.grownBy w r:=⟨rfl,rfl,rfl,Yac _,fun _ _ _=>rfl⟩
theorem Zj{a b c:World}{r:Option Nat}(h:a.grownBy b r)(d:b.grownBy c r):a.grownBy c r:=
 ⟨d.os.trans h.os,d.tape.trans h.tape,d.output.trans h.output,Yah h.size d.size,fun k e f=>(d.block k (Yaw e h.size) f).trans (h.block k e f)⟩
theorem ZA{a w:World}{b:Nat}(h:a.grownBy w (some b)){p:Addr}(e:p.block=b∨a.heap.size<=p.block){v:Value}:a.grownBy (w.setCell p v) (some b):=
 ⟨h.os,h.tape,h.output,by rw[Go.Deep.nblk_setCell];exact h.size,fun k c d=>(Go.Deep.blk_setCell_other w p v k (by simp_all;omega)).trans (h.block k c d)⟩
theorem ZbR{a w:World}{r:Option Nat}(h:a.grownBy w r){o:Obj}:a.grownBy (w.alloc o) r:=
 ⟨h.os,h.tape,h.output,by rw[Go.Deep.nblk_alloc];have:=h.size;omega,fun k c d=>(Go.Deep.blk_alloc_lt w o k (Yaw c h.size)).trans (h.block k c d)⟩
end Go.Proofs.YtcdgkkfipdoeeaaGreatDoor
namespace Go.Proofs.YtcdgkkfipdoeeaaGreatDoor.LS
open Go Go.RowKit
theorem Zye(l:LB){j:Nat}(c:UInt8)(r:LB)(e:l.drop j=c::r):j<(lexC l j c r).2/\(lexC l j c r).2<=l.length:=by
 have f:l.length=j+(r.length+1):=by
  have:=congrArg List.length e;simp at this
  have d:j<=l.length:=by
   rcases Yav l.length j with h|h
   ·omega
   ·exact h
  omega
 unfold lexC;split
 ·rename_i hd;have g:=Zg6 ZC (c::r);have d:0<run ZC (c::r):=by simp[run,hd]
  simp_all
 ·split
  ·rename_i hd;have g:=Zg6 Zp (c::r);have d:0<run Zp (c::r):=by simp[run,hd]
   simp_all
  ·split
   ·split
    ·omega
    ·rename_i p i;have:=ZBY i;omega
   ·split
    ·rename_i k
     have:0<r.length:=by
      cases r with
      | nil=>simp at k
      | cons a r=>simp
     omega
    split<;>omega
theorem Zig(l:LB)(i:Nat)(d:i<=l.length):((Zk l i).1.jj≠0->i<(Zk l i).2)/\(Zk l i).2<=l.length:=by
 unfold Zk;have a:=Zg6 (· == 32) (l.drop i);rw[Ybv]at a;generalize run (· == 32) (l.drop i)=n at *
 unfold lexJ;cases hd:l.drop (i+n)with
 | nil=>simp_all;omega
 | cons c r=>have:=Zye l c r hd;simp_all;omega
theorem Zyb(l:LB)(i:Nat):(Zk l i).1.txt.length<=l.length+2:=by
 unfold Zk lexJ;split
 ·simp
 ·rename_i c r hd
  have a:r.length+1<=l.length:=by
   have:=congrArg List.length hd;rw[Ybv,Yaj]at this;omega
  unfold lexC;split
  ·split
   ·simp_all;omega
   ·simp
  ·split
   ·split
    ·simp
    simp_all;omega
   ·split
    ·split
     ·simp
     ·split
      ·simp_all;omega
      ·simp
    ·split
     ·simp
     split<;>simp
theorem ZjB(l:LB)(n i:Nat)(c:i<=l.length):(ZN l n i).length<=l.length+1 - i:=by
 induction n generalizing i with
 | zero=>exact Yag _
 | succ n ih=>
  unfold ZN;have a:=Zig l i c;split
  ·simp;omega
  ·rename_i d;have e:=a.1 (fun h=>d (.inl h));have f:=ih _ a.2;simp;omega
theorem Zib{s:LB}{t:Tok}(h:isT s t=true):¬(t.jj=0∨t.jj=5):=by
 unfold isT at h
 simp_all;omega
end Go.Proofs.YtcdgkkfipdoeeaaGreatDoor.LS
namespace Go.Proofs.YtcdgkkfipdoeeaaGreatDoor
open Go.RowKit LS Go.Proofs.Tryz
theorem ZtK{P:Program}{w:World}{t ty:TypeId}{base:Nat}(e:TypeId)(i:TypeInfo)(z:Value){size bytes:Nat}(p:P.underlying t=some (.slice e))(q:P.info? e=some i)(C:i.zero=some z)(r:i.size=size)(D:i.bytes=bytes)(E:z.cells.size=size)(F:0<size)
  (v:Value) (n:Nat) (xs:List Value) (d:w.ownsRow base e size v n xs)
  (ad:Addr) (m c:Nat) (news:List Value) (s:news.length=m*size) (x:∀j u,news[j]?=some u->w.cell? (ad.add j)=some u) (o:∀u∈news,u.oneCell'=true)
  (b1:n+m<=maxLen) (b2:(n+m)*bytes<=140737488355328) {v':Value} {w':World} (f:(Builtin.append_ #[t,t] ty #[v,.slice (some ad) m c]).run P w=.ok v' w') :
  v'.ownBlock=v.ownBlock∨∀k,v'.ownBlock=some k->w.heap.size<=k:=by
 have l:=fun g H=>@World.ownsRow.cells w _ e _ v n _ d g H;have y:=d.1;rcases d.2 with ⟨rfl,rfl⟩|⟨g,cap,cur,rfl,N,I,K,L,G,M⟩
 ·right
  obtain rfl:xs=[]:=Ya3 Om;obtain⟨v2,J,a,r1,_⟩:=run_append_own (P:=P) w w.heap.size t ty e i z size bytes p q C r D E F S0 0 [] (Ybc w _ e size) ad m c news s x o b1 b2 (Yac _);rw[f]at a;injection a with e1 e2;subst e1;exact fun k A=>(r1.lt k A).1
 ·by_cases h:n+m<=cap
  ·left
   have B:n*i.size+news.length<=cur.size:=by rw[r,s,G,<-Nat.add_mul];exact Yc6 _ h
   have a:=run_append_room w t ty e i p q g n _ _ I _ m c _ (by simp_all) x o h B;rw[f]at a;injection a with e1 e2;subst e1;rfl
  ·right
   obtain⟨v2,J,a,r1,_⟩:=run_append_arg_grows (P:=P) w t ty e i z size bytes p q C r D E F ⟨g,0,none⟩ n cap xs y (l g rfl) ad m c news s x Om b1 b2;rw[f]at a;injection a with e1 e2;subst e1;exact fun k A=>(r1.lt k A).1
theorem ZfF{P:Program}{ops:Array Oper}{o:Oper}{a:Act}{w:World}{K:Act->World->Prop}{Q:Exit->Act->World->Prop}{E:Prop}
  (H:o.guard=none) (s x:Operand) (t:TypeId) (p:o.op=Op.call { callee:=Callee.builtin Builtin.append,args:=#[s,x],argTypes:=#[t,t] })
  (base:Nat) (e:TypeId) (i:TypeInfo) (z:Value) (size bytes:Nat) (q:P.underlying t=some (.slice e)) (r:P.info? e=some i) (y:i.zero=some z) (A:i.size=size) (B:i.bytes=bytes) (C:z.cells.size=size) (D:0<size)
  (v:Value) (n:Nat) (xs:List Value) (I:a.eval s=v) (d:w.ownsRow base e size v n xs)
  (ad:Addr) (m c:Nat) (news:List Value) (J:a.eval x=.slice (some ad) m c) (F:news.length=m*size) (G:∀j u,news[j]?=some u->w.cell? (ad.add j)=some u) (l:∀u∈news,u.oneCell'=true)
  (b1:n+m<=maxLen) (b2:(n+m)*bytes<=140737488355328) (g:base<=w.heap.size)
  (L:∀v' h,h.ownsRow base e size v' (n+m) (xs++news)->w.grownBy h v.ownBlock->(v'.ownBlock=v.ownBlock∨∀k,v'.ownBlock=some k->w.heap.size<=k)->K (a.put o.dst v') h) :
  if Region.wanted o (yielded ops a.tmps)=true then Oper.wp P o a w K Q else E:=by
 have M:Region.wanted o (yielded ops a.tmps)=true:=by simp[Region.wanted,H]
 rw[if_pos M];obtain⟨v',h,f,r1,r2,_⟩:=run_append_own (P:=P) w base t o.type e i z size bytes q r y A B C D v n xs d ad m c news F G l b1 b2 g;have r3:=ZtK e i z q r y A B C D v n _ d _ m c _ F G l b1 b2 f;unfold Oper.wp;simp[execOp,p,resolve,invoke,builtin,I,J,f,Result.andThen];exact L _ _ r1 r2 r3
end Go.Proofs.YtcdgkkfipdoeeaaGreatDoor
namespace Go.Proofs.YtcdgkkfipdoeeaaGreatDoor.LS
open Go Go.RowKit
end Go.Proofs.YtcdgkkfipdoeeaaGreatDoor.LS
namespace Go.Proofs.YtcdgkkfipdoeeaaGreatDoor
open Go.RowKit LS Go.Proofs.Tryz
theorem Zjr{k:Nat}{ts:List Tok}{z:LB×List Tok}(a:k≠0)(h:ZH k ts=.ok z):z.2.length+1=ts.length/\z.1=(hd ts).txt/\z.2=ts.tail:=by
 unfold ZH at h;split at h
 ·rename_i e;cases h;cases ts with
  | nil=>exact absurd e.symm a
  | cons t r=>simp
 ·cases h
theorem ZeB{c:LB}{ts:List Tok}{z:Unit×List Tok}(h:Zq c ts=.ok z):z.2.length+1=ts.length:=by
 unfold Zq at h;split at h
 ·rename_i e;cases h;cases ts with
  | nil=>exact absurd (.inl rfl) (Zib e)
  | cons t r=>rfl
 ·cases h
theorem Zxj{c:LB}{ts:List Tok}(e:isT c (hd ts)=true):ts.tail.length+1=ts.length:=by
 cases ts with
 | nil=>exact absurd (.inl rfl) (Zib e)
 | cons t r=>rfl
theorem Zos(t:List Tok)(z:(LB×LB×Bool)×List Tok)(h:ZV t=.ok z):z.2.length+1<=t.length:=by
 unfold ZV at h;cases d:ZH 2 t with
 | error e=>rw[d]at h;cases h
 | ok y=>
  have l1:=(Zjr Dc d).1;rw[d]at h;simp only[bnd]at h;cases a:Zdc y.2 with
  | error e=>simp_all
  | ok u=>
   have l2:u.2.length<=y.2.length:=by
    unfold Zdc at a;split at a
    ·cases a;simp
    ·cases c:Zq [61] y.2 with
     | error e=>rw[c]at a;cases a
     | ok q=>rw[c]at a;cases a;have:=ZeB c;simp_all;omega
   rw[a]at h;simp only at h;cases c:ZH 3 u.2 with
   | error e=>simp_all
   | ok q=>
    have l3:=(Zjr Dc c).1;rw[c]at h;cases h
    simp_all;omega
theorem ZdA{w w':World}{base:Nat}{e:TypeId}{size:Nat}{v:Value}{n:Nat}{xs:List Value}(h:w.ownsRow base e size v n xs)(a:∀k,v.ownBlock=some k->w'.heap[k]?=w.heap[k]?):w'.ownsRow base e size v n xs:=by
 refine⟨h.1,?_⟩;rcases h.2 with c|⟨g,cap,cur,rfl,d,f,r⟩
 ·exact .inl c
 ·exact .inr ⟨g,cap,cur,rfl,d,(a g rfl).trans f,r⟩
theorem Ze{α β:Type}{x:Out α}{f:α->List Tok->Out β}{z:β×List Tok}(h:bnd x f=.ok z):∃a t,x=.ok (a,t)/\f a t=.ok z:=by
 cases x with
 | error e=>cases h
 | ok y=>exact⟨y.1,y.2,rfl,h⟩
theorem Zmc{α:Type}{item:List Tok->Out α}{close:LB}(e:∀t z,item t=.ok z->z.2.length+1<=t.length):∀(n:Nat) (acc:List α) (ts:List Tok) (z:List α×List Tok),ZS item close n acc ts=.ok z->z.2.length+1<=ts.length
 | 0,_,_,_,h=>by cases h
 | n + 1, acc, ts, z, h => by
   have c:(if isT _ _ then .ok _ else bnd _ _)=.ok z:=h;cases d:isT close (hd ts)
   · rw[d]at c
     obtain⟨_,t1,f,g⟩:=Ze c;obtain⟨a,t2,i,j⟩:=Ze g
     have l1:t1.length<=ts.length:=by
       split at f
       · simp_all
       · have:=ZeB f;simp_all;omega
     have l2:=e _ _ i;have l3:=Zmc e n _ _ _ j;simp at l2;omega
   · rw[d]at c
     injection c with c;subst c;have:=Zxj d
     simp_all
theorem Zxx(k:Nat)(a:k≠0):∀t z,ZH k t=.ok z->z.2.length+1<=t.length:=fun _ _ h=>Ydh (Zjr a h).1
theorem Zr2{ts:List Tok}{z:Nd×List Tok}(h:selP ts=.ok z):z.2.length+1<=ts.length:=by
 unfold selP at h;obtain⟨a,t,c,d⟩:=Ze h
 have l1:t.length+1=ts.length:=by
  unfold ZdQ at c;split at c
  ·cases c
  ·exact(Zjr Dc c).1
 split at d
 ·obtain⟨cs,t2,e,f⟩:=Ze d;have l2:=Zmc Zos _ _ _ _ e;cases f
  simp_all;omega
 ·cases d;simp_all
theorem ZEH{o:Nat}{ts:List Tok}{z:Tr×List Tok}(h:winP o ts=.ok z):z.2.length+1<=ts.length:=by
 unfold winP at h;obtain⟨_,t1,c,h⟩:=Ze h;obtain⟨_,t2,d,h⟩:=Ze h;obtain⟨_,t3,e,h⟩:=Ze h;obtain⟨_,t4,a,h⟩:=Ze h;obtain⟨_,t5,f,h⟩:=Ze h;obtain⟨_,t6,g,h⟩:=Ze h;cases h;have a1:=ZeB c;have a2:=Zr2 d;have a3:=ZeB e
 have a4:t4.length<=t3.length:=by
  unfold Zc2 at a;split at a
  ·injection a with a;injection a with _ a;subst a;simp
  ·cases a
 have a5:=ZeB f;have a6:=ZeB g
 simp_all;omega
theorem Zs9{rec:Nat->List Tok->Nat->Out Tr}(a:∀lv t d z,rec lv t d=.ok z->z.2.length+1<=t.length){ts:List Tok}{deep:Nat}{z:Tr×List Tok}(h:Zbu rec ts deep=.ok z):z.2.length+1<=ts.length:=by
 unfold Zbu at h;obtain⟨_,t1,c,h⟩:=Ze h;obtain⟨_,t2,e,h⟩:=Ze h;obtain⟨_,t3,f,h⟩:=Ze h;cases h;have a1:=ZeB c;have a2:=a _ _ _ _ e;have a3:=ZeB f
 simp_all;omega
theorem ZwC{rec:Nat->List Tok->Nat->Out Tr}(a:∀lv t d z,rec lv t d=.ok z->z.2.length+1<=t.length){g:Nat}{ts:List Tok}{deep:Nat}{z:Tr×List Tok}(h:Zcb rec g ts deep=.ok z):z.2.length+1<=ts.length:=by
 unfold Zcb at h;obtain⟨_,t1,c,h⟩:=Ze h;obtain⟨_,t2,e,h⟩:=Ze h;obtain⟨_,t3,f,h⟩:=Ze h;obtain⟨_,t4,i,h⟩:=Ze h;cases h;have a1:=ZeB c;have a2:=ZeB e;have a3:=Zmc (Zxx 2 Dc) _ _ _ _ f;have a4:=Zs9 a i
 simp_all;omega
theorem Zw4{rec:Nat->List Tok->Nat->Out Tr}(a:∀lv t d z,rec lv t d=.ok z->z.2.length+1<=t.length){ts:List Tok}{deep:Nat}{z:Tr×List Tok}(h:Zbw rec ts deep=.ok z):z.2.length+1<=ts.length:=by
 unfold Zbw at h;have f:ts.tail.length<=ts.length:=by simp
 split at h
 ·rename_i e;cases h;cases ts with
  | nil=>exact absurd e Dc
  | cons t r=>simp
 ·split at h
  ·obtain⟨_,t1,c,h⟩:=Ze h;cases h;have:=a _ _ _ _ c
   simp_all;omega
  ·split at h
   ·exact Zs9 a h
   ·split at h
    ·have:=ZwC a h;omega
    ·split at h
     ·have:=ZEH h;omega
     ·obtain⟨_,t1,c,h⟩:=Ze h;cases h;exact Zr2 c
theorem Zg1:∀(n:Nat) (m:Bool) (lv:Nat) (a:Tr) (ts:List Tok) (deep:Nat) (z:Tr×List Tok),Zs n m lv a ts deep=.ok z->z.2.length+(if m then 0 else 1)<=ts.length
 | 0,_,_,_,_,_,_,h=>by cases h
 | n + 1, false, lv, a, ts, deep, z, h => by
   have f:∀lv t d z,Zs n false _ .nil t d=.ok z->z.2.length+1<=t.length:=fun lv t d z h=>Zg1 n _ lv _ t d z h;unfold Zs at h;split at h
   · unfold Zb9 at h
     split at h
     · split at h
       · cases h
       · exact Zw4 f h
     · cases h
   · obtain⟨b,t1,c,e⟩:=Ze h
     have l1:=f _ _ _ _ c;have l2:=Zg1 n _ _ b _ _ z e
     simp_all;omega
 | n + 1, true, lv, a, ts, deep, z, h => by
   unfold Zs at h;split at h
   · cases h;simp
   · obtain⟨b,t1,c,e⟩:=Ze h
     have l1:=Zg1 n _ _ _ _ _ _ c;have l2:=Zg1 n _ _ _ _ _ z e
     simp_all;omega
theorem ZcV(a b:BA):bl (a++b)=bl a++bl b:=by simp[bl]
def dig(d:Nat):UInt8:=UInt8.ofNat (48+d)
def decS(n:Nat):LB:=if n<=9 then [dig n] else decS (n / 10)++[dig (n % 10)]
theorem Zh0{n:Nat}(h:n<=9):decS n=[dig n]:=by rw[decS,if_pos h]
theorem Zi6{n:Nat}(h:¬n<=9):decS n=decS (n / 10)++[dig (n % 10)]:=by rw[decS,if_neg h]
def tw:List Tok->Nat
 | []=>0
 | t::r=>t.txt.length+30+tw r
def cw:List (LB×LB×Bool)->Nat
 | []=>0
 | c::r=>c.1.length+c.2.1.length+6+cw r
def nw:List (LB)->Nat
 | []=>0
 | c::r=>c.length+1+nw r
def ownW(a:Nd):Nat:=24+a.name.length+cw a.jn+nw a.by_
def wT:Tr->Nat
 | .nil=>0
 | .node _ _ a l r=>ownW a+wT l+wT r
def isNil:Tr->Bool
 | .nil=>true
 | .node _ _ _ _ _=>false
def wfT:Tr->Prop
 | .nil=>True
 | .node _ _ a l r=>a.jj<=6/\a.op<=4/\(a.jj=4->a.op<=3)/\(a.jj=5->a.op<=3)/\0<=a.n/\a.n<=1000000000/\(3<=a.jj->isNil l=false)/\(a.jj=4∨a.jj=6->isNil r=false)/\(a.jj<=2->isNil l=true/\isNil r=true)/\(a.jj=3∨a.jj=5->isNil r=true)/\wfT l/\wfT r
theorem ZiI(ts:List Tok):tw ts.tail<=tw ts:=by
 cases ts with
 | nil=>simp
 | cons t r=>show tw r<=t.txt.length+30+tw r;omega
theorem ZiH{ts:List Tok}(h:¬((hd ts).jj=0)):(hd ts).txt.length+30+tw ts.tail=tw ts:=by
 cases ts with
 | nil=>exact absurd rfl h
 | cons t r=>rfl
theorem ZeF{c:LB}{ts:List Tok}{z:Unit×List Tok}(h:Zq c ts=.ok z):tw z.2+30<=tw ts:=by
 unfold Zq at h;split at h
 ·rename_i e;cases h;have:=ZiH (fun h=>Zib e (.inl h))
  simp_all;omega
 ·cases h
theorem Zkp{k:Nat}{ts:List Tok}{z:LB×List Tok}(a:k≠0)(h:ZH k ts=.ok z):tw z.2+z.1.length+30=tw ts:=by
 unfold ZH at h;split at h
 ·rename_i e;cases h;have:=ZiH (ts:=ts) Om
  simp_all;omega
 ·cases h
theorem ZoG(l m:List (LB×LB×Bool)):cw (l++m)=cw l+cw m:=by
 induction l with
 | nil=>simp[cw]
 | cons a l ih=>simp[cw,ih];omega
theorem ZzD(l m:List (LB)):nw (l++m)=nw l+nw m:=by
 induction l with
 | nil=>simp[nw]
 | cons a l ih=>simp[nw,ih];omega
theorem Zns{α:Type}{item:List Tok->Out α}{close:LB}(f:List α->Nat)(d:∀t z l,item t=.ok z->f (l++[z.1])+tw z.2<=f l+tw t):∀(n:Nat) (acc:List α) (ts:List Tok) (z:List α×List Tok),ZS item close n acc ts=.ok z->f z.1+tw z.2<=f acc+tw ts
 | 0,_,_,_,h=>by cases h
 | n + 1, acc, ts, z, h => by
   have c:(if isT _ _ then .ok _ else bnd _ _)=.ok z:=h;cases e:isT close (hd ts)
   · rw[e]at c
     obtain⟨_,t1,g,i⟩:=Ze c;obtain⟨a,t2,j,k⟩:=Ze i
     have l1:tw t1<=tw ts:=by
       split at g
       · simp_all
       · have:=ZeF g;simp_all;omega
     have l2:=d _ _ acc j;have l3:=Zns f d n _ _ _ k;simp at l2;omega
   · rw[e]at c
     injection c with c;subst c;have:=ZiI ts
     simp_all
theorem ZDm(t:List Tok)(z:(LB×LB×Bool)×List Tok)(l:List (LB×LB×Bool))(h:ZV t=.ok z):cw (l++[z.1])+tw z.2<=cw l+tw t:=by
 unfold ZV at h;obtain⟨a,t1,e,h⟩:=Ze h;obtain⟨v,t2,c,h⟩:=Ze h;obtain⟨b,t3,f,h⟩:=Ze h;cases h;have l1:=Zkp Dc e;have l3:=Zkp Dc f
 have l2:tw t2<=tw t1:=by
  unfold Zdc at c;split at c
  ·injection c with c;injection c with _ c;subst c;exact ZiI _
  ·obtain⟨_,t4,g,d⟩:=Ze c;injection d with d;injection d with _ d;subst d;have:=ZeF g
   simp_all;omega
 rw[ZoG];simp[cw]at *
 omega
theorem Zkq{ts:List Tok}{z:Nd×List Tok}(h:selP ts=.ok z):ownW z.1+6+tw z.2<=tw ts/\z.1.jj=1/\z.1.op=0/\z.1.n=0/\z.1.by_=[]:=by
 unfold selP at h;obtain⟨a,t,c,d⟩:=Ze h
 have l1:tw t+a.length+30=tw ts:=by
  unfold ZdQ at c;split at c
  ·cases c
  ·exact Zkp Dc c
 split at d
 ·obtain⟨cs,t2,e,f⟩:=Ze d;cases f;have l2:=Zns _ ZDm _ _ _ _ e;have l3:=ZiI t;refine⟨?_,rfl,rfl,rfl,rfl⟩;simp[ownW,cw,nw]at *
  omega
 ·cases d;refine⟨?_,rfl,rfl,rfl,rfl⟩;simp[ownW,cw,nw]at *
  omega
theorem Zzr{l:LB}:0<=numV l/\numV l<=1000000000:=by
 unfold numV;cases h:ZQ 1000000000 l with
 | none=>simp
 | some v=>have:=Zgh h;simp;omega
theorem Zl6{a:Nd}(e:a.jj<=2)(d:a.op<=4)(c:0<=a.n/\a.n<=1000000000):wfT (Zbg a):=
 ⟨by omega,d,by omega,by omega,c.1,c.2,by omega,by omega,fun _=>⟨rfl,rfl⟩,by omega,trivial,trivial⟩
theorem ZDp{o:Nat}(c:o<=4){ts:List Tok}{z:Tr×List Tok}(h:winP o ts=.ok z):wfT z.1/\isNil z.1=false/\wT z.1+tw z.2<=tw ts:=by
 unfold winP at h;obtain⟨_,t1,d,h⟩:=Ze h;obtain⟨p,t2,e,h⟩:=Ze h;obtain⟨_,t3,f,h⟩:=Ze h;obtain⟨m,t4,a,h⟩:=Ze h;obtain⟨_,t5,g,h⟩:=Ze h;obtain⟨_,t6,i,h⟩:=Ze h;cases h;have a1:=ZeF d;have a2:=Zkq e;have a3:=ZeF f
 have a4:tw t4<=tw t3/\1<=m/\m<=1000:=by
  unfold Zc2 at a;split at a
  ·rename_i j;injection a with a;injection a with a h4';subst a;subst h4';exact⟨ZiI _,j.2,(Zmr).2⟩
  ·cases a
 have a5:=ZeF g;have a6:=ZeF i;refine⟨Zl6 (Yac 2) c ⟨by simp_all;omega,by simp_all;omega⟩,rfl,?_⟩;simp[Zbg,wT,ownW,nw]at *
 omega
def InvP(rec:Nat->List Tok->Nat->Out Tr):Prop:=∀lv t d z,rec lv t d=.ok z->wfT z.1/\isNil z.1=false/\wT z.1+tw z.2<=tw t
theorem ZsS{rec:Nat->List Tok->Nat->Out Tr}(c:InvP rec){ts:List Tok}{deep:Nat}{z:Tr×List Tok}(h:Zbu rec ts deep=.ok z):wfT z.1/\isNil z.1=false/\wT z.1+tw z.2<=tw ts:=by
 unfold Zbu at h;obtain⟨_,t1,d,h⟩:=Ze h;obtain⟨a,t2,e,h⟩:=Ze h;obtain⟨_,t3,f,h⟩:=Ze h;cases h;have a1:=ZeF d;obtain⟨b1,b2,b3⟩:=c _ _ _ _ e;have a3:=ZeF f
 simp_all;omega
theorem ZDn{rec:Nat->List Tok->Nat->Out Tr}(d:InvP rec){g:Nat}(c:g<=3){ts:List Tok}{deep:Nat}{z:Tr×List Tok}(h:Zcb rec g ts deep=.ok z):wfT z.1/\isNil z.1=false/\wT z.1+tw z.2<=tw ts:=by
 unfold Zcb at h;obtain⟨_,t1,e,h⟩:=Ze h;obtain⟨_,t2,f,h⟩:=Ze h;obtain⟨ns,t3,i,h⟩:=Ze h;obtain⟨a,t4,j,h⟩:=Ze h;cases h;have a1:=ZeF e;have a2:=ZeF f;have a3:=Zns nw (fun t z l k=>by have:=Zkp Dc k;rw[ZzD];simp[nw];omega) _ _ _ _ i;obtain⟨b1,b2,b3⟩:=ZsS d j;refine⟨⟨by simp,by simp_all;omega,fun _=>c,fun _=>c,Yd0 _,by simp,fun _=>b2,fun h=>by simp at h,fun h=>absurd (show(5)<=2 from h) Om,fun _=>rfl,b1,trivial⟩,rfl,?_⟩;simp[wT,ownW,cw,nw]at *
 omega
theorem Zji{w:LB}{l:List (LB)}{i:Nat}(h:idx w l=some i):i<l.length:=by
 induction l generalizing i with
 | nil=>cases h
 | cons x l ih=>
  unfold idx at h;split at h
  ·simp_all;omega
  ·cases a:idx w l with
   | none=>simp_all
   | some j=>simp_all;omega
theorem ZDo{rec:Nat->List Tok->Nat->Out Tr}(c:InvP rec){ts:List Tok}{deep:Nat}{z:Tr×List Tok}(h:Zbw rec ts deep=.ok z):wfT z.1/\isNil z.1=false/\wT z.1+tw z.2<=tw ts:=by
 unfold Zbw at h;have j:=ZiI ts;split at h
 ·rename_i k;cases h;have:=ZiH (ts:=ts) Om;refine⟨Zl6 (Yag _) (Yag _) (Zzr),rfl,?_⟩;simp[Zbg,wT,ownW,cw,nw]at *
  omega
 ·split at h
  ·rename_i e;obtain⟨a,t1,d,h⟩:=Ze h;cases h;obtain⟨b1,b2,b3⟩:=c _ _ _ _ d;have:=ZiH (fun h=>Zib e (.inl h));refine⟨⟨by decide,Yag _,fun _=>Yag _,fun _=>Yag _,Yd0 _,by decide,fun _=>b2,fun h=>by simp[nd0]at h,fun h=>absurd (show(3)<=2 from h) Om,fun _=>rfl,b1,trivial⟩,rfl,?_⟩;simp[wT,ownW,cw,nw,nd0]at *
   omega
  ·split at h
   ·exact ZsS c h
   ·split at h
    ·rename_i g f;have:=Zji f;obtain⟨b1,b2,b3⟩:=ZDn c (show g<=3 by simp[ZW]at this;omega) h
     simp_all;omega
    ·split at h
     ·rename_i o i;have:=Zji i;obtain⟨b1,b2,b3⟩:=ZDp (show o<=4 by simp[Z0]at this;omega) h
      simp_all;omega
     ·obtain⟨p,t1,d,h⟩:=Ze h;cases h;obtain⟨a1,a2,a3,a4,a5⟩:=Zkq d;simp only at a1 a2 a3 a4;refine⟨Zl6 Om Om ⟨by omega,by omega⟩,rfl,?_⟩;simp[Zbg,wT]at *
      omega
theorem Zfv:∀(n:Nat) (m:Bool) (lv:Nat) (a:Tr) (ts:List Tok) (deep:Nat) (z:Tr×List Tok),(m=true->wfT a/\isNil a=false)->Zs n m lv a ts deep=.ok z->wfT z.1/\isNil z.1=false/\wT z.1+tw z.2<=tw ts+(if m then wT a else 0)
 | 0,_,_,_,_,_,_,_,h=>by cases h
 | n + 1, false, lv, a, ts, deep, z, _, h => by
   have k : InvP (fun lv t d => Zs n false lv .nil t d) := fun lv t d z h => by
     obtain⟨g,i,r⟩:=Zfv n false lv .nil t d z (fun h=>(by cases h)) h
     simp_all
   unfold Zs at h;split at h
   · unfold Zb9 at h
     split at h
     · split at h
       · cases h
       · obtain⟨g,i,r⟩:=ZDo k h
         simp_all
     · cases h
   · obtain⟨b,t1,g,i⟩:=Ze h
     obtain⟨l1,l2,l3⟩:=k _ _ _ _ g;obtain⟨m1,m2,m3⟩:=Zfv n true lv b t1 deep z (fun _=>⟨l1,l2⟩) i
     simp_all;omega
 | n + 1, true, lv, a, ts, deep, z, s, h => by
   obtain⟨l,o⟩:=s rfl;unfold Zs at h;split at h
   · cases h;simp_all;omega
   · rename_i p e
     obtain⟨b,t1,g,i⟩:=Ze h;obtain⟨l1,l2,l3⟩:=Zfv n false _ _ _ _ _ (fun h=>(by cases h)) g
     have q:((p.1=4/\p.2<=3)∨(p.1=6/\p.2=0))/\tw ts.tail+30<=tw ts:=by
       have j:∀c,isT c (hd ts)=true->tw ts.tail+30<=tw ts:=fun c f=>by have:=ZiH (ts:=ts) (fun h=>Zib f (Or.inl h));omega
       unfold LS.opAt at e;split at e
       · split at e
         · rename_i f;cases e;exact⟨Or.inr ⟨rfl,rfl⟩,j _ f⟩
         simp_all
       · split at e
         · split at e
           · rename_i f;cases e;exact⟨Or.inl ⟨rfl,by decide⟩,j _ f⟩
           · split at e
             · rename_i f;cases e;exact⟨Or.inl ⟨rfl,by decide⟩,j _ f⟩
             simp_all
         · split at e
           · rename_i f;cases e;exact⟨Or.inl ⟨rfl,by decide⟩,j _ f⟩
           · split at e
             · rename_i f;cases e;exact⟨Or.inl ⟨rfl,by decide⟩,j _ f⟩
             simp_all
     obtain⟨w,v⟩:=q
     have u:wfT (.node 0 0 (nd0 p.1 p.2) a b):=by
       refine⟨?_,?_,?_,?_,Yd0 _,by constructor<;>omega,fun _=>o,fun _=>l2,?_,?_,l,l1⟩
       · show p.1<=6;omega
       · show p.2<=4;omega
       · intro h;show p.2<=3;omega
       · intro h;exact absurd (show p.1=5 from h) Om
       · intro h;exact absurd (show p.1<=2 from h) Om
       · intro h;exact absurd (show p.1=3∨p.1=5 from h) Om
     obtain⟨m1,m2,m3⟩:=Zfv n true lv _ t1 deep z (fun _=>⟨u,rfl⟩) i;refine⟨m1,m2,?_⟩;simp[wT,ownW,cw,nw,nd0]at l3 m3 ⊢;omega
end Go.Proofs.YtcdgkkfipdoeeaaGreatDoor
