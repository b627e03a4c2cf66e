/- Parts. -/
import Derived.Test.YtpbemaaghbbocaaGreatDoorProg
import Derived.Lib.Strings
import Derived.WalkSpells
import Derived.WalkLawsBesides
import Derived.Stop.Asserts
import Derived.RowKitTokens
set_option linter.all false
set_option maxRecDepth 100000
set_option maxHeartbeats 16000000
namespace Go.Proofs.YtpbemaaghbbocaaGreatDoor.LS
open Go Go.RowKit
abbrev Ya1:=@Nat.not_lt_zero
abbrev Ya2:=@List.getElem?_map
abbrev Ya3:=@List.eq_nil_of_length_eq_zero
abbrev Ya4:=@List.take_length
abbrev Ya5:=@List.take_of_length_le
abbrev Ya6:=@Option.getD_some
abbrev Ya7:=@List.length_take
abbrev Ya9:=@List.getElem?_eq_none
abbrev Yaa:=@List.getD_eq_getElem?_getD
abbrev Yab:=@List.length_append
abbrev Yac:=@Nat.le_refl
abbrev Yae:=@Array.getElem?_eq_some_iff
abbrev Yaf:=@Go.RowKit.Below.refl
abbrev Yag:=@Nat.zero_le
abbrev Yah:=@Nat.le_trans
abbrev Yai:=@Go.World.block_lt_of_cell?
abbrev Yaj:=@List.length_cons
abbrev Yak:=@List.length_map
abbrev Yam:=@List.mem_cons_of_mem
abbrev Yan:=@List.append_assoc
abbrev Yap:=@List.mem_singleton
abbrev Yaq:=@List.map_append
abbrev Yar:=@List.mem_append
abbrev Yas:=@Bool.and_eq_true
abbrev Yau:=@List.mem_cons
abbrev Yav:=@Nat.lt_or_ge
abbrev Yaw:=@Nat.lt_of_lt_of_le
abbrev Yax:=@Option.some.inj
abbrev Yay:=@List.mem_cons_self
abbrev Yaz:=@ByteArray.size_append
abbrev Yb1:=@List.map_map
abbrev Yb2:=@Array.getElem?_toList
abbrev Yb3:=@List.getElem?_append_right
abbrev Yb4:=@List.length_tail
abbrev Yb5:=@List.size_toArray
abbrev Yb6:=@Classical.byContradiction
abbrev Yb8:=@List.drop_of_length_le
abbrev Yb9:=@List.mem_range
abbrev Ybb:=@List.map_cons
abbrev Ybc:=@Go.World.ownsRow_nil
abbrev Ybd:=@Nat.lt_succ_self
abbrev Ybe:=@List.mem_map
abbrev Ybf:=@Option.map_some
abbrev Ybg:=@List.pairwise_cons
abbrev Ybh:=@Bool.eq_iff_iff
abbrev Ybj:=@List.length_singleton
abbrev Ybk:=@Option.map_eq_some_iff
abbrev Ybl:=@Array.length_toList
abbrev Ybm:=@Go.World.cell?_alloc_lt
abbrev Ybn:=@Array.getElem?_modify
abbrev Ybo:=@Go.IntKind.wrap_i64
abbrev Ybp:=@List.foldl_cons
abbrev Ybq:=@List.length_nil
abbrev Ybr:=@List.getElem?_append_left
abbrev Ybt:=@Go.MapKept.run_getObj_map
abbrev Ybu:=@List.all_eq_true
abbrev Ybv:=@List.length_drop
abbrev Ybx:=@List.pairwise_map
abbrev Yby:=@List.cons_append
abbrev Yc1:=@List.filter_eq_nil_iff
abbrev Yc3:=@Nat.min_eq_left
abbrev Yc5:=@Prod.mk.injEq
abbrev Yc7:=@List.mem_append_left
abbrev Yc8:=@List.drop_take
abbrev Yca:=@List.append_nil
abbrev Ycb:=@List.map_congr_left
abbrev Ycc:=@Go.World.cell?_of_block
abbrev Ycd:=@List.flatMap_cons
abbrev Yce:=@Bool.eq_false_iff
abbrev Ycf:=@Nat.zero_add
abbrev Ycg:=@List.mem_filter
abbrev Ych:=@Go.MapKept.run_setObj_map
abbrev Yci:=@Option.some.injEq
abbrev Ycj:=@List.length_pos_iff
abbrev Yck:=@List.mem_or_eq_of_mem_set
abbrev Ycl:=@Go.Exit.noGoto_ret
abbrev Ycm:=@List.getElem?_eq_some_iff
abbrev Ycn:=@List.take_append_drop
abbrev Yco:=@List.map_singleton
abbrev Ycp:=@Ne.symm
abbrev Ycr:=@Bool.not_eq_true'
abbrev Ycs:=@List.ext_getElem?
abbrev Yct:=@Bool.or_eq_true
abbrev Ycu:=@List.nil_append
abbrev Ycv:=@Bool.false_ne_true
abbrev Ycw:=@Option.isSome_iff_exists
abbrev Ycx:=@List.Pairwise.imp_of_mem
abbrev Ycy:=@List.getElem?_cons_zero
abbrev Yd0:=@Int.le_refl
abbrev Yd1:=@List.head?_eq_getElem?
abbrev Yd2:=@List.sum_cons
abbrev Yd3:=@Bool.and_true
abbrev Yd6:=@List.singleton_append
abbrev Yda:=@List.filter_cons_of_pos
abbrev Ydb:=@List.filter_cons_of_neg
abbrev Ydc:=@Go.World.frozen?_alloc_old
abbrev Yde:=@Bool.false_eq_true
abbrev Ydf:=@UInt8.toNat_inj
abbrev Ydg:=@List.map_nil
abbrev Ydh:=@Nat.le_of_eq
abbrev Ydi:=@Bool.and_false
abbrev Ydj:=@List.length_filter_le
abbrev Ydk:=@List.contains_iff_mem
abbrev Ydl:=@List.isEmpty_iff
abbrev Ydm:=@Go.World.cell?_alloc_at
abbrev Ydn:=@List.mem_of_mem_take
abbrev Ydu:=@Array.toList_filter
abbrev Ye3:=@Array.getElem?_push_size
abbrev Ye4:=@Array.setIfInBounds_comm
abbrev Ye6:=@List.getLast_eq_getLastD
abbrev Ye7:=@List.getElem?_take_of_lt
abbrev Yea:=@Array.replicate_succ
abbrev Yeb:=@Array.replicate_zero
abbrev Yef:=@List.filterMap_cons
abbrev Yeg:=@List.filter_eq_self
abbrev Yeh:=@List.append_toArray
abbrev Yei:=@List.drop_drop
abbrev Yel:=@List.getLastD_cons
abbrev Yem:=@Array.extract_eq_self_of_le
abbrev Yep:=@List.all_cons
abbrev Yer:=@List.map_take
abbrev Yes:=@Int.tdiv_eq_ediv_of_nonneg
abbrev Yew:=@List.push_toArray
abbrev Yey:=@List.getLastD_eq_getLast?
abbrev Yf7:=@Go.World.size_alloc
abbrev Yf9:=@Go.World.cell?_setCell_same
abbrev Yfb:=@List.countP_cons_of_pos
abbrev Yfe:=@Go.Oper.upon_value
abbrev Yff:=@Int.natAbs_tdiv
abbrev Yfg:=@Nat.div_le_self
abbrev Yfh:=@Go.World.var?_cell
abbrev Yfi:=@Array.getElem?_eq_none
abbrev Yfk:=@List.Perm.pairwise_iff
abbrev Yfm:=@Bool.and_eq_false_iff
abbrev Yfo:=@Array.getElem?_append
abbrev Yfp:=@UInt8.lt_iff_toNat_lt
abbrev Yft:=@Bool.false_or
abbrev Yfu:=@Nat.add_assoc
abbrev Yfw:=@Nat.sub_self
abbrev Yga:=@ByteArray.size_extract
abbrev Ygb:=@List.drop_append_of_le_length
abbrev Ygc:=@List.length_eq_zero_iff
abbrev Ygd:=@List.filter_append
abbrev Ygf:=@Nat.lt_succ_iff_lt_or_eq
abbrev Ygh:=@List.sum_append
abbrev Ygl:=@List.filter_congr
abbrev Ygn:=@List.isEmpty_eq_false_iff
abbrev Ygu:=@List.getLast?_eq_some_getLast
abbrev Ygv:=@List.getElem?_drop
abbrev Ygw:=@List.getLast_mem
abbrev Ygx:=@List.range_succ
abbrev LB:=List UInt8
abbrev BA:=ByteArray
abbrev Vi(n:Int):Value:=.int .i64 n
abbrev Vp(b:Nat):Value:=.pointer (some ⟨b,0,none⟩)
abbrev S0:Value:=.slice none 0 0
abbrev BW(a b:World):Prop:=Below a.heap.size a b
abbrev Cq:=@Calls Tryz.prog
theorem Dc{p:Prop}(h:p:=by decide):p:=h
theorem Om{p:Prop}(h:p:=by omega):p:=h
theorem Kr{p:Prop}(h:p:=by kernel_rfl):p:=h
theorem hid{p:Prop}(h:p):Hid p:=h
def bl(s:BA):LB:=s.data.toList
theorem Zbt(s:BA):s.toList=bl s:=Lib.toList_data s
theorem Zd(s:BA):(bl s).length=s.size:=by simp[bl]
theorem ZoT{s:BA}(h:s.size<1):s.toList.isEmpty=true:=by
 rw[Zbt,Ydl,<-Ygc,Zd];omega
theorem Zrh{s:BA}(h:1<=s.size):s.toList.isEmpty=false:=by
 rw[Zbt,Ygn,<-Ycj,Zd];omega
theorem ZbF(l:LB):bl ⟨l.toArray⟩=l:=by simp[bl]
theorem Zq6(s:BA):(⟨(bl s).toArray⟩:BA)=s:=by simp[bl]
theorem ZgE (s : BA) (k : Nat) (h : k < s.size) : (bl s)[k]'(by rw [Zd]; exact h) = s[k] := by
  unfold bl;rfl
theorem ZcW{a b:BA}(h:bl a=bl b):a=b:=by rw[<-Zq6 a,<-Zq6 b,h]
theorem Zfh(s:BA)(a b:Nat):bl (s.extract a b)=((bl s).take b).drop a:=by
 unfold bl;rw[ByteArray.data_extract];simp[Array.toList_extract];rw[Yc8]
def Zp(c:UInt8):Bool:=decide (97<=(c.toNat:Int)) && decide ((c.toNat:Int)<=122)
def ZC(c:UInt8):Bool:=decide (48<=(c.toNat:Int)) && decide ((c.toNat:Int)<=57)
def Zx(l:LB):Bool:=l.all Zp && (decide (1<=(l.length:Int)) && decide ((l.length:Int)<=8))
def Z3(l:LB):Bool:=l.all (fun c=>Zp c || ZC c) && decide ((l.length:Int)<=8)
theorem ZiB(s:BA)(k:Nat)(h:k<s.size):(bl s).take (k+1)=(bl s).take k++[s[k]]:=by
 rw[List.take_succ_eq_append_getElem (by rw[Zd];exact h),ZgE s k h]
theorem ZdW(s:BA)(k:Nat)(h:k<s.size):(bl s).drop k=s[k]::(bl s).drop (k+1):=by
 rw[List.drop_eq_getElem_cons (by rw[Zd];exact h),ZgE s k h]
theorem ZkI(p:UInt8->Bool)(s:BA)(k:Nat)(h:k<s.size)(a:((bl s).take k).all p=true)(c:p s[k]=true):((bl s).take (k+1)).all p=true:=by
 rw[ZiB s k h,List.all_append,a];simp[c]
theorem ZkH(p:UInt8->Bool)(s:BA)(k:Nat)(h:k<s.size)(a:p s[k]=false):(bl s).all p=false:=by
 rw[List.all_eq_false];exact⟨s[k],by rw[<-ZgE s k h];exact List.getElem_mem _,by simp[a]⟩
theorem ZkG(p:UInt8->Bool)(s:BA)(k:Nat)(h:¬k<s.size)(a:((bl s).take k).all p=true):(bl s).all p=true:=by
 rwa [Ya5 (by rw[Zd];omega)]at a
def val(l:LB):Nat:=l.foldl (fun n c=>10*n+(c.toNat - 48)) 0
def ZQ(most:Nat)(l:LB):Option Nat:=
 if l.length<1∨(l.head?=some 48/\1<l.length)∨l.all ZC=false∨most<val l then none else some (val l)
theorem Znt(l:LB)(c:UInt8):val (l++[c])=10*val l+(c.toNat - 48):=by simp[val]
theorem ZDM (r : LB) : ∀ n : Nat, n <= r.foldl (fun n c => 10 * n + (c.toNat - 48)) n := by
  induction r with
  | nil=>intro n;exact Yac _
  | cons c r ih=>intro n;exact Yah (show n<=10*n+(c.toNat - 48) by omega) (ih _)
theorem ZDO(l:LB)(k:Nat):val (l.take k)<=val l:=by
 conv=>rhs;rw[<-Ycn k l]
 unfold val;rw[List.foldl_append];exact ZDM _ _
theorem Zvx{c:UInt8}(h:ZC c=true):48<=c.toNat/\c.toNat<=57:=by
 simp[ZC]at h;omega
def seek(c:UInt8):LB->Option Nat
 | []=>none
 | b::l=>if b == c then some 0 else (seek c l).map (· + 1)
def cut(c:UInt8)(l:LB):Option (LB×LB):=(seek c l).map fun i=>(l.take i,l.drop (i+1))
theorem ZBX(c:UInt8)(a b:LB)(h:seek c a=none):seek c (a++b)=(seek c b).map (· + a.length):=by
 induction a with
 | nil=>simp
 | cons x a ih=>
  unfold seek at h;split at h
  ·cases h
  ·rename_i d;have e:seek c a=none:=by simpa using h
   simp only[Yby,seek,d];rw[ih e];cases seek c b <;> simp[Yfu]
theorem Zj9(c:UInt8)(l:LB):seek c l=none ↔ c∉l:=by
 induction l with
 | nil=>simp[seek]
 | cons b l ih=>
  unfold seek;by_cases a:b=c
  ·subst a;simp
  ·simp[a,ih,Ycp a]
theorem Ziv{c:UInt8}{l:LB}{i:Nat}(h:seek c l=some i):∃a b,l=a++c::b/\a.length=i/\c∉a:=by
 induction l generalizing i with
 | nil=>simp[seek]at h
 | cons b l ih=>
  unfold seek at h;by_cases d:b=c
  ·subst d;simp at h;subst h;exact⟨[],l,rfl,rfl,by simp⟩
  ·simp[d]at h;obtain⟨j,e,rfl⟩:=h;obtain⟨a',b',rfl,rfl,f⟩:=ih e;exact⟨b::a',b',rfl,by simp,by simp[f,Ycp d]⟩
theorem Zgq(c:UInt8)(a b:LB)(h:c∉a):seek c (a++c::b)=some a.length:=by
 rw[ZBX c a _ ((Zj9 c a).2 h)];simp[seek]
theorem ZBY{c:UInt8}{l:LB}{i:Nat}(h:seek c l=some i):i<l.length:=by
 obtain⟨a,b,rfl,rfl,_⟩:=Ziv h;simp
def pre(p:LB):List (LB)->List (LB)
 | []=>[p]
 | h::t=>(p++h)::t
def split(c:UInt8):LB->List (LB)
 | []=>[[]]
 | b::l=>if b == c then []::split c l else pre [b] (split c l)
theorem Zix(c:UInt8)(l:LB):split c l≠[]:=by
 cases l with
 | nil=>simp[split]
 | cons b l=>
  unfold split;split
  ·simp
  ·cases h:split c l <;> simp[pre]
theorem ZAS(c:UInt8)(l:LB):pre [] (split c l)=split c l:=by
 cases h:split c l with
 | nil=>exact absurd h (Zix c l)
 | cons a t=>simp[pre]
theorem ZAT{p q:LB}{l:List (LB)}(h:l≠[]):pre p (pre q l)=pre (p++q) l:=by
 cases l with
 | nil=>exact absurd rfl h
 | cons a t=>simp[pre]
theorem Zhc(c:UInt8)(l:LB):split c (c::l)=[]::split c l:=by simp[split]
theorem Zke(c b:UInt8)(l:LB)(h:(b == c)=false):split c (b::l)=pre [b] (split c l):=by
 simp only[split,h];rfl
theorem Zhb(c:UInt8)(p r:LB)(h:c∉p):split c (p++r)=pre p (split c r):=by
 induction p with
 | nil=>rw[Ycu,ZAS]
 | cons x p ih=>
  have a:(x == c)=false:=by simp;rintro rfl;simp at h
  rw[Yby,Zke c x _ a,ih (by simp at h;exact h.2),ZAT (Zix c r)];rfl
theorem Zhd(c:UInt8)(l:LB):(split c l).length<=l.length+1:=by
 induction l with
 | nil=>simp[split]
 | cons b l ih=>
  by_cases d:b=c
  ·subst d;rw[Zhc];simp;exact ih
  ·rw[Zke c b l (by simp[d])];cases e:split c l with
   | nil=>simp[pre]
   | cons a t=>rw[e]at ih;simp[pre];simp at ih;omega
end Go.Proofs.YtpbemaaghbbocaaGreatDoor.LS
namespace Go.Proofs.YtpbemaaghbbocaaGreatDoor
open Go.RowKit LS Go.Proofs.Tryz
theorem Zset {α:Type}:(∀(l:List α)(i:Nat)(a:α),l.toArray.setIfInBounds i a=(l.set i a).toArray)/\(∀(a:α)(l:List α)(b:α),(a::l).set 0 b=b::l)/\∀(a:α)(l:List α)(i:Nat)(b:α),(a::l).set (i+1) b=a::l.set i b:=⟨fun _ _ _=>by simp only [List.setIfInBounds_toArray],fun _ _ _=>rfl,fun _ _ _ _=>rfl⟩
theorem Zget {α:Type}:(∀(a:α)(l:List α),(a::l)[0]?=some a)/\∀(a:α)(l:List α)(i:Nat),(a::l)[i+1]?=l[i]?:=⟨fun _ _=>rfl,fun _ _ _=>rfl⟩
theorem Zbal {w:World}{o:Obj}:BW w (w.alloc o):=(Yaf _ _).alloc (Yac _) _
theorem cret{P:Program}{f:Nat}{a:Array Value}{w w':World}{x:Ending}{Q:Ending->World->Prop}(h:Calls P f a w fun e u=>e=x/\u=w')(k:Q x w'):Calls P f a w Q:=h.mono fun e u ⟨c,d⟩=>by rw[c,d];exact k
theorem Zn{w w':World}{base:Nat}{e:TypeId}{size:Nat}{v:Value}{n:Nat}{xs:List Value}(h:w.ownsRow base e size v n xs)(f:BW w w'):w'.ownsRow base e size v n xs:=by
 obtain⟨i,a⟩:=h;refine⟨i,?_⟩;rcases a with a|⟨g,cap,cur,j,k,c,r⟩
 ·exact Or.inl a
 ·have d:g<w.heap.size:=by
   rcases Yav g w.heap.size with h|h
   ·exact h
   ·rw[Yfi h]at c;cases c
  exact Or.inr ⟨g,cap,cur,j,k,by rw[f.block g d];exact c,r⟩
theorem Zl{w:World}{base:Nat}{e:TypeId}{size:Nat}{v:Value}{n:Nat}{xs:List Value}(h:w.ownsRow base e size v n xs):∃av cp,v=.slice av n cp:=by
 rcases h.2 with ⟨h,a⟩|⟨g,cap,cur,h,_⟩
 ·exact⟨none,0,by rw[h,a]⟩
 ·exact⟨_,_,h⟩
theorem ZzW{w:World}{base:Nat}{e:TypeId}{size:Nat}{v:Value}{n:Nat}{xs:List Value}(h:w.ownsRow base e size v n xs)(k:Nat):(w.drewN k).ownsRow base e size v n xs:=h
theorem ZiX(B:Nat)(w:World)(k:Nat):Below B w (w.drewN k):=⟨rfl,rfl,rfl,Yac _,fun _ _=>rfl⟩
theorem ZhQ{B:Nat}{a w:World}(h:Below B a w)(k:Nat):Below B a (w.drewN k):=h.trans (ZiX B w k)
theorem belB{n:Nat}{a w:World}(h:Below n a w:=by repeat (first|exact Yaf _ _|assumption|refine Below.alloc ?_ (by first|omega|(simp;omega)|simp) _|refine Below.setCell ?_ (by first|omega|(simp;omega)|simp) _|refine ZhQ ?_ _|refine Below.drew ?_)):Below n a w:=h
theorem ZkW{B:Nat}{w w':World}{k:Nat}(h:Below B (w.drewN k) w'):Below B w w':=⟨h.os,h.tape,h.output,h.size,h.block⟩
theorem ZU{s:BA}{r:LB}(h:bl s=r):s.size=r.length:=by rw[<-Zd,h]
theorem Zn9{W:World}{a:Nat}{u v:Value}(d:W.cell? ⟨a,0,none⟩=some u)(e:W.cell? ⟨a,1,none⟩=some v):∀j x,[u,v][j]?=some x->W.cell? ((⟨a,0,none⟩:Addr).add j)=some x:=by
 intro j x c
 match j,c with
 | 0,c=>simp at c;subst c;simpa [Addr.add] using d
 | 1,c=>simp at c;subst c;simpa [Addr.add] using e
theorem Zuy{W:World}{a:Nat}{u v x:Value}(d:W.cell? ⟨a,0,none⟩=some u)(e:W.cell? ⟨a,1,none⟩=some v)(f:W.cell? ⟨a,2,none⟩=some x):∀j y,[u,v,x][j]?=some y->W.cell? ((⟨a,0,none⟩:Addr).add j)=some y:=by
 intro j y c
 match j,c with
 | 0,c=>simp at c;subst c;simpa [Addr.add] using d
 | 1,c=>simp at c;subst c;simpa [Addr.add] using e
 | 2,c=>simp at c;subst c;simpa [Addr.add] using f
theorem ZfO(g j:Nat):(⟨g,0,none⟩:Addr).add j=⟨g,j,none⟩:=by
 by_cases h:j=0 <;> simp[Addr.add,h]
theorem Zi{w:World}{base:Nat}{e:TypeId}{size:Nat}{g n cp:Nat}{xs:List Value}(h:w.ownsRow base e size (.slice (some ⟨g,0,none⟩) n cp) n xs)(j:Nat)(u:Value)(a:xs[j]?=some u):w.cell? ⟨g,j,none⟩=some u:=by
 have:=h.cells rfl j u a;rwa [ZfO]at this
theorem Z1{w:World}{base:Nat}{e:TypeId}{size:Nat}{g n cp:Nat}{xs:List Value}(h:w.ownsRow base e size (.slice (some ⟨g,0,none⟩) n cp) n xs):g<w.heap.size:=(h.lt g rfl).2
theorem ZF{w:World}{base:Nat}{e:TypeId}{size:Nat}{v:Value}{n:Nat}{xs:List Value}(h:w.ownsRow base e size v n xs)(c:0<n):∃g cp,v=.slice (some ⟨g,0,none⟩) n cp:=by
 rcases h.2 with ⟨_,d⟩|⟨g,cap,cur,a,_⟩
 ·omega
 ·exact⟨g,cap,a⟩
theorem ZmC{w:World}{b1 b2:Nat}{e1 e2:TypeId}{s1 s2:Nat}{v1 v2:Value}{n1 n2:Nat}{xs1 xs2:List Value}(d:w.ownsRow b1 e1 s1 v1 n1 xs1)(e:w.ownsRow b2 e2 s2 v2 n2 xs2)(f:e1≠e2):v1.ownBlock=none∨v1.ownBlock≠v2.ownBlock:=by
 rcases d.2 with ⟨rfl,_⟩|⟨g1,c1,cur1,rfl,_,c,_⟩
 ·exact Or.inl rfl
 ·right
  rcases e.2 with ⟨rfl,_⟩|⟨g2,c2,cur2,rfl,_,a,_⟩
  ·simp[Value.ownBlock]
  ·intro h;have g:g1=g2:=by simpa [Value.ownBlock] using h
   subst g;rw[c]at a;injection a with h3;injection h3 with _ h4;exact f h4
theorem Zcx{w:World}{b:Nat}{e:TypeId}{sz:Nat}{v:Value}{n:Nat}{xs:List Value}(h:w.ownsRow b e sz v n xs){q:Nat}{c:Array Value}{t:TypeId}{fr:Nat×Nat}(d:w.heap[q]?=some (.cells c t fr))(f:t≠e):some q≠v.ownBlock:=by
 rcases h.2 with ⟨rfl,_⟩|⟨g,cp,cur,rfl,_,a,_⟩
 ·simp[Value.ownBlock]
 ·intro i;have j:q=g:=by simpa [Value.ownBlock] using i
  subst j;rw[d]at a;injection a with h3;injection h3 with _ h4;exact f h4
theorem ZgW{s:BA}(h:s.toList.isEmpty=true):bl s=[]:=by rw[Zbt]at h;exact Ydl.1 h
theorem Zij{s:BA}(h:s.toList.isEmpty=false):bl s≠[]:=by rw[Zbt]at h;exact Ygn.1 h
theorem Zne(c:UInt8)(l:LB):∀x∈split c l,x.length<=l.length:=by
 induction l with
 | nil=>simp[split]
 | cons b l ih=>
  intro x a;by_cases e:b=c
  ·subst e;rw[Zhc]at a;rcases Yau.1 a with rfl|a
   ·simp
   ·have:=ih x a;simp;omega
  ·rw[Zke c b l (by simp[e])]at a;cases d:split c l with
   | nil=>exact absurd d (Zix c l)
   | cons h t=>
    rw[d]at a ih;simp only[pre]at a;rcases Yau.1 a with rfl|a
    ·have:=ih h (by simp);simp;omega
    ·have:=ih x (by simp[a]);simp;omega
theorem Zkd(c:UInt8)(l:LB)(k:Nat)(a:k<(split c l).length):((split c l).getD k []).length<=l.length:=by
 have e:(split c l).getD k []=(split c l)[k]:=by simp[a]
 rw[e];exact Zne c l _ (List.getElem_mem _)
theorem Zgh{most v:Nat}{l:LB}(h:ZQ most l=some v):v<=most:=by
 unfold ZQ at h;split at h
 ·cases h
 ·rename_i a;have:=Yax h;simp at a;omega
def sents:List Nat:=[0,1,2,3,4,5,6,7,8,9,10,11,12]
structure Vars (w:World) (A:Nat->Addr) (m:Int):Prop where
 max:w.cell? ⟨14,0,none⟩=some (Vi m)
 sent:∀g∈sents,w.cell? ⟨g,0,none⟩=some (.iface 389 (.pointer (some (A g))))
 apart:∀g∈sents,∀h∈sents,g≠h->A g≠A h
 row:∀g∈sents,∃c t,w.heap[(A g).block]?=some (.cells c t (0,0))
 handle:w.cell? ⟨13,0,none⟩=some (.iface 232 (.agg #[.pointer (some ⟨20,52,none⟩)]))
theorem Vars.below{w w':World}{A:Nat->Addr}{m:Int}(h:Vars w A m)(a:BW w w'):Vars w' A m where
 max:=(a.cell (p:=⟨_,0,none⟩) (Yai _ _ h.max)).trans h.max
 sent g hg:=(a.cell (p:=⟨_,0,none⟩) (Yai _ _ (h.sent g hg))).trans (h.sent g hg)
 apart:=h.apart
 row g hg:=by
  obtain⟨c,t,e⟩:=h.row g hg;refine⟨c,t,(a.block _ ?_).trans e⟩;rcases Yav (A g).block w.heap.size with h|h
  ·exact h
  ·rw[Yfi h]at e;cases e
 handle:=(a.cell (p:=⟨_,0,none⟩) (Yai _ _ h.handle)).trans h.handle
theorem Vars.alloc{w:World}{A:Nat->Addr}{m:Int}(h:Vars w A m)(o:Obj):Vars (w.alloc o) A m:=h.below Zbal
theorem Vars.drewN{w:World}{A:Nat->Addr}{m:Int}(h:Vars w A m)(k:Nat):Vars (w.drewN k) A m:=h.below (ZiX _ _ _)
theorem Zcy{a b:Bool}(h:a=b):Ending.returned (.bool a)=.returned (.bool b):=by rw[h]
theorem ZBw{k:IntKind}{a b:Int}(h:a=b):Ending.returned (.int k a)=.returned (.int k b):=by rw[h]
theorem ZJE{c:UInt8}{w:World} :
  Cq 144 #[.int .u8 c.toNat] w fun e u=>e=.returned (.bool (Zp c))/\u=w:=by
 go_enter func144,ntmps144;go_wp2
 all_goals
  go_ret;exact⟨Zcy (by unfold Zp;simp;omega),rfl⟩
theorem Zd2{c:UInt8}{w:World} :
  Cq 61 #[.int .u8 c.toNat] w fun e u=>e=.returned (.bool (Zp c))/\u=w:=by
 go_enter func61,ntmps61;go_wp2
 all_goals
  go_ret;exact⟨Zcy (by unfold Zp;simp;omega),rfl⟩
theorem ZJC{c:UInt8}{w:World} :
  Cq 143 #[.int .u8 c.toNat] w fun e u=>e=.returned (.bool (ZC c))/\u=w:=by
 go_enter func143,ntmps143;go_wp2
 all_goals
  go_ret;exact⟨Zcy (by unfold ZC;simp;omega),rfl⟩
theorem Zdk{c:UInt8}{w:World} :
  Cq 58 #[.int .u8 c.toNat] w fun e u=>e=.returned (.bool (ZC c))/\u=w:=by
 go_enter func58,ntmps58;go_wp2
 all_goals
  go_ret;exact⟨Zcy (by unfold ZC;simp;omega),rfl⟩
theorem Zkt(s:BA)(w:World)(j:s.size<=70000) :
  Cq 62 #[.string s] w fun e u=>e=.returned (.bool (Zx (bl s)))/\u=w:=by
 by_cases l:s.size<1∨8<s.size
 ·have a:Hid (Zx (bl s)=false):=hid (by
   unfold Zx;rw[Zd];have:(decide (1<=(s.size:Int)) && decide ((s.size:Int)<=8))=false:=by simp;omega
   rw[this];simp)
  go_enter func62,ntmps62;go_wp2
  all_goals first|omega|(go_ret;exact⟨Zcy a.symm,rfl⟩)
 ·have m:1<=(s.size:Int):=by omega
  have n:(s.size:Int)<=8:=by omega
  go_enter func62,ntmps62;go_wp2
  go_loop [14] (fun i=>∃k:Nat,k<=s.size/\i=Vi k/\((bl s).take k).all Zp=true) (fun i=>s.size - (intOf i).toNat)
  case atStart=>exact⟨0,Yag _,rfl,by simp⟩
  case round=>
   obtain⟨k,o,rfl,d⟩:=hrel;have f:Hid (((bl s).take k).all Zp=true):=d;clear d;by_cases c:k<s.size
   ·cases g:Zp s[k]
    ·have a:Hid (Zx (bl s)=false):=by unfold Zx;rw[ZkH Zp s k c g];rfl
     go_wp2_with (go_at_call 61;refine(Zd2).mono ?_;rintro e u ⟨rfl,rfl⟩)
     go_ret;exact⟨Zcy a.symm,rfl⟩
    ·have h:Hid (((bl s).take (k+1)).all Zp=true):=ZkI Zp s k c f.out g
     go_wp2_with (go_at_call 61;refine(Zd2).mono ?_;rintro e u ⟨rfl,rfl⟩)
     go_round
     case rel=>exact⟨k+1,by omega,by go_num,h.out⟩
     case measure=>simp[intOf];omega
   ·have a:Hid (Zx (bl s)=true):=hid (by
     unfold Zx;rw[ZkG Zp s k c f.out,Zd];simp;omega)
    go_wp2;go_ret;exact⟨Zcy a.symm,rfl⟩
theorem Znv(s:BA)(w:World)(a:s.size<=6000) :
  Cq 62 #[.string s] w fun e u=>e=.returned (.bool (Zx (bl s)))/\u=w:=Zkt s w Om
theorem ZNk(s:BA)(w:World)(n:s.size<=6000) :
  Cq 147 #[.string s] w fun e u=>e=.returned (.bool (Z3 (bl s)))/\u=w:=by
 go_enter func147,ntmps147;go_wp2
 go_loop [3] (fun i=>∃k:Nat,k<=s.size/\i=Vi k/\((bl s).take k).all (fun c=>Zp c || ZC c)=true) (fun i=>s.size - (intOf i).toNat)
 case atStart=>exact⟨0,Yag _,rfl,by simp⟩
 case round=>
  obtain⟨k,o,rfl,d⟩:=hrel;have f:Hid (((bl s).take k).all (fun c=>Zp c || ZC c)=true):=d;clear d;by_cases a:k<s.size
  ·have j:Hid ((Zp s[k] || ZC s[k])=true->((bl s).take (k+1)).all (fun c=>Zp c || ZC c)=true):=ZkI (fun c=>Zp c || ZC c) s k a f.out
   have l : Hid ((Zp s[k] || ZC s[k]) = false -> Z3 (bl s) = false) := fun h => by
     unfold Z3;rw[ZkH (fun c=>Zp c || ZC c) s k a h];rfl
   cases g:Zp s[k] <;> cases hd:ZC s[k]
   ·go_wp2_with (first|(go_at_call 144;refine(ZJE).mono ?_;rintro e u ⟨rfl,rfl⟩)|(go_at_call 143;refine(ZJC).mono ?_;rintro e u ⟨rfl,rfl⟩))
    go_ret;exact⟨Zcy (l.out (by rw[g,hd];rfl)).symm,rfl⟩
   all_goals
    go_wp2_with (first|(go_at_call 144;refine(ZJE).mono ?_;rintro e u ⟨rfl,rfl⟩)|(go_at_call 143;refine(ZJC).mono ?_;rintro e u ⟨rfl,rfl⟩))
    go_round
    case rel=>exact⟨k+1,by omega,by go_num,j.out (by rw[g,hd];rfl)⟩
    case measure=>simp[intOf];omega
  ·have m:Hid (Z3 (bl s)=decide ((s.size:Int)<=8)):=by
    unfold Z3;rw[ZkG _ s k a f.out,Zd];rfl
   go_wp2;go_ret;exact⟨Zcy m.symm,rfl⟩
theorem Znw(s:BA)(w:World)(n:s.size<=6000) :
  Cq 63 #[.string s] w fun e u=>e=.returned (.bool (Z3 (bl s)))/\u=w:=by
 by_cases o:8<s.size
 ·have f:Hid (Z3 (bl s)=false):=hid (by
   unfold Z3;rw[Zd];have:decide ((s.size:Int)<=8)=false:=by simp;omega
   rw[this];simp)
  go_enter func63,ntmps63;go_wp2;go_ret;exact⟨Zcy f.symm,rfl⟩
 ·have p:(s.size:Int)<=8:=by omega
  go_enter func63,ntmps63;go_wp2
  go_loop [9] (fun i=>∃k:Nat,k<=s.size/\i=Vi k/\((bl s).take k).all (fun c=>Zp c || ZC c)=true) (fun i=>s.size - (intOf i).toNat)
  case atStart=>exact⟨0,Yag _,rfl,by simp⟩
  case round=>
   obtain⟨k,q,rfl,d⟩:=hrel;have g:Hid (((bl s).take k).all (fun c=>Zp c || ZC c)=true):=d;clear d;by_cases a:k<s.size
   ·have l:Hid ((Zp s[k] || ZC s[k])=true->((bl s).take (k+1)).all (fun c=>Zp c || ZC c)=true):=ZkI (fun c=>Zp c || ZC c) s k a g.out
    have m : Hid ((Zp s[k] || ZC s[k]) = false -> Z3 (bl s) = false) := fun h => by
      unfold Z3;rw[ZkH (fun c=>Zp c || ZC c) s k a h];rfl
    cases j:Zp s[k] <;> cases hd:ZC s[k]
    ·go_wp2_with (first|(go_at_call 61;refine(Zd2).mono ?_;rintro e u ⟨rfl,rfl⟩)|(go_at_call 58;refine(Zdk).mono ?_;rintro e u ⟨rfl,rfl⟩))
     go_ret;exact⟨Zcy (m.out (by rw[j,hd];rfl)).symm,rfl⟩
    all_goals
     go_wp2_with (first|(go_at_call 61;refine(Zd2).mono ?_;rintro e u ⟨rfl,rfl⟩)|(go_at_call 58;refine(Zdk).mono ?_;rintro e u ⟨rfl,rfl⟩))
     go_round
     case rel=>exact⟨k+1,by omega,by go_num,l.out (by rw[j,hd];rfl)⟩
     case measure=>simp[intOf];omega
   ·have f:Hid (Z3 (bl s)=true):=hid (by
     unfold Z3;rw[ZkG _ s k a g.out,Zd];simp;omega)
    go_wp2;go_ret;exact⟨Zcy f.symm,rfl⟩
def ZJX(c:UInt8)(l:LB):Int:=match LS.seek c l with|none=>-1|some i=>i
theorem ZLg{c:UInt8}{l:LB}{i:Nat}(h:LS.seek c l=some i):ZJX c l=i:=by unfold ZJX;rw[h]
theorem ZLf{c:UInt8}{l:LB}(h:LS.seek c l=none):ZJX c l=-1:=by unfold ZJX;rw[h]
theorem ZNz(c:UInt8)(s:BA)(k:Nat)(h:k<s.size)(a:LS.seek c ((bl s).take k)=none)(d:s[k]=c):ZJX c (bl s)=k:=by
 have e:bl s=(bl s).take k++(bl s).drop k:=(Ycn _ _).symm;refine ZLg ?_;rw[e,ZBX _ _ _ a,ZdW s k h];simp[LS.seek,d,Zd];omega
theorem ZNA(c:UInt8)(s:BA)(k:Nat)(h:k<s.size)(a:LS.seek c ((bl s).take k)=none)(d:s[k]≠c):LS.seek c ((bl s).take (k+1))=none:=by
 rw[ZiB s k h,ZBX _ _ _ a];simp[LS.seek,d]
theorem ZNy(s:BA)(c:UInt8)(w:World)(m:s.size<=70000) :
  Cq 96 #[.string s,.int .u8 c.toNat] w fun e u=>e=.returned (Vi (ZJX c (bl s)))/\u=w:=by
 go_enter func96,ntmps96;go_wp2
 go_loop [5] (fun i=>∃k:Nat,k<=s.size/\i=Vi k/\LS.seek c ((bl s).take k)=none) (fun i=>s.size - (intOf i).toNat)
 case atStart=>exact⟨0,Yag _,rfl,by simp[LS.seek]⟩
 case round=>
  obtain⟨k,n,rfl,f⟩:=hrel;have j:Hid (LS.seek c ((bl s).take k)=none):=f;clear f;by_cases g:k<s.size
  ·by_cases a:s[k]=c
   ·have d:Hid (ZJX c (bl s)=k):=ZNz c s k g j.out a;have l:((s[k].toNat:Int) == (c.toNat:Int))=true:=by rw[a];simp
    clear a;go_wp2;go_ret;exact⟨ZBw d.symm,rfl⟩
   ·have d:Hid (LS.seek c ((bl s).take (k+1))=none):=ZNA c s k g j.out a
    have l:((s[k].toNat:Int) == (c.toNat:Int))=false:=by
     rw[beq_eq_false_iff_ne];intro h;exact a (Ydf.1 Om)
    clear a;go_wp2
    go_round
    case rel=>exact⟨k+1,by omega,by go_num,d.out⟩
    case measure=>simp[intOf];omega
  ·have d:Hid (ZJX c (bl s)=-1):=by
    have:=j.out;rw[Ya5 (by rw[Zd];omega)]at this;exact ZLf this
   go_wp2;go_ret;exact⟨ZBw d.symm,rfl⟩
theorem ZLh(s:BA)(c:UInt8)(w:World)(a:s.size<=6000) :
  Cq 96 #[.string s,.int .u8 c.toNat] w fun e u=>e=.returned (Vi (ZJX c (bl s)))/\u=w:=ZNy s c w Om
def numI(most:Nat)(l:LB):Int:=match ZQ most l with|none=>-1|some v=>v
theorem Zrj{most:Nat}{l:LB}(h:ZQ most l=none):numI most l=-1:=by unfold numI;rw[h]
theorem ZgX{most v:Nat}{l:LB}(h:ZQ most l=some v):numI most l=v:=by unfold numI;rw[h]
theorem Zzz(most:Nat)(s:BA)(h:s.size<1):ZQ most (bl s)=none:=by
 unfold ZQ;rw[if_pos (Or.inl (by rw[Zd];exact h))]
theorem ZzC(most:Nat)(s:BA)(a:1<s.size)(h:s[0].toNat=48):ZQ most (bl s)=none:=by
 unfold ZQ;refine if_pos (Or.inr (Or.inl ⟨?_,by rw[Zd];exact a⟩));rw[Yd1,List.getElem?_eq_getElem (by rw[Zd];omega),ZgE s 0 Om];exact congrArg some (Ydf.1 h)
theorem Zzs(most:Nat)(s:BA)(k:Nat)(h:k<s.size)(hd:ZC s[k]=false):ZQ most (bl s)=none:=by
 unfold ZQ;exact if_pos (Or.inr (Or.inr (Or.inl (ZkH ZC s k h hd))))
theorem Zzw(most:Nat)(s:BA)(k:Nat)(h:k<s.size)(a:most<10*val ((bl s).take k)+(s[k].toNat - 48)):ZQ most (bl s)=none:=by
 unfold ZQ;refine if_pos (Or.inr (Or.inr (Or.inr ?_)));have:=ZDO (bl s) (k+1);rw[ZiB s k h,Znt]at this;omega
theorem Zzv(most:Nat)(s:BA)(k:Nat)(h:¬k<s.size)(g:1<=s.size)(d:¬(s[0].toNat=48/\1<s.size))(e:((bl s).take k).all ZC=true)(f:val ((bl s).take k)<=most):ZQ most (bl s)=some (val ((bl s).take k)):=by
 have a:=ZkG ZC s k h e;rw[Ya5 (by rw[Zd];omega)]at f ⊢;unfold ZQ;refine if_neg ?_;rintro(h|⟨h,c⟩|h|h)
 ·rw[Zd]at h;omega
 ·rw[Zd]at c;rw[Yd1,List.getElem?_eq_getElem (by rw[Zd];omega),ZgE s 0 Om]at h;exact d ⟨by rw[Yax h];rfl,c⟩
 ·rw[a]at h;cases h
 ·omega
theorem ZDN(s:BA)(k:Nat)(h:k<s.size):val ((bl s).take (k+1))=10*val ((bl s).take k)+(s[k].toNat - 48):=by
 rw[ZiB s k h,Znt]
theorem ZNr(s:BA)(most:Nat)(w:World)(B:s.size<=70000)(C:most<=1000000000) :
  Cq 146 #[.string s,Vi most] w fun e u=>e=.returned (Vi (numI most (bl s)))/\u=w:=by
 by_cases l:s.size<1
 ·have a:Hid (numI most (bl s)=-1):=Zrj (Zzz most s l);go_enter func146,ntmps146;go_wp2;go_ret;exact⟨ZBw a.symm,rfl⟩
 have q:1<=s.size:=by omega
 by_cases c:s[0].toNat=48/\1<s.size
 ·have a:Hid (numI most (bl s)=-1):=Zrj (ZzC most s c.2 c.1);have f:((s[0].toNat:Int) == 48)=true:=by rw[c.1];rfl
  have y:=c.2;clear c;go_enter func146,ntmps146;go_wp2;go_ret;exact⟨ZBw a.symm,rfl⟩
 have r:Hid (¬(s[0].toNat=48/\1<s.size)):=c;have z:decide ((s.size:Int)<1)=false:=by simp;omega
 have g:(((s[0].toNat:Int) == 48)=true/\decide (1<(s.size:Int))=false)∨((s[0].toNat:Int) == 48)=false:=by
  by_cases f:s[0].toNat=48
  ·exact Or.inl ⟨by rw[f];rfl,by simp;have:¬1<s.size:=fun h=>c ⟨f,h⟩;omega⟩
  ·exact Or.inr (by rw[beq_eq_false_iff_ne];omega)
 clear c l;rcases g with ⟨m,A⟩|m
 all_goals
  go_enter func146,ntmps146;go_wp2
  go_loop [5,6] (fun n i=>∃k:Nat,k<=s.size/\i=Vi k/\n=Vi (val ((bl s).take k))/\val ((bl s).take k)<=most/\((bl s).take k).all ZC=true) (fun _ i=>s.size - (intOf i).toNat)
  case atStart=>exact⟨0,Yag _,rfl,by simp[val],by simp[val],by simp⟩
  case round=>
   obtain⟨k,D,rfl,rfl,t,j⟩:=hrel;have o:Hid (((bl s).take k).all ZC=true):=j;clear j;by_cases d:k<s.size
   ·cases hd:ZC s[k]
    ·have a:Hid (numI most (bl s)=-1):=Zrj (Zzs most s k d hd)
     go_wp2_with (go_at_call 143;refine(ZJC).mono ?_;rintro e u ⟨rfl,rfl⟩)
     go_ret;exact⟨ZBw a.symm,rfl⟩
    ·obtain⟨d1,d2⟩:=Zvx hd;have p:Hid (val ((bl s).take (k+1))=10*val ((bl s).take k)+(s[k].toNat - 48)):=ZDN s k d;have v:Hid (((bl s).take (k+1)).all ZC=true):=ZkI ZC s k d o.out hd;by_cases x:most<10*val ((bl s).take k)+(s[k].toNat - 48)
     ·have a:Hid (numI most (bl s)=-1):=Zrj (Zzw most s k d x)
      go_wp2_with (go_at_call 143;refine(ZJC).mono ?_;rintro e u ⟨rfl,rfl⟩)
      go_ret;exact⟨ZBw a.symm,rfl⟩
     ·go_wp2_with (go_at_call 143;refine(ZJC).mono ?_;rintro e u ⟨rfl,rfl⟩)
      go_round
      case rel=>exact⟨k+1,by omega,by go_num,by rw[p.out];go_num,by rw[p.out];omega,v.out⟩
      case measure=>simp[intOf];omega
   ·have a:Hid (numI most (bl s)=val ((bl s).take k)):=ZgX (Zzv most s k d q r.out o.out t);go_wp2;go_ret;exact⟨ZBw a.symm,rfl⟩
theorem ZNq(s:BA)(most:Nat)(w:World)(c:s.size<=6000)(a:most<=1000000000) :
  Cq 146 #[.string s,Vi most] w fun e u=>e=.returned (Vi (numI most (bl s)))/\u=w:=ZNr s most w Om a
def numT(most:Nat)(l:LB):Value:=.tuple #[Vi ((ZQ most l).getD 0:Nat),.bool (ZQ most l).isSome]
theorem Zgg{most:Nat}{l:LB}(h:ZQ most l=none):numT most l=.tuple #[Vi 0,.bool false]:=by unfold numT;rw[h];rfl
theorem ZjO{most v:Nat}{l:LB}(h:ZQ most l=some v):numT most l=.tuple #[Vi v,.bool true]:=by unfold numT;rw[h];rfl
theorem Znx(s:BA)(most:Nat)(w:World)(C:s.size<=70000)(z:9<=most)(D:most<=1000000000) :
  Cq 60 #[.string s,Vi most] w fun e u=>e=.returned (numT most (bl s))/\u=w:=by
 by_cases l:s.size<1
 ·have a:Hid (numT most (bl s)=_):=Zgg (Zzz most s l);have r:s.toList.isEmpty=true:=ZoT l;go_enter func60,ntmps60;go_wp2;go_ret2;exact⟨by rw[a.out];rfl,rfl⟩
 have m:1<=s.size:=by omega
 have r:s.toList.isEmpty=false:=Zrh m;by_cases c:s[0].toNat=48/\1<s.size
 ·have a:Hid (numT most (bl s)=_):=Zgg (ZzC most s c.2 c.1);have f:((s[0].toNat:Int) == 48)=true:=by rw[c.1];rfl
  have A:=c.2;clear c;go_enter func60,ntmps60;go_wp2;go_ret2;exact⟨by rw[a.out];rfl,rfl⟩
 have t:Hid (¬(s[0].toNat=48/\1<s.size)):=c
 have g:(((s[0].toNat:Int) == 48)=true/\decide (1<(s.size:Int))=false)∨((s[0].toNat:Int) == 48)=false:=by
  by_cases f:s[0].toNat=48
  ·exact Or.inl ⟨by rw[f];rfl,by simp;have:¬1<s.size:=fun h=>c ⟨f,h⟩;omega⟩
  ·exact Or.inr (by rw[beq_eq_false_iff_ne];omega)
 clear c l;rcases g with ⟨o,B⟩|o
 all_goals
  go_enter func60,ntmps60;go_wp2
  go_loop [6,23] (fun n i=>∃k:Nat,k<=s.size/\i=Vi k/\n=Vi (val ((bl s).take k))/\val ((bl s).take k)<=most/\((bl s).take k).all ZC=true) (fun _ i=>s.size - (intOf i).toNat)
  case atStart=>exact⟨0,Yag _,rfl,by simp[val],by simp[val],by simp⟩
  case round=>
   obtain⟨k,E,rfl,rfl,v,j⟩:=hrel;have p:Hid (((bl s).take k).all ZC=true):=j;clear j;by_cases d:k<s.size
   ·cases hd:ZC s[k]
    ·have a:Hid (numT most (bl s)=_):=Zgg (Zzs most s k d hd)
     go_wp2_with (go_at_call 58;refine(Zdk).mono ?_;rintro e u ⟨rfl,rfl⟩)
     go_ret2;exact⟨by rw[a.out];rfl,rfl⟩
    ·obtain⟨d1,d2⟩:=Zvx hd;have q:Hid (val ((bl s).take (k+1))=10*val ((bl s).take k)+(s[k].toNat - 48)):=ZDN s k d;have x:Hid (((bl s).take (k+1)).all ZC=true):=ZkI ZC s k d p.out hd;by_cases y:most<10*val ((bl s).take k)+(s[k].toNat - 48)
     ·have a:Hid (numT most (bl s)=_):=Zgg (Zzw most s k d y)
      go_wp2_with (go_at_call 58;refine(Zdk).mono ?_;rintro e u ⟨rfl,rfl⟩)
      all_goals first|(exfalso;omega)|(go_ret2;exact⟨by rw[a.out];rfl,rfl⟩)
     ·go_wp2_with (go_at_call 58;refine(Zdk).mono ?_;rintro e u ⟨rfl,rfl⟩)
      all_goals first|(exfalso;omega)|skip
      go_round
      case rel=>exact⟨k+1,by omega,by go_num,by rw[q.out];go_num,by rw[q.out];omega,x.out⟩
      case measure=>simp[intOf];omega
   ·have a:Hid (numT most (bl s)=_):=ZjO (Zzv most s k d m t.out p.out v);go_wp2;go_ret2;exact⟨by rw[a.out];rfl,rfl⟩
theorem Zkv(s:BA)(most:Nat)(w:World)(d:s.size<=6000)(a:9<=most)(c:most<=1000000000) :
  Cq 60 #[.string s,Vi most] w fun e u=>e=.returned (numT most (bl s))/\u=w:=Znx s most w Om a c
theorem ZJN{s:BA}{c:UInt8}{p:Nat}{ci:Int}{w:World}(a:ci=c.toNat)(d:s.size<=6000)(h:LS.seek c (bl s)=some p) :
  Cq 96 #[.string s,.int .u8 ci] w fun e u=>e=.returned (Vi p)/\u=w:=by
 subst a;have:=ZLh s c w d
 rwa [ZLg h]at this
theorem ZJ0{s:BA}{c:UInt8}{ci:Int}{w:World}(a:ci=c.toNat)(d:s.size<=6000)(h:LS.seek c (bl s)=none) :
  Cq 96 #[.string s,.int .u8 ci] w fun e u=>e=.returned (Vi (-1))/\u=w:=by
 subst a;have:=ZLh s c w d
 rwa [ZLf h]at this
theorem ZKs{s:BA}{b:Bool}{w:World}(a:s.size<=6000)(h:Z3 (bl s)=b) :
  Cq 147 #[.string s] w fun e u=>e=.returned (.bool b)/\u=w:=by
 have:=ZNk s w a;rwa [h]at this
theorem Zmr(most:Nat)(l:LB) : -1<=numI most l/\numI most l<=most:=by
 cases h:ZQ most l with
 | none=>rw[Zrj h];omega
 | some v=>rw[ZgX h];have:=Zgh h;omega
theorem ZJ2{s:BA}(most:Nat){mi:Int}{w:World}(a:mi=most)(c:s.size<=6000)(d:most<=1000000000) :
  Cq 146 #[.string s,Vi mi] w fun e u=>e=.returned (Vi (numI most (bl s)))/\u=w:=by
 subst a;exact ZNq s most w c d
open Go.Proofs.Tryz
open Go.RowKit Go.Extern.Stop Go.Stop Go.Extern LS
def ZoX : Array Value → Sem Value := ReflectliteType.method fun t => do Rtype.noPackHeld "Comparable" t; pure (.bool (← typeInfo t).comparable)
theorem Tryz.isTypeOf(v:Value)(w:World):(Extern.ReflectliteType.typeOf #[.iface 389 v]).run Tryz.prog w=.ok (.iface 232 (.agg #[.pointer (some ⟨20,389,none⟩)])) w:=by kernel_rfl
theorem Tryz.isComparable(w:World):(ZoX #[.agg #[.pointer (some ⟨20,389,none⟩)]]).run Tryz.prog w=.ok (.bool true) w:=by kernel_rfl
theorem Tryz.isMethodComparable (v : Value) (w : World) : (Go.method 518 232 v "Comparable").run Tryz.prog w = .ok (289, v) w := by kernel_rfl
theorem Tryz.isComp:(Tryz.prog.info? 389).map (·.comparable)=some true:=by kernel_rfl
theorem Tryz.isSize:(Tryz.prog.info? 407).map (·.size)=some 1:=by kernel_rfl
theorem Tryz.noIsE(v:Value)(xT:TypeId)(w:World):(Instr.typeAssert (.iface 389 v) xT 234 true).run Tryz.prog w=.ok (.tuple #[.nilIface,.bool false]) w:=run_typeAssert_lacksB Tryz.underlying234 Kr Kr v xT w
theorem Tryz.noUnwrapE(v:Value)(xT:TypeId)(w:World):(Instr.typeAssert (.iface 389 v) xT 237 true).run Tryz.prog w=.ok (.tuple #[.nilIface,.bool false]) w:=run_typeAssert_lacksB Tryz.underlying237 Kr Kr v xT w
theorem Tryz.noUnwrapsE(v:Value)(xT:TypeId)(w:World):(Instr.typeAssert (.iface 389 v) xT 238 true).run Tryz.prog w=.ok (.tuple #[.nilIface,.bool false]) w:=run_typeAssert_lacksB Tryz.underlying238 Kr Kr v xT w
theorem Tryz.noIsW(v:Value)(xT:TypeId)(w:World):(Instr.typeAssert (.iface 94 v) xT 234 true).run Tryz.prog w=.ok (.tuple #[.nilIface,.bool false]) w:=run_typeAssert_lacksB Tryz.underlying234 Kr Kr v xT w
theorem Tryz.hasUnwrapW(v:Value)(xT:TypeId)(w:World):(Instr.typeAssert (.iface 94 v) xT 237 true).run Tryz.prog w=.ok (.tuple #[.iface 94 v,.bool true]) w:=run_typeAssert_hasB Tryz.underlying237 Kr v xT w
theorem Tryz.methodUnwrap (v : Value) (w : World) : (Go.method 518 94 v "Unwrap").run Tryz.prog w = .ok (277, v) w := by kernel_rfl
theorem Zhn (args : Array Value) (w : World) : (callFunc 71 args).run prog w = ((ReflectliteType.typeOf args).run prog w).andThen fun v u => .ok (.value v) u :=
  run_callFunc_extern func71 Kr Kr Kr Kr args w
theorem Zkz (args : Array Value) (w : World) : (callFunc 289 args).run prog w = ((ZoX args).run prog w).andThen fun v u => .ok (.value v) u :=
  run_callFunc_extern func289 Kr Kr Kr Kr args w
theorem Zf7{a:Addr}{w:World} :
  Cq 36 #[.iface 389 (.pointer (some a)),.iface 389 (.pointer (some a))] w fun e u=>e=.returned (.bool true)/\u=w:=by
 obtain⟨i,d,c⟩:=Ybk.1 Tryz.isComp;obtain⟨j,f,g⟩:=Ybk.1 Tryz.isSize;have l:=Zhn;have h:=Zkz;have tT:=Tryz.isTypeOf;have cT:=Tryz.isComparable;have mR:=Tryz.isMethodComparable;have k:=run_eql_iface_ptr_same (P:=prog) w a underlying52 underlying389 d c f;go_enter func36,ntmps36;go_wp2;refine wp_loop_rounds 1 ?_;rw[rounds_succ];go_wp2;go_ret;exact⟨rfl,rfl⟩
theorem Zxl{b:Addr}{w:World} :
  Cq 36 #[.nilIface,.iface 389 (.pointer (some b))] w fun e u=>e=.returned (.bool false)/\u=w:=by
 have a:=run_eql_iface_nil_left (P:=prog) w 389 (.pointer (some b)) underlying52;go_enter func36,ntmps36;go_wp2;go_ret;exact⟨rfl,rfl⟩
theorem Zxm{a b:Addr}{ca cb:Array Value}{ta tb:TypeId}{w:World}(d:a≠b)(g:w.heap[a.block]?=some (.cells ca ta (0,0)))(h:w.heap[b.block]?=some (.cells cb tb (0,0))) :
  Cq 36 #[.iface 389 (.pointer (some a)),.iface 389 (.pointer (some b))] w fun e u=>e=.returned (.bool false)/\u=w:=by
 obtain⟨i,k,c⟩:=Ybk.1 Tryz.isComp;obtain⟨j,l,f⟩:=Ybk.1 Tryz.isSize;have o:=Zhn;have m:=Zkz;have tT:=Tryz.isTypeOf;have cT:=Tryz.isComparable;have mR:=Tryz.isMethodComparable;have nE:=Tryz.noIsE;have uE:=Tryz.noUnwrapE;have vE:=Tryz.noUnwrapsE;have nW:=Tryz.noIsW;have uW:=Tryz.hasUnwrapW;have mU:=Tryz.methodUnwrap;have n:=run_eql_iface_ptr_other (P:=prog) w underlying52 underlying389 k c l (by rw[f];decide) d g h;go_enter func36,ntmps36;go_wp2;refine wp_loop_rounds 1 ?_;rw[rounds_succ];go_wp2;go_ret;exact⟨rfl,rfl⟩
theorem Zf8{pb:Nat}{b:Addr}{w:World}(l:w.cell? ⟨pb,2,none⟩=some (.iface 389 (.pointer (some b)))) :
  Cq 36 #[.iface 94 (Vp pb),.iface 389 (.pointer (some b))] w fun e u=>e=.returned (.bool true)/\u=w:=by
 obtain⟨i,c,a⟩:=Ybk.1 Tryz.isComp;obtain⟨j,d,f⟩:=Ybk.1 Tryz.isSize;have m:=Zhn;have g:=Zkz;have tT:=Tryz.isTypeOf;have cT:=Tryz.isComparable;have mR:=Tryz.isMethodComparable;have nE:=Tryz.noIsE;have uE:=Tryz.noUnwrapE;have vE:=Tryz.noUnwrapsE;have nW:=Tryz.noIsW;have uW:=Tryz.hasUnwrapW;have mU:=Tryz.methodUnwrap;have h:=run_eql_iface_ptr_same (P:=prog) w b underlying52 underlying389 c a d;have k:=run_eql_iface_types (P:=prog) 94 389 (Vp pb) (.pointer (some b)) underlying52 Dc w;go_enter func36,ntmps36;go_wp2;refine wp_loop_rounds 2 ?_;rw[rounds_succ];go_wp2;rw[rounds_succ];go_wp2;go_ret;exact⟨rfl,rfl⟩
theorem Zxn{pb:Nat}{b a:Addr}{ca cb:Array Value}{ta tb:TypeId}{w:World}(p:w.cell? ⟨pb,2,none⟩=some (.iface 389 (.pointer (some a))))(d:a≠b)(g:w.heap[a.block]?=some (.cells ca ta (0,0)))(h:w.heap[b.block]?=some (.cells cb tb (0,0))) :
  Cq 36 #[.iface 94 (Vp pb),.iface 389 (.pointer (some b))] w fun e u=>e=.returned (.bool false)/\u=w:=by
 obtain⟨i,k,c⟩:=Ybk.1 Tryz.isComp;obtain⟨j,l,f⟩:=Ybk.1 Tryz.isSize;have q:=Zhn;have m:=Zkz;have tT:=Tryz.isTypeOf;have cT:=Tryz.isComparable;have mR:=Tryz.isMethodComparable;have nE:=Tryz.noIsE;have uE:=Tryz.noUnwrapE;have vE:=Tryz.noUnwrapsE;have nW:=Tryz.noIsW;have uW:=Tryz.hasUnwrapW;have mU:=Tryz.methodUnwrap;have n:=run_eql_iface_ptr_other (P:=prog) w underlying52 underlying389 k c l (by rw[f];decide) d g h;have o:=run_eql_iface_types (P:=prog) 94 389 (Vp pb) (.pointer (some b)) underlying52 Dc w;go_enter func36,ntmps36;go_wp2;refine wp_loop_rounds 2 ?_;rw[rounds_succ];go_wp2;rw[rounds_succ];go_wp2;go_ret;exact⟨rfl,rfl⟩
theorem ZtR{t:Value}{w:World} :
  Cq 37 #[.nilIface,t] w fun e u=>e=.returned (.bool false)/\u=w:=by
 go_enter func37,ntmps37;go_wp2;go_ret;exact⟨rfl,rfl⟩
def Zlu:Array Value->Sem Value:=fun args=>ReflectliteValue.unpack (args.getD 0 (.tuple #[]))
def Zo0 : Array Value → Sem Value := ReflectliteValue.methodAny (ReflectliteValue.valueError "reflectlite.Value.Type" 0) fun t _ _ _ => ReflectliteType.toType t
def Zls : Array Value → Sem Value := ReflectliteValue.method (ReflectliteValue.valueError "reflectlite.Value.IsNil" 0) ReflectliteValue.isNil
def Zlt:Array Value->Sem Value:=ReflectliteType.abiMethod fun t=>do pure (.int .u8 (<-Rtype.kind t))
def ZoY:Array Value->Sem Value:=ReflectliteType.method ReflectliteType.elem
def ZoZ : Array Value → Sem Value := ReflectliteType.relation "Implements" ReflectliteType.implements_
def Zlq : Array Value → Sem Value := ReflectliteType.relation "AssignableTo" ReflectliteType.assignableTo
def Zlr : Array Value → Sem Value := ReflectliteValue.method (ReflectliteValue.valueError "reflectlite.Value.Elem" 0) ReflectliteValue.elem
theorem Ztx (args : Array Value) (w : World) : (callFunc 73 args).run prog w = ((Zlu args).run prog w).andThen fun v u => .ok (.value v) u :=
  run_callFunc_extern func73 Kr Kr Kr Kr args w
theorem Ztw (args : Array Value) (w : World) : (callFunc 74 args).run prog w = ((Zo0 args).run prog w).andThen fun v u => .ok (.value v) u :=
  run_callFunc_extern func74 Kr Kr Kr Kr args w
theorem Ztu (args : Array Value) (w : World) : (callFunc 75 args).run prog w = ((Zls args).run prog w).andThen fun v u => .ok (.value v) u :=
  run_callFunc_extern func75 Kr Kr Kr Kr args w
theorem Ztv (args : Array Value) (w : World) : (callFunc 273 args).run prog w = ((Zlt args).run prog w).andThen fun v u => .ok (.value v) u :=
  run_callFunc_extern func273 Kr Kr Kr Kr args w
theorem Zts (args : Array Value) (w : World) : (callFunc 290 args).run prog w = ((ZoY args).run prog w).andThen fun v u => .ok (.value v) u :=
  run_callFunc_extern func290 Kr Kr Kr Kr args w
theorem Ztt (args : Array Value) (w : World) : (callFunc 291 args).run prog w = ((ZoZ args).run prog w).andThen fun v u => .ok (.value v) u :=
  run_callFunc_extern func291 Kr Kr Kr Kr args w
theorem Ztr (args : Array Value) (w : World) : (callFunc 288 args).run prog w = ((Zlq args).run prog w).andThen fun v u => .ok (.value v) u :=
  run_callFunc_extern func288 Kr Kr Kr Kr args w
theorem ZE2 (args : Array Value) (w : World) : (callFunc 118 args).run prog w = ((Zlr args).run prog w).andThen fun v u => .ok (.value v) u :=
  run_callFunc_extern func118 Kr Kr Kr Kr args w
theorem ZE3 (args : Array Value) (w : World) : (callFunc 119 args).run prog w = ((ReflectliteValue.set args).run prog w).andThen fun v u => .ok (.value v) u :=
  run_callFunc_extern func119 Kr Kr Kr Kr args w
theorem Zpe(t:Addr)(w:World):(Zlu #[.iface 96 (.pointer (some t))]).run prog w
  = .ok (.agg #[.pointer (some ⟨20,96,none⟩),Vp w.heap.size,.int .u64 150]) (w.alloc (.cells #[.pointer (some t)] 96)):=by kernel_rfl
theorem Zpd(a:Addr)(w:World):(Zo0 #[.agg #[.pointer (some ⟨20,96,none⟩),.pointer (some a),.int .u64 150]]).run prog w
  = .ok (.iface 232 (.agg #[.pointer (some ⟨20,96,none⟩)])) w:=by kernel_rfl
theorem ZqQ (h : Value) (w : World) : (Go.method 518 232 (.agg #[h]) "Kind").run Tryz.prog w = .ok (273, h) w := by kernel_rfl
theorem Zpc(w:World):(Zlt #[.pointer (some ⟨20,96,none⟩)]).run prog w=.ok (.int .u8 22) w:=by kernel_rfl
theorem Zpb(w:World):(Zlt #[.pointer (some ⟨20,94,none⟩)]).run prog w=.ok (.int .u8 22) w:=by kernel_rfl
theorem ZqO (h : Value) (w : World) : (Go.method 518 232 (.agg #[h]) "Elem").run Tryz.prog w = .ok (290, .agg #[h]) w := by kernel_rfl
theorem ZqP (h : Value) (w : World) : (Go.method 518 232 (.agg #[h]) "Implements").run Tryz.prog w = .ok (291, .agg #[h]) w := by kernel_rfl
theorem ZqN (h : Value) (w : World) : (Go.method 518 232 (.agg #[h]) "AssignableTo").run Tryz.prog w = .ok (288, .agg #[h]) w := by kernel_rfl
theorem Zo8(w:World):(ZoY #[.agg #[.pointer (some ⟨20,96,none⟩)]]).run prog w=.ok (.iface 232 (.agg #[.pointer (some ⟨20,94,none⟩)])) w:=by kernel_rfl
theorem Zo9(w:World):(ZoZ #[.agg #[.pointer (some ⟨20,94,none⟩)],.iface 232 (.agg #[.pointer (some ⟨20,52,none⟩)])]).run prog w=.ok (.bool true) w:=by kernel_rfl
theorem Zv0(v:Value)(w:World):(ReflectliteType.typeOf #[.iface 94 v]).run prog w=.ok (.iface 232 (.agg #[.pointer (some ⟨20,94,none⟩)])) w:=by kernel_rfl
theorem ZvW(w:World):(Zlq #[.agg #[.pointer (some ⟨20,94,none⟩)],.iface 232 (.agg #[.pointer (some ⟨20,94,none⟩)])]).run prog w=.ok (.bool true) w:=by kernel_rfl
theorem ZvX(w:World):(Zlq #[.agg #[.pointer (some ⟨20,389,none⟩)],.iface 232 (.agg #[.pointer (some ⟨20,94,none⟩)])]).run prog w=.ok (.bool false) w:=by kernel_rfl
theorem Zv1(e:Addr)(w:World):(Zlu #[.iface 94 (.pointer (some e))]).run prog w
  = .ok (.agg #[.pointer (some ⟨20,94,none⟩),Vp w.heap.size,.int .u64 150]) (w.alloc (.cells #[.pointer (some e)] 94)):=by kernel_rfl
theorem Zzm(v:Value)(xT:TypeId)(w:World):(Instr.typeAssert (.iface 389 v) xT 243 true).run prog w=.ok (.tuple #[.nilIface,.bool false]) w:=run_typeAssert_lacksB underlying243 Kr Kr v xT w
theorem Zrv(a:Addr)(w:World):(ReflectliteValue.parts (.agg #[.pointer (some ⟨20,96,none⟩),.pointer (some a),.int .u64 150])).run prog w=.ok (some (96,a,150)) w:=by kernel_rfl
theorem Zpa(a p:Addr)(W:World)(c:W.cell? a=some (.pointer (some p))) :
  (Zls #[.agg #[.pointer (some ⟨20,96,none⟩),.pointer (some a),.int .u64 150]]).run prog W=.ok (.bool false) W:=by
 refine(congrArg (fun q=>Sem.run prog q W) (show Zls _=(ReflectliteValue.parts (.agg #[.pointer (some ⟨20,96,none⟩),.pointer (some a),.int .u64 150]) >>= fun r=>_) from rfl)).trans ?_;simp only[Sem.run_bind,Zrv,Result.andThen];simp[ReflectliteValue.isNil,loadVar,isAgg,underlying,underlying96,c,Result.andThen]
theorem Zz6(w:World):(Rtype.elem? 96).run prog w=.ok (some 94) w:=by kernel_rfl
theorem Zz7(p:Addr)(w:World):(ReflectliteValue.mk 94 p ReflectliteValue.flagAddr).run prog w=.ok (.agg #[.pointer (some ⟨20,94,none⟩),.pointer (some p),.int .u64 406]) w:=by kernel_rfl
theorem ZvY(a p:Addr)(W:World)(c:W.cell? a=some (.pointer (some p))) :
  (Zlr #[.agg #[.pointer (some ⟨20,96,none⟩),.pointer (some a),.int .u64 150]]).run prog W
   = .ok (.agg #[.pointer (some ⟨20,94,none⟩),.pointer (some p),.int .u64 406]) W:=by
 refine(congrArg (fun q=>Sem.run prog q W) (show Zlr _=(ReflectliteValue.parts (.agg #[.pointer (some ⟨20,96,none⟩),.pointer (some a),.int .u64 150]) >>= fun r=>_) from rfl)).trans ?_;simp only[Sem.run_bind,Zrv,Result.andThen];simp[ReflectliteValue.elem,loadVar,isAgg,underlying,underlying96,c,Result.andThen,Zz6,Zz7]
theorem Zz9(a:Addr)(w:World):(ReflectliteValue.parts (.agg #[.pointer (some ⟨20,94,none⟩),.pointer (some a),.int .u64 406])).run prog w=.ok (some (94,a,406)) w:=by kernel_rfl
theorem Zz8(a:Addr)(w:World):(ReflectliteValue.parts (.agg #[.pointer (some ⟨20,94,none⟩),.pointer (some a),.int .u64 150])).run prog w=.ok (some (94,a,150)) w:=by kernel_rfl
theorem Zz5(w:World):(Rtype.directlyAssignable 94 94).run prog w=.ok true w:=by kernel_rfl
theorem ZvZ(ta b e:Addr)(old:Value)(W:World)(a:W.cell? b=some (.pointer (some e)))(c:W.cell? ta=some old)(d:W.frozen? ta=false) :
  (ReflectliteValue.set #[.agg #[.pointer (some ⟨20,94,none⟩),.pointer (some ta),.int .u64 406],.agg #[.pointer (some ⟨20,94,none⟩),.pointer (some b),.int .u64 150]]).run prog W
   = .ok (.tuple #[]) (W.setCell ta (.pointer (some e))):=by
 refine(congrArg (fun q=>Sem.run prog q W) (show ReflectliteValue.set _=(ReflectliteValue.parts (.agg #[.pointer (some ⟨20,94,none⟩),.pointer (some ta),.int .u64 406]) >>= fun r=>ReflectliteValue.parts (.agg #[.pointer (some ⟨20,94,none⟩),.pointer (some b),.int .u64 150]) >>= fun s=>_) from rfl)).trans ?_;simp only[Sem.run_bind,Zz9,Zz8,Result.andThen];simp[ReflectliteValue.flagAddr,loadVar,isAgg,underlying,underlying94,a,Result.andThen,Zz5,storeVar,Value.cells,storeCells,Addr.add];rw[run_store prog W ta _ _ (by rfl)];simp[c,d]
theorem ZtP{e t:Addr}(old:Value){w:World}(d:w.cell? ⟨13,0,none⟩=some (.iface 232 (.agg #[.pointer (some ⟨20,52,none⟩)])))(a:w.cell? t=some old)(f:w.frozen? t=false) :
  Cq 37 #[.iface 94 (.pointer (some e)),.iface 96 (.pointer (some t))] w fun ev u=>ev=.returned (.bool true)/\u=((((w.alloc (.cells #[.pointer (some t)] 96)).alloc (.cells #[.pointer (some ⟨20,96,none⟩),Vp w.heap.size,.int .u64 150] 166)).alloc (.cells #[.pointer (some ⟨20,96,none⟩),Vp w.heap.size,.int .u64 150] 166)).alloc (.cells #[.pointer (some e)] 94)).setCell t (.pointer (some e)):=by
 have p:=Ztx;have q:=Ztw;have r:=Ztu;have h:=Ztv;have i:=Zts;have j:=Ztt;have k:=Zhn;have l:=Ztr;have m:=ZE2;have n:=ZE3;have tO:=Zv0;have mA:=ZqN;have a25:=ZvW;have v25:=Zv1;have f6:=Zpe;have f7:=Zpd;have mK:=ZqQ;have mE:=ZqO;have mI:=ZqP;have k27:=Zpc;have k25:=Zpb;have e27:=Zo8;have i25:=Zo9;have n8:=Zpa ⟨w.heap.size,0,none⟩ t ((w.alloc (.cells #[.pointer (some t)] 96)).alloc (.cells #[.pointer (some ⟨20,96,none⟩),Vp w.heap.size,.int .u64 150] 166)) (by simp);have g:13<w.heap.size:=Yai _ _ d
 have o:((w.alloc (.cells #[.pointer (some t)] 96)).alloc (.cells #[.pointer (some ⟨20,96,none⟩),Vp w.heap.size,.int .u64 150] 166)).cell? ⟨13,0,none⟩=some (.iface 232 (.agg #[.pointer (some ⟨20,52,none⟩)])):=by
  rw[Ybm _ _ ⟨13,0,none⟩ (by simp;omega),Ybm _ _ ⟨13,0,none⟩ g];exact d
 have c:=Yai _ _ a;have el:=ZvY ⟨w.heap.size,0,none⟩ t (((w.alloc (.cells #[.pointer (some t)] 96)).alloc (.cells #[.pointer (some ⟨20,96,none⟩),Vp w.heap.size,.int .u64 150] 166)).alloc (.cells #[.pointer (some ⟨20,96,none⟩),Vp w.heap.size,.int .u64 150] 166)) (by rw[Ybm _ _ ⟨w.heap.size,0,none⟩ (by simp;omega)];simp)
 have st:=ZvZ t ⟨w.heap.size+1+1+1,0,none⟩ e old ((((w.alloc (.cells #[.pointer (some t)] 96)).alloc (.cells #[.pointer (some ⟨20,96,none⟩),Vp w.heap.size,.int .u64 150] 166)).alloc (.cells #[.pointer (some ⟨20,96,none⟩),Vp w.heap.size,.int .u64 150] 166)).alloc (.cells #[.pointer (some e)] 94))
  (by rw[Ydm _ _ _ _ (by simp)];rfl)
  (by rw[Ybm _ _ t (by simp;omega),Ybm _ _ t (by simp;omega),Ybm _ _ t (by simp;omega),Ybm _ _ t c];exact a)
  (by rw[Ydc _ _ t (by simp;omega),Ydc _ _ t (by simp;omega),Ydc _ _ t (by simp;omega),Ydc _ _ t (Nat.ne_of_lt c)];exact f)
 go_enter func37,ntmps37;go_wp2;refine wp_loop_rounds 1 ?_;rw[rounds_succ];go_wp2;go_ret;exact⟨rfl,rfl⟩
theorem ZtQ{e t:Addr}{w:World}(a:w.cell? ⟨13,0,none⟩=some (.iface 232 (.agg #[.pointer (some ⟨20,52,none⟩)]))) :
  Cq 37 #[.iface 389 (.pointer (some e)),.iface 96 (.pointer (some t))] w fun ev u=>ev=.returned (.bool false)/\BW w u:=by
 have k:=Ztx;have l:=Ztw;have m:=Ztu;have d:=Ztv;have f:=Zts;have g:=Ztt;have h:=Zhn;have i:=Ztr;have tO:=Tryz.isTypeOf;have mA:=ZqN;have a25:=ZvX;have f6:=Zpe;have f7:=Zpd;have mK:=ZqQ;have mE:=ZqO;have mI:=ZqP;have k27:=Zpc;have k25:=Zpb;have e27:=Zo8;have i25:=Zo9;have nA:=Zzm;have uE:=Tryz.noUnwrapE;have vE:=Tryz.noUnwrapsE;have n8:=Zpa ⟨w.heap.size,0,none⟩ t ((w.alloc (.cells #[.pointer (some t)] 96)).alloc (.cells #[.pointer (some ⟨20,96,none⟩),Vp w.heap.size,.int .u64 150] 166)) (by simp);have c:13<w.heap.size:=Yai _ _ a
 have j:((w.alloc (.cells #[.pointer (some t)] 96)).alloc (.cells #[.pointer (some ⟨20,96,none⟩),Vp w.heap.size,.int .u64 150] 166)).cell? ⟨13,0,none⟩=some (.iface 232 (.agg #[.pointer (some ⟨20,52,none⟩)])):=by
  rw[Ybm _ _ ⟨13,0,none⟩ (by simp;omega),Ybm _ _ ⟨13,0,none⟩ c];exact a
 go_enter func37,ntmps37;go_wp2;refine wp_loop_rounds 1 ?_;rw[rounds_succ];go_wp2;go_ret;exact⟨rfl,belB⟩
theorem Vars.all{w:World}{A:Nat->Addr}{m:Int}(h:Vars w A m):∀g,g<13->w.cell? ⟨g,0,none⟩=some (.iface 389 (.pointer (some (A g)))):=fun g a=>h.sent g (by unfold sents;simp;omega)
theorem Zgv {w : World} {A : Nat -> Addr} {m : Int} {fa g h : Nat} (a : Vars w A m) (i : w.cell? ⟨fa, 2, none⟩ = some (.iface 389 (.pointer (some (A g))))) (d : g ∈ sents := by decide) (f : h ∈ sents := by decide) (j : g ≠ h := by decide) :
    Cq 36 #[.iface 94 (Vp fa),.iface 389 (.pointer (some (A h)))] w fun e u=>e=.returned (.bool false)/\u=w:=by
  obtain⟨c,t,r⟩:=a.row g d;obtain⟨c',t',r'⟩:=a.row h f;exact Zxn i (a.apart _ d _ f j) r r'
theorem Zg7 {w : World} {A : Nat -> Addr} {m : Int} {g h : Nat} (a : Vars w A m) (d : g ∈ sents := by decide) (f : h ∈ sents := by decide) (i : g ≠ h := by decide) :
    Cq 36 #[.iface 389 (.pointer (some (A g))),.iface 389 (.pointer (some (A h)))] w fun e u=>e=.returned (.bool false)/\u=w:=by
  obtain⟨c,t,r⟩:=a.row g d;obtain⟨c',t',r'⟩:=a.row h f;exact Zxm (a.apart _ d _ f i) r r'
theorem Zik(A:Nat->Addr)(m:Int){w:World}(a:Vars w A m) :
  Cq 20 #[.nilIface] w fun e u=>e=.returned (Vi 0)/\u=w:=by
 have v:=a.all;go_enter func20,ntmps20
 iterate 13 (go_wp2_with fail;refine cret (Zxl) ?_)
 go_wp2;go_ret;exact⟨rfl,rfl⟩
theorem ZjQ(A:Nat->Addr)(m:Int){w:World}(a:Vars w A m) :
  Cq 20 #[.iface 389 (.pointer (some (A 0)))] w fun e u=>e=.returned (Vi 1)/\u=w:=by
 have v:=a.all;go_enter func20,ntmps20
 go_wp2_with fail
 refine cret (Zf7) ?_;go_wp2;go_ret;exact⟨rfl,rfl⟩
theorem Zmt(A:Nat->Addr)(m:Int){w:World}(a:Vars w A m)(fa:Nat)(c:w.cell? ⟨fa,2,none⟩=some (.iface 389 (.pointer (some (A 1))))) :
  Cq 20 #[.iface 94 (Vp fa)] w fun e u=>e=.returned (Vi 2)/\u=w:=by
 have v:=a.all;go_enter func20,ntmps20
 iterate 1 (go_wp2_with fail;refine cret (Zgv a c) ?_)
 go_wp2_with fail
 refine cret (Zf8 c) ?_;go_wp2;go_ret;exact⟨rfl,rfl⟩
theorem Zms(A:Nat->Addr)(m:Int){w:World}(a:Vars w A m)(fa:Nat)(c:w.cell? ⟨fa,2,none⟩=some (.iface 389 (.pointer (some (A 2))))) :
  Cq 20 #[.iface 94 (Vp fa)] w fun e u=>e=.returned (Vi 3)/\u=w:=by
 have v:=a.all;go_enter func20,ntmps20
 iterate 2 (go_wp2_with fail;refine cret (Zgv a c) ?_)
 go_wp2_with fail
 refine cret (Zf8 c) ?_;go_wp2;go_ret;exact⟨rfl,rfl⟩
theorem Zmu(A:Nat->Addr)(m:Int){w:World}(a:Vars w A m) :
  Cq 20 #[.iface 389 (.pointer (some (A 3)))] w fun e u=>e=.returned (Vi 4)/\u=w:=by
 have v:=a.all;go_enter func20,ntmps20
 iterate 3 (go_wp2_with fail;refine cret (Zg7 a) ?_)
 go_wp2_with fail
 refine cret (Zf7) ?_;go_wp2;go_ret;exact⟨rfl,rfl⟩
theorem Ziq{w:World} :
  Cq 21 #[.nilIface] w fun e u=>e=.returned (Vi 0)/\BW w u:=by
 go_enter func21,ntmps21
 go_wp2_with fail
 refine(ZtR).mono ?_;rintro e u ⟨rfl,rfl⟩;go_wp2;go_ret;exact⟨rfl,belB⟩
theorem Zdm(A:Nat->Addr)(m:Int){a:Addr}{w:World}(g:Vars w A m) :
  Cq 21 #[.iface 389 (.pointer (some a))] w fun e u=>e=.returned (Vi 0)/\BW w u:=by
 have c:BW w (w.alloc (.cells #[.pointer none] 94)):=Zbal;go_enter func21,ntmps21
 go_wp2_with fail
 refine(ZtQ (g.alloc _).handle).mono ?_;rintro e u ⟨rfl,d⟩;have f:BW w u:=c.trans (d.mono (by simp));clear d c;go_wp2;go_ret;exact⟨rfl,f⟩
theorem ZdB(A:Nat->Addr)(m:Int)(fa:Nat)(i:Int){w:World}(h:Vars w A m)(f:w.cell? ⟨fa,1,none⟩=some (Vi i)) :
  Cq 21 #[.iface 94 (Vp fa)] w fun e a=>e=.returned (Vi i)/\BW w a:=by
 have g:fa<w.heap.size:=Yai _ _ f;go_enter func21,ntmps21
 go_wp2_with fail
 refine(ZtP (.pointer none) (h.alloc _).handle (by simp) (by simp)).mono ?_;rintro e a ⟨rfl,d⟩;have c:BW w a:=by rw[d];exact belB
 have c1:a.cell? ⟨w.heap.size,0,none⟩=some (Vp fa):=by
  rw[d];refine Yf9 _ _ _ (u:=.pointer none) ?_;refine(Below.cell (B:=w.heap.size+1) (w:=w.alloc (.cells #[.pointer none] 94)) ?_ (Ybd _)).trans (by simp);exact belB
 have c2:a.cell? ⟨fa,1,none⟩=some (Vi i):=(c.cell (p:=⟨fa,1,none⟩) g).trans f;clear d;go_wp2;go_ret;exact⟨rfl,c⟩
theorem Zrl(A:Nat->Addr)(m:Int){w:World}(a:Vars w A m)(fa:Nat)(c:w.cell? ⟨fa,2,none⟩=some (.iface 389 (.pointer (some (A 4))))) :
  Cq 20 #[.iface 94 (Vp fa)] w fun e u=>e=.returned (Vi 5)/\u=w:=by
 have v:=a.all;go_enter func20,ntmps20
 iterate 4 (go_wp2_with fail;refine cret (Zgv a c) ?_)
 go_wp2_with fail
 refine cret (Zf8 c) ?_;go_wp2;go_ret;exact⟨rfl,rfl⟩
theorem Zrn(A:Nat->Addr)(m:Int){w:World}(a:Vars w A m)(fa:Nat)(c:w.cell? ⟨fa,2,none⟩=some (.iface 389 (.pointer (some (A 5))))) :
  Cq 20 #[.iface 94 (Vp fa)] w fun e u=>e=.returned (Vi 6)/\u=w:=by
 have v:=a.all;go_enter func20,ntmps20
 iterate 5 (go_wp2_with fail;refine cret (Zgv a c) ?_)
 go_wp2_with fail
 refine cret (Zf8 c) ?_;go_wp2;go_ret;exact⟨rfl,rfl⟩
theorem Zrk(A:Nat->Addr)(m:Int){w:World}(a:Vars w A m) :
  Cq 20 #[.iface 389 (.pointer (some (A 6)))] w fun e u=>e=.returned (Vi 7)/\u=w:=by
 have v:=a.all;go_enter func20,ntmps20
 iterate 6 (go_wp2_with fail;refine cret (Zg7 a) ?_)
 go_wp2_with fail
 refine cret (Zf7) ?_;go_wp2;go_ret;exact⟨rfl,rfl⟩
theorem Zrm(A:Nat->Addr)(m:Int){w:World}(a:Vars w A m) :
  Cq 20 #[.iface 389 (.pointer (some (A 7)))] w fun e u=>e=.returned (Vi 8)/\u=w:=by
 have v:=a.all;go_enter func20,ntmps20
 iterate 7 (go_wp2_with fail;refine cret (Zg7 a) ?_)
 go_wp2_with fail
 refine cret (Zf7) ?_;go_wp2;go_ret;exact⟨rfl,rfl⟩
end Go.Proofs.YtpbemaaghbbocaaGreatDoor
