/- Parts. -/
import Derived.Test.YtkodhpilkaihjaaGreatDoorProg
import Derived.Lib.Strings
import Derived.WalkSpells
import Derived.WalkLawsBesides
set_option linter.all false
set_option maxRecDepth 100000
set_option maxHeartbeats 16000000
namespace Go.Proofs.YtkodhpilkaihjaaGreatDoor.LS
open Go Go.RowKit
abbrev Ya0:=@List.getElem?_set
abbrev Ya1:=@Nat.not_lt_zero
abbrev Ya2:=@List.getElem?_map
abbrev Ya3:=@List.eq_nil_of_length_eq_zero
abbrev Ya4:=@List.take_length
abbrev Ya5:=@List.take_of_length_le
abbrev Ya6:=@Option.getD_some
abbrev Ya7:=@List.length_take
abbrev Ya9:=@List.getElem?_eq_none
abbrev Yaa:=@List.getD_eq_getElem?_getD
abbrev Yab:=@List.length_append
abbrev Yac:=@Nat.le_refl
abbrev Yae:=@Array.getElem?_eq_some_iff
abbrev Yaf:=@Go.RowKit.Below.refl
abbrev Yag:=@Nat.zero_le
abbrev Yah:=@Nat.le_trans
abbrev Yai:=@Go.World.block_lt_of_cell?
abbrev Yaj:=@List.length_cons
abbrev Yak:=@List.length_map
abbrev Yam:=@List.mem_cons_of_mem
abbrev Yan:=@List.append_assoc
abbrev Yap:=@List.mem_singleton
abbrev Yaq:=@List.map_append
abbrev Yar:=@List.mem_append
abbrev Yas:=@Bool.and_eq_true
abbrev Yat:=@List.length_set
abbrev Yau:=@List.mem_cons
abbrev Yav:=@Nat.lt_or_ge
abbrev Yaw:=@Nat.lt_of_lt_of_le
abbrev Yax:=@Option.some.inj
abbrev Yay:=@List.mem_cons_self
abbrev Yaz:=@ByteArray.size_append
abbrev Yb1:=@List.map_map
abbrev Yb3:=@List.getElem?_append_right
abbrev Yb4:=@List.length_tail
abbrev Yb5:=@List.size_toArray
abbrev Yb8:=@List.drop_of_length_le
abbrev Yb9:=@List.mem_range
abbrev Ybb:=@List.map_cons
abbrev Ybc:=@Go.World.ownsRow_nil
abbrev Ybd:=@Nat.lt_succ_self
abbrev Ybe:=@List.mem_map
abbrev Ybf:=@Option.map_some
abbrev Ybg:=@List.pairwise_cons
abbrev Ybh:=@Bool.eq_iff_iff
abbrev Ybk:=@Option.map_eq_some_iff
abbrev Ybm:=@Go.World.cell?_alloc_lt
abbrev Ybn:=@Array.getElem?_modify
abbrev Ybo:=@Go.IntKind.wrap_i64
abbrev Ybq:=@List.length_nil
abbrev Ybr:=@List.getElem?_append_left
abbrev Ybs:=@List.getElem?_replicate
abbrev Ybu:=@List.all_eq_true
abbrev Ybv:=@List.length_drop
abbrev Ybz:=@List.reverse_cons
abbrev Yc3:=@Nat.min_eq_left
abbrev Yc4:=@List.setIfInBounds_toArray
abbrev Yc8:=@List.drop_take
abbrev Yca:=@List.append_nil
abbrev Ycc:=@Go.World.cell?_of_block
abbrev Yce:=@Bool.eq_false_iff
abbrev Ycf:=@Nat.zero_add
abbrev Ycj:=@List.length_pos_iff
abbrev Yck:=@List.mem_or_eq_of_mem_set
abbrev Ycl:=@Go.Exit.noGoto_ret
abbrev Ycm:=@List.getElem?_eq_some_iff
abbrev Ycn:=@List.take_append_drop
abbrev Ycq:=@List.mem_of_getElem?
abbrev Ycr:=@Bool.not_eq_true'
abbrev Ycs:=@List.ext_getElem?
abbrev Yct:=@Bool.or_eq_true
abbrev Ycw:=@Option.isSome_iff_exists
abbrev Ycy:=@List.getElem?_cons_zero
abbrev Yd0:=@Int.le_refl
abbrev Yd1:=@List.head?_eq_getElem?
abbrev Yd3:=@Bool.and_true
abbrev Yd4:=@Nat.mod_eq_of_lt
abbrev Yd5:=@List.set_append_right
abbrev Yd7:=@List.getElem?_toArray
abbrev Ydc:=@Go.World.frozen?_alloc_old
abbrev Yde:=@Bool.false_eq_true
abbrev Ydf:=@UInt8.toNat_inj
abbrev Ydi:=@Bool.and_false
abbrev Ydk:=@List.contains_iff_mem
abbrev Ydl:=@List.isEmpty_iff
abbrev Ydz:=@Go.Result.andThen_ok
abbrev Ye4:=@Array.setIfInBounds_comm
abbrev Ye5:=@Go.Sem.run_bind
abbrev Ye8:=@List.getElem?_cons_succ
abbrev Yen:=@Nat.add_sub_cancel
abbrev Yeo:=@BitVec.toNat_ofNat
abbrev Yep:=@List.all_cons
abbrev Yer:=@List.map_take
abbrev Yf6:=@Go.World.ownsRow.kept
abbrev Yf8:=@Go.World.ownsRow.alloc
abbrev Yf9:=@Go.World.cell?_setCell_same
abbrev Yfc:=@List.all_append
abbrev Yfe:=@Go.Oper.upon_value
abbrev Yfh:=@Go.World.var?_cell
abbrev Yfi:=@Array.getElem?_eq_none
abbrev Yfm:=@Bool.and_eq_false_iff
abbrev Yfn:=@List.length_replicate
abbrev Yfp:=@UInt8.lt_iff_toNat_lt
abbrev Yft:=@Bool.false_or
abbrev Yfx:=@Nat.le_add_right
abbrev Yg2:=@List.getElem?_range
abbrev Yg4:=@List.reverse_reverse
abbrev Yg5:=@List.mem_replicate
abbrev Yg6:=@List.zipWith_cons_cons
abbrev Yg7:=@Nat.min_eq_right
abbrev Yg9:=@Nat.zero_mul
abbrev Yga:=@ByteArray.size_extract
abbrev Ygb:=@List.drop_append_of_le_length
abbrev Ygc:=@List.length_eq_zero_iff
abbrev Ygf:=@Nat.lt_succ_iff_lt_or_eq
abbrev Ygj:=@Go.World.grownBy_alloc
abbrev Ygm:=@List.getLast?_eq_getElem?
abbrev Ygn:=@List.isEmpty_eq_false_iff
abbrev Ygr:=@List.drop_zero
abbrev Ygt:=@Nat.succ_pos
abbrev Ygv:=@List.getElem?_drop
abbrev Yha:=@List.getElem?_set_ne
abbrev Yhc:=@Nat.pow_succ
abbrev Yhd:=@List.getElem?_set_self
abbrev Yhe:=@Nat.div_div_eq_div_mul
abbrev Yhf:=@Nat.sub_eq_zero_of_le
abbrev Yhg:=@List.dropLast_eq_take
abbrev Yhm:=@Go.RowKit.Below.setCell
abbrev LB:=List UInt8
abbrev BA:=ByteArray
abbrev Vi(n:Int):Value:=.int .i64 n
abbrev Vp(b:Nat):Value:=.pointer (some ⟨b,0,none⟩)
abbrev S0:Value:=.slice none 0 0
abbrev BW(a b:World):Prop:=Below a.heap.size a b
abbrev CP:=@Calls Tryz.prog
theorem Dc{p:Prop}(h:p:=by decide):p:=h
theorem Om{p:Prop}(h:p:=by omega):p:=h
theorem Kr{p:Prop}(h:p:=by kernel_rfl):p:=h
theorem hid{p:Prop}(h:p):Hid p:=h
def bl(s:BA):LB:=s.data.toList
theorem Zbt(s:BA):s.toList=bl s:=Lib.toList_data s
theorem Zd(s:BA):(bl s).length=s.size:=by simp[bl]
theorem ZoT{s:BA}(h:s.size<1):s.toList.isEmpty=true:=by
 rw[Zbt,Ydl,<-Ygc,Zd];omega
theorem Zrh{s:BA}(h:1<=s.size):s.toList.isEmpty=false:=by
 rw[Zbt,Ygn,<-Ycj,Zd];omega
theorem ZbF(l:LB):bl ⟨l.toArray⟩=l:=by simp[bl]
theorem Zq6(s:BA):(⟨(bl s).toArray⟩:BA)=s:=by simp[bl]
theorem ZgE (s : BA) (k : Nat) (h : k < s.size) : (bl s)[k]'(by rw [Zd]; exact h) = s[k] := by
  unfold bl;rfl
theorem ZcW{a b:BA}(h:bl a=bl b):a=b:=by rw[<-Zq6 a,<-Zq6 b,h]
theorem Zfh(s:BA)(a b:Nat):bl (s.extract a b)=((bl s).take b).drop a:=by
 unfold bl;rw[ByteArray.data_extract];simp[Array.toList_extract];rw[Yc8]
def Zp(c:UInt8):Bool:=decide (97<=(c.toNat:Int)) && decide ((c.toNat:Int)<=122)
def ZC(c:UInt8):Bool:=decide (48<=(c.toNat:Int)) && decide ((c.toNat:Int)<=57)
def Zx(l:LB):Bool:=l.all Zp && (decide (1<=(l.length:Int)) && decide ((l.length:Int)<=8))
def Z3(l:LB):Bool:=l.all (fun c=>Zp c || ZC c) && decide ((l.length:Int)<=8)
theorem ZiB(s:BA)(k:Nat)(h:k<s.size):(bl s).take (k+1)=(bl s).take k++[s[k]]:=by
 rw[List.take_succ_eq_append_getElem (by rw[Zd];exact h),ZgE s k h]
theorem ZdW(s:BA)(k:Nat)(h:k<s.size):(bl s).drop k=s[k]::(bl s).drop (k+1):=by
 rw[List.drop_eq_getElem_cons (by rw[Zd];exact h),ZgE s k h]
theorem ZkI(p:UInt8->Bool)(s:BA)(k:Nat)(h:k<s.size)(a:((bl s).take k).all p=true)(b:p s[k]=true):((bl s).take (k+1)).all p=true:=by
 rw[ZiB s k h,Yfc,a];simp[b]
theorem ZkH(p:UInt8->Bool)(s:BA)(k:Nat)(h:k<s.size)(a:p s[k]=false):(bl s).all p=false:=by
 rw[List.all_eq_false];exact⟨s[k],by rw[<-ZgE s k h];exact List.getElem_mem _,by simp[a]⟩
theorem ZkG(p:UInt8->Bool)(s:BA)(k:Nat)(h:¬k<s.size)(a:((bl s).take k).all p=true):(bl s).all p=true:=by
 rwa [Ya5 (by rw[Zd];omega)]at a
def val(l:LB):Nat:=l.foldl (fun n c=>10*n+(c.toNat - 48)) 0
def ZQ(most:Nat)(l:LB):Option Nat:=
 if l.length<1∨(l.head?=some 48/\1<l.length)∨l.all ZC=false∨most<val l then none else some (val l)
theorem Znt(l:LB)(c:UInt8):val (l++[c])=10*val l+(c.toNat - 48):=by simp[val]
theorem ZDM (r : LB) : ∀ n : Nat, n <= r.foldl (fun n c => 10 * n + (c.toNat - 48)) n := by
  induction r with
  | nil=>intro n;exact Yac _
  | cons c r ih=>intro n;exact Yah (show n<=10*n+(c.toNat - 48) by omega) (ih _)
theorem ZDO(l:LB)(k:Nat):val (l.take k)<=val l:=by
 conv=>rhs;rw[<-Ycn k l]
 unfold val;rw[List.foldl_append];exact ZDM _ _
theorem Zvx{c:UInt8}(h:ZC c=true):48<=c.toNat/\c.toNat<=57:=by
 simp[ZC]at h;omega
def seek(c:UInt8):LB->Option Nat
 | []=>none
 | b::l=>if b == c then some 0 else (seek c l).map (· + 1)
def cut(c:UInt8)(l:LB):Option (LB×LB):=(seek c l).map fun i=>(l.take i,l.drop (i+1))
theorem ZBX(c:UInt8)(a b:LB)(h:seek c a=none):seek c (a++b)=(seek c b).map (· + a.length):=by
 induction a with
 | nil=>simp
 | cons x a ih=>
  unfold seek at h;split at h
  ·cases h
  ·rename_i d;have e:seek c a=none:=by simpa using h
   simp only[List.cons_append,seek,d];rw[ih e];cases seek c b <;> simp[Nat.add_assoc]
theorem Zj9(c:UInt8)(l:LB):seek c l=none ↔ c∉l:=by
 induction l with
 | nil=>simp[seek]
 | cons b l ih=>
  unfold seek;by_cases a:b=c
  ·subst a;simp
  ·simp[a,ih,Ne.symm a]
theorem Ziv{c:UInt8}{l:LB}{i:Nat}(h:seek c l=some i):∃a b,l=a++c::b/\a.length=i/\c∉a:=by
 induction l generalizing i with
 | nil=>simp[seek]at h
 | cons b l ih=>
  unfold seek at h;by_cases d:b=c
  ·subst d;simp at h;subst h;exact⟨[],l,rfl,rfl,by simp⟩
  ·simp[d]at h;obtain⟨j,e,rfl⟩:=h;obtain⟨a',b',rfl,rfl,f⟩:=ih e;exact⟨b::a',b',rfl,by simp,by simp[f,Ne.symm d]⟩
theorem Zgq(c:UInt8){a b:LB}(h:c∉a):seek c (a++c::b)=some a.length:=by
 rw[ZBX c a _ ((Zj9 c a).2 h)];simp[seek]
theorem ZBY{c:UInt8}{l:LB}{i:Nat}(h:seek c l=some i):i<l.length:=by
 obtain⟨a,b,rfl,rfl,_⟩:=Ziv h;simp
def pre(p:LB):List (LB)->List (LB)
 | []=>[p]
 | h::t=>(p++h)::t
def split(c:UInt8):LB->List (LB)
 | []=>[[]]
 | b::l=>if b == c then []::split c l else pre [b] (split c l)
theorem Zix(c:UInt8)(l:LB):split c l≠[]:=by
 cases l with
 | nil=>simp[split]
 | cons b l=>
  unfold split;split
  ·simp
  ·cases h:split c l <;> simp[pre]
theorem ZAS(c:UInt8)(l:LB):pre [] (split c l)=split c l:=by
 cases h:split c l with
 | nil=>exact absurd h (Zix c l)
 | cons a t=>simp[pre]
theorem ZAT{p q:LB}{l:List (LB)}(h:l≠[]):pre p (pre q l)=pre (p++q) l:=by
 cases l with
 | nil=>exact absurd rfl h
 | cons a t=>simp[pre]
theorem Zhc(c:UInt8)(l:LB):split c (c::l)=[]::split c l:=by simp[split]
theorem Zke(c b:UInt8)(l:LB)(h:(b == c)=false):split c (b::l)=pre [b] (split c l):=by
 simp only[split,h];rfl
theorem Zhb(c:UInt8)(p r:LB)(h:c∉p):split c (p++r)=pre p (split c r):=by
 induction p with
 | nil=>rw[List.nil_append,ZAS]
 | cons x p ih=>
  have a:(x == c)=false:=by simp;rintro rfl;simp at h
  rw[List.cons_append,Zke c x _ a,ih (by simp at h;exact h.2),ZAT (Zix c r)];rfl
theorem Zhd(c:UInt8)(l:LB):(split c l).length<=l.length+1:=by
 induction l with
 | nil=>simp[split]
 | cons b l ih=>
  by_cases d:b=c
  ·subst d;rw[Zhc];simp;exact ih
  ·rw[Zke c b l (by simp[d])];cases e:split c l with
   | nil=>simp[pre]
   | cons a t=>rw[e]at ih;simp[pre];simp at ih;omega
end Go.Proofs.YtkodhpilkaihjaaGreatDoor.LS
namespace Go.Proofs.YtkodhpilkaihjaaGreatDoor
open Go.RowKit LS Go.Proofs.Tryz
theorem Zset {α:Type}:(∀(l:List α)(i:Nat)(a:α),l.toArray.setIfInBounds i a=(l.set i a).toArray)/\(∀(a:α)(l:List α)(b:α),(a::l).set 0 b=b::l)/\∀(a:α)(l:List α)(i:Nat)(b:α),(a::l).set (i+1) b=a::l.set i b:=⟨fun _ _ _=>by simp only [Yc4],fun _ _ _=>rfl,fun _ _ _ _=>rfl⟩
theorem Zget {α:Type}:(∀(a:α)(l:List α),(a::l)[0]?=some a)/\∀(a:α)(l:List α)(i:Nat),(a::l)[i+1]?=l[i]?:=⟨fun _ _=>rfl,fun _ _ _=>rfl⟩
theorem Zbal {w:World}{o:Obj}:BW w (w.alloc o):=(Yaf _ _).alloc (Yac _) _
theorem cret{P:Program}{f:Nat}{a:Array Value}{w w':World}{x:Ending}{Q:Ending->World->Prop}(h:Calls P f a w fun e u=>e=x/\u=w')(k:Q x w'):Calls P f a w Q:=h.mono fun e u ⟨b,c⟩=>by rw[b,c];exact k
theorem Zn{w w':World}{base:Nat}{e:TypeId}{size:Nat}{v:Value}{n:Nat}{xs:List Value}(h:w.ownsRow base e size v n xs)(d:BW w w'):w'.ownsRow base e size v n xs:=by
 obtain⟨f,a⟩:=h;refine⟨f,?_⟩;rcases a with a|⟨g,cap,cur,i,j,b,r⟩
 ·exact Or.inl a
 ·have c:g<w.heap.size:=by
   rcases Yav g w.heap.size with h|h
   ·exact h
   ·rw[Yfi h]at b;cases b
  exact Or.inr ⟨g,cap,cur,i,j,by rw[d.block g c];exact b,r⟩
theorem Zl{w:World}{base:Nat}{e:TypeId}{size:Nat}{v:Value}{n:Nat}{xs:List Value}(h:w.ownsRow base e size v n xs):∃av cp,v=.slice av n cp:=by
 rcases h.2 with ⟨h,a⟩|⟨g,cap,cur,h,_⟩
 ·exact⟨none,0,by rw[h,a]⟩
 ·exact⟨_,_,h⟩
theorem ZiX(B:Nat)(w:World)(k:Nat):Below B w (w.drewN k):=⟨rfl,rfl,rfl,Yac _,fun _ _=>rfl⟩
theorem ZhQ{B:Nat}{a w:World}(h:Below B a w)(k:Nat):Below B a (w.drewN k):=h.trans (ZiX B w k)
theorem belB{n:Nat}{a w:World}(h:Below n a w:=by repeat (first|exact Yaf _ _|assumption|refine Below.alloc ?_ (by first|omega|(simp;omega)|simp) _|refine Yhm ?_ (by first|omega|(simp;omega)|simp) _|refine ZhQ ?_ _|refine Below.drew ?_)):Below n a w:=h
theorem ZU{s:BA}{r:LB}(h:bl s=r):s.size=r.length:=by rw[<-Zd,h]
theorem Zn9{W:World}{a:Nat}{u v:Value}(c:W.cell? ⟨a,0,none⟩=some u)(d:W.cell? ⟨a,1,none⟩=some v):∀j x,[u,v][j]?=some x->W.cell? ((⟨a,0,none⟩:Addr).add j)=some x:=by
 intro j x b
 match j,b with
 | 0,b=>simp at b;subst b;simpa [Addr.add] using c
 | 1,b=>simp at b;subst b;simpa [Addr.add] using d
theorem ZfO(g j:Nat):(⟨g,0,none⟩:Addr).add j=⟨g,j,none⟩:=by
 by_cases h:j=0 <;> simp[Addr.add,h]
theorem Zi{w:World}{base:Nat}{e:TypeId}{size:Nat}{g n cp:Nat}{xs:List Value}(h:w.ownsRow base e size (.slice (some ⟨g,0,none⟩) n cp) n xs)(j:Nat)(u:Value)(a:xs[j]?=some u):w.cell? ⟨g,j,none⟩=some u:=by
 have:=h.cells rfl j u a;rwa [ZfO]at this
theorem Z1{w:World}{base:Nat}{e:TypeId}{size:Nat}{g n cp:Nat}{xs:List Value}(h:w.ownsRow base e size (.slice (some ⟨g,0,none⟩) n cp) n xs):g<w.heap.size:=(h.lt g rfl).2
theorem ZF{w:World}{base:Nat}{e:TypeId}{size:Nat}{v:Value}{n:Nat}{xs:List Value}(h:w.ownsRow base e size v n xs)(b:0<n):∃g cp,v=.slice (some ⟨g,0,none⟩) n cp:=by
 rcases h.2 with ⟨_,c⟩|⟨g,cap,cur,a,_⟩
 ·omega
 ·exact⟨g,cap,a⟩
theorem ZmC{w:World}{b1 b2:Nat}{e1 e2:TypeId}{s1 s2:Nat}{v1 v2:Value}{n1 n2:Nat}{xs1 xs2:List Value}(c:w.ownsRow b1 e1 s1 v1 n1 xs1)(d:w.ownsRow b2 e2 s2 v2 n2 xs2)(e:e1≠e2):v1.ownBlock=none∨v1.ownBlock≠v2.ownBlock:=by
 rcases c.2 with ⟨rfl,_⟩|⟨g1,c1,cur1,rfl,_,b,_⟩
 ·exact Or.inl rfl
 ·right
  rcases d.2 with ⟨rfl,_⟩|⟨g2,c2,cur2,rfl,_,a,_⟩
  ·simp[Value.ownBlock]
  ·intro h;have f:g1=g2:=by simpa [Value.ownBlock] using h
   subst f;rw[b]at a;injection a with h3;injection h3 with _ h4;exact e h4
theorem Zcx{w:World}{b:Nat}{e:TypeId}{sz:Nat}{v:Value}{n:Nat}{xs:List Value}(h:w.ownsRow b e sz v n xs){q:Nat}{c:Array Value}{t:TypeId}{fr:Nat×Nat}(d:w.heap[q]?=some (.cells c t fr))(f:t≠e):some q≠v.ownBlock:=by
 rcases h.2 with ⟨rfl,_⟩|⟨g,cp,cur,rfl,_,a,_⟩
 ·simp[Value.ownBlock]
 ·intro i;have j:q=g:=by simpa [Value.ownBlock] using i
  subst j;rw[d]at a;injection a with h3;injection h3 with _ h4;exact f h4
theorem ZgW{s:BA}(h:s.toList.isEmpty=true):bl s=[]:=by rw[Zbt]at h;exact Ydl.1 h
theorem Zij{s:BA}(h:s.toList.isEmpty=false):bl s≠[]:=by rw[Zbt]at h;exact Ygn.1 h
theorem Zne(c:UInt8)(l:LB):∀x∈split c l,x.length<=l.length:=by
 induction l with
 | nil=>simp[split]
 | cons b l ih=>
  intro x a;by_cases e:b=c
  ·subst e;rw[Zhc]at a;rcases Yau.1 a with rfl|a
   ·simp
   ·have:=ih x a;simp;omega
  ·rw[Zke c b l (by simp[e])]at a;cases d:split c l with
   | nil=>exact absurd d (Zix c l)
   | cons h t=>
    rw[d]at a ih;simp only[pre]at a;rcases Yau.1 a with rfl|a
    ·have:=ih h (by simp);simp;omega
    ·have:=ih x (by simp[a]);simp;omega
theorem Zgh{most v:Nat}{l:LB}(h:ZQ most l=some v):v<=most:=by
 unfold ZQ at h;split at h
 ·cases h
 ·rename_i a;have:=Yax h;simp at a;omega
def ZTz:List Nat:=[0,1,2,3,4,5,6,7,8,9,10,11,12]
structure Vars (w:World) (A:Nat->Addr) (m:Int):Prop where
 max:w.cell? ⟨14,0,none⟩=some (Vi m)
 sent:∀g∈ZTz,w.cell? ⟨g,0,none⟩=some (.iface 491 (.pointer (some (A g))))
 apart:∀g∈ZTz,∀h∈ZTz,g≠h->A g≠A h
 row:∀g∈ZTz,∃c t,w.heap[(A g).block]?=some (.cells c t (0,0))
 handle:w.cell? ⟨13,0,none⟩=some (.iface 316 (.agg #[.pointer (some ⟨20,60,none⟩)]))
theorem Vars.below{w w':World}{A:Nat->Addr}{m:Int}(h:Vars w A m)(a:BW w w'):Vars w' A m where
 max:=(a.cell (p:=⟨_,0,none⟩) (Yai _ _ h.max)).trans h.max
 sent g hg:=(a.cell (p:=⟨_,0,none⟩) (Yai _ _ (h.sent g hg))).trans (h.sent g hg)
 apart:=h.apart
 row g hg:=by
  obtain⟨c,t,e⟩:=h.row g hg;refine⟨c,t,(a.block _ ?_).trans e⟩;rcases Yav (A g).block w.heap.size with h|h
  ·exact h
  ·rw[Yfi h]at e;cases e
 handle:=(a.cell (p:=⟨_,0,none⟩) (Yai _ _ h.handle)).trans h.handle
theorem Vars.alloc{w:World}{A:Nat->Addr}{m:Int}(h:Vars w A m)(o:Obj):Vars (w.alloc o) A m:=h.below Zbal
theorem Vars.drewN{w:World}{A:Nat->Addr}{m:Int}(h:Vars w A m)(k:Nat):Vars (w.drewN k) A m:=h.below (ZiX _ _ _)
theorem Zcy{a b:Bool}(h:a=b):Ending.returned (.bool a)=.returned (.bool b):=by rw[h]
theorem ZBw{k:IntKind}{a b:Int}(h:a=b):Ending.returned (.int k a)=.returned (.int k b):=by rw[h]
theorem ZJE{c:UInt8}{w:World} :
  CP 179 #[.int .u8 c.toNat] w fun e u=>e=.returned (.bool (Zp c))/\u=w:=by
 go_enter func179,ntmps179;go_wp2
 all_goals
  go_ret;exact⟨Zcy (by unfold Zp;simp;omega),rfl⟩
theorem Zd2{c:UInt8}{w:World} :
  CP 119 #[.int .u8 c.toNat] w fun e u=>e=.returned (.bool (Zp c))/\u=w:=by
 go_enter func119,ntmps119;go_wp2
 all_goals
  go_ret;exact⟨Zcy (by unfold Zp;simp;omega),rfl⟩
theorem ZJC{c:UInt8}{w:World} :
  CP 174 #[.int .u8 c.toNat] w fun e u=>e=.returned (.bool (ZC c))/\u=w:=by
 go_enter func174,ntmps174;go_wp2
 all_goals
  go_ret;exact⟨Zcy (by unfold ZC;simp;omega),rfl⟩
theorem Zdk{c:UInt8}{w:World} :
  CP 116 #[.int .u8 c.toNat] w fun e u=>e=.returned (.bool (ZC c))/\u=w:=by
 go_enter func116,ntmps116;go_wp2
 all_goals
  go_ret;exact⟨Zcy (by unfold ZC;simp;omega),rfl⟩
theorem ZNj(s:BA)(w:World)(h:s.size<=70000) :
  CP 106 #[.string s] w fun e u=>e=.returned (.bool (Zx (bl s)))/\u=w:=by
 go_enter func106,ntmps106;go_wp2
 go_loop [3] (fun i=>∃k:Nat,k<=s.size/\i=Vi k/\((bl s).take k).all Zp=true) (fun i=>s.size - (intOf i).toNat)
 case atStart=>exact⟨0,Yag _,rfl,by simp⟩
 case round=>
  obtain⟨k,j,rfl,c⟩:=hrel;have d:Hid (((bl s).take k).all Zp=true):=c;clear c;by_cases b:k<s.size
  ·cases f:Zp s[k]
   ·have a:Hid (Zx (bl s)=false):=by unfold Zx;rw[ZkH Zp s k b f];rfl
    go_wp2_with (go_at_call 179;refine(ZJE).mono ?_;rintro e u ⟨rfl,rfl⟩)
    go_ret;exact⟨Zcy a.symm,rfl⟩
   ·have a:=ZkI Zp s k b d.out f;have g:Hid (((bl s).take (k+1)).all Zp=true):=a;clear a
    go_wp2_with (go_at_call 179;refine(ZJE).mono ?_;rintro e u ⟨rfl,rfl⟩)
    go_round
    case rel=>exact⟨k+1,by omega,by go_num,g.out⟩
    case measure=>simp[intOf];omega
  ·have a:Hid (Zx (bl s)=(decide (1<=(s.size:Int)) && decide ((s.size:Int)<=8))):=by
    unfold Zx;rw[ZkG Zp s k b d.out,Zd];rfl
   go_wp2
   all_goals
    go_ret;refine⟨Zcy ?_,rfl⟩;rw[a.out];simp;omega
theorem Zkt(s:BA)(w:World)(h:s.size<=70000) :
  CP 120 #[.string s] w fun e u=>e=.returned (.bool (Zx (bl s)))/\u=w:=by
 by_cases j:s.size<1∨8<s.size
 ·have a:Hid (Zx (bl s)=false):=hid (by
   unfold Zx;rw[Zd];have:(decide (1<=(s.size:Int)) && decide ((s.size:Int)<=8))=false:=by simp;omega
   rw[this];simp)
  go_enter func120,ntmps120;go_wp2
  all_goals first|omega|(go_ret;exact⟨Zcy a.symm,rfl⟩)
 ·have l:1<=(s.size:Int):=by omega
  have m:(s.size:Int)<=8:=by omega
  go_enter func120,ntmps120;go_wp2
  go_loop [14] (fun i=>∃k:Nat,k<=s.size/\i=Vi k/\((bl s).take k).all Zp=true) (fun i=>s.size - (intOf i).toNat)
  case atStart=>exact⟨0,Yag _,rfl,by simp⟩
  case round=>
   obtain⟨k,n,rfl,c⟩:=hrel;have d:Hid (((bl s).take k).all Zp=true):=c;clear c;by_cases b:k<s.size
   ·cases f:Zp s[k]
    ·have a:Hid (Zx (bl s)=false):=by unfold Zx;rw[ZkH Zp s k b f];rfl
     go_wp2_with (go_at_call 119;refine(Zd2).mono ?_;rintro e u ⟨rfl,rfl⟩)
     go_ret;exact⟨Zcy a.symm,rfl⟩
    ·have g:Hid (((bl s).take (k+1)).all Zp=true):=ZkI Zp s k b d.out f
     go_wp2_with (go_at_call 119;refine(Zd2).mono ?_;rintro e u ⟨rfl,rfl⟩)
     go_round
     case rel=>exact⟨k+1,by omega,by go_num,g.out⟩
     case measure=>simp[intOf];omega
   ·have a:Hid (Zx (bl s)=true):=hid (by
     unfold Zx;rw[ZkG Zp s k b d.out,Zd];simp;omega)
    go_wp2;go_ret;exact⟨Zcy a.symm,rfl⟩
theorem Znv(s:BA){w:World}(a:s.size<=6000) :
  CP 120 #[.string s] w fun e u=>e=.returned (.bool (Zx (bl s)))/\u=w:=Zkt s w Om
theorem ZNk(s:BA)(w:World)(m:s.size<=6000) :
  CP 180 #[.string s] w fun e u=>e=.returned (.bool (Z3 (bl s)))/\u=w:=by
 go_enter func180,ntmps180;go_wp2
 go_loop [3] (fun i=>∃k:Nat,k<=s.size/\i=Vi k/\((bl s).take k).all (fun c=>Zp c || ZC c)=true) (fun i=>s.size - (intOf i).toNat)
 case atStart=>exact⟨0,Yag _,rfl,by simp⟩
 case round=>
  obtain⟨k,n,rfl,b⟩:=hrel;have d:Hid (((bl s).take k).all (fun c=>Zp c || ZC c)=true):=b;clear b;by_cases a:k<s.size
  ·have g:Hid ((Zp s[k] || ZC s[k])=true->((bl s).take (k+1)).all (fun c=>Zp c || ZC c)=true):=ZkI (fun c=>Zp c || ZC c) s k a d.out
   have j : Hid ((Zp s[k] || ZC s[k]) = false -> Z3 (bl s) = false) := fun h => by
     unfold Z3;rw[ZkH (fun c=>Zp c || ZC c) s k a h];rfl
   cases f:Zp s[k] <;> cases hd:ZC s[k]
   ·go_wp2_with (first|(go_at_call 179;refine(ZJE).mono ?_;rintro e u ⟨rfl,rfl⟩)|(go_at_call 174;refine(ZJC).mono ?_;rintro e u ⟨rfl,rfl⟩))
    go_ret;exact⟨Zcy (j.out (by rw[f,hd];rfl)).symm,rfl⟩
   all_goals
    go_wp2_with (first|(go_at_call 179;refine(ZJE).mono ?_;rintro e u ⟨rfl,rfl⟩)|(go_at_call 174;refine(ZJC).mono ?_;rintro e u ⟨rfl,rfl⟩))
    go_round
    case rel=>exact⟨k+1,by omega,by go_num,g.out (by rw[f,hd];rfl)⟩
    case measure=>simp[intOf];omega
  ·have l:Hid (Z3 (bl s)=decide ((s.size:Int)<=8)):=by
    unfold Z3;rw[ZkG _ s k a d.out,Zd];rfl
   go_wp2;go_ret;exact⟨Zcy l.symm,rfl⟩
theorem Znw(s:BA){w:World}(m:s.size<=6000) :
  CP 121 #[.string s] w fun e u=>e=.returned (.bool (Z3 (bl s)))/\u=w:=by
 by_cases n:8<s.size
 ·have d:Hid (Z3 (bl s)=false):=hid (by
   unfold Z3;rw[Zd];have:decide ((s.size:Int)<=8)=false:=by simp;omega
   rw[this];simp)
  go_enter func121,ntmps121;go_wp2;go_ret;exact⟨Zcy d.symm,rfl⟩
 ·have o:(s.size:Int)<=8:=by omega
  go_enter func121,ntmps121;go_wp2
  go_loop [9] (fun i=>∃k:Nat,k<=s.size/\i=Vi k/\((bl s).take k).all (fun c=>Zp c || ZC c)=true) (fun i=>s.size - (intOf i).toNat)
  case atStart=>exact⟨0,Yag _,rfl,by simp⟩
  case round=>
   obtain⟨k,p,rfl,b⟩:=hrel;have f:Hid (((bl s).take k).all (fun c=>Zp c || ZC c)=true):=b;clear b;by_cases a:k<s.size
   ·have j:Hid ((Zp s[k] || ZC s[k])=true->((bl s).take (k+1)).all (fun c=>Zp c || ZC c)=true):=ZkI (fun c=>Zp c || ZC c) s k a f.out
    have l : Hid ((Zp s[k] || ZC s[k]) = false -> Z3 (bl s) = false) := fun h => by
      unfold Z3;rw[ZkH (fun c=>Zp c || ZC c) s k a h];rfl
    cases g:Zp s[k] <;> cases hd:ZC s[k]
    ·go_wp2_with (first|(go_at_call 119;refine(Zd2).mono ?_;rintro e u ⟨rfl,rfl⟩)|(go_at_call 116;refine(Zdk).mono ?_;rintro e u ⟨rfl,rfl⟩))
     go_ret;exact⟨Zcy (l.out (by rw[g,hd];rfl)).symm,rfl⟩
    all_goals
     go_wp2_with (first|(go_at_call 119;refine(Zd2).mono ?_;rintro e u ⟨rfl,rfl⟩)|(go_at_call 116;refine(Zdk).mono ?_;rintro e u ⟨rfl,rfl⟩))
     go_round
     case rel=>exact⟨k+1,by omega,by go_num,j.out (by rw[g,hd];rfl)⟩
     case measure=>simp[intOf];omega
   ·have d:Hid (Z3 (bl s)=true):=hid (by
     unfold Z3;rw[ZkG _ s k a f.out,Zd];simp;omega)
    go_wp2;go_ret;exact⟨Zcy d.symm,rfl⟩
def ZJX(c:UInt8)(l:LB):Int:=match LS.seek c l with|none=>-1|some i=>i
theorem ZLg{c:UInt8}{l:LB}{i:Nat}(h:LS.seek c l=some i):ZJX c l=i:=by unfold ZJX;rw[h]
theorem ZLf{c:UInt8}{l:LB}(h:LS.seek c l=none):ZJX c l=-1:=by unfold ZJX;rw[h]
theorem ZNz(c:UInt8)(s:BA)(k:Nat)(h:k<s.size)(a:LS.seek c ((bl s).take k)=none)(b:s[k]=c):ZJX c (bl s)=k:=by
 have e:bl s=(bl s).take k++(bl s).drop k:=(Ycn _ _).symm;refine ZLg ?_;rw[e,ZBX _ _ _ a,ZdW s k h];simp[LS.seek,b,Zd];omega
theorem ZNA(c:UInt8)(s:BA)(k:Nat)(h:k<s.size)(a:LS.seek c ((bl s).take k)=none)(b:s[k]≠c):LS.seek c ((bl s).take (k+1))=none:=by
 rw[ZiB s k h,ZBX _ _ _ a];simp[LS.seek,b]
theorem ZNy(s:BA)(c:UInt8)(w:World)(l:s.size<=70000) :
  CP 102 #[.string s,.int .u8 c.toNat] w fun e u=>e=.returned (Vi (ZJX c (bl s)))/\u=w:=by
 go_enter func102,ntmps102;go_wp2
 go_loop [5] (fun i=>∃k:Nat,k<=s.size/\i=Vi k/\LS.seek c ((bl s).take k)=none) (fun i=>s.size - (intOf i).toNat)
 case atStart=>exact⟨0,Yag _,rfl,by simp[LS.seek]⟩
 case round=>
  obtain⟨k,m,rfl,d⟩:=hrel;have g:Hid (LS.seek c ((bl s).take k)=none):=d;clear d;by_cases f:k<s.size
  ·by_cases a:s[k]=c
   ·have b:Hid (ZJX c (bl s)=k):=ZNz c s k f g.out a;have j:((s[k].toNat:Int) == (c.toNat:Int))=true:=by rw[a];simp
    clear a;go_wp2;go_ret;exact⟨ZBw b.symm,rfl⟩
   ·have b:Hid (LS.seek c ((bl s).take (k+1))=none):=ZNA c s k f g.out a
    have j:((s[k].toNat:Int) == (c.toNat:Int))=false:=by
     rw[beq_eq_false_iff_ne];intro h;exact a (Ydf.1 Om)
    clear a;go_wp2
    go_round
    case rel=>exact⟨k+1,by omega,by go_num,b.out⟩
    case measure=>simp[intOf];omega
  ·have b:Hid (ZJX c (bl s)=-1):=by
    have:=g.out;rw[Ya5 (by rw[Zd];omega)]at this;exact ZLf this
   go_wp2;go_ret;exact⟨ZBw b.symm,rfl⟩
theorem ZLh(s:BA)(c:UInt8)(w:World)(a:s.size<=6000) :
  CP 102 #[.string s,.int .u8 c.toNat] w fun e u=>e=.returned (Vi (ZJX c (bl s)))/\u=w:=ZNy s c w Om
def numI(most:Nat)(l:LB):Int:=match ZQ most l with|none=>-1|some v=>v
theorem Zrj{most:Nat}{l:LB}(h:ZQ most l=none):numI most l=-1:=by unfold numI;rw[h]
theorem ZgX{most v:Nat}{l:LB}(h:ZQ most l=some v):numI most l=v:=by unfold numI;rw[h]
theorem Zzz(most:Nat)(s:BA)(h:s.size<1):ZQ most (bl s)=none:=by
 unfold ZQ;rw[if_pos (Or.inl (by rw[Zd];exact h))]
theorem ZzC(most:Nat)(s:BA)(a:1<s.size)(h:s[0].toNat=48):ZQ most (bl s)=none:=by
 unfold ZQ;refine if_pos (Or.inr (Or.inl ⟨?_,by rw[Zd];exact a⟩));rw[Yd1,List.getElem?_eq_getElem (by rw[Zd];omega),ZgE s 0 Om];exact congrArg some (Ydf.1 h)
theorem Zzs(most:Nat)(s:BA)(k:Nat)(h:k<s.size)(hd:ZC s[k]=false):ZQ most (bl s)=none:=by
 unfold ZQ;exact if_pos (Or.inr (Or.inr (Or.inl (ZkH ZC s k h hd))))
theorem Zzw(most:Nat)(s:BA)(k:Nat)(h:k<s.size)(a:most<10*val ((bl s).take k)+(s[k].toNat - 48)):ZQ most (bl s)=none:=by
 unfold ZQ;refine if_pos (Or.inr (Or.inr (Or.inr ?_)));have:=ZDO (bl s) (k+1);rw[ZiB s k h,Znt]at this;omega
theorem Zzv(most:Nat)(s:BA)(k:Nat)(h:¬k<s.size)(f:1<=s.size)(c:¬(s[0].toNat=48/\1<s.size))(d:((bl s).take k).all ZC=true)(e:val ((bl s).take k)<=most):ZQ most (bl s)=some (val ((bl s).take k)):=by
 have a:=ZkG ZC s k h d;rw[Ya5 (by rw[Zd];omega)]at e ⊢;unfold ZQ;refine if_neg ?_;rintro(h|⟨h,b⟩|h|h)
 ·rw[Zd]at h;omega
 ·rw[Zd]at b;rw[Yd1,List.getElem?_eq_getElem (by rw[Zd];omega),ZgE s 0 Om]at h;exact c ⟨by rw[Yax h];rfl,b⟩
 ·rw[a]at h;cases h
 ·omega
theorem ZDN(s:BA)(k:Nat)(h:k<s.size):val ((bl s).take (k+1))=10*val ((bl s).take k)+(s[k].toNat - 48):=by
 rw[ZiB s k h,Znt]
theorem ZNr(s:BA)(most:Nat)(w:World)(A:s.size<=70000)(B:most<=1000000000) :
  CP 103 #[.string s,Vi most] w fun e u=>e=.returned (Vi (numI most (bl s)))/\u=w:=by
 by_cases j:s.size<1
 ·have a:Hid (numI most (bl s)=-1):=Zrj (Zzz most s j);go_enter func103,ntmps103;go_wp2;go_ret;exact⟨ZBw a.symm,rfl⟩
 have p:1<=s.size:=by omega
 by_cases b:s[0].toNat=48/\1<s.size
 ·have a:Hid (numI most (bl s)=-1):=Zrj (ZzC most s b.2 b.1);have d:((s[0].toNat:Int) == 48)=true:=by rw[b.1];rfl
  have x:=b.2;clear b;go_enter func103,ntmps103;go_wp2;go_ret;exact⟨ZBw a.symm,rfl⟩
 have q:Hid (¬(s[0].toNat=48/\1<s.size)):=b;have y:decide ((s.size:Int)<1)=false:=by simp;omega
 have f:(((s[0].toNat:Int) == 48)=true/\decide (1<(s.size:Int))=false)∨((s[0].toNat:Int) == 48)=false:=by
  by_cases d:s[0].toNat=48
  ·exact Or.inl ⟨by rw[d];rfl,by simp;have:¬1<s.size:=fun h=>b ⟨d,h⟩;omega⟩
  ·exact Or.inr (by rw[beq_eq_false_iff_ne];omega)
 clear b j;rcases f with ⟨l,z⟩|l
 all_goals
  go_enter func103,ntmps103;go_wp2
  go_loop [5,6] (fun n i=>∃k:Nat,k<=s.size/\i=Vi k/\n=Vi (val ((bl s).take k))/\val ((bl s).take k)<=most/\((bl s).take k).all ZC=true) (fun _ i=>s.size - (intOf i).toNat)
  case atStart=>exact⟨0,Yag _,rfl,by simp[val],by simp[val],by simp⟩
  case round=>
   obtain⟨k,C,rfl,rfl,r,g⟩:=hrel;have m:Hid (((bl s).take k).all ZC=true):=g;clear g;by_cases c:k<s.size
   ·cases hd:ZC s[k]
    ·have a:Hid (numI most (bl s)=-1):=Zrj (Zzs most s k c hd)
     go_wp2_with (go_at_call 174;refine(ZJC).mono ?_;rintro e u ⟨rfl,rfl⟩)
     go_ret;exact⟨ZBw a.symm,rfl⟩
    ·obtain⟨d1,d2⟩:=Zvx hd;have o:Hid (val ((bl s).take (k+1))=10*val ((bl s).take k)+(s[k].toNat - 48)):=ZDN s k c;have t:Hid (((bl s).take (k+1)).all ZC=true):=ZkI ZC s k c m.out hd;by_cases v:most<10*val ((bl s).take k)+(s[k].toNat - 48)
     ·have a:Hid (numI most (bl s)=-1):=Zrj (Zzw most s k c v)
      go_wp2_with (go_at_call 174;refine(ZJC).mono ?_;rintro e u ⟨rfl,rfl⟩)
      go_ret;exact⟨ZBw a.symm,rfl⟩
     ·go_wp2_with (go_at_call 174;refine(ZJC).mono ?_;rintro e u ⟨rfl,rfl⟩)
      go_round
      case rel=>exact⟨k+1,by omega,by go_num,by rw[o.out];go_num,by rw[o.out];omega,t.out⟩
      case measure=>simp[intOf];omega
   ·have a:Hid (numI most (bl s)=val ((bl s).take k)):=ZgX (Zzv most s k c p q.out m.out r);go_wp2;go_ret;exact⟨ZBw a.symm,rfl⟩
theorem ZNq(s:BA)(most:Nat)(w:World)(b:s.size<=6000)(a:most<=1000000000) :
  CP 103 #[.string s,Vi most] w fun e u=>e=.returned (Vi (numI most (bl s)))/\u=w:=ZNr s most w Om a
def numT(most:Nat)(l:LB):Value:=.tuple #[Vi ((ZQ most l).getD 0:Nat),.bool (ZQ most l).isSome]
theorem Zgg{most:Nat}{l:LB}(h:ZQ most l=none):numT most l=.tuple #[Vi 0,.bool false]:=by unfold numT;rw[h];rfl
theorem ZjO{most v:Nat}{l:LB}(h:ZQ most l=some v):numT most l=.tuple #[Vi v,.bool true]:=by unfold numT;rw[h];rfl
theorem Znx(s:BA)(most:Nat)(w:World)(B:s.size<=70000)(y:9<=most)(C:most<=1000000000) :
  CP 118 #[.string s,Vi most] w fun e u=>e=.returned (numT most (bl s))/\u=w:=by
 by_cases j:s.size<1
 ·have a:Hid (numT most (bl s)=_):=Zgg (Zzz most s j);have q:s.toList.isEmpty=true:=ZoT j;go_enter func118,ntmps118;go_wp2;go_ret2;exact⟨by rw[a.out];rfl,rfl⟩
 have l:1<=s.size:=by omega
 have q:s.toList.isEmpty=false:=Zrh l;by_cases b:s[0].toNat=48/\1<s.size
 ·have a:Hid (numT most (bl s)=_):=Zgg (ZzC most s b.2 b.1);have d:((s[0].toNat:Int) == 48)=true:=by rw[b.1];rfl
  have z:=b.2;clear b;go_enter func118,ntmps118;go_wp2;go_ret2;exact⟨by rw[a.out];rfl,rfl⟩
 have r:Hid (¬(s[0].toNat=48/\1<s.size)):=b
 have f:(((s[0].toNat:Int) == 48)=true/\decide (1<(s.size:Int))=false)∨((s[0].toNat:Int) == 48)=false:=by
  by_cases d:s[0].toNat=48
  ·exact Or.inl ⟨by rw[d];rfl,by simp;have:¬1<s.size:=fun h=>b ⟨d,h⟩;omega⟩
  ·exact Or.inr (by rw[beq_eq_false_iff_ne];omega)
 clear b j;rcases f with ⟨m,A⟩|m
 all_goals
  go_enter func118,ntmps118;go_wp2
  go_loop [6,23] (fun n i=>∃k:Nat,k<=s.size/\i=Vi k/\n=Vi (val ((bl s).take k))/\val ((bl s).take k)<=most/\((bl s).take k).all ZC=true) (fun _ i=>s.size - (intOf i).toNat)
  case atStart=>exact⟨0,Yag _,rfl,by simp[val],by simp[val],by simp⟩
  case round=>
   obtain⟨k,D,rfl,rfl,t,g⟩:=hrel;have o:Hid (((bl s).take k).all ZC=true):=g;clear g;by_cases c:k<s.size
   ·cases hd:ZC s[k]
    ·have a:Hid (numT most (bl s)=_):=Zgg (Zzs most s k c hd)
     go_wp2_with (go_at_call 116;refine(Zdk).mono ?_;rintro e u ⟨rfl,rfl⟩)
     go_ret2;exact⟨by rw[a.out];rfl,rfl⟩
    ·obtain⟨d1,d2⟩:=Zvx hd;have p:Hid (val ((bl s).take (k+1))=10*val ((bl s).take k)+(s[k].toNat - 48)):=ZDN s k c;have v:Hid (((bl s).take (k+1)).all ZC=true):=ZkI ZC s k c o.out hd;by_cases x:most<10*val ((bl s).take k)+(s[k].toNat - 48)
     ·have a:Hid (numT most (bl s)=_):=Zgg (Zzw most s k c x)
      go_wp2_with (go_at_call 116;refine(Zdk).mono ?_;rintro e u ⟨rfl,rfl⟩)
      all_goals first|(exfalso;omega)|(go_ret2;exact⟨by rw[a.out];rfl,rfl⟩)
     ·go_wp2_with (go_at_call 116;refine(Zdk).mono ?_;rintro e u ⟨rfl,rfl⟩)
      all_goals first|(exfalso;omega)|skip
      go_round
      case rel=>exact⟨k+1,by omega,by go_num,by rw[p.out];go_num,by rw[p.out];omega,v.out⟩
      case measure=>simp[intOf];omega
   ·have a:Hid (numT most (bl s)=_):=ZjO (Zzv most s k c l r.out o.out t);go_wp2;go_ret2;exact⟨by rw[a.out];rfl,rfl⟩
theorem Zkv(s:BA)(most:Nat){w:World}(c:s.size<=6000)(a:9<=most)(b:most<=1000000000) :
  CP 118 #[.string s,Vi most] w fun e u=>e=.returned (numT most (bl s))/\u=w:=Znx s most w Om a b
theorem Tryz.infoString:(Tryz.prog.info? 9).map (fun i=>(i.zero,i.size,i.bytes))=some (some (.string ByteArray.empty),1,16):=by kernel_rfl
theorem ZNF{c:UInt8}{l:LB}(h:c∉l):split c l=[l]:=by
 have:=Zhb c l [] h;rw[Yca]at this;rw[this];simp[split,pre]
theorem ZNB{s:BA}{f k:Nat}(b:f<=k)(a:k<s.size):((bl s).take (k+1)).drop f=((bl s).take k).drop f++[s[k]]:=by
 rw[ZiB s k a,Ygb (by rw[Ya7,Zd];omega)]
theorem ZKW{s:BA}{f k:Nat}(a:f<=k):(bl s).drop f=((bl s).take k).drop f++(bl s).drop k:=by
 conv=>lhs;rw[<-Ycn k (bl s)]
 by_cases h:k<=(bl s).length
 ·rw[Ygb (by rw[Ya7];omega)]
 ·rw[Yb8 (i:=k) Om,Yca,Yca]
theorem ZNv(s:BA)(c:UInt8)(w:World)(P:s.size<=70000) :
  CP 58 #[.string s, .int .u8 c.toNat] w fun e H => ∃ (v : Value) (bs : List BA), e = .returned v /\
    H.ownsRow w.heap.size 9 1 v bs.length (bs.map Value.string)/\Hid (bs.map bl=split c (bl s))/\BW w H:=by
 obtain⟨i0,I,z,A,B⟩:=info_parts Tryz.infoString;go_enter func58,ntmps58;go_wp2
 go_loopw [5, 6, 7] (fun v fr i wr => ∃ (k f : Nat) (bs : List BA), k <= s.size + 1 /\ i = Vi k /\ fr = Vi f /\ bs.length <= k /\ wr.ownsRow w.heap.size 9 1 v bs.length (bs.map Value.string) /\ BW w wr /\ f <= k /\
     Hid ((k<=s.size/\split c (bl s)=bs.map bl++split c ((bl s).drop f)/\c∉((bl s).take k).drop f)∨(k=s.size+1/\split c (bl s)=bs.map bl)))
   (fun _ _ i _=>s.size+1 - (intOf i).toNat)
 case atStart=>exact⟨0,0,[],Yag _,rfl,rfl,Yac _,Ybc _ _ _ _,Yaf _ _,Yac _,Or.inl ⟨Yag _,by simp,by simp⟩⟩
 case round=>
  obtain⟨k,f,bs,Q,rfl,rfl,M,a,m,o,E⟩:=hrel;have N:w.heap.size<=wr.heap.size:=m.size;by_cases O:k<=s.size
  ·have j:Hid (split c (bl s)=bs.map bl++split c ((bl s).drop f)/\c∉((bl s).take k).drop f):=by
    rcases E.out with ⟨_,L,F⟩|⟨h,_⟩
    ·exact⟨L,F⟩
    ·omega
   clear E
   have y:(k=s.size/\((k:Int) == (s.size:Int))=true)∨(((k:Int) == (s.size:Int))=false/\∃h:k<s.size,((s[k].toNat:Int) == (c.toNat:Int))=true/\s[k]=c)∨(((k:Int) == (s.size:Int))=false/\∃h:k<s.size,((s[k].toNat:Int) == (c.toNat:Int))=false/\s[k]≠c):=by
    by_cases h:k<s.size
    ·have J:((k:Int) == (s.size:Int))=false:=by rw[beq_eq_false_iff_ne];omega
     by_cases g:s[k]=c
     ·exact Or.inr (Or.inl ⟨J,h,by rw[g];simp,g⟩)
     ·exact Or.inr (Or.inr ⟨J,h,by rw[beq_eq_false_iff_ne];intro R;exact g (Ydf.1 Om),g⟩)
    ·exact Or.inl ⟨by omega,by rw[beq_iff_eq];omega⟩
   rcases y with ⟨C,D⟩|⟨D,p,K,g⟩|⟨D,p,K,g⟩
   ·have n:Hid ((k+1<=s.size/\split c (bl s)=(bs++[s.extract f k]).map bl++split c ((bl s).drop (k+1))/\c∉((bl s).take (k+1)).drop (k+1))∨(k+1=s.size+1/\split c (bl s)=(bs++[s.extract f k]).map bl)):=by
     refine Or.inr ⟨by omega,?_⟩;have F:=j.2;have hd:=ZKW (s:=s) o;rw[Yb8 (i:=k) (by rw[Zd];omega),Yca]at hd;rw[j.1,hd,ZNF F,Yaq,Ybb,List.map_nil,Zfh]
    have S:Hid (k=s.size):=C;clear C j
    go_wp2_with (at_builtin;refine wpList_append_own _ rfl (.tmp 25) (.tmp 30) 90 rfl w.heap.size 9 i0 (.string ByteArray.empty) 1 16 underlying90 I z A B rfl Dc _ _ _ rfl (a.alloc _) ⟨wr.heap.size,0,none⟩ 1 1 [.string (s.extract f k)] rfl rfl ?c1 ?c2 ?c3 ?c4 ?c5 ?_)
    case c1=>exact cell_one_new _ _ _
    case c2=>intro u r;simp at r;subst r;rfl
    case c3=>unfold maxLen;omega
    case c4=>omega
    case c5=>simp;omega
    intro v' t b d _;have x:BW w t:=(m.alloc Om _).grown d (by simp;omega) (fun q G=>(a.lt q G).1)
    have l:t.ownsRow w.heap.size 9 1 v' (bs++[s.extract f k]).length ((bs++[s.extract f k]).map Value.string):=by
     rw[Yab,Yaq];exact b
    clear a d b;go_wp2
    go_roundw
    case rel=>exact⟨k+1,k+1,_,by omega,by go_num,by go_num,by simp;omega,l,x,Yac _,n⟩
    case measure=>simp[intOf];omega
   ·have n:Hid ((k+1<=s.size/\split c (bl s)=(bs++[s.extract f k]).map bl++split c ((bl s).drop (k+1))/\c∉((bl s).take (k+1)).drop (k+1))∨(k+1=s.size+1/\split c (bl s)=(bs++[s.extract f k]).map bl)):=by
     refine Or.inl ⟨by omega,?_,?_⟩
     ·have hd:=ZKW (s:=s) o;rw[ZdW s k p,g]at hd;rw[j.1,hd,Zhb c _ _ j.2,Zhc,Yaq,Ybb,List.map_nil,Zfh];simp[pre]
     ·rw[Yb8 (by rw[Ya7];omega)];simp
    clear j g
    go_wp2_with (at_builtin;refine wpList_append_own _ rfl (.tmp 25) (.tmp 30) 90 rfl w.heap.size 9 i0 (.string ByteArray.empty) 1 16 underlying90 I z A B rfl Dc _ _ _ rfl (a.alloc _) ⟨wr.heap.size,0,none⟩ 1 1 [.string (s.extract f k)] rfl rfl ?c1 ?c2 ?c3 ?c4 ?c5 ?_)
    case c1=>exact cell_one_new _ _ _
    case c2=>intro u r;simp at r;subst r;rfl
    case c3=>unfold maxLen;omega
    case c4=>omega
    case c5=>simp;omega
    intro v' t b d _;have x:BW w t:=(m.alloc Om _).grown d (by simp;omega) (fun q G=>(a.lt q G).1)
    have l:t.ownsRow w.heap.size 9 1 v' (bs++[s.extract f k]).length ((bs++[s.extract f k]).map Value.string):=by
     rw[Yab,Yaq];exact b
    clear a d b;go_wp2
    go_roundw
    case rel=>exact⟨k+1,k+1,_,by omega,by go_num,by go_num,by simp;omega,l,x,Yac _,n⟩
    case measure=>simp[intOf];omega
   ·have n:Hid ((k+1<=s.size/\split c (bl s)=bs.map bl++split c ((bl s).drop f)/\c∉((bl s).take (k+1)).drop f)∨(k+1=s.size+1/\split c (bl s)=bs.map bl)):=by
     refine Or.inl ⟨by omega,j.1,?_⟩;rw[ZNB o p,Yar,not_or];exact⟨j.2,by simp;exact fun h=>g h.symm⟩
    clear j g;go_wp2
    go_roundw
    case rel=>exact⟨k+1,f,bs,by omega,by go_num,rfl,by omega,a,m,by omega,n⟩
    case measure=>simp[intOf];omega
  ·have n:Hid (bs.map bl=split c (bl s)):=hid (by
    rcases E.out with ⟨h,_⟩|⟨_,h⟩
    ·omega
    ·exact h.symm)
   go_wp2;go_ret;exact⟨_,bs,rfl,a,n,m⟩
theorem ZNu(s:BA)(c:UInt8)(w:World)(a:s.size<=6000) :
  CP 58 #[.string s, .int .u8 c.toNat] w fun e u => ∃ (v : Value) (bs : List BA), e = .returned v /\
    u.ownsRow w.heap.size 9 1 v bs.length (bs.map Value.string)/\Hid (bs.map bl=split c (bl s))/\BW w u:=ZNv s c w Om
theorem ZJN{s:BA}{c:UInt8}{p:Nat}{ci:Int}{w:World}(a:ci=c.toNat)(b:s.size<=6000)(h:LS.seek c (bl s)=some p) :
  CP 102 #[.string s,.int .u8 ci] w fun e u=>e=.returned (Vi p)/\u=w:=by
 subst a;have:=ZLh s c w b
 rwa [ZLg h]at this
theorem ZJ0{s:BA}{c:UInt8}{ci:Int}{w:World}(a:ci=c.toNat)(b:s.size<=6000)(h:LS.seek c (bl s)=none) :
  CP 102 #[.string s,.int .u8 ci] w fun e u=>e=.returned (Vi (-1))/\u=w:=by
 subst a;have:=ZLh s c w b
 rwa [ZLf h]at this
theorem ZKs{s:BA}{b:Bool}{w:World}(a:s.size<=6000)(h:Z3 (bl s)=b) :
  CP 180 #[.string s] w fun e u=>e=.returned (.bool b)/\u=w:=by
 have:=ZNk s w a;rwa [h]at this
theorem ZKh(s:BA)(c:UInt8){ci:Int}{w:World}(f:ci=c.toNat)(j:s.size<=6000) :
  CP 58 #[.string s, .int .u8 ci] w fun e u => ∃ (g n cp : Nat) (bs : List BA), e = .returned (.slice (some ⟨g, 0, none⟩) n cp) /\
    n=bs.length/\w.heap.size<=g/\g<u.heap.size/\Hid (∀i (h:i<bs.length),u.cell? ⟨g,i,none⟩=some (.string bs[i]))/\Hid (bs.map bl=split c (bl s))/\BW w u:=by
 subst f;refine(ZNu s c w j).mono ?_;rintro e u ⟨v,bs,rfl,a,b,k⟩
 have d:0<bs.length:=by
  have:bs.length=(split c (bl s)).length:=by rw[<-b.out,Yak]
  rw[this];exact Ycj.2 (Zix c (bl s))
 obtain⟨g,cp,rfl⟩:=ZF a d;refine⟨g,bs.length,cp,bs,rfl,rfl,(a.lt g rfl).1,Z1 a,fun i l=>Zi a i _ (by simp[l]),b,k⟩
theorem ZJ6{bs:List BA}{ps:List (LB)}(h:bs.map bl=ps)(i:Nat)(a:i<bs.length):bl bs[i]=ps.getD i []:=by
 subst h;simp[a]
theorem Zmr(most:Nat)(l:LB) : -1<=numI most l/\numI most l<=most:=by
 cases h:ZQ most l with
 | none=>rw[Zrj h];omega
 | some v=>rw[ZgX h];have:=Zgh h;omega
theorem ZJ2{s:BA}(most:Nat){mi:Int}{w:World}(a:mi=most)(b:s.size<=6000)(c:most<=1000000000) :
  CP 103 #[.string s,Vi mi] w fun e u=>e=.returned (Vi (numI most (bl s)))/\u=w:=by
 subst a;exact ZNq s most w b c
end Go.Proofs.YtkodhpilkaihjaaGreatDoor
namespace Go.Proofs.YtkodhpilkaihjaaGreatDoor.LS
open Go Go.RowKit
structure Tok where
 jj:Nat
 txt:LB
 at_:Nat
def run(p:UInt8->Bool):LB->Nat
 | []=>0
 | b::l=>if p b then run p l+1 else 0
def Zdq:LB:=[40,41,123,125,91,93,44,61,43,45,42,47]
def lexC(l:LB)(j:Nat)(c:UInt8)(r:LB):Tok×Nat:=
 if ZC c then (if (ZQ 1000000000 ((c::r).take (run ZC (c::r)))).isSome then ⟨1,(c::r).take (run ZC (c::r)),j⟩else ⟨5,[],j⟩,j+run ZC (c::r))
 else if Zp c then (if 8<run Zp (c::r)then ⟨5,[],j⟩else ⟨2,(c::r).take (run Zp (c::r)),j⟩,j+run Zp (c::r))
 else if c == 34 then match seek 34 r with
  | none=>(⟨5,[],j⟩,l.length)
  | some p=>(if Z3 (r.take p)then ⟨3,r.take p,j⟩else ⟨5,[],j⟩,j+p+2)
 else if c == 33 && r.head? == some 61 then (⟨4,[33,61],j⟩,j+2)
 else if (seek c Zdq).isSome then (⟨4,[c],j⟩,j+1)else (⟨5,[],j⟩,j+1)
def lexJ(l:LB)(j:Nat):Tok×Nat:=match l.drop j with
 | []=>(⟨0,[],j⟩,j)
 | c::r=>lexC l j c r
def Zk(l:LB)(i:Nat):Tok×Nat:=lexJ l (i+run (· == 32) (l.drop i))
theorem Zg6(p:UInt8->Bool)(l:LB):run p l<=l.length:=by
 induction l with
 | nil=>exact Yac _
 | cons b l ih=>unfold run;split <;> simp;omega
theorem Zx9(s:BA)(j:Nat)(h:j<s.size)(a:s[j]=32):Zk (bl s) j=Zk (bl s) (j+1):=by
 unfold Zk;rw[ZdW s j h];have:run (· == 32) (s[j]::(bl s).drop (j+1))=run (· == 32) ((bl s).drop (j+1))+1:=by rw[a];rfl
 rw[this,show j+(run (· == 32) ((bl s).drop (j+1))+1)=j+1+run (· == 32) ((bl s).drop (j+1)) by omega]
theorem ZjD(s:BA)(j:Nat)(h:j<s.size)(a:s[j]≠32):Zk (bl s) j=lexC (bl s) j s[j] ((bl s).drop (j+1)):=by
 unfold Zk;rw[ZdW s j h];have:run (· == 32) (s[j]::(bl s).drop (j+1))=0:=by simp[run,a]
 rw[this,Nat.add_zero];unfold lexJ;rw[ZdW s j h]
theorem ZqF(s:BA)(j:Nat)(h:¬j<s.size)(a:j<=s.size):Zk (bl s) j=(⟨0,[],j⟩,j):=by
 have hd:(bl s).drop j=[]:=Yb8 (by rw[Zd];omega);unfold Zk;rw[hd];show lexJ (bl s) j=_;unfold lexJ;rw[hd]
theorem ZKu(p:UInt8->Bool)(s:BA)(j k:Nat)(e:j<=k)(f:k<=s.size)(a:∀i (h:i<s.size),j<=i->i<k->p s[i]=true)(b:∀h:k<s.size,p s[k]=false):j+run p ((bl s).drop j)=k:=by
 induction hd:k - j generalizing j with
 | zero=>
  obtain rfl:j=k:=by omega
  by_cases h:j<s.size
  ·rw[ZdW s j h];simp[run,b h]
  ·rw[Yb8 (by rw[Zd];omega)];rfl
 | succ n ih=>
  have h:j<s.size:=by omega
  have:=ih (j+1) Om (fun i c g d=>a i c Om d) Om;rw[ZdW s j h];simp only[run,a j h (Yac _) Om,if_true];omega
end Go.Proofs.YtkodhpilkaihjaaGreatDoor.LS
namespace Go.Proofs.YtkodhpilkaihjaaGreatDoor
open Go.RowKit LS Go.Proofs.Tryz
theorem ZNU(s:BA)(j:Nat){w:World}(p:s.size<=6000)(o:j<=s.size) :
  CP 262 #[.string s,Vi j,.bool true] w fun e u=>e=.returned (Vi ((j+run ZC ((bl s).drop j):Nat):Int))/\u=w:=by
 go_enter func262,ntmps262;go_wp2
 go_loop [1] (fun i=>∃k:Nat,k<=s.size/\j<=k/\i=Vi k/\Hid (∀q (h:q<s.size),j<=q->q<k->ZC s[q]=true)) (fun i=>s.size - (intOf i).toNat)
 case atStart=>exact⟨j,o,Yac _,rfl,fun q h f g=>by omega⟩
 case round=>
  obtain⟨k,l,b,rfl,c⟩:=hrel;by_cases m:k<s.size
  ·cases n:ZC s[k]
   ·have a:Hid (j+run ZC ((bl s).drop j)=k):=ZKu _ s j k b l c.out (fun _=>n)
    go_wp2_with (first|(go_at_call 179;refine(ZJE).mono ?_;rintro e u ⟨rfl,rfl⟩)|(go_at_call 174;refine(ZJC).mono ?_;rintro e u ⟨rfl,rfl⟩))
    go_ret;exact⟨ZBw (by have:=a.out;omega),rfl⟩
   ·have a : Hid (∀ q (h : q < s.size), j <= q -> q < k + 1 -> ZC s[q] = true) := fun q h f g => by
      rcases Ygf.1 g with d|d
      · exact c.out q h f d
      · subst d;exact n
    go_wp2_with (first|(go_at_call 179;refine(ZJE).mono ?_;rintro e u ⟨rfl,rfl⟩)|(go_at_call 174;refine(ZJC).mono ?_;rintro e u ⟨rfl,rfl⟩))
    go_round
    case rel=>exact⟨k+1,by omega,by omega,by go_num,a⟩
    case measure=>simp[intOf];omega
  ·have a:Hid (j+run ZC ((bl s).drop j)=k):=ZKu _ s j k b l c.out (fun h=>absurd h m);go_wp2;go_ret;exact⟨ZBw (by have:=a.out;omega),rfl⟩
theorem ZLl(s:BA)(j:Nat){w:World}(p:s.size<=6000)(o:j<=s.size) :
  CP 262 #[.string s,Vi j,.bool false] w fun e u=>e=.returned (Vi ((j+run Zp ((bl s).drop j):Nat):Int))/\u=w:=by
 go_enter func262,ntmps262;go_wp2
 go_loop [1] (fun i=>∃k:Nat,k<=s.size/\j<=k/\i=Vi k/\Hid (∀q (h:q<s.size),j<=q->q<k->Zp s[q]=true)) (fun i=>s.size - (intOf i).toNat)
 case atStart=>exact⟨j,o,Yac _,rfl,fun q h f g=>by omega⟩
 case round=>
  obtain⟨k,l,b,rfl,c⟩:=hrel;by_cases m:k<s.size
  ·cases n:Zp s[k]
   ·have a:Hid (j+run Zp ((bl s).drop j)=k):=ZKu _ s j k b l c.out (fun _=>n)
    go_wp2_with (first|(go_at_call 179;refine(ZJE).mono ?_;rintro e u ⟨rfl,rfl⟩)|(go_at_call 174;refine(ZJC).mono ?_;rintro e u ⟨rfl,rfl⟩))
    go_ret;exact⟨ZBw (by have:=a.out;omega),rfl⟩
   ·have a : Hid (∀ q (h : q < s.size), j <= q -> q < k + 1 -> Zp s[q] = true) := fun q h f g => by
      rcases Ygf.1 g with d|d
      · exact c.out q h f d
      · subst d;exact n
    go_wp2_with (first|(go_at_call 179;refine(ZJE).mono ?_;rintro e u ⟨rfl,rfl⟩)|(go_at_call 174;refine(ZJC).mono ?_;rintro e u ⟨rfl,rfl⟩))
    go_round
    case rel=>exact⟨k+1,by omega,by omega,by go_num,a⟩
    case measure=>simp[intOf];omega
  ·have a:Hid (j+run Zp ((bl s).drop j)=k):=ZKu _ s j k b l c.out (fun h=>absurd h m);go_wp2;go_ret;exact⟨ZBw (by have:=a.out;omega),rfl⟩
def ZKN(e:Ending)(ts:BA)(r:Tok×Nat):Prop:=e=.returned (.tuple #[.agg #[Vi (r.1.jj:Nat),.string ts,Vi (r.1.at_:Nat)],Vi (r.2:Nat)])/\bl ts=r.1.txt
theorem ZJP{ts:BA}{k a p:Nat}{r:Tok×Nat}{x y z:Int}(h:r=(⟨k,bl ts,a⟩,p))(b:x=(k:Nat))(c:y=(a:Nat))(d:z=(p:Nat)):ZKN (.returned (.tuple #[.agg #[Vi x,.string ts,Vi y],Vi z])) ts r:=by
 subst h;subst b;subst c;subst d;exact⟨rfl,rfl⟩
theorem ZMU{s:BA}{i:Nat}{w:World}(L:s.size<=6000)(T:i<=s.size) :
  CP 227 #[.string s,Vi i] w fun e u=>(∃ts:BA,ZKN e ts (Zk (bl s) i))/\BW w u:=by
 go_enter func227,ntmps227;go_wp2
 go_loop [1] (fun v=>∃j:Nat,j<=s.size/\v=Vi j/\Hid (Zk (bl s) i=Zk (bl s) j)) (fun v=>s.size - (intOf v).toNat)
 case atStart=>exact⟨i,T,rfl,rfl⟩
 case round=>
  obtain⟨j,P,rfl,H⟩:=hrel;by_cases r:j<s.size
  ·by_cases t:s[j]=32
   ·have b:Hid (Zk (bl s) i=Zk (bl s) (j+1)):=hid (by rw[H.out];exact Zx9 s j r t);have U:((s[j].toNat:Int) == 32)=true:=by rw[t];rfl
    clear t;go_wp2
    go_round
    case rel=>exact⟨j+1,by omega,by go_num,b⟩
    case measure=>simp[intOf];omega
   ·have b:Hid (Zk (bl s) i=lexC (bl s) j s[j] ((bl s).drop (j+1))):=hid (by rw[H.out];exact ZjD s j r t)
    have U:((s[j].toNat:Int) == 32)=false:=by
     rw[beq_eq_false_iff_ne];intro h;exact t (Ydf.1 (by show s[j].toNat=32;omega))
    have Q:((j:Int) == (s.size:Int))=false:=by rw[beq_eq_false_iff_ne];omega
    clear t H;have g:(bl s).drop j=s[j]::(bl s).drop (j+1):=ZdW s j r;have W:j+1<=s.size:=r;have X:j<=s.size:=P;cases hd:ZC s[j]
    ·cases I:Zp s[j]
     ·by_cases z:s[j]=34
      ·have M:((s[j].toNat:Int) == 34)=true:=by rw[z];rfl
       have e2:bl (s.extract (j+1) s.size)=(bl s).drop (j+1):=by rw[Zfh,Ya5 (by rw[Zd];exact Yac _)]
       have A:(s.extract (j+1) s.size).size<=6000:=by rw[Yga];omega
       cases f:LS.seek 34 (bl (s.extract (j+1) s.size))with
       | none=>
        have d:Zk (bl s) i=(⟨5,bl ⟨#[]⟩,j⟩,s.size):=by
         rw[b.out];unfold lexC;rw[hd,I,z,<-e2,f,Zd];rfl
        have o:Hid _:=f;clear b g z f e2;have b:Hid _:=d;clear d
        go_wp2_with (first|(go_at_call 174;refine(ZJC).mono ?_;rintro e u ⟨rfl,rfl⟩)|(go_at_call 179;refine(ZJE).mono ?_;rintro e u ⟨rfl,rfl⟩)|fail)
        refine(ZJ0 (c:=34) rfl A o.out).mono ?_;rintro e u ⟨rfl,rfl⟩;go_wp2;exact bodyPost_ret (v:=.tuple #[.agg #[Vi 5,.string ⟨#[]⟩,Vi j],Vi ((s.size:Nat))]) (by simp[results,results227,go_sem]) rfl ⟨⟨⟨#[]⟩,ZJP (k:=5) (a:=j) (p:=s.size) b.out rfl rfl Om⟩,belB⟩
       | some p=>
        have V:p<(s.extract (j+1) s.size).size:=by rw[<-Zd];exact ZBY f
        rw[Yga]at V;have e3:bl (s.extract (j+1) (j+1+p))=((bl s).drop (j+1)).take p:=by rw[Zfh,Yc8];congr 1;omega
        have E:(s.extract (j+1) (j+1+p)).size<=6000:=by rw[Yga];omega
        have Y:j+1+p<=s.size:=by omega
        have d:Zk (bl s) i=(if Z3 (bl (s.extract (j+1) (j+1+p)))then ⟨3,bl (s.extract (j+1) (j+1+p)),j⟩else ⟨5,[],j⟩,j+p+2):=by
         rw[b.out];unfold lexC;rw[hd,I,z,<-e2,f,e3,e2];rfl
        have o:Hid _:=f;clear b g z f e2 e3;cases D:Z3 (bl (s.extract (j+1) (j+1+p)))
        ·have b:Hid (Zk (bl s) i=(⟨5,bl ⟨#[]⟩,j⟩,j+p+2)):=hid (by rw[d,D];rfl);have N:Hid _:=D;clear d D
         go_wp2_with (first|(go_at_call 174;refine(ZJC).mono ?_;rintro e u ⟨rfl,rfl⟩)|(go_at_call 179;refine(ZJE).mono ?_;rintro e u ⟨rfl,rfl⟩)|fail)
         refine(ZJN (c:=34) rfl A o.out).mono ?_;rintro e u ⟨rfl,rfl⟩
         go_wp2_with fail
         refine(ZKs E N.out).mono ?_;rintro e u ⟨rfl,rfl⟩;go_wp2;exact bodyPost_ret (v:=.tuple #[.agg #[Vi 5,.string ⟨#[]⟩,Vi j],Vi ((j:Int)+p+2)]) (by simp[results,results227,go_sem]) rfl ⟨⟨⟨#[]⟩,ZJP (k:=5) (a:=j) (p:=j+p+2) b.out rfl rfl Om⟩,belB⟩
        ·have b:Hid (Zk (bl s) i=(⟨3,bl (s.extract (j+1) (j+1+p)),j⟩,j+p+2)):=hid (by rw[d,D];rfl);have N:Hid _:=D;clear d D
         go_wp2_with (first|(go_at_call 174;refine(ZJC).mono ?_;rintro e u ⟨rfl,rfl⟩)|(go_at_call 179;refine(ZJE).mono ?_;rintro e u ⟨rfl,rfl⟩)|fail)
         refine(ZJN (c:=34) rfl A o.out).mono ?_;rintro e u ⟨rfl,rfl⟩
         go_wp2_with fail
         refine(ZKs E N.out).mono ?_;rintro e u ⟨rfl,rfl⟩;go_wp2;exact bodyPost_ret (v:=.tuple #[.agg #[Vi 3,.string (s.extract (j+1) (j+1+p)),Vi j],Vi ((j:Int)+p+2)]) (by simp[results,results227,go_sem]) rfl ⟨⟨(s.extract (j+1) (j+1+p)),ZJP (k:=3) (a:=j) (p:=j+p+2) b.out rfl rfl Om⟩,belB⟩
      ·have M:((s[j].toNat:Int) == 34)=false:=by
        rw[beq_eq_false_iff_ne];intro h;exact z (Ydf.1 (by show s[j].toNat=34;omega))
       have K:(s[j] == 34)=false:=by rw[beq_eq_false_iff_ne];exact z
       have d:Zk (bl s) i=if s[j] == 33 && ((bl s).drop (j+1)).head? == some 61 then (⟨4,[33,61],j⟩,j+2)else if (LS.seek s[j] Zdq).isSome then (⟨4,[s[j]],j⟩,j+1)else (⟨5,[],j⟩,j+1):=by
        rw[b.out];unfold lexC;rw[hd,I,K];rfl
       clear b
       have y:(∃h:j+1<s.size,((s[j].toNat:Int) == 33)=true/\((s[j+1].toNat:Int) == 61)=true/\(s[j] == 33 && ((bl s).drop (j+1)).head? == some 61)=true)∨
         ((((s[j].toNat:Int) == 33)=false∨(((s[j].toNat:Int) == 33)=true/\¬j+1<s.size)∨(∃h:j+1<s.size,((s[j].toNat:Int) == 33)=true/\((s[j+1].toNat:Int) == 61)=false))/\(s[j] == 33 && ((bl s).drop (j+1)).head? == some 61)=false):=by
        by_cases B:s[j]=33
        ·have b33:((s[j].toNat:Int) == 33)=true:=by rw[B];rfl
         by_cases l:j+1<s.size
         ·rw[ZdW s (j+1) l];by_cases C:s[j+1]=61
          ·exact Or.inl ⟨l,b33,by rw[C];rfl,by rw[B,C];rfl⟩
          ·refine Or.inr ⟨Or.inr (Or.inr ⟨l,b33,?_⟩),by simp[C]⟩;rw[beq_eq_false_iff_ne];intro h;exact C (Ydf.1 (by show s[j+1].toNat=61;omega))
         ·refine Or.inr ⟨Or.inr (Or.inl ⟨b33,l⟩),?_⟩;rw[Yb8 (by rw[Zd];omega)];simp
        ·refine Or.inr ⟨Or.inl ?_,by simp[B]⟩;rw[beq_eq_false_iff_ne];intro h;exact B (Ydf.1 (by show s[j].toNat=33;omega))
       clear g z K;rcases y with ⟨l,b33,b61,x⟩|⟨y,x⟩
       ·have b:Hid (Zk (bl s) i=(⟨4,bl ⟨#[33,61]⟩,j⟩,j+2)):=hid (by rw[d,if_pos x];rfl);clear d x
        go_wp2_with (first|(go_at_call 174;refine(ZJC).mono ?_;rintro e u ⟨rfl,rfl⟩)|(go_at_call 179;refine(ZJE).mono ?_;rintro e u ⟨rfl,rfl⟩)|fail)
        exact bodyPost_ret (v:=.tuple #[.agg #[Vi 4,.string ⟨#[33,61]⟩,Vi j],Vi ((j:Int)+2)]) (by simp[results,results227,go_sem]) rfl ⟨⟨⟨#[33,61]⟩,ZJP (k:=4) (a:=j) (p:=j+2) b.out rfl rfl Om⟩,belB⟩
       ·rw[x]at d
        have e1:bl (s.extract j (j+1))=[s[j]]:=by
         rw[Zfh,Yc8,ZdW s j r,Nat.add_sub_cancel_left];rfl
        have F:(⟨#[40,41,123,125,91,93,44,61,43,45,42,47]⟩:BA).size<=6000:=by decide
        have ebs:bl ⟨#[40,41,123,125,91,93,44,61,43,45,42,47]⟩=Zdq:=rfl;cases f:LS.seek s[j] Zdq with
        | none=>
         have b:Hid (Zk (bl s) i=(⟨5,bl ⟨#[]⟩,j⟩,j+1)):=hid (by rw[d,f];rfl);have o:Hid (LS.seek s[j] (bl ⟨#[40,41,123,125,91,93,44,61,43,45,42,47]⟩)=none):=f;clear d x f e1 ebs;rcases y with b33|⟨b33,l⟩|⟨l,b33,b61⟩
         all_goals
          go_wp2_with (first|(go_at_call 174;refine(ZJC).mono ?_;rintro e u ⟨rfl,rfl⟩)|(go_at_call 179;refine(ZJE).mono ?_;rintro e u ⟨rfl,rfl⟩)|fail)
          refine(ZJ0 (c:=s[j]) rfl F o.out).mono ?_;rintro e u ⟨rfl,rfl⟩;go_wp2;exact bodyPost_ret (v:=.tuple #[.agg #[Vi 5,.string ⟨#[]⟩,Vi j],Vi ((j:Int)+1)]) (by simp[results,results227,go_sem]) rfl ⟨⟨⟨#[]⟩,ZJP (k:=5) (a:=j) (p:=j+1) b.out rfl rfl Om⟩,belB⟩
        | some p=>
         have b:Hid (Zk (bl s) i=(⟨4,bl (s.extract j (j+1)),j⟩,j+1)):=hid (by rw[d,f,e1];rfl);have o:Hid (LS.seek s[j] (bl ⟨#[40,41,123,125,91,93,44,61,43,45,42,47]⟩)=some p):=f;clear d x f e1 ebs;rcases y with b33|⟨b33,l⟩|⟨l,b33,b61⟩
         all_goals
          go_wp2_with (first|(go_at_call 174;refine(ZJC).mono ?_;rintro e u ⟨rfl,rfl⟩)|(go_at_call 179;refine(ZJE).mono ?_;rintro e u ⟨rfl,rfl⟩)|fail)
          refine(ZJN (c:=s[j]) rfl F o.out).mono ?_;rintro e u ⟨rfl,rfl⟩;go_wp2;exact bodyPost_ret (v:=.tuple #[.agg #[Vi 4,.string (s.extract j (j+1)),Vi j],Vi ((j:Int)+1)]) (by simp[results,results227,go_sem]) rfl ⟨⟨(s.extract j (j+1)),ZJP (k:=4) (a:=j) (p:=j+1) b.out rfl rfl Om⟩,belB⟩
     ·have q:run Zp ((bl s).drop j)<=((bl s).drop j).length:=Zg6 _ _;rw[Ybv,Zd]at q
      have d:Zk (bl s) i=(if 8<run Zp ((bl s).drop j)then ⟨5,[],j⟩else ⟨2,((bl s).drop j).take (run Zp ((bl s).drop j)),j⟩,j+run Zp ((bl s).drop j)):=by
       rw[b.out];unfold lexC;rw[hd,I,<-g];rfl
      obtain⟨n,l⟩:∃n,run Zp ((bl s).drop j)=n:=⟨_,rfl⟩
      rw[l]at d q;have G:Hid _:=d;have J:Hid (run Zp ((bl s).drop j)=n):=l;clear d l b g;have O:j+n<=s.size:=by omega
      have e3:bl (s.extract j (j+n))=((bl s).drop j).take n:=by rw[Zfh,Yc8];congr 1;omega
      have E3:Hid _:=e3;clear e3;by_cases R:8<n
      ·have b:Hid (Zk (bl s) i=(⟨5,bl ⟨#[]⟩,j⟩,j+n)):=hid (by rw[G.out,if_pos R];rfl)
       go_wp2_with (first|(go_at_call 174;refine(ZJC).mono ?_;rintro e u ⟨rfl,rfl⟩)|(go_at_call 179;refine(ZJE).mono ?_;rintro e u ⟨rfl,rfl⟩)|fail)
       refine(ZLl s j L Om).mono ?_;rintro e u ⟨rfl,rfl⟩;rw[J.out];go_wp2;exact bodyPost_ret (v:=.tuple #[.agg #[Vi 5,.string ⟨#[]⟩,Vi j],Vi ((j:Int)+n)]) (by simp[results,results227,go_sem]) rfl ⟨⟨⟨#[]⟩,ZJP (k:=5) (a:=j) (p:=j+n) b.out rfl rfl Om⟩,belB⟩
      ·have b:Hid (Zk (bl s) i=(⟨2,bl (s.extract j (j+n)),j⟩,j+n)):=hid (by rw[G.out,if_neg R,E3.out])
       go_wp2_with (first|(go_at_call 174;refine(ZJC).mono ?_;rintro e u ⟨rfl,rfl⟩)|(go_at_call 179;refine(ZJE).mono ?_;rintro e u ⟨rfl,rfl⟩)|fail)
       refine(ZLl s j L Om).mono ?_;rintro e u ⟨rfl,rfl⟩;rw[J.out];go_wp2;exact bodyPost_ret (v:=.tuple #[.agg #[Vi 2,.string (s.extract j (j+n)),Vi j],Vi ((j:Int)+n)]) (by simp[results,results227,go_sem]) rfl ⟨⟨(s.extract j (j+n)),ZJP (k:=2) (a:=j) (p:=j+n) b.out rfl rfl Om⟩,belB⟩
    ·have q:run ZC ((bl s).drop j)<=((bl s).drop j).length:=Zg6 _ _;rw[Ybv,Zd]at q
     have d:Zk (bl s) i=(if (ZQ 1000000000 (((bl s).drop j).take (run ZC ((bl s).drop j)))).isSome then ⟨1,((bl s).drop j).take (run ZC ((bl s).drop j)),j⟩else ⟨5,[],j⟩,j+run ZC ((bl s).drop j)):=by
      rw[b.out];unfold lexC;rw[hd,<-g];rfl
     obtain⟨n,l⟩:∃n,run ZC ((bl s).drop j)=n:=⟨_,rfl⟩
     rw[l]at d q;have J:Hid (run ZC ((bl s).drop j)=n):=l;clear l b g;have O:j+n<=s.size:=by omega
     have e3:bl (s.extract j (j+n))=((bl s).drop j).take n:=by rw[Zfh,Yc8];congr 1;omega
     have A:(s.extract j (j+n)).size<=6000:=by rw[Yga];omega
     rw[<-e3]at d;have G:Hid _:=d;clear e3 d;have S:=Zmr 1000000000 (bl (s.extract j (j+n)))
     go_wp2_with (first|(go_at_call 174;refine(ZJC).mono ?_;rintro e u ⟨rfl,rfl⟩)|(go_at_call 179;refine(ZJE).mono ?_;rintro e u ⟨rfl,rfl⟩)|fail)
     refine(ZNU s j L Om).mono ?_;rintro e u ⟨rfl,rfl⟩;rw[J.out]
     go_wp2_with fail
     refine(ZJ2 1000000000 rfl A Om).mono ?_;rintro e u ⟨rfl,rfl⟩;cases m:ZQ 1000000000 (bl (s.extract j (j+n)))with
     | none=>
      have b:Hid (Zk (bl s) i=(⟨5,bl ⟨#[]⟩,j⟩,j+n)):=hid (by rw[G.out,m];rfl);rw[Zrj m];clear m S;go_wp2;exact bodyPost_ret (v:=.tuple #[.agg #[Vi 5,.string ⟨#[]⟩,Vi j],Vi ((j:Int)+n)]) (by simp[results,results227,go_sem]) rfl ⟨⟨⟨#[]⟩,ZJP (k:=5) (a:=j) (p:=j+n) b.out rfl rfl Om⟩,belB⟩
     | some v=>
      have b:Hid (Zk (bl s) i=(⟨1,bl (s.extract j (j+n)),j⟩,j+n)):=hid (by rw[G.out,m];rfl);rw[ZgX m];clear m S;go_wp2;exact bodyPost_ret (v:=.tuple #[.agg #[Vi 1,.string (s.extract j (j+n)),Vi j],Vi ((j:Int)+n)]) (by simp[results,results227,go_sem]) rfl ⟨⟨(s.extract j (j+n)),ZJP (k:=1) (a:=j) (p:=j+n) b.out rfl rfl Om⟩,belB⟩
  ·have b:Hid (Zk (bl s) i=(⟨0,[],j⟩,j)):=hid (by rw[H.out];exact ZqF s j r P);have Q:((j:Int) == (s.size:Int))=true:=by rw[beq_iff_eq];omega
   go_wp2;exact bodyPost_ret (v:=.tuple #[.agg #[Vi 0,.string ⟨#[]⟩,Vi j],Vi j]) (by simp[results,results227,go_sem]) rfl ⟨⟨⟨#[]⟩,ZJP (k:=0) (a:=j) (p:=j) b.out rfl rfl rfl⟩,belB⟩
end Go.Proofs.YtkodhpilkaihjaaGreatDoor
