/- Parts. -/
import Derived.Test.YtmncdbepjhmkgaaGreatDoorProg
import Derived.Lib.Strings
import Derived.WalkSpells
import Derived.WalkLawsBesides
import Derived.Stop.Asserts
import Derived.RowKitTokens
set_option linter.all false
set_option maxRecDepth 100000
set_option maxHeartbeats 16000000
namespace Go.Proofs.YtmncdbepjhmkgaaGreatDoor.LS
open Go Go.RowKit
abbrev Ya3:=@List.eq_nil_of_length_eq_zero
abbrev Ya4:=@List.take_length
abbrev Ya5:=@List.take_of_length_le
abbrev Ya7:=@List.length_take
abbrev Yab:=@List.length_append
abbrev Yac:=@Nat.le_refl
abbrev Yae:=@Array.getElem?_eq_some_iff
abbrev Yaf:=@Go.RowKit.Below.refl
abbrev Yag:=@Nat.zero_le
abbrev Yah:=@Nat.le_trans
abbrev Yai:=@Go.World.block_lt_of_cell?
abbrev Yaj:=@List.length_cons
abbrev Yak:=@List.length_map
abbrev Yam:=@List.mem_cons_of_mem
abbrev Yan:=@List.append_assoc
abbrev Yaq:=@List.map_append
abbrev Yas:=@Bool.and_eq_true
abbrev Yau:=@List.mem_cons
abbrev Yav:=@Nat.lt_or_ge
abbrev Yaw:=@Nat.lt_of_lt_of_le
abbrev Yax:=@Option.some.inj
abbrev Yay:=@List.mem_cons_self
abbrev Yaz:=@ByteArray.size_append
abbrev Yb1:=@List.map_map
abbrev Yb4:=@List.length_tail
abbrev Yb8:=@List.drop_of_length_le
abbrev Ybb:=@List.map_cons
abbrev Ybc:=@Go.World.ownsRow_nil
abbrev Ybd:=@Nat.lt_succ_self
abbrev Ybe:=@List.mem_map
abbrev Ybf:=@Option.map_some
abbrev Ybh:=@Bool.eq_iff_iff
abbrev Ybk:=@Option.map_eq_some_iff
abbrev Ybm:=@Go.World.cell?_alloc_lt
abbrev Ybn:=@Array.getElem?_modify
abbrev Ybq:=@List.length_nil
abbrev Ybu:=@List.all_eq_true
abbrev Ybv:=@List.length_drop
abbrev Yc8:=@List.drop_take
abbrev Yca:=@List.append_nil
abbrev Ycc:=@Go.World.cell?_of_block
abbrev Yce:=@Bool.eq_false_iff
abbrev Ycj:=@List.length_pos_iff
abbrev Ycl:=@Go.Exit.noGoto_ret
abbrev Ycn:=@List.take_append_drop
abbrev Yct:=@Bool.or_eq_true
abbrev Ycw:=@Option.isSome_iff_exists
abbrev Ycy:=@List.getElem?_cons_zero
abbrev Yd0:=@Int.le_refl
abbrev Yd1:=@List.head?_eq_getElem?
abbrev Yd3:=@Bool.and_true
abbrev Ydc:=@Go.World.frozen?_alloc_old
abbrev Yde:=@Bool.false_eq_true
abbrev Ydf:=@UInt8.toNat_inj
abbrev Ydi:=@Bool.and_false
abbrev Ydk:=@List.contains_iff_mem
abbrev Ydl:=@List.isEmpty_iff
abbrev Yf6:=@Go.World.ownsRow.kept
abbrev Yf8:=@Go.World.ownsRow.alloc
abbrev Yf9:=@Go.World.cell?_setCell_same
abbrev Yfe:=@Go.Oper.upon_value
abbrev Yfh:=@Go.World.var?_cell
abbrev Yfi:=@Array.getElem?_eq_none
abbrev Yga:=@ByteArray.size_extract
abbrev Ygb:=@List.drop_append_of_le_length
abbrev Ygc:=@List.length_eq_zero_iff
abbrev Ygf:=@Nat.lt_succ_iff_lt_or_eq
abbrev Ygj:=@Go.World.grownBy_alloc
abbrev Ygn:=@List.isEmpty_eq_false_iff
abbrev Ygt:=@Nat.succ_pos
abbrev LB:=List UInt8
abbrev BA:=ByteArray
abbrev Vi(n:Int):Value:=.int .i64 n
abbrev Vp(b:Nat):Value:=.pointer (some ⟨b,0,none⟩)
abbrev S0:Value:=.slice none 0 0
abbrev BW(a b:World):Prop:=Below a.heap.size a b
abbrev CP:=@Calls Tryz.prog
theorem Dc{p:Prop}(h:p:=by decide):p:=h
theorem Om{p:Prop}(h:p:=by omega):p:=h
theorem Kr{p:Prop}(h:p:=by kernel_rfl):p:=h
theorem hid{p:Prop}(h:p):Hid p:=h
def bl(s:BA):LB:=s.data.toList
theorem Zbt(s:BA):s.toList=bl s:=Lib.toList_data s
theorem Zd(s:BA):(bl s).length=s.size:=by simp[bl]
theorem ZoT{s:BA}(h:s.size<1):s.toList.isEmpty=true:=by
 rw[Zbt,Ydl,<-Ygc,Zd];omega
theorem Zrh{s:BA}(h:1<=s.size):s.toList.isEmpty=false:=by
 rw[Zbt,Ygn,<-Ycj,Zd];omega
theorem ZbF(l:LB):bl ⟨l.toArray⟩=l:=by simp[bl]
theorem Zq6(s:BA):(⟨(bl s).toArray⟩:BA)=s:=by simp[bl]
theorem ZgE (s : BA) (k : Nat) (h : k < s.size) : (bl s)[k]'(by rw [Zd]; exact h) = s[k] := by
  unfold bl;rfl
theorem ZcW{a b:BA}(h:bl a=bl b):a=b:=by rw[<-Zq6 a,<-Zq6 b,h]
theorem Zfh(s:BA)(a b:Nat):bl (s.extract a b)=((bl s).take b).drop a:=by
 unfold bl;rw[ByteArray.data_extract];simp[Array.toList_extract];rw[Yc8]
def Zp(c:UInt8):Bool:=decide (97<=(c.toNat:Int)) && decide ((c.toNat:Int)<=122)
def ZC(c:UInt8):Bool:=decide (48<=(c.toNat:Int)) && decide ((c.toNat:Int)<=57)
def Zx(l:LB):Bool:=l.all Zp && (decide (1<=(l.length:Int)) && decide ((l.length:Int)<=8))
def Z3(l:LB):Bool:=l.all (fun c=>Zp c || ZC c) && decide ((l.length:Int)<=8)
theorem ZiB(s:BA)(k:Nat)(h:k<s.size):(bl s).take (k+1)=(bl s).take k++[s[k]]:=by
 rw[List.take_succ_eq_append_getElem (by rw[Zd];exact h),ZgE s k h]
theorem ZdW(s:BA)(k:Nat)(h:k<s.size):(bl s).drop k=s[k]::(bl s).drop (k+1):=by
 rw[List.drop_eq_getElem_cons (by rw[Zd];exact h),ZgE s k h]
theorem ZkI(p:UInt8->Bool)(s:BA)(k:Nat)(h:k<s.size)(a:((bl s).take k).all p=true)(b:p s[k]=true):((bl s).take (k+1)).all p=true:=by
 rw[ZiB s k h,List.all_append,a];simp[b]
theorem ZkH(p:UInt8->Bool)(s:BA)(k:Nat)(h:k<s.size)(a:p s[k]=false):(bl s).all p=false:=by
 rw[List.all_eq_false];exact⟨s[k],by rw[<-ZgE s k h];exact List.getElem_mem _,by simp[a]⟩
theorem ZkG(p:UInt8->Bool)(s:BA)(k:Nat)(h:¬k<s.size)(a:((bl s).take k).all p=true):(bl s).all p=true:=by
 rwa [Ya5 (by rw[Zd];omega)]at a
def val(l:LB):Nat:=l.foldl (fun n c=>10*n+(c.toNat - 48)) 0
def ZQ(most:Nat)(l:LB):Option Nat:=
 if l.length<1∨(l.head?=some 48/\1<l.length)∨l.all ZC=false∨most<val l then none else some (val l)
theorem Znt(l:LB)(c:UInt8):val (l++[c])=10*val l+(c.toNat - 48):=by simp[val]
theorem ZDM (r : LB) : ∀ n : Nat, n <= r.foldl (fun n c => 10 * n + (c.toNat - 48)) n := by
  induction r with
  | nil=>intro n;exact Yac _
  | cons c r ih=>intro n;exact Yah (show n<=10*n+(c.toNat - 48) by omega) (ih _)
theorem ZDO(l:LB)(k:Nat):val (l.take k)<=val l:=by
 conv=>rhs;rw[<-Ycn k l]
 unfold val;rw[List.foldl_append];exact ZDM _ _
theorem Zvx{c:UInt8}(h:ZC c=true):48<=c.toNat/\c.toNat<=57:=by
 simp[ZC]at h;omega
def seek(c:UInt8):LB->Option Nat
 | []=>none
 | b::l=>if b == c then some 0 else (seek c l).map (· + 1)
def cut(c:UInt8)(l:LB):Option (LB×LB):=(seek c l).map fun i=>(l.take i,l.drop (i+1))
theorem ZBX(c:UInt8)(a b:LB)(h:seek c a=none):seek c (a++b)=(seek c b).map (· + a.length):=by
 induction a with
 | nil=>simp
 | cons x a ih=>
  unfold seek at h;split at h
  ·cases h
  ·rename_i d;have e:seek c a=none:=by simpa using h
   simp only[List.cons_append,seek,d];rw[ih e];cases seek c b <;> simp[Nat.add_assoc]
theorem Zj9(c:UInt8)(l:LB):seek c l=none ↔ c∉l:=by
 induction l with
 | nil=>simp[seek]
 | cons b l ih=>
  unfold seek;by_cases a:b=c
  ·subst a;simp
  ·simp[a,ih,Ne.symm a]
theorem Ziv{c:UInt8}{l:LB}{i:Nat}(h:seek c l=some i):∃a b,l=a++c::b/\a.length=i/\c∉a:=by
 induction l generalizing i with
 | nil=>simp[seek]at h
 | cons b l ih=>
  unfold seek at h;by_cases d:b=c
  ·subst d;simp at h;subst h;exact⟨[],l,rfl,rfl,by simp⟩
  ·simp[d]at h;obtain⟨j,e,rfl⟩:=h;obtain⟨a',b',rfl,rfl,f⟩:=ih e;exact⟨b::a',b',rfl,by simp,by simp[f,Ne.symm d]⟩
theorem Zgq(c:UInt8){a b:LB}(h:c∉a):seek c (a++c::b)=some a.length:=by
 rw[ZBX c a _ ((Zj9 c a).2 h)];simp[seek]
theorem ZBY{c:UInt8}{l:LB}{i:Nat}(h:seek c l=some i):i<l.length:=by
 obtain⟨a,b,rfl,rfl,_⟩:=Ziv h;simp
def pre(p:LB):List (LB)->List (LB)
 | []=>[p]
 | h::t=>(p++h)::t
def split(c:UInt8):LB->List (LB)
 | []=>[[]]
 | b::l=>if b == c then []::split c l else pre [b] (split c l)
theorem Zix(c:UInt8)(l:LB):split c l≠[]:=by
 cases l with
 | nil=>simp[split]
 | cons b l=>
  unfold split;split
  ·simp
  ·cases h:split c l <;> simp[pre]
theorem ZAS(c:UInt8)(l:LB):pre [] (split c l)=split c l:=by
 cases h:split c l with
 | nil=>exact absurd h (Zix c l)
 | cons a t=>simp[pre]
theorem ZAT{p q:LB}{l:List (LB)}(h:l≠[]):pre p (pre q l)=pre (p++q) l:=by
 cases l with
 | nil=>exact absurd rfl h
 | cons a t=>simp[pre]
theorem Zhc(c:UInt8)(l:LB):split c (c::l)=[]::split c l:=by simp[split]
theorem Zke(c b:UInt8)(l:LB)(h:(b == c)=false):split c (b::l)=pre [b] (split c l):=by
 simp only[split,h];rfl
theorem Zhb(c:UInt8)(p r:LB)(h:c∉p):split c (p++r)=pre p (split c r):=by
 induction p with
 | nil=>rw[List.nil_append,ZAS]
 | cons x p ih=>
  have a:(x == c)=false:=by simp;rintro rfl;simp at h
  rw[List.cons_append,Zke c x _ a,ih (by simp at h;exact h.2),ZAT (Zix c r)];rfl
theorem Zhd(c:UInt8)(l:LB):(split c l).length<=l.length+1:=by
 induction l with
 | nil=>simp[split]
 | cons b l ih=>
  by_cases d:b=c
  ·subst d;rw[Zhc];simp;exact ih
  ·rw[Zke c b l (by simp[d])];cases e:split c l with
   | nil=>simp[pre]
   | cons a t=>rw[e]at ih;simp[pre];simp at ih;omega
end Go.Proofs.YtmncdbepjhmkgaaGreatDoor.LS
namespace Go.Proofs.YtmncdbepjhmkgaaGreatDoor
open Go.RowKit LS Go.Proofs.Tryz
theorem Zset {α:Type}:(∀(l:List α)(i:Nat)(a:α),l.toArray.setIfInBounds i a=(l.set i a).toArray)/\(∀(a:α)(l:List α)(b:α),(a::l).set 0 b=b::l)/\∀(a:α)(l:List α)(i:Nat)(b:α),(a::l).set (i+1) b=a::l.set i b:=⟨fun _ _ _=>by simp only [List.setIfInBounds_toArray],fun _ _ _=>rfl,fun _ _ _ _=>rfl⟩
theorem Zget {α:Type}:(∀(a:α)(l:List α),(a::l)[0]?=some a)/\∀(a:α)(l:List α)(i:Nat),(a::l)[i+1]?=l[i]?:=⟨fun _ _=>rfl,fun _ _ _=>rfl⟩
theorem Zbal {w:World}{o:Obj}:BW w (w.alloc o):=(Yaf _ _).alloc (Yac _) _
theorem cret{P:Program}{f:Nat}{a:Array Value}{w w':World}{x:Ending}{Q:Ending->World->Prop}(h:Calls P f a w fun e u=>e=x/\u=w')(k:Q x w'):Calls P f a w Q:=h.mono fun e u ⟨b,c⟩=>by rw[b,c];exact k
theorem bnw{w:World}{o:Obj} : (w.alloc o).heap[w.heap.size]?=some o:=by show(w.heap.push o)[w.heap.size]?=_;simp
theorem ZS6(c:UInt8):(⟨#[c]⟩:BA).data.toList=[c]:=rfl
theorem Zn{w w':World}{base:Nat}{e:TypeId}{size:Nat}{v:Value}{n:Nat}{xs:List Value}(h:w.ownsRow base e size v n xs)(d:BW w w'):w'.ownsRow base e size v n xs:=by
 obtain⟨f,a⟩:=h;refine⟨f,?_⟩;rcases a with a|⟨g,cap,cur,i,j,b,r⟩
 ·exact Or.inl a
 ·have c:g<w.heap.size:=by
   rcases Yav g w.heap.size with h|h
   ·exact h
   ·rw[Yfi h]at b;cases b
  exact Or.inr ⟨g,cap,cur,i,j,by rw[d.block g c];exact b,r⟩
theorem Zl{w:World}{base:Nat}{e:TypeId}{size:Nat}{v:Value}{n:Nat}{xs:List Value}(h:w.ownsRow base e size v n xs):∃av cp,v=.slice av n cp:=by
 rcases h.2 with ⟨h,a⟩|⟨g,cap,cur,h,_⟩
 ·exact⟨none,0,by rw[h,a]⟩
 ·exact⟨_,_,h⟩
theorem ZzW{w:World}{base:Nat}{e:TypeId}{size:Nat}{v:Value}{n:Nat}{xs:List Value}(h:w.ownsRow base e size v n xs)(k:Nat):(w.drewN k).ownsRow base e size v n xs:=h
theorem ZiX(B:Nat)(w:World)(k:Nat):Below B w (w.drewN k):=⟨rfl,rfl,rfl,Yac _,fun _ _=>rfl⟩
theorem ZhQ{B:Nat}{a w:World}(h:Below B a w)(k:Nat):Below B a (w.drewN k):=h.trans (ZiX B w k)
theorem belB{n:Nat}{a w:World}(h:Below n a w:=by repeat (first|exact Yaf _ _|assumption|refine Below.alloc ?_ (by first|omega|(simp;omega)|simp) _|refine Below.setCell ?_ (by first|omega|(simp;omega)|simp) _|refine ZhQ ?_ _|refine Below.drew ?_)):Below n a w:=h
theorem ZkW{B:Nat}{w w':World}{k:Nat}(h:Below B (w.drewN k) w'):Below B w w':=⟨h.os,h.tape,h.output,h.size,h.block⟩
theorem ZU{s:BA}{r:LB}(h:bl s=r):s.size=r.length:=by rw[<-Zd,h]
theorem Zn9{W:World}{a:Nat}{u v:Value}(c:W.cell? ⟨a,0,none⟩=some u)(d:W.cell? ⟨a,1,none⟩=some v):∀j x,[u,v][j]?=some x->W.cell? ((⟨a,0,none⟩:Addr).add j)=some x:=by
 intro j x b
 match j,b with
 | 0,b=>simp at b;subst b;simpa [Addr.add] using c
 | 1,b=>simp at b;subst b;simpa [Addr.add] using d
theorem ZS4{W y:World}(a:BW W y):(∀b o,b<W.heap.size->y.cell? ⟨b,o,none⟩=W.cell? ⟨b,o,none⟩)/\(∀b o,b<W.heap.size->y.frozen? ⟨b,o,none⟩=W.frozen? ⟨b,o,none⟩):=
 ⟨fun b o h=>a.cell (p:=⟨b,o,none⟩) h,fun b o h=>a.frozen (p:=⟨b,o,none⟩) h⟩
theorem box3{w a:World}{x y z:Value}{t:TypeId}(b:Below (w.heap.size+1) (w.alloc (.cells #[x,y,z] t)) a) :
  a.cell? ⟨w.heap.size,0,none⟩=some x/\a.cell? ⟨w.heap.size,1,none⟩=some y/\a.cell? ⟨w.heap.size,2,none⟩=some z/\
  a.frozen? ⟨w.heap.size,0,none⟩=false/\a.frozen? ⟨w.heap.size,1,none⟩=false/\a.frozen? ⟨w.heap.size,2,none⟩=false:=by
 have h:∀o,a.cell? ⟨w.heap.size,o,none⟩=(w.alloc (.cells #[x,y,z] t)).cell? ⟨w.heap.size,o,none⟩:=fun o=>b.cell (p:=⟨_,o,none⟩) (Ybd _);have f:∀o,a.frozen? ⟨w.heap.size,o,none⟩=(w.alloc (.cells #[x,y,z] t)).frozen? ⟨w.heap.size,o,none⟩:=fun o=>b.frozen (p:=⟨_,o,none⟩) (Ybd _);simp[h,f]
theorem Zuy{W:World}{a:Nat}{u v x:Value}(c:W.cell? ⟨a,0,none⟩=some u)(d:W.cell? ⟨a,1,none⟩=some v)(e:W.cell? ⟨a,2,none⟩=some x):∀j y,[u,v,x][j]?=some y->W.cell? ((⟨a,0,none⟩:Addr).add j)=some y:=by
 intro j y b
 match j,b with
 | 0,b=>simp at b;subst b;simpa [Addr.add] using c
 | 1,b=>simp at b;subst b;simpa [Addr.add] using d
 | 2,b=>simp at b;subst b;simpa [Addr.add] using e
theorem ZfO(g j:Nat):(⟨g,0,none⟩:Addr).add j=⟨g,j,none⟩:=by
 by_cases h:j=0 <;> simp[Addr.add,h]
theorem Zi{w:World}{base:Nat}{e:TypeId}{size:Nat}{g n cp:Nat}{xs:List Value}(h:w.ownsRow base e size (.slice (some ⟨g,0,none⟩) n cp) n xs)(j:Nat){u:Value}(a:xs[j]?=some u):w.cell? ⟨g,j,none⟩=some u:=by
 have:=h.cells rfl j u a;rwa [ZfO]at this
theorem Z1{w:World}{base:Nat}{e:TypeId}{size:Nat}{g n cp:Nat}{xs:List Value}(h:w.ownsRow base e size (.slice (some ⟨g,0,none⟩) n cp) n xs):g<w.heap.size:=(h.lt g rfl).2
theorem ZF{w:World}{base:Nat}{e:TypeId}{size:Nat}{v:Value}{n:Nat}{xs:List Value}(h:w.ownsRow base e size v n xs)(b:0<n):∃g cp,v=.slice (some ⟨g,0,none⟩) n cp:=by
 rcases h.2 with ⟨_,c⟩|⟨g,cap,cur,a,_⟩
 ·omega
 ·exact⟨g,cap,a⟩
theorem ZmC{w:World}{b1 b2:Nat}{e1 e2:TypeId}{s1 s2:Nat}{v1 v2:Value}{n1 n2:Nat}{xs1 xs2:List Value}(c:w.ownsRow b1 e1 s1 v1 n1 xs1)(d:w.ownsRow b2 e2 s2 v2 n2 xs2)(e:e1≠e2):v1.ownBlock=none∨v1.ownBlock≠v2.ownBlock:=by
 rcases c.2 with ⟨rfl,_⟩|⟨g1,c1,cur1,rfl,_,b,_⟩
 ·exact Or.inl rfl
 ·right
  rcases d.2 with ⟨rfl,_⟩|⟨g2,c2,cur2,rfl,_,a,_⟩
  ·simp[Value.ownBlock]
  ·intro h;have f:g1=g2:=by simpa [Value.ownBlock] using h
   subst f;rw[b]at a;injection a with h3;injection h3 with _ h4;exact e h4
theorem Zcx{w:World}{b:Nat}{e:TypeId}{sz:Nat}{v:Value}{n:Nat}{xs:List Value}(h:w.ownsRow b e sz v n xs){q:Nat}{c:Array Value}{t:TypeId}{fr:Nat×Nat}(d:w.heap[q]?=some (.cells c t fr))(f:t≠e):some q≠v.ownBlock:=by
 rcases h.2 with ⟨rfl,_⟩|⟨g,cp,cur,rfl,_,a,_⟩
 ·simp[Value.ownBlock]
 ·intro i;have j:q=g:=by simpa [Value.ownBlock] using i
  subst j;rw[d]at a;injection a with h3;injection h3 with _ h4;exact f h4
theorem ZgW{s:BA}(h:s.toList.isEmpty=true):bl s=[]:=by rw[Zbt]at h;exact Ydl.1 h
theorem Zij{s:BA}(h:s.toList.isEmpty=false):bl s≠[]:=by rw[Zbt]at h;exact Ygn.1 h
theorem Zne(c:UInt8)(l:LB):∀x∈split c l,x.length<=l.length:=by
 induction l with
 | nil=>simp[split]
 | cons b l ih=>
  intro x a;by_cases e:b=c
  ·subst e;rw[Zhc]at a;rcases Yau.1 a with rfl|a
   ·simp
   ·have:=ih x a;simp;omega
  ·rw[Zke c b l (by simp[e])]at a;cases d:split c l with
   | nil=>exact absurd d (Zix c l)
   | cons h t=>
    rw[d]at a ih;simp only[pre]at a;rcases Yau.1 a with rfl|a
    ·have:=ih h (by simp);simp;omega
    ·have:=ih x (by simp[a]);simp;omega
theorem Zkd(c:UInt8)(l:LB)(k:Nat)(a:k<(split c l).length):((split c l).getD k []).length<=l.length:=by
 have e:(split c l).getD k []=(split c l)[k]:=by simp[a]
 rw[e];exact Zne c l _ (List.getElem_mem _)
theorem Zgh{most v:Nat}{l:LB}(h:ZQ most l=some v):v<=most:=by
 unfold ZQ at h;split at h
 ·cases h
 ·rename_i a;have:=Yax h;simp at a;omega
def sents:List Nat:=[0,1,2,3,4,5,6,7,8,9,10,11,12]
structure Vars (w:World) (A:Nat->Addr) (m:Int):Prop where
 max:w.cell? ⟨14,0,none⟩=some (Vi m)
 sent:∀g∈sents,w.cell? ⟨g,0,none⟩=some (.iface 198 (.pointer (some (A g))))
 apart:∀g∈sents,∀h∈sents,g≠h->A g≠A h
 row:∀g∈sents,∃c t,w.heap[(A g).block]?=some (.cells c t (0,0))
 handle:w.cell? ⟨13,0,none⟩=some (.iface 145 (.agg #[.pointer (some ⟨18,33,none⟩)]))
theorem Vars.below{w w':World}{A:Nat->Addr}{m:Int}(h:Vars w A m)(a:BW w w'):Vars w' A m where
 max:=(a.cell (p:=⟨_,0,none⟩) (Yai _ _ h.max)).trans h.max
 sent g hg:=(a.cell (p:=⟨_,0,none⟩) (Yai _ _ (h.sent g hg))).trans (h.sent g hg)
 apart:=h.apart
 row g hg:=by
  obtain⟨c,t,e⟩:=h.row g hg;refine⟨c,t,(a.block _ ?_).trans e⟩;rcases Yav (A g).block w.heap.size with h|h
  ·exact h
  ·rw[Yfi h]at e;cases e
 handle:=(a.cell (p:=⟨_,0,none⟩) (Yai _ _ h.handle)).trans h.handle
theorem Vars.alloc{w:World}{A:Nat->Addr}{m:Int}(h:Vars w A m)(o:Obj):Vars (w.alloc o) A m:=h.below Zbal
theorem Vars.drewN{w:World}{A:Nat->Addr}{m:Int}(h:Vars w A m)(k:Nat):Vars (w.drewN k) A m:=h.below (ZiX _ _ _)
theorem Zcy{a b:Bool}(h:a=b):Ending.returned (.bool a)=.returned (.bool b):=by rw[h]
theorem ZBw{k:IntKind}{a b:Int}(h:a=b):Ending.returned (.int k a)=.returned (.int k b):=by rw[h]
theorem ZJE{c:UInt8}{w:World} :
  CP 81 #[.int .u8 c.toNat] w fun e u=>e=.returned (.bool (Zp c))/\u=w:=by
 go_enter func81,ntmps81;go_wp2
 all_goals
  go_ret;exact⟨Zcy (by unfold Zp;simp;omega),rfl⟩
theorem Zd2{c:UInt8}{w:World} :
  CP 36 #[.int .u8 c.toNat] w fun e u=>e=.returned (.bool (Zp c))/\u=w:=by
 go_enter func36,ntmps36;go_wp2
 all_goals
  go_ret;exact⟨Zcy (by unfold Zp;simp;omega),rfl⟩
theorem ZJC{c:UInt8}{w:World} :
  CP 80 #[.int .u8 c.toNat] w fun e u=>e=.returned (.bool (ZC c))/\u=w:=by
 go_enter func80,ntmps80;go_wp2
 all_goals
  go_ret;exact⟨Zcy (by unfold ZC;simp;omega),rfl⟩
theorem Zdk{c:UInt8}{w:World} :
  CP 33 #[.int .u8 c.toNat] w fun e u=>e=.returned (.bool (ZC c))/\u=w:=by
 go_enter func33,ntmps33;go_wp2
 all_goals
  go_ret;exact⟨Zcy (by unfold ZC;simp;omega),rfl⟩
theorem ZTb(n:Int)(w:World) :
  CP 7 #[Vi n] w fun e u=>e=.returned (Vi n)/\u=w:=by
 go_enter func7,ntmps7;go_wp2;go_ret;exact⟨rfl,rfl⟩
theorem Zkt(s:BA)(w:World)(h:s.size<=70000) :
  CP 37 #[.string s] w fun e u=>e=.returned (.bool (Zx (bl s)))/\u=w:=by
 by_cases j:s.size<1∨8<s.size
 ·have a:Hid (Zx (bl s)=false):=hid (by
   unfold Zx;rw[Zd];have:(decide (1<=(s.size:Int)) && decide ((s.size:Int)<=8))=false:=by simp;omega
   rw[this];simp)
  go_enter func37,ntmps37;go_wp2
  all_goals first|omega|(go_ret;exact⟨Zcy a.symm,rfl⟩)
 ·have l:1<=(s.size:Int):=by omega
  have m:(s.size:Int)<=8:=by omega
  go_enter func37,ntmps37;go_wp2
  go_loop [14] (fun i=>∃k:Nat,k<=s.size/\i=Vi k/\((bl s).take k).all Zp=true) (fun i=>s.size - (intOf i).toNat)
  case atStart=>exact⟨0,Yag _,rfl,by simp⟩
  case round=>
   obtain⟨k,n,rfl,c⟩:=hrel;have d:Hid (((bl s).take k).all Zp=true):=c;clear c;by_cases b:k<s.size
   ·cases f:Zp s[k]
    ·have a:Hid (Zx (bl s)=false):=by unfold Zx;rw[ZkH Zp s k b f];rfl
     go_wp2_with (go_at_call 36;refine(Zd2).mono ?_;rintro e u ⟨rfl,rfl⟩)
     go_ret;exact⟨Zcy a.symm,rfl⟩
    ·have g:Hid (((bl s).take (k+1)).all Zp=true):=ZkI Zp s k b d.out f
     go_wp2_with (go_at_call 36;refine(Zd2).mono ?_;rintro e u ⟨rfl,rfl⟩)
     go_round
     case rel=>exact⟨k+1,by omega,by go_num,g.out⟩
     case measure=>simp[intOf];omega
   ·have a:Hid (Zx (bl s)=true):=hid (by
     unfold Zx;rw[ZkG Zp s k b d.out,Zd];simp;omega)
    go_wp2;go_ret;exact⟨Zcy a.symm,rfl⟩
theorem Znv(s:BA){w:World}(a:s.size<=6000) :
  CP 37 #[.string s] w fun e u=>e=.returned (.bool (Zx (bl s)))/\u=w:=Zkt s w Om
theorem ZNk(s:BA)(w:World)(m:s.size<=6000) :
  CP 85 #[.string s] w fun e u=>e=.returned (.bool (Z3 (bl s)))/\u=w:=by
 go_enter func85,ntmps85;go_wp2
 go_loop [3] (fun i=>∃k:Nat,k<=s.size/\i=Vi k/\((bl s).take k).all (fun c=>Zp c || ZC c)=true) (fun i=>s.size - (intOf i).toNat)
 case atStart=>exact⟨0,Yag _,rfl,by simp⟩
 case round=>
  obtain⟨k,n,rfl,b⟩:=hrel;have d:Hid (((bl s).take k).all (fun c=>Zp c || ZC c)=true):=b;clear b;by_cases a:k<s.size
  ·have g:Hid ((Zp s[k] || ZC s[k])=true->((bl s).take (k+1)).all (fun c=>Zp c || ZC c)=true):=ZkI (fun c=>Zp c || ZC c) s k a d.out
   have j : Hid ((Zp s[k] || ZC s[k]) = false -> Z3 (bl s) = false) := fun h => by
     unfold Z3;rw[ZkH (fun c=>Zp c || ZC c) s k a h];rfl
   cases f:Zp s[k] <;> cases hd:ZC s[k]
   ·go_wp2_with (first|(go_at_call 81;refine(ZJE).mono ?_;rintro e u ⟨rfl,rfl⟩)|(go_at_call 80;refine(ZJC).mono ?_;rintro e u ⟨rfl,rfl⟩))
    go_ret;exact⟨Zcy (j.out (by rw[f,hd];rfl)).symm,rfl⟩
   all_goals
    go_wp2_with (first|(go_at_call 81;refine(ZJE).mono ?_;rintro e u ⟨rfl,rfl⟩)|(go_at_call 80;refine(ZJC).mono ?_;rintro e u ⟨rfl,rfl⟩))
    go_round
    case rel=>exact⟨k+1,by omega,by go_num,g.out (by rw[f,hd];rfl)⟩
    case measure=>simp[intOf];omega
  ·have l:Hid (Z3 (bl s)=decide ((s.size:Int)<=8)):=by
    unfold Z3;rw[ZkG _ s k a d.out,Zd];rfl
   go_wp2;go_ret;exact⟨Zcy l.symm,rfl⟩
theorem Znw(s:BA){w:World}(m:s.size<=6000) :
  CP 38 #[.string s] w fun e u=>e=.returned (.bool (Z3 (bl s)))/\u=w:=by
 by_cases n:8<s.size
 ·have d:Hid (Z3 (bl s)=false):=hid (by
   unfold Z3;rw[Zd];have:decide ((s.size:Int)<=8)=false:=by simp;omega
   rw[this];simp)
  go_enter func38,ntmps38;go_wp2;go_ret;exact⟨Zcy d.symm,rfl⟩
 ·have o:(s.size:Int)<=8:=by omega
  go_enter func38,ntmps38;go_wp2
  go_loop [9] (fun i=>∃k:Nat,k<=s.size/\i=Vi k/\((bl s).take k).all (fun c=>Zp c || ZC c)=true) (fun i=>s.size - (intOf i).toNat)
  case atStart=>exact⟨0,Yag _,rfl,by simp⟩
  case round=>
   obtain⟨k,p,rfl,b⟩:=hrel;have f:Hid (((bl s).take k).all (fun c=>Zp c || ZC c)=true):=b;clear b;by_cases a:k<s.size
   ·have j:Hid ((Zp s[k] || ZC s[k])=true->((bl s).take (k+1)).all (fun c=>Zp c || ZC c)=true):=ZkI (fun c=>Zp c || ZC c) s k a f.out
    have l : Hid ((Zp s[k] || ZC s[k]) = false -> Z3 (bl s) = false) := fun h => by
      unfold Z3;rw[ZkH (fun c=>Zp c || ZC c) s k a h];rfl
    cases g:Zp s[k] <;> cases hd:ZC s[k]
    ·go_wp2_with (first|(go_at_call 36;refine(Zd2).mono ?_;rintro e u ⟨rfl,rfl⟩)|(go_at_call 33;refine(Zdk).mono ?_;rintro e u ⟨rfl,rfl⟩))
     go_ret;exact⟨Zcy (l.out (by rw[g,hd];rfl)).symm,rfl⟩
    all_goals
     go_wp2_with (first|(go_at_call 36;refine(Zd2).mono ?_;rintro e u ⟨rfl,rfl⟩)|(go_at_call 33;refine(Zdk).mono ?_;rintro e u ⟨rfl,rfl⟩))
     go_round
     case rel=>exact⟨k+1,by omega,by go_num,j.out (by rw[g,hd];rfl)⟩
     case measure=>simp[intOf];omega
   ·have d:Hid (Z3 (bl s)=true):=hid (by
     unfold Z3;rw[ZkG _ s k a f.out,Zd];simp;omega)
    go_wp2;go_ret;exact⟨Zcy d.symm,rfl⟩
def ZJX(c:UInt8)(l:LB):Int:=match LS.seek c l with|none=>-1|some i=>i
theorem ZLg{c:UInt8}{l:LB}{i:Nat}(h:LS.seek c l=some i):ZJX c l=i:=by unfold ZJX;rw[h]
theorem ZLf{c:UInt8}{l:LB}(h:LS.seek c l=none):ZJX c l=-1:=by unfold ZJX;rw[h]
theorem ZNz(c:UInt8)(s:BA)(k:Nat)(h:k<s.size)(a:LS.seek c ((bl s).take k)=none)(b:s[k]=c):ZJX c (bl s)=k:=by
 have e:bl s=(bl s).take k++(bl s).drop k:=(Ycn _ _).symm;refine ZLg ?_;rw[e,ZBX _ _ _ a,ZdW s k h];simp[LS.seek,b,Zd];omega
theorem ZNA(c:UInt8)(s:BA)(k:Nat)(h:k<s.size)(a:LS.seek c ((bl s).take k)=none)(b:s[k]≠c):LS.seek c ((bl s).take (k+1))=none:=by
 rw[ZiB s k h,ZBX _ _ _ a];simp[LS.seek,b]
theorem ZNy(s:BA)(c:UInt8)(w:World)(l:s.size<=70000) :
  CP 84 #[.string s,.int .u8 c.toNat] w fun e u=>e=.returned (Vi (ZJX c (bl s)))/\u=w:=by
 go_enter func84,ntmps84;go_wp2
 go_loop [5] (fun i=>∃k:Nat,k<=s.size/\i=Vi k/\LS.seek c ((bl s).take k)=none) (fun i=>s.size - (intOf i).toNat)
 case atStart=>exact⟨0,Yag _,rfl,by simp[LS.seek]⟩
 case round=>
  obtain⟨k,m,rfl,d⟩:=hrel;have g:Hid (LS.seek c ((bl s).take k)=none):=d;clear d;by_cases f:k<s.size
  ·by_cases a:s[k]=c
   ·have b:Hid (ZJX c (bl s)=k):=ZNz c s k f g.out a;have j:((s[k].toNat:Int) == (c.toNat:Int))=true:=by rw[a];simp
    clear a;go_wp2;go_ret;exact⟨ZBw b.symm,rfl⟩
   ·have b:Hid (LS.seek c ((bl s).take (k+1))=none):=ZNA c s k f g.out a
    have j:((s[k].toNat:Int) == (c.toNat:Int))=false:=by
     rw[beq_eq_false_iff_ne];intro h;exact a (Ydf.1 Om)
    clear a;go_wp2
    go_round
    case rel=>exact⟨k+1,by omega,by go_num,b.out⟩
    case measure=>simp[intOf];omega
  ·have b:Hid (ZJX c (bl s)=-1):=by
    have:=g.out;rw[Ya5 (by rw[Zd];omega)]at this;exact ZLf this
   go_wp2;go_ret;exact⟨ZBw b.symm,rfl⟩
theorem ZLh(s:BA)(c:UInt8)(w:World)(a:s.size<=6000) :
  CP 84 #[.string s,.int .u8 c.toNat] w fun e u=>e=.returned (Vi (ZJX c (bl s)))/\u=w:=ZNy s c w Om
def numI(most:Nat)(l:LB):Int:=match ZQ most l with|none=>-1|some v=>v
theorem Zrj{most:Nat}{l:LB}(h:ZQ most l=none):numI most l=-1:=by unfold numI;rw[h]
theorem ZgX{most v:Nat}{l:LB}(h:ZQ most l=some v):numI most l=v:=by unfold numI;rw[h]
theorem Zzz(most:Nat)(s:BA)(h:s.size<1):ZQ most (bl s)=none:=by
 unfold ZQ;rw[if_pos (Or.inl (by rw[Zd];exact h))]
theorem ZzC(most:Nat)(s:BA)(a:1<s.size)(h:s[0].toNat=48):ZQ most (bl s)=none:=by
 unfold ZQ;refine if_pos (Or.inr (Or.inl ⟨?_,by rw[Zd];exact a⟩));rw[Yd1,List.getElem?_eq_getElem (by rw[Zd];omega),ZgE s 0 Om];exact congrArg some (Ydf.1 h)
theorem Zzs(most:Nat)(s:BA)(k:Nat)(h:k<s.size)(hd:ZC s[k]=false):ZQ most (bl s)=none:=by
 unfold ZQ;exact if_pos (Or.inr (Or.inr (Or.inl (ZkH ZC s k h hd))))
theorem Zzw(most:Nat)(s:BA)(k:Nat)(h:k<s.size)(a:most<10*val ((bl s).take k)+(s[k].toNat - 48)):ZQ most (bl s)=none:=by
 unfold ZQ;refine if_pos (Or.inr (Or.inr (Or.inr ?_)));have:=ZDO (bl s) (k+1);rw[ZiB s k h,Znt]at this;omega
theorem Zzv(most:Nat)(s:BA)(k:Nat)(h:¬k<s.size)(f:1<=s.size)(c:¬(s[0].toNat=48/\1<s.size))(d:((bl s).take k).all ZC=true)(e:val ((bl s).take k)<=most):ZQ most (bl s)=some (val ((bl s).take k)):=by
 have a:=ZkG ZC s k h d;rw[Ya5 (by rw[Zd];omega)]at e ⊢;unfold ZQ;refine if_neg ?_;rintro(h|⟨h,b⟩|h|h)
 ·rw[Zd]at h;omega
 ·rw[Zd]at b;rw[Yd1,List.getElem?_eq_getElem (by rw[Zd];omega),ZgE s 0 Om]at h;exact c ⟨by rw[Yax h];rfl,b⟩
 ·rw[a]at h;cases h
 ·omega
theorem ZDN(s:BA)(k:Nat)(h:k<s.size):val ((bl s).take (k+1))=10*val ((bl s).take k)+(s[k].toNat - 48):=by
 rw[ZiB s k h,Znt]
theorem ZNr(s:BA)(most:Nat)(w:World)(A:s.size<=70000)(B:most<=1000000000) :
  CP 83 #[.string s,Vi most] w fun e u=>e=.returned (Vi (numI most (bl s)))/\u=w:=by
 by_cases j:s.size<1
 ·have a:Hid (numI most (bl s)=-1):=Zrj (Zzz most s j);go_enter func83,ntmps83;go_wp2;go_ret;exact⟨ZBw a.symm,rfl⟩
 have p:1<=s.size:=by omega
 by_cases b:s[0].toNat=48/\1<s.size
 ·have a:Hid (numI most (bl s)=-1):=Zrj (ZzC most s b.2 b.1);have d:((s[0].toNat:Int) == 48)=true:=by rw[b.1];rfl
  have x:=b.2;clear b;go_enter func83,ntmps83;go_wp2;go_ret;exact⟨ZBw a.symm,rfl⟩
 have q:Hid (¬(s[0].toNat=48/\1<s.size)):=b;have y:decide ((s.size:Int)<1)=false:=by simp;omega
 have f:(((s[0].toNat:Int) == 48)=true/\decide (1<(s.size:Int))=false)∨((s[0].toNat:Int) == 48)=false:=by
  by_cases d:s[0].toNat=48
  ·exact Or.inl ⟨by rw[d];rfl,by simp;have:¬1<s.size:=fun h=>b ⟨d,h⟩;omega⟩
  ·exact Or.inr (by rw[beq_eq_false_iff_ne];omega)
 clear b j;rcases f with ⟨l,z⟩|l
 all_goals
  go_enter func83,ntmps83;go_wp2
  go_loop [5,6] (fun n i=>∃k:Nat,k<=s.size/\i=Vi k/\n=Vi (val ((bl s).take k))/\val ((bl s).take k)<=most/\((bl s).take k).all ZC=true) (fun _ i=>s.size - (intOf i).toNat)
  case atStart=>exact⟨0,Yag _,rfl,by simp[val],by simp[val],by simp⟩
  case round=>
   obtain⟨k,C,rfl,rfl,r,g⟩:=hrel;have m:Hid (((bl s).take k).all ZC=true):=g;clear g;by_cases c:k<s.size
   ·cases hd:ZC s[k]
    ·have a:Hid (numI most (bl s)=-1):=Zrj (Zzs most s k c hd)
     go_wp2_with (go_at_call 80;refine(ZJC).mono ?_;rintro e u ⟨rfl,rfl⟩)
     go_ret;exact⟨ZBw a.symm,rfl⟩
    ·obtain⟨d1,d2⟩:=Zvx hd;have o:Hid (val ((bl s).take (k+1))=10*val ((bl s).take k)+(s[k].toNat - 48)):=ZDN s k c;have t:Hid (((bl s).take (k+1)).all ZC=true):=ZkI ZC s k c m.out hd;by_cases v:most<10*val ((bl s).take k)+(s[k].toNat - 48)
     ·have a:Hid (numI most (bl s)=-1):=Zrj (Zzw most s k c v)
      go_wp2_with (go_at_call 80;refine(ZJC).mono ?_;rintro e u ⟨rfl,rfl⟩)
      go_ret;exact⟨ZBw a.symm,rfl⟩
     ·go_wp2_with (go_at_call 80;refine(ZJC).mono ?_;rintro e u ⟨rfl,rfl⟩)
      go_round
      case rel=>exact⟨k+1,by omega,by go_num,by rw[o.out];go_num,by rw[o.out];omega,t.out⟩
      case measure=>simp[intOf];omega
   ·have a:Hid (numI most (bl s)=val ((bl s).take k)):=ZgX (Zzv most s k c p q.out m.out r);go_wp2;go_ret;exact⟨ZBw a.symm,rfl⟩
theorem ZNq(s:BA)(most:Nat)(w:World)(b:s.size<=6000)(a:most<=1000000000) :
  CP 83 #[.string s,Vi most] w fun e u=>e=.returned (Vi (numI most (bl s)))/\u=w:=ZNr s most w Om a
def numT(most:Nat)(l:LB):Value:=.tuple #[Vi ((ZQ most l).getD 0:Nat),.bool (ZQ most l).isSome]
theorem Zgg{most:Nat}{l:LB}(h:ZQ most l=none):numT most l=.tuple #[Vi 0,.bool false]:=by unfold numT;rw[h];rfl
theorem ZjO{most v:Nat}{l:LB}(h:ZQ most l=some v):numT most l=.tuple #[Vi v,.bool true]:=by unfold numT;rw[h];rfl
theorem Znx(s:BA)(most:Nat)(w:World)(B:s.size<=70000)(y:9<=most)(C:most<=1000000000) :
  CP 35 #[.string s,Vi most] w fun e u=>e=.returned (numT most (bl s))/\u=w:=by
 by_cases j:s.size<1
 ·have a:Hid (numT most (bl s)=_):=Zgg (Zzz most s j);have q:s.toList.isEmpty=true:=ZoT j;go_enter func35,ntmps35;go_wp2;go_ret2;exact⟨by rw[a.out];rfl,rfl⟩
 have l:1<=s.size:=by omega
 have q:s.toList.isEmpty=false:=Zrh l;by_cases b:s[0].toNat=48/\1<s.size
 ·have a:Hid (numT most (bl s)=_):=Zgg (ZzC most s b.2 b.1);have d:((s[0].toNat:Int) == 48)=true:=by rw[b.1];rfl
  have z:=b.2;clear b;go_enter func35,ntmps35;go_wp2;go_ret2;exact⟨by rw[a.out];rfl,rfl⟩
 have r:Hid (¬(s[0].toNat=48/\1<s.size)):=b
 have f:(((s[0].toNat:Int) == 48)=true/\decide (1<(s.size:Int))=false)∨((s[0].toNat:Int) == 48)=false:=by
  by_cases d:s[0].toNat=48
  ·exact Or.inl ⟨by rw[d];rfl,by simp;have:¬1<s.size:=fun h=>b ⟨d,h⟩;omega⟩
  ·exact Or.inr (by rw[beq_eq_false_iff_ne];omega)
 clear b j;rcases f with ⟨m,A⟩|m
 all_goals
  go_enter func35,ntmps35;go_wp2
  go_loop [6,23] (fun n i=>∃k:Nat,k<=s.size/\i=Vi k/\n=Vi (val ((bl s).take k))/\val ((bl s).take k)<=most/\((bl s).take k).all ZC=true) (fun _ i=>s.size - (intOf i).toNat)
  case atStart=>exact⟨0,Yag _,rfl,by simp[val],by simp[val],by simp⟩
  case round=>
   obtain⟨k,D,rfl,rfl,t,g⟩:=hrel;have o:Hid (((bl s).take k).all ZC=true):=g;clear g;by_cases c:k<s.size
   ·cases hd:ZC s[k]
    ·have a:Hid (numT most (bl s)=_):=Zgg (Zzs most s k c hd)
     go_wp2_with (go_at_call 33;refine(Zdk).mono ?_;rintro e u ⟨rfl,rfl⟩)
     go_ret2;exact⟨by rw[a.out];rfl,rfl⟩
    ·obtain⟨d1,d2⟩:=Zvx hd;have p:Hid (val ((bl s).take (k+1))=10*val ((bl s).take k)+(s[k].toNat - 48)):=ZDN s k c;have v:Hid (((bl s).take (k+1)).all ZC=true):=ZkI ZC s k c o.out hd;by_cases x:most<10*val ((bl s).take k)+(s[k].toNat - 48)
     ·have a:Hid (numT most (bl s)=_):=Zgg (Zzw most s k c x)
      go_wp2_with (go_at_call 33;refine(Zdk).mono ?_;rintro e u ⟨rfl,rfl⟩)
      all_goals first|(exfalso;omega)|(go_ret2;exact⟨by rw[a.out];rfl,rfl⟩)
     ·go_wp2_with (go_at_call 33;refine(Zdk).mono ?_;rintro e u ⟨rfl,rfl⟩)
      all_goals first|(exfalso;omega)|skip
      go_round
      case rel=>exact⟨k+1,by omega,by go_num,by rw[p.out];go_num,by rw[p.out];omega,v.out⟩
      case measure=>simp[intOf];omega
   ·have a:Hid (numT most (bl s)=_):=ZjO (Zzv most s k c l r.out o.out t);go_wp2;go_ret2;exact⟨by rw[a.out];rfl,rfl⟩
theorem Zkv(s:BA)(most:Nat){w:World}(c:s.size<=6000)(a:9<=most)(b:most<=1000000000) :
  CP 35 #[.string s,Vi most] w fun e u=>e=.returned (numT most (bl s))/\u=w:=Znx s most w Om a b
theorem Tryz.infoString:(Tryz.prog.info? 9).map (fun i=>(i.zero,i.size,i.bytes))=some (some (.string ByteArray.empty),1,16):=by kernel_rfl
theorem ZNF{c:UInt8}{l:LB}(h:c∉l):split c l=[l]:=by
 have:=Zhb c l [] h;rw[Yca]at this;rw[this];simp[split,pre]
theorem ZNB{s:BA}{f k:Nat}(b:f<=k)(a:k<s.size):((bl s).take (k+1)).drop f=((bl s).take k).drop f++[s[k]]:=by
 rw[ZiB s k a,Ygb (by rw[Ya7,Zd];omega)]
theorem ZKW{s:BA}{f k:Nat}(a:f<=k):(bl s).drop f=((bl s).take k).drop f++(bl s).drop k:=by
 conv=>lhs;rw[<-Ycn k (bl s)]
 by_cases h:k<=(bl s).length
 ·rw[Ygb (by rw[Ya7];omega)]
 ·rw[Yb8 (i:=k) Om,Yca,Yca]
theorem ZNv(s:BA)(c:UInt8)(w:World)(P:s.size<=70000) :
  CP 30 #[.string s, .int .u8 c.toNat] w fun e H => ∃ (v : Value) (bs : List BA), e = .returned v /\
    H.ownsRow w.heap.size 9 1 v bs.length (bs.map Value.string)/\Hid (bs.map bl=split c (bl s))/\BW w H:=by
 obtain⟨i0,I,z,A,B⟩:=info_parts Tryz.infoString;go_enter func30,ntmps30;go_wp2
 go_loopw [5, 6, 7] (fun v fr i wr => ∃ (k f : Nat) (bs : List BA), k <= s.size + 1 /\ i = Vi k /\ fr = Vi f /\ bs.length <= k /\ wr.ownsRow w.heap.size 9 1 v bs.length (bs.map Value.string) /\ BW w wr /\ f <= k /\
     Hid ((k<=s.size/\split c (bl s)=bs.map bl++split c ((bl s).drop f)/\c∉((bl s).take k).drop f)∨(k=s.size+1/\split c (bl s)=bs.map bl)))
   (fun _ _ i _=>s.size+1 - (intOf i).toNat)
 case atStart=>exact⟨0,0,[],Yag _,rfl,rfl,Yac _,Ybc _ _ _ _,Yaf _ _,Yac _,Or.inl ⟨Yag _,by simp,by simp⟩⟩
 case round=>
  obtain⟨k,f,bs,Q,rfl,rfl,M,a,m,o,E⟩:=hrel;have N:w.heap.size<=wr.heap.size:=m.size;by_cases O:k<=s.size
  ·have j:Hid (split c (bl s)=bs.map bl++split c ((bl s).drop f)/\c∉((bl s).take k).drop f):=by
    rcases E.out with ⟨_,L,F⟩|⟨h,_⟩
    ·exact⟨L,F⟩
    ·omega
   clear E
   have y:(k=s.size/\((k:Int) == (s.size:Int))=true)∨(((k:Int) == (s.size:Int))=false/\∃h:k<s.size,((s[k].toNat:Int) == (c.toNat:Int))=true/\s[k]=c)∨(((k:Int) == (s.size:Int))=false/\∃h:k<s.size,((s[k].toNat:Int) == (c.toNat:Int))=false/\s[k]≠c):=by
    by_cases h:k<s.size
    ·have J:((k:Int) == (s.size:Int))=false:=by rw[beq_eq_false_iff_ne];omega
     by_cases g:s[k]=c
     ·exact Or.inr (Or.inl ⟨J,h,by rw[g];simp,g⟩)
     ·exact Or.inr (Or.inr ⟨J,h,by rw[beq_eq_false_iff_ne];intro R;exact g (Ydf.1 Om),g⟩)
    ·exact Or.inl ⟨by omega,by rw[beq_iff_eq];omega⟩
   rcases y with ⟨C,D⟩|⟨D,p,K,g⟩|⟨D,p,K,g⟩
   ·have n:Hid ((k+1<=s.size/\split c (bl s)=(bs++[s.extract f k]).map bl++split c ((bl s).drop (k+1))/\c∉((bl s).take (k+1)).drop (k+1))∨(k+1=s.size+1/\split c (bl s)=(bs++[s.extract f k]).map bl)):=by
     refine Or.inr ⟨by omega,?_⟩;have F:=j.2;have hd:=ZKW (s:=s) o;rw[Yb8 (i:=k) (by rw[Zd];omega),Yca]at hd;rw[j.1,hd,ZNF F,Yaq,Ybb,List.map_nil,Zfh]
    have S:Hid (k=s.size):=C;clear C j
    go_wp2_with (at_builtin;refine wpList_append_own _ rfl (.tmp 25) (.tmp 30) 78 rfl w.heap.size 9 i0 (.string ByteArray.empty) 1 16 underlying78 I z A B rfl Dc _ _ _ rfl (a.alloc _) ⟨wr.heap.size,0,none⟩ 1 1 [.string (s.extract f k)] rfl rfl ?c1 ?c2 ?c3 ?c4 ?c5 ?_)
    case c1=>exact cell_one_new _ _ _
    case c2=>intro u r;simp at r;subst r;rfl
    case c3=>unfold maxLen;omega
    case c4=>omega
    case c5=>simp;omega
    intro v' t b d _;have x:BW w t:=(m.alloc Om _).grown d (by simp;omega) (fun q G=>(a.lt q G).1)
    have l:t.ownsRow w.heap.size 9 1 v' (bs++[s.extract f k]).length ((bs++[s.extract f k]).map Value.string):=by
     rw[Yab,Yaq];exact b
    clear a d b;go_wp2
    go_roundw
    case rel=>exact⟨k+1,k+1,_,by omega,by go_num,by go_num,by simp;omega,l,x,Yac _,n⟩
    case measure=>simp[intOf];omega
   ·have n:Hid ((k+1<=s.size/\split c (bl s)=(bs++[s.extract f k]).map bl++split c ((bl s).drop (k+1))/\c∉((bl s).take (k+1)).drop (k+1))∨(k+1=s.size+1/\split c (bl s)=(bs++[s.extract f k]).map bl)):=by
     refine Or.inl ⟨by omega,?_,?_⟩
     ·have hd:=ZKW (s:=s) o;rw[ZdW s k p,g]at hd;rw[j.1,hd,Zhb c _ _ j.2,Zhc,Yaq,Ybb,List.map_nil,Zfh];simp[pre]
     ·rw[Yb8 (by rw[Ya7];omega)];simp
    clear j g
    go_wp2_with (at_builtin;refine wpList_append_own _ rfl (.tmp 25) (.tmp 30) 78 rfl w.heap.size 9 i0 (.string ByteArray.empty) 1 16 underlying78 I z A B rfl Dc _ _ _ rfl (a.alloc _) ⟨wr.heap.size,0,none⟩ 1 1 [.string (s.extract f k)] rfl rfl ?c1 ?c2 ?c3 ?c4 ?c5 ?_)
    case c1=>exact cell_one_new _ _ _
    case c2=>intro u r;simp at r;subst r;rfl
    case c3=>unfold maxLen;omega
    case c4=>omega
    case c5=>simp;omega
    intro v' t b d _;have x:BW w t:=(m.alloc Om _).grown d (by simp;omega) (fun q G=>(a.lt q G).1)
    have l:t.ownsRow w.heap.size 9 1 v' (bs++[s.extract f k]).length ((bs++[s.extract f k]).map Value.string):=by
     rw[Yab,Yaq];exact b
    clear a d b;go_wp2
    go_roundw
    case rel=>exact⟨k+1,k+1,_,by omega,by go_num,by go_num,by simp;omega,l,x,Yac _,n⟩
    case measure=>simp[intOf];omega
   ·have n:Hid ((k+1<=s.size/\split c (bl s)=bs.map bl++split c ((bl s).drop f)/\c∉((bl s).take (k+1)).drop f)∨(k+1=s.size+1/\split c (bl s)=bs.map bl)):=by
     refine Or.inl ⟨by omega,j.1,?_⟩;rw[ZNB o p,List.mem_append,not_or];exact⟨j.2,by simp;exact fun h=>g h.symm⟩
    clear j g;go_wp2
    go_roundw
    case rel=>exact⟨k+1,f,bs,by omega,by go_num,rfl,by omega,a,m,by omega,n⟩
    case measure=>simp[intOf];omega
  ·have n:Hid (bs.map bl=split c (bl s)):=hid (by
    rcases E.out with ⟨h,_⟩|⟨_,h⟩
    ·omega
    ·exact h.symm)
   go_wp2;go_ret;exact⟨_,bs,rfl,a,n,m⟩
theorem ZNu(s:BA)(c:UInt8)(w:World)(a:s.size<=6000) :
  CP 30 #[.string s, .int .u8 c.toNat] w fun e u => ∃ (v : Value) (bs : List BA), e = .returned v /\
    u.ownsRow w.heap.size 9 1 v bs.length (bs.map Value.string)/\Hid (bs.map bl=split c (bl s))/\BW w u:=ZNv s c w Om
theorem ZKb{c:UInt8}{l:LB}{p:Nat}(h:LS.seek c l=some p):cut c l=some (l.take p,l.drop (p+1)):=by unfold cut;rw[h];rfl
theorem ZKl{c:UInt8}{l:LB}(h:LS.seek c l=none):cut c l=none:=by unfold cut;rw[h];rfl
theorem ZJN{s:BA}{c:UInt8}{p:Nat}{ci:Int}{w:World}(a:ci=c.toNat)(b:s.size<=6000)(h:LS.seek c (bl s)=some p) :
  CP 84 #[.string s,.int .u8 ci] w fun e u=>e=.returned (Vi p)/\u=w:=by
 subst a;have:=ZLh s c w b
 rwa [ZLg h]at this
theorem ZJ0{s:BA}{c:UInt8}{ci:Int}{w:World}(a:ci=c.toNat)(b:s.size<=6000)(h:LS.seek c (bl s)=none) :
  CP 84 #[.string s,.int .u8 ci] w fun e u=>e=.returned (Vi (-1))/\u=w:=by
 subst a;have:=ZLh s c w b
 rwa [ZLf h]at this
theorem ZKs{s:BA}{b:Bool}{w:World}(a:s.size<=6000)(h:Z3 (bl s)=b) :
  CP 85 #[.string s] w fun e u=>e=.returned (.bool b)/\u=w:=by
 have:=ZNk s w a;rwa [h]at this
theorem ZKh(s:BA)(c:UInt8){ci:Int}{w:World}(f:ci=c.toNat)(j:s.size<=6000) :
  CP 30 #[.string s, .int .u8 ci] w fun e u => ∃ (g n cp : Nat) (bs : List BA), e = .returned (.slice (some ⟨g, 0, none⟩) n cp) /\
    n=bs.length/\w.heap.size<=g/\g<u.heap.size/\Hid (∀i (h:i<bs.length),u.cell? ⟨g,i,none⟩=some (.string bs[i]))/\Hid (bs.map bl=split c (bl s))/\BW w u:=by
 subst f;refine(ZNu s c w j).mono ?_;rintro e u ⟨v,bs,rfl,a,b,k⟩
 have d:0<bs.length:=by
  have:bs.length=(split c (bl s)).length:=by rw[<-b.out,Yak]
  rw[this];exact Ycj.2 (Zix c (bl s))
 obtain⟨g,cp,rfl⟩:=ZF a d;refine⟨g,bs.length,cp,bs,rfl,rfl,(a.lt g rfl).1,Z1 a,fun i l=>Zi a i (by simp[l]),b,k⟩
theorem ZJ6{bs:List BA}{ps:List (LB)}(h:bs.map bl=ps)(i:Nat)(a:i<bs.length):bl bs[i]=ps.getD i []:=by
 subst h;simp[a]
theorem Zmr(most:Nat)(l:LB) : -1<=numI most l/\numI most l<=most:=by
 cases h:ZQ most l with
 | none=>rw[Zrj h];omega
 | some v=>rw[ZgX h];have:=Zgh h;omega
theorem ZJ2{s:BA}(most:Nat){mi:Int}{w:World}(a:mi=most)(b:s.size<=6000)(c:most<=1000000000) :
  CP 83 #[.string s,Vi mi] w fun e u=>e=.returned (Vi (numI most (bl s)))/\u=w:=by
 subst a;exact ZNq s most w b c
theorem ZKE{most:Nat}{l:LB}{t:Int}(h:numI most l=t)(b:0<=t):ZQ most l=some t.toNat:=by
 cases a:ZQ most l with
 | none=>rw[Zrj a]at h;omega
 | some v=>rw[ZgX a]at h;subst h;rfl
theorem ZM5{most:Nat}{l:LB}{t:Int}(h:numI most l=t)(b:t<0):ZQ most l=none:=by
 cases a:ZQ most l with
 | none=>rfl
 | some v=>rw[ZgX a]at h;omega
open Go.Proofs.Tryz
open Go.RowKit Go.Extern.Stop Go.Stop Go.Extern LS
def ZoX : Array Value → Sem Value := ReflectliteType.method fun t => do Rtype.noPackHeld "Comparable" t; pure (.bool (← typeInfo t).comparable)
theorem Tryz.isTypeOf(v:Value)(w:World):(Extern.ReflectliteType.typeOf #[.iface 198 v]).run Tryz.prog w=.ok (.iface 145 (.agg #[.pointer (some ⟨18,198,none⟩)])) w:=by kernel_rfl
theorem Tryz.isComparable(w:World):(ZoX #[.agg #[.pointer (some ⟨18,198,none⟩)]]).run Tryz.prog w=.ok (.bool true) w:=by kernel_rfl
theorem Tryz.isMethodComparable (v : Value) (w : World) : (Go.method 327 145 v "Comparable").run Tryz.prog w = .ok (151, v) w := by kernel_rfl
theorem Tryz.isComp:(Tryz.prog.info? 198).map (·.comparable)=some true:=by kernel_rfl
theorem Tryz.isSize:(Tryz.prog.info? 216).map (·.size)=some 1:=by kernel_rfl
theorem Tryz.noIsE(v:Value)(xT:TypeId)(w:World):(Instr.typeAssert (.iface 198 v) xT 147 true).run Tryz.prog w=.ok (.tuple #[.nilIface,.bool false]) w:=run_typeAssert_lacksB Tryz.underlying147 Kr Kr v xT w
theorem Tryz.noUnwrapE(v:Value)(xT:TypeId)(w:World):(Instr.typeAssert (.iface 198 v) xT 150 true).run Tryz.prog w=.ok (.tuple #[.nilIface,.bool false]) w:=run_typeAssert_lacksB Tryz.underlying150 Kr Kr v xT w
theorem Tryz.noUnwrapsE(v:Value)(xT:TypeId)(w:World):(Instr.typeAssert (.iface 198 v) xT 151 true).run Tryz.prog w=.ok (.tuple #[.nilIface,.bool false]) w:=run_typeAssert_lacksB Tryz.underlying151 Kr Kr v xT w
theorem Tryz.noIsW(v:Value)(xT:TypeId)(w:World):(Instr.typeAssert (.iface 59 v) xT 147 true).run Tryz.prog w=.ok (.tuple #[.nilIface,.bool false]) w:=run_typeAssert_lacksB Tryz.underlying147 Kr Kr v xT w
theorem Tryz.hasUnwrapW(v:Value)(xT:TypeId)(w:World):(Instr.typeAssert (.iface 59 v) xT 150 true).run Tryz.prog w=.ok (.tuple #[.iface 59 v,.bool true]) w:=run_typeAssert_hasB Tryz.underlying150 Kr v xT w
theorem Tryz.methodUnwrap (v : Value) (w : World) : (Go.method 327 59 v "Unwrap").run Tryz.prog w = .ok (139, v) w := by kernel_rfl
theorem Zhn (args : Array Value) (w : World) : (callFunc 46 args).run prog w = ((ReflectliteType.typeOf args).run prog w).andThen fun v u => .ok (.value v) u :=
  run_callFunc_extern func46 Kr Kr Kr Kr args w
theorem Zkz (args : Array Value) (w : World) : (callFunc 151 args).run prog w = ((ZoX args).run prog w).andThen fun v u => .ok (.value v) u :=
  run_callFunc_extern func151 Kr Kr Kr Kr args w
theorem Zf7{a:Addr}{w:World} :
  CP 20 #[.iface 198 (.pointer (some a)),.iface 198 (.pointer (some a))] w fun e u=>e=.returned (.bool true)/\u=w:=by
 obtain⟨i,c,b⟩:=Ybk.1 Tryz.isComp;obtain⟨j,d,f⟩:=Ybk.1 Tryz.isSize;have k:=Zhn;have g:=Zkz;have tT:=Tryz.isTypeOf;have cT:=Tryz.isComparable;have mR:=Tryz.isMethodComparable;have h:=run_eql_iface_ptr_same (P:=prog) w a underlying33 underlying198 c b d;go_enter func20,ntmps20;go_wp2;refine wp_loop_rounds 1 ?_;rw[rounds_succ];go_wp2;go_ret;exact⟨rfl,rfl⟩
theorem Zxl{b:Addr}{w:World} :
  CP 20 #[.nilIface,.iface 198 (.pointer (some b))] w fun e u=>e=.returned (.bool false)/\u=w:=by
 have a:=run_eql_iface_nil_left (P:=prog) w 198 (.pointer (some b)) underlying33;go_enter func20,ntmps20;go_wp2;go_ret;exact⟨rfl,rfl⟩
theorem Zxm{a b:Addr}{ca cb:Array Value}{ta tb:TypeId}{w:World}(d:a≠b)(g:w.heap[a.block]?=some (.cells ca ta (0,0)))(h:w.heap[b.block]?=some (.cells cb tb (0,0))) :
  CP 20 #[.iface 198 (.pointer (some a)),.iface 198 (.pointer (some b))] w fun e u=>e=.returned (.bool false)/\u=w:=by
 obtain⟨i,k,c⟩:=Ybk.1 Tryz.isComp;obtain⟨j,l,f⟩:=Ybk.1 Tryz.isSize;have o:=Zhn;have m:=Zkz;have tT:=Tryz.isTypeOf;have cT:=Tryz.isComparable;have mR:=Tryz.isMethodComparable;have nE:=Tryz.noIsE;have uE:=Tryz.noUnwrapE;have vE:=Tryz.noUnwrapsE;have nW:=Tryz.noIsW;have uW:=Tryz.hasUnwrapW;have mU:=Tryz.methodUnwrap;have n:=run_eql_iface_ptr_other (P:=prog) w underlying33 underlying198 k c l (by rw[f];decide) d g h;go_enter func20,ntmps20;go_wp2;refine wp_loop_rounds 1 ?_;rw[rounds_succ];go_wp2;go_ret;exact⟨rfl,rfl⟩
theorem Zf8{pb:Nat}{b:Addr}{w:World}(l:w.cell? ⟨pb,2,none⟩=some (.iface 198 (.pointer (some b)))) :
  CP 20 #[.iface 59 (Vp pb),.iface 198 (.pointer (some b))] w fun e u=>e=.returned (.bool true)/\u=w:=by
 obtain⟨i,c,a⟩:=Ybk.1 Tryz.isComp;obtain⟨j,d,f⟩:=Ybk.1 Tryz.isSize;have m:=Zhn;have g:=Zkz;have tT:=Tryz.isTypeOf;have cT:=Tryz.isComparable;have mR:=Tryz.isMethodComparable;have nE:=Tryz.noIsE;have uE:=Tryz.noUnwrapE;have vE:=Tryz.noUnwrapsE;have nW:=Tryz.noIsW;have uW:=Tryz.hasUnwrapW;have mU:=Tryz.methodUnwrap;have h:=run_eql_iface_ptr_same (P:=prog) w b underlying33 underlying198 c a d;have k:=run_eql_iface_types (P:=prog) 59 198 (Vp pb) (.pointer (some b)) underlying33 Dc w;go_enter func20,ntmps20;go_wp2;refine wp_loop_rounds 2 ?_;rw[rounds_succ];go_wp2;rw[rounds_succ];go_wp2;go_ret;exact⟨rfl,rfl⟩
theorem Zxn{pb:Nat}{b a:Addr}{ca cb:Array Value}{ta tb:TypeId}{w:World}(p:w.cell? ⟨pb,2,none⟩=some (.iface 198 (.pointer (some a))))(d:a≠b)(g:w.heap[a.block]?=some (.cells ca ta (0,0)))(h:w.heap[b.block]?=some (.cells cb tb (0,0))) :
  CP 20 #[.iface 59 (Vp pb),.iface 198 (.pointer (some b))] w fun e u=>e=.returned (.bool false)/\u=w:=by
 obtain⟨i,k,c⟩:=Ybk.1 Tryz.isComp;obtain⟨j,l,f⟩:=Ybk.1 Tryz.isSize;have q:=Zhn;have m:=Zkz;have tT:=Tryz.isTypeOf;have cT:=Tryz.isComparable;have mR:=Tryz.isMethodComparable;have nE:=Tryz.noIsE;have uE:=Tryz.noUnwrapE;have vE:=Tryz.noUnwrapsE;have nW:=Tryz.noIsW;have uW:=Tryz.hasUnwrapW;have mU:=Tryz.methodUnwrap;have n:=run_eql_iface_ptr_other (P:=prog) w underlying33 underlying198 k c l (by rw[f];decide) d g h;have o:=run_eql_iface_types (P:=prog) 59 198 (Vp pb) (.pointer (some b)) underlying33 Dc w;go_enter func20,ntmps20;go_wp2;refine wp_loop_rounds 2 ?_;rw[rounds_succ];go_wp2;rw[rounds_succ];go_wp2;go_ret;exact⟨rfl,rfl⟩
theorem ZtR{t:Value}{w:World} :
  CP 21 #[.nilIface,t] w fun e u=>e=.returned (.bool false)/\u=w:=by
 go_enter func21,ntmps21;go_wp2;go_ret;exact⟨rfl,rfl⟩
def Zlu:Array Value->Sem Value:=fun args=>ReflectliteValue.unpack (args.getD 0 (.tuple #[]))
def Zo0 : Array Value → Sem Value := ReflectliteValue.methodAny (ReflectliteValue.valueError "reflectlite.Value.Type" 0) fun t _ _ _ => ReflectliteType.toType t
def Zls : Array Value → Sem Value := ReflectliteValue.method (ReflectliteValue.valueError "reflectlite.Value.IsNil" 0) ReflectliteValue.isNil
def Zlt:Array Value->Sem Value:=ReflectliteType.abiMethod fun t=>do pure (.int .u8 (<-Rtype.kind t))
def ZoY:Array Value->Sem Value:=ReflectliteType.method ReflectliteType.elem
def ZoZ : Array Value → Sem Value := ReflectliteType.relation "Implements" ReflectliteType.implements_
def Zlq : Array Value → Sem Value := ReflectliteType.relation "AssignableTo" ReflectliteType.assignableTo
def Zlr : Array Value → Sem Value := ReflectliteValue.method (ReflectliteValue.valueError "reflectlite.Value.Elem" 0) ReflectliteValue.elem
theorem Ztx (args : Array Value) (w : World) : (callFunc 48 args).run prog w = ((Zlu args).run prog w).andThen fun v u => .ok (.value v) u :=
  run_callFunc_extern func48 Kr Kr Kr Kr args w
theorem Ztw (args : Array Value) (w : World) : (callFunc 49 args).run prog w = ((Zo0 args).run prog w).andThen fun v u => .ok (.value v) u :=
  run_callFunc_extern func49 Kr Kr Kr Kr args w
theorem Ztu (args : Array Value) (w : World) : (callFunc 50 args).run prog w = ((Zls args).run prog w).andThen fun v u => .ok (.value v) u :=
  run_callFunc_extern func50 Kr Kr Kr Kr args w
theorem Ztv (args : Array Value) (w : World) : (callFunc 135 args).run prog w = ((Zlt args).run prog w).andThen fun v u => .ok (.value v) u :=
  run_callFunc_extern func135 Kr Kr Kr Kr args w
theorem Zts (args : Array Value) (w : World) : (callFunc 152 args).run prog w = ((ZoY args).run prog w).andThen fun v u => .ok (.value v) u :=
  run_callFunc_extern func152 Kr Kr Kr Kr args w
theorem Ztt (args : Array Value) (w : World) : (callFunc 153 args).run prog w = ((ZoZ args).run prog w).andThen fun v u => .ok (.value v) u :=
  run_callFunc_extern func153 Kr Kr Kr Kr args w
theorem Ztr (args : Array Value) (w : World) : (callFunc 150 args).run prog w = ((Zlq args).run prog w).andThen fun v u => .ok (.value v) u :=
  run_callFunc_extern func150 Kr Kr Kr Kr args w
theorem ZE2 (args : Array Value) (w : World) : (callFunc 74 args).run prog w = ((Zlr args).run prog w).andThen fun v u => .ok (.value v) u :=
  run_callFunc_extern func74 Kr Kr Kr Kr args w
theorem ZE3 (args : Array Value) (w : World) : (callFunc 75 args).run prog w = ((ReflectliteValue.set args).run prog w).andThen fun v u => .ok (.value v) u :=
  run_callFunc_extern func75 Kr Kr Kr Kr args w
theorem Zpe(t:Addr)(w:World):(Zlu #[.iface 61 (.pointer (some t))]).run prog w
  = .ok (.agg #[.pointer (some ⟨18,61,none⟩),Vp w.heap.size,.int .u64 150]) (w.alloc (.cells #[.pointer (some t)] 61)):=by kernel_rfl
theorem Zpd(a:Addr)(w:World):(Zo0 #[.agg #[.pointer (some ⟨18,61,none⟩),.pointer (some a),.int .u64 150]]).run prog w
  = .ok (.iface 145 (.agg #[.pointer (some ⟨18,61,none⟩)])) w:=by kernel_rfl
theorem ZqQ (h : Value) (w : World) : (Go.method 327 145 (.agg #[h]) "Kind").run Tryz.prog w = .ok (135, h) w := by kernel_rfl
theorem Zpc(w:World):(Zlt #[.pointer (some ⟨18,61,none⟩)]).run prog w=.ok (.int .u8 22) w:=by kernel_rfl
theorem Zpb(w:World):(Zlt #[.pointer (some ⟨18,59,none⟩)]).run prog w=.ok (.int .u8 22) w:=by kernel_rfl
theorem ZqO (h : Value) (w : World) : (Go.method 327 145 (.agg #[h]) "Elem").run Tryz.prog w = .ok (152, .agg #[h]) w := by kernel_rfl
theorem ZqP (h : Value) (w : World) : (Go.method 327 145 (.agg #[h]) "Implements").run Tryz.prog w = .ok (153, .agg #[h]) w := by kernel_rfl
theorem ZqN (h : Value) (w : World) : (Go.method 327 145 (.agg #[h]) "AssignableTo").run Tryz.prog w = .ok (150, .agg #[h]) w := by kernel_rfl
theorem Zo8(w:World):(ZoY #[.agg #[.pointer (some ⟨18,61,none⟩)]]).run prog w=.ok (.iface 145 (.agg #[.pointer (some ⟨18,59,none⟩)])) w:=by kernel_rfl
theorem Zo9(w:World):(ZoZ #[.agg #[.pointer (some ⟨18,59,none⟩)],.iface 145 (.agg #[.pointer (some ⟨18,33,none⟩)])]).run prog w=.ok (.bool true) w:=by kernel_rfl
theorem Zv0(v:Value)(w:World):(ReflectliteType.typeOf #[.iface 59 v]).run prog w=.ok (.iface 145 (.agg #[.pointer (some ⟨18,59,none⟩)])) w:=by kernel_rfl
theorem ZvW(w:World):(Zlq #[.agg #[.pointer (some ⟨18,59,none⟩)],.iface 145 (.agg #[.pointer (some ⟨18,59,none⟩)])]).run prog w=.ok (.bool true) w:=by kernel_rfl
theorem ZvX(w:World):(Zlq #[.agg #[.pointer (some ⟨18,198,none⟩)],.iface 145 (.agg #[.pointer (some ⟨18,59,none⟩)])]).run prog w=.ok (.bool false) w:=by kernel_rfl
theorem Zv1(e:Addr)(w:World):(Zlu #[.iface 59 (.pointer (some e))]).run prog w
  = .ok (.agg #[.pointer (some ⟨18,59,none⟩),Vp w.heap.size,.int .u64 150]) (w.alloc (.cells #[.pointer (some e)] 59)):=by kernel_rfl
theorem Zzm(v:Value)(xT:TypeId)(w:World):(Instr.typeAssert (.iface 198 v) xT 156 true).run prog w=.ok (.tuple #[.nilIface,.bool false]) w:=run_typeAssert_lacksB underlying156 Kr Kr v xT w
theorem Zrv(a:Addr)(w:World):(ReflectliteValue.parts (.agg #[.pointer (some ⟨18,61,none⟩),.pointer (some a),.int .u64 150])).run prog w=.ok (some (61,a,150)) w:=by kernel_rfl
theorem Zpa(a p:Addr)(W:World)(b:W.cell? a=some (.pointer (some p))) :
  (Zls #[.agg #[.pointer (some ⟨18,61,none⟩),.pointer (some a),.int .u64 150]]).run prog W=.ok (.bool false) W:=by
 refine(congrArg (fun q=>Sem.run prog q W) (show Zls _=(ReflectliteValue.parts (.agg #[.pointer (some ⟨18,61,none⟩),.pointer (some a),.int .u64 150]) >>= fun r=>_) from rfl)).trans ?_;simp only[Sem.run_bind,Zrv,Result.andThen];simp[ReflectliteValue.isNil,loadVar,isAgg,underlying,underlying61,b,Result.andThen]
theorem Zz6(w:World):(Rtype.elem? 61).run prog w=.ok (some 59) w:=by kernel_rfl
theorem Zz7(p:Addr)(w:World):(ReflectliteValue.mk 59 p ReflectliteValue.flagAddr).run prog w=.ok (.agg #[.pointer (some ⟨18,59,none⟩),.pointer (some p),.int .u64 406]) w:=by kernel_rfl
theorem ZvY(a p:Addr)(W:World)(b:W.cell? a=some (.pointer (some p))) :
  (Zlr #[.agg #[.pointer (some ⟨18,61,none⟩),.pointer (some a),.int .u64 150]]).run prog W
   = .ok (.agg #[.pointer (some ⟨18,59,none⟩),.pointer (some p),.int .u64 406]) W:=by
 refine(congrArg (fun q=>Sem.run prog q W) (show Zlr _=(ReflectliteValue.parts (.agg #[.pointer (some ⟨18,61,none⟩),.pointer (some a),.int .u64 150]) >>= fun r=>_) from rfl)).trans ?_;simp only[Sem.run_bind,Zrv,Result.andThen];simp[ReflectliteValue.elem,loadVar,isAgg,underlying,underlying61,b,Result.andThen,Zz6,Zz7]
theorem Zz9(a:Addr)(w:World):(ReflectliteValue.parts (.agg #[.pointer (some ⟨18,59,none⟩),.pointer (some a),.int .u64 406])).run prog w=.ok (some (59,a,406)) w:=by kernel_rfl
theorem Zz8(a:Addr)(w:World):(ReflectliteValue.parts (.agg #[.pointer (some ⟨18,59,none⟩),.pointer (some a),.int .u64 150])).run prog w=.ok (some (59,a,150)) w:=by kernel_rfl
theorem Zz5(w:World):(Rtype.directlyAssignable 59 59).run prog w=.ok true w:=by kernel_rfl
theorem ZvZ(ta b e:Addr)(old:Value)(W:World)(a:W.cell? b=some (.pointer (some e)))(c:W.cell? ta=some old)(d:W.frozen? ta=false) :
  (ReflectliteValue.set #[.agg #[.pointer (some ⟨18,59,none⟩),.pointer (some ta),.int .u64 406],.agg #[.pointer (some ⟨18,59,none⟩),.pointer (some b),.int .u64 150]]).run prog W
   = .ok (.tuple #[]) (W.setCell ta (.pointer (some e))):=by
 refine(congrArg (fun q=>Sem.run prog q W) (show ReflectliteValue.set _=(ReflectliteValue.parts (.agg #[.pointer (some ⟨18,59,none⟩),.pointer (some ta),.int .u64 406]) >>= fun r=>ReflectliteValue.parts (.agg #[.pointer (some ⟨18,59,none⟩),.pointer (some b),.int .u64 150]) >>= fun s=>_) from rfl)).trans ?_;simp only[Sem.run_bind,Zz9,Zz8,Result.andThen];simp[ReflectliteValue.flagAddr,loadVar,isAgg,underlying,underlying59,a,Result.andThen,Zz5,storeVar,Value.cells,storeCells,Addr.add];rw[run_store prog W ta _ _ (by rfl)];simp[c,d]
theorem ZtP{e t:Addr}(old:Value){w:World}(c:w.cell? ⟨13,0,none⟩=some (.iface 145 (.agg #[.pointer (some ⟨18,33,none⟩)])))(a:w.cell? t=some old)(d:w.frozen? t=false) :
  CP 21 #[.iface 59 (.pointer (some e)),.iface 61 (.pointer (some t))] w fun ev u=>ev=.returned (.bool true)/\u=((((w.alloc (.cells #[.pointer (some t)] 61)).alloc (.cells #[.pointer (some ⟨18,61,none⟩),Vp w.heap.size,.int .u64 150] 116)).alloc (.cells #[.pointer (some ⟨18,61,none⟩),Vp w.heap.size,.int .u64 150] 116)).alloc (.cells #[.pointer (some e)] 59)).setCell t (.pointer (some e)):=by
 have o:=Ztx;have p:=Ztw;have q:=Ztu;have g:=Ztv;have h:=Zts;have i:=Ztt;have j:=Zhn;have k:=Ztr;have l:=ZE2;have m:=ZE3;have tO:=Zv0;have mA:=ZqN;have a25:=ZvW;have v25:=Zv1;have f6:=Zpe;have f7:=Zpd;have mK:=ZqQ;have mE:=ZqO;have mI:=ZqP;have k27:=Zpc;have k25:=Zpb;have e27:=Zo8;have i25:=Zo9;have n8:=Zpa ⟨w.heap.size,0,none⟩ t ((w.alloc (.cells #[.pointer (some t)] 61)).alloc (.cells #[.pointer (some ⟨18,61,none⟩),Vp w.heap.size,.int .u64 150] 116)) (by simp);have f:13<w.heap.size:=Yai _ _ c
 have n:((w.alloc (.cells #[.pointer (some t)] 61)).alloc (.cells #[.pointer (some ⟨18,61,none⟩),Vp w.heap.size,.int .u64 150] 116)).cell? ⟨13,0,none⟩=some (.iface 145 (.agg #[.pointer (some ⟨18,33,none⟩)])):=by
  rw[Ybm _ _ ⟨13,0,none⟩ (by simp;omega),Ybm _ _ ⟨13,0,none⟩ f];exact c
 have b:=Yai _ _ a;have el:=ZvY ⟨w.heap.size,0,none⟩ t (((w.alloc (.cells #[.pointer (some t)] 61)).alloc (.cells #[.pointer (some ⟨18,61,none⟩),Vp w.heap.size,.int .u64 150] 116)).alloc (.cells #[.pointer (some ⟨18,61,none⟩),Vp w.heap.size,.int .u64 150] 116)) (by rw[Ybm _ _ ⟨w.heap.size,0,none⟩ (by simp;omega)];simp)
 have st:=ZvZ t ⟨w.heap.size+1+1+1,0,none⟩ e old ((((w.alloc (.cells #[.pointer (some t)] 61)).alloc (.cells #[.pointer (some ⟨18,61,none⟩),Vp w.heap.size,.int .u64 150] 116)).alloc (.cells #[.pointer (some ⟨18,61,none⟩),Vp w.heap.size,.int .u64 150] 116)).alloc (.cells #[.pointer (some e)] 59))
  (by rw[World.cell?_alloc_at _ _ _ _ (by simp)];rfl)
  (by rw[Ybm _ _ t (by simp;omega),Ybm _ _ t (by simp;omega),Ybm _ _ t (by simp;omega),Ybm _ _ t b];exact a)
  (by rw[Ydc _ _ t (by simp;omega),Ydc _ _ t (by simp;omega),Ydc _ _ t (by simp;omega),Ydc _ _ t (Nat.ne_of_lt b)];exact d)
 go_enter func21,ntmps21;go_wp2;refine wp_loop_rounds 1 ?_;rw[rounds_succ];go_wp2;go_ret;exact⟨rfl,rfl⟩
theorem ZtQ{e t:Addr}{w:World}(a:w.cell? ⟨13,0,none⟩=some (.iface 145 (.agg #[.pointer (some ⟨18,33,none⟩)]))) :
  CP 21 #[.iface 198 (.pointer (some e)),.iface 61 (.pointer (some t))] w fun ev u=>ev=.returned (.bool false)/\BW w u:=by
 have j:=Ztx;have k:=Ztw;have l:=Ztu;have c:=Ztv;have d:=Zts;have f:=Ztt;have g:=Zhn;have h:=Ztr;have tO:=Tryz.isTypeOf;have mA:=ZqN;have a25:=ZvX;have f6:=Zpe;have f7:=Zpd;have mK:=ZqQ;have mE:=ZqO;have mI:=ZqP;have k27:=Zpc;have k25:=Zpb;have e27:=Zo8;have i25:=Zo9;have nA:=Zzm;have uE:=Tryz.noUnwrapE;have vE:=Tryz.noUnwrapsE;have n8:=Zpa ⟨w.heap.size,0,none⟩ t ((w.alloc (.cells #[.pointer (some t)] 61)).alloc (.cells #[.pointer (some ⟨18,61,none⟩),Vp w.heap.size,.int .u64 150] 116)) (by simp);have b:13<w.heap.size:=Yai _ _ a
 have i:((w.alloc (.cells #[.pointer (some t)] 61)).alloc (.cells #[.pointer (some ⟨18,61,none⟩),Vp w.heap.size,.int .u64 150] 116)).cell? ⟨13,0,none⟩=some (.iface 145 (.agg #[.pointer (some ⟨18,33,none⟩)])):=by
  rw[Ybm _ _ ⟨13,0,none⟩ (by simp;omega),Ybm _ _ ⟨13,0,none⟩ b];exact a
 go_enter func21,ntmps21;go_wp2;refine wp_loop_rounds 1 ?_;rw[rounds_succ];go_wp2;go_ret;exact⟨rfl,belB⟩
end Go.Proofs.YtmncdbepjhmkgaaGreatDoor
