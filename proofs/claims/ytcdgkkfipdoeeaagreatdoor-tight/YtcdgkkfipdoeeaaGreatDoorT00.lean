/- Parts. -/
import Derived.WalkKit
import Derived.Lib.Strings
import Derived.WalkSpells
import Derived.WalkLawsBesides
import Derived.Test.YtcdgkkfipdoeeaaGreatDoorProg
set_option maxHeartbeats 1000000
namespace Go.Proofs.YtcdgkkfipdoeeaaGreatDoor.LS
open Go Go.RowKit
theorem hid{p:Prop}(h:p):Hid p:=h
def bl(s:ByteArray):List UInt8:=s.data.toList
theorem ZbH(s:ByteArray):s.toList=bl s:=Lib.toList_data s
theorem Zi(s:ByteArray):(bl s).length=s.size:=by simp[bl]
theorem Zsu{s:ByteArray}(h:s.size<1):s.toList.isEmpty=true:=by
 rw[ZbH,List.isEmpty_iff,<-List.length_eq_zero_iff,Zi];omega
theorem Zvs{s:ByteArray}(h:1<=s.size):s.toList.isEmpty=false:=by
 rw[ZbH,List.isEmpty_eq_false_iff,<-List.length_pos_iff,Zi];omega
theorem Zbv(l:List UInt8):bl ⟨l.toArray⟩=l:=by simp[bl]
theorem Zoy(s:ByteArray):(⟨(bl s).toArray⟩:ByteArray)=s:=by simp[bl]
theorem ZgF (s : ByteArray) (k : Nat) (h : k < s.size) : (bl s)[k]'(by rw [Zi]; exact h) = s[k] := by
  unfold bl;rfl
theorem ZeN{a b:ByteArray}(h:bl a=bl b):a=b:=by rw[<-Zoy a,<-Zoy b,h]
theorem ZgE(s:ByteArray)(a b:Nat):bl (s.extract a b)=((bl s).take b).drop a:=by
 unfold bl
 rw[ByteArray.data_extract]
 simp[Array.toList_extract]
 rw[List.drop_take]
def Zk(c:UInt8):Bool:=decide (97<=(c.toNat:Int)) && decide ((c.toNat:Int)<=122)
def Zt(c:UInt8):Bool:=decide (48<=(c.toNat:Int)) && decide ((c.toNat:Int)<=57)
def ZA(l:List UInt8):Bool:=l.all Zk && (decide (1<=(l.length:Int)) && decide ((l.length:Int)<=8))
def ZS(l:List UInt8):Bool:=l.all (fun c=>Zk c || Zt c) && decide ((l.length:Int)<=8)
theorem ZiU(s:ByteArray)(k:Nat)(h:k<s.size):(bl s).take (k+1)=(bl s).take k++[s[k]]:=by
 rw[List.take_succ_eq_append_getElem (by rw[Zi];exact h),ZgF s k h]
theorem ZdI(s:ByteArray)(k:Nat)(h:k<s.size):(bl s).drop k=s[k]::(bl s).drop (k+1):=by
 rw[List.drop_eq_getElem_cons (by rw[Zi];exact h),ZgF s k h]
theorem Zja(p:UInt8->Bool)(s:ByteArray)(k:Nat)(h:k<s.size)(ha:((bl s).take k).all p=true)(hp:p s[k]=true):((bl s).take (k+1)).all p=true:=by
 rw[ZiU s k h,List.all_append,ha];simp[hp]
theorem Zi9(p:UInt8->Bool)(s:ByteArray)(k:Nat)(h:k<s.size)(hp:p s[k]=false):(bl s).all p=false:=by
 rw[List.all_eq_false]
 exact⟨s[k],by rw[<-ZgF s k h];exact List.getElem_mem _,by simp[hp]⟩
theorem Zi8(p:UInt8->Bool)(s:ByteArray)(k:Nat)(h:¬k<s.size)(ha:((bl s).take k).all p=true):(bl s).all p=true:=by
 rwa [List.take_of_length_le (by rw[Zi];omega)]at ha
def val(l:List UInt8):Nat:=l.foldl (fun n c=>10*n+(c.toNat - 48)) 0
def ZL(most:Nat)(l:List UInt8):Option Nat:=
 if l.length<1∨(l.head?=some 48/\1<l.length)∨l.all Zt=false∨most<val l then none else some (val l)
theorem ZlC(l:List UInt8)(c:UInt8):val (l++[c])=10*val l+(c.toNat - 48):=by simp[val]
theorem Zzx (r : List UInt8) : ∀ n : Nat, n <= r.foldl (fun n c => 10 * n + (c.toNat - 48)) n := by
  induction r with
  | nil=>intro n;exact Nat.le_refl _
  | cons c r ih=>intro n;exact Nat.le_trans (show n<=10*n+(c.toNat - 48) by omega) (ih _)
theorem Zzz(l:List UInt8)(k:Nat):val (l.take k)<=val l:=by
 conv=>rhs;rw[<-List.take_append_drop k l]
 unfold val
 rw[List.foldl_append]
 exact Zzx _ _
theorem Zsl{c:UInt8}(h:Zt c=true):48<=c.toNat/\c.toNat<=57:=by
 simp[Zt]at h;omega
def seek(c:UInt8):List UInt8->Option Nat
 | []=>none
 | b::l=>if b == c then some 0 else (seek c l).map (· + 1)
def cut(c:UInt8)(l:List UInt8):Option (List UInt8×List UInt8):=(seek c l).map fun i=>(l.take i,l.drop (i+1))
theorem Zxv(c:UInt8)(a b:List UInt8)(h:seek c a=none):seek c (a++b)=(seek c b).map (· + a.length):=by
 induction a with
 | nil=>simp
 | cons x a ih=>
  unfold seek at h
  split at h
  ·cases h
  ·rename_i hx
   have h':seek c a=none:=by simpa using h
   simp only[List.cons_append,seek,hx]
   rw[ih h']
   cases seek c b <;> simp[Nat.add_assoc]
theorem Zln(c:UInt8)(l:List UInt8):seek c l=none ↔ c∉l:=by
 induction l with
 | nil=>simp[seek]
 | cons b l ih=>
  unfold seek
  by_cases hb:b=c
  ·subst hb;simp
  ·simp[hb,ih,Ne.symm hb]
theorem ZiG{c:UInt8}{l:List UInt8}{i:Nat}(h:seek c l=some i):∃a b,l=a++c::b/\a.length=i/\c∉a:=by
 induction l generalizing i with
 | nil=>simp[seek]at h
 | cons b l ih=>
  unfold seek at h
  by_cases hb:b=c
  ·subst hb;simp at h;subst h;exact⟨[],l,rfl,rfl,by simp⟩
  ·simp[hb]at h
   obtain⟨j,hj,rfl⟩:=h
   obtain⟨a',b',rfl,rfl,hn⟩:=ih hj
   exact⟨b::a',b',rfl,by simp,by simp[hn,Ne.symm hb]⟩
theorem Zf0(c:UInt8)(a b:List UInt8)(h:c∉a):seek c (a++c::b)=some a.length:=by
 rw[Zxv c a _ ((Zln c a).2 h)];simp[seek]
theorem Zxw{c:UInt8}{l:List UInt8}{i:Nat}(h:seek c l=some i):i<l.length:=by
 obtain⟨a,b,rfl,rfl,_⟩:=ZiG h;simp
def pre(p:List UInt8):List (List UInt8)->List (List UInt8)
 | []=>[p]
 | h::t=>(p++h)::t
def split(c:UInt8):List UInt8->List (List UInt8)
 | []=>[[]]
 | b::l=>if b == c then []::split c l else pre [b] (split c l)
theorem Zhg(c:UInt8)(l:List UInt8):split c l≠[]:=by
 cases l with
 | nil=>simp[split]
 | cons b l=>
  unfold split
  split
  ·simp
  ·cases h:split c l <;> simp[pre]
theorem Zwy(c:UInt8)(l:List UInt8):pre [] (split c l)=split c l:=by
 cases h:split c l with
 | nil=>exact absurd h (Zhg c l)
 | cons a t=>simp[pre]
theorem Zwz(p q:List UInt8)(l:List (List UInt8))(h:l≠[]):pre p (pre q l)=pre (p++q) l:=by
 cases l with
 | nil=>exact absurd rfl h
 | cons a t=>simp[pre]
theorem Zhf(c:UInt8)(l:List UInt8):split c (c::l)=[]::split c l:=by simp[split]
theorem ZiP(c b:UInt8)(l:List UInt8)(h:(b == c)=false):split c (b::l)=pre [b] (split c l):=by
 simp only[split,h];rfl
theorem ZiM(c:UInt8)(p r:List UInt8)(h:c∉p):split c (p++r)=pre p (split c r):=by
 induction p with
 | nil=>rw[List.nil_append,Zwy]
 | cons x p ih=>
  have hx:(x == c)=false:=by simp;rintro rfl;simp at h
  rw[List.cons_append,ZiP c x _ hx,ih (by simp at h;exact h.2),Zwz _ _ _ (Zhg c r)];rfl
theorem ZiO(c:UInt8)(l:List UInt8):(split c l).length<=l.length+1:=by
 induction l with
 | nil=>simp[split]
 | cons b l ih=>
  by_cases hb:b=c
  ·subst hb;rw[Zhf];simp;exact ih
  ·rw[ZiP c b l (by simp[hb])]
   cases h2:split c l with
   | nil=>simp[pre]
   | cons a t=>rw[h2]at ih;simp[pre];simp at ih;omega
end Go.Proofs.YtcdgkkfipdoeeaaGreatDoor.LS
namespace Go.Proofs.YtcdgkkfipdoeeaaGreatDoor
open Go.RowKit LS
theorem Zset {α:Type}:(∀(l:List α)(i:Nat)(a:α),l.toArray.setIfInBounds i a=(l.set i a).toArray)/\(∀(a:α)(l:List α)(b:α),(a::l).set 0 b=b::l)/\∀(a:α)(l:List α)(i:Nat)(b:α),(a::l).set (i+1) b=a::l.set i b:=⟨fun _ _ _=>by simp only [List.setIfInBounds_toArray],fun _ _ _=>rfl,fun _ _ _ _=>rfl⟩
theorem Zget {α:Type}:(∀(a:α)(l:List α),(a::l)[0]?=some a)/\∀(a:α)(l:List α)(i:Nat),(a::l)[i+1]?=l[i]?:=⟨fun _ _=>rfl,fun _ _ _=>rfl⟩
theorem Zbal {w:World}{o:Obj}:Below w.heap.size w (w.alloc o):=(Below.refl _ _).alloc (Nat.le_refl _) _
theorem Zw{w w':World}{base:Nat}{e:TypeId}{size:Nat}{v:Value}{n:Nat}{xs:List Value}(h:w.ownsRow base e size v n xs)(hb:Below w.heap.size w w'):w'.ownsRow base e size v n xs:=by
 obtain⟨h1,h2⟩:=h
 refine⟨h1,?_⟩
 rcases h2 with h2|⟨g,cap,cur,hv,hg,hh,r⟩
 ·exact Or.inl h2
 ·have hlt:g<w.heap.size:=by
   rcases Nat.lt_or_ge g w.heap.size with h|h
   ·exact h
   ·rw[Array.getElem?_eq_none h]at hh;cases hh
  exact Or.inr ⟨g,cap,cur,hv,hg,by rw[hb.block g hlt];exact hh,r⟩
theorem Zv{w:World}{base:Nat}{e:TypeId}{size:Nat}{v:Value}{n:Nat}{xs:List Value}(h:w.ownsRow base e size v n xs):∃av cp,v=.slice av n cp:=by
 rcases h.2 with ⟨h,h'⟩|⟨g,cap,cur,h,_⟩
 ·exact⟨none,0,by rw[h,h']⟩
 ·exact⟨_,_,h⟩
theorem ZvS{w:World}{base:Nat}{e:TypeId}{size:Nat}{v:Value}{n:Nat}{xs:List Value}(h:w.ownsRow base e size v n xs)(k:Nat):(w.drewN k).ownsRow base e size v n xs:=h
theorem Zl6(B:Nat)(w:World)(k:Nat):Below B w (w.drewN k):=⟨rfl,rfl,rfl,Nat.le_refl _,fun _ _=>rfl⟩
theorem ZgD{B:Nat}{a w:World}(h:Below B a w)(k:Nat):Below B a (w.drewN k):=h.trans (Zl6 B w k)
theorem belB{n:Nat}{a w:World}(h:Below n a w:=by repeat (first|exact Below.refl _ _|assumption|refine Below.alloc ?_ (by first|omega|(simp;omega)|simp) _|refine Below.setCell ?_ (by first|omega|(simp;omega)|simp) _|refine ZgD ?_ _|refine Below.drew ?_)):Below n a w:=h
theorem Zjr{B:Nat}{w w':World}{k:Nat}(h:Below B (w.drewN k) w'):Below B w w':=⟨h.os,h.tape,h.output,h.size,h.block⟩
theorem Z7{s:ByteArray}{r:List UInt8}(h:bl s=r):s.size=r.length:=by rw[<-Zi,h]
theorem Zme{W:World}{a:Nat}{u v:Value}(h0:W.cell? ⟨a,0,none⟩=some u)(h1:W.cell? ⟨a,1,none⟩=some v):∀j x,[u,v][j]?=some x->W.cell? ((⟨a,0,none⟩:Addr).add j)=some x:=by
 intro j x hj
 match j,hj with
 | 0,hj=>simp at hj;subst hj;simpa [Addr.add] using h0
 | 1,hj=>simp at hj;subst hj;simpa [Addr.add] using h1
theorem ZrA{W:World}{a:Nat}{u v x:Value}(h0:W.cell? ⟨a,0,none⟩=some u)(h1:W.cell? ⟨a,1,none⟩=some v)(h2:W.cell? ⟨a,2,none⟩=some x):∀j y,[u,v,x][j]?=some y->W.cell? ((⟨a,0,none⟩:Addr).add j)=some y:=by
 intro j y hj
 match j,hj with
 | 0,hj=>simp at hj;subst hj;simpa [Addr.add] using h0
 | 1,hj=>simp at hj;subst hj;simpa [Addr.add] using h1
 | 2,hj=>simp at hj;subst hj;simpa [Addr.add] using h2
theorem Zfd(g j:Nat):(⟨g,0,none⟩:Addr).add j=⟨g,j,none⟩:=by
 by_cases h:j=0 <;> simp[Addr.add,h]
theorem Zr{w:World}{base:Nat}{e:TypeId}{size:Nat}{g n cp:Nat}{xs:List Value}(h:w.ownsRow base e size (.slice (some ⟨g,0,none⟩) n cp) n xs)(j:Nat)(u:Value)(hj:xs[j]?=some u):w.cell? ⟨g,j,none⟩=some u:=by
 have:=h.cells rfl j u hj;rwa [Zfd]at this
theorem Zbq{w:World}{base:Nat}{e:TypeId}{size:Nat}{g n cp:Nat}{xs:List Value}(h:w.ownsRow base e size (.slice (some ⟨g,0,none⟩) n cp) n xs):g<w.heap.size:=(h.lt g rfl).2
theorem ZW{w:World}{base:Nat}{e:TypeId}{size:Nat}{v:Value}{n:Nat}{xs:List Value}(h:w.ownsRow base e size v n xs)(hn:0<n):∃g cp,v=.slice (some ⟨g,0,none⟩) n cp:=by
 rcases h.2 with ⟨_,h0⟩|⟨g,cap,cur,hv,_⟩
 ·omega
 ·exact⟨g,cap,hv⟩
theorem ZoQ{w:World}{b1 b2:Nat}{e1 e2:TypeId}{s1 s2:Nat}{v1 v2:Value}{n1 n2:Nat}{xs1 xs2:List Value}(h1:w.ownsRow b1 e1 s1 v1 n1 xs1)(h2:w.ownsRow b2 e2 s2 v2 n2 xs2)(he:e1≠e2):v1.ownBlock=none∨v1.ownBlock≠v2.ownBlock:=by
 rcases h1.2 with ⟨rfl,_⟩|⟨g1,c1,cur1,rfl,_,hh1,_⟩
 ·exact Or.inl rfl
 ·right
  rcases h2.2 with ⟨rfl,_⟩|⟨g2,c2,cur2,rfl,_,hh2,_⟩
  ·simp[Value.ownBlock]
  ·intro h
   have hg:g1=g2:=by simpa [Value.ownBlock] using h
   subst hg
   rw[hh1]at hh2
   injection hh2 with h3
   injection h3 with _ h4
   exact he h4
theorem Zdl{w:World}{b:Nat}{e:TypeId}{sz:Nat}{v:Value}{n:Nat}{xs:List Value}(h:w.ownsRow b e sz v n xs){q:Nat}{c:Array Value}{t:TypeId}{fr:Nat×Nat}(hq:w.heap[q]?=some (.cells c t fr))(ht:t≠e):some q≠v.ownBlock:=by
 rcases h.2 with ⟨rfl,_⟩|⟨g,cp,cur,rfl,_,hh,_⟩
 ·simp[Value.ownBlock]
 ·intro he
  have hg:q=g:=by simpa [Value.ownBlock] using he
  subst hg
  rw[hq]at hh
  injection hh with h3
  injection h3 with _ h4
  exact ht h4
theorem Zg5{s:ByteArray}(h:s.toList.isEmpty=true):bl s=[]:=by rw[ZbH]at h;exact List.isEmpty_iff.1 h
theorem Zin{s:ByteArray}(h:s.toList.isEmpty=false):bl s≠[]:=by rw[ZbH]at h;exact List.isEmpty_eq_false_iff.1 h
theorem ZpD(c:UInt8)(l:List UInt8):∀x∈split c l,x.length<=l.length:=by
 induction l with
 | nil=>simp[split]
 | cons b l ih=>
  intro x hx
  by_cases hb:b=c
  ·subst hb;rw[Zhf]at hx
   rcases List.mem_cons.1 hx with rfl|hx
   ·simp
   ·have:=ih x hx;simp;omega
  ·rw[ZiP c b l (by simp[hb])]at hx
   cases hsp:split c l with
   | nil=>exact absurd hsp (Zhg c l)
   | cons h t=>
    rw[hsp]at hx ih
    simp only[pre]at hx
    rcases List.mem_cons.1 hx with rfl|hx
    ·have:=ih h (by simp);simp;omega
    ·have:=ih x (by simp[hx]);simp;omega
theorem ZiN(c:UInt8)(l:List UInt8)(k:Nat)(hk:k<(split c l).length):((split c l).getD k []).length<=l.length:=by
 have e:(split c l).getD k []=(split c l)[k]:=by simp[hk]
 rw[e];exact ZpD c l _ (List.getElem_mem _)
theorem ZfQ{most v:Nat}{l:List UInt8}(h:ZL most l=some v):v<=most:=by
 unfold ZL at h;split at h
 ·cases h
 ·rename_i hn;have:=Option.some.inj h;simp at hn;omega
def sents:List Nat:=[0,1,2,3,4,5,6,7,8,9,10,11,12]
structure Vars (w:World) (A:Nat->Addr) (m:Int):Prop where
 max:w.cell? ⟨14,0,none⟩=some (.int .i64 m)
 sent:∀g∈sents,w.cell? ⟨g,0,none⟩=some (.iface 432 (.pointer (some (A g))))
 apart:∀g∈sents,∀h∈sents,g≠h->A g≠A h
 row:∀g∈sents,∃c t,w.heap[(A g).block]?=some (.cells c t (0,0))
 handle:w.cell? ⟨13,0,none⟩=some (.iface 209 (.agg #[.pointer (some ⟨20,46,none⟩)]))
theorem Vars.below{w w':World}{A:Nat->Addr}{m:Int}(h:Vars w A m)(hb:Below w.heap.size w w'):Vars w' A m where
 max:=(hb.cell (p:=⟨_,0,none⟩) (World.block_lt_of_cell? _ _ h.max)).trans h.max
 sent g hg:=(hb.cell (p:=⟨_,0,none⟩) (World.block_lt_of_cell? _ _ (h.sent g hg))).trans (h.sent g hg)
 apart:=h.apart
 row g hg:=by
  obtain⟨c,t,e⟩:=h.row g hg
  refine⟨c,t,(hb.block _ ?_).trans e⟩
  rcases Nat.lt_or_ge (A g).block w.heap.size with h|h
  ·exact h
  ·rw[Array.getElem?_eq_none h]at e;cases e
 handle:=(hb.cell (p:=⟨_,0,none⟩) (World.block_lt_of_cell? _ _ h.handle)).trans h.handle
theorem Vars.alloc{w:World}{A:Nat->Addr}{m:Int}(h:Vars w A m)(o:Obj):Vars (w.alloc o) A m:=h.below Zbal
theorem Vars.drewN{w:World}{A:Nat->Addr}{m:Int}(h:Vars w A m)(k:Nat):Vars (w.drewN k) A m:=h.below (Zl6 _ _ _)
theorem ZdR{a b:Bool}(h:a=b):Ending.returned (.bool a)=.returned (.bool b):=by rw[h]
theorem Zw7{k:IntKind}{a b:Int}(h:a=b):Ending.returned (.int k a)=.returned (.int k b):=by rw[h]
theorem ZdK(c:UInt8)(w:World) :
  Calls Tryz.prog 47 #[.int .u8 c.toNat] w fun e w'=>e=.returned (.bool (Zk c))/\w'=w:=by
 go_enter Tryz.func47,Tryz.ntmps47
 go_wp2
 all_goals
  go_ret
  exact⟨ZdR (by unfold Zk;simp;omega),rfl⟩
theorem Zc8(c:UInt8)(w:World) :
  Calls Tryz.prog 44 #[.int .u8 c.toNat] w fun e w'=>e=.returned (.bool (Zt c))/\w'=w:=by
 go_enter Tryz.func44,Tryz.ntmps44
 go_wp2
 all_goals
  go_ret
  exact⟨ZdR (by unfold Zt;simp;omega),rfl⟩
theorem ZzH(s:ByteArray)(w:World)(hs:s.size<=70000) :
  Calls Tryz.prog 48 #[.string s] w fun e w'=>e=.returned (.bool (ZA (bl s)))/\w'=w:=by
 by_cases h1:s.size<1∨8<s.size
 ·have HF:Hid (ZA (bl s)=false):=hid (by
   unfold ZA;rw[Zi]
   have:(decide (1<=(s.size:Int)) && decide ((s.size:Int)<=8))=false:=by simp;omega
   rw[this];simp)
  go_enter Tryz.func48,Tryz.ntmps48
  go_wp2
  all_goals first|omega|(go_ret;exact⟨ZdR HF.symm,rfl⟩)
 ·have h2:1<=(s.size:Int):=by omega
  have h3:(s.size:Int)<=8:=by omega
  go_enter Tryz.func48,Tryz.ntmps48
  go_wp2
  go_loop [14] (fun i=>∃k:Nat,k<=s.size/\i=.int .i64 k/\((bl s).take k).all Zk=true) (fun i=>s.size - (intOf i).toNat)
  case atStart=>exact⟨0,Nat.zero_le _,rfl,by simp⟩
  case round=>
   obtain⟨k,hk,rfl,ha0⟩:=hrel
   have ha:Hid (((bl s).take k).all Zk=true):=ha0
   clear ha0
   by_cases hlt:k<s.size
   ·cases hl:Zk s[k]
    ·have HF:Hid (ZA (bl s)=false):=by unfold ZA;rw[Zi9 Zk s k hlt hl];rfl
     go_wp2_with (go_at_call 47;refine(ZdK _ _).mono ?_;rintro e w' ⟨rfl,rfl⟩)
     go_ret
     exact⟨ZdR HF.symm,rfl⟩
    ·have HF':Hid (((bl s).take (k+1)).all Zk=true):=Zja Zk s k hlt ha.out hl
     go_wp2_with (go_at_call 47;refine(ZdK _ _).mono ?_;rintro e w' ⟨rfl,rfl⟩)
     go_round
     case rel=>exact⟨k+1,by omega,by go_num,HF'.out⟩
     case measure=>simp[intOf];omega
   ·have HF:Hid (ZA (bl s)=true):=hid (by
     unfold ZA;rw[Zi8 Zk s k hlt ha.out,Zi];simp;omega)
    go_wp2
    go_ret
    exact⟨ZdR HF.symm,rfl⟩
theorem ZlE(s:ByteArray)(w:World)(hs:s.size<=6000) :
  Calls Tryz.prog 48 #[.string s] w fun e w'=>e=.returned (.bool (ZA (bl s)))/\w'=w:=ZzH s w (by omega)
theorem ZlF(s:ByteArray)(w:World)(hs:s.size<=6000) :
  Calls Tryz.prog 49 #[.string s] w fun e w'=>e=.returned (.bool (ZS (bl s)))/\w'=w:=by
 by_cases h1:8<s.size
 ·have HF:Hid (ZS (bl s)=false):=hid (by
   unfold ZS;rw[Zi]
   have:decide ((s.size:Int)<=8)=false:=by simp;omega
   rw[this];simp)
  go_enter Tryz.func49,Tryz.ntmps49
  go_wp2
  go_ret
  exact⟨ZdR HF.symm,rfl⟩
 ·have h3:(s.size:Int)<=8:=by omega
  go_enter Tryz.func49,Tryz.ntmps49
  go_wp2
  go_loop [9] (fun i=>∃k:Nat,k<=s.size/\i=.int .i64 k/\((bl s).take k).all (fun c=>Zk c || Zt c)=true) (fun i=>s.size - (intOf i).toNat)
  case atStart=>exact⟨0,Nat.zero_le _,rfl,by simp⟩
  case round=>
   obtain⟨k,hk,rfl,ha0⟩:=hrel
   have ha:Hid (((bl s).take k).all (fun c=>Zk c || Zt c)=true):=ha0
   clear ha0
   by_cases hlt:k<s.size
   ·have HS:Hid ((Zk s[k] || Zt s[k])=true->((bl s).take (k+1)).all (fun c=>Zk c || Zt c)=true):=Zja (fun c=>Zk c || Zt c) s k hlt ha.out
    have HN : Hid ((Zk s[k] || Zt s[k]) = false -> ZS (bl s) = false) := fun h => by
      unfold ZS;rw[Zi9 (fun c=>Zk c || Zt c) s k hlt h];rfl
    cases hl:Zk s[k] <;> cases hd:Zt s[k]
    ·go_wp2_with (first|(go_at_call 47;refine(ZdK _ _).mono ?_;rintro e w' ⟨rfl,rfl⟩)|(go_at_call 44;refine(Zc8 _ _).mono ?_;rintro e w' ⟨rfl,rfl⟩))
     go_ret
     exact⟨ZdR (HN.out (by rw[hl,hd];rfl)).symm,rfl⟩
    all_goals
     go_wp2_with (first|(go_at_call 47;refine(ZdK _ _).mono ?_;rintro e w' ⟨rfl,rfl⟩)|(go_at_call 44;refine(Zc8 _ _).mono ?_;rintro e w' ⟨rfl,rfl⟩))
     go_round
     case rel=>exact⟨k+1,by omega,by go_num,HS.out (by rw[hl,hd];rfl)⟩
     case measure=>simp[intOf];omega
   ·have HF:Hid (ZS (bl s)=true):=hid (by
     unfold ZS;rw[Zi8 _ s k hlt ha.out,Zi];simp;omega)
    go_wp2
    go_ret
    exact⟨ZdR HF.symm,rfl⟩
def numI(most:Nat)(l:List UInt8):Int:=match ZL most l with|none=>-1|some v=>v
theorem ZoK{most:Nat}{l:List UInt8}(h:ZL most l=none):numI most l=-1:=by unfold numI;rw[h]
theorem ZfO{most v:Nat}{l:List UInt8}(h:ZL most l=some v):numI most l=v:=by unfold numI;rw[h]
theorem ZvA(most:Nat)(s:ByteArray)(h:s.size<1):ZL most (bl s)=none:=by
 unfold ZL;rw[if_pos (Or.inl (by rw[Zi];exact h))]
theorem ZvE(most:Nat)(s:ByteArray)(h1:1<s.size)(h:s[0].toNat=48):ZL most (bl s)=none:=by
 unfold ZL
 refine if_pos (Or.inr (Or.inl ⟨?_,by rw[Zi];exact h1⟩))
 rw[List.head?_eq_getElem?,List.getElem?_eq_getElem (by rw[Zi];omega),ZgF s 0 (by omega)]
 exact congrArg some (UInt8.toNat_inj.1 h)
theorem Zvv(most:Nat)(s:ByteArray)(k:Nat)(h:k<s.size)(hd:Zt s[k]=false):ZL most (bl s)=none:=by
 unfold ZL;exact if_pos (Or.inr (Or.inr (Or.inl (Zi9 Zt s k h hd))))
theorem Zvy(most:Nat)(s:ByteArray)(k:Nat)(h:k<s.size)(ho:most<10*val ((bl s).take k)+(s[k].toNat - 48)):ZL most (bl s)=none:=by
 unfold ZL
 refine if_pos (Or.inr (Or.inr (Or.inr ?_)))
 have:=Zzz (bl s) (k+1)
 rw[ZiU s k h,ZlC]at this
 omega
theorem Zvx(most:Nat)(s:ByteArray)(k:Nat)(h:¬k<s.size)(h1:1<=s.size)(hz:¬(s[0].toNat=48/\1<s.size))(ha:((bl s).take k).all Zt=true)(hv:val ((bl s).take k)<=most):ZL most (bl s)=some (val ((bl s).take k)):=by
 have ha':=Zi8 Zt s k h ha
 rw[List.take_of_length_le (by rw[Zi];omega)]at hv ⊢
 unfold ZL
 refine if_neg ?_
 rintro(h|⟨h,h'⟩|h|h)
 ·rw[Zi]at h;omega
 ·rw[Zi]at h'
  rw[List.head?_eq_getElem?,List.getElem?_eq_getElem (by rw[Zi];omega),ZgF s 0 (by omega)]at h
  exact hz ⟨by rw[Option.some.inj h];rfl,h'⟩
 ·rw[ha']at h;cases h
 ·omega
theorem Zzy(s:ByteArray)(k:Nat)(h:k<s.size):val ((bl s).take (k+1))=10*val ((bl s).take k)+(s[k].toNat - 48):=by
 rw[ZiU s k h,ZlC]
def numT(most:Nat)(l:List UInt8):Value:=.tuple #[.int .i64 ((ZL most l).getD 0:Nat),.bool (ZL most l).isSome]
theorem ZfP{most:Nat}{l:List UInt8}(h:ZL most l=none):numT most l=.tuple #[.int .i64 0,.bool false]:=by unfold numT;rw[h];rfl
theorem ZkL{most v:Nat}{l:List UInt8}(h:ZL most l=some v):numT most l=.tuple #[.int .i64 v,.bool true]:=by unfold numT;rw[h];rfl
theorem ZzJ(s:ByteArray)(most:Nat)(w:World)(hs:s.size<=70000)(hm9:9<=most)(hm:most<=1000000000) :
  Calls Tryz.prog 46 #[.string s,.int .i64 most] w fun e w'=>e=.returned (numT most (bl s))/\w'=w:=by
 by_cases h0:s.size<1
 ·have HF:Hid (numT most (bl s)=_):=ZfP (ZvA most s h0)
  have he:s.toList.isEmpty=true:=Zsu h0
  go_enter Tryz.func46,Tryz.ntmps46
  go_wp2
  go_ret2
  exact⟨by rw[HF.out];rfl,rfl⟩
 have h1:1<=s.size:=by omega
 have he:s.toList.isEmpty=false:=Zvs h1
 by_cases hz:s[0].toNat=48/\1<s.size
 ·have HF:Hid (numT most (bl s)=_):=ZfP (ZvE most s hz.2 hz.1)
  have hz1:((s[0].toNat:Int) == 48)=true:=by rw[hz.1];rfl
  have hz2:=hz.2
  clear hz
  go_enter Tryz.func46,Tryz.ntmps46
  go_wp2
  go_ret2
  exact⟨by rw[HF.out];rfl,rfl⟩
 have HZ:Hid (¬(s[0].toNat=48/\1<s.size)):=hz
 have hcase:(((s[0].toNat:Int) == 48)=true/\decide (1<(s.size:Int))=false)∨((s[0].toNat:Int) == 48)=false:=by
  by_cases hz1:s[0].toNat=48
  ·exact Or.inl ⟨by rw[hz1];rfl,by simp;have:¬1<s.size:=fun h=>hz ⟨hz1,h⟩;omega⟩
  ·exact Or.inr (by rw[beq_eq_false_iff_ne];omega)
 clear hz h0
 rcases hcase with ⟨hz3,hd2⟩|hz3
 all_goals
  go_enter Tryz.func46,Tryz.ntmps46
  go_wp2
  go_loop [6,23] (fun n i=>∃k:Nat,k<=s.size/\i=.int .i64 k/\n=.int .i64 (val ((bl s).take k))/\val ((bl s).take k)<=most/\((bl s).take k).all Zt=true) (fun _ i=>s.size - (intOf i).toNat)
  case atStart=>exact⟨0,Nat.zero_le _,rfl,by simp[val],by simp[val],by simp⟩
  case round=>
   obtain⟨k,hk,rfl,rfl,hv,ha0⟩:=hrel
   have ha:Hid (((bl s).take k).all Zt=true):=ha0
   clear ha0
   by_cases hlt:k<s.size
   ·cases hd:Zt s[k]
    ·have HF:Hid (numT most (bl s)=_):=ZfP (Zvv most s k hlt hd)
     go_wp2_with (go_at_call 44;refine(Zc8 _ _).mono ?_;rintro e w' ⟨rfl,rfl⟩)
     go_ret2
     exact⟨by rw[HF.out];rfl,rfl⟩
    ·obtain⟨d1,d2⟩:=Zsl hd
     have HS:Hid (val ((bl s).take (k+1))=10*val ((bl s).take k)+(s[k].toNat - 48)):=Zzy s k hlt
     have HA:Hid (((bl s).take (k+1)).all Zt=true):=Zja Zt s k hlt ha.out hd
     by_cases ho:most<10*val ((bl s).take k)+(s[k].toNat - 48)
     ·have HF:Hid (numT most (bl s)=_):=ZfP (Zvy most s k hlt ho)
      go_wp2_with (go_at_call 44;refine(Zc8 _ _).mono ?_;rintro e w' ⟨rfl,rfl⟩)
      all_goals first|(exfalso;omega)|(go_ret2;exact⟨by rw[HF.out];rfl,rfl⟩)
     ·go_wp2_with (go_at_call 44;refine(Zc8 _ _).mono ?_;rintro e w' ⟨rfl,rfl⟩)
      all_goals first|(exfalso;omega)|skip
      go_round
      case rel=>exact⟨k+1,by omega,by go_num,by rw[HS.out];go_num,by rw[HS.out];omega,HA.out⟩
      case measure=>simp[intOf];omega
   ·have HF:Hid (numT most (bl s)=_):=ZkL (Zvx most s k hlt h1 HZ.out ha.out hv)
    go_wp2
    go_ret2
    exact⟨by rw[HF.out];rfl,rfl⟩
theorem Zi0(s:ByteArray)(most:Nat)(w:World)(hs:s.size<=6000)(hm9:9<=most)(hm:most<=1000000000) :
  Calls Tryz.prog 46 #[.string s,.int .i64 most] w fun e w'=>e=.returned (numT most (bl s))/\w'=w:=ZzJ s most w (by omega) hm9 hm
theorem ZkK(most:Nat)(l:List UInt8) : -1<=numI most l/\numI most l<=most:=by
 cases h:ZL most l with
 | none=>rw[ZoK h];omega
 | some v=>rw[ZfO h];have:=ZfQ h;omega
end Go.Proofs.YtcdgkkfipdoeeaaGreatDoor
