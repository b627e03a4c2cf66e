/- Parts. -/
import Derived.WalkKit
import Derived.Lib.Strings
import Derived.WalkSpells
import Derived.WalkLawsBesides
import Derived.Test.YtpbemaaghbbocaaGreatDoorProg
namespace Go.Proofs.YtpbemaaghbbocaaGreatDoor.LS
open Go Go.RowKit
theorem hid{p:Prop}(h:p):Hid p:=h
def bl(s:ByteArray):List UInt8:=s.data.toList
theorem ZO(s:ByteArray):s.toList=bl s:=Lib.toList_data s
theorem Zg(s:ByteArray):(bl s).length=s.size:=by simp[bl]
theorem Znx{s:ByteArray}(h:s.size<1):s.toList.isEmpty=true:=by
 rw[ZO,List.isEmpty_iff,←List.length_eq_zero_iff,Zg];omega
theorem Zqb{s:ByteArray}(h:1≤s.size):s.toList.isEmpty=false:=by
 rw[ZO,List.isEmpty_eq_false_iff,←List.length_pos_iff,Zg];omega
theorem Zc4(l:List UInt8):bl ⟨l.toArray⟩=l:=by simp[bl]
theorem ZjV(s:ByteArray):(⟨(bl s).toArray⟩:ByteArray)=s:=by simp[bl]
theorem Ze4 (s : ByteArray) (k : Nat) (h : k < s.size) : (bl s)[k]'(by rw [Zg]; exact h) = s[k] := by
  unfold bl;rfl
theorem Zd6{a b:ByteArray}(h:bl a=bl b):a=b:=by rw[←ZjV a,←ZjV b,h]
theorem ZbR(s:ByteArray)(a b:Nat):bl (s.extract a b)=((bl s).take b).drop a:=by
 unfold bl
 rw[ByteArray.data_extract]
 simp[Array.toList_extract]
 rw[List.drop_take]
def Zm(c:UInt8):Bool:=decide (97≤(c.toNat:Int)) && decide ((c.toNat:Int)≤122)
def Zr(c:UInt8):Bool:=decide (48≤(c.toNat:Int)) && decide ((c.toNat:Int)≤57)
def Zx(l:List UInt8):Bool:=l.all Zm && (decide (1≤(l.length:Int)) && decide ((l.length:Int)≤8))
def ZH(l:List UInt8):Bool:=l.all (fun c=>Zm c || Zr c) && decide ((l.length:Int)≤8)
theorem Zfy(s:ByteArray)(k:Nat)(h:k<s.size):(bl s).take (k+1)=(bl s).take k++[s[k]]:=by
 rw[List.take_succ_eq_append_getElem (by rw[Zg];exact h),Ze4 s k h]
theorem ZbU(s:ByteArray)(k:Nat)(h:k<s.size):(bl s).drop k=s[k]::(bl s).drop (k+1):=by
 rw[List.drop_eq_getElem_cons (by rw[Zg];exact h),Ze4 s k h]
theorem ZeE(p:UInt8→Bool)(s:ByteArray)(k:Nat)(h:k<s.size)(ha:((bl s).take k).all p=true)(hp:p s[k]=true):((bl s).take (k+1)).all p=true:=by
 rw[Zfy s k h,List.all_append,ha];simp[hp]
theorem Ze0(p:UInt8→Bool)(s:ByteArray)(k:Nat)(h:k<s.size)(hp:p s[k]=false):(bl s).all p=false:=by
 rw[List.all_eq_false]
 exact⟨s[k],by rw[←Ze4 s k h];exact List.getElem_mem _,by simp[hp]⟩
theorem ZeZ(p:UInt8→Bool)(s:ByteArray)(k:Nat)(h:¬k<s.size)(ha:((bl s).take k).all p=true):(bl s).all p=true:=by
 rwa [List.take_of_length_le (by rw[Zg];omega)]at ha
def val(l:List UInt8):Nat:=l.foldl (fun n c=>10*n+(c.toNat - 48)) 0
def ZC(most:Nat)(l:List UInt8):Option Nat:=
 if l.length<1∨(l.head?=some 48∧1<l.length)∨l.all Zr=false∨most<val l then none else some (val l)
theorem Zk5(l:List UInt8)(c:UInt8):val (l++[c])=10*val l+(c.toNat - 48):=by simp[val]
theorem Zta (r : List UInt8) : ∀ n : Nat, n ≤ r.foldl (fun n c => 10 * n + (c.toNat - 48)) n := by
  induction r with
  | nil=>intro n;exact Nat.le_refl _
  | cons c r ih=>intro n;exact Nat.le_trans (show n≤10*n+(c.toNat - 48) by omega) (ih _)
theorem Ztb(l:List UInt8)(k:Nat):val (l.take k)≤val l:=by
 conv=>rhs;rw[←List.take_append_drop k l]
 unfold val
 rw[List.foldl_append]
 exact Zta _ _
theorem ZiK{c:UInt8}(h:Zr c=true):48≤c.toNat∧c.toNat≤57:=by
 simp[Zr]at h;omega
def seek(c:UInt8):List UInt8→Option Nat
 | []=>none
 | b::l=>if b == c then some 0 else (seek c l).map (· + 1)
def cut(c:UInt8)(l:List UInt8):Option (List UInt8×List UInt8):=(seek c l).map fun i=>(l.take i,l.drop (i+1))
theorem ZhE(c:UInt8)(a b:List UInt8)(h:seek c a=none):seek c (a++b)=(seek c b).map (· + a.length):=by
 induction a with
 | nil=>simp
 | cons x a ih=>
  unfold seek at h
  split at h
  ·cases h
  ·rename_i hx
   have h':seek c a=none:=by simpa using h
   simp only[List.cons_append,seek,hx]
   rw[ih h']
   cases seek c b <;> simp[Nat.add_assoc]
theorem Zfw(c:UInt8)(l:List UInt8):seek c l=none ↔ c∉l:=by
 induction l with
 | nil=>simp[seek]
 | cons b l ih=>
  unfold seek
  by_cases hb:b=c
  ·subst hb;simp
  ·simp[hb,ih,Ne.symm hb]
theorem Zeh{c:UInt8}{l:List UInt8}{i:Nat}(h:seek c l=some i):∃a b,l=a++c::b∧a.length=i∧c∉a:=by
 induction l generalizing i with
 | nil=>simp[seek]at h
 | cons b l ih=>
  unfold seek at h
  by_cases hb:b=c
  ·subst hb;simp at h;subst h;exact⟨[],l,rfl,rfl,by simp⟩
  ·simp[hb]at h
   obtain⟨j,hj,rfl⟩:=h
   obtain⟨a',b',rfl,rfl,hn⟩:=ih hj
   exact⟨b::a',b',rfl,by simp,by simp[hn,Ne.symm hb]⟩
theorem Zfv(c:UInt8)(a b:List UInt8)(h:c∉a):seek c (a++c::b)=some a.length:=by
 rw[ZhE c a _ ((Zfw c a).2 h)];simp[seek]
theorem ZeU{c:UInt8}{l:List UInt8}{i:Nat}(h:seek c l=some i):i<l.length:=by
 obtain⟨a,b,rfl,rfl,_⟩:=Zeh h;simp
def pre(p:List UInt8):List (List UInt8)→List (List UInt8)
 | []=>[p]
 | h::t=>(p++h)::t
def split(c:UInt8):List UInt8→List (List UInt8)
 | []=>[[]]
 | b::l=>if b == c then []::split c l else pre [b] (split c l)
theorem Zez(c:UInt8)(l:List UInt8):split c l≠[]:=by
 cases l with
 | nil=>simp[split]
 | cons b l=>
  unfold split
  split
  ·simp
  ·cases h:split c l <;> simp[pre]
theorem Zq3(c:UInt8)(l:List UInt8):pre [] (split c l)=split c l:=by
 cases h:split c l with
 | nil=>exact absurd h (Zez c l)
 | cons a t=>simp[pre]
theorem Zq4(p q:List UInt8)(l:List (List UInt8))(h:l≠[]):pre p (pre q l)=pre (p++q) l:=by
 cases l with
 | nil=>exact absurd rfl h
 | cons a t=>simp[pre]
theorem Zey(c:UInt8)(l:List UInt8):split c (c::l)=[]::split c l:=by simp[split]
theorem Zfx(c b:UInt8)(l:List UInt8)(h:(b == c)=false):split c (b::l)=pre [b] (split c l):=by
 simp only[split,h];rfl
theorem ZeW(c:UInt8)(p r:List UInt8)(h:c∉p):split c (p++r)=pre p (split c r):=by
 induction p with
 | nil=>rw[List.nil_append,Zq3]
 | cons x p ih=>
  have hx:(x == c)=false:=by simp;rintro rfl;simp at h
  rw[List.cons_append,Zfx c x _ hx,ih (by simp at h;exact h.2),Zq4 _ _ _ (Zez c r)];rfl
theorem Zd0(c:UInt8)(l:List UInt8):(split c l).length≤l.length+1:=by
 induction l with
 | nil=>simp[split]
 | cons b l ih=>
  by_cases hb:b=c
  ·subst hb;rw[Zey];simp;exact ih
  ·rw[Zfx c b l (by simp[hb])]
   cases h2:split c l with
   | nil=>simp[pre]
   | cons a t=>rw[h2]at ih;simp[pre];simp at ih;omega
end Go.Proofs.YtpbemaaghbbocaaGreatDoor.LS
namespace Go.Proofs.YtpbemaaghbbocaaGreatDoor
open Go.RowKit LS
theorem Zset {α:Type}:(∀(l:List α)(i:Nat)(a:α),l.toArray.setIfInBounds i a=(l.set i a).toArray)∧(∀(a:α)(l:List α)(b:α),(a::l).set 0 b=b::l)∧∀(a:α)(l:List α)(i:Nat)(b:α),(a::l).set (i+1) b=a::l.set i b:=⟨fun _ _ _=>by simp only [List.setIfInBounds_toArray],fun _ _ _=>rfl,fun _ _ _ _=>rfl⟩
theorem Zget {α:Type}:(∀(a:α)(l:List α),(a::l)[0]?=some a)∧∀(a:α)(l:List α)(i:Nat),(a::l)[i+1]?=l[i]?:=⟨fun _ _=>rfl,fun _ _ _=>rfl⟩
theorem Zbal {w:World}{o:Obj}:Below w.heap.size w (w.alloc o):=(Below.refl _ _).alloc (Nat.le_refl _) _
theorem Zw{w w':World}{base:Nat}{e:TypeId}{size:Nat}{v:Value}{n:Nat}{xs:List Value}(h:w.ownsRow base e size v n xs)(hb:Below w.heap.size w w'):w'.ownsRow base e size v n xs:=by
 obtain⟨h1,h2⟩:=h
 refine⟨h1,?_⟩
 rcases h2 with h2|⟨g,cap,cur,hv,hg,hh,r⟩
 ·exact Or.inl h2
 ·have hlt:g<w.heap.size:=by
   rcases Nat.lt_or_ge g w.heap.size with h|h
   ·exact h
   ·rw[Array.getElem?_eq_none h]at hh;cases hh
  exact Or.inr ⟨g,cap,cur,hv,hg,by rw[hb.block g hlt];exact hh,r⟩
theorem Zj{w:World}{base:Nat}{e:TypeId}{size:Nat}{v:Value}{n:Nat}{xs:List Value}(h:w.ownsRow base e size v n xs):∃av cp,v=.slice av n cp:=by
 rcases h.2 with ⟨h,h'⟩|⟨g,cap,cur,h,_⟩
 ·exact⟨none,0,by rw[h,h']⟩
 ·exact⟨_,_,h⟩
theorem Zkd{w:World}{base:Nat}{e:TypeId}{size:Nat}{v:Value}{n:Nat}{xs:List Value}(h:w.ownsRow base e size v n xs)(k:Nat):(w.drewN k).ownsRow base e size v n xs:=h
theorem ZeF(B:Nat)(w:World)(k:Nat):Below B w (w.drewN k):=⟨rfl,rfl,rfl,Nat.le_refl _,fun _ _=>rfl⟩
theorem Zk{B:Nat}{a w:World}(h:Below B a w)(k:Nat):Below B a (w.drewN k):=h.trans (ZeF B w k)
theorem ZgA{B:Nat}{w w':World}{k:Nat}(h:Below B (w.drewN k) w'):Below B w w':=⟨h.os,h.tape,h.output,h.size,h.block⟩
theorem Z5{s:ByteArray}{r:List UInt8}(h:bl s=r):s.size=r.length:=by rw[←Zg,h]
theorem ZdC{W:World}{a:Nat}{u v:Value}(h0:W.cell? ⟨a,0,none⟩=some u)(h1:W.cell? ⟨a,1,none⟩=some v):∀j x,[u,v][j]?=some x→W.cell? ((⟨a,0,none⟩:Addr).add j)=some x:=by
 intro j x hj
 match j,hj with
 | 0,hj=>simp at hj;subst hj;simpa [Addr.add] using h0
 | 1,hj=>simp at hj;subst hj;simpa [Addr.add] using h1
theorem box3{w w1:World}{x y z:Value}{t:TypeId}(hb:Below (w.heap.size+1) (w.alloc (.cells #[x,y,z] t)) w1) :
  w1.cell? ⟨w.heap.size,0,none⟩=some x∧w1.cell? ⟨w.heap.size,1,none⟩=some y∧w1.cell? ⟨w.heap.size,2,none⟩=some z∧
  w1.frozen? ⟨w.heap.size,0,none⟩=false∧w1.frozen? ⟨w.heap.size,1,none⟩=false∧w1.frozen? ⟨w.heap.size,2,none⟩=false:=by
 have h:∀o,w1.cell? ⟨w.heap.size,o,none⟩=(w.alloc (.cells #[x,y,z] t)).cell? ⟨w.heap.size,o,none⟩:=fun o=>hb.cell (p:=⟨_,o,none⟩) (Nat.lt_succ_self _)
 have f:∀o,w1.frozen? ⟨w.heap.size,o,none⟩=(w.alloc (.cells #[x,y,z] t)).frozen? ⟨w.heap.size,o,none⟩:=fun o=>hb.frozen (p:=⟨_,o,none⟩) (Nat.lt_succ_self _)
 simp[h,f]
theorem Zix{W:World}{a:Nat}{u v x:Value}(h0:W.cell? ⟨a,0,none⟩=some u)(h1:W.cell? ⟨a,1,none⟩=some v)(h2:W.cell? ⟨a,2,none⟩=some x):∀j y,[u,v,x][j]?=some y→W.cell? ((⟨a,0,none⟩:Addr).add j)=some y:=by
 intro j y hj
 match j,hj with
 | 0,hj=>simp at hj;subst hj;simpa [Addr.add] using h0
 | 1,hj=>simp at hj;subst hj;simpa [Addr.add] using h1
 | 2,hj=>simp at hj;subst hj;simpa [Addr.add] using h2
theorem Zdy(g j:Nat):(⟨g,0,none⟩:Addr).add j=⟨g,j,none⟩:=by
 by_cases h:j=0 <;> simp[Addr.add,h]
theorem Zn{w:World}{base:Nat}{e:TypeId}{size:Nat}{g n cp:Nat}{xs:List Value}(h:w.ownsRow base e size (.slice (some ⟨g,0,none⟩) n cp) n xs)(j:Nat)(u:Value)(hj:xs[j]?=some u):w.cell? ⟨g,j,none⟩=some u:=by
 have:=h.cells rfl j u hj;rwa [Zdy]at this
theorem ZbJ{w:World}{base:Nat}{e:TypeId}{size:Nat}{g n cp:Nat}{xs:List Value}(h:w.ownsRow base e size (.slice (some ⟨g,0,none⟩) n cp) n xs):g<w.heap.size:=(h.lt g rfl).2
theorem Zy{w:World}{base:Nat}{e:TypeId}{size:Nat}{v:Value}{n:Nat}{xs:List Value}(h:w.ownsRow base e size v n xs)(hn:0<n):∃g cp,v=.slice (some ⟨g,0,none⟩) n cp:=by
 rcases h.2 with ⟨_,h0⟩|⟨g,cap,cur,hv,_⟩
 ·omega
 ·exact⟨g,cap,hv⟩
theorem Zed{w:World}{b1 b2:Nat}{e1 e2:TypeId}{s1 s2:Nat}{v1 v2:Value}{n1 n2:Nat}{xs1 xs2:List Value}(h1:w.ownsRow b1 e1 s1 v1 n1 xs1)(h2:w.ownsRow b2 e2 s2 v2 n2 xs2)(he:e1≠e2):v1.ownBlock=none∨v1.ownBlock≠v2.ownBlock:=by
 rcases h1.2 with ⟨rfl,_⟩|⟨g1,c1,cur1,rfl,_,hh1,_⟩
 ·exact Or.inl rfl
 ·right
  rcases h2.2 with ⟨rfl,_⟩|⟨g2,c2,cur2,rfl,_,hh2,_⟩
  ·simp[Value.ownBlock]
  ·intro h
   have hg:g1=g2:=by simpa [Value.ownBlock] using h
   subst hg
   rw[hh1]at hh2
   injection hh2 with h3
   injection h3 with _ h4
   exact he h4
theorem ZE{w:World}{b:Nat}{e:TypeId}{sz:Nat}{v:Value}{n:Nat}{xs:List Value}(h:w.ownsRow b e sz v n xs){q:Nat}{c:Array Value}{t:TypeId}{fr:Nat×Nat}(hq:w.heap[q]?=some (.cells c t fr))(ht:t≠e):some q≠v.ownBlock:=by
 rcases h.2 with ⟨rfl,_⟩|⟨g,cp,cur,rfl,_,hh,_⟩
 ·simp[Value.ownBlock]
 ·intro he
  have hg:q=g:=by simpa [Value.ownBlock] using he
  subst hg
  rw[hq]at hh
  injection hh with h3
  injection h3 with _ h4
  exact ht h4
theorem ZdW{s:ByteArray}(h:s.toList.isEmpty=true):bl s=[]:=by rw[ZO]at h;exact List.isEmpty_iff.1 h
theorem Zeu{s:ByteArray}(h:s.toList.isEmpty=false):bl s≠[]:=by rw[ZO]at h;exact List.isEmpty_eq_false_iff.1 h
theorem ZkI(c:UInt8)(l:List UInt8):∀x∈split c l,x.length≤l.length:=by
 induction l with
 | nil=>simp[split]
 | cons b l ih=>
  intro x hx
  by_cases hb:b=c
  ·subst hb;rw[Zey]at hx
   rcases List.mem_cons.1 hx with rfl|hx
   ·simp
   ·have:=ih x hx;simp;omega
  ·rw[Zfx c b l (by simp[hb])]at hx
   cases hsp:split c l with
   | nil=>exact absurd hsp (Zez c l)
   | cons h t=>
    rw[hsp]at hx ih
    simp only[pre]at hx
    rcases List.mem_cons.1 hx with rfl|hx
    ·have:=ih h (by simp);simp;omega
    ·have:=ih x (by simp[hx]);simp;omega
theorem Zei(c:UInt8)(l:List UInt8)(k:Nat)(hk:k<(split c l).length):((split c l).getD k []).length≤l.length:=by
 have e:(split c l).getD k []=(split c l)[k]:=by simp[hk]
 rw[e];exact ZkI c l _ (List.getElem_mem _)
theorem Zfj{most v:Nat}{l:List UInt8}(h:ZC most l=some v):v≤most:=by
 unfold ZC at h;split at h
 ·cases h
 ·rename_i hn;have:=Option.some.inj h;simp at hn;omega
def sents:List Nat:=[0,1,2,3,4,5,6,7,8,9,10,11,12]
structure Vars (w:World) (A:Nat→Addr) (m:Int):Prop where
 max:w.cell? ⟨14,0,none⟩=some (.int .i64 m)
 sent:∀g∈sents,w.cell? ⟨g,0,none⟩=some (.iface 389 (.pointer (some (A g))))
 apart:∀g∈sents,∀h∈sents,g≠h→A g≠A h
 row:∀g∈sents,∃c t,w.heap[(A g).block]?=some (.cells c t (0,0))
 handle:w.cell? ⟨13,0,none⟩=some (.iface 232 (.agg #[.pointer (some ⟨20,52,none⟩)]))
theorem Vars.below{w w':World}{A:Nat→Addr}{m:Int}(h:Vars w A m)(hb:Below w.heap.size w w'):Vars w' A m where
 max:=(hb.cell (p:=⟨_,0,none⟩) (World.block_lt_of_cell? _ _ h.max)).trans h.max
 sent g hg:=(hb.cell (p:=⟨_,0,none⟩) (World.block_lt_of_cell? _ _ (h.sent g hg))).trans (h.sent g hg)
 apart:=h.apart
 row g hg:=by
  obtain⟨c,t,e⟩:=h.row g hg
  refine⟨c,t,(hb.block _ ?_).trans e⟩
  rcases Nat.lt_or_ge (A g).block w.heap.size with h|h
  ·exact h
  ·rw[Array.getElem?_eq_none h]at e;cases e
 handle:=(hb.cell (p:=⟨_,0,none⟩) (World.block_lt_of_cell? _ _ h.handle)).trans h.handle
theorem Vars.alloc{w:World}{A:Nat→Addr}{m:Int}(h:Vars w A m)(o:Obj):Vars (w.alloc o) A m:=h.below Zbal
theorem Vars.drewN{w:World}{A:Nat→Addr}{m:Int}(h:Vars w A m)(k:Nat):Vars (w.drewN k) A m:=h.below (ZeF _ _ _)
theorem ZcP{a b:Bool}(h:a=b):Ending.returned (.bool a)=.returned (.bool b):=by rw[h]
theorem Zb7{k:IntKind}{a b:Int}(h:a=b):Ending.returned (.int k a)=.returned (.int k b):=by rw[h]
theorem Zcc(c:UInt8)(w:World) :
  Calls Tryz.prog 144 #[.int .u8 c.toNat] w fun e w'=>e=.returned (.bool (Zm c))∧w'=w:=by
 go_enter Tryz.func144,Tryz.ntmps144
 go_wp2
 all_goals
  go_ret
  exact⟨ZcP (by unfold Zm;simp;omega),rfl⟩
theorem Zdk(c:UInt8)(w:World) :
  Calls Tryz.prog 61 #[.int .u8 c.toNat] w fun e w'=>e=.returned (.bool (Zm c))∧w'=w:=by
 go_enter Tryz.func61,Tryz.ntmps61
 go_wp2
 all_goals
  go_ret
  exact⟨ZcP (by unfold Zm;simp;omega),rfl⟩
theorem Zb4(c:UInt8)(w:World) :
  Calls Tryz.prog 143 #[.int .u8 c.toNat] w fun e w'=>e=.returned (.bool (Zr c))∧w'=w:=by
 go_enter Tryz.func143,Tryz.ntmps143
 go_wp2
 all_goals
  go_ret
  exact⟨ZcP (by unfold Zr;simp;omega),rfl⟩
theorem ZcM(c:UInt8)(w:World) :
  Calls Tryz.prog 58 #[.int .u8 c.toNat] w fun e w'=>e=.returned (.bool (Zr c))∧w'=w:=by
 go_enter Tryz.func58,Tryz.ntmps58
 go_wp2
 all_goals
  go_ret
  exact⟨ZcP (by unfold Zr;simp;omega),rfl⟩
set_option maxHeartbeats 400000 in
theorem Zre(s:ByteArray)(w:World)(hs:s.size≤6000) :
  Calls Tryz.prog 97 #[.string s] w fun e w'=>e=.returned (.bool (Zx (bl s)))∧w'=w:=by
 go_enter Tryz.func97,Tryz.ntmps97
 go_wp2
 go_loop [3] (fun i=>∃k:Nat,k≤s.size∧i=.int .i64 k∧((bl s).take k).all Zm=true) (fun i=>s.size - (intOf i).toNat)
 case atStart=>exact⟨0,Nat.zero_le _,rfl,by simp⟩
 case round=>
  obtain⟨k,hk,rfl,ha0⟩:=hrel
  have ha:Hid (((bl s).take k).all Zm=true):=ha0
  clear ha0
  by_cases hlt:k<s.size
  ·cases hl:Zm s[k]
   ·have HF:Hid (Zx (bl s)=false):=by unfold Zx;rw[Ze0 Zm s k hlt hl];rfl
    go_wp2_with (go_at_call 144;refine(Zcc _ _).mono ?_;rintro e w' ⟨rfl,rfl⟩)
    go_ret
    exact⟨ZcP HF.symm,rfl⟩
   ·have HF:=ZeE Zm s k hlt ha.out hl
    have HF':Hid (((bl s).take (k+1)).all Zm=true):=HF
    clear HF
    go_wp2_with (go_at_call 144;refine(Zcc _ _).mono ?_;rintro e w' ⟨rfl,rfl⟩)
    go_round
    case rel=>exact⟨k+1,by omega,by go_num,HF'.out⟩
    case measure=>simp[intOf];omega
  ·have HF:Hid (Zx (bl s)=(decide (1≤(s.size:Int)) && decide ((s.size:Int)≤8))):=by
    unfold Zx;rw[ZeZ Zm s k hlt ha.out,Zg];rfl
   go_wp2
   all_goals
    go_ret
    refine⟨ZcP ?_,rfl⟩
    rw[HF.out]
    simp;omega
set_option maxHeartbeats 400000 in
theorem ZhN(s:ByteArray)(w:World)(hs:s.size≤6000) :
  Calls Tryz.prog 62 #[.string s] w fun e w'=>e=.returned (.bool (Zx (bl s)))∧w'=w:=by
 by_cases h1:s.size<1∨8<s.size
 ·have HF:Hid (Zx (bl s)=false):=hid (by
   unfold Zx;rw[Zg]
   have:(decide (1≤(s.size:Int)) && decide ((s.size:Int)≤8))=false:=by simp;omega
   rw[this];simp)
  go_enter Tryz.func62,Tryz.ntmps62
  go_wp2
  all_goals first|omega|(go_ret;exact⟨ZcP HF.symm,rfl⟩)
 ·have h2:1≤(s.size:Int):=by omega
  have h3:(s.size:Int)≤8:=by omega
  go_enter Tryz.func62,Tryz.ntmps62
  go_wp2
  go_loop [14] (fun i=>∃k:Nat,k≤s.size∧i=.int .i64 k∧((bl s).take k).all Zm=true) (fun i=>s.size - (intOf i).toNat)
  case atStart=>exact⟨0,Nat.zero_le _,rfl,by simp⟩
  case round=>
   obtain⟨k,hk,rfl,ha0⟩:=hrel
   have ha:Hid (((bl s).take k).all Zm=true):=ha0
   clear ha0
   by_cases hlt:k<s.size
   ·cases hl:Zm s[k]
    ·have HF:Hid (Zx (bl s)=false):=by unfold Zx;rw[Ze0 Zm s k hlt hl];rfl
     go_wp2_with (go_at_call 61;refine(Zdk _ _).mono ?_;rintro e w' ⟨rfl,rfl⟩)
     go_ret
     exact⟨ZcP HF.symm,rfl⟩
    ·have HF':Hid (((bl s).take (k+1)).all Zm=true):=ZeE Zm s k hlt ha.out hl
     go_wp2_with (go_at_call 61;refine(Zdk _ _).mono ?_;rintro e w' ⟨rfl,rfl⟩)
     go_round
     case rel=>exact⟨k+1,by omega,by go_num,HF'.out⟩
     case measure=>simp[intOf];omega
   ·have HF:Hid (Zx (bl s)=true):=hid (by
     unfold Zx;rw[ZeZ Zm s k hlt ha.out,Zg];simp;omega)
    go_wp2
    go_ret
    exact⟨ZcP HF.symm,rfl⟩
set_option maxHeartbeats 400000 in
theorem Zrf(s:ByteArray)(w:World)(hs:s.size≤6000) :
  Calls Tryz.prog 147 #[.string s] w fun e w'=>e=.returned (.bool (ZH (bl s)))∧w'=w:=by
 go_enter Tryz.func147,Tryz.ntmps147
 go_wp2
 go_loop [3] (fun i=>∃k:Nat,k≤s.size∧i=.int .i64 k∧((bl s).take k).all (fun c=>Zm c || Zr c)=true) (fun i=>s.size - (intOf i).toNat)
 case atStart=>exact⟨0,Nat.zero_le _,rfl,by simp⟩
 case round=>
  obtain⟨k,hk,rfl,ha0⟩:=hrel
  have ha:Hid (((bl s).take k).all (fun c=>Zm c || Zr c)=true):=ha0
  clear ha0
  by_cases hlt:k<s.size
  ·have HS:Hid ((Zm s[k] || Zr s[k])=true→((bl s).take (k+1)).all (fun c=>Zm c || Zr c)=true):=ZeE (fun c=>Zm c || Zr c) s k hlt ha.out
   have HN : Hid ((Zm s[k] || Zr s[k]) = false → ZH (bl s) = false) := fun h => by
     unfold ZH;rw[Ze0 (fun c=>Zm c || Zr c) s k hlt h];rfl
   cases hl:Zm s[k] <;> cases hd:Zr s[k]
   ·go_wp2_with (first|(go_at_call 144;refine(Zcc _ _).mono ?_;rintro e w' ⟨rfl,rfl⟩)|(go_at_call 143;refine(Zb4 _ _).mono ?_;rintro e w' ⟨rfl,rfl⟩))
    go_ret
    exact⟨ZcP (HN.out (by rw[hl,hd];rfl)).symm,rfl⟩
   all_goals
    go_wp2_with (first|(go_at_call 144;refine(Zcc _ _).mono ?_;rintro e w' ⟨rfl,rfl⟩)|(go_at_call 143;refine(Zb4 _ _).mono ?_;rintro e w' ⟨rfl,rfl⟩))
    go_round
    case rel=>exact⟨k+1,by omega,by go_num,HS.out (by rw[hl,hd];rfl)⟩
    case measure=>simp[intOf];omega
  ·have HF:Hid (ZH (bl s)=decide ((s.size:Int)≤8)):=by
    unfold ZH;rw[ZeZ _ s k hlt ha.out,Zg];rfl
   go_wp2
   go_ret
   exact⟨ZcP HF.symm,rfl⟩
set_option maxHeartbeats 400000 in
theorem ZhO(s:ByteArray)(w:World)(hs:s.size≤6000) :
  Calls Tryz.prog 63 #[.string s] w fun e w'=>e=.returned (.bool (ZH (bl s)))∧w'=w:=by
 by_cases h1:8<s.size
 ·have HF:Hid (ZH (bl s)=false):=hid (by
   unfold ZH;rw[Zg]
   have:decide ((s.size:Int)≤8)=false:=by simp;omega
   rw[this];simp)
  go_enter Tryz.func63,Tryz.ntmps63
  go_wp2
  go_ret
  exact⟨ZcP HF.symm,rfl⟩
 ·have h3:(s.size:Int)≤8:=by omega
  go_enter Tryz.func63,Tryz.ntmps63
  go_wp2
  go_loop [9] (fun i=>∃k:Nat,k≤s.size∧i=.int .i64 k∧((bl s).take k).all (fun c=>Zm c || Zr c)=true) (fun i=>s.size - (intOf i).toNat)
  case atStart=>exact⟨0,Nat.zero_le _,rfl,by simp⟩
  case round=>
   obtain⟨k,hk,rfl,ha0⟩:=hrel
   have ha:Hid (((bl s).take k).all (fun c=>Zm c || Zr c)=true):=ha0
   clear ha0
   by_cases hlt:k<s.size
   ·have HS:Hid ((Zm s[k] || Zr s[k])=true→((bl s).take (k+1)).all (fun c=>Zm c || Zr c)=true):=ZeE (fun c=>Zm c || Zr c) s k hlt ha.out
    have HN : Hid ((Zm s[k] || Zr s[k]) = false → ZH (bl s) = false) := fun h => by
      unfold ZH;rw[Ze0 (fun c=>Zm c || Zr c) s k hlt h];rfl
    cases hl:Zm s[k] <;> cases hd:Zr s[k]
    ·go_wp2_with (first|(go_at_call 61;refine(Zdk _ _).mono ?_;rintro e w' ⟨rfl,rfl⟩)|(go_at_call 58;refine(ZcM _ _).mono ?_;rintro e w' ⟨rfl,rfl⟩))
     go_ret
     exact⟨ZcP (HN.out (by rw[hl,hd];rfl)).symm,rfl⟩
    all_goals
     go_wp2_with (first|(go_at_call 61;refine(Zdk _ _).mono ?_;rintro e w' ⟨rfl,rfl⟩)|(go_at_call 58;refine(ZcM _ _).mono ?_;rintro e w' ⟨rfl,rfl⟩))
     go_round
     case rel=>exact⟨k+1,by omega,by go_num,HS.out (by rw[hl,hd];rfl)⟩
     case measure=>simp[intOf];omega
   ·have HF:Hid (ZH (bl s)=true):=hid (by
     unfold ZH;rw[ZeZ _ s k hlt ha.out,Zg];simp;omega)
    go_wp2
    go_ret
    exact⟨ZcP HF.symm,rfl⟩
def Zef(c:UInt8)(l:List UInt8):Int:=match LS.seek c l with|none=>-1|some i=>i
theorem ZkA{c:UInt8}{l:List UInt8}{i:Nat}(h:LS.seek c l=some i):Zef c l=i:=by unfold Zef;rw[h]
theorem Zkz{c:UInt8}{l:List UInt8}(h:LS.seek c l=none):Zef c l=-1:=by unfold Zef;rw[h]
theorem Zr5(c:UInt8)(s:ByteArray)(k:Nat)(h:k<s.size)(hn:LS.seek c ((bl s).take k)=none)(he:s[k]=c):Zef c (bl s)=k:=by
 have e:bl s=(bl s).take k++(bl s).drop k:=(List.take_append_drop _ _).symm
 refine ZkA ?_
 rw[e,ZhE _ _ _ hn,ZbU s k h]
 simp[LS.seek,he,Zg];omega
theorem Zr6(c:UInt8)(s:ByteArray)(k:Nat)(h:k<s.size)(hn:LS.seek c ((bl s).take k)=none)(he:s[k]≠c):LS.seek c ((bl s).take (k+1))=none:=by
 rw[Zfy s k h,ZhE _ _ _ hn];simp[LS.seek,he]
set_option maxHeartbeats 400000 in
theorem ZkB(s:ByteArray)(c:UInt8)(w:World)(hs:s.size≤6000) :
  Calls Tryz.prog 96 #[.string s,.int .u8 c.toNat] w fun e w'=>e=.returned (.int .i64 (Zef c (bl s)))∧w'=w:=by
 go_enter Tryz.func96,Tryz.ntmps96
 go_wp2
 go_loop [5] (fun i=>∃k:Nat,k≤s.size∧i=.int .i64 k∧LS.seek c ((bl s).take k)=none) (fun i=>s.size - (intOf i).toNat)
 case atStart=>exact⟨0,Nat.zero_le _,rfl,by simp[LS.seek]⟩
 case round=>
  obtain⟨k,hk,rfl,ha0⟩:=hrel
  have ha:Hid (LS.seek c ((bl s).take k)=none):=ha0
  clear ha0
  by_cases hlt:k<s.size
  ·by_cases he:s[k]=c
   ·have HF:Hid (Zef c (bl s)=k):=Zr5 c s k hlt ha.out he
    have hb:((s[k].toNat:Int) == (c.toNat:Int))=true:=by rw[he];simp
    clear he
    go_wp2
    go_ret
    exact⟨Zb7 HF.symm,rfl⟩
   ·have HF:Hid (LS.seek c ((bl s).take (k+1))=none):=Zr6 c s k hlt ha.out he
    have hb:((s[k].toNat:Int) == (c.toNat:Int))=false:=by
     rw[beq_eq_false_iff_ne];intro h;exact he (UInt8.toNat_inj.1 (by omega))
    clear he
    go_wp2
    go_round
    case rel=>exact⟨k+1,by omega,by go_num,HF.out⟩
    case measure=>simp[intOf];omega
  ·have HF:Hid (Zef c (bl s)=-1):=by
    have:=ha.out
    rw[List.take_of_length_le (by rw[Zg];omega)]at this
    exact Zkz this
   go_wp2
   go_ret
   exact⟨Zb7 HF.symm,rfl⟩
def numI(most:Nat)(l:List UInt8):Int:=match ZC most l with|none=>-1|some v=>v
theorem Zeb{most:Nat}{l:List UInt8}(h:ZC most l=none):numI most l=-1:=by unfold numI;rw[h]
theorem Zdp{most v:Nat}{l:List UInt8}(h:ZC most l=some v):numI most l=v:=by unfold numI;rw[h]
theorem Zj8(most:Nat)(s:ByteArray)(h:s.size<1):ZC most (bl s)=none:=by
 unfold ZC;rw[if_pos (Or.inl (by rw[Zg];exact h))]
theorem Zj9(most:Nat)(s:ByteArray)(h1:1<s.size)(h:s[0].toNat=48):ZC most (bl s)=none:=by
 unfold ZC
 refine if_pos (Or.inr (Or.inl ⟨?_,by rw[Zg];exact h1⟩))
 rw[List.head?_eq_getElem?,List.getElem?_eq_getElem (by rw[Zg];omega),Ze4 s 0 (by omega)]
 exact congrArg some (UInt8.toNat_inj.1 h)
theorem Zj5(most:Nat)(s:ByteArray)(k:Nat)(h:k<s.size)(hd:Zr s[k]=false):ZC most (bl s)=none:=by
 unfold ZC;exact if_pos (Or.inr (Or.inr (Or.inl (Ze0 Zr s k h hd))))
theorem Zj7(most:Nat)(s:ByteArray)(k:Nat)(h:k<s.size)(ho:most<10*val ((bl s).take k)+(s[k].toNat - 48)):ZC most (bl s)=none:=by
 unfold ZC
 refine if_pos (Or.inr (Or.inr (Or.inr ?_)))
 have:=Ztb (bl s) (k+1)
 rw[Zfy s k h,Zk5]at this
 omega
theorem Zj6(most:Nat)(s:ByteArray)(k:Nat)(h:¬k<s.size)(h1:1≤s.size)(hz:¬(s[0].toNat=48∧1<s.size))(ha:((bl s).take k).all Zr=true)(hv:val ((bl s).take k)≤most):ZC most (bl s)=some (val ((bl s).take k)):=by
 have ha':=ZeZ Zr s k h ha
 rw[List.take_of_length_le (by rw[Zg];omega)]at hv ⊢
 unfold ZC
 refine if_neg ?_
 rintro(h|⟨h,h'⟩|h|h)
 ·rw[Zg]at h;omega
 ·rw[Zg]at h'
  rw[List.head?_eq_getElem?,List.getElem?_eq_getElem (by rw[Zg];omega),Ze4 s 0 (by omega)]at h
  exact hz ⟨by rw[Option.some.inj h];rfl,h'⟩
 ·rw[ha']at h;cases h
 ·omega
theorem Zk6(s:ByteArray)(k:Nat)(h:k<s.size):val ((bl s).take (k+1))=10*val ((bl s).take k)+(s[k].toNat - 48):=by
 rw[Zfy s k h,Zk5]
set_option maxHeartbeats 1000000 in
theorem Zrl(s:ByteArray)(most:Nat)(w:World)(hs:s.size≤6000)(hm:most≤1000000000) :
  Calls Tryz.prog 146 #[.string s,.int .i64 most] w fun e w'=>e=.returned (.int .i64 (numI most (bl s)))∧w'=w:=by
 by_cases h0:s.size<1
 ·have HF:Hid (numI most (bl s)=-1):=Zeb (Zj8 most s h0)
  go_enter Tryz.func146,Tryz.ntmps146
  go_wp2
  go_ret
  exact⟨Zb7 HF.symm,rfl⟩
 have h1:1≤s.size:=by omega
 by_cases hz:s[0].toNat=48∧1<s.size
 ·have HF:Hid (numI most (bl s)=-1):=Zeb (Zj9 most s hz.2 hz.1)
  have hz1:((s[0].toNat:Int) == 48)=true:=by rw[hz.1];rfl
  have hz2:=hz.2
  clear hz
  go_enter Tryz.func146,Tryz.ntmps146
  go_wp2
  go_ret
  exact⟨Zb7 HF.symm,rfl⟩
 have HZ:Hid (¬(s[0].toNat=48∧1<s.size)):=hz
 have hd1:decide ((s.size:Int)<1)=false:=by simp;omega
 have hcase:(((s[0].toNat:Int) == 48)=true∧decide (1<(s.size:Int))=false)∨((s[0].toNat:Int) == 48)=false:=by
  by_cases hz1:s[0].toNat=48
  ·exact Or.inl ⟨by rw[hz1];rfl,by simp;have:¬1<s.size:=fun h=>hz ⟨hz1,h⟩;omega⟩
  ·exact Or.inr (by rw[beq_eq_false_iff_ne];omega)
 clear hz h0
 rcases hcase with ⟨hz3,hd2⟩|hz3
 all_goals
  go_enter Tryz.func146,Tryz.ntmps146
  go_wp2
  go_loop [5,6] (fun n i=>∃k:Nat,k≤s.size∧i=.int .i64 k∧n=.int .i64 (val ((bl s).take k))∧val ((bl s).take k)≤most∧((bl s).take k).all Zr=true) (fun _ i=>s.size - (intOf i).toNat)
  case atStart=>exact⟨0,Nat.zero_le _,rfl,by simp[val],by simp[val],by simp⟩
  case round=>
   obtain⟨k,hk,rfl,rfl,hv,ha0⟩:=hrel
   have ha:Hid (((bl s).take k).all Zr=true):=ha0
   clear ha0
   by_cases hlt:k<s.size
   ·cases hd:Zr s[k]
    ·have HF:Hid (numI most (bl s)=-1):=Zeb (Zj5 most s k hlt hd)
     go_wp2_with (go_at_call 143;refine(Zb4 _ _).mono ?_;rintro e w' ⟨rfl,rfl⟩)
     go_ret
     exact⟨Zb7 HF.symm,rfl⟩
    ·obtain⟨d1,d2⟩:=ZiK hd
     have HS:Hid (val ((bl s).take (k+1))=10*val ((bl s).take k)+(s[k].toNat - 48)):=Zk6 s k hlt
     have HA:Hid (((bl s).take (k+1)).all Zr=true):=ZeE Zr s k hlt ha.out hd
     by_cases ho:most<10*val ((bl s).take k)+(s[k].toNat - 48)
     ·have HF:Hid (numI most (bl s)=-1):=Zeb (Zj7 most s k hlt ho)
      go_wp2_with (go_at_call 143;refine(Zb4 _ _).mono ?_;rintro e w' ⟨rfl,rfl⟩)
      go_ret
      exact⟨Zb7 HF.symm,rfl⟩
     ·go_wp2_with (go_at_call 143;refine(Zb4 _ _).mono ?_;rintro e w' ⟨rfl,rfl⟩)
      go_round
      case rel=>exact⟨k+1,by omega,by go_num,by rw[HS.out];go_num,by rw[HS.out];omega,HA.out⟩
      case measure=>simp[intOf];omega
   ·have HF:Hid (numI most (bl s)=val ((bl s).take k)):=Zdp (Zj6 most s k hlt h1 HZ.out ha.out hv)
    go_wp2
    go_ret
    exact⟨Zb7 HF.symm,rfl⟩
def numT(most:Nat)(l:List UInt8):Value:=.tuple #[.int .i64 ((ZC most l).getD 0:Nat),.bool (ZC most l).isSome]
theorem ZeP{most:Nat}{l:List UInt8}(h:ZC most l=none):numT most l=.tuple #[.int .i64 0,.bool false]:=by unfold numT;rw[h];rfl
theorem Zho{most v:Nat}{l:List UInt8}(h:ZC most l=some v):numT most l=.tuple #[.int .i64 v,.bool true]:=by unfold numT;rw[h];rfl
set_option maxHeartbeats 1000000 in
theorem Zgr(s:ByteArray)(most:Nat)(w:World)(hs:s.size≤6000)(hm9:9≤most)(hm:most≤1000000000) :
  Calls Tryz.prog 60 #[.string s,.int .i64 most] w fun e w'=>e=.returned (numT most (bl s))∧w'=w:=by
 by_cases h0:s.size<1
 ·have HF:Hid (numT most (bl s)=_):=ZeP (Zj8 most s h0)
  have he:s.toList.isEmpty=true:=Znx h0
  go_enter Tryz.func60,Tryz.ntmps60
  go_wp2
  go_ret2
  exact⟨by rw[HF.out];rfl,rfl⟩
 have h1:1≤s.size:=by omega
 have he:s.toList.isEmpty=false:=Zqb h1
 by_cases hz:s[0].toNat=48∧1<s.size
 ·have HF:Hid (numT most (bl s)=_):=ZeP (Zj9 most s hz.2 hz.1)
  have hz1:((s[0].toNat:Int) == 48)=true:=by rw[hz.1];rfl
  have hz2:=hz.2
  clear hz
  go_enter Tryz.func60,Tryz.ntmps60
  go_wp2
  go_ret2
  exact⟨by rw[HF.out];rfl,rfl⟩
 have HZ:Hid (¬(s[0].toNat=48∧1<s.size)):=hz
 have hcase:(((s[0].toNat:Int) == 48)=true∧decide (1<(s.size:Int))=false)∨((s[0].toNat:Int) == 48)=false:=by
  by_cases hz1:s[0].toNat=48
  ·exact Or.inl ⟨by rw[hz1];rfl,by simp;have:¬1<s.size:=fun h=>hz ⟨hz1,h⟩;omega⟩
  ·exact Or.inr (by rw[beq_eq_false_iff_ne];omega)
 clear hz h0
 rcases hcase with ⟨hz3,hd2⟩|hz3
 all_goals
  go_enter Tryz.func60,Tryz.ntmps60
  go_wp2
  go_loop [6,23] (fun n i=>∃k:Nat,k≤s.size∧i=.int .i64 k∧n=.int .i64 (val ((bl s).take k))∧val ((bl s).take k)≤most∧((bl s).take k).all Zr=true) (fun _ i=>s.size - (intOf i).toNat)
  case atStart=>exact⟨0,Nat.zero_le _,rfl,by simp[val],by simp[val],by simp⟩
  case round=>
   obtain⟨k,hk,rfl,rfl,hv,ha0⟩:=hrel
   have ha:Hid (((bl s).take k).all Zr=true):=ha0
   clear ha0
   by_cases hlt:k<s.size
   ·cases hd:Zr s[k]
    ·have HF:Hid (numT most (bl s)=_):=ZeP (Zj5 most s k hlt hd)
     go_wp2_with (go_at_call 58;refine(ZcM _ _).mono ?_;rintro e w' ⟨rfl,rfl⟩)
     go_ret2
     exact⟨by rw[HF.out];rfl,rfl⟩
    ·obtain⟨d1,d2⟩:=ZiK hd
     have HS:Hid (val ((bl s).take (k+1))=10*val ((bl s).take k)+(s[k].toNat - 48)):=Zk6 s k hlt
     have HA:Hid (((bl s).take (k+1)).all Zr=true):=ZeE Zr s k hlt ha.out hd
     by_cases ho:most<10*val ((bl s).take k)+(s[k].toNat - 48)
     ·have HF:Hid (numT most (bl s)=_):=ZeP (Zj7 most s k hlt ho)
      go_wp2_with (go_at_call 58;refine(ZcM _ _).mono ?_;rintro e w' ⟨rfl,rfl⟩)
      all_goals first|(exfalso;omega)|(go_ret2;exact⟨by rw[HF.out];rfl,rfl⟩)
     ·go_wp2_with (go_at_call 58;refine(ZcM _ _).mono ?_;rintro e w' ⟨rfl,rfl⟩)
      all_goals first|(exfalso;omega)|skip
      go_round
      case rel=>exact⟨k+1,by omega,by go_num,by rw[HS.out];go_num,by rw[HS.out];omega,HA.out⟩
      case measure=>simp[intOf];omega
   ·have HF:Hid (numT most (bl s)=_):=Zho (Zj6 most s k hlt h1 HZ.out ha.out hv)
    go_wp2
    go_ret2
    exact⟨by rw[HF.out];rfl,rfl⟩
theorem Tryz.infoString:(Tryz.prog.info? 9).map (fun i=>(i.zero,i.size,i.bytes))=some (some (.string ByteArray.empty),1,16):=by kernel_rfl
theorem Zsr{c:UInt8}{l:List UInt8}(h:c∉l):split c l=[l]:=by
 have:=ZeW c l [] h;rw[List.append_nil]at this;rw[this];simp[split,pre]
theorem Zr7{s:ByteArray}{f k:Nat}(hf:f≤k)(hk:k<s.size):((bl s).take (k+1)).drop f=((bl s).take k).drop f++[s[k]]:=by
 rw[Zfy s k hk,List.drop_append_of_le_length (by rw[List.length_take,Zg];omega)]
theorem ZiM{s:ByteArray}{f k:Nat}(hf:f≤k):(bl s).drop f=((bl s).take k).drop f++(bl s).drop k:=by
 conv=>lhs;rw[←List.take_append_drop k (bl s)]
 by_cases h:k≤(bl s).length
 ·rw[List.drop_append_of_le_length (by rw[List.length_take];omega)]
 ·rw[List.drop_of_length_le (i:=k) (by omega),List.append_nil,List.append_nil]
set_option maxRecDepth 100000 in
set_option maxHeartbeats 1000000 in
theorem Zro(s:ByteArray)(c:UInt8)(w:World)(hs:s.size≤6000) :
  Calls Tryz.prog 50 #[.string s, .int .u8 c.toNat] w fun e w' => ∃ (v : Value) (bs : List ByteArray), e = .returned v ∧
    w'.ownsRow w.heap.size 9 1 v bs.length (bs.map Value.string)∧Hid (bs.map bl=split c (bl s))∧Below w.heap.size w w':=by
 obtain⟨i0,hi,hz0,hz1,hz2⟩:=info_parts Tryz.infoString
 go_enter Tryz.func50,Tryz.ntmps50
 go_wp2
 go_loopw [5, 6, 7] (fun v fr i wr => ∃ (k f : Nat) (bs : List ByteArray), k ≤ s.size + 1 ∧ i = .int .i64 k ∧ fr = .int .i64 f ∧ bs.length ≤ k ∧ wr.ownsRow w.heap.size 9 1 v bs.length (bs.map Value.string) ∧ Below w.heap.size w wr ∧ f ≤ k ∧
     Hid ((k≤s.size∧split c (bl s)=bs.map bl++split c ((bl s).drop f)∧c∉((bl s).take k).drop f)∨(k=s.size+1∧split c (bl s)=bs.map bl)))
   (fun _ _ i _=>s.size+1 - (intOf i).toNat)
 case atStart=>exact⟨0,0,[],Nat.zero_le _,rfl,rfl,Nat.le_refl _,World.ownsRow_nil _ _ _ _,Below.refl _ _,Nat.le_refl _,Or.inl ⟨Nat.zero_le _,by simp,by simp⟩⟩
 case round=>
  obtain⟨k,f,bs,hk,rfl,rfl,hbk,hown,hbr,hfk,HA⟩:=hrel
  have hwr:w.heap.size≤wr.heap.size:=hbr.size
  by_cases hle:k≤s.size
  ·have HB:Hid (split c (bl s)=bs.map bl++split c ((bl s).drop f)∧c∉((bl s).take k).drop f):=by
    rcases HA.out with ⟨_,h1,h2⟩|⟨h,_⟩
    ·exact⟨h1,h2⟩
    ·omega
   clear HA
   have hcase:(k=s.size∧((k:Int) == (s.size:Int))=true)∨(((k:Int) == (s.size:Int))=false∧∃h:k<s.size,((s[k].toNat:Int) == (c.toNat:Int))=true∧s[k]=c)∨(((k:Int) == (s.size:Int))=false∧∃h:k<s.size,((s[k].toNat:Int) == (c.toNat:Int))=false∧s[k]≠c):=by
    by_cases h:k<s.size
    ·have h0:((k:Int) == (s.size:Int))=false:=by rw[beq_eq_false_iff_ne];omega
     by_cases he:s[k]=c
     ·exact Or.inr (Or.inl ⟨h0,h,by rw[he];simp,he⟩)
     ·exact Or.inr (Or.inr ⟨h0,h,by rw[beq_eq_false_iff_ne];intro hh;exact he (UInt8.toNat_inj.1 (by omega)),he⟩)
    ·exact Or.inl ⟨by omega,by rw[beq_iff_eq];omega⟩
   rcases hcase with ⟨hks,hb0⟩|⟨hb0,hlt,hb1,he⟩|⟨hb0,hlt,hb1,he⟩
   ·have HF:Hid ((k+1≤s.size∧split c (bl s)=(bs++[s.extract f k]).map bl++split c ((bl s).drop (k+1))∧c∉((bl s).take (k+1)).drop (k+1))∨(k+1=s.size+1∧split c (bl s)=(bs++[s.extract f k]).map bl)):=by
     refine Or.inr ⟨by omega,?_⟩
     have h2:=HB.2
     have hd:=ZiM (s:=s) hfk
     rw[List.drop_of_length_le (i:=k) (by rw[Zg];omega),List.append_nil]at hd
     rw[HB.1,hd,Zsr h2,List.map_append,List.map_cons,List.map_nil,ZbR]
    have HK:Hid (k=s.size):=hks
    clear hks HB
    go_wp2_with (at_builtin;refine wpList_append_own _ rfl (.tmp 25) (.tmp 30) 31 rfl w.heap.size 9 i0 (.string ByteArray.empty) 1 16 Tryz.underlying31 hi hz0 hz1 hz2 rfl (by decide) _ _ _ rfl (hown.alloc _) ⟨wr.heap.size,0,none⟩ 1 1 [.string (s.extract f k)] rfl rfl ?c1 ?c2 ?c3 ?c4 ?c5 ?_)
    case c1=>exact cell_one_new _ _ _
    case c2=>intro u hu;simp at hu;subst hu;rfl
    case c3=>unfold maxLen;omega
    case c4=>omega
    case c5=>simp;omega
    intro v' w3 hown3 hgrow _
    have hb3:Below w.heap.size w w3:=(hbr.alloc (by omega) _).grown hgrow (by simp;omega) (fun q hq=>(hown.lt q hq).1)
    have hown4:w3.ownsRow w.heap.size 9 1 v' (bs++[s.extract f k]).length ((bs++[s.extract f k]).map Value.string):=by
     rw[List.length_append,List.map_append];exact hown3
    clear hown hgrow hown3
    go_wp2
    go_roundw
    case rel=>exact⟨k+1,k+1,_,by omega,by go_num,by go_num,by simp;omega,hown4,hb3,Nat.le_refl _,HF⟩
    case measure=>simp[intOf];omega
   ·have HF:Hid ((k+1≤s.size∧split c (bl s)=(bs++[s.extract f k]).map bl++split c ((bl s).drop (k+1))∧c∉((bl s).take (k+1)).drop (k+1))∨(k+1=s.size+1∧split c (bl s)=(bs++[s.extract f k]).map bl)):=by
     refine Or.inl ⟨by omega,?_,?_⟩
     ·have hd:=ZiM (s:=s) hfk
      rw[ZbU s k hlt,he]at hd
      rw[HB.1,hd,ZeW c _ _ HB.2,Zey,List.map_append,List.map_cons,List.map_nil,ZbR]
      simp[pre]
     ·rw[List.drop_of_length_le (by rw[List.length_take];omega)];simp
    clear HB he
    go_wp2_with (at_builtin;refine wpList_append_own _ rfl (.tmp 25) (.tmp 30) 31 rfl w.heap.size 9 i0 (.string ByteArray.empty) 1 16 Tryz.underlying31 hi hz0 hz1 hz2 rfl (by decide) _ _ _ rfl (hown.alloc _) ⟨wr.heap.size,0,none⟩ 1 1 [.string (s.extract f k)] rfl rfl ?c1 ?c2 ?c3 ?c4 ?c5 ?_)
    case c1=>exact cell_one_new _ _ _
    case c2=>intro u hu;simp at hu;subst hu;rfl
    case c3=>unfold maxLen;omega
    case c4=>omega
    case c5=>simp;omega
    intro v' w3 hown3 hgrow _
    have hb3:Below w.heap.size w w3:=(hbr.alloc (by omega) _).grown hgrow (by simp;omega) (fun q hq=>(hown.lt q hq).1)
    have hown4:w3.ownsRow w.heap.size 9 1 v' (bs++[s.extract f k]).length ((bs++[s.extract f k]).map Value.string):=by
     rw[List.length_append,List.map_append];exact hown3
    clear hown hgrow hown3
    go_wp2
    go_roundw
    case rel=>exact⟨k+1,k+1,_,by omega,by go_num,by go_num,by simp;omega,hown4,hb3,Nat.le_refl _,HF⟩
    case measure=>simp[intOf];omega
   ·have HF:Hid ((k+1≤s.size∧split c (bl s)=bs.map bl++split c ((bl s).drop f)∧c∉((bl s).take (k+1)).drop f)∨(k+1=s.size+1∧split c (bl s)=bs.map bl)):=by
     refine Or.inl ⟨by omega,HB.1,?_⟩
     rw[Zr7 hfk hlt,List.mem_append,not_or]
     exact⟨HB.2,by simp;exact fun h=>he h.symm⟩
    clear HB he
    go_wp2
    go_roundw
    case rel=>exact⟨k+1,f,bs,by omega,by go_num,rfl,by omega,hown,hbr,by omega,HF⟩
    case measure=>simp[intOf];omega
  ·have HF:Hid (bs.map bl=split c (bl s)):=hid (by
    rcases HA.out with ⟨h,_⟩|⟨_,h⟩
    ·omega
    ·exact h.symm)
   go_wp2
   go_ret
   exact⟨_,bs,rfl,hown,HF,hbr⟩
end Go.Proofs.YtpbemaaghbbocaaGreatDoor
