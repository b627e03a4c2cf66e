/- Parts. -/
import Derived.Test.YtcdgkkfipdoeeaaGreatDoorT14
import Derived.Test.YtcdgkkfipdoeeaaGreatDoorT05
import Derived.Test.YtcdgkkfipdoeeaaGreatDoorT11
import Derived.Deep.RegionHeld3
import Derived.Deep.DrawnRows
import Derived.Deep.CutBlock
set_option maxHeartbeats 4000000
set_option maxRecDepth 100000
namespace Go.Proofs.YtcdgkkfipdoeeaaGreatDoor
open Go.RowKit LS
structure Itm where
 a:Option Addr
 n:Nat
 c:Nat
 tx:ByteArray
 qs:List (ByteArray×ByteArray)
 v:Int
instance:Inhabited Itm:=⟨⟨none,0,0,⟨#[]⟩,[],0⟩⟩
def Itm.enc(i:Itm):List Value:=[.slice i.a i.n i.c,.string i.tx,.int .i64 i.v]
def Itm.labs(i:Itm):List Lab:=i.qs.map blP
def Itm.el(i:Itm):El:=(i.labs,i.v)
structure LbOk (w:World) (a:Option Addr) (n c:Nat) (tx:ByteArray) (qs:List (ByteArray×ByteArray)):Prop where
 row:ZbT w 0 (.slice a n c) n qs
 txt:bl tx=wrt (qs.map blP)
 wf:Zc0 (qs.map blP)
structure ItmOk (w:World) (i:Itm):Prop where
 lb:LbOk w i.a i.n i.c i.tx i.qs
 vok:vOk i.v
def encs(l:List Itm):List Value:=(l.map Itm.enc).flatten
theorem ZjR(l:List Itm):(encs l).length=l.length*3:=by
 induction l with
 | nil=>rfl
 | cons a l ih=>unfold encs at *;rw[List.map_cons,List.flatten_cons,List.length_append,ih,List.length_cons];simp[Itm.enc];omega
theorem ZgQ(l m:List Itm):encs (l++m)=encs l++encs m:=by unfold encs;rw[List.map_append,List.flatten_append]
theorem ZeS(l:List Itm)(j:Nat)(hj:j<l.length):(encs l)[j*3]?=some (.slice l[j].a l[j].n l[j].c)/\(encs l)[j*3+1]?=some (.string l[j].tx)/\(encs l)[j*3+2]?=some (.int .i64 l[j].v):=by
 induction l generalizing j with
 | nil=>simp at hj
 | cons a l ih=>
  have e:encs (a::l)=.slice a.a a.n a.c::.string a.tx::.int .i64 a.v::encs l:=rfl
  cases j with
  | zero=>rw[e];exact⟨rfl,rfl,rfl⟩
  | succ j=>
   have h:=ih j (by simpa using hj)
   rw[e,show(j+1)*3=j*3+1+1+1 by omega]
   simpa using h
structure VecV (w:World) (v:Value) (l:List El) (is:List Itm):Prop where
 row:w.ownsRow 0 286 3 v is.length (encs is)
 els:is.map Itm.el=l
 ok:∀i∈is,ItmOk w i
 len:is.length<=1000
def Z1(e:TypeId)(w w':World):Prop:=∀(b:Nat) (c:Array Value) (T:TypeId) (fr:Nat×Nat),T≠e->w.heap[b]?=some (.cells c T fr)->w'.heap[b]?=some (.cells c T fr)
def Zs(w w':World):Prop:=∀(b:Nat) (c:Array Value) (T:TypeId) (fr:Nat×Nat),w.heap[b]?=some (.cells c T fr)->w'.heap[b]?=some (.cells c T fr)
theorem Zs.refl(w:World):Zs w w:=fun _ _ _ _ h=>h
theorem Zs.trans{a b c:World}(h:Zs a b)(k:Zs b c):Zs a c:=fun x d T fr hx=>k x d T fr (h x d T fr hx)
theorem Zs.below{w w':World}(h:Below w.heap.size w w'):Zs w w':=fun b _ _ _ hb=>(h.block b (Array.getElem?_eq_some_iff.1 hb).1).trans hb
theorem Zs.b{w w':World}(h:Zs w w')(e:TypeId):Z1 e w w':=fun b c T fr _ hb=>h b c T fr hb
theorem Z1.trans{e:TypeId}{a b c:World}(h:Z1 e a b)(k:Z1 e b c):Z1 e a c:=fun x d T fr he hx=>k x d T fr he (h x d T fr he hx)
theorem Z1.below{w w':World}(h:Below w.heap.size w w')(e:TypeId):Z1 e w w':=(Zs.below h).b e
theorem Z1.grown{w w':World}{b:Nat}{e:TypeId}{s:Nat}{v:Value}{n:Nat}{xs:List Value}(hg:w.grownBy w' v.ownBlock)(hv:w.ownsRow b e s v n xs):Z1 e w w':=fun k _ _ _ hT hk=>(hg.block k (Array.getElem?_eq_some_iff.1 hk).1 (Zdl hv hk hT)).trans hk
theorem Z1.own{t:TypeId}{w w':World}(h:Z1 t w w'){base:Nat}{e:TypeId}{size:Nat}{v:Value}{n:Nat}{xs:List Value}(ho:w.ownsRow base e size v n xs)(he:e≠t):w'.ownsRow base e size v n xs:=by
 refine⟨ho.1,?_⟩
 rcases ho.2 with h2|⟨g,cap,cur,hv,hg,hh,r⟩
 ·exact Or.inl h2
 ·exact Or.inr ⟨g,cap,cur,hv,hg,h _ _ _ _ he hh,r⟩
theorem Zs.own{w w':World}(h:Zs w w'){base:Nat}{e:TypeId}{size:Nat}{v:Value}{n:Nat}{xs:List Value}(ho:w.ownsRow base e size v n xs):w'.ownsRow base e size v n xs:=by
 refine⟨ho.1,?_⟩
 rcases ho.2 with h2|⟨g,cap,cur,hv,hg,hh,r⟩
 ·exact Or.inl h2
 ·exact Or.inr ⟨g,cap,cur,hv,hg,h _ _ _ _ hh,r⟩
theorem Zs.cell{w w':World}(h:Zs w w'){b o:Nat}{u:Value}(hc:w.cell? ⟨b,o,none⟩=some u):w'.cell? ⟨b,o,none⟩=some u:=by
 unfold World.cell? at hc ⊢
 cases hb:w.heap[b]? with
 | none=>simp[hb]at hc
 | some ob=>
  cases ob with
  | cells c T fr=>simp only[h _ _ _ _ hb,hb]at hc ⊢;exact hc
  | _=>simp[hb]at hc
theorem LbOk.kb{t:TypeId}{w w':World}{a:Option Addr}{n c:Nat}{tx:ByteArray}{qs:List (ByteArray×ByteArray)}(h:LbOk w a n c tx qs)(hk:Z1 t w w')(ht:378≠t):LbOk w' a n c tx qs:=⟨⟨hk.own h.row.1 ht,h.row.2⟩,h.txt,h.wf⟩
theorem ItmOk.kb{t:TypeId}{w w':World}{i:Itm}(h:ItmOk w i)(hk:Z1 t w w')(ht:378≠t):ItmOk w' i:=⟨h.lb.kb hk ht,h.vok⟩
theorem LbOk.keepsC{w w':World}{a:Option Addr}{n c:Nat}{tx:ByteArray}{qs:List (ByteArray×ByteArray)}(h:LbOk w a n c tx qs)(hk:Zs w w'):LbOk w' a n c tx qs:=⟨⟨hk.own h.row.1,h.row.2⟩,h.txt,h.wf⟩
theorem ItmOk.keepsC{w w':World}{i:Itm}(h:ItmOk w i)(hk:Zs w w'):ItmOk w' i:=⟨h.lb.keepsC hk,h.vok⟩
theorem ItmOk.below{w w':World}{i:Itm}(h:ItmOk w i)(hb:Below w.heap.size w w'):ItmOk w' i:=h.keepsC (Zs.below hb)
theorem VecV.keepsC{w w':World}{v:Value}{l:List El}{is:List Itm}(h:VecV w v l is)(hk:Zs w w'):VecV w' v l is:=⟨hk.own h.row,h.els,fun i hi=>(h.ok i hi).keepsC hk,h.len⟩
theorem VecV.below{w w':World}{v:Value}{l:List El}{is:List Itm}(h:VecV w v l is)(hb:Below w.heap.size w w'):VecV w' v l is:=h.keepsC (Zs.below hb)
theorem VecV.len'{w:World}{v:Value}{l:List El}{is:List Itm}(h:VecV w v l is):l.length=is.length:=by rw[<-h.els,List.length_map]
def ValP(w:World)(v:Value):VV->Prop
 | .sc n=>v=.iface 282 (.int .i64 n)/\vOk n
 | .vec l=>∃s is,v=.iface 284 s/\VecV w s l is
theorem ValP.keepsC{w w':World}{v:Value}{V:VV}(h:ValP w v V)(hk:Zs w w'):ValP w' v V:=by
 cases V with
 | sc n=>exact h
 | vec l=>obtain⟨s,is,h1,h2⟩:=h;exact⟨s,is,h1,h2.keepsC hk⟩
theorem Tryz.infoItem:(Tryz.prog.info? 286).map (fun i=>(i.zero,i.size,i.bytes))=some (some (.agg #[.slice none 0 0,.string ByteArray.empty,.int .i64 0]),3,48):=by kernel_rfl
def Zhs(w:World)(g off:Nat)(l:List (Int×Int)):Prop:=∃c fr,w.heap[g]?=some (.cells c 358 fr)/\∀j (h:j<l.length),c[off+j*2]?=some (.int .i64 l[j].1)/\c[off+j*2+1]?=some (.int .i64 l[j].2)
theorem Zhs.cells{w:World}{g off:Nat}{l:List (Int×Int)}(h:Zhs w g off l)(j:Nat)(hj:j<l.length):w.cell? ⟨g,off+j*2,none⟩=some (.int .i64 l[j].1)/\w.cell? ⟨g,off+j*2+1,none⟩=some (.int .i64 l[j].2):=by
 obtain⟨c,fr,h1,h2⟩:=h
 obtain⟨h3,h4⟩:=h2 j hj
 constructor <;> simp[World.cell?,h1,h3,h4]
def SamV(w:World)(av:Option Addr)(l:List (Int×Int)):Prop:=l=[]∨∃g off,av=some ⟨g,off,none⟩/\Zhs w g off l
theorem SamV.kb{t:TypeId}{w w':World}{av:Option Addr}{l:List (Int×Int)}(h:SamV w av l)(hk:Z1 t w w')(ht:358≠t):SamV w' av l:=by
 rcases h with h|⟨g,off,h1,c,fr,h2,h3⟩
 ·exact Or.inl h
 ·exact Or.inr ⟨g,off,h1,c,fr,hk _ _ _ _ ht h2,h3⟩
theorem SamV.keepsC{w w':World}{av:Option Addr}{l:List (Int×Int)}(h:SamV w av l)(hk:Zs w w'):SamV w' av l:=by
 rcases h with h|⟨g,off,h1,c,fr,h2,h3⟩
 ·exact Or.inl h
 ·exact Or.inr ⟨g,off,h1,c,fr,hk _ _ _ _ h2,h3⟩
theorem SamV.below{w w':World}{av:Option Addr}{l:List (Int×Int)}(h:SamV w av l)(hb:Below w.heap.size w w'):SamV w' av l:=h.keepsC (Zs.below hb)
theorem Zzq(b1 b2 g off n cp i:Nat)(t x:Int)(w:World)(hi:i<n)(h1:w.cell? ⟨b1,0,none⟩=some (.slice (some ⟨g,off,none⟩) n cp))(h2:w.cell? ⟨b2,0,none⟩=some (.int .i64 t))(hc:w.cell? ⟨g,off+i*2,none⟩=some (.int .i64 x)) :
  Calls Tryz.prog 270 #[.int .i64 i,.pointer (some ⟨b1,0,none⟩),.pointer (some ⟨b2,0,none⟩)] w fun e w'=>e=.returned (.bool (decide (t<x)))/\Below w.heap.size w w':=by
 have hiz:(i:Int)<(n:Int):=by omega
 go_enter Tryz.func270,Tryz.ntmps270
 go_wp2
 go_region
 all_goals go_wp2
 all_goals go_ret
 all_goals exact⟨by first|rfl|simp,belB⟩
theorem ZrK{l:List (Int×Int)}{t:Int}{k:Nat}(hk:k<=l.length)(h1:∀j (h:j<l.length),j<k->l[j].1<=t)(h2:∀j (h:j<l.length),k<=j->t<l[j].1):ZY l t=k:=by
 have e:l=l.take k++l.drop k:=(List.take_append_drop k l).symm
 unfold ZY
 rw[e,List.countP_append]
 have a1 : (l.take k).countP (fun x => decide (x.1 <= t)) = k := by
   rw[List.countP_eq_length.2 (fun x hx=>?_),List.length_take,Nat.min_eq_left hk]
   obtain⟨j,hj,rfl⟩:=List.mem_iff_getElem.1 hx
   rw[List.length_take]at hj
   rw[List.getElem_take]
   simpa using h1 j (by omega) (by omega)
 have a2 : (l.drop k).countP (fun x => decide (x.1 <= t)) = 0 := by
   rw[List.countP_eq_zero]
   intro x hx
   obtain⟨j,hj,rfl⟩:=List.mem_iff_getElem.1 hx
   rw[List.length_drop]at hj
   rw[List.getElem_drop]
   have:=h2 (k+j) (by omega) (by omega)
   simp;omega
 rw[a1,a2];rfl
theorem TmS.get{l:List (Int×Int)}(h:TmS l){i j:Nat}(hi:i<=j)(hj:j<l.length):l[i].1<=l[j].1:=by
 rcases Nat.lt_or_ge i j with h1|h1
 ·exact Int.le_of_lt (List.pairwise_iff_getElem.1 h i j (by omega) hj h1)
 ·obtain rfl:i=j:=by omega
  exact Int.le_refl _
theorem Zxu(b1 b2 cp:Nat)(av:Option Addr)(l:List (Int×Int))(t:Int)(w:World)(hs:TmS l)(hlen:l.length<=6001)(h1:w.cell? ⟨b1,0,none⟩=some (.slice av l.length cp))(h2:w.cell? ⟨b2,0,none⟩=some (.int .i64 t))(hS:SamV w av l) :
  Calls Tryz.prog 269 #[.int .i64 l.length,.func (.func 270) #[] #[.pointer (some ⟨b1,0,none⟩),.pointer (some ⟨b2,0,none⟩)]] w fun e w'=>e=.returned (.int .i64 (ZY l t:Nat))/\Below w.heap.size w w':=by
 have HS:Hid (TmS l):=hs
 have HV:Hid (SamV w av l):=hS
 have H1:Hid (w.cell? ⟨b1,0,none⟩=some (.slice av l.length cp)):=h1
 have H2:Hid (w.cell? ⟨b2,0,none⟩=some (.int .i64 t)):=h2
 obtain⟨r,hr⟩:∃r,r=ZY l t:=⟨_,rfl⟩
 rw[<-hr]
 have HR:Hid (r=ZY l t):=hr
 obtain⟨n,hn⟩:∃n,n=l.length:=⟨_,rfl⟩
 rw[<-hn]at hlen ⊢
 have HN:Hid (n=l.length):=hn
 clear hs hS h1 h2 hr hn
 go_enter Tryz.func269,Tryz.ntmps269
 go_wp2
 go_loopg [5,6] n (fun kx s5 s6 wr=>∃lo hi:Nat,s5=.int .i64 lo/\s6=.int .i64 hi/\lo<=hi/\hi<=n/\hi - lo<=kx/\Hid (Below w.heap.size w wr)/\Hid ((∀j (h:j<l.length),j<lo->l[j].1<=t)/\(∀j (h:j<l.length),hi<=j->t<l[j].1)))
 case atStart=>exact⟨0,n,rfl,rfl,Nat.zero_le _,Nat.le_refl _,by omega,hid (Below.refl _ _),hid ⟨fun j _ h=>absurd h (Nat.not_lt_zero _),fun j h h'=>by have:=HN.out;omega⟩⟩
 case round=>
  obtain⟨lo,hi,rfl,rfl,hlh,hin,hg,HB,I⟩:=hrel
  by_cases hlt:lo<hi
  ·have hml:(lo+hi) / 2<l.length:=by have:=HN.out;omega
   have hne:l≠[]:=by intro e;rw[e]at hml;simp at hml
   obtain⟨g,off,rfl,hA⟩:=HV.resolve_left hne
   have k1:=(Zs.below HB.out).cell H1.out
   have k2:=(Zs.below HB.out).cell H2.out
   have k3:=(Zs.below HB.out).cell (hA.cells _ hml).1
   rw[<-HN.out]at k1
   have hc:=Zzq b1 b2 g off n cp ((lo+hi) / 2) t (l[(lo+hi) / 2]).1 wr (by omega) k1 k2 k3
   have HM:Hid (∀i (h:i<l.length),i<=(lo+hi) / 2->l[i].1<=l[(lo+hi) / 2].1):=hid (fun i h h'=>HS.get h' hml)
   have HM2:Hid (∀i (h:i<l.length),(lo+hi) / 2<=i->l[(lo+hi) / 2].1<=l[i].1):=hid (fun i h h'=>HS.get h' h)
   rw[show(((lo+hi) / 2:Nat):Int)=((lo:Int)+(hi:Int)) / 2 by omega]at hc
   clear k1 k2 k3 hA
   generalize(l[(lo+hi) / 2]).1=x at *
   by_cases hx:t<x
   ·rw[decide_eq_true hx]at hc
    go_wp2_with (go_at_call 270;refine hc.mono ?_;rintro e w' ⟨rfl,hb⟩)
    go_roundg ((lo+hi) / 2 - lo)
    case measure=>omega
    case rel=>
     exact⟨lo,(lo+hi) / 2,rfl,by rw[show((lo:Int)+(hi:Int)) / 2=(((lo+hi) / 2:Nat):Int) by omega],by omega,by omega,Nat.le_refl _,hid (HB.trans (hb.mono HB.size)),hid ⟨I.1,fun j h h'=>Int.lt_of_lt_of_le hx (HM2.out j h h')⟩⟩
   ·rw[decide_eq_false hx]at hc
    go_wp2_with (go_at_call 270;refine hc.mono ?_;rintro e w' ⟨rfl,hb⟩)
    go_roundg (hi - ((lo+hi) / 2+1))
    case measure=>omega
    case rel=>
     exact⟨(lo+hi) / 2+1,hi,by rw[show((lo:Int)+(hi:Int)) / 2+1=(((lo+hi) / 2+1:Nat):Int) by omega],rfl,by omega,hin,Nat.le_refl _,hid (HB.trans (hb.mono HB.size)),hid ⟨fun j h h'=>Int.le_trans (HM.out j h (by omega)) (by omega),I.2⟩⟩
  ·obtain rfl:hi=lo:=by omega
   have e:r=hi:=by rw[HR.out];exact ZrK (by have:=HN.out;omega) I.1 I.2
   subst e
   have hb:=HB.out
   go_wp2
   go_ret
   exact⟨rfl,hb⟩
theorem Zp3(cp:Nat)(av:Option Addr)(l:List (Int×Int))(t:Int)(w:World)(hs:TmS l)(hlen:l.length<=6001)(hS:SamV w av l) :
  Calls Tryz.prog 239 #[.slice av l.length cp,.int .i64 t] w fun e w'=>e=.returned (.int .i64 (ZY l t:Nat))/\Below w.heap.size w w':=by
 have HS:Hid (∀W,Below w.heap.size w W->SamV W av l):=hid (fun W h=>hS.below h)
 have HT:Hid (TmS l):=hs
 clear hS hs
 go_enter Tryz.func239,Tryz.ntmps239
 go_wp2_with fail
 refine(Zxu _ _ cp av l t _ HT.out hlen ?_ ?_ (HS.out _ belB)).mono ?_
 ·simp
 ·simp
 rintro e w' ⟨rfl,hb⟩
 have hb':Below w.heap.size w w':=Below.trans belB (hb.mono (by simp;omega))
 go_wp2
 go_ret
 exact⟨rfl,hb'⟩
theorem ZzW{l:List (Int×Int)}(h:TmS l){n t:Int}(hn:0<=n):(ZbI l n t).length=ZY l t - ZY l (t - n)/\∀j (hj:j<(ZbI l n t).length),∃h2:ZY l (t - n)+j<l.length,(ZbI l n t)[j]=l[ZY l (t - n)+j]:=by
 have e:=ZzX h (t:=t) hn
 have hl:(ZbI l n t).length=ZY l t - ZY l (t - n):=by
  rw[<-e,List.length_drop,List.length_take,Nat.min_eq_left (ZjB l t)]
 refine⟨hl,fun j hj=>?_⟩
 have:=ZjB l t
 refine⟨by omega,?_⟩
 have e2:(ZbI l n t)[j]?=l[ZY l (t - n)+j]?:=by
  rw[<-e,List.getElem?_drop,List.getElem?_take_of_lt (by omega)]
 rw[List.getElem?_eq_getElem hj,List.getElem?_eq_getElem (by omega)]at e2
 exact Option.some.inj e2
theorem ZwD(cp:Nat)(av:Option Addr)(l:List (Int×Int))(n t:Int)(w:World)(hs:TmS l)(hlen:l.length<=6001)(hcp:l.length<=cp)(hn0:0<=n)(hn1:n<=1000)(ht0 : -1000000<=t)(ht1:t<=1000000)(hS:SamV w av l) :
  Calls Tryz.prog 210 #[.slice av l.length cp,.int .i64 n,.int .i64 t] w fun e w'=>∃av' cp',e=.returned (.slice av' (ZbI l n t).length cp')/\Hid (SamV w' av' (ZbI l n t))/\Below w.heap.size w w':=by
 have hG:=ZzW hs (t:=t) hn0
 have hm:ZY l (t - n)<=ZY l t:=ZrL l (by omega)
 have hle:=ZjB l t
 have HG:Hid _:=hid hG
 have HT:Hid (TmS l):=hs
 have HS:Hid (SamV w av l):=hS
 have HL:Hid (l.length<=6001):=hlen
 have hlz:(ZbI l n t).length=ZY l t - ZY l (t - n):=hG.1
 clear hG hs hS
 have U1:Hid (∀W,Below w.heap.size w W->Calls Tryz.prog 239 #[.slice av l.length cp,.int .i64 (t - n)] W fun e w'=>e=.returned (.int .i64 (ZY l (t - n):Nat))/\Below W.heap.size W w'):=hid (fun W hW=>Zp3 cp av l (t - n) W HT.out HL.out (HS.below hW))
 have U2:Hid (∀W,Below w.heap.size w W->Calls Tryz.prog 239 #[.slice av l.length cp,.int .i64 t] W fun e w'=>e=.returned (.int .i64 (ZY l t:Nat))/\Below W.heap.size W w'):=hid (fun W hW=>Zp3 cp av l t W HT.out HL.out (HS.below hW))
 obtain⟨lo,hlo⟩:∃lo,ZY l (t - n)=lo:=⟨_,rfl⟩
 obtain⟨hi,hhi⟩:∃hi,ZY l t=hi:=⟨_,rfl⟩
 obtain⟨ln,hln⟩:∃ln,l.length=ln:=⟨_,rfl⟩
 obtain⟨wn,hwn⟩:∃wn,(ZbI l n t).length=wn:=⟨_,rfl⟩
 rw[hlo,hhi]at HG
 rw[hlo,hhi,hwn]at hlz
 rw[hwn]
 rw[hln,hlo]at U1
 rw[hln,hhi]at U2
 rw[hlo,hhi]at hm
 rw[hhi,hln]at hle
 rw[hln]at hlen hcp ⊢
 have HLN:Hid (l.length=ln):=hln
 have HWN:Hid ((ZbI l n t).length=wn):=hwn
 clear hlo hhi hln hwn HL
 subst hlz
 have hav:av=none->hi=0/\lo=0:=by
  intro e
  rcases HS.out with h|⟨g,off,h1,_⟩
  ·have:=HLN.out;rw[h]at this;simp at this;omega
  ·rw[e]at h1;cases h1
 cases av with
 | none=>
  obtain⟨rfl,rfl⟩:=hav rfl
  have HN:Hid (ZbI l n t=[]):=hid (List.eq_nil_of_length_eq_zero (by have:=HWN.out;omega))
  go_enter Tryz.func210,Tryz.ntmps210
  go_wp2_with fail
  refine(U1.out _ (Below.refl _ _)).mono ?_
  rintro e w1 ⟨rfl,hb1⟩
  go_wp2_with fail
  refine(U2.out _ hb1).mono ?_
  rintro e w2 ⟨rfl,hb2⟩
  have hb3:Below w.heap.size w w2:=hb1.trans (hb2.mono hb1.size)
  go_wp2
  go_ret
  exact⟨_,_,rfl,hid (Or.inl HN.out),hb3⟩
 | some a0=>
  go_enter Tryz.func210,Tryz.ntmps210
  go_wp2_with fail
  refine(U1.out _ (Below.refl _ _)).mono ?_
  rintro e w1 ⟨rfl,hb1⟩
  go_wp2_with fail
  refine(U2.out _ hb1).mono ?_
  rintro e w2 ⟨rfl,hb2⟩
  have hb3:Below w.heap.size w w2:=hb1.trans (hb2.mono hb1.size)
  go_wp2
  go_ret
  ·exact⟨_,⟨_,rfl⟩,hid (Or.inl (List.eq_nil_of_length_eq_zero (by have:=HWN.out;omega))),hb3⟩
  ·go_ret
   rcases HS.out with h|⟨g,off,h1,c,fr,h2,h3⟩
   ·exact⟨_,⟨_,rfl⟩,hid (Or.inl (by rw[h];rfl)),hb3⟩
   ·injection h1 with h1
    subst h1
    refine⟨_,⟨_,rfl⟩,hid (Or.inr ⟨g,off+lo*2,?_,c,fr,Zs.below hb3 _ _ _ _ h2,fun j hj=>?_⟩),hb3⟩
    ·simp[Addr.add]
    ·obtain⟨hj2,e⟩:=HG.2 j hj
     have:=h3 (lo+j) hj2
     rw[e,show off+lo*2+j*2=off+(lo+j)*2 by omega]
     exact this
theorem Zql:∀(l:List Lab) (n:List UInt8) (k:Nat) (hk:k<l.length),(∀p∈l.take k,p.1≠n)->l[k].1=n->Zen l n=l[k].2
 | p::l,n,0,_,_,he=>by rw[Zen];exact if_pos he
 | p :: l, n, k + 1, hk, hn, he => by
   rw[Zen,if_neg (hn p (by simp))]
   exact Zql l n k (by simpa using hk) (fun q hq=>hn q (by rw[List.take_succ_cons];exact List.mem_cons_of_mem _ hq)) he
theorem Zqm:∀(l:List Lab) (n:List UInt8),(∀p∈l,p.1≠n)->Zen l n=[]
 | [],_,_=>rfl
 | p::l,n,h=>by rw[Zen,if_neg (h p (List.mem_cons_self ..))];exact Zqm l n (fun q hq=>h q (List.mem_cons_of_mem _ hq))
theorem Zuy(av:Option Addr)(n cp:Nat)(tx nm:ByteArray)(qs:List (ByteArray×ByteArray))(w:World)(h:ZbT w 0 (.slice av n cp) n qs) :
  Calls Tryz.prog 238 #[.agg #[.slice av n cp,.string tx],.string nm] w fun e w'=>∃r:ByteArray,e=.returned (.string r)/\Hid (bl r=Zen (qs.map blP) (bl nm))/\Below w.heap.size w w':=by
 have hlen:qs.length=n:=by have:=h.1.1;rw[ZhK]at this;omega
 subst hlen
 have HR:Hid (ZbT w 0 (.slice av qs.length cp) qs.length qs):=h
 have hn6:qs.length<=6001:=h.2.1
 clear h
 go_enter Tryz.func238,Tryz.ntmps238
 go_wp2
 go_loopw [10] (fun i wr=>∃k:Nat,k<=qs.length/\i=.int .i64 k/\Hid (∀q∈qs.take k,bl q.1≠bl nm)/\Hid (Below w.heap.size w wr)) (fun i _=>qs.length - (intOf i).toNat)
 case atStart=>exact⟨0,Nat.zero_le _,rfl,hid (by intro q hq;simp at hq),hid Zbal⟩
 case round=>
  obtain⟨k,hk,rfl,HN,HB⟩:=hrel
  by_cases hlt:k<qs.length
  ·obtain⟨g,cpx,hg⟩:=ZW HR.1 (by omega)
   injection hg with hg1 _ hg2
   subst hg1 hg2
   have hrow:=Zw HR.1 HB.out
   have c1:wr.cell? ⟨g,k*2,none⟩=some (.string (qs[k]).1):=Zr hrow _ _ (by rw[(ZhJ qs k).1,List.getElem?_eq_getElem hlt];rfl)
   have c2:wr.cell? ⟨g,k*2+1,none⟩=some (.string (qs[k]).2):=Zr hrow _ _ (by rw[(ZhJ qs k).2,List.getElem?_eq_getElem hlt];rfl)
   have hwr:=HB.size
   clear hrow
   by_cases hq:bl (qs[k]).1=bl nm
   ·have HW:Hid (Zen (qs.map blP) (bl nm)=bl (qs[k]).2):=hid (by
     rw [Zql (qs.map blP) (bl nm) k (by rw [List.length_map]; exact hlt) (fun p hp => by
       rw[<-List.map_take]at hp
       obtain⟨q,hq',rfl⟩:=List.mem_map.1 hp
       exact HN.out q hq') (by rw[List.getElem_map];exact hq),List.getElem_map]
     rfl)
    have he:((qs[k]).1.toList == nm.toList)=true:=by rw[ZbH,ZbH,hq];simp
    generalize(qs[k]).1=x at *
    generalize(qs[k]).2=y at *
    go_wp2
    go_ret
    exact⟨_,rfl,hid HW.symm,belB⟩
   ·have he:((qs[k]).1.toList == nm.toList)=false:=by rw[ZbH,ZbH];simp[hq]
    have HN2:Hid (∀q∈qs.take (k+1),bl q.1≠bl nm):=hid (by
     intro q hq'
     rw[List.take_succ_eq_append_getElem hlt]at hq'
     rcases List.mem_append.mp hq' with h|h
     ·exact HN.out q h
     ·rw[List.mem_singleton]at h;subst h;exact hq)
    generalize(qs[k]).1=x at *
    generalize(qs[k]).2=y at *
    go_wp2
    go_roundw
    case rel=>exact⟨k+1,by omega,by go_num,HN2,hid (HB.alloc hwr _)⟩
    case measure=>simp[intOf];omega
  ·obtain rfl:k=qs.length:=by omega
   have HW : Hid (Zen (qs.map blP) (bl nm) = []) := hid (Zqm _ _ (fun p hp => by
     obtain⟨q,hq,rfl⟩:=List.mem_map.1 hp
     exact HN.out q (by rw[List.take_length];exact hq)))
   go_wp2
   go_ret
   exact⟨_,rfl,hid HW.symm,HB.out⟩
structure Srs where
 nm:ByteArray
 a:Option Addr
 n:Nat
 c:Nat
 tx:ByteArray
 qs:List (ByteArray×ByteArray)
 sa:Option Addr
 sc:Nat
 sams:List (Int×Int)
def Srs.enc(s:Srs):List Value:=[.string s.nm,.slice s.a s.n s.c,.string s.tx,.slice s.sa s.sams.length s.sc]
def Srs.ser(s:Srs):Ser:=⟨bl s.nm,s.qs.map blP,s.sams⟩
structure SrsOk (w:World) (s:Srs):Prop where
 lb:LbOk w s.a s.n s.c s.tx s.qs
 sam:SamV w s.sa s.sams
 tm:TmS s.sams
 len:s.sams.length<=6001
 cap:s.sams.length<=s.sc
 ok:∀x∈s.sams,smOk x
theorem SrsOk.keepsC{w w':World}{s:Srs}(h:SrsOk w s)(hk:Zs w w'):SrsOk w' s:=⟨h.lb.keepsC hk,h.sam.keepsC hk,h.tm,h.len,h.cap,h.ok⟩
theorem ZI.keepsC{w w':World}{v:Value}{ns:List (List UInt8×List UInt8×Bool)}(h:ZI w v ns)(hk:Zs w w'):ZI w' v ns:=by
 obtain⟨bs,h1,h2⟩:=h;exact⟨bs,hk.own h1,h2⟩
theorem Z4.keepsC{w w':World}{v:Value}{ns:List (List UInt8)}(h:Z4 w v ns)(hk:Zs w w'):Z4 w' v ns:=by
 obtain⟨bs,h1,h2⟩:=h;exact⟨bs,hk.own h1,h2⟩
theorem ZsN(l:List (ByteArray×ByteArray×Bool))(j:Nat)(hj:j<l.length):(ZbL l)[j*3]?=some (.string l[j].1)/\(ZbL l)[j*3+1]?=some (.bool l[j].2.2)/\(ZbL l)[j*3+2]?=some (.string l[j].2.1):=by
 induction l generalizing j with
 | nil=>simp at hj
 | cons a l ih=>
  cases j with
  | zero=>exact⟨rfl,rfl,rfl⟩
  | succ j=>
   have h:=ih j (by simpa using hj)
   rw[show(j+1)*3=j*3+1+1+1 by omega]
   simpa [ZbL] using h
theorem Zwv(a:Nd)(s:Ser)(qs:List (ByteArray×ByteArray×Bool))(h:qs.map ZN=a.conds)(k:Nat)(hk:k<qs.length)(hf:Zer s (ZN qs[k])=false):Zct a s=false:=by
 unfold Zct
 rw[<-h,show(qs.map ZN).all (Zer s)=false from ?_];rfl
 rw[List.all_eq_false]
 exact⟨ZN qs[k],List.mem_map.mpr ⟨_,List.getElem_mem hk,rfl⟩,by simp[hf]⟩
theorem Zww(a:Nd)(s:Ser)(qs:List (ByteArray×ByteArray×Bool))(h:qs.map ZN=a.conds)(hf:∀q∈qs,Zer s (ZN q)=true):Zct a s=decide (a.name=s.name):=by
 unfold Zct
 rw[<-h,show(qs.map ZN).all (Zer s)=true from ?_];rfl
 rw[List.all_eq_true]
 intro c hc
 obtain⟨q,hq,rfl⟩:=List.mem_map.mp hc
 exact hf q hq
theorem ZvT{w:World}{base:Nat}{e:TypeId}{size:Nat}{v:Value}{n:Nat}{xs:List Value}(h:w.ownsRow base e size v n xs):n<=9223372036854775807:=by
 rcases h.2 with ⟨_,h0⟩|⟨g,cap,cur,hv,hg,hh,h1,h2,r⟩
 ·omega
 ·unfold maxLen at h2;omega
theorem Zjt(a b:ByteArray):(a.toList == b.toList)=decide (bl a=bl b):=by
 rw[ZbH,ZbH,Bool.eq_iff_iff,beq_iff_eq,decide_eq_true_iff]
theorem Zwx(nm:ByteArray)(la:Option Addr)(ln lc:Nat)(nd:Nd)(s:Srs)(w:World)(hnm:bl nm=nd.name)(hc:ZI w (.slice la ln lc) nd.conds)(hl:LbOk w s.a s.n s.c s.tx s.qs) :
  Calls Tryz.prog 209 #[.agg #[.string nm,.slice la ln lc],.agg #[.string s.nm,.slice s.a s.n s.c,.string s.tx,.slice s.sa s.sams.length s.sc]] w fun e w'=>e=.returned (.bool (Zct nd s.ser))/\Below w.heap.size w w':=by
 obtain⟨cs,hown,hqs⟩:=hc
 have hcn:=ZvT hown
 obtain⟨av,cp,hv⟩:=Zv hown
 injection hv with hv1 hv2 hv3
 subst hv2
 have HO:Hid (w.ownsRow 0 224 3 (.slice la cs.length lc) cs.length (ZbL cs)):=hown
 have HNM:Hid (bl nm=nd.name/\cs.map ZN=nd.conds):=⟨hnm,hqs⟩
 obtain⟨snm,a,n,c,tx,qs,sa,sc,sams⟩:=s
 have HL:Hid (ZbT w 0 (.slice a n c) n qs):=hl.row
 clear hown hv1 hv3 hqs hnm hl
 obtain⟨S,hSv⟩:∃S,S=Srs.ser ⟨snm,a,n,c,tx,qs,sa,sc,sams⟩:=⟨_,rfl⟩
 have HSV:Hid (S.name=bl snm/\S.labs=qs.map blP):=hid (by rw[hSv];exact⟨rfl,rfl⟩)
 rw[<-hSv]
 clear hSv
 simp only
 have HE:Hid ((snm.toList == nm.toList)=decide (nd.name=S.name)):=hid (by
  rw[Zjt,HNM.1,HSV.1,decide_eq_decide];exact⟨fun h=>h.symm,fun h=>h.symm⟩)
 by_cases hne:nd.name≠S.name
 ·have he:=HE.out
  rw[decide_eq_false hne]at he
  have HF:Hid (Zct nd S=false):=hid (by unfold Zct;rw[decide_eq_false hne,Bool.and_false])
  go_enter Tryz.func209,Tryz.ntmps209
  go_wp2
  go_ret
  exact⟨by rw[HF.out];rfl,belB⟩
 replace hne:=Classical.not_not.1 hne
 have he:=HE.out
 rw[decide_eq_true hne]at he
 have HNE:Hid (nd.name=S.name):=hne
 clear hne
 go_enter Tryz.func209,Tryz.ntmps209
 go_wp2
 go_loopg [16] cs.length (fun gk v16 wr=>∃k:Nat,k<=cs.length/\gk=cs.length - k/\v16=.int .i64 k/\Hid (∀q∈cs.take k,Zer S (ZN q)=true)/\Hid (Below w.heap.size w wr)/\Hid (BAt wr (w.heap.size+1) [.string snm,.slice a n c,.string tx,.slice sa sams.length sc] 271))
 case atStart=>exact⟨0,Nat.zero_le _,rfl,rfl,hid (by intro q hq;simp at hq),hid (Zbal.alloc (by simp) _),hid (by have:=Go.Deep.blk_alloc_new (w.alloc (.cells #[.string nm,.slice la cs.length lc] 148)) (.cells #[.string snm,.slice a n c,.string tx,.slice sa sams.length sc] 271);rw[Go.Deep.nblk_alloc]at this;exact this)⟩
 case round=>
  obtain⟨k,hk,hgk,rfl,HR,HB,HS⟩:=hrel
  by_cases hlt:k<cs.length
  ·have hg:∃g,la=some ⟨g,0,none⟩:=by
    obtain⟨g,cp',h⟩:=ZW HO.out (by omega)
    injection h with h1;exact⟨g,h1⟩
   obtain⟨g,rfl⟩:=hg
   have HOr:=hid (Zw HO.out HB.out)
   obtain⟨f1,f2,f3⟩:=ZsN cs k hlt
   have d1:=Zr HOr.out _ _ f1
   have d2:=Zr HOr.out _ _ f2
   have d3:=Zr HOr.out _ _ f3
   have HK:=hid (fun h=>Zwv nd S cs HNM.2 k hlt h)
   have HN:Hid (Zer S (ZN cs[k])=true->∀q∈cs.take (k+1),Zer S (ZN q)=true):=hid (by
     intro hh q hq'
     rw[List.take_succ_eq_append_getElem hlt]at hq'
     rcases List.mem_append.mp hq' with h|h
     ·exact HR.out q h
     ·rw[List.mem_singleton]at h;subst h;exact hh)
   generalize cs[k]=q at *
   obtain⟨x,y,v⟩:=q
   simp only at d1 d2 d3
   clear f1 f2 f3
   have hkz:(k:Int)<(cs.length:Int):=by omega
   go_upto_region 6 with fail
   refine Z9 fun W hW=>?_
   have hbW:Below wr.heap.size wr W:=by rw[hW];exact Zbal
   have HC:Hid (BAt W wr.heap.size [.string x,.bool v,.string y] 224):=hid (by rw[hW];exact Go.Deep.blk_alloc_new _ _)
   have HBW:Hid (Below w.heap.size w W):=HB.trans (hbW.mono HB.size)
   have HSW:=hid (HS.below hbW)
   have hz1:=HS.lt
   have hz2:=HC.lt
   have HLW:Hid (ZbT W 0 (.slice a n c) n qs):=HL.below HBW.out
   clear hW hbW HB HS d1 d2 d3 HOr
   have b1:=HSW.cell 1
   have b2:=HSW.cell 2
   have c0:=HC.cell 0
   have c1:=HC.cell 1
   have c2:=HC.cell 2
   simp only[Zget]at b1 b2 c0 c1 c2
   go_region_held3 (fun w' => w'.cell? ⟨w.heap.size + 1, 1, none⟩ = some (.slice a n c) /\ w'.cell? ⟨w.heap.size + 1, 2, none⟩ = some (.string tx) /\ w'.cell? ⟨wr.heap.size, 0, none⟩ = some (.string x) /\ w'.cell? ⟨wr.heap.size, 2, none⟩ = some (.string y)) (first | exact ⟨b51, b52, c50, c52⟩ | exact ⟨b1, b2, c0, c2⟩ | go_keep) (first
     | (go_at_call 238
        refine(Zuy _ _ _ tx x qs _ (by exact HLW.below ⟨rfl,rfl,rfl,Nat.le_refl _,fun _ _=>rfl⟩)).mono ?_
        rintro e w5 ⟨r,rfl,HWd,hb5⟩
        have HB5:Hid (Below W.heap.size W w5):=hid (Zjr hb5)
        have HC5:=hid (HC.below HB5.out)
        have HS5:=hid (HSW.below HB5.out)
        have c50:=HC5.cell 0
        have c51:=HC5.cell 1
        have c52:=HC5.cell 2
        have b51:=HS5.cell 1
        have b52:=HS5.cell 2
        simp only[Zget]at c50 c51 c52 b51 b52
        clear hb5))
   have HQ:Hid (Zer S (ZN (x,y,v))=!((r.toList == y.toList) == v)):=hid (by
    rw[Zjt,HWd.out,<-HSV.2];rfl)
   have HB6:Hid (Below w.heap.size w w5):=HBW.trans (HB5.mono HBW.size)
   generalize(r.toList == y.toList)=b at *
   by_cases hbv:b=v
   ·have HF:=hid (HK.out (by rw[HQ.out,hbv];simp))
    have hbv2:(b == v)=true:=by rw[hbv];simp
    go_wp2
    go_ret
    exact⟨by rw[HF.out];rfl,HB6.out⟩
   ·have HF:=hid (HN.out (by rw[HQ.out];simp[hbv]))
    have hbv2:(b == v)=false:=by simp[hbv]
    go_wp2
    go_roundg (cs.length - (k+1))
    case measure=>omega
    case rel=>exact⟨k+1,by omega,rfl,by go_num,HF,HB6,HS5⟩
  ·obtain rfl:k=cs.length:=by omega
   have HF:=hid (Zww nd S cs HNM.2 (by have:=HR.out;rwa [List.take_length]at this))
   go_wp2
   go_ret
   exact⟨by rw[HF.out,decide_eq_true HNE.out];rfl,HB.out⟩
end Go.Proofs.YtcdgkkfipdoeeaaGreatDoor
