/- Parts. -/
import Derived.Test.YtcdgkkfipdoeeaaGreatDoorT20
import Derived.RangeFuncNested
import Derived.RangeFuncBound
import Derived.Sort.OwnSorted
import Derived.Test.YtcdgkkfipdoeeaaGreatDoorT17
set_option linter.all false
set_option maxRecDepth 100000
set_option maxHeartbeats 16000000
namespace Go.Proofs.YtcdgkkfipdoeeaaGreatDoor
open Go.RowKit LS Go.Proofs.Tryz
variable {es:Array MapEntry}{k:BA}{y z:LB}{bs:List BA}{e:MapEntry}{B Bs clock j n x:Nat}{A:Nat->Addr}{a sa:Option Addr}{nv sv u v:Value}{w w':World}
section
def NmS(bs:List BA):Prop:=bs.Pairwise fun a b=>Op.bytesLess (bl b) (bl a)=false
theorem NmS.le  (h : NmS bs) {i:Nat} (c : i <= j) (d : j < bs.length) : Op.bytesLess (bl bs[j]) (bl (bs[i]' Om)) = false := by
  rcases Yav i j with a|a
  · exact List.pairwise_iff_getElem.1 h i j _ _ a
  · obtain rfl:i=j:=by omega
    exact ZcL _
theorem Zn1{x:LB}(d:Op.bytesLess y x=false)(a:Op.bytesLess y z=true):Op.bytesLess x z=true:=by
 cases c:Op.bytesLess x y with
 | true=>exact Zdv _ _ _ c a
 | false=>rw[Zdh _ _ c d];exact a
theorem Zlw(bs:List BA)(j:Nat)(a:j<bs.length):(Zbc bs)[j]?=some (.string bs[j]):=by
 unfold Zbc;rw[Ya2,List.getElem?_eq_getElem a];rfl
theorem Zre(c:NmS bs){k:Nat}(d:∀j (h:j<bs.length),j<k->Op.bytesLess (bl bs[j]) y=true)(e:∀j (h:j<bs.length),k<=j->Op.bytesLess (bl bs[j]) y=false)(f:y∈bs.map bl):∃h:k<bs.length,bl bs[k]=y:=by
 obtain⟨b,g,rfl⟩:=Ybe.1 f;obtain⟨j,i,rfl⟩:=List.mem_iff_getElem.1 g
 have a:k<=j:=by
  rcases Yav j k with h|h
  ·have:=d j i h;rw[ZcL]at this;cases this
  ·exact h
 exact⟨by omega,Zdh _ _ (e k _ (Yac _)) (c.le a _)⟩
theorem Zui(tx:BA)(w:World)(c:w.ownsRow 0 9 1 v bs.length (Zbc bs))(E:bs.length<=100000)(z:NmS bs) :
  Cz 234 #[v,.string tx] w fun e u=>∃k:Nat,e=.returned (.tuple #[Vi k,.bool (decide (bl tx∈bs.map bl))])/\u=w:=by
 obtain⟨ra,rcp,rfl⟩:=Zl c;have n:=hid c;have o:=hid z;obtain⟨fd,f⟩:∃fd,fd=decide (bl tx∈bs.map bl):=⟨_,rfl⟩
 rw[<-f];have l:=hid f;clear c z f;go_enter func234,ntmps234;go_wp2
 go_loopg [7,8] bs.length (fun kx s5 s6 wr=>∃lo a:Nat,s5=Vi lo/\s6=Vi a/\lo<=a/\a<=bs.length/\a - lo<=kx/\wr=w/\Hid ((∀j (h:j<bs.length),j<lo->Op.bytesLess (bl bs[j]) (bl tx)=true)/\(∀j (h:j<bs.length),a<=j->Op.bytesLess (bl bs[j]) (bl tx)=false)))
 case atStart=>exact⟨0,bs.length,rfl,rfl,Yag _,Yac _,by omega,rfl,hid ⟨fun j _ h=>absurd h (Ya1 _),fun j h m=>by omega⟩⟩
 case round=>
  obtain⟨lo,a,rfl,rfl,G,A,p,rfl,I⟩:=hrel;by_cases H:lo<a
  ·have s:(lo+a) / 2<bs.length:=by omega
   have p:∃g,ra=some ⟨g,0,none⟩:=by
    obtain⟨g,cp',h⟩:=ZF n.out Om;injection h with h1;exact⟨g,h1⟩
   obtain⟨g,rfl⟩:=p;have d1:=Zi n _ (Zlw _ _ s);have J:(((lo+a) / 2:Nat))=((lo:Int)+(a)) / 2:=by omega
   have K:(((lo:Int)+(a)) / 2).toNat=(lo+a) / 2:=by omega
   have q:=ZxX bs[(lo+a) / 2] tx;have B:Hid (Op.bytesLess _ (bl tx)=true->∀i (h:i<bs.length),i<=(lo+a) / 2->Op.bytesLess (bl _) _=true):=hid (fun r i h m=>Zn1 (o.le m s) r)
   have C : Hid (Op.bytesLess (bl bs[(lo + a) / 2]) _ = false -> ∀ i (h : i < bs.length), (lo + a) / 2 <= i -> Op.bytesLess _ _ = false) := hid (fun r i h m => by
     cases F:Op.bytesLess (bl bs[i]) (bl tx)with
     | false=>rfl
     | true=>rw[Zn1 (o.le m h) F]at r;cases r)
   generalize bs[(lo+a) / 2]=x at *
   cases d:Op.bytesLess (bl x) (bl tx)with
   | true=>
    rw[d]at q;have y:=hid (B d);clear d
    go_wp2_with (go_at_call 262;refine(q _).mono ?_;rintro e u ⟨rfl,rfl⟩)
    go_roundg (a - ((lo+a) / 2+1))
    case measure=>omega
    case rel=>
     exact⟨(lo+a) / 2+1,a,by rw[show((lo)+(a)) / 2+1=(((lo+a) / 2+1:Nat):Int) by omega],rfl,by omega,A,Yac _,rfl,hid ⟨fun j h m=>y j h Om,I.2⟩⟩
   | false=>
    rw[d]at q;have y:=hid (C d);clear d
    go_wp2_with (go_at_call 262;refine(q _).mono ?_;rintro e u ⟨rfl,rfl⟩)
    go_roundg ((lo+a) / 2 - lo)
    case measure=>omega
    case rel=>
     exact⟨lo,(lo+a) / 2,rfl,by rw[show((lo)+(a)) / 2=(((lo+a) / 2:Nat):Int) by omega],by omega,by omega,Yac _,rfl,hid ⟨I.1,y⟩⟩
  ·obtain rfl:a=lo:=by omega
   by_cases t:a<bs.length
   ·have p:∃g,ra=some ⟨g,0,none⟩:=by
     obtain⟨g,cp',h⟩:=ZF n.out Om;injection h with h1;exact⟨g,h1⟩
    obtain⟨g,rfl⟩:=p;have d1:=Zi n _ (Zlw _ _ t)
    have D:(bs[a].toList == tx.toList)=fd:=by
     rw[ZkY,l,decide_eq_decide];constructor
     ·intro h;rw[<-h];exact Ybe.2 ⟨_,List.getElem_mem _,rfl⟩
     ·intro h;exact(Zre o I.1 I.2 h).2
    clear l;generalize bs[a]=x at *
    cases fd
    ·go_wp2_with (go_at_call 266;refine(Zra).mono ?_;rintro e u ⟨rfl,rfl⟩)
     go_ret2;exact⟨a,rfl,rfl⟩
    ·go_wp2_with (go_at_call 266;refine(Zra).mono ?_;rintro e u ⟨rfl,rfl⟩)
     go_ret2;exact⟨a,rfl,rfl⟩
   ·have D:fd=false:=by
     rw[l,decide_eq_false_iff_not];intro h;exact t (Zre o I.1 I.2 h).1
    subst D;go_wp2;go_ret2;exact⟨a,rfl,rfl⟩
theorem Zxt{l:List Lab}{p:Lab}{ns:List (LB)}:ZB (l++[p]) ns=if p.1∈ns then ZB l ns++[p] else ZB l ns:=by
 unfold ZB;rw[List.filter_append];split
 ·rename_i h;rw[Yda (by simpa using h)];rfl
 ·rename_i h;rw[Ydb (by simpa using h)];simp
theorem ZxO{c:Nat}{tx:BA}{qs:List (BA×BA)}(w:World)(R:LbOk w a n c tx qs)(hn:w.ownsRow 0 9 1 nv bs.length (Zbc bs))(a3:bs.length<=100000)(hs:NmS bs) :
  Cz 205 #[.agg #[.slice a n c,.string tx],nv] w fun e w'=>∃(a':Option Addr) (n' c':Nat) (tx':BA) (qs':List (BA×BA)),e=.returned (.agg #[.slice a' n' c',.string tx'])/\Hid (LbOk w' a' n' c' tx' qs'/\qs'.map blP=ZB (qs.map blP) (bs.map bl))/\BW w w':=by
 obtain⟨i0,hi,a4,a5,a6⟩:=info_parts Tryz.infoLabel;have a7:qs.length=n:=by have:=R.row.1.1;rw[Zi9]at this;omega
 subst a7;obtain⟨na,ncp,rfl⟩:=Zl hn;have H:=hid R;have b9:=R.row.2.1;have a8:=hid (fun W I nm=>Zui nm W (Zn hn I) a3 hs);clear R hn hs;go_enter func205,ntmps205;go_wp2
 go_loopw [5, 13] (fun v i wr => ∃ (k : Nat) (os : List (BA × BA)), k <= qs.length /\ i = Vi k /\ os.length <= k /\ wr.ownsRow (w.heap.size + 2) 378 2 v os.length (Zb2 os) /\ Hid (os.map blP = ZB ((qs.take k).map blP) (bs.map bl) /\ ∀ p ∈ os, p ∈ qs) /\ Hid (BAt wr w.heap.size [.slice a qs.length c, .string tx] 268) /\ Hid (BAt wr (w.heap.size + 1) [S0, .string ⟨#[]⟩] 268) /\ Hid (BW w wr))
   (fun _ i _=>qs.length - (intOf i).toNat)
 case atStart=>
  obtain⟨g1,g2⟩:BAt ((w.alloc (.cells #[.slice a qs.length c,.string tx] 268)).alloc (.cells #[S0,.string ⟨#[]⟩] 268)) _ _ _/\BAt _ _ _ _:=by
   refine⟨(Zbal.block _ (by simp)).trans bnw,?_⟩;have:=Go.Deep.blk_alloc_new (w.alloc (.cells #[.slice a qs.length c,.string tx] 268)) (.cells #[S0,.string ⟨#[]⟩] 268);rw[Go.Deep.nblk_alloc]at this;exact this
  exact⟨0,[],Yag _,rfl,Yag _,Ybc _ _ _ _,hid ⟨rfl,fun p r=>by cases r⟩,hid g1,hid g2,hid (Zbal.alloc (by simp) _)⟩
 case round=>
  rename World=>wo
  obtain⟨k,os,hk,rfl,b8,d,s,F,l,D⟩:=hrel;have V:=D.size;have c6:=F.lt;have c7:=l.lt;by_cases J:k<qs.length
  ·have hg:∃g,a=some ⟨g,0,none⟩:=by
    obtain⟨g,cp',h⟩:=ZF H.row.1 Om;injection h with h1;exact⟨g,h1⟩
   obtain⟨g,rfl⟩:=hg;have K:=hid (Zn H.row.1 D);obtain⟨f1,f2⟩:=Zi8 qs k;rw[List.getElem?_eq_getElem J]at f1 f2;have d1:=Zi K _ f1;have d2:=Zi K _ f2;have X:Hid (ZB ((qs.take (k+1)).map blP) (bs.map bl)=if bl (qs[k]).1∈bs.map bl then ZB ((qs.take k).map blP) (bs.map bl)++[blP qs[k]] else ZB ((qs.take k).map blP) (bs.map bl)):=List.take_succ_eq_append_getElem J▸Yaq▸Zxt;have a9:=hid (List.getElem_mem J);generalize qs[k]=q at *
   obtain⟨x,y⟩:=q;simp only at d1 d2;clear f1 f2 K;have c8:(k:Int)<(qs.length):=by omega
   go_wp2_with fail
   refine Zm fun W I=>?_;have z:Below _ _ W:=I▸Zbal;have HX:Hid (BAt W _ _ 378):=I▸bnw;have L:=hid (D.trans (z.mono V));have c9:=hid (fun q hq=>(d.lt q hq).2);have f:=Zn d z;have M:=hid (F.below z);have N:=hid (l.below z);clear I z d D d1 d2 F l;refine(a8 W L x).mono ?_;rintro e S ⟨kk,rfl,rfl⟩;have d0:=HX.lt;by_cases G:bl x∈bs.map bl
   ·rw[decide_eq_true G]
    have E : Hid ((os ++ [(x, y)]).map blP = ZB _ _ /\ ∀ p ∈ os ++ [(x, y)], p ∈ qs) := hid ⟨by rw [X, if_pos G, Yaq, s.1]; rfl, fun p r => by
      rcases Yar.1 r with r|r
      · exact s.2 p r
      · rw[Yap]at r;subst r;exact a9⟩
    clear G;have x0:=HX.cell
    go_wp2_with (at_builtin;refine wpList_append_own _ rfl (.tmp 25) (.tmp 27) 266 rfl (w.heap.size+2) 378 i0 (.agg #[.string ByteArray.empty,.string ByteArray.empty]) 2 32 underlying266 hi a4 a5 a6 rfl Dc _ _ _ rfl (f.alloc _) ⟨S.heap.size,0,none⟩ 1 1 [.string x,.string y] rfl rfl ?c1 ?c2 ?c3 ?c4 ?c5 ?_)
    case c1=>exact ZcY rfl
    case c2=>intro u hu;simp at hu;rcases hu with rfl|rfl <;> rfl
    case c3=>unfold maxLen;omega
    case c4=>omega
    case c5=>simp;omega
    intro v6 w6 T m _;have Y:∀o,Below _ _ (S.alloc o):=fun o=>Zbal;have O:=(Z5.below (Y _) _).trans (Z5.grown m (f.alloc _));have b0:=hid ((L.alloc Om _).grown m (by simp;omega) (fun q hq=>by have:=(f.lt q hq).1;omega));have U:w6.ownsRow (w.heap.size+2) 378 2 v6 (os++[(x,y)]).length (Zb2 (os++[(x,y)])):=by rwa [Zpm,Yab]
    have a1:Hid (BAt _ _ _ _):=hid (O _ _ _ _ Dc M);have a2:Hid (BAt _ _ _ _):=hid (O _ _ _ _ Dc N);clear m T f O x0 Y;go_wp2
    go_roundw
    case rel=>exact⟨k+1,_,by omega,by go_num,by simp;omega,U,E,a1,a2,b0⟩
    case measure=>simp[intOf];omega
   ·rw[decide_eq_false G];have E:Hid (os.map blP=ZB ((qs.take (k+1)).map blP) (bs.map bl)/\∀p∈os,p∈qs):=hid ⟨X.out▸if_neg G▸s.1,s.2⟩;clear G;go_wp2
    go_roundw
    case rel=>exact⟨k+1,os,by omega,by go_num,by omega,f,E,M,N,L⟩
    case measure=>simp[intOf];omega
  ·obtain rfl:k=qs.length:=by omega
   have HK:Hid (os.map blP=ZB (qs.map blP) (bs.map bl)):=by have:=s.1;rwa [Ya4]at this
   have b1:Hid (Zde (os.map _)):=HK.out▸H.wf.kept _;have b2:=hid (fun p r=>H.row.2.2 p (s.2 p r));obtain⟨va,vcp,b3⟩:=Zl d;subst b3;have y0:=F.cell;have z0:=l.cell 0;have z1:=l.cell 1;have fz0:=l.frozen;simp only[Zget]at z0 z1;by_cases Z:os.length=qs.length
   ·have b4:((os.length:Int) == (qs.length))=true:=by simp[Z]
    have b5:Hid (qs.map blP=ZB (qs.map blP) (bs.map bl)):=by
     unfold ZB;refine(Yeg.2 ?_).symm;have h1:=HK.out;have h2:(ZB (qs.map blP) (bs.map bl)).length=(qs.map blP).length:=by rw[<-h1,Yak,Yak,Z]
     unfold ZB at h2;exact List.length_filter_eq_length_iff.1 h2
    have A:=hid (H.jk (Zo.below D))
    have P : Hid (∀ x y, LbOk ((wo.setCell ⟨w.heap.size + 1, 0, none⟩ x).setCell ⟨w.heap.size + 1, 1, none⟩ y) a _ c _ _) := hid (fun x y => ⟨⟨Zim A.row.1 (fun j hj => by
      have B:j≠w.heap.size+1:=by rintro rfl;exact Zcx A.row.1 l Dc hj.symm
      rw[Go.Deep.blk_setCell_other _ _ _ _ B,Go.Deep.blk_setCell_other _ _ _ _ B]),A.row.2⟩,A.txt,A.wf⟩)
    clear d;go_wp2;exact bodyPost_ret (by simp[results,results205,go_sem,z0,z1]) rfl ⟨a,qs.length,c,tx,qs,rfl,hid ⟨P _ _,b5⟩,(D.setCell (by show w.heap.size<=w.heap.size+1;omega) _).setCell (by show w.heap.size<=w.heap.size+1;omega) _⟩
   ·have b4:((os.length:Int) == (qs.length))=false:=by rw[beq_eq_false_iff_ne];omega
    have b6:Hid (ZcB _ 0 _ _ _):=hid ⟨d.mono (Yag _),by omega,b2⟩;clear d
    go_wp2_with fail
    refine(Zro b6).mono ?_;rintro e S ⟨a',c',rfl,a0,Q⟩;have t:=hid (l.below Q);have b7:=hid (D.trans (Q.mono V));have C:Hid (LbOk _ _ _ _ ⟨(Zbf _).toArray⟩ _):=hid ⟨a0,by rw[Zl5];rfl,b1⟩
    have P : Hid (∀ x y, LbOk ((S.setCell ⟨w.heap.size + 1, 0, none⟩ x).setCell ⟨w.heap.size + 1, 1, none⟩ y) _ _ _ _ _) := hid (fun x y => ⟨⟨Zim C.row.1 (fun j hj => by
      have B:j≠w.heap.size+1:=by rintro rfl;exact Zcx C.row.1 t Dc hj.symm
      rw[Go.Deep.blk_setCell_other _ _ _ _ B,Go.Deep.blk_setCell_other _ _ _ _ B]),C.row.2⟩,C.txt,C.wf⟩)
    clear y0 z0 z1 fz0 a0 Q;have z0:=t.cell 0;have z1:=t.cell 1;have fz0:=t.frozen;simp only[Zget]at z0 z1;go_wp2;exact bodyPost_ret (by simp[results,results205,go_sem,z0,z1]) rfl ⟨a',os.length,c',_,os,rfl,hid ⟨P _ _,HK⟩,(b7.setCell (by show w.heap.size<=w.heap.size+1;omega) _).setCell (by show w.heap.size<=w.heap.size+1;omega) _⟩
attribute [local go_sem] Oper.semAt_some
def ZeG(bs:List BA)(k:Nat):List BA:=(List.range k).map fun j=>bs[j]?.getD ByteArray.empty
theorem ZDK(bs:List BA)(k:Nat):ZeG bs (k+1)=ZeG bs k++[bs[k]?.getD ByteArray.empty]:=by simp[ZeG,List.range_succ]
theorem ZDJ(bs:List BA)(k:Nat):(ZeG bs k).length=k:=by simp[ZeG]
theorem ZDI:ZeG bs bs.length=bs:=by
 apply List.ext_getElem
 ·simp[ZeG]
 ·intro i c a;simp[ZeG,a]
theorem ZsZ(n:Nat)(A:1<=n)(l:Nat){n₀:Nat}(b len:Nat){cap:Nat}(bs:List BA)(m:len<=100000)(q:b<n₀)(J:List BA->World->Prop){Jx:List BA->World->Prop}
  (r:∀pre x W,J pre W->pre.length<len->YieldAt Fence.wide (n - 1) prog l #[.string x] W fun e a=>
   (e=.returned (.bool true)/\J (pre++[x]) a/\Below n₀ W a)∨(e=.returned (.bool false)/\Jx (pre++[x]) a))
  (W:World) (y:W.cell? ⟨Bs,0,none⟩=some (.slice (some ⟨b,0,none⟩) len cap)) (s:∀j,j<len->W.cell? ⟨b,j,none⟩=some (.string (bs[j]?.getD ByteArray.empty))) (t:J [] W) :
  CallsIn Fence.wide n prog 204 #[.func (.yield l) #[] #[], Vp Bs] W fun e a => (∃ v, e = .returned v) /\
    ((∃ys,ys=ZeG bs len/\J ys a)∨(∃pre,True/\Jx pre a)):=by
 refine callsIn_of_wp func204 rfl trivial ?_ rfl;simp only[ntmps204,Yb5,Yaj,Ybq,Nat.reduceAdd,Nat.reduceSub,Yea,Yeb,Yew,Yeh,Ycu,Yby]
 gi_wp2
 gi_loopw [7] (fun i wr => ∃ k : Nat, k <= len /\ i = Vi k /\ J (ZeG bs k) wr /\ Below n₀ W wr)
   (fun i _=>len - (intOf i).toNat)
 case atStart=>exact⟨0,Yag _,rfl,t,Yaf _ _⟩
 case round=>
  obtain⟨k,B,rfl,c,d⟩:=hrel;have o:=fun h=>(d.cell q).trans (s k h);by_cases f:k<len
  ·obtain⟨fn,tmps,assign,body,C,u⟩:=r _ (bs[k]?.getD ByteArray.empty) wr c (by rw[ZDJ];exact f);have w:=o f
   gi_wp2
   refine u.mono ?_;rintro e D (⟨rfl,z,p⟩|⟨rfl,g⟩)
   ·gi_wp2
    go_roundw
    case rel=>exact⟨k+1,by omega,by simp,by rwa [ZDK],d.trans p⟩
    case measure=>simp[intOf];omega
   ·gi_wp2
    refine bodyPost_ret (results_none rfl _ _ _) rfl ?_;exact⟨⟨_,rfl⟩,.inr ⟨_,trivial,g⟩⟩
  ·obtain rfl:k=len:=by omega
   gi_wp2
   go_end0
   exact⟨⟨_,rfl⟩,.inl ⟨_,rfl,c⟩⟩
theorem ZDP(n:Nat)(l:Nat)(J:List BA->World->Prop)(W:World)(f:W.cell? ⟨Bs,0,none⟩=some S0)(c:J [] W) :
  CallsIn Fence.wide n prog 204 #[.func (.yield l) #[] #[],Vp Bs] W fun e d=>(∃v,e=.returned v)/\J [] d:=by
 refine callsIn_of_wp func204 rfl trivial ?_ rfl;simp only[ntmps204,Yb5,Yaj,Ybq,Nat.reduceAdd,Nat.reduceSub,Yea,Yeb,Yew,Yeh,Ycu,Yby]
 gi_wp2
 gi_loopw [7] (fun i wr=>i=Vi 0/\J [] wr) (fun _ _=>0)
 case atStart=>exact⟨rfl,c⟩
 case round=>
  obtain⟨rfl,a⟩:=hrel
  gi_wp2
  go_end0
  exact⟨⟨_,rfl⟩,a⟩
theorem Zs0(w:World)(a:Option Addr)(len cap:Nat)(c:sv=.slice a len cap) :
  Cz 156 #[sv] w fun e u=>e=.returned (.func (.func 204) #[] #[Vp w.heap.size])/\u=w.alloc (.cells #[sv] 122):=by
 subst c;go_enter func156,ntmps156;go_wp2;go_ret;exact⟨rfl,rfl⟩
theorem ZDR(n:Nat)(k:1<=n)(d:bs.length<=100000)(w:World)(m:Bs<w.heap.size)(t:w.cell? ⟨Bs,0,none⟩=some sv)(h:w.ownsRow 0 9 1 sv bs.length (Zbc bs)) :
  SeqStopsK Fence.wide n prog 204 #[Vp Bs] (fun x:BA=>#[Value.string x]) (Below w.heap.size) (fun ys=>ys=bs) (fun _=>True) bs.length w:=fun l J Jx W o _ _ p i=>by
 have f:=(o.cell m).trans t;have q:=Zn h o;by_cases r:bs.length=0
 ·obtain rfl:=Ya3 r;rcases h.2 with ⟨rfl,_⟩|⟨g,cap,cur,rfl,_,u,_⟩
  ·exact(ZDP n l J W f i).mono fun e s ⟨c,a⟩=>⟨c,.inl ⟨_,rfl,a⟩⟩
  ·refine(ZsZ n k l g 0 [] Om (Yae.1 u).1 J p W f (fun j a=>by omega) i).mono ?_;rintro e s ⟨c,⟨ys,rfl,a⟩|⟨pre,_,a⟩⟩
   ·exact⟨c,.inl ⟨_,rfl,a⟩⟩
   ·exact⟨c,.inr ⟨_,trivial,a⟩⟩
 ·obtain⟨g,cp,rfl⟩:=ZF h Om;refine(ZsZ n k l g _ bs d (Z1 h) J p W f (fun j a=>List.getElem?_eq_getElem a▸Ya6▸Zi q _ (Zlw bs j a)) i).mono ?_;rintro e s ⟨c,⟨ys,rfl,a⟩|⟨pre,_,a⟩⟩
  ·exact⟨c,.inl ⟨_,ZDI,a⟩⟩
  ·exact⟨c,.inr ⟨_,trivial,a⟩⟩
theorem Tryz.infoStrG:(Tryz.prog.info? 9).map (fun i=>(i.zero,i.size,i.bytes))=some (some (.string ByteArray.empty),1,16):=by kernel_rfl
theorem ZtL(n:Nat)(Q:2<=n)(f:bs.length<=100000)(w:World)(r:Bs<w.heap.size)(E:w.cell? ⟨Bs,0,none⟩=some sv)(F:w.ownsRow 0 9 1 sv bs.length (Zbc bs)) :
  CallsIn Fence.wide n prog 231 #[S0,.func (.func 204) #[] #[Vp Bs]] w fun e s=>∃v,e=.returned v/\s.ownsRow w.heap.size 9 1 v bs.length (Zbc bs)/\BW w s:=by
 have G:1<=n:=by omega
 obtain⟨i0,H,t,u,z⟩:=info_parts Tryz.infoStrG;refine callsIn_of_wp_marks func231 rfl trivial ?_ rfl;simp only[ntmps231,Yb5,Yaj,Ybq,Nat.reduceAdd,Nat.reduceSub,Yea,Yeb,Yew,Yeh,Ycu,Yby]
 gi_wp2
 have bS:=Boxed.new w 122 S0;have m:Below _ w (w.alloc (.cells #[S0] 122)):=(Yaf _ w).alloc (Yac _) _;have q:=ZDR (n - 1) Om f w r E F
 refine wpIn_rangeFunc_ownG rfl G rfl trivial (enters_of func204 Kr rfl)
   q belowK_t (belowK_b (by simp)) m (fun _=>rfl)
   _
   (fun _ _ _=>False)
   (OwnFrom.and (Own.from (holdsRow_own w.heap.size _ _ 9 1 (fun pre:List _=>pre.length) (fun pre=>Zbc pre) (fun _ _=>True)) _) (ownFrom_below (Yac _) (by simp)))
   (fun _ _ _ _ _ I _ _=>I)
   ⟨⟨_,bS,Ybc _ _ _ _,trivial⟩,m⟩
   (fun x=>{ tmps:=#[S0,.func (.func 204) #[] #[Vp Bs],Vp w.heap.size,undef,S0,.string x,.func (.func 204) #[] #[Vp Bs],.string x,undef,undef,undef,undef,undef],defers:=[] }) ?assign ?body ?done ?stop
 case assign=>
  intro l x W K g
  gi_wp2
  exact g
 case body=>
  rintro l pre x W ⟨⟨v,j,a,-⟩,i⟩ L;have A:=j.cell;have M:=i.size
  gi_wp2_with (gi_at_builtin;refine wpListIn_append_own _ rfl _ _ _ rfl _ 9 _ _ 1 _ underlying122 H t u z rfl Dc _ _ _ rfl (a.alloc _) _ 1 1 _ rfl rfl (cell_one_new _ _ _) (by simp[Value.oneCell']) (by unfold maxLen;omega) Om (by simp;omega) ?_;intro v' y d k _;obtain⟨g',cap',rfl⟩:=ownsRow_succ d;obtain⟨o,B,N,C,p⟩:=j.appended Dc a i.size (Yac _) d k;have O:=o.cell;have P:=o.frozen)
  exact⟨C.from _,p,⟨_,B,by rwa [Zh2,Yab],trivial⟩,i.trans p⟩
 case done=>
  rintro D ys W J rfl ⟨⟨v,j,a,-⟩,i⟩ g;have A:=j.cell
  gi_wp2
  refine⟨by simp,.inl ⟨_,_,rfl,run_takeDeferred g,?_⟩⟩;exact⟨_,results_tmp rfl _ _ _,v,rfl,ownsRow_putObj a _ g rfl,i.trans (belowK_b (Yac _) W D _ _ (by simp at J;omega) g rfl rfl)⟩
 case stop=>
  rintro D c pre W _ _ h _;exact h.elim
theorem ZuY(a:bs.length<=100000)(w:World)(c:Bs<w.heap.size)(d:w.cell? ⟨Bs,0,none⟩=some sv)(f:w.ownsRow 0 9 1 sv bs.length (Zbc bs)) :
  Cz 202 #[.func (.func 204) #[] #[Vp Bs]] w fun e g=>∃v,e=.returned v/\g.ownsRow w.heap.size 9 1 v bs.length (Zbc bs)/\BW w g:=by
 have h:=callsIn_wide.1 (ZtL 2 (Yac _) a w c d f);have i:=hid h;clear h f d;go_enter func202,ntmps202
 go_wp2_with (go_at_call 231;refine i.mono ?_;rintro e l ⟨v,rfl,j,k⟩)
 go_ret;exact⟨v,rfl,j,k⟩
theorem Zjx(x y:LB):decide (x<=y)=!Op.bytesLess y x:=by
 rw[bytesLess_eq,Ybh,decide_eq_true_iff,Ycr,decide_eq_false_iff_not];exact Iff.rfl
theorem ZCx (ss : List (LB)) : (ss.mergeSort fun x y => decide (x <= y)).Pairwise fun a b => Op.bytesLess b a = false := by
  have h := List.pairwise_mergeSort (le := fun (x y) => decide _) (by
    intro a b c d i;rw[Zjx,Ycr]at *
    cases h:Op.bytesLess c a with
    | false=>rfl
    | true=>
      cases f:Op.bytesLess b c with
      | true=>rw[Zdv _ _ _ f h]at d;cases d
      | false=>
        have e:=Zdh _ _ f i;rw[e,h]at d;cases d) (by
    intro a b;rw[Zjx,Zjx];cases h:Op.bytesLess b a with
    | false=>rfl
    | true=>
      cases f:Op.bytesLess a b with
      | false=>rfl
      | true=>have:=Zdv _ _ _ h f;rw[ZcL]at this;cases this) ss
  refine h.imp (fun {a b} g=>?_);rw[Zjx,Ycr]at g;exact g
theorem Zi7(bs:List BA):Zbc bs=(bs.map bl).map encStr:=by
 unfold Zbc;rw[Yb1];refine Ycb (fun b _=>?_);cases b with
 | mk d=>simp[encStr,bl]
theorem Zsp(i:bs.length<=100000)(t:Bs<w.heap.size)(z:w.cell? ⟨Bs,0,none⟩=some sv)(A:w.ownsRow 0 9 1 sv bs.length (Zbc bs)) :
  Cz 155 #[.func (.func 204) #[] #[Vp Bs]] w fun e B=>∃v bs',e=.returned v/\Hid (B.ownsRow w.heap.size 9 1 v bs'.length (Zbc bs')/\bs'.length=bs.length/\NmS bs'/\(∀x,x∈bs'.map bl ↔ x∈bs.map bl))/\BW w B:=by
 have G:=hid (ZuY i w t z A);clear A z;go_enter func155,ntmps155
 go_wp2_with fail
 refine G.mono ?_;rintro e W ⟨v,rfl,a,q⟩;by_cases H:bs.length=0
 ·obtain rfl:=Ya3 H;obtain⟨av,cp,rfl⟩:=Zl a;have I:=hid a;clear a
  go_wp2_with (go_at_call 203;refine(slices_Sort_string_none _ _ _).mono ?_;rintro e u ⟨rfl,rfl⟩)
  go_ret;exact⟨_,[],rfl,hid ⟨I,rfl,List.Pairwise.nil,fun x=>Iff.rfl⟩,q⟩
 ·obtain⟨g,cp,rfl⟩:=ZF a Om;rcases a.2 with ⟨r,_⟩|⟨g',cap,cur,r,d,p,r1,r2,r3,r4⟩
  ·cases r
  injection r with e1 e2 e3;injection e1 with e1;injection e1 with e1;subst e1 e3;have C:=(Yae.1 p).1;obtain⟨ss,f⟩:∃ss,ss=bs.map bl:=⟨_,rfl⟩
  have c:ss.length=bs.length:=by rw[f,Yak]
  have D:=holds_of_block p (by rw[c];rw[Yej,Zi7,<-f]at r4;exact r4);have s:=slices_Sort_string g 0 cp _ W D C Om;rw[c]at s;have J:=hid s;have K:Hid (w.heap.size<=g/\W.heap[g]?=some _/\bs.length<=cp/\cp<=maxLen/\cur.size=cp*1):=hid ⟨d,p,r1,r2,r3⟩;have E:=hid f;clear s D a p d r1 r2 r3 r4 f
  go_wp2_with (go_at_call 203;refine J.mono ?_;rintro e u ⟨rfl,nn,os,rfl⟩)
  go_ret;obtain⟨q1,q2,q3,q4,q5⟩:=K.out;obtain⟨ms,k⟩:∃ms,ms=ss.mergeSort (fun x y=>decide (x<=y)):=⟨_,rfl⟩
  have h:ms.Perm _:=k▸List.mergeSort_perm _ _;have m:=h.length_eq
  have o : (ms.map (fun l => (⟨l.toArray⟩))).map bl = ms := by
    rw[Yb1]
    conv=>rhs;rw[<-List.map_id ms]
    exact Ycb (fun l _=>by simp[bl])
  refine⟨_,ms.map (fun l=>⟨l.toArray⟩),rfl,hid ⟨?_,by rw[Yak,m,c],?_,fun x=>by rw[o,h.mem_iff,E]⟩,?_⟩
  ·have F:=ownsRow_sorted (n:=nn) (os:=os) m q1 q2 (by rwa [c]) q4 q5;rw[Zi7,o,Yak,m,<-k];rw[c]at F ⊢;exact F
  ·unfold NmS;have:=ZCx ss;rw[<-k,<-o,Ybx]at this;exact this
  ·exact q.grown (grownBy_sorted _) q.size (fun j L=>by cases L;exact q1)
end
section
theorem Zr0:∀(xs:List (LB)) (last:Int) (n m:Nat),Zcq last n xs=some m->(∀x∈xs.map smV,last<x.1)/\TmS (xs.map smV)/\m=n+xs.length
 | [], last, n, m, h => by
   simp only[Zcq,Yci]at h;exact⟨(fun x i=>by cases i),List.Pairwise.nil,by simp[h]⟩
 | x :: xs, last, n, m, h => by
   unfold Zcq at h;cases c:Zdn x with
   | none=>simp_all
   | some t=>
     rw[c]at h;simp only at h;split at h
     · cases h
     · rename_i k
       obtain⟨i1,i2,i3⟩:=Zr0 _ t _ m h
       have f:(smV x).1=(t):=by
         unfold Zdn at c;unfold smV;cases j:cut 58 x with
         | none=>simp_all
         | some p=>
           obtain⟨a,d⟩:=p;rw[j]at c;simp only at c ⊢;cases g:ZQ 1000000 a with
           | none=>simp_all
           | some tm=>
             rw[g]at c;simp only at c;split at c
             · rw[ZgX g];simp_all
             simp_all
       refine⟨fun y e=>?_,?_,by simp;omega⟩
       · rcases Yau.1 e with rfl|e
         · omega
         · have:=i1 y e;omega
       · exact Ybg.2 ⟨fun y e=>f▸i1 y e,i2⟩
theorem ZBL(h:Zcz z=some n):TmS (Zez z)/\(Zez z).length=n:=by
 unfold Zcz at h;cases z with
 | nil=>simp at h;exact⟨List.Pairwise.nil,by assumption⟩
 | cons c t=>
  by_cases a:(c == 32)=true
  ·have d:ZbI _ (c::t)=(t,true):=if_pos a;rw[d]at h;simp only[reduceCtorEq,if_false,if_true]at h;obtain⟨_,e,f⟩:=Zr0 _ _ _ _ h;exact⟨e,by simp[Zez,f]⟩
  ·have d:ZbI _ (c::t)=(c::t,false):=if_neg a
   simp_all
theorem Zl9{l nm d:LB}(h:line l=some (nm,d,n)):Zx nm=true/\(Zcc d).isSome=true/\TmS (Zdo l)/\(Zdo l).length=n:=by
 cases c:cut 123 l with
 | none=>rw[ZjF c]at h;cases h
 | some p=>
  obtain⟨x,r⟩:=p;cases a:cut 125 r with
  | none=>rw[ZjE c a]at h;cases h
  | some q=>
   obtain⟨y,z⟩:=q;rw[ZjG c a]at h;split at h
   ·rename_i e;rw[Yas]at e;cases f:Zcz z with
    | none=>simp_all
    | some k=>
     rw[f]at h;simp only[Ybf,Yci,Yc5]at h;obtain⟨rfl,rfl,rfl⟩:=h;have:=ZBL f;rw[Zr1 e.1 c a]
     simp_all
   ·cases h
theorem ZBF{sc:Nat}{l:List (Int×Int)}(h:w.ownsRow 0 358 2 (.slice sa n sc) n (Zca l))(f:l.length=n):SamV w sa l/\n<=sc:=by
 by_cases a:l=[]
 ·subst a;refine⟨.inl rfl,?_⟩
  simp_all;omega
 ·have r:0<n:=f▸Ycj.2 a;rcases h.2 with ⟨_,e⟩|⟨g,cap,cur,e,_,k,m,_,_,o⟩
  ·omega
  ·injection e with e1 _ e3;subst e1 e3;refine⟨.inr ⟨g,0,rfl,cur,(0,0),k,fun j p=>?_⟩,m⟩;have c:=Zwh l j;rw[List.getElem?_eq_getElem p]at c
   have d : ∀ i, i < n * 2 -> cur[i]? = (Zca l)[i]? := fun i q => by
     rw[<-o,List.getElem?_take,if_pos q,Yb2]
   rw[Ycf,d _ Om,d _ Om];exact c
theorem ZvP(zs:List Srs)(rs:List (Value×Value×Value×Value))(d:rs.length=zs.length)(h:∀j (f:j<zs.length),rs[j]?=some (.string zs[j].nm,.slice zs[j].a zs[j].n zs[j].c,.string zs[j].tx,.slice zs[j].sa zs[j].ju.length zs[j].sc)):encS zs=ZbP rs:=by
 induction zs generalizing rs with
 | nil => cases rs with
   | nil=>rfl
   | cons _ _=>simp at d
 | cons z zs ih=>
  cases rs with
  | nil=>simp at d
  | cons r rs=>
   have e:=h 0 (by simp);simp only[Ycy,List.getElem_cons_zero,Yci]at e;subst e;rw[ZbP,<-ih _ (by simp_all) (fun j f=>by have:=h (j+1) (by simp_all);assumption)];rfl
theorem Zwa(rs:List (Value×Value×Value×Value)):(ZbP rs).length=rs.length*4:=by
 induction rs with
 | nil=>rfl
 | cons r rs ih=>simp only[ZbP,Yaj,ih];omega
theorem ZyB{l:LB}{es:List Entry}(h:(Zbp l).1=0)(a:Zbh 0 [] (split 10 l)=.inr es):Zfk [] es=none/\l.length<=6000:=by
 unfold Zbp at h;split at h
 ·cases h
 ·rename_i c;rw[a]at h;simp only at h;rw[ZDv a]at h;cases hd:Zfk [] es with
  | none=>simp_all
  | some i=>simp_all
theorem ZiM.sto{l:LB}(A:(Zbp l).1=0)(h:ZiM w v l):∃ss:List Srs,StoP w v ss/\ss.map Srs.ser=Ze6 l/\Dst (ss.map Srs.ser)/\ss.length<=30:=by
 obtain⟨es,rs,q,N,B,r⟩:=h;obtain⟨hd,H⟩:=ZyB A q
 have O : ∀ j (d : j < es.length), (es[j]).count <= 6001 := fun j d => (ZqJ q (by simp) (fun p C => by
   obtain⟨i,s,rfl⟩:=List.mem_iff_getElem.1 C;have:=Zkd _ l i s
   simp_all;omega)).2 _ (List.getElem_mem _)
 have I:rs.length=es.length:=by have:=B.1;rw[Zwa]at this;omega
 have u := Zoa (fun j (z : Srs) => ∃ d : j < es.length, rs[j]? = some (.string z.nm, .slice z.a z.n z.c, .string z.tx, .slice z.sa z.ju.length z.sc) /\ z.ser = serE (split 10 l) es[j] /\ SrsOk w z) es.length (fun j d => by
   obtain⟨nm,a,n,c,tx,sa,sc,e1,⟨J,qs,g1,g2,g3,g4,g5⟩,e3⟩:=r j d;rw[e3]at g1;simp only[Yci,Yc5]at g1;obtain⟨b1,b2,_⟩:=g1;obtain⟨c1,c2,c3,c4⟩:=Zl9 e3;have P:n=qs.length:=by obtain⟨_,_,e⟩:=Zl g3.1;injection e
   obtain⟨s1,s2⟩:=ZBF g5 c4;have t:(qs.map blP).length<=6001:=by rw[Yak];exact g3.2.1
   refine⟨⟨nm,a,n,c,tx,qs,sa,sc,Zdo ((split 10 l).getD (es[j]).at_ [])⟩,d,?_,?_,?_⟩
   · simp_all
   · show(⟨bl nm,qs.map blP,Zdo ((split 10 l).getD (es[j]).at_ [])⟩:Ser)=⟨(es[j]).name,(Zcc (es[j]).inside).getD [],Zdo ((split 10 l).getD (es[j]).at_ [])⟩
     simp_all
   · exact⟨⟨by simp_all,by rw[g4];exact Zl5 qs,ZxM g2 t⟩,s1,c3,by simp_all,by simp_all,ZBM⟩)
 obtain⟨zs,K,f⟩:=u;have m:Ze6 l=es.map (serE (split 10 l)):=by unfold Ze6;rw[q]
 have o:zs.map Srs.ser=Ze6 l:=by
  rw[m];refine List.ext_getElem (by simp_all) (fun j L M=>?_);rw[List.getElem_map,List.getElem_map];exact(f j (by simp_all)).2.2.1
 refine⟨zs,⟨?_,fun z D=>?_,by omega⟩,o,?_,by omega⟩
 ·have:=ZvP _ _ Om (fun j d=>(f j _).2.1)
  simp_all
 ·obtain⟨j,d,rfl⟩:=List.mem_iff_getElem.1 D;exact(f j _).2.2.2
 ·rw[o,m];unfold Dst;rw[Ybx];refine Ycx ?_ (ZoQ _ _ hd).1;intro a b E F x y;obtain⟨i,s,rfl⟩:=List.mem_iff_getElem.1 E;obtain⟨k,G,rfl⟩:=List.mem_iff_getElem.1 F;obtain⟨_,_,_,_,_,_,_,_,_,e1⟩:=r i s;obtain⟨_,_,_,_,_,_,_,_,_,e2⟩:=r k G;obtain⟨n1,l1,_⟩:=Zl9 e1;obtain⟨n2,l2,_⟩:=Zl9 e2;obtain⟨p1,l1⟩:=Ycw.1 l1;obtain⟨p2,l2⟩:=Ycw.1 l2;refine x ((Zxv n1 n2).2 ⟨y.1,?_⟩);have g:=y.2;unfold serE at g;simp only[l1,l2,Ya6]at g;rw[Ztn l1,Ztn l2]at g;exact g
theorem Vars.sents{m:Int}(h:Vars w A m):Sents w (A 0) (A 1) (A 2) (A 3):=
 ⟨h.sent _ Dc,h.sent _ Dc,h.sent _ Dc,h.sent _ Dc⟩
theorem ZM.cells{p:Int}{a:Addr}(h:ZM w v p a):∃fa:Nat,v=.iface 81 (Vp fa)/\w.cell? ⟨fa,1,none⟩=some (Vi p)/\w.cell? ⟨fa,2,none⟩=some (.iface 432 (.pointer (some a))):=by
 obtain⟨fa,d,c⟩:=h;exact⟨fa,d,by simp[World.cell?,c],by simp[World.cell?,c]⟩
def Zfb(w:World)(A:Nat->Addr)(err:Value)(c p:Nat):Prop:=
 (err=.nilIface/\c=0/\p=0)∨
 (err=.iface 432 (.pointer (some (A 0)))/\c=1/\p=0)∨
 (err=.iface 432 (.pointer (some (A 3)))/\c=4/\p=0)∨
 (err=.iface 432 (.pointer (some (A 6)))/\c=7/\p=0)∨
 (err=.iface 432 (.pointer (some (A 7)))/\c=8/\p=0)∨
 (∃fa:Nat,err=.iface 81 (Vp fa)/\w.cell? ⟨fa,1,none⟩=some (Vi p)/\
  ((c=2/\w.cell? ⟨fa,2,none⟩=some (.iface 432 (.pointer (some (A 1)))))∨
   (c=3/\w.cell? ⟨fa,2,none⟩=some (.iface 432 (.pointer (some (A 2)))))∨
   (c=5/\w.cell? ⟨fa,2,none⟩=some (.iface 432 (.pointer (some (A 4)))))∨
   (c=6/\w.cell? ⟨fa,2,none⟩=some (.iface 432 (.pointer (some (A 5)))))))
theorem Zfb.rd{r:Except (Nat×Nat) Tr}{x:Nat×Nat}{pv:Value}(f:r=.error x)(h:RdIs w (A 0) (A 1) (A 2) (A 3) r pv v):Zfb w A v x.1 x.2/\∃ty u,v=.iface ty u:=by
 subst f;rcases h with ⟨rfl,rfl⟩|⟨rfl,rfl⟩|⟨a,c⟩|⟨a,c⟩
 ·exact⟨.inr (.inl ⟨rfl,rfl,rfl⟩),_,_,rfl⟩
 ·exact⟨.inr (.inr (.inl ⟨rfl,rfl,rfl⟩)),_,_,rfl⟩
 ·obtain⟨fa,rfl,d,e⟩:=c.cells;exact⟨.inr (.inr (.inr (.inr (.inr ⟨fa,rfl,d,.inl ⟨a,e⟩⟩)))),_,_,rfl⟩
 ·obtain⟨fa,rfl,d,e⟩:=c.cells;exact⟨.inr (.inr (.inr (.inr (.inr ⟨fa,rfl,d,.inr (.inl ⟨a,e⟩)⟩)))),_,_,rfl⟩
theorem Zfb.ld{r:Nat×Nat}(h:Zei w A v r):(r.1=0/\v=.nilIface)∨(r.1≠0/\Zfb w A v r.1 r.2/\∃ty u,v=.iface ty u):=by
 rcases h with ⟨rfl,rfl⟩|⟨rfl,rfl⟩|⟨rfl,rfl⟩|⟨i,fa,rfl,rfl,a,c⟩|⟨i,fa,rfl,rfl,a,c⟩
 ·simp
 ·exact .inr ⟨by simp,.inr (.inl ⟨rfl,rfl,rfl⟩),_,_,rfl⟩
 ·exact .inr ⟨by simp,.inr (.inr (.inr (.inl ⟨rfl,rfl,rfl⟩))),_,_,rfl⟩
 ·exact .inr ⟨by simp,.inr (.inr (.inr (.inr (.inr ⟨fa,rfl,a,.inr (.inr (.inl ⟨rfl,c⟩))⟩)))),_,_,rfl⟩
 ·exact .inr ⟨by simp,.inr (.inr (.inr (.inr (.inr ⟨fa,rfl,a,.inr (.inr (.inr ⟨rfl,c⟩))⟩)))),_,_,rfl⟩
theorem Zss(s:BA)(A:Nat->Addr)(m:Int)(w:World)(a:Vars w A m)(c:s.size<=maxLen) :
  Cz 40 #[.string s] w fun e u=>∃sv err,e=.returned (.tuple #[sv,err])/\Hid (Zei u A err (Zbp (bl s)))/\BW w u/\Hid ((Zbp (bl s)).1=0->ZiM u sv (bl s)):=by
 by_cases h:s.size<=6000
 ·exact ZBt s A m w a h
 ·have e:Zbp (bl s)=(1,0):=by unfold Zbp;rw[if_pos (by rw[Zd];omega)]
  rw[e];refine(ZBr s A m w a Om c).mono ?_;rintro e' u ⟨v,err,d,f,g⟩;exact⟨v,err,d,f,g,hid (fun h=>by cases h)⟩
open Go.ChangeMaps (setBlock)
structure BelX (x B:Nat) (w w':World):Prop where
 os:w'.os=w.os
 tape:w'.tape=w.tape
 output:w'.output=w.output
 size:w.heap.size<=w'.heap.size
 block:∀k,k<B->k≠x->w'.heap[k]?=w.heap[k]?
theorem BelX.of(h:Below B w w'):BelX x B w w':=⟨h.os,h.tape,h.output,h.size,fun k a _=>h.block k a⟩
theorem BelX.trans{a b c:World}(h:BelX x B a b)(k:BelX x B b c):BelX x B a c:=⟨k.os.trans h.os,k.tape.trans h.tape,k.output.trans h.output,Yah h.size k.size,fun j d e=>(k.block j d e).trans (h.block j d e)⟩
theorem BelX.mono{C:Nat}(h:BelX x C w w')(c:B<=C):BelX x B w w':=⟨h.os,h.tape,h.output,h.size,fun k d a=>h.block k Om a⟩
theorem BelX.below(h:BelX x B w w')(c:B<=x):Below B w w':=⟨h.os,h.tape,h.output,h.size,fun k a=>h.block k a Om⟩
theorem BelX.set(x B:Nat)(w:World)(o':Obj):BelX x B w (setBlock w x o'):=⟨rfl,rfl,rfl,by simp[setBlock],fun k _ a=>by simp[setBlock,Ycp a]⟩
def MapX(w:World)(x:Nat):Prop:=∃es clock,w.heap[x]?=some (.map es clock)
theorem Zo.belX   (h : BelX x w.heap.size w w') (d : MapX w x) : Zo w w' := fun b c T fr a => by
  obtain⟨es,cl,f⟩:=d;refine(h.block b (Yae.1 a).1 (fun e=>?_)).trans a
  simp_all
structure GEn where
 a:Option Addr
 n:Nat
 c:Nat
 tx:BA
 qs:List (BA×BA)
 vals:List Int
def GEn.val(g:GEn):Value:=.agg (.slice g.a g.n g.c::.string g.tx::talC g.vals).toArray
def GEn.grp(g:GEn):Grp:=(g.qs.map blP,g.vals)
structure GEnOk (w:World) (g:GEn):Prop where
 lb:LbOk w g.a g.n g.c g.tx g.qs
 vok:∀v∈g.vals,vOk v
theorem GEnOk.jk{g:GEn}(h:GEnOk w g)(a:Zo w w'):GEnOk w' g:=⟨h.lb.jk a,h.vok⟩
structure MapG (w:World) (x:Nat) (gs:List GEn) (es:Array MapEntry) (clock:Nat):Prop where
 heap:w.heap[x]?=some (.map es clock)
 stm:MapKept.Stamped es clock
 kv:es.toList.map (fun e=>(e.key,e.val))=gs.map (fun g=>(Value.string g.tx,g.val))
 sz:∀g∈gs,g.tx.size<=maxLen
theorem MapG.len{gs:List GEn}(h:MapG w x gs es clock):es.size=gs.length:=by
 have:=congrArg List.length h.kv
 simp_all
theorem MapG.at{gs:List GEn}(h:MapG w x gs es clock)(c:es.toList[j]?=some e):∃d:j<gs.length,e.key=.string gs[j].tx/\e.val=gs[j].val:=by
 have f:(es.toList.map (fun e=>(e.key,e.val)))[j]?=(gs.map (fun g=>(Value.string g.tx,g.val)))[j]?:=by rw[h.kv]
 rw[Ya2,c,Ya2]at f
 have d:j<gs.length:=by
  rcases Yav j gs.length with a|a
  ·exact a
  ·simp_all
 simp_all
theorem MapG.keys   {gs : List GEn}   (h : MapG w x gs es clock) : ∀ e ∈ es.toList, ∃ l, keyOf prog 9 e.key = some l := fun e a => by
  obtain⟨j,c⟩:=List.getElem?_of_mem a;obtain⟨f,d,_⟩:=h.at c;rw[d];exact⟨_,Go.WideMaps.keyOf_string_mk underlying9 (h.sz _ (List.getElem_mem _))⟩
theorem MapG.moved{gs:List GEn}(h:MapG w x gs es clock)(a:w'.heap[x]?=w.heap[x]?):MapG w' x gs es clock:=⟨a.trans h.heap,h.stm,h.kv,h.sz⟩
def ZE6:Value:=.agg #[S0,.string ByteArray.empty,Vi 0,Vi 0,Vi 0,Vi 0,Vi 0,Vi 0]
theorem MapG.find{gs:List GEn}(h:MapG w x gs es clock)(k:BA)(u:k.size<=maxLen) :
  ((∀W:World,(Instr.findKey 9 (.string k) es.toList).run prog W=.ok none W)/\(∀g∈gs,g.tx≠k)/\∀e∈es.toList,e.key≠.string k)∨
  ∃j,∃p:j<gs.length,gs[j].tx=k/\(∀i (l:i<gs.length),i≠j->gs[i].tx≠k)/\∃e,es.toList[j]?=some e/\e.key=.string k/\e.val=gs[j].val/\∀W:World,(Instr.findKey 9 (.string k) es.toList).run prog W=.ok (some (j,e.val)) W:=by
 have K:=Maps.string_keyed (P:=prog) (k:=9) underlying9;have d:=Go.WideMaps.keyOf_string_mk (P:=prog) (k:=9) underlying9 u;rcases K.find w d es.toList h.keys with ⟨v,a⟩|⟨j,e,v,a,o⟩
 ·left
  refine⟨fun W=>?_,fun g y z=>?_,a⟩
  ·rcases K.find W d es.toList h.keys with ⟨k1,_⟩|⟨j,e,k1,k2,k3⟩
   ·exact k1
   ·exact absurd k3 (a e (Ycq k2))
  ·obtain⟨i,l,rfl⟩:=List.mem_iff_getElem.1 y;have c:i<es.toList.length:=by rw[Ybl,h.len];exact l
   obtain⟨_,e1,_⟩:=h.at (List.getElem?_eq_getElem c)
   simp_all
 ·right
  obtain⟨p,e1,e2⟩:=h.at a;rw[o]at e1;have q:gs[j].tx=k:=(Value.string.inj e1).symm;have m:=h.stm.2.2
  have f : ∀ i (l : i < gs.length), i ≠ j -> gs[i].tx ≠ k := fun i l A z => by
    have c:i<es.toList.length:=by rw[Ybl,h.len];exact l
    have n:j<es.toList.length:=(Ycm.1 a).1;obtain⟨_,f1,_⟩:=h.at (List.getElem?_eq_getElem c)
    have e3:es.toList[j]=e:=Yax ((List.getElem?_eq_getElem n).symm.trans a);rw[List.Nodup,Ybx,List.pairwise_iff_getElem]at m;rcases Yav i j with r|r
    · exact m i j c n r (by simp_all)
    · exact m j i n c Om (by simp_all)
  refine⟨j,p,q,f,e,a,o,e2,fun W=>?_⟩;rcases K.find W d es.toList h.keys with ⟨_,k2⟩|⟨j',e',k1,k2,k3⟩
  ·exact absurd o (k2 e (Ycq a))
  ·obtain⟨s,f1,f2⟩:=h.at k2;rw[k3]at f1
   have:j'=j:=by
    refine Yb6 fun t=>f j' s t ?_;exact(Value.string.inj f1).symm
   simp_all
theorem ZyG{gs:List GEn}(h:MapG w x gs es clock)(c:k.size<=maxLen)(d:∀W:World,(Instr.findKey 9 (.string k) es.toList).run prog W=.ok none W)(W:World)(e:W.heap[x]?=w.heap[x]?) :
  (Instr.lookup 279 (.map (some x)) (.string k) false).run prog W=.ok ZE6 W:=by
 have K:=Maps.string_keyed (k:=9) underlying9;have a:=Go.WideMaps.keyOf_string_mk (k:=9) underlying9 c;simp[Instr.lookup,run_underlying _,Ybt (e.trans h.heap),K.check W _ a,d W,Result.andThen];rfl
theorem ZyE{gs:List GEn}(h:MapG w x gs es clock)(c:k.size<=maxLen)(d:∀W:World,(Instr.findKey 9 (.string k) es.toList).run prog W=.ok (some (j,v)) W)(W:World)(e:W.heap[x]?=w.heap[x]?) :
  (Instr.lookup 279 (.map (some x)) (.string k) false).run prog W=.ok v W:=by
 have K:=Maps.string_keyed (k:=9) underlying9;have a:=Go.WideMaps.keyOf_string_mk (k:=9) underlying9 c;simp[Instr.lookup,run_underlying _,Ybt (e.trans h.heap),K.check W _ a,d W,Result.andThen]
theorem ZDG{gs:List GEn}(h:MapG w x gs es clock)(d:k.size<=maxLen)(e:∀W:World,(Instr.findKey 9 (.string k) es.toList).run prog W=.ok none W)(v:Value)(W:World)(c:W.heap[x]?=w.heap[x]?) :
  (Instr.mapUpdate 279 (.map (some x)) (.string k) v).run prog W=.ok () (setBlock W x (.map (es.push ⟨.string k,v,clock⟩) (clock+1))):=by
 have K:=Maps.string_keyed (k:=9) underlying9;have a:=Go.WideMaps.keyOf_string_mk (k:=9) underlying9 d;simp[Instr.mapUpdate,run_underlying _,Ybt (c.trans h.heap),K.check W _ a,e W,Ych _ (c.trans h.heap),Result.andThen,setBlock]
theorem ZDE{gs:List GEn}(h:MapG w x gs es clock)(g:k.size<=maxLen)(i:es.toList[j]?=some e)(c:e.key=.string k)(l:∀W:World,(Instr.findKey 9 (.string k) es.toList).run prog W=.ok (some (j,u)) W)(v:Value)(W:World)(d:W.heap[x]?=w.heap[x]?) :
  (Instr.mapUpdate 279 (.map (some x)) (.string k) v).run prog W=.ok () (setBlock W x (.map (es.modify j fun e=>{ e with key:=.string k,val:=v }) clock)):=by
 have K:=Maps.string_keyed (k:=9) underlying9;have a:=Go.WideMaps.keyOf_string_mk (k:=9) underlying9 g;have f:((es[j]?).map (·.key)).getD (.string k)=.string k:=Yb2▸i▸c;simp[Instr.mapUpdate,run_underlying _,Ybt (d.trans h.heap),K.check W _ a,l W,f,K.stays W a,Ych _ (d.trans h.heap),Result.andThen,setBlock]
