/- Parts. -/
import Derived.Shelf.SlMaps.Clone
import Derived.Shelf.SlMaps.DeleteFunc
import Derived.Test.YtcdgkkfipdoeeaaGreatDoorT04
import Derived.DeepKeys4
set_option linter.all false
set_option maxRecDepth 100000
set_option maxHeartbeats 16000000
namespace Go.Proofs
open Go.Shelf
open Tryz
theorem Tryz.krm{p:Prop}(h:p:=by kernel_rfl):p:=h
theorem Tryz.kdm{p:Prop}(h:p:=by decide):p:=h
theorem Tryz.kfm{α:Type}{a:Option α}{b c:α}(h:a=some b)(e:b=c:=by kernel_rfl):a=some c:=h.trans (congrArg some e)
def Tryz.mapClone_ren:Go.Shelf.Ren:=⟨fun|5=>218|7=>246|n=>n,fun|23=>169|25=>3|3=>3|4=>4|20=>20|n=>n,fun|n=>n⟩
theorem Tryz.mapClone:Go.Proofs.SlLaysW.n5 Tryz.prog Tryz.mapClone_ren:=⟨krm,⟨f218.name,kdm,kfm func218⟩,kfm func246,underlying4,isAgg4,sizeOf4,zeroValue4,underlying20,isAgg20,sizeOf20,zeroValue20,underlying169,isAgg169,sizeOf169,zeroValue169⟩
def Tryz.mapDel_ren:Go.Shelf.Ren:=⟨fun|5=>219|n=>n,fun|23=>169|26=>3|24=>3|27=>371|0=>0|4=>4|n=>n,fun|n=>n⟩
theorem Tryz.mapDel:Go.Proofs.SlLaysDf.n5 Tryz.prog Tryz.mapDel_ren:=⟨krm,⟨f219.name,kdm,kfm func219⟩,underlying0,isAgg0,sizeOf0,zeroValue0,underlying4,isAgg4,sizeOf4,zeroValue4,underlying169,isAgg169,sizeOf169,zeroValue169,isAgg3,sizeOf3,isAgg3,sizeOf3,underlying371,isAgg371,sizeOf371,zeroValue371⟩
end Go.Proofs
namespace Go.Proofs.YtcdgkkfipdoeeaaGreatDoor
open Go.RowKit LS Go.Proofs.Tryz
section
variable {w w' w1 w2:World} {X:CX} {cv iv cv' iv':Value} {c c' d:Cq} {S S1:Nat->Prop} {W:Nat->Cq->Cq} {n b N:Nat} {f g:Nat->Option Int}
theorem ZyY (h : MapZ w b N f) : Cz 218 #[.map (some b)] w fun e w' => e = .returned (.map (some w.heap.size)) /\ Hid (MapZ w' w.heap.size N f) /\ BW w w' := by
  obtain⟨D,a,i⟩:=h;have j:=AnyW.maps_Clone_owns mapClone 3 _ b N D w a;exact j.mono (fun e w' ⟨k,l,_,m⟩=>⟨k,hid ⟨D,l,i⟩,m⟩)
def valZ:DataW Unit->Int
 | .lit (.int _ a)=>a
 | _=>0
def pdZ(D:DataW Unit)(kl:Lit)(y:DataW Unit):Bool:=!Maps.has D kl || valZ (D.atKey kl (.lit (.int .i64 0))) != valZ y
theorem ZuF(D:DataW Unit)(pb q:Nat)(x v:Int)(W:World)(h:W.ownsMap prog 3 (plainElem prog 3) pb N D)(m:W.cell? ⟨q,0,none⟩=some (.map (some pb)))(i:keyOf prog 3 (.int .i64 x)=some (.int .i64 x)) :
  Cz 220 (#[.int .i64 x,.int .i64 v]++#[Vp q]) W fun e w'=>e=.returned (.bool (pdZ D (.int .i64 x) (.lit (.int .i64 v))))/\w'=W:=by
 obtain⟨u,ps,o,j⟩:=h.look_ok intK underlying169 (zeroValue3 _) (plainElem_int underlying3 Dc) i;obtain⟨z,rfl,k,_⟩:=plainElem_int_inv underlying3 j;have a:D.atKey _ _=.lit _:=congrArg Prod.fst k;have l:Hid (pdZ D (.int .i64 x) (.lit (.int .i64 v))=(!Maps.has D (.int .i64 x) || z != v)):=by unfold pdZ;rw[a];rfl
 clear j k a h i;generalize Maps.has D (.int .i64 x)=hs at *
 go_enter func220,ntmps220;cases hs with
 | true=>
  go_wp2;go_ret;exact⟨by rw[l];simp,rfl⟩
 | false=>
  go_wp2;go_ret;exact⟨by rw[l];simp,rfl⟩
theorem ZpP{es:List (Lit×DataW Unit)}{k:Lit}(h:Maps.has (.map es) k=true):∃y,(k,y)∈es:=by
 obtain⟨p,e,a⟩:=Ycz.1 h;have:=WideAt.sameKey_eq a;exact⟨p.2,by rwa [<-this]⟩
theorem Zy0{es:List (Lit×DataW Unit)}{k:Lit}{y:DataW Unit}(a:WideAt.IsKeyLit k)(h:(k,y)∈es):Maps.has (.map es) k=true:=Ycz.2 ⟨_,h,Ydq a⟩
theorem Zvs(h:MapZ w b N f){pb q:Nat}(V:MapZ w pb N g)(J:pb≠b)(Y:w.cell? ⟨q,0,none⟩=some (.map (some pb)))(K:q≠b) :
  Cz 219 #[.map (some b),.func (.func 220) #[] #[Vp q]] w fun e w'=>e=.returned (.tuple #[])/\Hid (MapZ w' b N (fun s=>if f s=g s then f s else none))/\w.grownBy w' (some b):=by
 obtain⟨D,L,Z,M⟩:=h;obtain⟨E,g1,g2,g3⟩:=V;have eg:∀args w,(callFunc 220 args).run prog w=.ok (.enter 220 args) w:=enters_of func220 Kr rfl
 have F := AnyDf.maps_DeleteFunc mapDel intK (plainElem prog 3) (pdZ E) 220 #[Vp q] b N D w eg L (fun W key val kl yd yp A j r => by
   obtain⟨x,rfl,rfl,_⟩:=Maps.keyOf_int_inv underlying3 j;obtain⟨z,rfl,t,_⟩:=plainElem_int_inv underlying3 r;obtain rfl:yd=.lit (.int .i64 z):=by simpa using (congrArg Prod.fst t)
   exact(ZuF (N:=N) E pb q x z W (g1.kept A (fun e=>J (Yax e))) (A.cell Y (fun e=>K (Yax e))) j).mono fun _ _ ⟨G,hw⟩=>⟨G,hw ▸ Yek _ _⟩)
 refine F.mono (fun e w' ⟨G,ho,O⟩=>⟨G,hid ?_,O⟩);obtain⟨es,rfl,k,U⟩:=L.entries intK;have a:∀s,WideAt.IsKeyLit (kI s):=fun s=>by trivial
 have m : ∀ l, Maps.has (Lib.deleteFuncD (pdZ E) (.map es)) l = true -> Maps.has (.map _) l = true := fun l H => by
   obtain⟨p,hp,i⟩:=Ycz.1 H;exact Ycz.2 ⟨p,(Ycg.1 hp).1,i⟩
 refine⟨_,ho,fun l H=>Z l (m l H),fun s i=>?_⟩;rw[show(fun s=>if f s=g s then f s else none) s=if f s=g s then f s else none from rfl];cases P:f s with
 | none=>
  have Q:=(M s i).1 P;refine⟨fun _=>?_,fun v r=>by split at r <;> cases r⟩;cases I:Maps.has (Lib.deleteFuncD (pdZ E) (.map es)) (kI s)with
  | false=>rfl
  | true=>rw[m _ I]at Q;cases Q
 | some v=>
  obtain⟨a1,a2⟩:=(M s i).2 v P;obtain⟨y,t⟩:=ZpP a1;obtain rfl:y=.lit (.int .i64 v):=(Ye1 .nil (a s) k t).symm.trans (a2 .nil)
  have B:pdZ E (kI s) (.lit (.int .i64 v))=decide (g s≠some v):=by
   unfold pdZ;cases C:g s with
   | none=>rw[(g3 s i).1 C];rfl
   | some u=>
    obtain⟨b1,b2⟩:=(g3 s i).2 u C;rw[b1,b2];show(false || u != v)=_;by_cases e:u=v <;> simp[e]
  by_cases e:g s=some v
  ·rw[if_pos e.symm];have R:(kI s,DataW.lit _)∈es.filter (fun p=>!pdZ E p.1 p.2):=Ycg.2 ⟨t,by rw[B];simp[e]⟩;refine⟨fun h=>(by cases h),fun u o=>?_⟩;injection o with o;subst o;exact⟨Zy0 (a s) R,fun z=>Ye1 z (a s) (k.filter _) R⟩
  ·rw[if_neg (fun h=>e h.symm)];refine⟨fun _=>?_,fun u o=>(by cases o)⟩;cases I:Maps.has (Lib.deleteFuncD (pdZ E) (.map es)) (kI s)with
   | false=>rfl
   | true=>
    obtain⟨y,T⟩:=ZpP I;obtain⟨m1,m2⟩:=Ycg.1 T;obtain rfl:y=.lit (.int .i64 v):=(Ye1 .nil (a s) k m1).symm.trans (a2 .nil);rw[B]at m2;simp[e]at m2
end
end Go.Proofs.YtcdgkkfipdoeeaaGreatDoor
namespace Go.Proofs.YtcdgkkfipdoeeaaGreatDoor
open Go.RowKit LS Go.Proofs.Tryz
section
variable {w w' w1 w2:World} {X:CX} {cv iv cv' iv':Value} {c c' d:Cq} {S S1:Nat->Prop} {W:Nat->Cq->Cq} {n x y:Nat}
theorem Co.notC(h:Co w X cv iv c){a:Nat}{l:List Value}{t:TypeId}(g:BAt w a l t)(i:t≠171/\t≠3/\t≠159):¬X.chg cv iv a:=by
 obtain⟨lc,lf,m⟩:=Zcw h.left rfl;obtain⟨e1,c1,o⟩:=h.jy.obj;obtain⟨f,p⟩:=h.tak;obtain⟨e2,c2,k⟩:=p.obj;rintro(e|e|e|e|e|e)
 ·subst e;exact i.1 (Zc7 g h.box)
 ·subst e;exact i.2.1 (Zc7 g m)
 ·subst e;exact ZbU o g rfl
 ·subst e;exact ZbU k g rfl
 ·obtain⟨_,_,j⟩:=Zcw h.cons e;exact i.2.1 (Zc7 g j)
 ·obtain⟨_,_,j⟩:=Zcw h.jz e;exact i.2.2 (Zc7 g j)
theorem Co.notM(h:Co w X cv iv c){a N:Nat}{f:Nat->Option Int}(j:MapZ w a N f)(k:a≠X.sb)(l:a≠X.tb):¬X.chg cv iv a:=by
 obtain⟨es,cl,g⟩:=j.obj;obtain⟨lc,lf,m⟩:=Zcw h.left rfl;rintro(e|e|e|e|e|e)
 ·subst e;exact ZbU g h.box rfl
 ·subst e;exact ZbU g m rfl
 ·exact k e
 ·exact l e
 ·obtain⟨_,_,i⟩:=Zcw h.cons e;exact ZbU g i rfl
 ·obtain⟨_,_,i⟩:=Zcw h.jz e;exact ZbU g i rfl
theorem Zrt{base:Nat}{e:TypeId}{g m cap:Nat}{xs:List Value}(h:w.ownsRow base e 2 (.slice (some ⟨g,0,none⟩) m cap) m xs)(i:Nat)(u:Value):(w.setCell ⟨g,i,none⟩ u).ownsRow base e 2 (.slice (some ⟨g,0,none⟩) m cap) m (xs.set i u):=by
 obtain⟨q,h⟩:=h;refine⟨by rwa [Yat],?_⟩;rcases h with ⟨h,_⟩|⟨g',cap',cur,a,f,j,k,l,o,p⟩
 ·cases h
 ·injection a with h1 _ h3;injection h1 with h1;injection h1 with h1;subst h1 h3;refine .inr ⟨g,cap,cur.setIfInBounds i u,rfl,f,?_,k,l,by simpa using o,?_⟩
  ·simp[World.setCell,Ybn,j]
  ·rw[<-p,Yeq,List.take_set]
theorem Zlx:∀(l:List (Nat×Nat)) (k v:Nat) (e:k<l.length),l[k].1=10->(l.flatMap insC).set (k*2+1) (Vi v)=(l.set k (10,v)).flatMap insC
 | [],_,_,e,_=>absurd e (Ya1 _)
 | (a, b) :: l, 0, v, _, h => by
   have h:a=10:=h;subst h;rfl
 | (a, b) :: l, k + 1, v, e, h => by
   have:=Zlx l k v _ h;rw[Ydx,Ycd,Ycd,<-this,Yd5 _ _ (by simp[insC];omega)];rw[show(k+1)*2+1 - (insC _).length=k*2+1 by simp[insC];omega]
theorem Co.argSet(h:Co w X cv (.slice (some ⟨n,0,none⟩) c.jz.length x) c){k v:Nat}(m:k<c.jz.length)(i:(c.jz[k]).1=10):Co (w.setCell ⟨n,k*2+1,none⟩ (Vi v)) X cv (.slice (some ⟨n,0,none⟩) c.jz.length x) { c with jz:=c.jz.set k (10,v) }/\KeepS (X.chg cv (.slice (some ⟨n,0,none⟩) c.jz.length x)) w (w.setCell ⟨n,k*2+1,none⟩ (Vi v)):=by
 have N:=h.ne;have a:=KeepS.set w n (k*2+1) (Vi v);refine⟨⟨a.bat h.box (fun e=>N.ci (by rw[e];rfl)),a.bat h.gbox (fun e=>N.giv (by rw[e];rfl)),h.gn,a.own h.nrow (fun j g=>by injection g with g;subst g;exact fun e=>N.niv (congrArg _ e.symm)),a.own h.left (fun j g=>by injection g with g;subst g;exact fun e=>N.liv (congrArg _ e.symm)),h.jy.move (a.block _ h.jy.lt (fun e=>N.siv (by rw[e];rfl))),h.slen,?_,a.own h.cons (fun j g e=>N.civ j g (by rw[e];rfl)),?_,h.ne1,h.ne2,h.bas,Yah h.bsz a.size,h.nsz,h.nok,h.lbd⟩,a.mono (fun j e=>.inr (.inr (.inr (.inr (.inr (by rw[e];rfl))))))⟩
 ·obtain⟨f,l⟩:=h.tak;exact⟨f,l.move (a.block _ l.lt (fun e=>N.tiv (by rw[e];rfl)))⟩
 ·have:=Zrt h.jz (k*2+1) (Vi v);rw[Zlx _ k v _ i]at this;simp only[Yat];exact this
theorem ZvG(jx:List Nq):∃c2 d:Cq,c2=putQ jx W x (ZG jx W y (y+2) c)/\d=putQ jx W y (Zc 11 0 (Zc 10 0 c2))/\Zbo jx W x y c={ d with jy:=Zce d.jy c2.jy,jz:=d.jz.set c2.jz.length (10,d.jz.length) }:=⟨_,_,rfl,rfl,rfl⟩
theorem Zuu(hW:∀z,z<n->ZiO X W z)(J:∀z,z<n->∀c,c.jy.length=16->Low z c (W z c))(C:∀z c,cLe c (W z c))(c3:∀z c,Pre c (W z c))(h:Co w X cv iv c)(hn:n<=X.jx.length)(hx:x<n)(hy:y<n){op:Nat}{arg:Int}(M:Sml (Zbo X.jx W x y c)) :
  Cz 181 #[Vp X.cb,.agg #[Vi op,Vi arg,Vi x,Vi y]] w fun e w'=>e=.returned (.tuple #[])/\Hid (CoP w w' X cv iv (Zbo X.jx W x y c)):=by
 obtain⟨c2,d,l,hd,hE⟩:=ZvG (W:=W) (x:=x) (y:=y) (c:=c) X.jx;have N:Sml d:=by rw[hE]at M;exact⟨by simpa using M.1,M.2⟩
 have O:cLe _ d:=hd▸((Zeq 10 0 c2).trans (Zeq 11 0 _)).trans (Zg4 X.jx (C y) _);have P:Pre _ d:=hd▸Zd9 (c3 y) _;have c4:=hid N;have Q:=hid (N.of O);have c5:=hid (Q.of (l▸Zg4 X.jx (C x) _));have HE:=hid hE;have R:=hid l;have T:=hid hd;have U:=hid P;have HC:=hid h;have HW:=hid hW;have HL:=hid J;have f7:=hid C;have c6:y<X.jx.length:=by omega
 have f8:x<X.jx.length:=by omega
 have i0:=h.nsz;clear hW J C c3 h M N O P hE l hd;go_enter func181,ntmps181
 go_wp2_with fail
 refine Zm fun W0 V=>?_;have Y:BW w W0:=V▸belB;have Z:Hid (BAt _ _ _ 232):=V▸(show BAt _ _ _ _ from bnw);have a0:=hid (HC.below Y);have c7:Hid (∀ {j:World} {e:Cq},CoP _ _ X _ _ e->CoP w j X cv iv e):=hid (fun h=>CoP.step Y h);clear V Y;generalize w.heap.size=qb at *
 refine(ZtG (fun z hz _=>HW z Om) (fun z hz=>HL z Om) f7 a0 c6 c5).mono ?_;rintro e w1 ⟨rfl,c8⟩;obtain⟨cv1,iv1,c9,a1,g,i⟩:=c8.out;have a2:=hid c9;have q:=hid (a1.bat Z (a0.notC Z ⟨by decide,by decide,by decide⟩));have d0:Hid (∀ {j:World} {e:Cq},CoP _ j X _ _ e->CoP w _ X _ _ e):=hid (fun h=>c7 (CoP.trans a1 g i h));clear c9 a1 g i c8 c7 Z a0;have b2:w1.cell? _=some _:=q.cell 2;have a3:=q.lt
 go_wp2_with fail
 have a4:Hid (Sml (putQ X.jx W x (ZG X.jx W y (y+2) c))):=by rwa [<-R.out]
 refine(ZjZ (HW x hx) a2 f8 a4).mono ?_;rintro e w2 ⟨rfl,d1⟩;obtain⟨cv2,iv2,l,a5,g,i⟩:=d1.out;rw[<-R]at l;have m:=hid l;have a6:=hid (a5.bat q (a2.notC q ⟨by decide,by decide,by decide⟩));have d2:Hid (∀ {j:World} {e:Cq},CoP _ j X _ _ e->CoP w _ X _ _ e):=hid (fun h=>d0 (CoP.trans a5 g i h));obtain⟨ia2,ic2,f0⟩:=Zl l.jz;subst f0;clear l a5 g i d1 d0 q a2 b2 a3 a4 c5 R;have m5:w2.cell? _=some _:=m.box.cell 5;have o:=m.box.lt;obtain⟨lp,D⟩:∃lp,lp=c2.jz.length:=⟨_,rfl⟩
 have a7:=hid D;rw[<-D]at m5
 have a8:Hid (c2.jz.length<=1000000/\(Zc 10 0 c2).jz.length<=1000000/\lp<=1000000):=by
  have h1:=U.length_le;have r:=c4.1;simp[Zc]at h1;refine⟨Q.1,?_,D▸Q.1⟩;simp[Zc];omega
 clear D
 go_wp2_with fail
 refine(ZfY m 10 0 a8.1).mono ?_;rintro e w3 ⟨rfl,d3⟩;obtain⟨cv3,iv3,d4,a9,g,i⟩:=d3.out;have b0:=hid d4;have b1:=hid (a9.bat a6 (m.notC a6 ⟨by decide,by decide,by decide⟩));have d5:Hid (∀ {j:World} {e:Cq},CoP _ j X _ _ e->CoP w _ X _ _ e):=hid (fun h=>d2 (CoP.trans a9 g i h));clear d4 a9 g i d3 d2 a6 m m5 o
 go_wp2_with fail
 refine(ZfY b0 11 0 a8.2.1).mono ?_;rintro e w4 ⟨rfl,d6⟩;obtain⟨cv4,iv4,d7,b4,g,i⟩:=d6.out;have p:=hid d7;have d8:=hid (b4.bat b1 (b0.notC b1 ⟨by decide,by decide,by decide⟩));have d9:Hid (∀ {j:World} {e:Cq},CoP _ j X _ _ e->CoP w _ X _ _ e):=hid (fun h=>d5 (CoP.trans b4 g i h));clear d7 b4 g i d6 d5 b1 b0;have m2:w4.cell? _=some _:=p.box.cell 2;have o:=p.box.lt
 go_wp2_with fail
 refine(ZyY p.jy).mono ?_;rintro e w5 ⟨rfl,b5,E⟩;have b6:=hid (p.below E);have F:=hid (d8.below E);have b7:Hid (w4.heap.size≠X.sb/\w4.heap.size≠X.tb):=hid ⟨fun e=>by have:=p.jy.lt;omega,fun e=>by obtain⟨f,hf⟩:=p.tak;have:=hf.lt;omega⟩;have e0:Hid (∀ {j:World} {e:Cq},CoP _ j X _ _ e->CoP w _ X _ _ e):=hid (fun h=>d9 (CoP.step E h));clear E p d8 d9 m2 o;generalize w4.heap.size=pb at *
 have b3:w5.cell? _=some _:=F.cell 3;have a3:=F.lt
 go_wp2_with fail
 refine Zm fun W6 b8=>?_;have u:BW w5 W6:=b8▸belB;have b9:Hid (BAt _ _ _ 169):=b8▸(show BAt _ _ _ _ from bnw);have f9:=hid (F.below u);have G:=hid (b6.below u);have H:=hid (b5.move (u.block _ b5.lt));have g1:Hid (w5.heap.size≠X.sb):=hid (fun e=>by have:=b6.jy.lt;omega);have e1:Hid (∀ {j:World} {e:Cq},CoP _ j X _ _ e->CoP w _ X _ _ e):=hid (fun h=>e0 (CoP.step u h));clear b8 u F b6 b5 e0 b3 a3;generalize w5.heap.size=tb at *
 have e2:Hid (Sml (putQ X.jx W y (Zc 11 0 (Zc 10 0 c2)))):=by rwa [<-T.out]
 refine(ZjZ (HW y hy) G c6 e2).mono ?_;rintro e w7 ⟨rfl,e3⟩;obtain⟨cv7,iv7,c1,I,g,i⟩:=e3.out;rw[<-T]at c1;have A:=hid c1;have e4:=hid (I.bat b9 (G.notC b9 ⟨by decide,by decide,by decide⟩));have e5:Hid (MapZ _ _ _ (fun s=>c2.jy.getD s _)):=hid (H.move (I.block _ H.lt (G.notM H b7.1 b7.2)));have e6:Hid (∀ {j:World} {e:Cq},CoP _ j X _ _ e->CoP w _ X _ _ e):=hid (fun h=>e1 (CoP.trans I g i h));clear c1 I g i e3 e1 f9 G b9 H e2 T;have m2:w7.cell? _=some _:=A.box.cell 2;have o:=A.box.lt
 go_wp2_with fail
 refine(Zvs A.jy e5 b7.1 (e4.cell 0) g1).mono ?_;rintro e w8 ⟨rfl,e7,e8⟩;have k:Hid (Co _ X _ _ { d with jy:=Zce _ _ }/\KeepS _ _ _):=hid (A.slotUpd e8 (e7.congr (fun s M=>Zsv s M)) (by simp[Zce]) ⟨rfl,rfl,rfl⟩);have g2:Hid (∀ {j:World} {e:Cq},CoP _ j X _ _ e->CoP w _ X _ _ e):=hid (fun h=>e6 (CoP.trans k.2 (fun _ h=>.inl h) (fun _ h=>.inl h) h));have k:=hid k.1;clear e8 e7 e5 e4 e6 A m2 o
 have f4:Hid (lp+2<=d.jz.length/\d.jz.length<=1000000/\∀h:lp<d.jz.length,(d.jz[lp]).1=10):=by
  have h1:=U.length_le;have r:=c4.1;simp[Zc]at h1;refine⟨by rw[a7];omega,r,fun h=>?_⟩;obtain⟨t,ht⟩:=U.out
  have h3:d.jz[lp]?=some (10,0):=by
   rw[<-ht,a7];simp[Zc]
  rw[List.getElem?_eq_getElem h]at h3;injection h3 with h3;rw[h3]
 obtain⟨f5,g3,e9⟩:=f4.out;obtain⟨ib,ic,f6⟩:=ZF k.jz (by show 0<d.jz.length;omega);subst f6;have B:lp<d.jz.length:=by omega
 have g4:=hid (k.argSet (v:=d.jz.length) B (e9 _));have g5:=hid (ZjT k.jz (lp*2+1))
 have g6:=hid (Zi k.jz _ (by
  show(d.jz.flatMap insC)[lp*2+1]?=_;rw[ZgL _ 2 (fun _=>rfl) _ _ 1 B Dc];rfl))
 have g7:=hid (Z1 k.jz);have m5:w8.cell? _=some (.slice _ d.jz.length _):=k.box.cell 5;have o:=k.box.lt;generalize g8:d.jz[lp].2=ag at *
 obtain⟨L,J⟩:∃L,L=d.jz.length:=⟨_,rfl⟩
 have g9:=hid J;rw[<-J]at m5 g3 B f5;have i1:(lp:Int)<L:=by omega
 clear g8 J e9
 go_upto_region 9 with fail
 refine Zbn 12 (fun w'=>w'.cell? _=some _) Kr m5 (fun a=>?_);refine Za 0 a (h:=?_);refine Za 1 a (h:=?_);refine Za 2 a (h:=?_);refine Za 3 a (h:=?_);refine Za 4 a (h:=?_);refine Za 5 a (h:=?_);refine Za 6 a (h:=?_);refine Za 7 a (h:=?_);refine Za 8 a (h:=?_);refine Za 9 a (h:=?_);refine Za 10 a (h:=?_);refine Za 11 a (h:=?_);refine Zbl Kr Kr rfl Kr (fun K hK=>?_);have f1:=g5.out;have f2:=g6.out;have f3:=g7.out;go_simp;refine hK _ _ ?_;clear a hK K f1 f2 f3 m5 o
 have HF:Hid (CoP w (w8.setCell ⟨ib,lp*2+1,none⟩ (Vi L)).drew X cv iv (Zbo X.jx W x y c)):=by
  rw[HE,<-a7,g9];obtain⟨h1,r⟩:=g4.out;exact g2 (CoP.of ⟨Zln h1,⟨r.os,r.tape,r.output,r.size,r.block⟩⟩)
 go_wp2;exact bodyPost_end (results_none rfl _ _ _) rfl ⟨rfl,HF⟩
end
end Go.Proofs.YtcdgkkfipdoeeaaGreatDoor
namespace Go.Proofs.YtcdgkkfipdoeeaaGreatDoor
open Go.RowKit LS Go.Proofs.Tryz
section
variable {w w' w1 w2:World} {X:CX} {cv iv cv' iv':Value} {c c' d:Cq} {S S1:Nat->Prop} {W:Nat->Cq->Cq} {n x y b:Nat}
theorem Zzp(h:¬X.chg cv iv b)(f:b<w.heap.size)(f1:ZdM w cv cv')(f2:ZdM w iv iv'):¬X.chg cv' iv' b:=by
 rintro(e|e|e|e|e|e)
 ·exact h (.inl e)
 ·exact h (.inr (.inl e))
 ·exact h (.inr (.inr (.inl e)))
 ·exact h (.inr (.inr (.inr (.inl e))))
 ·rcases f1 b e with a|a
  ·exact h (.inr (.inr (.inr (.inr (.inl a)))))
  ·omega
 ·rcases f2 b e with a|a
  ·exact h (.inr (.inr (.inr (.inr (.inr a)))))
  ·omega
theorem Co.notNew(h:Co w X cv iv c)(g:w.heap.size<=b):¬X.chg cv iv b:=by
 obtain⟨f,a⟩:=h.tak;rintro(e|e|e|e|e|e)
 ·have:=h.box.lt;omega
 ·have:=Z1 h.left;omega
 ·have:=h.jy.lt;omega
 ·have:=a.lt;omega
 ·have:=(h.cons.lt b e).2;omega
 ·have:=(h.jz.lt b e).2;omega
theorem Co.consApp(h:Co w X cv iv c){na:Option Addr}{nn nc:Nat}(l:c'.left=c.left/\c'.jy=c.jy/\c'.jz=c.jz)(t:w.grownBy w1 cv.ownBlock)(q:ZdM w cv (.slice na nn nc))(r:w1.ownsRow X.base 3 1 (.slice na nn nc) c'.jq.length (c'.jq.map (Value.int .i64))) :
  BAt w1 X.cb (coC X cv iv) 171/\CoP w (w1.setCell ⟨X.cb,4,none⟩ (.slice na nn nc)) X cv iv c':=by
 have N:=h.ne;have o:=KeepS.grown t (fun _ e=>e);have m:=o.bat h.box N.cc;have a:=o.and (KeepS.set _ X.cb 4 (.slice na nn nc));have i:∀ {k:Nat},cv.ownBlock≠some k->k≠X.cb->¬(cv.ownBlock=some k∨k=X.cb):=fun p u v=>v.elim p u;refine⟨m,.slice _ _ _,iv,⟨m.setC 4 _,a.bat h.gbox (i N.gcv N.cg.symm),h.gn,a.own h.nrow (fun j g=>by injection g with g;subst g;exact i N.ncv N.cn.symm),?_,?_,l.2.1▸h.slen,?_,?_,?_,?_,h.ne2,h.bas,Yah h.bsz a.size,h.nsz,h.nok,l.1▸h.lbd⟩,a.mono (fun k o=>o.elim (fun e=>.inr (.inr (.inr (.inr (.inl e))))) .inl),q,fun _ h=>.inl h⟩
 ·rw[l.1];exact a.own h.left (fun j g=>by injection g with g;subst g;exact i N.lcv N.cl.symm)
 ·rw[l.2.1];exact h.jy.move (a.block _ h.jy.lt (i N.scv N.cs.symm))
 ·obtain⟨f,s⟩:=h.tak;exact⟨f,s.move (a.block _ s.lt (i N.tcv N.ct.symm))⟩
 ·exact(KeepS.set _ _ 4 _).own r (fun j g e=>by subst e;exact absurd (Zcx r m Dc) (fun h=>h g.symm))
 ·rw[l.2.2];exact a.own h.jz (fun j g=>i (fun e=>N.civ j e g) (fun e=>by subst e;exact N.ci g))
 ·intro e;rcases q _ e with p|p
  ·exact N.lcv p
  ·have:=Z1 h.left;omega
theorem Zky{jx:List Nq}{f:Nat}(h:(jx.getD n nq0).op=10){a b:Nat}(e:(jx.getD n nq0).fs=some a)(g:(jx.getD n nq0).sn=some b):Zr jx (f+1) n c=Zbo jx (Zr jx f) a b c:=by
 rw[Zr];simp only[if_pos h,e,g,Ya6]
theorem Zgu {jx : List Nq} {f : Nat} (h : (jx.getD n nq0).op ≠ 10) : Zr jx (f + 1) n c = ZbD (jx.getD n nq0) ((Zg (jx.getD n nq0)).foldl (fun c t => putQ jx (Zr jx f) t c) c) := by
  rw[Zr];simp only[if_neg h]
theorem Zwm (jx : List Nq) (f : Nat) (ts : List Nat) (c : Cq) (i : Nat) : cLe ((ts.take i).foldl (fun c t => putQ jx (Zr jx f) t c) c) (ts.foldl (fun c t => putQ jx (Zr jx f) t c) c) := by
  conv=>rhs;rw[<-Ycn i ts,Ydy]
  exact Zlz (fun z c=>ZiK f z c) _ _
theorem Ztg(X:CX):∀f n,n<f->n<X.jx.length->ZiO X (Zr X.jx f) n
 | 0,n,h,_=>absurd h (Ya1 _)
 | f + 1, n, hf, hn => by
   refine⟨fun c=>ZiK _ n c,fun w cv iv c h hs=>?_⟩;have IH:=hid (fun z (hz:z<n)=>Ztg X f z Om Om);have HC:=hid h;have HS:=hid hs;have m0:w.cell? _=some _:=h.box.cell 0;have g2:=(h.gbox.cell 2).trans h.gn;have a1:=h.box.lt;have f6:=h.gbox.lt;have f7:=Z1 h.nrow;have f8:(n:Int)<X.jx.length:=by omega
   obtain⟨q0,q1,q2,q3⟩:=h.node hn;have HN:=hid (h.nodeOk hn);have f9:=hid h.nok;have j4:=h.nsz;have a2:=hid (fun a b ha s p=>Zky (f:=f) (c:=c) (jx:=X.jx) (n:=n) p (a:=a) (b:=b) ha s);have a3:=hid (Zgu (f:=f) (c:=c) (jx:=X.jx) (n:=n));generalize X.jx.getD n nq0=x at *
   obtain⟨L,hL⟩:∃L,L=X.jx.length:=⟨_,rfl⟩
   rw[<-hL]at g2 f8;have j7:=hid hL;clear h hs hL;go_enter func128,ntmps128;by_cases p:x.op=10
   · obtain⟨a,b,ha,s⟩:=HN.or p
     have c2:a<n/\b<n:=by
       have h2:Zg x=[a,b]:=by unfold Zg;rw[ha,s]
       have:=HN.low;rw[h2]at this;exact⟨this a (by simp),this b (by simp)⟩
     have HE:=hid (a2 a b ha s p);rw[ha]at q2;rw[s]at q3;simp only[nI]at q2 q3;rw[p]at q0;clear a2 a3 ha s p
     go_wp2_with fail
     refine Zm fun W0 v=>?_;have A:BW w W0:=v▸belB;clear v;refine(Zuu (fun z hz=>IH z hz) (fun z _ c hc=>ZnB f9 f z c hc) (fun z c=>ZiK f z c) (fun z c=>Zhm f z c) (HC.below A) Om c2.1 c2.2 (by rwa [<-HE.out])).mono ?_;rintro e w1 ⟨rfl,g3⟩;go_wp2;exact bodyPost_ret (results_none rfl _ _ _) rfl ⟨rfl,hid (HE.out▸CoP.step A g3.out)⟩
   · have j5:(x.op:Int)≠10:=by omega
     have HE:=hid (a3 p);clear a2 a3
     go_wp2_with fail
     refine Zm fun W0 v=>?_;have A:BW w W0:=v▸belB;have a4:Hid (BAt _ _ [.int _ _,.int _ _,.int _ _,.int _ _] 232):=v▸(show BAt _ _ _ _ from bnw);have a5:=hid (HC.below A);have c3:Hid (∀ {m:World} {e:Cq},CoP _ _ X _ _ e->CoP w m X cv iv e):=hid (fun h=>CoP.step A h);have Q:Hid (w.heap.size≠X.gb/\w.heap.size≠X.nb/\w.heap.size≠X.cb):=hid ⟨by omega,by omega,by omega⟩;clear v A q0 q1 q2 q3 m0 g2 a1 f6 f7 HC;obtain⟨qb,a6⟩:∃qb,w.heap.size=qb:=⟨_,rfl⟩
     rw[a6]at a4 Q ⊢;have g4:=hid a6;clear a6;refine(Znp x HN.sn).mono ?_;rintro e w3 ⟨tv,rfl,R,HT⟩;obtain⟨ta,tc,rfl,c4⟩:=HT.out;have HT:=hid c4;have c5:=hid (a5.below R);have c6:=hid (a4.below R);have c7:Hid (∀ {m:World} {e:Cq},CoP _ m X _ _ e->CoP w _ X _ _ e):=hid (fun h=>c3 (CoP.step R h));have c8:Hid (∀b,W0.heap.size<=b->¬X.chg _ _ b):=hid (fun b s=>a5.notNew s);have g5:=ZiC x;have c9:=hid (fun t ht=>HN.low t ht);clear c4 a5 c3 a4 R;obtain⟨F,hF⟩:∃F,F=(Zg x).foldl (fun c t=>putQ X.jx (Zr X.jx f) t c) c:=⟨_,rfl⟩
     have d0:=hid hF;have a7:Hid (Zr _ _ n c=ZbD x F):=hid (by rw[HE,hF]);have T:=hid (HS.of (a7.out▸Zqx x));clear hF HE;generalize Zg x=ts at *
     obtain⟨M,hM⟩:∃M,M=ts.length:=⟨_,rfl⟩
     rw[<-hM]at g5 ⊢;have HM:=hid hM;clear hM;go_wp2
     go_loopw [26] (fun i wr=>∃(j:Nat) (cz iz:Value),j<=M/\i=Vi j/\Hid (Co wr X cz iz ((ts.take j).foldl (fun c t=>putQ X.jx (Zr X.jx f) t c) c))/\Hid (∀ {m:World} {e:Cq},CoP wr m X cz iz e->CoP w m X cv iv e)/\Hid (BAt wr qb [Vi x.op,Vi x.arg,Vi (nI x.fs),Vi (nI x.sn)] 232)/\Hid (∀b,W0.heap.size<=b->b<w3.heap.size->¬X.chg cz iz b/\wr.heap[b]?=w3.heap[b]?)/\Hid (w3.heap.size<=wr.heap.size)) (fun i _=>M - (intOf i).toNat)
     case atStart=>exact⟨0,cv,iv,Yag _,rfl,c5,c7,c6,hid (fun b s _=>⟨c8 b s,rfl⟩),hid (Yac _)⟩
     case round=>
       obtain⟨j,cz,iz,hj,rfl,H,B,l,U,I⟩:=hrel;by_cases g6:j<M
       · have j8:(j:Int)<M:=by omega
         have a8:j<ts.length:=by rw[<-HM.out];exact g6
         obtain⟨b,rfl,g7,d1,d2⟩:=HT.out Om;obtain⟨g8,d3⟩:=U.out b g7 d1
         have kc:wr.cell? ⟨b,j,none⟩=some (intC ts[j]):=by
           have:=d2 j a8;simp only[World.cell?,d3]at this ⊢;exact this
         have g9:=Yaw d1 I;have i1:=c9 _ (List.getElem_mem a8);have a9:=hid (ZlB (fun c t=>putQ X.jx (Zr X.jx f) t c) c a8);have d4:Hid (Sml (putQ _ _ _ _)):=hid (T.of (d0.out▸a9.out▸Zwm X.jx f ts c (j+1)));generalize ts[j]=t at *
         simp only[intC]at kc;clear d2 d3
         go_wp2_with fail
         refine(ZjZ (IH t i1) H Om d4).mono ?_;rintro e w5 ⟨rfl,d5⟩;obtain⟨cv5,iv5,b0,J,b1,b2⟩:=d5.out;rw[<-a9]at b0;have i2:=hid b0;have i3:=hid (J.bat l (H.notC l ⟨by decide,by decide,by decide⟩));have i4:Hid (∀ {m:World} {e:Cq},CoP _ m X _ _ e->CoP w _ X _ _ e):=hid (fun h=>B (CoP.trans J b1 b2 h))
         have i5 : Hid (∀ b, W0.heap.size <= b -> b < w3.heap.size -> ¬ X.chg cv5 iv5 b /\ w5.heap[b]? = w3.heap[b]?) := hid (fun b h1 h2 => by
           obtain⟨h3,h4⟩:=U.out b h1 h2;have h5:b<wr.heap.size:=Yaw h2 I.out;exact⟨Zzp h3 h5 b1 b2,(J.block b h5 h3).trans h4⟩)
         have i6:=hid (Yah I J.size);clear b0 J b1 b2 d5 B l H U I d4 a9 kc g9 g8;go_wp2
         go_roundw
         case rel=>exact⟨j+1,cv5,iv5,by omega,by simp,i2,i4,i3,i5,i6⟩
         case measure=>simp[intOf];omega
       · obtain rfl:j=M:=by omega
         have N:Hid (Co wr X cz iz F):=by have:=H.out;rw[HM,Ya4]at this;rw[d0];exact this
         clear H U I HT c6 c5 c7 c8 c9;have k0:wr.cell? _=some _:=l.cell 0;have k1:wr.cell? _=some _:=l.cell 1;have i7:=l.lt;by_cases h0:x.op=0
         · have b3:Hid (Zr _ _ n c=Zc 0 _ _):=hid (by rw[a7,ZbD,if_pos h0])
           have d6:=hid T.2;rw[h0]at k0;obtain⟨ca,cc,i8⟩:=Zl N.cons;subst i8;obtain⟨i0,hi,i9,j0,j1⟩:=info_parts Tryz.infoInt3;obtain⟨cl,b4⟩:∃cl,cl=F.jq.length:=⟨_,rfl⟩
           rw[<-b4]at N B d6;have j6:=d6.out;have V:=hid b4;have Y:Hid (BAt wr.drew _ _ _):=l;have O:=hid (Zln N);have d7:Hid (∀ {m:World} {e:Cq},CoP _ m X _ _ e->CoP w _ X _ _ e):=hid (fun h=>B (CoP.step (Yaf _ _).drew h));clear b4 N B l k1 i7
           go_upto_region 9 with fail
           clear k0;refine Zbn 11 (fun w'=>w'.cell? _=some _/\w'.cell? _=some _) Kr ⟨O.box.cell 4,Y.cell 1⟩ (fun g=>?_);refine Za 0 g (h:=?_);refine Za 1 g (h:=?_);refine Za 2 g (h:=?_);refine Za 3 g (h:=?_);refine Za 4 g (h:=?_);refine Za 5 g (h:=?_);refine Za 6 g (h:=?_);generalize wr.drew=w6 at *
           refine Z4 (i:=7) Kr rfl (fun K P=>?_);have Z:Hid (∀o,Co (w6.alloc o) X _ _ F):=hid (fun o=>O.below Zbal);have d8:=hid (fun o=>by have:=(Z o).cons;rwa [<-V]at this);have b5:Hid (∀o,BAt (w6.alloc o) _ _ _):=hid (fun o=>Y.below Zbal);have d9:Hid (∀ {o:Obj} {m:World} {e:Cq},CoP (w6.alloc o) m X _ _ e->CoP w _ X _ _ e):=hid (fun h=>d7 (CoP.step Zbal h));go_simp;refine P _ _ ⟨(Z _).box.cell 4,(b5 _).cell 1⟩ (fun g=>?_);clear P K
           try simp only[Act.put,Zset]
           refine Z4 (i:=8) Kr rfl (fun K P=>?_);refine ZfF rfl (.tmp 41) (.tmp 44) 54 rfl X.base 3 i0 _ 1 8 underlying54 hi i9 j0 j1 rfl Dc (.slice ca cl cc) cl (F.jq.map (Value.int .i64)) (by simp[Act.eval]) (d8.out _) ⟨w6.heap.size,0,none⟩ 1 1 [Vi x.arg] (by simp[Act.eval]) rfl (cell_one_new _ _ _) ?h3 ?h4 ?h5 ?h6 ?_
           case h3=>intro u hu;simp at hu;subst hu;rfl
           case h4=>unfold maxLen;omega
           case h5=>omega
           case h6=>have:=O.bsz;simp;omega
           intro v1 w8 E q b6;obtain⟨g1,cp1,j2⟩:=ZF E Om;subst j2
           obtain ⟨e0, e1⟩ := (Z.out _).consApp (c' := { F with jq := F.jq ++ [x.arg] }) ⟨rfl, rfl, rfl⟩ q (fun k hk => b6.elim (fun e => Or.inl (e.symm.trans hk)) (fun e => Or.inr (e k hk))) (by
             show w8.ownsRow _ _ _ _ (F.jq++[x.arg]).length ((F.jq++[x.arg]).map (Value.int .i64));rw[Yaq,Yab,<-V.out];exact E)
           have b7 := (b5 _).grown q (fun e => by
             have h1:=O.notC Y ⟨by decide,by decide,by decide⟩;exact h1 (.inr (.inr (.inr (.inr (.inl e.symm))))))
           have a0:=hid e0;have b8:=hid b7;have e2:=hid (d9 e1);clear E q b6 e0 e1 b7 Z d8 b5 d9 O Y d7;refine P _ _ ⟨a0.cell 4,b8.cell 1⟩ (fun g=>?_);clear P K;refine Za 9 g (h:=?_);refine Za 10 g (h:=?_);refine Zbl Kr Kr rfl Kr (fun K P=>?_);have f1:=a0.frozen 4;have f2:=g.1;have f3:=a0.lt;go_simp;refine P _ _ ?_;clear P K f1 f2 f3 g;have C:Hid (BAt (w8.setCell ⟨X.cb,4,none⟩ (.slice (some ⟨g1,0,none⟩) (cl+1) cp1)) _ _ _):=hid (b8.other Q.2.2 _);clear a0 b8;obtain⟨cv9,iv9,e3,e4,b9,c1⟩:=e2.out;have D:=hid e3;have e5:=hid e4;have e7:=hid b9;have e8:=hid c1;clear e3 e4 b9 c1 e2;generalize w8.setCell ⟨X.cb,4,none⟩ (.slice (some ⟨g1,0,none⟩) (cl+1) cp1)=w9 at *
           obtain⟨ca9,cc9,e9⟩:=Zl D.cons;subst e9
           have m4:w9.cell? _=some (.slice _ (cl+1) _):=(D.box.cell 4).trans (by
             show some (Value.slice ca9 (F.jq++[x.arg]).length cc9)=_;rw[Yab,<-V];rfl)
           have a1:=D.box.lt;have k1:w9.cell? _=some _:=C.cell 1;have k0:w9.cell? _=some _:=C.cell 0;have kf:=C.frozen 1;have kl:=C.lt;rw[h0]at k0;have r:=hid (D.notC C ⟨by decide,by decide,by decide⟩);have G:Hid (Co _ X _ _ _/\KeepS _ _ _):=hid ⟨D.keep (KeepS.set _ _ 1 (Vi cl)) (fun e=>r (.inl e.symm)) (fun e=>Q.1 e.symm) (fun e=>Q.2.1 e.symm) (fun e=>r (.inr (.inl e.symm))) (fun e=>r (.inr (.inr (.inl e.symm)))) (fun e=>r (.inr (.inr (.inr (.inl e.symm))))) (fun k hk e=>r (.inr (.inr (.inr (.inr (.inl (e▸hk))))))) (fun k hk e=>r (.inr (.inr (.inr (.inr (.inr (e▸hk))))))),KeepS.set w9 qb 1 (Vi cl)⟩;have f0:IntKind.i64.wrap ((cl)+1 - 1)=cl:=by rw[Ybo];omega
           have f4:=hid (e5.trans G.2 (fun j e hj=>by have:=g4.out;omega));have G:=hid G.1;clear D e5 C r
           go_wp2_with fail
           clear m4 a1 k1 k0 kf kl f0;generalize w9.setCell ⟨qb,1,none⟩ (Vi cl)=w10 at *
           refine(ZfY G 0 _ T.1).mono ?_;rintro e j9 ⟨rfl,f5⟩;go_wp2;exact bodyPost_end (results_none rfl _ _ _) rfl ⟨rfl,hid (b3.out▸V.out▸CoP.trans f4.out e7.out e8.out f5.out)⟩
         · have k2:(x.op:Int)≠0:=by omega
           obtain⟨ag,e6⟩:∃ag:Nat,x.arg=ag:=⟨x.arg.toNat,by have:=HN.nn h0;omega⟩
           have b3:Hid (Zr X.jx (f+1) n c=Zc x.op ag F):=by rw[a7,ZbD,if_neg h0,e6];rfl
           rw[e6]at k1
           go_wp2_with fail
           refine(ZfY N _ _ T.1).mono ?_;rintro e w7 ⟨rfl,j3⟩;go_wp2;exact bodyPost_end (results_none rfl _ _ _) rfl ⟨rfl,hid (b3.out▸B.out j3.out)⟩
end
end Go.Proofs.YtcdgkkfipdoeeaaGreatDoor
namespace Go.Proofs.YtcdgkkfipdoeeaaGreatDoor
open Go.RowKit LS Go.Proofs.Tryz
section
variable {w w' w1 w2:World} {T:TypeId} {b N x:Nat}
structure KB (T:TypeId) (w w':World):Prop where
 cells:∀(b:Nat) (cs:Array Value) (U:TypeId) (fr:Nat×Nat),w.heap[b]?=some (.cells cs U fr)->U≠T->w'.heap[b]?=some (.cells cs U fr)
 maps:∀(b:Nat) (es:Array MapEntry) (cl:Nat),w.heap[b]?=some (.map es cl)->w'.heap[b]?=some (.map es cl)
theorem KB.trans(h:KB T w w1)(q:KB T w1 w2):KB T w w2:=⟨fun b cs U fr a c=>q.cells b _ U _ (h.cells b _ U _ a c) c,fun b es cl a=>q.maps b _ _ (h.maps b _ _ a)⟩
theorem KB.below(T:TypeId)(h:BW w w'):KB T w w':=⟨fun b _ _ _ a _=>(h.block b (Yae.1 a).1).trans a,fun b _ _ a=>(h.block b (Yae.1 a).1).trans a⟩
theorem KB.row {base : Nat} {sz : Nat} {v : Value} {n : Nat} {xs : List Value} (c : w.ownsRow base T sz v n xs) (d : w.grownBy w' v.ownBlock) : KB T w w' := ⟨fun b cs U fr a g => (d.block b (Yae.1 a).1 (Zcx c a g)).trans a, fun b es cl a => (d.block b (Yae.1 a).1 (fun e => by
  obtain⟨cs,fr,h⟩:=Zcw c e.symm
  simp_all)).trans a⟩
theorem KB.set{a:Nat}{l:List Value}(d:BAt w a l T)(i:Nat)(v:Value):KB T w (w.setCell ⟨a,i,none⟩ v):=⟨fun b cs U fr c g=>(Go.Deep.blk_setCell_other _ _ _ _ (fun e=>by subst e;exact g (Zc7 c d))).trans c,fun b es cl c=>(Go.Deep.blk_setCell_other _ _ _ _ (fun e=>by subst e;exact ZbU c d rfl)).trans c⟩
theorem KB.setRow{base:Nat}{sz g m cp:Nat}{xs:List Value}(c:w.ownsRow base T sz (.slice (some ⟨g,0,none⟩) m cp) m xs)(i:Nat)(v:Value):KB T w (w.setCell ⟨g,i,none⟩ v):=by
 obtain⟨cs,fr,d⟩:=Zcw c rfl;exact⟨fun b cs U fr a h=>(Go.Deep.blk_setCell_other _ _ _ _ (fun e=>by simp_all)).trans a,fun b es cl a=>(Go.Deep.blk_setCell_other _ _ _ _ (fun e=>by simp_all)).trans a⟩
theorem KB.own (h : KB T w w') {base : Nat} {e : TypeId} {sz : Nat} {v : Value} {n : Nat} {xs : List Value} (a : w.ownsRow base e sz v n xs) (d : e ≠ T) : w'.ownsRow base e sz v n xs := ZdA a (fun k g => by
  obtain⟨cs,fr,c⟩:=Zcw a g;rw[c];exact h.cells _ _ _ _ c d)
theorem KB.bat(h:KB T w w'){a:Nat}{l:List Value}{t:TypeId}(c:BAt w a l t)(d:t≠T):BAt w' a l t:=h.cells _ _ _ _ c d
structure KM (x:Nat) (w w':World):Prop where
 cells:∀(b:Nat) (cs:Array Value) (U:TypeId) (fr:Nat×Nat),w.heap[b]?=some (.cells cs U fr)->w'.heap[b]?=some (.cells cs U fr)
 maps:∀(b:Nat) (es:Array MapEntry) (cl:Nat),w.heap[b]?=some (.map es cl)->b≠x->w'.heap[b]?=some (.map es cl)
theorem KM.of {es0 : Array MapEntry} {cl0 : Nat} (g : w.heap[x]? = some (.map es0 cl0)) (c : w.grownBy w' (some x)) : KM x w w' := ⟨fun b cs U fr a => (c.block b (Yae.1 a).1 (fun e => by
  simp_all)).trans a,fun b es cl a d=>(c.block b (Yae.1 a).1 (fun e=>d (Yax e))).trans a⟩
theorem KM.own (h : KM x w w') {base : Nat} {e : TypeId} {sz : Nat} {v : Value} {n : Nat} {xs : List Value} (a : w.ownsRow base e sz v n xs) : w'.ownsRow base e sz v n xs := ZdA a (fun k d => by
  obtain⟨cs,fr,c⟩:=Zcw a d;rw[c];exact h.cells _ _ _ _ c)
variable {α:Type} {enc:α->Value} {kt mt:TypeId} {f:α->Option Int}
def MapK(w:World)(kt:TypeId)(b N:Nat)(enc:α->Value)(f:α->Option Int):Prop:=∃D:DataW Unit,w.ownsMap prog kt (plainElem prog 3) b N D/\∀a kl,keyOf prog kt (enc a)=some kl->(f a=none->Maps.has D kl=false)/\∀v,f a=some v->Maps.has D kl=true/\∀z,D.atKey kl z=.lit (.int .i64 v)
theorem MapK.obj(h:MapK w kt b N enc f):∃es cl,w.heap[b]?=some (.map es cl):=by
 obtain⟨D,⟨es,cl,a,_⟩,_⟩:=h
 simp_all
theorem MapK.move(h:MapK w kt b N enc f)(a:w'.heap[b]?=w.heap[b]?):MapK w' kt b N enc f:=by
 obtain⟨D,⟨es,cl,c,d⟩,e⟩:=h;exact⟨D,⟨es,cl,a.trans c,d⟩,e⟩
theorem MapK.kb(h:MapK w kt b N enc f)(c:KB T w w'):MapK w' kt b N enc f:=by
 obtain⟨es,cl,a⟩:=h.obj;exact h.move ((c.maps _ _ _ a).trans a.symm)
theorem MapK.km(h:MapK w kt b N enc f)(c:KM x w w')(d:b≠x):MapK w' kt b N enc f:=by
 obtain⟨es,cl,a⟩:=h.obj;exact h.move ((c.maps _ _ _ a d).trans a.symm)
theorem MapK.look(K:Maps.Keyed prog kt)(k:prog.underlying mt=some (.map kt 3))(h:MapK w kt b N enc f){a:α}{kl:Lit}(d:keyOf prog kt (enc a)=some kl)(W:World)(l:W.heap[b]?=w.heap[b]?):(Instr.lookup mt (.map (some b)) (enc a) true).run prog W=.ok (.tuple #[.int .i64 ((f a).getD 0),.bool (f a).isSome]) W:=by
 obtain⟨D,m,e⟩:=h.move l;obtain⟨v,ps,n,o⟩:=m.look_ok K k (zeroValue3 _) (plainElem_int underlying3 Dc) d;obtain⟨c,rfl,p,_⟩:=plainElem_int_inv underlying3 o;have g:D.atKey _ _=.lit _:=congrArg Prod.fst p;rw[n];cases i:f a with
 | none=>
  have j:=(e a _ d).1 i;rw[Maps.atKey_of_not_has j]at g
  simp_all
 | some u=>
  have j:=(e a _ d).2 u i
  simp_all
theorem MapK.put(K:Maps.Keyed prog kt)(s:prog.underlying mt=some (.map kt 3))(m:∀a a',enc a=enc a'->a=a')(h:MapK w kt b N enc f)(E:N<1000000000){a:α}{kl:Lit}(k:keyOf prog kt (enc a)=some kl){v:Int}(t:(Lit.int .i64 v).wf=true){g:α->Option Int}(o:g a=some v)(p:∀a',a'≠a->g a'=f a')(W:World)(y:W.heap[b]?=w.heap[b]?) :
  ∃i,(Instr.mapUpdate mt (.map (some b)) (enc a) (.int .i64 v)).run prog W=.ok () i/\MapK i kt b (N+1) enc g/\W.grownBy i (some b):=by
 obtain⟨D,q,n⟩:=h.move y;obtain⟨i,A,B,C⟩:=q.update K s (by unfold maxLen;omega) k (plainElem_int underlying3 t);have r:=q.isMap;have l:=K.key k;refine⟨i,A,⟨_,B,fun a' kl' c=>?_⟩,C⟩;by_cases e:a'=a
 ·subst e;obtain rfl:=Yax (c.symm.trans k);rw[o];refine⟨fun h=>(by cases h),fun u d=>?_⟩;injection d with d;subst d;exact⟨Maps.has_put_same r l _,fun z=>Maps.atKey_put_same r l _ z⟩
 ·have j:kl'≠kl:=fun h=>e (m _ _ (K.inj (c.trans (by rw[h])) k));rw[p _ e];refine⟨fun h=>by rw[Maps.has_put_other j];exact(n _ _ c).1 h,fun u d=>?_⟩;rw[Maps.has_put_other j];exact⟨((n _ _ c).2 u d).1,fun z=>by rw[Maps.atKey_put_other j];exact((n _ _ c).2 u d).2 z⟩
theorem MapK.made(w:World)(kt:TypeId)(enc:α->Value):MapK (w.alloc (.map #[] 0)) kt w.heap.size 0 enc (fun _=>none):=⟨.map _,World.ownsMap_made w _ _ _,fun a kl _=>⟨fun _=>rfl,fun v h=>(by cases h)⟩⟩
def nodV(z:Nq):Value:=.agg #[.int .i64 z.op,.int .i64 z.arg,.int .i64 (nI z.fs),.int .i64 (nI z.sn)]
theorem Zq8{a c:Option Nat}(h:nI a=nI c):a=c:=by
 cases a <;> cases c <;> simp only[nI]at h
 ·rfl
 ·omega
 ·omega
 simp_all;omega
theorem Zzn(z y:Nq)(h:nodV z=nodV y):z=y:=by
 obtain⟨o1,a1,f1,s1⟩:=z;obtain⟨o2,a2,f2,s2⟩:=y;unfold nodV at h;injection h with h;have g:=congrArg Array.toList h;simp only[List.cons.injEq]at g;obtain⟨a,c,d,e,_⟩:=g;injection a with _ a;injection c with _ c;injection d with _ d;injection e with _ e;simp only[Nq.mk.injEq];exact⟨Int.ofNat.inj a,c,Zq8 d,Zq8 e⟩
theorem ZxN:laidOutB prog=true:=by kernel_rfl
theorem nodK:Maps.Keyed prog 232:=Maps.Keyed.of_law (deep_law_laid ZxN (m:=2) Om (of_decide_eq_true (by rfl)) Kr (by rfl))
theorem strK:Maps.Keyed prog 9:=Maps.string_keyed underlying9
theorem Zsx{s:BA}(a:s.size<=maxLen):∃kl,keyOf prog 9 (.string s)=some kl:=by
 refine⟨.string s.data.toList,?_⟩;simp[keyOf,underlying9,mapKey,a]
end
end Go.Proofs.YtcdgkkfipdoeeaaGreatDoor
namespace Go.Proofs.YtcdgkkfipdoeeaaGreatDoor
open Go.RowKit LS Go.Proofs.Tryz
theorem Zjk(m:Nat){v:Int}(h:(Lit.int .i64 v).wf=true):prog.keyLits (m+1) 3 [.int .i64 v]=some [.int .i64 v]:=by
 unfold Program.keyLits
 simp_all
theorem Zzo{z:Nq}(c:(Lit.int .i64 z.op).wf=true)(d:(Lit.int .i64 z.arg).wf=true)(e:(Lit.int .i64 (nI z.fs)).wf=true)(f:(Lit.int .i64 (nI z.sn)).wf=true):∃kl,keyOf prog 232 (nodV z)=some kl:=by
 have g:∃m,prog.types.size=m+1:=⟨prog.types.size - 1,by rfl⟩
 obtain⟨m,j⟩:=g;have k:prog.keyType 232=true:=by kernel_rfl
 have a:prog.cellsOf 232=4:=by kernel_rfl
 have h:prog.cellsOf 3=1:=by kernel_rfl
 have l:prog.keyLits (m+1+1) 232 [.int .i64 z.op,.int .i64 z.arg,.int .i64 (nI z.fs),.int .i64 (nI z.sn)]=some [.int .i64 z.op,.int .i64 z.arg,.int .i64 (nI z.fs),.int .i64 (nI z.sn)]:=by
  rw[Program.keyLits.eq_def];simp[underlying232,a,h,Zjk m c,Zjk m d,Zjk m e,Zjk m f]
 have n:(nodV z).formed prog 232=true:=by simp[nodV,Value.formed,underlying232,a]
 have i:(nodV z).cells.toList=[.int _ _,.int _ _,.int _ _,.int _ _]:=rfl;unfold keyOf
 simp_all
abbrev SelC:=BA×Option Addr×Nat×Nat×Nat
abbrev RowC:=Option Addr×Nat×Nat
def ZfB(s:SelC):List Value:=[.string s.1,.slice s.2.1 s.2.2.1 s.2.2.2.1,Vi (s.2.2.2.2:Nat)]
def rowV(r:RowC):Value:=.slice r.1 r.2.1 r.2.2
def Zeg(w0:World)(s:SelC)(x:Nd×Nat):Prop:=bl s.1=x.1.name/\ZX w0 (.slice s.2.1 s.2.2.1 s.2.2.2.1) x.1.jn/\s.2.2.2.2=x.2
def ZcK(w0:World):List SelC->List (Nd×Nat)->Prop
 | [],[]=>True
 | s::ss,x::xs=>Zeg w0 s x/\ZcK w0 ss xs
 | _,_=>False
def ZbK(w:World):List RowC->List (List (LB))->Prop
 | [],[]=>True
 | s::ss,x::xs=>Zbm w (rowV s) x/\ZbK w ss xs
 | _,_=>False
structure GX where
 base:Nat
 gb:Nat
 mb:Nat
 sm:Nat
 gm:Nat
def graC(X:GX)(g:Gq)(nv uv sv rv:Value):List Value:=[.bool g.fold,.bool g.share,nv,uv,.map (some X.mb),sv,rv,.map (some X.sm),.map (some X.gm)]
def idxV(l:List (LB))(s:BA):Option Int:=(idx (bl s) l).map Int.ofNat
structure GJ (w0 w:World) (X:GX) (nv uv sv rv:Value) (sl:List SelC) (rl:List RowC) (g:Gq) (kN:Nat) (f:Nq->Option Int) (ss gs:List (LB)):Prop where
 box:BAt w X.gb (graC X g nv uv sv rv) 176
 nod:w.ownsRow X.base 232 4 nv g.jx.length (g.jx.flatMap nodC)
 use:w.ownsRow X.base 3 1 uv g.uses.length (g.uses.map intC)
 sel:w.ownsRow X.base 156 3 sv g.jm.length (sl.flatMap ZfB)
 grp:w.ownsRow X.base 122 1 rv g.ky.length (rl.map rowV)
 sok:ZcK w0 sl g.jm
 gok:ZbK w rl g.ky
 num:MapK w 232 X.mb kN nodV f
 smp:MapK w 9 X.sm ss.length Value.string (idxV ss)
 gmp:MapK w 9 X.gm gs.length Value.string (idxV gs)
 ne:X.mb≠X.sm/\X.mb≠X.gm/\X.sm≠X.gm
 bas:X.base=w0.heap.size/\X.base<=X.gb/\X.base<=X.mb/\X.base<=X.sm/\X.base<=X.gm
 bel:BW w0 w
structure GI (w0 w:World) (X:GX) (nv uv sv rv:Value) (sl:List SelC) (rl:List RowC) (g:Gq):Prop where
 j:∃f,GJ w0 w X nv uv sv rv sl rl g g.jx.length f (g.jm.map ZI) (g.ky.map commas)/\(g.share=true->∀x,f x=(idxN x g.jx).map Int.ofNat)
 ulen:g.uses.length=g.jx.length
 nok:NOk g.jx
 ubd:∀j,g.uses.getD j 0<=2*g.jx.length
def KT(w w':World):Prop:=∀(b:Nat) (cs:Array Value) (U:TypeId) (fr:Nat×Nat),w.heap[b]?=some (.cells cs U fr)->U∉[176,232,3,156,122]->w'.heap[b]?=some (.cells cs U fr)
section
variable {w0 w w' w1 w2:World} {X:GX} {nv uv sv rv nv' uv' sv' rv':Value} {sl sl':List SelC} {rl rl':List RowC} {g g':Gq} {T:TypeId} {x:Nat}
theorem KT.trans(h:KT w w1)(q:KT w1 w2):KT w w2:=fun b cs U fr c a=>q b _ U _ (h b _ U _ c a) a
theorem KB.kt(h:KB T w w')(a:T∈[176,232,3,156,122]):KT w w':=fun b cs U fr c d=>h.cells b _ U _ c (fun e=>d (e ▸ a))
theorem KM.kt(h:KM x w w'):KT w w':=fun b cs U fr a _=>h.cells b _ U _ a
theorem KT.below(h:BW w w'):KT w w':=fun b _ _ _ a _=>(h.block b (Yae.1 a).1).trans a
theorem KT.bat(h:KT w w'){a:Nat}{l:List Value}{t:TypeId}(c:BAt w a l t)(d:t∉[176,232,3,156,122]):BAt w' a l t:=h _ _ _ _ c d
def GP(w0 w w':World)(X:GX)(g:Gq):Prop:=∃nv uv sv rv sl rl,GI w0 w' X nv uv sv rv sl rl g/\KT w w'
theorem GP.step(h:KT w w1)(q:GP w0 w1 w2 X g):GP w0 w w2 X g:=by
 obtain⟨a,b,c,d,e,f,i,j⟩:=q;exact⟨a,b,c,d,e,f,i,h.trans j⟩
theorem ZbK.mono(c:∀v ns,Zbm w v ns->Zbm w' v ns):∀ {a:List RowC} {b:List (List (LB))},ZbK w a b->ZbK w' a b
 | [],[],h=>h
 | _::_,_::_,⟨d,e⟩=>⟨c _ _ d,ZbK.mono c e⟩
theorem ZbK.kb{a:List RowC}{b:List (List (LB))}(h:ZbK w a b)(c:KB T w w')(d:9≠T):ZbK w' a b:=h.mono (fun _ _ ⟨bs,e,i⟩=>⟨bs,c.own e d,i⟩)
theorem ZbK.km{a:List RowC}{b:List (List (LB))}(h:ZbK w a b)(c:KM x w w'):ZbK w' a b:=h.mono (fun _ _ ⟨bs,d,e⟩=>⟨bs,c.own d,e⟩)
theorem ZbK.len:∀ {a:List RowC} {b:List (List (LB))},ZbK w a b->a.length=b.length
 | [],[],_=>rfl
 | _::_,_::_,⟨_,h⟩=>by rw[Yaj,Yaj,ZbK.len h]
theorem ZcK.len:∀ {a:List SelC} {b:List (Nd×Nat)},ZcK w0 a b->a.length=b.length
 | [],[],_=>rfl
 | _::_,_::_,⟨_,h⟩=>by rw[Yaj,Yaj,ZcK.len h]
theorem ZcK.snoc{s:SelC}{y:Nd×Nat}(c:Zeg w0 s y):∀ {a:List SelC} {b:List (Nd×Nat)},ZcK w0 a b->ZcK w0 (a++[s]) (b++[y])
 | [],[],_=>⟨c,trivial⟩
 | _::_,_::_,⟨d,e⟩=>⟨d,ZcK.snoc c e⟩
theorem ZbK.snoc{s:RowC}{y:List (LB)}(c:Zbm w (rowV s) y):∀ {a:List RowC} {b:List (List (LB))},ZbK w a b->ZbK w (a++[s]) (b++[y])
 | [],[],_=>⟨c,trivial⟩
 | _::_,_::_,⟨d,e⟩=>⟨d,ZbK.snoc c e⟩
variable {kN:Nat} {f f':Nq->Option Int} {ss gs:List (LB)}
theorem ZeR(h:BW w0 w){r:Option Nat}(a:w.grownBy w' r)(d:∀k,r=some k->w0.heap.size<=k):BW w0 w':=⟨a.os.trans h.os,a.tape.trans h.tape,a.output.trans h.output,Yah h.size a.size,fun k c=>(a.block k (Yaw c h.size) (fun e=>by have:=d k e.symm;omega)).trans (h.block k c)⟩
theorem GJ.below(h:GJ w0 w X nv uv sv rv sl rl g kN f ss gs)(a:BW w w'):GJ w0 w' X nv uv sv rv sl rl g kN f ss gs:=by
 have k:=KB.below 0 a;exact⟨h.box.below a,Zn h.nod a,Zn h.use a,Zn h.sel a,Zn h.grp a,h.sok,h.gok.mono (fun _ _ h=>h.below a),h.num.kb k,h.smp.kb k,h.gmp.kb k,h.ne,h.bas,h.bel.trans (a.mono h.bel.size)⟩
theorem GI.below(h:GI w0 w X nv uv sv rv sl rl g)(c:BW w w'):GI w0 w' X nv uv sv rv sl rl g:=by
 obtain⟨f,d,a⟩:=h.j;exact⟨⟨f,d.below c,a⟩,h.ulen,h.nok,h.ubd⟩
theorem GJ.numPut(h:GJ w0 w X nv uv sv rv sl rl g kN f ss gs)(a:w.grownBy w' (some X.mb)){k':Nat}(c:MapK w' 232 X.mb k' nodV f'):GJ w0 w' X nv uv sv rv sl rl g k' f' ss gs/\KT w w':=by
 obtain⟨es,cl,d⟩:=h.num.obj;have k:=KM.of d a;exact⟨⟨k.cells _ _ _ _ h.box,k.own h.nod,k.own h.use,k.own h.sel,k.own h.grp,h.sok,h.gok.km k,c,h.smp.km k h.ne.1.symm,h.gmp.km k h.ne.2.1.symm,h.ne,h.bas,ZeR h.bel a (fun j e=>by injection e with e;have:=h.bas;omega)⟩,k.kt⟩
theorem GJ.smPut(h:GJ w0 w X nv uv sv rv sl rl g kN f ss gs)(a:w.grownBy w' (some X.sm)){ss':List (LB)}(c:MapK w' 9 X.sm ss'.length Value.string (idxV ss')):GJ w0 w' X nv uv sv rv sl rl g kN f ss' gs/\KT w w':=by
 obtain⟨es,cl,d⟩:=h.smp.obj;have k:=KM.of d a;exact⟨⟨k.cells _ _ _ _ h.box,k.own h.nod,k.own h.use,k.own h.sel,k.own h.grp,h.sok,h.gok.km k,h.num.km k h.ne.1,c,h.gmp.km k h.ne.2.2.symm,h.ne,h.bas,ZeR h.bel a (fun j e=>by injection e with e;have:=h.bas;omega)⟩,k.kt⟩
theorem GJ.gmPut(h:GJ w0 w X nv uv sv rv sl rl g kN f ss gs)(a:w.grownBy w' (some X.gm)){gs':List (LB)}(c:MapK w' 9 X.gm gs'.length Value.string (idxV gs')):GJ w0 w' X nv uv sv rv sl rl g kN f ss gs'/\KT w w':=by
 obtain⟨es,cl,d⟩:=h.gmp.obj;have k:=KM.of d a;exact⟨⟨k.cells _ _ _ _ h.box,k.own h.nod,k.own h.use,k.own h.sel,k.own h.grp,h.sok,h.gok.km k,h.num.km k h.ne.2.1,h.smp.km k h.ne.2.2,c,h.ne,h.bas,ZeR h.bel a (fun j e=>by injection e with e;have:=h.bas;omega)⟩,k.kt⟩
theorem ZhP(h:BW w0 w){a i:Nat}(c:w0.heap.size<=a){v:Value}:BW w0 (w.setCell ⟨a,i,none⟩ v):=h.setCell c v
theorem GJ.nodApp(h:GJ w0 w X nv uv sv rv sl rl g kN f ss gs)(z:Nq)(c:w.grownBy w1 nv.ownBlock)(d:w1.ownsRow X.base 232 4 nv' (g.jx.length+1) (g.jx.flatMap nodC++nodC z)) :
  BAt w1 X.gb (graC X g nv uv sv rv) 176/\GJ w0 (w1.setCell ⟨X.gb,2,none⟩ nv') X nv' uv sv rv sl rl { g with jx:=g.jx++[z] } kN f ss gs/\KT w (w1.setCell ⟨X.gb,2,none⟩ nv'):=by
 have k1:=KB.row h.nod c;have a:=k1.bat h.box Dc;have k2:=KB.set a 2 nv';refine⟨a,⟨a.setC 2 _,?_,k2.own (k1.own h.use Dc) Dc,k2.own (k1.own h.sel Dc) Dc,k2.own (k1.own h.grp Dc) Dc,h.sok,(h.gok.kb k1 Dc).kb k2 Dc,(h.num.kb k1).kb k2,(h.smp.kb k1).kb k2,(h.gmp.kb k1).kb k2,h.ne,h.bas,ZhP (ZeR h.bel c (fun k e=>by have:=(h.nod.lt k e).1;have:=h.bas;omega)) (by have:=h.bas;omega)⟩,(k1.kt Dc).trans (k2.kt Dc)⟩;have:=k2.own d Dc
 simp_all
theorem GJ.useApp(h:GJ w0 w X nv uv sv rv sl rl g kN f ss gs)(z:Nat)(c:w.grownBy w1 uv.ownBlock)(d:w1.ownsRow X.base 3 1 uv' (g.uses.length+1) (g.uses.map intC++[intC z])) :
  BAt w1 X.gb (graC X g nv uv sv rv) 176/\GJ w0 (w1.setCell ⟨X.gb,3,none⟩ uv') X nv uv' sv rv sl rl { g with uses:=g.uses++[z] } kN f ss gs/\KT w (w1.setCell ⟨X.gb,3,none⟩ uv'):=by
 have k1:=KB.row h.use c;have a:=k1.bat h.box Dc;have k2:=KB.set a 3 uv';refine⟨a,⟨a.setC 3 _,k2.own (k1.own h.nod Dc) Dc,?_,k2.own (k1.own h.sel Dc) Dc,k2.own (k1.own h.grp Dc) Dc,h.sok,(h.gok.kb k1 Dc).kb k2 Dc,(h.num.kb k1).kb k2,(h.smp.kb k1).kb k2,(h.gmp.kb k1).kb k2,h.ne,h.bas,ZhP (ZeR h.bel c (fun k e=>by have:=(h.use.lt k e).1;have:=h.bas;omega)) (by have:=h.bas;omega)⟩,(k1.kt Dc).trans (k2.kt Dc)⟩;have:=k2.own d Dc
 simp_all
theorem GJ.selApp(h:GJ w0 w X nv uv sv rv sl rl g kN f ss gs)(z:SelC)(y:Nd×Nat)(d:Zeg w0 z y)(c:w.grownBy w1 sv.ownBlock)(i:w1.ownsRow X.base 156 3 sv' (g.jm.length+1) (sl.flatMap ZfB++ZfB z)) :
  BAt w1 X.gb (graC X g nv uv sv rv) 176/\GJ w0 (w1.setCell ⟨X.gb,5,none⟩ sv') X nv uv sv' rv (sl++[z]) rl { g with jm:=g.jm++[y] } kN f ss gs/\KT w (w1.setCell ⟨X.gb,5,none⟩ sv'):=by
 have k1:=KB.row h.sel c;have a:=k1.bat h.box Dc;have k2:=KB.set a 5 sv';refine⟨a,⟨a.setC 5 _,k2.own (k1.own h.nod Dc) Dc,k2.own (k1.own h.use Dc) Dc,?_,k2.own (k1.own h.grp Dc) Dc,h.sok.snoc d,(h.gok.kb k1 Dc).kb k2 Dc,(h.num.kb k1).kb k2,(h.smp.kb k1).kb k2,(h.gmp.kb k1).kb k2,h.ne,h.bas,ZhP (ZeR h.bel c (fun k e=>by have:=(h.sel.lt k e).1;have:=h.bas;omega)) (by have:=h.bas;omega)⟩,(k1.kt Dc).trans (k2.kt Dc)⟩;have:=k2.own i Dc
 simp_all
theorem GJ.grpApp(h:GJ w0 w X nv uv sv rv sl rl g kN f ss gs)(z:RowC)(y:List (LB))(i:Zbm w (rowV z) y)(c:w.grownBy w1 rv.ownBlock)(j:w1.ownsRow X.base 122 1 rv' (g.ky.length+1) (rl.map rowV++[rowV z])) :
  BAt w1 X.gb (graC X g nv uv sv rv) 176/\GJ w0 (w1.setCell ⟨X.gb,6,none⟩ rv') X nv uv sv rv' sl (rl++[z]) { g with ky:=g.ky++[y] } kN f ss gs/\KT w (w1.setCell ⟨X.gb,6,none⟩ rv'):=by
 have k1:=KB.row h.grp c;have a:=k1.bat h.box Dc;have k2:=KB.set a 6 rv'
 have d:Zbm (w1.setCell ⟨X.gb,6,none⟩ rv') (rowV z) y:=by
  obtain⟨bs,l,m⟩:=i;exact⟨bs,k2.own (k1.own l Dc) Dc,m⟩
 refine⟨a,⟨a.setC 6 _,k2.own (k1.own h.nod Dc) Dc,k2.own (k1.own h.use Dc) Dc,k2.own (k1.own h.sel Dc) Dc,?_,h.sok,((h.gok.kb k1 Dc).kb k2 Dc).snoc d,(h.num.kb k1).kb k2,(h.smp.kb k1).kb k2,(h.gmp.kb k1).kb k2,h.ne,h.bas,ZhP (ZeR h.bel c (fun k e=>by have:=(h.grp.lt k e).1;have:=h.bas;omega)) (by have:=h.bas;omega)⟩,(k1.kt Dc).trans (k2.kt Dc)⟩;have:=k2.own j Dc
 simp_all
theorem GJ.useSet{ub uc:Nat}(h:GJ w0 w X nv (.slice (some ⟨ub,0,none⟩) g.uses.length uc) sv rv sl rl g kN f ss gs)(j v:Nat):GJ w0 (w.setCell ⟨ub,j,none⟩ (Vi v)) X nv (.slice (some ⟨ub,0,none⟩) g.uses.length uc) sv rv sl rl { g with uses:=g.uses.set j v } kN f ss gs/\KT w (w.setCell ⟨ub,j,none⟩ (Vi v)):=by
 have k2:=KB.setRow h.use j (Vi v);refine⟨⟨k2.bat h.box Dc,k2.own h.nod Dc,?_,k2.own h.sel Dc,k2.own h.grp Dc,h.sok,h.gok.kb k2 Dc,h.num.kb k2,h.smp.kb k2,h.gmp.kb k2,h.ne,h.bas,ZhP h.bel (by have:=(h.use.lt ub rfl).1;have:=h.bas;omega)⟩,k2.kt Dc⟩;have:=ZmD h.use j (Vi v);rw[show(g.uses.map _).set j _=(g.uses.set j v).map _ by rw[Yd8];rfl]at this
 simp_all
theorem GP.of(h:GI w0 w X nv uv sv rv sl rl g)(k:KT w1 w):GP w0 w1 w X g:=⟨_,_,_,_,_,_,h,k⟩
end
end Go.Proofs.YtcdgkkfipdoeeaaGreatDoor
namespace Go.Proofs.YtcdgkkfipdoeeaaGreatDoor
open Go.RowKit LS Go.Proofs.Tryz
section
variable {w0 w w' w1 w2:World} {X:GX} {nv uv sv rv nv' uv' sv' rv':Value} {sl sl':List SelC} {rl rl':List RowC} {g g':Gq} {T:TypeId} {x:Nat}
theorem Zkw{v:Int}(a : -9223372036854775808<=v)(c:v<=9223372036854775807):(Lit.int .i64 v).wf=true:=by
 show(decide (IntKind.i64.min<=v) && decide (v<=IntKind.i64.max))=true;rw[show IntKind.i64.min=-9223372036854775808 from rfl,show IntKind.i64.max=9223372036854775807 from rfl,Yas]
 simp_all
theorem Zq9{o:Option Nat}{N:Nat}(h:∀a,o=some a->a<N):nI o<=N:=by
 cases o with
 | none=>constructor<;>omega
 | some a=>have:=h a rfl;show(a:Int)<=N;omega
theorem NOne.key{n:Nat}{z:Nq}(h:NOne n z)(i:n<=1000000):∃kl,keyOf prog 232 (nodV z)=some kl:=by
 have d:∀a,z.fs=some a->a<n:=fun a c=>h.low a (by unfold Zg;split<;>simp_all)
 have e : ∀ a, z.sn = some a -> a < n := fun a c => by
   cases f:z.fs with
   | none=>rw[h.sn f]at c;cases c
   | some b=>exact h.low a (by unfold Zg;simp_all)
 have j:=Zq9 d;have k:=Zq9 e;have l:=Zml z.fs;have m:=Zml z.sn;have o:=h.op;have p:=h.ar;exact Zzo (Zkw Om Om) (Zkw Om Om) (Zkw Om Om) (Zkw Om Om)
theorem ZpS(a:Nq):∀(l:List Nq) (z:Nq),idxN z l=none->idxN a (l++[z])=haveI:=ZGo a z;if a=z then some l.length else idxN a l
 | [], z, _ => by
   by_cases h:z=a
   · subst h;rfl
   · simp[idxN,h,Ycp h]
 | y :: l, z, h => by
   unfold idxN at h;by_cases e:y=z
   · simp_all
   · rw[if_neg e]at h
     have c : idxN z l = none := by cases d : idxN z l with
       | none=>rfl
       | some i=>simp_all
     rw[Yby,idxN,idxN,ZpS a l z c];by_cases e2:y=a
     · simp_all
     · simp only[e2,if_false]
       split<;>rfl
theorem Zhq{z:Nq}{i:Nat}(h:g.share=true)(a:idxN z g.jx=some i):addQ z g=(i,g):=by
 unfold addQ;simp_all
theorem Zgz{z:Nq}(h:g.share=true->idxN z g.jx=none):addQ z g=(g.jx.length,{ g with jx:=g.jx++[z],uses:=(Zg z).foldl bump (g.uses++[0]) }):=by
 unfold addQ
 simp_all
theorem ZlL{z:Nq} : ∀ {l:List Nq} {i:Nat},idxN z l=some i->i<l.length
 | [],i,h=>by cases h
 | y :: l, i, h => by
   unfold idxN at h;by_cases e:y=z
   · simp_all;omega
   · rw[if_neg e]at h
     cases a:idxN z l with
     | none=>simp_all
     | some j=>rw[a]at h;injection h with h;subst h;have:=ZlL a;simp_all
theorem Zul {u : List Nat} {m n : Nat} (h : ∀ j, u.getD j 0 <= m) : ∀ j, (bump u n).getD j 0 <= m + 1 := fun j => by
  unfold bump;rw[Zf2];have a:=h j;have c:=h n;split <;> omega
theorem Zly:∀(ts:List Nat) (u:List Nat) (m:Nat),(∀j,u.getD j 0<=m)->∀j,(ts.foldl bump u).getD j 0<=m+ts.length
 | [],u,m,h=>h
 | t :: ts, u, m, h => fun j => by
   have:=Zly ts (bump u t) _ (Zul h) j
   simp_all;omega
theorem ZnR {u : List Nat} {m : Nat} (h : ∀ j, u.getD j 0 <= m) : ∀ j, (u ++ [0]).getD j 0 <= m := fun j => by
  rcases Yav j u.length with a|a
  · have:=h j
    simpa [Yaa,Ybr a] using this
  · rw[Yaa,Yb3 a]
    rcases Yav (j - u.length) 1 with c|c
    · simp_all
    · simp[Ya9 (l:=[0]) c]
theorem Zpo(ts u:List Nat):(ts.foldl bump u).length=u.length:=ZlA (fun l x=>ZfT l x) _ u
theorem NOk.snoc {l : List Nq} (h : NOk l) {z : Nq} (c : NOne l.length z) : NOk (l ++ [z]) := fun i d => by
  rcases Yav i l.length with a|a
  · rw[List.getElem_append_left a];exact h i _
  · obtain rfl:i=l.length:=by simp_all;omega
    simp_all
theorem GI.added(h:GI w0 w X nv uv sv rv sl rl g){z:Nq}(c:NOne g.jx.length z)(a:g.share=true->idxN z g.jx=none){f f':Nq->Option Int}(k:g.share=true->∀x,f x=(idxN x g.jx).map Int.ofNat)(e:f' z=some (g.jx.length:Int))(i:∀y,y≠z->f' y=f y)(l:GJ w0 w' X nv' uv' sv rv sl rl { g with jx:=g.jx++[z],uses:=(Zg z).foldl bump (g.uses++[0]) } (g.jx.length+1) f' (g.jm.map ZI) (g.ky.map commas)) :
  GI w0 w' X nv' uv' sv rv sl rl (addQ z g).2:=by
 rw[Zgz a];refine⟨⟨f',by simp_all,fun d y=>?_⟩,?_,h.nok.snoc c,fun j=>?_⟩
 ·show f' y=(idxN y (g.jx++[z])).map Int.ofNat;rw[ZpS y _ z (a d)];split<;>simp_all
 ·show((Zg z).foldl bump (g.uses++[0])).length=(g.jx++[z]).length;rw[Zpo,Yab,Yab,h.ulen];rfl
 ·have m:=Zly (Zg z) _ _ (ZnR h.ubd) j;have n:=ZiC z
  simp_all;omega
end
end Go.Proofs.YtcdgkkfipdoeeaaGreatDoor
