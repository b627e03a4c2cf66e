/- Parts. -/
import Derived.Test.YtmfnolgpaoldpaaGreatDoorX17
set_option linter.all false
set_option maxRecDepth 100000
set_option maxHeartbeats 16000000
namespace Go.Proofs.YtmfnolgpaoldpaaGreatDoor
open Go.RowKit LS Go.Proofs.Tryz
open Go renaming World->Y,Value->F
open Go.RowKit renaming Hid->U
theorem rh(q s:BA)(f l st fuel:Int)(w:Y)(hq:q.size<=maxLen)(hs:s.size<=maxLen):
 CP 7 #[.string q,.string s,.agg #[E f,E l,E st],E fuel] w λe u=>∃(r:BA)(c p:Nat),e=.returned (.tuple #[.string r,E c,E p])/\U (UE (bl q) (bl s) f l st fuel=(bl r,c,p))/\BW w u:=by
 have f8:U<|∀W,CP 14 #[.string q] W _:=I λW=>mg q W hq;have V:U<|∀W,CP 15 #[.string s] W _:=I λW=>vY s W hs;clear hq hs;go_enter func7,ntmps7;go_wp2_with fail;refine Zv λW hW=>?_;have a6:BW w W:=by rw[hW];exact Yc
 have c8:U<|Ya W w.heap.size [E f,E l,E st] 32:=I<|by rw[hW];exact(show Ya _ _ _ _ from Go.Deep.blk_alloc_new w _)
 have Z:=I a6;clear hW a6;obtain⟨xb,f9⟩:∃xb,xb=w.heap.size:=⟨_,C⟩;rw[<-f9]at c8⊢;clear f9;refine(f8.o W).m ?_;rintro e w1 ⟨v,a,b,c,p,rfl,H,c9⟩;have b3:U<|BW w w1:=I<|Z.trans<|c9.mono Z.size;have g0:=I<|c8.below c9;clear c9 Z c8 f8;cases J:Ti (bl q)with
 |error x=>
  have hr:=H.o;rw[J]at hr;obtain⟨_,_,h1,h2,T⟩:=hr;have M:U<|UE (bl q) (bl s) f l st fuel=([],c,p):=I<|by unfold UE;rw[J,h1,h2]
  have hc:((c:Int) !=0)=true:=by rw[Vg];omega
  clear H h1 h2 J;go_wp2;go_ret3;exact⟨_,_,_,C,M,b3.o⟩
 |ok y=>
  have hr:=H.o;rw[J]at hr;obtain⟨_,_,rfl,rfl,cb,cv,pv,gv,iv,pl,gl,rfl,d0⟩:=hr;have a7:=I d0;have b4:=I<|Cp J;obtain⟨co,ym⟩:=y;simp only at a7 b4 d0;have G:U<|∀x,(if(ZG<|bl s).1≠0 then([],(ZG<|bl s).1,(ZG<|bl s).2)else match Tk f l st with
   |none=>([],8,0)
   |some ts=>if fuel<0\/1000000<fuel then([],13,0)else match VK (Qg<|bl s) co fuel.toNat ts with
    |none=>([],13,0)
    |some z=>(VX z.1,0,0))=x->UE (bl q) (bl s) f l st fuel=x:=I λx hx=>by unfold UE;rw[J];exact hx
  clear H J d0;go_wp2_with fail;refine(V.o _).m ?_;rintro e w2 ⟨sv,rfl,b5,b6⟩;have b7:U<|BW w w2:=I<|b3.trans<|b5.mono b3.size;have a4:U<|SH w2 cb co cv pv gv iv pl gl:=I ⟨a7.code.below b5,a7.ln,a7.op⟩;have a8:=I<|g0.below b5;clear b5 V a7 g0 b3;generalize g1:ZG (bl s)=lr at*;obtain⟨lc,lp⟩:=lr;simp only at b6 G;by_cases hc:lc=0
  .subst hc;obtain⟨g2,g3⟩:=b6.o C;obtain⟨ss,d1,d2,g4,k0⟩:=Pa.sto (by rw[Zb];exact g3) g2;have g5:U<|UP w2 sv ss:=d1;have d4:U<|ZH ss=Qg (bl s)/\Sw (ZH ss):=I ⟨d2,by rw[d2];exact g4⟩;clear b6 g2 g3 d1 d2 g4 k0 g1;have x0:=a8.cell 0;have x1:=a8.cell 1;have x2:=a8.cell 2;simp only[Yf]at x0 x1 x2;have k1:=a8.lt;go_wp2_with fail;refine(fg f l st).m ?_;rintro e A ⟨tv,okv,rfl,d5,b8⟩;have O:U<|BW w A:=I<|b7.trans<|b8.mono b7.size;have b1:=I<|g5.below b8;have P:U<|SH A cb co cv pv gv iv pl gl:=I ⟨a4.code.below b8,a4.ln,a4.op⟩;clear b8 x0 x1 x2 k1 a8 g5 b7 a4;rcases d5.o with⟨rfl,g6⟩|⟨rfl,ts,b9,m2,d6,a5⟩
   .have M:U<|UE (bl q) (bl s) f l st fuel=([],8,0):=I<|G.o _<|by rw[Yd<|Sm,g6]
    clear g6;go_wp2;go_ret3;exact⟨_,8,0,C,M,O.o⟩
   .by_cases a2:fuel<0\/1000000<fuel
    .have M:U<|UE (bl q) (bl s) f l st fuel=([],13,0):=I<|G.o _<|by rw[Yd<|Sm,b9];simp only;rw[Ye a2]
     clear b9 d6 a5 d5 G;rcases a2 with a2|a2
     .go_wp2;go_ret3;exact⟨_,13,0,C,M,O.o⟩
     .have m3:¬fuel<0:=X;go_wp2;go_ret3;exact⟨_,13,0,C,M,O.o⟩
    .obtain⟨fu,rfl⟩:∃fu:Nat,fuel=fu:=⟨fuel.toNat,X⟩;have j4:fu<=1000000:=X;have M:U<|UE (bl q) (bl s) f l st fu=match VK (ZH ss) co fu ts with
     |none=>([],13,0)
     |some z=>(VX z.1,0,0):=I<|G.o _<|by rw[Yd<|Sm,b9];simp only;rw[Yd a2,d4.1];rfl
     obtain⟨ta,tc,rfl⟩:=Zd a5;have c0:U<|A.ownsRow 0 2 1 (.slice ta ts.length tc) ts.length<|ts.map<|.int .i64:=a5;have k2:U<|∀t∈ts,-1000000<=t/\t<=1000000:=d6;obtain⟨L,B⟩:=b4.2;have B:=I B;have k3:=I b4.1;obtain⟨sa,sc,rfl⟩:=Zd b1.own;obtain⟨n,hn⟩:∃n,n=co.jz.length:=⟨_,C⟩;have HN:=I hn;have m4:n<=65535:=by rw[hn];exact P.ln
     clear b9 d6 a5 d5 G b4 hn a2;go_wp2;go_loopw [3,19,20] (λfv ov kv wr=>∃(k fk:Nat)(r:BA)(ls:List<|LB),k<=ts.length/\kv=E k/\fv=E fk/\ov=.string r/\fk<=1000000/\r.size<=2000000000001*k/\U (VK (ZH ss) co fu (ts.take k)=some (ls,fk))/\U (bl r=VX ls/\ls.length=k)/\U (BW A wr)) (λ_ _ kv _=>ts.length-(intOf kv).toNat);case atStart=>exact⟨0,fu,⟨#[]⟩,[],Yr _,C,C,C,j4,Yr _,I C,I ⟨C,C⟩,I<|Ym _ _⟩
     case round=>
      obtain⟨k,fk,r,ls,hk,rfl,rfl,rfl,k4,m5,g7,H,Q⟩:=hrel;by_cases c1:k<ts.length
      .obtain⟨g,cpx,hg⟩:=Zm c0.o X;injection hg with hg1 _ hg2;subst hg1 hg2;have f7:wr.cell? ⟨g,k,none⟩=some (E ts[k]):=Zc (Ze c0.o Q.o) k _<|by rw[Vs,List.getElem?_eq_getElem c1];rfl
       have d7:U<|-1000000<=ts[k]/\ts[k]<=1000000:=I<|k2.o _<|List.getElem_mem c1;have g8:U<|VK (ZH ss) co fu (ts.take<|k+1)=match Xf (ZH ss) ts[k] co fk 0 UW with
        |none=>none
        |some x=>some (ls++[U8 ts[k]<|TJ x.2],x.1):=I<|by rw[List.take_succ_eq_append_getElem c1,Ji,g7.o];rfl
       have k5:U<|VK (ZH ss) co fu (ts.take<|k+1)=none->UE (bl q) (bl s) f l st fu=([],13,0):=I λh=>by rw[M.o,zp h]
       have k6:=ZN<|Ze c0.o Q.o;have j5:U<|(ts.map<|Value.int IntKind.i64)[k]?=some (E ts[k]):=I<|by rw[Vs,List.getElem?_eq_getElem c1];rfl
       generalize ts[k]=tm at*;go_upto_region 17 with fail;refine Zs λW hW=>?_;have a6:BW wr W:=by rw[hW];exact Yc
       have g9:U<|Ya W wr.heap.size (mC cb (.slice sa ss.length sc) tm S0<|List.replicate 16 T4) 64:=I<|by rw[hW];exact(show Ya _ _ _ _ from Go.Deep.blk_alloc_new wr _)
       have Z:U<|BW A W:=I<|Q.trans<|a6.mono Q.size;have k7:A.heap.size<=wr.heap.size:=Q.size;have i0:U<|∀W',BW A W'->W'.cell? ⟨g,k,none⟩=some (E tm)/\g<W'.heap.size:=I λW' hb=>by
        have ho:=Ze c0.o hb;refine⟨?_,ZN ho⟩;have h2:(ts.map<|Value.int IntKind.i64)[k]?=some (E tm):=j5.o;exact Zc ho k _ h2
       clear hW a6 f7 k6 Q;generalize wr.heap.size=mb at*;have d8:∀j y,UW.jx.getD j none=some y->XZ W ((List.replicate 16 T4).getD j T4) y:=λj y hy=>by
        exfalso;have h2:(List.replicate 16 (none:Option Cl)).getD j none=none:=by rw[Y0,O4];split<;>rfl
        have h3:(UW.jx).getD j none=some y:=hy;unfold UW at h3;rw[h2]at h3;cases h3
       have i1:U<|Xd A W mb cb (.slice sa ss.length sc) tm UW none 0 0 (List.replicate 16 T4) []:=I ⟨⟨g9.o,Xm _ _ _ _,C⟩,trivial,Sm,d8,Z.o,k7⟩;clear d8;clear g9 Z;go_wp2;go_loopw [3,22] (λfv iv wq=>∃(i f1:Nat)(m:MQ)(sa1:Option Addr)(sn sc1:Nat)(sl xs:List CV),i<=n/\iv=E i/\fv=E f1/\f1<=1000000/\U (Xf (ZH ss) tm co fk 0 UW=Xf (ZH ss) tm co f1 i m)/\U ((L.getD i Ys).kj=true/\YV (ZH ss).length (L.getD i Ys).jy (L.getD i Ys).jx m/\m.jy.length<=64)/\U (Xd A wq mb cb (.slice sa ss.length sc) tm m sa1 sn sc1 sl xs)) (λ_ iv _=>n-(intOf iv).toNat);case atStart=>exact⟨0,fk,UW,none,0,0,_,[],Yr _,C,C,k4,I C,I ⟨(B.start (ZH ss).length).1,(B.start (ZH ss).length).2,Yr _⟩,i1⟩
       case round=>
        clear i1;obtain⟨i,f1,m,sa1,sn,sc1,sl,xs,hi,rfl,rfl,k8,a9,o,D⟩:=hrel;have b0:=I<|P.code.below D.bel;obtain⟨ia,ic,d9⟩:=Zd b0.is;have d3:_=some iv:=b0.box.cell 3;rw[d9,<-HN.o]at d3;have e0:=b0.box.lt;by_cases k9:i<n
        .have R:i<co.jz.length:=by rw[<-HN.o];exact k9
         cases f1 with
         |zero=>
          have HX:U<|UE (bl q) (bl s) f l st fu=([],13,0):=I<|k5.o<|by rw[g8.o,a9.o,BK R]
          have e1:U<|BW w wr:=I<|O.trans<|D.bel.mono O.size;go_wp2;go_ret3;exact⟨⟨#[]⟩,13,0,C,HX,e1.o⟩
         |succ f2=>
          have m6:(((f2+1:Nat):Int)==0)=false:=by rw[YB];omega
          have m0:(((f2:Int)+1)==0)=false:=by rw[YB];omega
          obtain⟨op,arg,c2⟩:∃op arg,co.jz[i]?=some (op,arg):=⟨_,_,List.getElem?_eq_getElem R⟩;have c3:co.jz.getD i (0,0)=(op,arg):=by rw[Y0,c2];rfl
          have c4:=(P.op (op,arg)<|QW c2).1;obtain⟨_,st1,sl1,b2,_,_⟩:=B.step i R o.1;have S:=B.next d4.2 tm R (by rw[c3];exact c4) o.1 o.2.1;have a3:=B.len d4.2 tm R (by rw[c3];exact c4) o.1 o.2.1 o.2.2;have e2:=B.fwd i R;have e3:=BJ (ZH ss) tm co f2 i m R;rw[c3]at b2 S a3 e2 e3;have l0:(L.getD i Ys).jy.length<=64:=by rw[<-o.2.1.jy,Yz];exact o.2.2
          have e4:=I<|ub (ss:=ss) ⟨P.code,D.o,c2,P.ln⟩ b1.o k3.o d7.1 d7.2 c4 e2 o.2.1 l0 b2;have i2:U<|Xf (ZH ss) tm co fk 0 UW=Xf (ZH ss) tm co f2 (UH i (op,arg) m) (XG (ZH ss) tm co (op,arg) m):=I<|by rw[a9.o,e3]
          obtain⟨j,hj⟩:∃j,UH i (op,arg) m=j:=⟨_,C⟩;rw[hj]at S i2 e4;have j6:=I<|And.intro S.2.2.1<|And.intro S.2.2.2 a3;have m7:i<j:=S.1;have l1:j<=n:=by rw[HN.o];exact S.2.1
          clear b2 S a3 e2 e3 c3 c4 c2 a9 o hj;go_wp2_with fail;refine e4.m ?_;rintro e w5 ⟨rfl,i3⟩;obtain⟨sa5,sn5,sc5,sl5,xs5,e5⟩:=i3.o;have l2:=I e5;clear e5 i3 e4 D d3 e0 b0 d9;go_wp2;go_roundw;case rel=>exact⟨j,f2,_,sa5,sn5,sc5,sl5,xs5,l1,C,by go_num,X,i2,j6,l2⟩
          case measure=>simp[intOf];omega
        .obtain rfl:i=n:=X;have i4:co.jz.length<=i:=by rw[<-HN.o];exact Yj _
         have i5:U<|VK (ZH ss) co fu (ts.take<|k+1)=some (ls++[U8 tm<|TJ m],f1):=I<|by rw[g8.o,a9.o,BI i4]
         obtain⟨v,hv,i6⟩:=B.end_ (n:=(ZH ss).length) (m:=m)<|by have:=o.2.1;rw[HN.o]at this;exact this
         have j7:WG 1000 v:=WG.more (by unfold ZH;rw[Yz];have:=b1.len;omega) i6;have e6:TJ m=v:=by unfold TJ;rw[hv];rfl
         rw[e6]at i5;obtain⟨mst,msl⟩:=m;simp only at hv;subst hv;obtain⟨x,xs',gs,kk,rfl,rfl,rfl,j8,_,hx⟩:=D.top C;have l3:kk<=64:=by have:=D.num;simp at this;omega
         obtain⟨rr,c5⟩:∃rr:BA,rr=if k=0 then r else r++⟨#[10]⟩:=⟨_,C⟩;have l4:U<|bl rr=if ls.isEmpty then[]else VX ls++[10]:=I (by
          rw[c5];by_cases T:k=0
          .have e7:ls=[]:=Oh.1<|by rw[H.2,T]
           rw[Ye T,H.1,e7];rfl
          .have e7:ls.isEmpty=false:=by
            cases ls with
           |nil=>exact absurd H.2.symm T
           |cons a b=>rfl
           rw[Yd T,e7,PT,H.1];rfl);have m1:rr.size<=2000000000001*k+1:=by
          rw[c5];split
          .omega
          .rw[Y9];show r.size+1<=_;omega
         have e8:=I c5;clear c5 o a9 i4 i6 e6;go_upto_if 88 with fail;clear d3 e0 b0 d9;go_cut [19]from 59 to 101 (λs19 wx=>s19=.string rr/\wx=wr);case first=>
          by_cases T:k=0
          .have c6:rr=r:=by rw[e8.o,Ye T]
           subst T;go_wp2;go_meet;exact⟨by rw[c6],C⟩
          .have c6:rr=r++⟨#[10]⟩:=by rw[e8.o,Yd T]
           have l5:=I c6;have h1:(0:Int)<(k:Int):=X;have a0:∀W,(Op.stringOp .add r ⟨#[10]⟩).run prog W=.ok (.string<|r++⟨#[10]⟩) W:=λW=>XW W _ _<|by show r.size+1<=_;omega
           clear c6 T;go_wp2;go_meet;exact⟨by rw[l5.o],C⟩
         case rest=>
         obtain⟨rfl,rfl⟩:=hcut;rename Y=>wr;go_wp2_with fail;refine(OK _ mb cb gs kk sc1 _ tm sl x D.st.box hx l3 j8).m ?_;rintro e w6 ⟨rfl,i7,i8⟩;have e9:=I<|D.qx i7.o i8.o;have i9:=I e9.2;have f0:=I e9.1.bel;clear D i7 i8 hx e9;unfold Pv;go_upto_region 26 with fail;refine Zs λW7 f3=>?_;have f4:BW w6 W7:=by rw[f3];exact Yc
         have j0:U<|Ya W7 w6.heap.size x.cells 61:=I<|by rw[f3];exact(show Ya _ _ _ _ from Go.Deep.blk_alloc_new w6 _)
         have l6:=I<|i9.below f4;have l7:U<|BW A W7:=I<|f0.trans<|f4.mono f0.size;clear f3 f4 i9 f0;generalize w6.heap.size=zb at*;have l8:=I<|l6.below<|(Ym _ _).drew;have c7:=I<|j0.below<|(Ym _ _).drew;have V:U<|BW A W7.drew:=I l7.drew;obtain⟨ln,a3⟩:∃ln:BA,ln=⟨(U8 tm v).toArray⟩:=⟨_,C⟩;have j1:U<|bl ln=U8 tm v:=I<|by rw[a3,Gs]
         clear a3;obtain⟨gk7,gl7⟩:=i0.o _ V.o;have gl8:g<W7.heap.size:=gl7;have zl7:=j0.lt;refine ZW 9 (λu=>u.cell? ⟨g,k,none⟩=some (E tm)/\u.cell? ⟨zb,0,none⟩=some (.bool x.sc)/\u.cell? ⟨zb,1,none⟩=some (E x.n)/\u.cell? ⟨zb,2,none⟩=some (.slice x.ea x.en x.ec)) Kr (by exact⟨gk7,c7.cell 0,c7.cell 1,c7.cell 2⟩) λd=>?_;clear gk7 gl7;refine Za 0 d (h:=Za 1 d (h:=Za 2 d (h:=Za 3 d (h:=Za 4 d (h:=Za 5 d (h:=Za 6 d (h:=?_)))))));refine Zz (i:=7) Kr C λK hK=>?_;go_simp;refine(vN tm (by have:=d7.o;unfold YC;omega) v l8.2 j7).m ?_;rintro e w8 ⟨r8,rfl,j2,m8,f5⟩;obtain rfl:r8=ln:=ZbH<|j2.trans j1.symm;have j3:U<|BW A w8:=I<|V.trans<|f5.mono V.size;have f6:=I<|c7.below f5;obtain⟨gk8,_⟩:=i0.o _ j3.o;have a1:∀W,(Op.stringOp .add rr r8).run prog W=.ok (.string<|rr++r8) W:=λW=>XW W _ _ X;have j9:(rr++r8:BA).size<=2000000000001*(k+1):=by rw[Y9];omega
         have l9:U<|bl (rr++r8)=VX (ls++[U8 tm v])/\(ls++[U8 tm v]).length=k+1:=I ⟨by rw[CY,PT,l4.o,j1.o],by rw[Yx,H.2];rfl⟩;clear f5 j2;go_simp;refine hK.out _ _ ⟨gk8,f6.cell 0,f6.cell 1,f6.cell 2⟩ λd=>?_;clear hK K gk8;try simp only[Act.put,Yt]
         refine Za 8 d (h:=?_);refine ZS Kr Kr C Kr λK hK=>?_;go_simp;refine hK.out _ _ ?_;clear hK K a1;go_wp2;go_roundw;case rel=>exact⟨k+1,f1,_,_,X,by go_num,C,C,k8,j9,i5,l9,j3⟩
         case measure=>simp[intOf];omega
      .obtain rfl:k=ts.length:=X;have HX:U<|UE (bl q) (bl s) f l st fu=(bl r,0,0):=I<|by
        have h1:=g7.o;rw[X1]at h1;rw[M.o,h1,H.1]
       have e1:U<|BW w wr:=I<|O.trans<|Q.mono O.size;go_wp2;go_ret3;exact⟨r,0,0,C,HX,e1.o⟩
  .have M:U<|UE (bl q) (bl s) f l st fuel=([],lc,lp):=I<|G.o _<|by rw[Ye hc]
   have m9:((lc:Int) !=0)=true:=by rw[Vg];omega
   clear b6 G g1;go_wp2;go_ret3;exact⟨_,lc,lp,C,M,b7.o⟩
