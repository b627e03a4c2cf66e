/- Parts. -/
import Derived.Test.YtmfnolgpaoldpaaGreatDoorW42
import Derived.Test.YtmfnolgpaoldpaaGreatDoorW36
set_option linter.all false
set_option maxRecDepth 100000
set_option maxHeartbeats 16000000
namespace Go.Proofs.YtmfnolgpaoldpaaGreatDoor
open Go.RowKit LS Go.Proofs.Tryz
variable {t:Int}{l:LB}{vs xs:List Value}{gb gx mb n sc sn:Nat}{A:Nat->Addr}{r x:Nat×Nat}{sa:Option Addr}{al c0 c1 c2 c3 err v:Value}{w w' w0:World}
def MO(A:Nat->Addr)(o:Option<|List (LB)×Nat)(r:BA)(err:Value):Prop:=match o with
 |none=>r=⟨#[]⟩/\err=.iface 469 (.pointer<|some<|A 12)
 |some z=>bl r=VX z.1/\err=.nilIface
theorem nq(j:Nat)(y:Cl)(c:UW.jx.getD j none=some y):False:=by
 have d:(List.replicate 16 (none:Option Cl)).getD j none=none:=by rw[Y0,O3];split<;>rfl
 have a:=c;unfold UW at a;rw[d]at a;cases a
structure X7 (w0 w:World)(mb x gb gx:Nat)(c0 c1 c2 c3 al:Value)(t:Int)(sa:Option Addr)(sn sc:Nat)(vs:List Value):Prop where
 st:Un w w0.heap.size mb c0 c1 c2 c3 al t (.map<|some x) (Vp gb) sa sn sc vs
 mp:∃gs es cl,XI w x gs es cl
 gr:Ya w gb [.map<|some gx] 306
 gm:XN w gx
 bel:BW w0 w
 lm:w0.heap.size<=mb
 lx:w0.heap.size<=x
 lg:w0.heap.size<=gx
 ne:x≠gx
theorem YE.idle{a:World}{x:Nat}{ser:List YY}{m:MQ}(h:YE w0 a w mb x gb gx c0 c1 c2 c3 al t ser m sa sn sc vs):X7 w0 w mb x gb gx c0 c1 c2 c3 al t sa sn sc vs.reverse:=by
 obtain⟨gs,es,cl,c,_⟩:=h.slo;exact⟨h.st,⟨gs,es,cl,c⟩,h.gr,h.gm,h.bel,h.lm,h.lx,h.lg,h.ne⟩
theorem X7.below{x:Nat}(h:X7 w0 w mb x gb gx c0 c1 c2 c3 al t sa sn sc vs)(a:BW w w'):X7 w0 w' mb x gb gx c0 c1 c2 c3 al t sa sn sc vs:=by
 obtain⟨gs,es,cl,c⟩:=h.mp;exact⟨h.st.below a,⟨gs,es,cl,c.moved<|a.block x (Xr.1 c.heap).1⟩,h.gr.below a,h.gm.below a,h.bel.trans<|a.mono h.bel.size,h.lm,h.lx,h.lg,h.ne⟩
theorem X7.grown{x:Nat}(h:X7 w0 w mb x gb gx c0 c1 c2 c3 al t sa sn sc vs)(a:w.ownsRow w0.heap.size 9 1 v n xs)(c:w.grownBy w' v.ownBlock):X7 w0 w' mb x gb gx c0 c1 c2 c3 al t sa sn sc vs:=by
 obtain⟨gs,es,cl,d⟩:=h.mp;obtain⟨es2,cl2,e⟩:=h.gm;exact⟨⟨h.st.box.ownGrownR a c N,GO h.st.own a c N,h.st.len⟩,⟨gs,es,cl,d.moved<|c.block x (Xr.1 d.heap).1<|Fw d.heap a⟩,h.gr.ownGrownR a c N,⟨es2,cl2,(c.block _ (Xr.1 e).1<|Fw e a).trans e⟩,h.bel.grown c h.bel.size λq f=>(a.lt q f).1,h.lm,h.lx,h.lg,h.ne⟩
theorem X7.begun{x:Nat}{t2:Int}{cl:Nat}(h:X7 w0 w mb x gb gx c0 c1 c2 c3 al t sa sn sc vs)(ser:List YY)(i:Un w' w0.heap.size mb c0 c1 c2 c3 al t2 (.map<|some x) (Vp gb) sa 0 sc [])(l:XI w' x [] #[] cl)(f:w'.os=w.os/\w'.tape=w.tape/\w'.output=w.output/\w.heap.size<=w'.heap.size/\∀k,k≠mb->k≠x->w'.heap[k]?=w.heap[k]?):YE w0 w w' mb x gb gx c0 c1 c2 c3 al t2 ser UW sa 0 sc []:=by
 obtain⟨k1,k2,k3,k4,k5⟩:=f;obtain⟨es,cg,g⟩:=h.gm;obtain⟨_,es0,cl0,m⟩:=h.mp;have a:V7 w _:=λb c T fr n _ d=>(k5 b (λe=>by
  rw[e]at d;have:=d.symm.trans h.st.box;injection this with this;injection this with _ this _;exact n this) λe=>Fv m.heap d e.symm).trans d;exact⟨i,⟨[],#[],cl,l,λj y a=>(nq j y a).elim⟩,a _ _ _ _ N N h.gr,⟨es,cg,(k5 _ (Fv g h.st.box) λe=>h.ne e.symm).trans g⟩,trivial,⟨k1.trans h.bel.os,k2.trans h.bel.tape,k3.trans h.bel.output,Xb h.bel.size k4,λk f=>(k5 k (by have:=h.lm;omega)<|by have:=h.lx;omega).trans<|h.bel.block k f⟩,h.lm,h.lx,h.lg,h.ne,a⟩
theorem im{co:Yb}(L:List Ah){ss:List YU}{ts:List Int}{fuel:Int}{tv:Value}(A:Nat->Addr)(mx:Int)(hv:YC w A mx)(hc:Vo w co ss c0 c1 c2 c3 al)(g5:T7 co)(g6:VC co L)(l8:co.jz.length<=65535)(c7:∀x∈co.jz,x.1<=13/\x.2<65536)(p1:ts.length<=50)(g7:∀t∈ts,-1000000<=t/\t<=1000000)(a6:w.ownsRow 0 3 1 tv ts.length<|ts.map<|Value.int .i64)(hp:Vw w)(hB:20<=w.heap.size):
 CP 25 #[.agg #[c0,c1,c2,c3],al,tv,E fuel] w λe w'=>∃r err,e=.returned (.tuple #[.string r,err])/\Hid (MO A (if fuel<0∨1000000<fuel then none else VK (ss.map YU.ser) co fuel.toNat ts) r err)/\BW w w':=by
 obtain⟨i0,hi,g8,g9,i1⟩:=Xv Tryz.infoStrG;obtain⟨ta,tcp,rfl⟩:=Zd a6;obtain⟨aa,acp,rfl⟩:=Zd hc.sto.row;obtain⟨ia,ic,rfl⟩:=Zd hc.cod.is;have HV:=I hv;have HC:=I hc;have l9:=I g5;have J:=I g6;have l0:=I c7;have m0:=I g7;have c8:=I a6;have HP:=I hp;have i2:=I hB;have g12:w.cell? ⟨12,0,none⟩=some _:=hv.sent _ N;have c9:=Xi _ _ g12;simp only at c9;have l1:¬w.heap.size=12:=X;have g3:¬12=w.heap.size:=X;clear hv hc g5 g6 c7 g7 a6 hp hB;generalize ho:(if fuel<0∨1000000<fuel then none else VK (ss.map YU.ser) co fuel.toNat ts)=o;have Q:=I ho;clear ho;go_enter func25,ntmps25;go_wp2;go_step3;by_cases a9:fuel<0∨1000000<fuel
 .have i3:Hid<|o=none:=I<|by rw[<-Q,Ye a9]
  clear Q;rcases a9 with hf|hf
  .go_wp2;go_region;all_goals(try go_wp2)
   all_goals((try rw[QS]);go_ret2;exact⟨_,_,C,I<|i3.out▸⟨C,C⟩,Yh⟩)
  .have m1:¬fuel<0:=X;go_wp2;go_region;all_goals(try go_wp2)
   all_goals((try rw[QS]);go_ret2;exact⟨_,_,C,I<|i3.out▸⟨C,C⟩,Yh⟩)
 .rw[Yd a9]at Q;obtain⟨fu,rfl⟩:∃fu:Nat,fuel=fu:=⟨fuel.toNat,X⟩;have l2:fu<=1000000:=X;have m1:¬(fu:Int)<0:=X;have i4:¬(1000000:Int)<(fu):=X;have p2:¬1000000<fu:=X;clear a9;rw[Int.toNat_natCast]at Q;go_wp2_with fail;refine Zv λW hW=>?_;have i5:Below _ w W:=hW▸Yc;have d0:Hid<|Ya W _ _ 80:=hW▸(show Ya _ _ _ _ from YO);have B:=I i5;clear hW i5;refine(jT W W.heap.size).mono ?_;rintro e w1 ⟨mb,rfl,P⟩;have m2:=I<|d0.below P.below;obtain⟨x,gb,gx,i6,Z,i7,i8,lx,lgb,lgx,d2⟩:=P.ex;have d3:Hid<|X7 W _ _ x _ _ _ _ _ _ _ 0 _ 0 0 _:=I ⟨i6,⟨_,_,_,Z⟩,i7,i8,P.below,P.old,lx,lgx,d2⟩;clear i6 Z i7 i8 lx lgb lgx d2 P;have d4:=I<|HC.below B;have Y:=I<|Ze c8 B;have m3:=I<|HV.below B;have m4:=I<|HP.low B i2;have i9:=I<|Xb i2 B.size;have d5:=I d0.out;clear HC c8 HV HP d0 m2 g12 c9 l1 g3;have j0:=d3.bel.size;go_wp2_with(at_make;refine Kx _ C _ _ 57 C W.heap.size 9 i0 _ 1 underlying57 hi g8 g9 _ _ _ ts.length C C C ?b2 ?b3 ?b4 ?_);case b2=>rw[i1];omega
  case b3=>unfold maxLen;omega
  case b4=>exact j0
  intro w2 b0 j;have j1:Below _ _ _:=⟨j.os,j.tape,j.output,j.size,λk hk=>j.block k hk Sm⟩;have d6:=I<|d3.below j1;have j2:=I b0;clear j1 j b0 d3 j0;obtain⟨n,hn⟩:∃n,n=co.jz.length:=⟨_,C⟩;have P:=I hn;rw[<-hn]at l8;rw[<-hn]at d6 d5⊢;have m5:Hid<|W.ownsRow 0 137 2 (.slice ia n ic) n<|SS co.jz:=I<|by rw[hn];exact d4.cod.is
  have b1:Hid<|Vo W co ss c0 c1 c2 (.slice ia n ic)<|.slice aa ss.length acp:=I<|by rw[hn];exact d4.out
  clear hn d4;generalize w.heap.size=xb at d5⊢;go_wp2;go_step3;go_wp2;go_loopw [3,11,31] (λfv lv kv wr=>∃(k fk:Nat)(rs:List BA)(t:Int)(sa:Option Addr)(sn sc:Nat)(vs:List Value),k<=ts.length/\kv=E k/\fv=E fk/\fk<=1000000/\rs.length=k/\Hid (wr.ownsRow W.heap.size 9 1 lv rs.length<|TE rs)/\Hid (VK (ss.map YU.ser) co fu (ts.take k)=some (rs.map bl,fk))/\Hid (∀r∈rs,r.size<=40000000000)/\Hid (X7 W wr mb x gb gx c0 c1 c2 (.slice ia n ic) (.slice aa ss.length acp) t sa sn sc vs)) (λ_ _ kv _=>ts.length-(intOf kv).toNat);case atStart=>exact⟨0,fu,[],0,_,_,_,_,Yr _,C,C,l2,C,j2,I C,I (λr hr=>by cases hr),d6⟩
  case round=>
   clear d6 j2;obtain⟨k,fk,rs,t,sa,sn,sc,vs,hk,rfl,rfl,m6,j3,HO,d7,HZ,HD⟩:=hrel;have R:=I j3;clear j3;by_cases d8:k<ts.length
   .obtain⟨tg,tcp',m7⟩:=Zm Y.out X;injection m7 with htg1 _ htg2;subst htg1 htg2;have d1:=Zc (Ze Y HD.bel) k _<|by rw[Vt,List.getElem?_eq_getElem d8];rfl
    have d9:=I<|m0 _<|List.getElem_mem d8;have a2:Hid<|VK (ss.map YU.ser) co fu (ts.take<|k+1)=match Xf (ss.map YU.ser) ts[k] co fk 0 UW with
     |none=>none
     |some z=>some (rs.map bl++[U9 ts[k]<|TL z.2],z.1):=by rw[List.take_succ_eq_append_getElem d8,Jj,d7];rfl
    generalize ts[k]=tm at*;have p3:(k:Int)<(ts.length):=X;have m8:=ZN<|Ze Y HD.bel;go_wp2;go_step3;go_wp2_with fail;obtain⟨gs,es,cl,Z⟩:=HD.mp;refine(lG x t HD.st Z).mono ?_;rintro e w4 ⟨rfl,j4,j5,j6⟩;have e0:=I<|HD.begun (ss.map YU.ser) j4 j5 j6;have m9:=I<|e0.ky.own HO N N;have j7:=I e0.re;clear j4 j5 j6 e0 Z HD HO d1 m8 d7;go_wp2;go_step3;go_wp2;obtain⟨L3,e1⟩:∃L3,L3=u11:=⟨_,C⟩;go_loopw [3,11,14] (λfv lv iv wq=>∃(i f1:Nat)(m:MQ)(sa1:Option Addr)(sn1 sc1:Nat)(vs1:List Value),lv=L3/\i<=n/\iv=E i/\fv=E f1/\f1<=1000000/\Hid (Xf (ss.map YU.ser) tm co fk 0 UW=Xf (ss.map YU.ser) tm co f1 i m)/\Hid ((L.getD i Ys).kj=true/\YV (ss.map YU.ser).length (L.getD i Ys).jy (L.getD i Ys).jx m/\m.jy.length<=64)/\Hid (YE W wq wq mb x gb gx c0 c1 c2 (.slice ia n ic) (.slice aa ss.length acp) tm (ss.map YU.ser) m sa1 sn1 sc1 vs1)/\Hid (wq.ownsRow W.heap.size 9 1 L3 rs.length<|TE rs)) (λ_ _ iv _=>n-(intOf iv).toNat);case atStart=>exact⟨0,fk,UW,sa,0,sc,[],e1.symm,Yr _,C,C,m6,I C,I ⟨(J.start (ss.map YU.ser).length).1,(J.start _).2,Yr _⟩,j7,by rwa [e1]⟩
    case round=>
     clear j7 m9;obtain⟨i,f1,m,sa1,sn1,sc1,vs1,e3,p4,rfl,rfl,i4,S,c,d,l⟩:=hrel;subst e3;subst e1;obtain⟨la,lc,rfl⟩:=Zd l;have T:=I<|B.trans<|d.bel.mono B.size;have e2:=I<|d5.below d.bel;have b3:=e2.cell;have j8:=e2.lt;have s:=I<|Ze m5 d.bel;clear e2;by_cases p5:i<n
     .have D:i<co.jz.length:=by rwa [<-P.out]
      cases f1 with
      |zero=>
       have HX:=I<|zu<|by rw[a2,S,BO D]
       have g12:wr.cell? ⟨12,0,none⟩=some _:=(m3.below d.bel).sent _ N;have l3:¬((i:Int)=(n)):=X;have n0:(rs.length:Int)<(ts.length):=by have:=R.out;omega
       clear S c d s l a2;go_wp2;rw[Exit.noGoto_exit];go_wp2;go_region;all_goals(try go_wp2)
       all_goals((try rw[QS]);go_ret2;exact⟨_,_,C,I<|Q.out▸HX.out▸⟨C,C⟩,T.drew⟩)
      |succ f2=>
       have d2:¬(((f2+1:Nat):Int)=0):=X;have o9:¬(((f2:Int)+1)=0):=X;have l3:¬((i:Int)=(n)):=X;have p6:(i:Int)<(n):=X;obtain⟨op,arg,b5⟩:∃op arg,co.jz[i]?=some (op,arg):=⟨_,_,List.getElem?_eq_getElem D⟩;have b6:co.jz.getD i (0,0)=(op,arg):=by rw[Y0,b5];rfl
       have j9:co.jz[i]=(op,arg):=(RX.1 b5).2;have e4:=(l0.out (op,arg)<|QY b5).1;obtain⟨_,st1,sl1,a7,_,_⟩:=J.step i D c.1;have f:=J.next b1.dst tm D (b6▸e4) c.1 c.2.1;have a8:=J.len b1.dst tm D (b6▸e4) c.1 c.2.1 c.2.2;have e5:=J.fwd i D;have e6:=BN (ss.map YU.ser) tm _ f2 i m D;rw[b6]at a7 f a8 e5 e6;have n2:(L.getD i Ys).jy.length<=64:=by rw[<-c.2.1.jy,Yz];exact c.2.2
       obtain⟨gi,ic',n3⟩:=Zm s.out X;injection n3 with hgi1 _ hgi2;subst hgi1 hgi2;have q0:=Zc s _ _ (SA _ i D).1;have q1:=Zc s _ _ (SA _ i D).2;rw[j9]at q0 q1;simp only at q0 q1;have l4:=ZN s;have p:Hid<|Xf _ _ _ _ 0 _=Xf _ _ _ f2 _ _:=I<|by rw[S,e6]
       have g:=I<|And.intro f.2.2.1<|And.intro f.2.2.2 a8;have a3:=f.1;have G:UH i _ m<=n:=P.out▸f.2.1;have F:=I a7;have a4:=I e5;clear a7 f a8 e5 e6 b6 b5 S j9 s T a2;go_upto_region 15 with fail;refine Zs λW5 e7=>?_;have U:Below _ _ _:=e7▸Yc;have V:Hid<|Ya _ _ _ 137:=e7▸(show Ya _ _ _ _ from YO);have H:=I<|d.below U;have b7:=I<|Ze l U;clear e7 U b3 j8 q0 q1 l4;generalize wr.heap.size=ab at*;have a0:=V.cell 0;have a1:=V.cell 1;simp only[Yf]at a0 a1;have e8:=V.lt;by_cases h9:op=9
       .subst h9;have K:Hid<|Xf _ _ _ _ 0 _=Xf _ _ _ _ arg m:=p;have M:Hid<|(L.getD arg _).kj=true/\YV _ (L.getD arg _).jy (L.getD arg _).jx m/\m.jy.length<=64:=g;have p7:i<arg:=a3;have n4:arg<=n:=G;have q:=I H.re;clear p g a3 G d l H F a4 c;go_wp2;go_roundw;case rel=>exact⟨arg,f2,m,sa1,sn1,sc1,vs1,C,n4,C,by go_num,X,K,M,q,b7⟩
        case measure=>simp[intOf];omega
       .have p8:¬((op:Int)=9):=X;by_cases e9:op=10
        .subst e9;have n5:∃v ys,m.jy=.inl (.inr v)::ys:=by
          have hs:=F.out;have hT:=c.2.1;generalize(L.getD i Ys).jy=st at hs hT;cases st with
         |nil=>cases hs
         |cons kk r=>
          simp only[Zr]at hs;split at hs
          .rename_i n6;subst n6;obtain⟨y,rs',hm,hy,_,_⟩:=hT.pop;obtain⟨v,rfl⟩:=Lb hy;exact⟨v,rs',hm⟩
          .cases hs
         obtain⟨v,ys,hm⟩:=n5;obtain⟨v1,vs',n1,rfl,rfl,n7,f0⟩:=H.top hm;have l5:n1<=64:=by have:=c.2.2;rw[hm,Y1]at this;omega
         obtain⟨s1,is1,rfl,f3⟩:=n7;obtain⟨va,vc,rfl⟩:=Zd f3.row;have n8:=f3.len';clear f3;go_wp2_with fail;refine(lS (by have:=H.st;rwa [Sf]at this) l5).mono ?_;rintro e w6 ⟨rfl,b8⟩;have q:=I (H.below b8).re;have b9:=I<|Ze b7 b8;have k0:=I<|V.below b8;clear b8 H b7 V a0 a1 e8;have a1:=k0.cell;have e8:=k0.lt;have c6:Mc m=!v.isEmpty:=by unfold Mc;rw[hm];rfl
         by_cases h0:is1.length=0
         .have f4:v=[]:=Qr X;have f:UH i (10,arg) m=i+1:=by unfold UH;simp only;rw[Yd N,Yd<|by rw[c6,f4];simp]
          rw[f]at p g G;have K:Hid<|Xf _ _ _ _ 0 _=Xf _ _ _ _ _ m:=p;have M:Hid<|(L.getD _ _).kj=true/\YV _ _ _ m/\m.jy.length<=64:=g;rw[Wl X];clear p g a3 d l F a4 c hm f c6;go_wp2;go_roundw;case rel=>exact⟨i+1,f2,m,_,_,_,_,C,G,by go_num,by go_num,X,K,M,q,b9⟩
          case measure=>simp[intOf];omega
         .have f4:v.isEmpty=false:=by
           cases v with
          |nil=>exact absurd n8.symm h0
          |cons a b=>rfl
          have f:UH i (10,arg) m=arg:=by unfold UH;simp only;rw[Yd N,Ye ⟨trivial,by rw[c6,f4];rfl⟩]
          rw[f]at p g G a3;have K:Hid<|Xf _ _ _ _ 0 _=Xf _ _ _ _ _ m:=p;have M:Hid<|(L.getD _ _).kj=true/\YV _ _ _ m/\m.jy.length<=64:=g;rw[WI X];clear p g d l F a4 c hm f c6;go_wp2;go_roundw;case rel=>exact⟨arg,f2,m,_,_,_,_,C,G,C,by go_num,X,K,M,q,b9⟩
          case measure=>simp[intOf];omega
        .have p0:¬((op:Int)=10):=X;have f:UH i (op,arg) m=i+1:=by unfold UH;simp only;rw[Yd h9,Yd λhh=>e9 hh.1]
         have k1:=I<|lH H b1 l9 d9.1 d9.2 e4 h9 e9 a4 c.2.1 n2 F;rw[f]at p g G;clear a3 d F a4 c H b7;go_wp2_with fail;refine k1.mono ?_;rintro e w6 ⟨rfl,O⟩;obtain⟨sa6,sn6,sc6,vs6,f5⟩:=O.out;have b9:=I<|f5.ky.own l N N;have q:=I f5.re;clear f5 O k1 l V a0 a1 e8;go_wp2;go_roundw;case rel=>exact⟨i+1,f2,_,sa6,sn6,sc6,vs6,C,G,by go_num,by go_num,X,p,g,q,b9⟩
         case measure=>simp[intOf];omega
     .obtain rfl:i=n:=X;have k2:co.jz.length<=i:=P.out▸Yj _;obtain⟨v,hv,k3⟩:=J.end_ (n:=(ss.map YU.ser).length) (m:=m)<|by have:=c.2.1;rw[P.out]at this;exact this
      have f6:=WG.more (by rw[Yz];exact b1.sto.len) k3;have f7:TL m=v:=by unfold TL;rw[hv];rfl
      have k4:Hid<|VK _ _ _ _=some (rs.map _++[U9 _ v],f1):=I<|by rw[a2,S,BM k2,<-f7]
      have k5:=I f6;obtain⟨mst,msl⟩:=m;simp only at hv;subst hv;obtain⟨v1,vs',n1,rfl,rfl,_,f0⟩:=d.top C;have n9:n1<=64:=f0▸Yr _;clear c S k2 k3 f6 f7 a2 s f0 T;go_wp2_with fail;refine(OK _ _ _ _ (by have:=d.st;rwa [Sf]at this) n9).mono ?_;rintro e w6 ⟨rfl,q,f8⟩;have f9:=I (d.qx q f8).1;have k6:Hid<|Vr _ _ v:=I (d.qx q f8).2;have k7:=I<|f9.ky.own l N N;have O:=I f9.idle;clear q f8 d l f9 b3 j8;go_wp2_with fail;refine(nR (by have:=d9.out;unfold YD;omega) v k6 k5 (m4.low O.bel i9)<|Xb i9 O.bel.size).mono ?_;rintro e w7 ⟨r7,rfl,k8,k9,g0⟩;have g1:=I<|Ze k7 g0;have g2:=I<|O.below g0;have o0:=I k9;have o1:=g2.bel.size;clear g0 k9 k7 O k6 k5;go_wp2_with(at_builtin;refine XC _ C (.tmp 43) (.tmp 48) 57 C W.heap.size 9 i0 (.string ByteArray.empty) 1 16 underlying57 hi g8 g9 i1 C N _ _ _ C (g1.alloc _) ⟨w7.heap.size,0,none⟩ 1 1 [.string r7] C C ?c1 ?c2 ?c3 ?c4 ?c5 ?_);case c1=>exact Z1 C
      case c2=>intro u hu;simp at hu;subst hu;rfl
      case c3=>have:=R.out;unfold maxLen;omega
      case c4=>have:=R.out;omega
      case c5=>simp;omega
      intro v8 w8 g4 a5 _;have o2:Hid<|w8.ownsRow W.heap.size 9 1 v8 (rs++[r7]).length<|TE<|rs++[r7]:=by rwa [H6,Yv]
      have o3:=I<|(g2.below Yc).grown (g1.alloc _) a5;have o4:Hid<|VK _ _ _ _=some ((rs++[r7]).map bl,f1):=I<|by rw[k4,Y9,PE,k8]
      have o5:Hid<|∀r∈rs++[r7],r.size<=40000000000:=I (λr hr=>by
       rcases Wk.1 hr with h|h
       .exact HZ r h
       .rw[Vs]at h;subst h;exact o0);clear a5 g4 k4 k8 g2 g1 o1;go_wp2;rw[Exit.noGoto_exit];go_wp2;go_roundw;case rel=>exact⟨k+1,f1,rs++[r7],tm,_,_,_,_,X,by go_num,C,i4,by have:=R.out;simp;omega,o2,o4,o5,o3⟩
      case measure=>simp[intOf];omega
   .obtain rfl:k=ts.length:=X;have l6:Hid<|VK (ss.map YU.ser) co fu ts=some (rs.map bl,fk):=by have:=d7.out;rwa [X1]at this
    obtain⟨la,lc,o6⟩:=Zd HO;subst o6;have n0:¬((rs.length:Int)<(ts.length)):=by have:=R.out;omega
    have l7:rs.length<=50:=by have:=R.out;omega
    have T:=I<|B.trans<|HD.bel.mono B.size;go_wp2_with fail;refine(oA HO l7 HZ).mono ?_;rintro e w5 ⟨r5,rfl,o7,U⟩;have o8:=I<|T.trans<|U.mono T.size;clear U;go_wp2;try rw[QS]
    go_ret2;exact⟨_,_,C,I<|Q.out▸l6.out▸⟨o7.out,C⟩,o8⟩
theorem Bl:∀(xs:List<|LB)(last:Int)(n m:Nat),Vk last n xs=some m->(∀x∈xs.map UJ,last<x.1)/\Ru (xs.map UJ)/\m=n+xs.length
 |[],last,n,m,h=>by
  simp only[Vk,Q1]at h;exact⟨(λx i=>by cases i),List.Pairwise.nil,by simp[h]⟩
 |x::xs,last,n,m,h=>by
  unfold Vk at h;cases c:Tw x with
  |none=>simp_all
  |some t=>
   rw[c]at h;simp only at h;split at h
   .cases h
   · rename_i k;obtain⟨i1,i2,i3⟩:=Bl _ t _ m h;have f:(UJ x).1=(t):=by
       unfold Tw at c;unfold UJ;cases j:cut 58 x with
    |none=>simp_all
    |some p=>
      obtain⟨a,d⟩:=p;rw[j]at c;simp only at c⊢;cases g:ZC 1000000 a with
     |none=>simp_all
     |some tm=>
      rw[g]at c;simp only at c;split at c
      .rw[RB g];simp_all
      simp_all
     refine⟨λy e=>?_,?_,by simp;omega⟩
     · rcases X0.1 e with rfl|e
       .omega
       .have:=i1 y e;omega
     .exact Rg.2 ⟨λy e=>f▸i1 y e,i2⟩
theorem iM{z:LB}(h:VI z=some n):Ru (Qd z)/\(Qd z).length=n:=by
 unfold VI at h;cases z with
 |nil=>simp at h;exact⟨List.Pairwise.nil,by assumption⟩
 |cons c t=>
  by_cases a:(c==32)=true
  .have d:Z6 _ (c::t)=(t,true):=Ye a;rw[d]at h;simp only[reduceCtorEq,Q2,VE]at h;obtain⟨_,e,f⟩:=Bl _ _ _ _ h;exact⟨e,by simp[Qd,f]⟩
  .have d:Z6 _ (c::t)=(c::t,false):=Yd a;simp_all
theorem Fm{nm d:LB}(h:Y3 l=some (nm,d,n)):Zx nm=true/\(Wp d).isSome=true/\Ru (Uw l)/\(Uw l).length=n:=by
 cases c:cut 123 l with
 |none=>rw[Lz c]at h;cases h
 |some p=>
  obtain⟨x,r⟩:=p;cases a:cut 125 r with
  |none=>rw[Mq c a]at h;cases h
  |some q=>
   obtain⟨y,z⟩:=q;rw[Mr c a]at h;split at h
   .rename_i e;rw[Vu]at e;cases f:VI z with
    |none=>simp_all
    |some k=>
     rw[f]at h;simp only[Wr,Q1,M1]at h;obtain⟨rfl,rfl,rfl⟩:=h;have:=iM f;rw[Bm e.1 c a];simp_all
   .cases h
theorem gT{l:List<|Int×Int}(h:w.ownsRow 0 315 2 (.slice sa n sc) n<|ZQ l)(f:l.length=n):XO w sa l/\n<=sc:=by
 by_cases a:l=[]
 .subst a;refine⟨.inl C,?_⟩;simp_all;omega
 .have r:0<n:=f▸QZ.2 a;rcases h.2 with⟨_,e⟩|⟨g,cap,cur,e,_,k,m,_,_,o⟩
  .omega
  .injection e with e1 _ e3;subst e1 e3;refine⟨.inr ⟨g,0,C,cur,(0,0),k,λj p=>?_⟩,m⟩;have c:=Lt l j;rw[List.getElem?_eq_getElem p]at c;have d:∀i,i<n*2->cur[i]?=(ZQ l)[i]?:=λi q=>by
     rw[<-o,Kj,Ye q,QW]
   rw[SK,d _ X,d _ X];exact c
theorem rj(zs:List YU)(rs:List<|Value×Value×Value×Value)(d:rs.length=zs.length)(h:∀j (f:j<zs.length),rs[j]?=some (.string zs[j].nm,.slice zs[j].a zs[j].n zs[j].c,.string zs[j].tx,.slice zs[j].sa zs[j].jm.length zs[j].sc)):Sr zs=Uh rs:=by
 induction zs generalizing rs with
 |nil=>cases rs with
  |nil=>rfl
  |cons _ _=>simp at d
 |cons z zs ih=>
  cases rs with
  |nil=>simp at d
  |cons r rs=>
   have e:=h 0 Sm;simp only[Qp,List.getElem_cons_zero,Q1]at e;subst e;rw[Uh,<-ih _ (by simp_all) λj f=>by have:=h (j+1) (by simp_all);assumption];rfl
theorem sF(rs:List<|Value×Value×Value×Value):(Uh rs).length=rs.length*4:=by
 induction rs with
 |nil=>rfl
 |cons r rs ih=>simp only[Uh,Y1,ih];omega
theorem ma{es:List Yn}(h:(ZG l).1=0)(a:ZT 0 [] (split 10 l)=.inr es):Ut [] es=none/\l.length<=6000:=by
 unfold ZG at h;split at h
 .cases h
 .rename_i c;rw[a]at h;simp only at h;rw[AG a]at h;cases hd:Ut [] es with
  |none=>simp_all
  |some i=>simp_all
theorem NK.sto(B:(ZG l).1=0)(h:NK w v l):∃ss:List YU,Up w v ss/\ss.map YU.ser=Qh l/\Sx (ss.map YU.ser)/\ss.length<=30:=by
 obtain⟨es,rs,q,S,D,r⟩:=h;obtain⟨hd,L⟩:=ma B q;have T:∀j (d:j<es.length),(es[j]).count<=6001:=λj d=>(Fp q Sm λp F=>by
  obtain⟨i,s,rfl⟩:=List.mem_iff_getElem.1 F;have:=OU _ l i s;simp_all;omega).2 _<|List.getElem_mem _;have M:rs.length=es.length:=by have:=D.1;rw[sF]at this;omega
 have u:=Gy (λj(z:YU)=>∃d:j<es.length,rs[j]?=some (.string z.nm,.slice z.a z.n z.c,.string z.tx,.slice z.sa z.jm.length z.sc)/\z.ser=Sv (split 10 l) es[j]/\Sa w z) es.length (λj d=>by
  obtain⟨nm,a,n,c,tx,sa,sc,e1,⟨O,qs,g1,g2,g3,g4,g5⟩,e3⟩:=r j d;rw[e3]at g1;simp only[Q1,M1]at g1;obtain⟨b1,b2,_⟩:=g1;obtain⟨c1,c2,c3,c4⟩:=Fm e3;have U:n=qs.length:=by obtain⟨_,_,e⟩:=Zd g3.1;injection e
  obtain⟨s1,s2⟩:=gT g5 c4;have t:(qs.map Xt).length<=6001:=by rw[Yz];exact g3.2.1
  refine⟨⟨nm,a,n,c,tx,qs,sa,sc,Uw<|(split 10 l).getD (es[j]).at_ []⟩,d,?_,?_,?_⟩
  .simp_all
  .show(⟨bl nm,qs.map Xt,Uw<|(split 10 l).getD (es[j]).at_ []⟩:YY)=⟨(es[j]).name,(Wp (es[j]).inside).getD [],Uw<|(split 10 l).getD (es[j]).at_ []⟩;simp_all
  .exact⟨⟨by simp_all,by rw[g4];exact Fh qs,pw g2 t⟩,s1,c3,by simp_all,by simp_all,Bn⟩);obtain⟨zs,P,f⟩:=u;have m:Qh l=es.map (Sv<|split 10 l):=by unfold Qh;rw[q]
 have o:zs.map YU.ser=Qh l:=by
  rw[m];refine List.ext_getElem (by simp_all) λj Q R=>?_;rw[List.getElem_map,List.getElem_map];exact(f j<|by simp_all).2.2.1
 refine⟨zs,⟨?_,λz G=>?_,X⟩,o,?_,X⟩
 .have:=rj _ _ X λj d=>(f j _).2.1;simp_all
 .obtain⟨j,d,rfl⟩:=List.mem_iff_getElem.1 G;exact(f j _).2.2.2
 .rw[o,m];unfold Sx;rw[Rx];refine NW ?_ (Ho _ _ hd).1;intro a b H J x A;obtain⟨i,s,rfl⟩:=List.mem_iff_getElem.1 H;obtain⟨k,K,rfl⟩:=List.mem_iff_getElem.1 J;obtain⟨_,_,_,_,_,_,_,_,_,e1⟩:=r i s;obtain⟨_,_,_,_,_,_,_,_,_,e2⟩:=r k K;obtain⟨n1,l1,_⟩:=Fm e1;obtain⟨n2,l2,_⟩:=Fm e2;obtain⟨p1,l1⟩:=MV.1 l1;obtain⟨p2,l2⟩:=MV.1 l2;refine x<|(Hf n1 n2).2 ⟨A.1,?_⟩;have g:=A.2;unfold Sv at g;simp only[l1,l2,Qu]at g;rw[Jq l1,Jq l2]at g;exact g
theorem ZF.cells{p:Int}{a:Addr}(h:ZF w v p a):∃fa:Nat,v=.iface 92 (Vp fa)/\w.cell? ⟨fa,1,none⟩=some (E p)/\w.cell? ⟨fa,2,none⟩=some (.iface 469<|.pointer<|some a):=by
 obtain⟨fa,d,c⟩:=h;exact⟨fa,d,by simp[World.cell?,c],by simp[World.cell?,c]⟩
def Ld(w:World)(A:Nat->Addr)(err:Value)(c p:Nat):Prop:=
 (err=.nilIface/\c=0/\p=0)∨
 (err=.iface 469 (.pointer<|some<|A 0)/\c=1/\p=0)∨
 (err=.iface 469 (.pointer<|some<|A 3)/\c=4/\p=0)∨
 (err=.iface 469 (.pointer<|some<|A 6)/\c=7/\p=0)∨
 (err=.iface 469 (.pointer<|some<|A 7)/\c=8/\p=0)∨
 (∃fa:Nat,err=.iface 92 (Vp fa)/\w.cell? ⟨fa,1,none⟩=some (E p)/\
  ((c=2/\w.cell? ⟨fa,2,none⟩=some (.iface 469<|.pointer<|some<|A 1))∨
   (c=3/\w.cell? ⟨fa,2,none⟩=some (.iface 469<|.pointer<|some<|A 2))∨
   (c=5/\w.cell? ⟨fa,2,none⟩=some (.iface 469<|.pointer<|some<|A 4))∨
   (c=6/\w.cell? ⟨fa,2,none⟩=some (.iface 469<|.pointer<|some<|A 5))))
theorem Ld.rd{r:Except (Nat×Nat) Tr}{pv:Value}(f:r=.error x)(h:WU w (A 0) (A 1) (A 2) (A 3) r pv v):Ld w A v x.1 x.2/\∃ty u,v=.iface ty u:=by
 subst f;rcases h with⟨rfl,rfl⟩|⟨rfl,rfl⟩|⟨a,c⟩|⟨a,c⟩
 .exact⟨.inr<|.inl ⟨C,C,C⟩,_,_,C⟩
 .exact⟨.inr<|.inr<|.inl ⟨C,C,C⟩,_,_,C⟩
 .obtain⟨fa,rfl,d,e⟩:=c.cells;exact⟨.inr<|.inr<|.inr<|.inr<|.inr ⟨fa,C,d,.inl ⟨a,e⟩⟩,_,_,C⟩
 .obtain⟨fa,rfl,d,e⟩:=c.cells;exact⟨.inr<|.inr<|.inr<|.inr<|.inr ⟨fa,C,d,.inr<|.inl ⟨a,e⟩⟩,_,_,C⟩
theorem Ld.ld(h:Pa w A v r):(r.1=0/\v=.nilIface)∨(r.1≠0/\Ld w A v r.1 r.2/\∃ty u,v=.iface ty u):=by
 rcases h with⟨rfl,rfl⟩|⟨rfl,rfl⟩|⟨rfl,rfl⟩|⟨i,fa,rfl,rfl,a,c⟩|⟨i,fa,rfl,rfl,a,c⟩
 .simp
 .exact .inr ⟨Sm,.inr<|.inl ⟨C,C,C⟩,_,_,C⟩
 .exact .inr ⟨Sm,.inr<|.inr<|.inr<|.inl ⟨C,C,C⟩,_,_,C⟩
 .exact .inr ⟨Sm,.inr<|.inr<|.inr<|.inr<|.inr ⟨fa,C,a,.inr<|.inr<|.inl ⟨C,c⟩⟩,_,_,C⟩
 .exact .inr ⟨Sm,.inr<|.inr<|.inr<|.inr<|.inr ⟨fa,C,a,.inr<|.inr<|.inr ⟨C,c⟩⟩,_,_,C⟩
theorem eF(s:BA)(A:Nat->Addr)(m:Int)(w:World)(a:YC w A m)(c:s.size<=maxLen):
 CP 23 #[.string s] w λe u=>∃sv err,e=.returned (.tuple #[sv,err])/\Hid (Pa u A err<|ZG<|bl s)/\BW w u/\Hid ((ZG<|bl s).1=0->NK u sv (bl s)):=by
 by_cases h:s.size<=6000
 .exact gE s A m w a h
 .have e:ZG (bl s)=(1,0):=by unfold ZG;rw[Ye<|by rw[Zb];omega]
  rw[e];refine(gD s A m w a X c).mono ?_;rintro e' u ⟨v,err,d,f,g⟩;exact⟨v,err,d,f,g,I λh=>by cases h⟩
theorem Pa.asks{m:Int}(h:Pa w A v r)(f:YC w A m):UK w v r.1 r.2:=by
 intro W e;have a:=f.below e;have mv:∀{fa i:Nat}{u:Value},w.cell? _=some u->W.cell? ⟨fa,i,none⟩=some u:=λ{fa i u} h=>(e.cell<|Xi _ _ h).trans h;rcases h with⟨rfl,rfl⟩|⟨rfl,rfl⟩|⟨rfl,rfl⟩|⟨i,fa,rfl,rfl,c,d⟩|⟨i,fa,rfl,rfl,c,d⟩
 .exact⟨FA A m W a,GV W⟩
 .exact⟨oM A m W a,LG A m W a⟩
 .exact⟨oN A m W a,LG A m W a⟩
 .exact⟨oR A m W a<|mv d,LH A m W a<|mv c⟩
 .exact⟨oU A m W a<|mv d,LH A m W a<|mv c⟩
theorem Pa.shape(h:Pa w A v r)(a:r.1≠0):∃ty u,v=.iface ty u:=by
 rcases h with⟨rfl,rfl⟩|⟨rfl,rfl⟩|⟨rfl,rfl⟩|⟨i,fa,rfl,rfl,c,d⟩|⟨i,fa,rfl,rfl,c,d⟩
 .exact absurd C a
 .exact⟨_,_,C⟩
 .exact⟨_,_,C⟩
 .exact⟨_,_,C⟩
 .exact⟨_,_,C⟩
theorem UK.below{c p:Nat}(h:UK w err c p)(a:BW w w'):UK w' err c p:=λW d=>h W<|a.trans<|d.mono a.size
theorem mr{y:Yb×Nat×Nat}(h:Tj l=.ok y):y.1.jz.length<=65535/\∀x∈y.1.jz,x.1<=13/\x.2<65536:=by
 unfold Tj at h;cases hd:Wt l with
 |error e=>rw[hd]at h;cases h
 |ok c=>
  rw[hd]at h;simp only at h;cases a:Vl c with
  |error e=>rw[a]at h;cases h
  |ok x=>
   rw[a]at h;injection h with h;subst h;exact Hm hd
theorem rq(q s:BA)(f l st fuel:Int)(A:Nat->Addr)(m:Int)(w:World)(Y:YC w A m)(ht:Vw w)(hB:20<=w.heap.size)(hq:q.size<=maxLen)(hs:s.size<=maxLen):
 CP 11 #[.string q,.string s,.agg #[E f,E l,E st],E fuel] w λe w'=>∃(r:BA)(err:Value)(c p:Nat),e=.returned (.tuple #[.string r,err])/\Hid (UK w' err c p)/\Hid (UE (bl q) (bl s) f l st fuel=(bl r,c,p))/\BW w w':=by
 have c2:=I λW g=>me q A m W (Y.below g) (ht.low g hB) (Xb hB g.size) hq;have c3:=I λW g=>eF s A m W (Y.below g) hs;have c4:=I λW g=>iq f l st W<|(Y.below g).sent _ N;have U:=I Y;have HT:=I ht;have c5:=I hB;clear Y ht hB hq hs;go_enter func11,ntmps11;go_wp2_with fail;refine Zv λW hW=>?_;have S:Below _ w W:=hW▸Yc;have c6:Hid<|Ya W _ _ 23:=hW▸YO;refine(c2 W S).mono ?_;rintro e w1 ⟨v,n,err,rfl,HC,⟨a0,a1,a2,a3,n0,n1,n2,n3,e0,e1,e2,e3,rfl⟩,Z⟩;have a4:=I<|S.trans<|Z.mono S.size;have a5:=I<|c6.below Z;clear Z c2 S hW c6;obtain⟨a,b,c,p,rfl,HR,HA⟩:=HC.asks<|U.below a4.out;go_upto_region 2 with fail;refine Zs λW2 a6=>?_;have d:Below _ _ _:=a6▸Yc.alloc Sm _;have a7:Hid<|Ya _ _ _ 80:=a6▸(Yc.block _ Sm).trans YO;have B:=I<|a4.trans<|d.mono a4.size;have Q:=I<|a5.below d;have a8:=I<|HA.below d;have H:=I<|HC.below d;clear d a6 HA HC a5;generalize w1.heap.size=xb at a7⊢;generalize w.heap.size=sb at Q⊢;cases D:Tj (bl q)with
 |error x=>
  have i:Hid<|UE _ (bl s) f l st fuel=([],x.1,x.2):=I<|by unfold UE;rw[D]
  have k:=H.out;rw[D]at k HR;have J:(0,0,x.1,x.2)=(a,b,c,p):=HR;injection J with _ J;injection J with _ J;injection J with hr3 hr4;subst hr3 hr4;rcases Vm.shape k.2 with⟨fa,rfl⟩|rfl
  .clear k H HR;go_wp2;go_ret2;exact⟨_,_,_,_,C,a8,i,B⟩
  .clear k H HR;go_wp2;go_ret2;exact⟨_,_,_,_,C,a8,i,B⟩
 |ok y=>
  have k:=H.out;rw[D]at k;obtain⟨a9,_,rfl⟩:=k;have b0:=I a9;have b1:=I D;have c7:Hid<|∀z,(if(ZG _).1≠0 then([],(ZG _).1,(ZG _).2)else match Tl f l _ with
   |none=>([],8,0)
   |some _=>if fuel<0∨1000000<fuel then([],13,0)else match VK _ _ _ _ with
    |none=>([],13,0)
    |some z=>(VX _,0,0))=z->UE _ (bl s) f l st _=z:=I λz hz=>by unfold UE;rw[D];exact hz
  clear a9 D H HR a8;go_wp2_with fail;refine(c3 _ B).mono ?_;rintro e w2 ⟨sv,err,rfl,K,d,b2⟩;have F:=I<|B.trans<|d.mono B.size;have t:=I<|Q.below d;have c8:=I<|a7.below d;have T:Hid<|Xy w2 y.1<|.agg #[.slice a0 n0 e0,.slice a1 n1 e1,.slice a2 n2 e2,.slice a3 n3 e3]:=by obtain⟨cv,pv,gv,iv,G,V⟩:=b0.out;exact⟨cv,pv,gv,iv,G,V.below d⟩
  have c9:=I<|K.asks<|U.below F;clear d c3 Q a7 b0 B;by_cases M:(ZG<|bl s).1=0
  .have d5:err=.nilIface:=by
    rcases Ld.ld K.out with⟨_,h⟩|⟨h,_⟩
    .exact h
    .exact absurd M h
   subst d5;obtain⟨ss,R,b3,b4,d6⟩:=(b2.out M).sto M;obtain⟨sa,scp,rfl⟩:=Zd R.row;have d0:=I R;have d9:=I b3;have e4:=I b4;have H0:=I M;clear K b2 R b3 b4 d6 M c9;have x0:=t.cell 0;have x1:=t.cell 1;have x2:=t.cell 2;simp only[Yf]at x0 x1 x2;have b5:=t.lt;go_wp2_with fail;clear x0 x1 x2 b5;refine(c4 _ F).mono ?_;rintro e w3 ⟨tv,ev,rfl,b6,O⟩;have j:=I<|F.trans<|O.mono F.size;have d7:=I<|d0.below O;have d1:=I<|c8.below O;have c1:Hid<|Xy w3 y.1<|.agg #[.slice a0 n0 e0,.slice a1 n1 e1,.slice a2 n2 e2,.slice a3 n3 e3]:=by obtain⟨cv,pv,gv,iv,G,V⟩:=T.out;exact⟨cv,pv,gv,iv,G,V.below O⟩
   clear O c4 d0 t F c8 T;rcases b6.out with⟨G,rfl,rfl⟩|⟨ts,G,V,h3,rfl,h4⟩
   .have i:Hid<|UE _ _ f l _ _=([],8,0):=I<|c7 _<|by rw[Yd<|by rw[H0];simp,G]
    have P:Hid<|UK _ _ 8 0:=I λW g=>⟨oT A m W<|(U.below j).below g,LG A m W<|(U.below j).below g⟩;clear b6 G;go_wp2;go_ret2;exact⟨_,_,8,0,C,P,i,j⟩
   .obtain⟨ta,tcp,rfl⟩:=Zd h4;obtain⟨o,ho⟩:∃o,o=(if fuel<0∨1000000<fuel then none else VK (ss.map YU.ser) y.1 fuel.toNat ts):=⟨_,C⟩;have i:Hid _:=ho▸d9.out▸rn fuel b1.out H0.out G;have b7:Hid<|CP 25 #[.agg #[.slice a0 n0 e0,.slice a1 n1 e1,.slice a2 n2 e2,.slice a3 n3 e3],.slice sa ss.length scp,.slice ta ts.length tcp,E fuel] w3 λe w'=>∃r err,e=.returned (.tuple #[.string r,err])/\Hid (MO A o r err)/\BW w3 w':=by
      obtain⟨cv,pv,gv,iv,b8,e5⟩:=c1.out;injection b8 with b8;have h5:=congrArg Array.toList b8;simp only[List.cons.injEq,and_true]at h5;obtain⟨rfl,rfl,rfl,rfl⟩:=h5;obtain⟨e6,L,e7⟩:=Ct b1;have d2:=mr b1;rw[ho];exact im L A m (U.below j) ⟨e5,d7,e4⟩ e6 e7 d2.1 d2.2 V h3 h4 (HT.low j c5)<|Xb c5 j.size
    have e8:=I<|U.below j;have x0:=d1.cell;have b5:=d1.lt;clear b6 G V h3 h4 ho;go_wp2_with fail;clear x0 b5;refine b7.mono ?_;rintro e w4 ⟨r4,err4,rfl,d3,b9⟩;have d4:=I<|j.trans<|b9.mono j.size;have c0:=I<|e8.below b9;clear b9 b7;cases o with
    |none=>
     obtain⟨rfl,rfl⟩:=d3.out;have P:Hid<|UK _ _ 13 0:=I λW g=>⟨nQ A m W<|c0.below g,LG A m W<|c0.below g⟩;go_wp2;go_ret2;exact⟨_,_,13,0,C,P,i,d4⟩
    |some z=>
     obtain⟨h6,rfl⟩:=d3.out;have P:Hid<|UK _ _ 0 0:=I λW g=>⟨FA A m W<|c0.below g,GV W⟩;have d8:Hid<|UE (bl q) (bl s) f l st fuel=(bl r4,0,0):=by rw[i,h6];rfl
     clear h6;go_wp2;go_ret2;exact⟨_,_,0,0,C,P,d8,d4⟩
  .have i:=I<|c7 _<|by rw[Ye M]
   obtain⟨ty,u,rfl⟩:=K.shape M;clear K b2 M;go_wp2;go_ret2;exact⟨_,_,_,_,C,c9,i,F⟩
theorem tQ(q s:BA)(f l st fuel:Int)(A:Nat->Addr)(m:Int)(w:World)(n:YC w A m)(o:Vw w)(j:20<=w.heap.size)(t:q.size<=maxLen)(v:s.size<=maxLen):
 CP 6 #[.string q,.string s,.agg #[E f,E l,E st],E fuel] w λe u=>∃(r:BA)(c p:Nat),e=.returned (.tuple #[.string r,E c,E p])/\Hid (UE (bl q) (bl s) f l st fuel=(bl r,c,p))/\BW w u:=by
 have x:=I λW d=>rq q s f l st fuel A m W (n.below d) (o.low d j) (Xb j d.size) t v;clear n o j t v;go_enter func6,ntmps6;go_wp2_with fail;refine Zv λW B=>?_;have a:Below _ w W:=B▸Yc;refine(x W a).mono ?_;rintro e J ⟨r,err,c,p,rfl,k,F,g⟩;have h:=I<|a.trans<|g.mono a.size;clear g a B x;have G:=I (k _<|Ym _ _).1;have H:=I λW d=>(k W d).2;clear k;go_wp2_with fail;refine G.mono ?_;rintro e K ⟨rfl,rfl⟩;go_wp2_with fail;refine(H _<|Ym _ _).mono ?_;rintro e z ⟨rfl,i⟩;have D:=I<|h.trans<|i.mono h.size;clear i;go_wp2;go_ret3;exact⟨r,_,_,C,F,D⟩
theorem xR (f l st:Int):CP 8 #[.agg #[E f,E l,E st]] w λe u=>e=.returned (.agg #[E f,E l,E st])/\BW w u:=by
 go_enter func8,ntmps8;go_wp2;exact YQ (v:=.agg #[E f,E l,E st]) (by simp[results,results8,go_sem]) C ⟨C,Yc.alloc Sm _⟩
theorem rp(q s:BA)(f l st fuel:Int)(A:Nat->Addr)(m:Int)(w:World)(F:YC w A m)(G:Vw w)(t:20<=w.heap.size)(v:q.size<=maxLen)(x:s.size<=maxLen):
 CP 4 #[.string q,.string s,.agg #[E f,E l,E st],E fuel] w λe u=>e=.returned (.bool true)/\BW w u:=by
 have H:Hid<|∀W,BW w W->CP 6 #[.string q,.string s,.agg #[E f,E l,E st],E fuel] W _:=I λW B=>tQ q s f l st fuel A m W (F.below B) (G.low B t) (Xb t B.size) v x;have J:Hid<|∀W,CP 7 #[.string q,.string s,.agg #[E f,E l,E st],E fuel] W _:=I λW=>rm q s f l st fuel W v x;clear F G t v x;go_enter func4,ntmps4;go_wp2_with fail;refine Zv λW D=>?_;have d:BW w W:=by rw[D];exact Yc
 have h:Hid<|Ya W w.heap.size [E f,E l,E st] 23:=I<|by rw[D];exact Go.Deep.blk_alloc_new _ _
 refine(H.out W d).mono ?_;rintro e M ⟨r,c,p,rfl,K,g⟩;have i:Hid<|BW w M:=I<|d.trans<|g.mono d.size;have a:=I<|h.below g;clear g d D H h;have x0:=a.cell 0;have x1:=a.cell 1;have x2:=a.cell 2;simp only[Yf]at x0 x1 x2;go_wp2_with fail;clear x0 x1 x2;refine(xR f l st).mono ?_;rintro e z ⟨rfl,j⟩;have k:Hid<|BW w z:=I<|i.trans<|j.mono i.size;clear j a;go_wp2_with fail;refine(J.out z).mono ?_;rintro e O ⟨r3,c3,p3,rfl,n,o⟩;have L:Hid<|BW w O:=I<|k.trans<|o.mono k.size;have P:=K.symm.trans n.out;injection P with h1 h2;injection h2 with h2 h3;obtain rfl:r=r3:=ZbH h1;subst h2 h3;clear K n o h1 J;go_wp2_with(go_at_call 9;refine(yk).mono ?_;rintro e u ⟨rfl,rfl⟩);go_ret;exact⟨Sm,L.out⟩
theorem tU(q s:BA)(f l st fuel:Int)(q' s':BA)(f' l' st' less:Int)(A:Nat->Addr)(m:Int)(w:World)(V:YC w A m)(L:Vw w)(T:20<=w.heap.size)(Y:q.size<=maxLen)(Z:s.size<=maxLen)(M:q'.size<=maxLen)(O:s'.size<=maxLen):
 CP 3 #[.string q,.string s,.agg #[E f,E l,E st],E fuel,.string q',.string s',.agg #[E f',E l',E st'],E less] w λe u=>e=.returned (.bool true)/\BW w u:=by
 have c:Hid<|∀(q s:BA)(f l st fuel:Int)(u:World),BW w u->q.size<=maxLen->s.size<=maxLen->CP 4 #[.string q,.string s,.agg #[E f,E l,E st],E fuel] u λe a0=>e=.returned (.bool true)/\BW u a0:=I λq s f l st fuel u U h1 h2=>rp q s f l st fuel A m u (V.below U) (L.low U T) (Xb T U.size) h1 h2;have t:=I Y;have v:=I Z;have a1:=I M;have a2:=I O;clear V L T Y Z M O;go_enter func3,ntmps3;go_wp2_with fail;refine Zv λW K=>?_;have a:BW w<|w.alloc<|.cells #[E f,E l,E st] 23:=Yc;have x:Hid<|BW w W:=I<|by rw[K];exact a.alloc Sm _
 have HX:Hid<|Ya W w.heap.size [E f,E l,E st] 23:=I<|by rw[K];exact Ya.alloc (Go.Deep.blk_alloc_new _ _) _
 have HY:Hid<|Ya W (w.heap.size+1) [E f',E l',E st'] 23:=I<|by
  rw[K];have:=Go.Deep.blk_alloc_new (w.alloc<|.cells #[E f,E l,E st] 23)<|.cells #[E f',E l',E st'] 23;rw[Go.Deep.nblk_alloc]at this;exact this
 clear K a;refine(c.out q s f l st fuel W x.out t.out v.out).mono ?_;rintro e w1 ⟨rfl,a⟩;have B:Hid<|BW w w1:=I<|x.trans<|a.mono x.size;have d:=I<|HX.below a;have a3:=I<|HY.below a;clear a;have x0:=d.cell 0;have x1:=d.cell 1;have x2:=d.cell 2;simp only[Yf]at x0 x1 x2;go_wp2_with fail;clear x0 x1 x2;refine(c.out q' s f l st fuel w1 B.out a1.out v.out).mono ?_;rintro e z ⟨rfl,g⟩;have D:Hid<|BW w z:=I<|B.trans<|g.mono B.size;have h:=I<|d.below g;have a4:=I<|a3.below g;clear g;have x0:=h.cell 0;have x1:=h.cell 1;have x2:=h.cell 2;simp only[Yf]at x0 x1 x2;go_wp2_with fail;clear x0 x1 x2;refine(c.out q s' f l st fuel z D.out t.out a2.out).mono ?_;rintro e w3 ⟨rfl,i⟩;have F:Hid<|BW w w3:=I<|D.trans<|i.mono D.size;have a5:=I<|h.below i;have j:=I<|a4.below i;clear i;have x0:=j.cell 0;have x1:=j.cell 1;have x2:=j.cell 2;simp only[Yf]at x0 x1 x2;go_wp2_with fail;clear x0 x1 x2;refine(c.out q s f' l' st' fuel w3 F.out t.out v.out).mono ?_;rintro e w4 ⟨rfl,k⟩;have G:Hid<|BW w w4:=I<|F.trans<|k.mono F.size;have n:=I<|a5.below k;have a6:=I<|j.below k;clear k;have x0:=n.cell 0;have x1:=n.cell 1;have x2:=n.cell 2;simp only[Yf]at x0 x1 x2;go_wp2_with fail;clear x0 x1 x2;refine(c.out q s f l st less w4 G.out t.out v.out).mono ?_;rintro e w5 ⟨rfl,o⟩;have H:Hid<|BW w w5:=I<|G.trans<|o.mono G.size;have p:=I<|n.below o;have a7:=I<|a6.below o;clear o;have x0:=p.cell 0;have x1:=p.cell 1;have x2:=p.cell 2;simp only[Yf]at x0 x1 x2;go_wp2_with fail;clear x0 x1 x2;refine(c.out q s f l st fuel w5 H.out t.out v.out).mono ?_;rintro e w6 ⟨rfl,r⟩;have P:Hid<|BW w w6:=I<|H.trans<|r.mono H.size;have b0:=I<|p.below r;have b1:=I<|a7.below r;clear r;go_wp2_with fail;refine(fW w6).mono ?_;rintro e w7 ⟨rz,rfl,Q,R⟩;have J:Hid<|BW w w7:=I<|P.trans<|R.mono P.size;have a8:=I Q;clear R Q;go_wp2_with fail;refine(c.out rz _ _ _ _ _ w7 J.out a8.out N).mono ?_;rintro e w8 ⟨rfl,S⟩;have a9:Hid<|BW w w8:=I<|J.trans<|S.mono J.size;clear S;go_wp2;go_ret;exact⟨C,a9.out⟩
