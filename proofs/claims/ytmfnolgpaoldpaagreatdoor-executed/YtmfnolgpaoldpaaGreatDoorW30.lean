/- Parts. -/
import Derived.Test.YtmfnolgpaoldpaaGreatDoorW29
set_option linter.all false
set_option maxRecDepth 100000
set_option maxHeartbeats 16000000
namespace Go.Proofs.YtmfnolgpaoldpaaGreatDoor
open Go.RowKit LS Go.Proofs.Tryz
variable {d s:BA}{c xs:List Value}{qs:List<|BA×BA}{l:List<|Int×Int}{a:Nat}{lv sv v:Value}{w w':World}
theorem Tryz.infoRSample:(Tryz.prog.info? 179).map (λi=>(i.zero,i.size,i.bytes))=some (some<|.agg #[E 0,E 0],2,16):=Kr
theorem gU{x a d:LB}{t v:Int}{less:Bool}{d':LB}(g:cut 58 x=some (a,d))(c:Z6 45 d=(d',less))(i:YL 1000000 a=t)(e:YL 1000000000 d'=v):
 (0<=t/\0<=v/\(less=true->v≠0)->Tw x=some t.toNat)/\((t<0∨v<0∨(less=true/\v=0))->Tw x=none):=by
 constructor
 .rintro⟨j,k,l⟩;unfold Tw;rw[g];simp only[FB i j];have:T2 d=true:=by
   unfold T2;rw[c];simp only[FB e k];cases less
   .rfl
   .have:=l C;simp;omega
  rw[this];rfl
 .intro h;unfold Tw;rw[g];cases f:ZC 1000000 a with
  |none=>simp only[f]
  |some tm=>
   rw[RB f]at i;have:T2 d=false:=by
    unfold T2;rw[c];rcases h with h|h|⟨h,m⟩
    .omega
    .simp only[oO e h]
    .simp only[FB e X];subst h;subst m;rfl
   simp[f,this]
theorem fE(a:0<d.size)(h:d[0].toNat=45):Z6 45 (bl d)=(bl<|d.extract 1 d.size,true):=by
 have e:=Te d 0 a;rw[PF]at e;have e2:bl (d.extract 1 d.size)=(bl d).drop 1:=by rw[WL,Wm<|by rw[Zb];exact Yj _]
 have e3:d[0]=45:=TO.1 h;rw[e2,e,e3];rfl
theorem zi(h:d.size<1∨∃a:0<d.size,d[0].toNat≠45):Z6 45 (bl d)=(bl d,false):=by
 rcases h with h|⟨a,h⟩
 .have:bl d=[]:=Og.1<|by rw[Zb];omega
  rw[this];rfl
 .have e:=Te d 0 a;rw[PF]at e;have e3:(d[0]==45)=false:=by
   rw[YB];intro c;rw[c]at h;exact h C
  rw[e];simp[Z6,e3]
theorem jC(s:BA)(t0:LB)(w:World)(hs:s.size<=6000)(d0:s.toList.isEmpty=false)(a1:Hid<|bl s=32::t0):
 CP 71 #[.string s] w λe w'=>∃(a:Option Addr)(n cap:Nat)(ok:Bool),e=.returned (.tuple #[.slice a n cap,.bool ok])/\
  Hid ((ok=true/\Vk (-1) 0 (split 32 t0)=some n)∨(ok=false/\Vk (-1) 0 (split 32 t0)=none))/\Hid (ok=true->w'.ownsRow w.heap.size 179 2 (.slice a n cap) n (ZQ<|(split 32 t0).map UJ))/\BW w w':=by
 obtain⟨i0,hi,b0,b1,b2⟩:=Xv Tryz.infoRSample;have HS:Hid<|split 32 (bl s)=[]::split 32 t0:=I<|by rw[a1.out,Nh]
 go_enter func71,ntmps71;go_wp2_with fail;refine(LK s 32 C hs).mono ?_;rintro e t ⟨g,n,cp,bs,rfl,hn,d1,b3,x,J,o⟩;have HN:Hid<|n=bs.length:=hn;have d2:n<=6001:=by
  have:=Qf 32<|bl s;rw[<-J.out,Yz,Zb]at this;omega
 have K:Hid<|n=(split 32 t0).length+1:=I<|by
  rw[hn,show bs.length=(split 32<|bl s).length by rw[<-J.out,Yz],HS.out];rfl
 have a2:1<=n:=by rw[K.out];omega
 clear hn;have a3:0<bs.length:=by rw[<-HN.out];exact a2
 have b4:t.cell? ⟨g,0,none⟩=some (.string bs[0]):=x.out 0 a3;have b5:bs[0].toList.isEmpty=true:=by
  rw[ZA,Mu J.out 0 a3,HS.out];rfl
 generalize bs[0]=s0 at b4 b5;go_wp2;go_loopw [4,6,7] (λv last i wr=>∃(k:Nat)(L:Int),k+1<=n/\i=E ((k:Int)+1)/\last=E L/\-1<=L/\L<=1000000/\wr.ownsRow t.heap.size 179 2 v k (ZQ<|((split 32 t0).map UJ).take k)/\Hid (Vk (-1) 0 (split 32 t0)=Vk L k ((split 32 t0).drop k))/\BW t wr)
  (λ_ _ i _=>n-(intOf i).toNat);case atStart=>exact⟨0,-1,a2,C,C,Om,Om,Xm _ _ _ _,C,Ym _ _⟩
 case round=>
  obtain⟨k,L,hk,rfl,rfl,d3,d4,f,Y,r⟩:=hrel;have b6:t.heap.size<=wr.heap.size:=r.size;by_cases b7:k+1<n
  .have a4:k+1<bs.length:=by rw[<-HN.out];exact b7
   have A:k<(split 32 t0).length:=by have:=K.out;omega
   have b8:wr.cell? ⟨g,k+1,none⟩=some (.string bs[k+1]):=(r.cell (p:=⟨g,k+1,none⟩) b3).trans<|x.out (k+1) a4;have P:Hid<|bl bs[k+1]=(split 32 t0).getD k []:=I<|by
    rw[Mu J.out (k+1) a4,HS.out];rfl
   have B:bs[k+1].size<=6000:=by
    have j:=OU 32 t0 k A;have l:s.size=t0.length+1:=by rw[ZE a1.out];rfl
    rw[ZE P.out];omega
   generalize bs[k+1]=sk at b8 P B;cases D:LS.seek 58 (bl sk)with
   |none=>
    have F:Hid<|Vk (-1) 0 (split 32 t0)=none:=I<|by
     rw[Y.out];refine JG A P.out<|Or.inl ?_;unfold Tw;rw[K8 D]
    have HC:Hid<|LS.seek 58 (bl sk)=none:=D;clear D;go_wp2_with fail;refine(ON (c:=58) C B HC.out).mono ?_;rintro e z ⟨rfl,Q⟩;subst Q;go_wp2;go_ret2;exact⟨none,0,0,false,C,Or.inr ⟨C,F.out⟩,I (λh=>by cases h),o.trans<|r.mono o.size⟩
   |some p=>
    have hp:p<sk.size:=by rw[<-Zb];exact NI D
    have hcut:=Lp D;have HC:Hid<|LS.seek 58 (bl sk)=some p:=D;clear D;have e1:bl (sk.extract 0 p)=(bl sk).take p:=by rw[WL];simp
    have e2:bl (sk.extract (p+1) sk.size)=(bl sk).drop (p+1):=by rw[WL,Wm<|by rw[Zb];exact Yj _]
    rw[<-e1,<-e2]at hcut;have b9:(sk.extract 0 p).size<=6000:=by rw[<-Zb,e1,Xw,Zb];omega
    have a5:(sk.extract (p+1) sk.size).size<=6000:=by rw[<-Zb,e2,Ur,Zb];omega
    clear e1 e2;have d5:p<=sk.size:=KD hp;have d6:p+1<=sk.size:=hp;have d7:(p:Int)+1<=(sk.size:Int):=Om;go_wp2_with fail;refine(Qe (c:=58) C B HC.out).mono ?_;rintro e z ⟨rfl,Q⟩;subst Q;have G:Hid _:=hcut;clear hcut;go_wp2_with fail;refine(LJ 1000000 C b9 Om).mono ?_;rintro e Z ⟨rfl,c0⟩;subst c0;have hT:=Ny 1000000<|bl<|sk.extract 0 p;obtain⟨T,R⟩:∃T,YL 1000000 (bl<|sk.extract 0 p)=T:=⟨_,C⟩;rw[R]at hT⊢;have HT:Hid _:=R;clear R;obtain⟨d,hd⟩:∃d,sk.extract (p+1) sk.size=d:=⟨_,C⟩;rw[hd]at a5 G;have hD:(∃j:0<d.size,((d[0].toNat:Int)==45)=true)∨(∃j:0<d.size,((d[0].toNat:Int)==45)=false)∨¬0<d.size:=by
     by_cases j:0<d.size
     .cases l:((d[0].toNat:Int)==45)
      .exact Or.inr<|Or.inl ⟨j,l⟩
      .exact Or.inl ⟨j,l⟩
     .exact Or.inr<|Or.inr j
    go_upto_region 16 with fail;go_cut [11]from 22 to 89 (λs11 H=>∃ng:Bool,s11=.bool ng/\H=Z/\Hid ((ng=true/\0<d.size/\Z6 45 (bl d)=(bl<|d.extract 1 d.size,true))∨(ng=false/\Z6 45 (bl d)=(bl d,false))));case first=>
     rcases hD with⟨j,l⟩|⟨j,l⟩|j
     .go_wp2;go_meet;exact⟨true,C,C,I<|Or.inl ⟨C,j,fE j<|by have:=XL.1 l;omega⟩⟩
     .go_wp2;go_meet;exact⟨false,C,C,I<|Or.inr ⟨C,zi<|Or.inr ⟨j,by have:=YB.1 l;omega⟩⟩⟩
     .go_wp2;go_meet;exact⟨false,C,C,I<|Or.inr ⟨C,zi<|Or.inl Om⟩⟩
    case rest=>
    obtain⟨ng,rfl,rfl,a6⟩:=hcut;rename World=>Z;clear hD;go_upto_if 57 with fail;go_cut [10]from 22 to 89 (λs10 H=>∃d':BA,s10=.string d'/\H=Z/\d'.size<=6000/\Hid (Z6 45 (bl d)=(bl d',ng)));case first=>
     rcases a6.out with⟨rfl,j,l⟩|⟨rfl,l⟩
     .have h3:(1:Int)<=d.size:=Om;go_wp2;go_meet;exact⟨_,C,C,by rw[V5];omega,I l⟩
     .go_wp2;go_meet;exact⟨_,C,C,a5,I l⟩
    case rest=>
    obtain⟨d',rfl,rfl,c6,a7⟩:=hcut;rename World=>Z;clear a6;go_wp2_with fail;refine(LJ 1000000000 C c6 Om).mono ?_;rintro e S ⟨rfl,c7⟩;subst c7;have hV:=Ny 1000000000<|bl d';obtain⟨V,U⟩:∃V,YL 1000000000 (bl d')=V:=⟨_,C⟩;rw[U]at hV⊢;have HV:=I U;clear U;have W:=I<|gU G.out a7.out HT.out HV.out;have a8:=I<|DE A P.out<|ej G.out a7.out HT.out HV.out;obtain⟨bd,m⟩:∃bd,decide (T<0∨V<0∨T<=L∨(ng=true/\V=0))=bd:=⟨_,C⟩;go_upto_region 20 with fail;go_cut [79]from 22 to 89 (λs79 H=>s79=.bool bd/\H=S);case first=>
     by_cases q1:T<0
     .go_wp2;go_meet;exact⟨by rw[<-m];simp[q1],C⟩
     .by_cases q2:V<0
      .go_wp2;go_meet;exact⟨by rw[<-m];simp[q2],C⟩
      .by_cases q3:T<=L
       .go_wp2;go_meet;exact⟨by rw[<-m];simp[q3],C⟩
       .cases ng
        .go_wp2;go_meet;exact⟨by rw[<-m];simp[q1,q2,q3],C⟩
        .cases q5:(V==0)
         .go_wp2;go_meet;exact⟨by rw[<-m];simp[q1,q2,q3,YB.1 q5],C⟩
         .go_wp2;go_meet;exact⟨by rw[<-m];simp[XL.1 q5],C⟩
    case rest=>
    obtain⟨rfl,rfl⟩:=hcut;rename World=>S;cases bd
    .have a0:=Ki m;have F:Hid<|Vk (-1) 0 (split 32 t0)=Vk T (k+1) ((split 32 t0).drop<|k+1):=I<|by
      rw[Y.out];have hh:=BX (n:=k) (last:=L) A P.out (W.1 ⟨Om,Om,λj l=>a0<|by simp[j,l]⟩) Om;rw[hh,Int.toNat_of_nonneg Om]
     obtain⟨X,hX⟩:∃X,(if ng then-V else V)=X:=⟨_,C⟩;go_upto_if 80 with fail;go_cut [12]from 22 to 89 (λs12 H=>s12=E X/\H=S);case first=>
      cases ng
      .go_wp2;go_meet;exact⟨by rw[<-hX];rfl,C⟩
      .go_wp2;go_meet;exact⟨by rw[<-hX];go_num,C⟩
     case rest=>
     obtain⟨rfl,rfl⟩:=hcut;rename World=>S;rw[hX]at a8;go_wp2_with(at_builtin;refine XC _ C (.tmp 84) (.tmp 88) 103 C t.heap.size 179 i0 (.agg #[E 0,E 0]) 2 16 underlying103 hi b0 b1 b2 C N _ _ _ C (N5 f _) ⟨S.heap.size,0,none⟩ 1 1 [E T,E X] C C ?c1 ?c2 ?c3 ?c4 ?c5 ?_);case c1=>exact PW Sm Sm
     case c2=>intro u hu;simp at hu;rcases hu with rfl|rfl<;>rfl
     case c3=>unfold maxLen;omega
     case c4=>omega
     case c5=>simp;omega
     intro v' w5 M O _;rw[<-a8.out]at M;have c8:BW t w5:=(r.alloc b6 _).grown O (by simp;omega) λq hq=>(f.lt q hq).1;clear f O;go_wp2;go_roundw;case rel=>exact⟨k+1,T,Om,by go_num,C,Om,Om,M,F,c8⟩
     case measure=>simp[intOf];omega
    .have a9:=Rw m;have F:Hid<|Vk (-1) 0 (split 32 t0)=none:=I (by
     rw[Y.out];refine JG A P.out ?_;by_cases hx:T<0∨V<0∨(ng=true/\V=0)
     .exact Or.inl<|W.2 hx
     .exact Or.inr ⟨T.toNat,W.1 ⟨Om,Om,λj l=>hx<|by simp[j,l]⟩,by rw[Int.toNat_of_nonneg Om];rcases a9 with h|h|h|h<;>first|exact h|exact absurd (by simp[h]) hx⟩);go_wp2;go_ret2;exact⟨none,0,0,false,C,Or.inr ⟨C,F.out⟩,I (λh=>by cases h),o.trans<|r.mono o.size⟩
  .have F:Hid<|Vk (-1) 0 (split 32 t0)=some k:=I<|by
    rw[Y.out];exact BY<|by have:=K.out;omega
   obtain⟨av,cp,hv⟩:=Zd f;rw[hv]at f;rw[hv];have c9:Hid<|wr.ownsRow w.heap.size 179 2 (.slice av k cp) k<|ZQ<|(split 32 t0).map UJ:=I<|by
    rw[Wm<|by rw[Yz];have:=K.out;omega]at f;exact f.mono o.size
   clear f;go_wp2;go_ret2;exact⟨av,k,cp,true,C,Or.inl ⟨C,F.out⟩,I λ_=>c9.out,o.trans<|r.mono o.size⟩
structure VS (w:World)(v:Value)(l:List<|Int×Int):Prop where
 own:w.ownsRow 0 179 2 v l.length<|ZQ l
 len:l.length<=6001
 ok:∀x∈l,Vc x
theorem VS.below(h:VS w v l)(a:BW w w'):VS w' v l:=⟨Ze h.own a,h.len,h.ok⟩
theorem LL (n:Int)(w:World):CP 74 #[E n] w λe u=>e=.returned (E<|YZ n)/\u=w:=by
 unfold YZ;by_cases a:1000000000<n
 .rw[Ye a];go_enter func74,ntmps74;go_wp2;go_ret;exact⟨C,C⟩
 · rw[Yd a];by_cases c:n< -1000000000
   .rw[Ye c];go_enter func74,ntmps74;go_wp2;go_ret;exact⟨C,C⟩
   .rw[Yd c];go_enter func74,ntmps74;go_wp2;go_ret;exact⟨C,C⟩
theorem fJ(l:List<|Int×Int)(h:∀x∈l,Vc x):-1000000000*(l.length:Int)<=(l.map (·.2)).sum/\(l.map (·.2)).sum<=1000000000*(l.length:Int):=by
 induction l with
 |nil=>simp
 |cons a l ih=>
  have e:=ih λx c=>h x<|Vf _ c;have d:=h a<|Re ..;unfold Vc at d;simp only[Wb,List.sum_cons,Y1];omega
theorem gW(l:List<|Int×Int)(k:Nat)(h:k<l.length):(l.take<|k+1).map (·.2)=(l.take k).map (·.2)++[l[k].2]:=by
 rw[List.take_succ_eq_append_getElem h,Y9];rfl
theorem AD(op:Nat)(a0:op<=4)(l:List<|Int×Int)(h:VS w v l)(m:0<l.length):
 CP 75 #[E op,v] w λe u=>e=.returned (E (T1 op (l.map (·.2))))/\∃n,u=w.drewN n:=by
 obtain⟨g,cp,rfl⟩:=Zm h.own m;have W:=h.len;have B:=I h;have K:∀(j:Nat)(M:j<l.length),w.cell? _=some (.int _ _):=λj M=>Zc h.own _ _<|by rw[(Lt l j).2,List.getElem?_eq_getElem M];rfl
 have O:=I K;have Y:w.cell? ⟨g,1,none⟩=some (E (l[0]).2):=by simpa using K 0 _
 obtain⟨x0,q⟩:∃x0,x0=(l[0]).2:=⟨_,C⟩;have r:Hid (x0=(l.map (·.2)).headD 0):=by rw[q];cases l with|nil=>simp at m|cons a l=>rfl
 rw[<-q]at Y;clear h K q;go_enter func75,ntmps75;go_wp2;go_loop [5,6,7,8] (λs5 s6 s7 s8=>∃(k:Nat)(sm mx mn:Int),k<=l.length/\s8=E k/\s5=E sm/\s6=E mx/\s7=E mn/\Hid (sm=((l.take k).map (·.2)).sum/\mx=Wh x0 ((l.take k).map (·.2))/\mn=Wi x0 ((l.take k).map (·.2)))) (λ_ _ _ s8=>l.length-(intOf s8).toNat);case atStart=>exact⟨0,0,x0,x0,Yr _,C,C,C,C,C,C,C⟩
 case round=>
  obtain⟨k,sm,mx,mn,hk,rfl,rfl,rfl,rfl,p⟩:=hrel;by_cases s:k<l.length
  .have ck:=O k s;have P:=I<|gW l k s;have Q:=fJ (l.take k) λx D=>B.ok x<|MX D;rw[<-p.1,Xw]at Q;have D:=B.ok _<|List.getElem_mem s;unfold Vc at D;obtain⟨R,S,T,U⟩:=D;obtain⟨F,G⟩:=Q;have t:min k l.length=k:=X;rw[t]at F G;have a1:(k:Int)<=6001:=X;have a2:-6001000000000<=sm:=X;have a3:sm<=6001000000000:=X;have c:Hid (sm+(l[k]).2=((l.take<|k+1).map (·.2)).sum/\(if mx<(l[k]).2 then(l[k]).2 else mx)=Wh x0 ((l.take<|k+1).map (·.2))/\(if(l[k]).2<mn then(l[k]).2 else mn)=Wi x0 ((l.take<|k+1).map (·.2))):=by
    rw[P,Ku,CD,CO,<-p.1,<-p.2.1,<-p.2.2];exact⟨Sm,C,C⟩
   obtain⟨x,H⟩:∃x,x=(l[k]).2:=⟨_,C⟩;rw[<-H]at ck c T U;clear t F G R S P p H;by_cases o:mx<x
   .by_cases d:x<mn
    .go_wp2;go_round;case rel=>exact⟨k+1,_,_,_,X,by go_num,C,C,C,⟨c.1,by rw[<-c.2.1,Ye o],by rw[<-c.2.2,Ye d]⟩⟩
     case measure=>simp[intOf];omega
    .go_wp2;go_round;case rel=>exact⟨k+1,_,_,_,X,by go_num,C,C,C,⟨c.1,by rw[<-c.2.1,Ye o],by rw[<-c.2.2,Yd d]⟩⟩
     case measure=>simp[intOf];omega
   .by_cases d:x<mn
    .go_wp2;go_round;case rel=>exact⟨k+1,_,_,_,X,by go_num,C,C,C,⟨c.1,by rw[<-c.2.1,Yd o],by rw[<-c.2.2,Ye d]⟩⟩
     case measure=>simp[intOf];omega
    .go_wp2;go_round;case rel=>exact⟨k+1,_,_,_,X,by go_num,C,C,C,⟨c.1,by rw[<-c.2.1,Yd o],by rw[<-c.2.2,Yd d]⟩⟩
     case measure=>simp[intOf];omega
  .obtain rfl:k=l.length:=X;have L:Hid (sm=(l.map (·.2)).sum/\mx=Wh ((l.map (·.2)).headD 0) (l.map (·.2))/\mn=Wi ((l.map (·.2)).headD 0) (l.map (·.2))):=by
    have:=p.out;rw[X1,r]at this;exact this
   have cl:=O (l.length-1) X;obtain⟨xl,z⟩:∃xl,xl=(l[l.length-1]).2:=⟨_,C⟩;have V:Hid (xl=(l.map (·.2)).getLastD 0):=by
    rw[z,Kc,Kd,Yz,Vt,List.getElem?_eq_getElem X];rfl
   have f:=B.ok _<|List.getElem_mem m;have i:=B.ok l[l.length-1]<|List.getElem_mem _;have A:x0=(l[0]).2:=by
    have Z:=r.out;cases l with
    |nil=>simp at m
    |cons a l=>exact Z
   unfold Vc at f i;rw[<-A]at f;rw[<-z]at i cl;obtain⟨_,_,y1,y2⟩:=f;obtain⟨_,_,y3,y4⟩:=i;clear z A;rcases(X:op=0∨op=1∨op=2∨op=3∨op=4)with rfl|rfl|rfl|rfl|rfl
   .go_wp2;go_ret;exact⟨TY<|by rw[L.1];rfl,0,C⟩
   .go_wp2;go_ret;exact⟨TY<|by rw[L.2.1];rfl,0,C⟩
   .go_wp2;go_ret;exact⟨TY<|by rw[L.2.2];rfl,0,C⟩
   .go_wp2;go_ret;exact⟨TY<|by unfold T1;rw[Yz];rfl,0,C⟩
   .obtain⟨n1,J⟩:∃n1:Nat,n1=l.length-1:=⟨_,C⟩;have a4:(l.length:Int)-1=(n1):=X;have a5:(n1:Int)<l.length:=X;rw[<-J]at cl;clear J;go_wp2;go_quiet (fail);go_wp2;go_ret;exact⟨TY<|by unfold T1;rw[<-r,<-V];rfl,_,C⟩
theorem Tryz.infoRSm:(Tryz.prog.info? 179).map (λi=>(i.zero,i.size,i.bytes))=some (some<|.agg #[E 0,E 0],2,16):=Kr
theorem QL{w0:World}(h:BW w0 w)(a:w.grownBy w' v.ownBlock)(d:∀q,v.ownBlock=some q->w0.heap.size<=q):BW w0 w':=by
 refine⟨a.os.trans h.os,a.tape.trans h.tape,a.output.trans h.output,Xb h.size a.size,?_⟩;intro j c;rw[a.block j (WH c h.size) λe=>by have:=d j e.symm;omega,h.block j c]
theorem Ya.ownGrown{t:TypeId}(h:Ya w a c t){base:Nat}{e:TypeId}{sz:Nat}{n:Nat}(d:w.ownsRow base e sz v n xs)(f:w.grownBy w' v.ownBlock)(g:t≠e):Ya w' a c t:=
 (f.block a h.lt<|ZD d h g).trans h
theorem yF(l:List<|Int×Int)(k:Nat)(h:k<l.length)(n t:Int):ZM (l.take<|k+1) n t=ZM (l.take k) n t++(if t-n<l[k].1/\l[k].1<=t then[l[k]]else[]):=by
 unfold ZM;rw[List.take_succ_eq_append_getElem h,N6];congr 1;by_cases a:t-n<l[k].1/\l[k].1<=t
 .rw[Ye a];simp[a.1,a.2]
 .rw[Yd a];have:(decide (t-n<l[k].1)&&decide (l[k].1<=t))=false:=by
   rw[Ib,O4,O4];by_cases c:t-n<l[k].1
   .right;intro d;exact a ⟨c,d⟩
   .exact .inl c
  simp only[Ks,this,Iy];rfl
theorem Ax(l:List<|Int×Int)(n t:Int):(ZM l n t).length<=l.length:=Qq _ _
theorem yG{nm:BA}{la:Option Addr}{ln lc:Nat}(O:lv=.slice la ln lc)(n t:Int)(a1:0<=n)(a2:n<=1000)(a3:-1000000<=t)(a4:t<=1000000)(h:VS w sv l):
 CP 73 #[.agg #[.string nm,lv,sv],E n,E t] w λe u=>∃rv:Value,e=.returned rv/\Hid (VS u rv<|ZM l n t)/\BW w u:=by
 obtain⟨sa,sc,rfl⟩:=Zd h.own;subst O;have A:=I h;have J:=h.len;obtain⟨i0,V,P,Q,R⟩:=Xv Tryz.infoRSm;clear h;go_enter func73,ntmps73;go_wp2;go_loopg [7,8] l.length (λgk v7 v8 wr=>∃k:Nat,k<=l.length/\gk=l.length-k/\v8=E k/\Hid (wr.ownsRow (w.heap.size+1) 179 2 v7 (ZM (l.take k) n t).length<|ZQ<|ZM (l.take k) n t)/\Hid (BW w wr)/\Hid (Ya wr w.heap.size [.string nm,.slice la ln lc,.slice sa l.length sc] 105));case atStart=>exact⟨0,Yr _,C,C,Xm _ _ _ _,I Yc,I<|Go.Deep.blk_alloc_new _ _⟩
 case round=>
  obtain⟨k,hk,a5,rfl,B,r,s⟩:=hrel;have b2:=s.cell 2;simp only[Yf]at b2;obtain⟨av,cp,Y⟩:=Zd B;subst Y;by_cases i:k<l.length
  .obtain⟨g,cpx,Z⟩:=Zm A.own X;injection Z with hg1 _ hg2;subst hg1 hg2;have v:=I<|A.below r;have r0:=Zc v.own _ _<|by rw[(Lt l k).1,List.getElem?_eq_getElem i];rfl
   have r1:=Zc v.own _ _<|by rw[(Lt l k).2,List.getElem?_eq_getElem i];rfl
   have c:=I<|yF l k i n t;have j:=A.ok _<|List.getElem_mem i;unfold Vc at j;obtain⟨⟨x,y⟩,F⟩:∃p,p=l[k]:=⟨_,C⟩;rw[<-F]at r0 r1 c j;simp only at r0 r1 c j;obtain⟨o1,o2,o3,o4⟩:=j;have S:=Ax (l.take k) n t;rw[Xw]at S;clear F;go_upto_region 6 with fail;refine Zs λW K=>?_;have m:Below _ _ W:=K▸Yc;have L:Hid<|Ya W _ _ 179:=K▸Go.Deep.blk_alloc_new _ _;have z:=I<|Ze B m;have o:=I<|r.trans<|m.mono r.size;have f:=I<|s.below m;have a6:=L.lt;have a0:=r.size;clear K m B r s r0 r1 b2 v;have x0:=L.cell 0;have x1:=L.cell 1;simp only[Yf]at x0 x1;by_cases G:t-n<x
   .by_cases H:x<=t
    .go_wp2_with(at_builtin;refine XC _ C (.tmp 34) (.tmp 36) 103 C (w.heap.size+1) 179 i0 (.agg #[E 0,E 0]) 2 16 underlying103 V P Q R C N _ _ _ C (z.alloc _) ⟨W.heap.size,0,none⟩ 1 1 [E x,E y] C C (Z1 C) ?c2 ?c3 ?c4 ?c5 ?_);case c2=>exact⟨C,C⟩
     case c3=>unfold maxLen;omega
     case c4=>omega
     case c5=>omega
     intro v' w6 D a _;have T:=I<|QL (o.alloc o.size _) a λq hq=>by have:=(z.lt q hq).1;omega
     have M:=I<|Ya.ownGrown (f.below Yc) (z.alloc _) a N;have d:Hid<|w6.ownsRow (w.heap.size+1) 179 2 v' (ZM (l.take<|k+1) n t).length<|ZQ<|ZM (l.take<|k+1) n t:=by rwa [c.out,Ye ⟨G,H⟩,H4,Yv]
     clear D a;go_wp2;go_roundg (l.length-(k+1));case measure=>omega
     case rel=>exact⟨k+1,X,C,by go_num,d,T,M⟩
    .have d:Hid<|W.ownsRow (w.heap.size+1) 179 2 (.slice av (ZM (l.take k) n t).length cp) (ZM (l.take<|k+1) n t).length<|ZQ<|ZM (l.take<|k+1) n t:=by rwa [c.out,Yd λh=>H h.2,V6]
     go_wp2;go_roundg (l.length-(k+1));case measure=>omega
     case rel=>exact⟨k+1,X,C,by go_num,d,o,f⟩
   .have d:Hid<|W.ownsRow (w.heap.size+1) 179 2 (.slice av (ZM (l.take k) n t).length cp) (ZM (l.take<|k+1) n t).length<|ZQ<|ZM (l.take<|k+1) n t:=by rwa [c.out,Yd λh=>G h.1,V6]
    go_wp2;go_roundg (l.length-(k+1));case measure=>omega
    case rel=>exact⟨k+1,X,C,by go_num,d,o,f⟩
  .obtain rfl:k=l.length:=X;have U:Hid<|wr.ownsRow 0 179 2 (.slice av (ZM (l.take l.length) n t).length cp) (ZM l n t).length<|ZQ<|ZM l n t:=by
    have:=U6 B;rw[X1]at this⊢;exact this
   go_wp2;go_ret;exact⟨_,C,⟨U,Xb (Ax _ _ _) J,λx hx=>A.ok x<|(Qv.1 hx).1⟩,r⟩
theorem jB(m:s.size<=6000):
 CP 71 #[.string s] w λe u=>∃(a:Option Addr)(n cap:Nat)(ok:Bool),e=.returned (.tuple #[.slice a n cap,.bool ok])/\
  Hid ((ok=true/\VI (bl s)=some n)∨(ok=false/\VI (bl s)=none))/\Hid (ok=true->u.ownsRow w.heap.size 179 2 (.slice a n cap) n (ZQ<|Qd<|bl s))/\BW w u:=by
 cases d:s.toList.isEmpty
 .have i:=OH d;cases f:bl s with
  |nil=>exact absurd f i
  |cons b t=>
   by_cases k:b=32
   .subst k;have x:VI (32::t)=Vk (-1) 0 (split 32 t):=by unfold VI;simp[Z6]
    rw[x];exact jC s t w m d f
   .have l:Hid<|VI (b::t)=none:=I<|by unfold VI;simp[Z6,k]
    have z:=I f;clear f i;go_enter func71,ntmps71;go_wp2_with fail;refine(LK s 32 C m).mono ?_;rintro e G ⟨g,n,cp,bs,rfl,o,B,D,c,j,p⟩;have q:0<bs.length:=by
     have:bs.length=(split 32<|bl s).length:=by rw[<-j,Yz]
     rw[this];exact QZ.2<|Ni _ _
    have F:0<n:=X;have r:=c 0 q;have v:bs[0].toList.isEmpty=false:=by
     rw[ZA,Mu j 0 _,z,LR _ b t<|by simp[k]];cases split 32 t<;>rfl
    generalize bs[0]=s0 at r v;have H:=I o;clear o;go_wp2;go_ret2;exact⟨none,0,0,false,C,.inr ⟨C,l⟩,I (λh=>by cases h),p⟩
 .have l:Hid<|VI (bl s)=some 0:=by rw[Pn d];rfl
  go_enter func71,ntmps71;go_wp2;go_ret2;have A:Hid<|Qd (bl s)=[]:=by rw[Pn d];rfl
  exact⟨none,0,0,true,C,.inl ⟨C,l⟩,I λ_=>A.out▸Xm _ _ _ _,Ym _ _⟩
theorem ji(d:s.size<=6000):
 CP 70 #[.string s] w λe u=>∃(a:Option Addr)(n cap:Nat)(ok:Bool),e=.returned (.tuple #[.slice a n cap,.bool ok])/\
  ((ok=true/\∃qs,u.ownsRow w.heap.size 175 2 (.slice a n cap) qs.length (Uu qs)/\Hid (Wp (bl s)=some (qs.map V9)))∨(ok=false/\Hid (Wp (bl s)=none)))/\BW w u:=by
 cases c:s.toList.isEmpty
 .have f:Wp (bl s)=Wf [] [] (split 44<|bl s):=by unfold Wp;rw[Yd<|OH c]
  rw[f];exact jl s w d c
 .have g:Hid<|Wp (bl s)=some (([]).map V9):=by rw[Pn c];rfl
  go_enter func70,ntmps70;go_wp2;go_ret2;exact⟨none,0,0,true,C,.inl ⟨C,[],Xm _ _ _ _,g⟩,Ym _ _⟩
theorem nU{l:LB}{b:Nat}(e:LS.seek 123 l=some a)(f:LS.seek 125 l=some b)(i:a<b):
 cut 123 l=some (l.take a,l.drop<|a+1)/\cut 125 (l.drop<|a+1)=some ((l.take b).drop<|a+1,l.drop<|b+1):=by
 refine⟨Lp e,?_⟩;obtain⟨x,y,c,d,g⟩:=Pr f;have e1:l.drop (a+1)=x.drop (a+1)++125::y:=by rw[c,MS X]
 have e2:l.take b=x:=by rw[c,<-d];simp
 have e3:l.drop (b+1)=y:=by rw[c,<-d];simp
 rw[e1,e2,e3];exact Hi λh=>g<|List.mem_of_mem_drop h
theorem nS{l:LB}{b:Nat}(g:LS.seek 123 l=some a)(h:LS.seek 125 l=some b)(d:b<a):Y3 l=none:=by
 obtain⟨x,y,i,j,k⟩:=Pr h;have e:Zx (l.take a)=false:=by
  have:(l.take a).all Zl=false:=by
   rw[Kn];refine⟨125,?_,N⟩;rw[List.mem_iff_getElem?];refine⟨b,?_⟩;rw[Kj,Ye d,i,<-j];simp
  unfold Zx;rw[this];rfl
 have f:=Lp g;cases c:cut 125<|l.drop<|a+1with
 |none=>exact Mq f c
 |some q=>obtain⟨y,z⟩:=q;rw[Mr f c,e];rfl
theorem nV{l:LB}(c:LS.seek 123 l=some a)(d:LS.seek 125 l=none):Y3 l=none:=by
 have e:=(LP _ l).1 d;refine Mq (Lp c) ?_;exact K8<|(LP _ _).2 λh=>e<|List.mem_of_mem_drop h
theorem wX{a:World}{x y z x' y' z':Value}{t:TypeId}(c:Below (w.heap.size+1+1) ((w.alloc<|.cells #[x,y,z] t).alloc<|.cells #[x',y',z'] t) a):
 (a.cell? ⟨w.heap.size,0,none⟩=some x/\a.cell? ⟨w.heap.size,1,none⟩=some y/\a.cell? ⟨w.heap.size,2,none⟩=some z/\
 a.frozen? ⟨w.heap.size,0,none⟩=false/\a.frozen? ⟨w.heap.size,1,none⟩=false/\a.frozen? ⟨w.heap.size,2,none⟩=false)/\
 (a.cell? ⟨w.heap.size+1,0,none⟩=some x'/\a.cell? ⟨w.heap.size+1,1,none⟩=some y'/\a.cell? ⟨w.heap.size+1,2,none⟩=some z'/\
 a.frozen? ⟨w.heap.size+1,0,none⟩=false/\a.frozen? ⟨w.heap.size+1,1,none⟩=false/\a.frozen? ⟨w.heap.size+1,2,none⟩=false):=by
 have d:=λo=>c.cell (p:=⟨_,o,none⟩)<|RA _;have f2:=λo=>c.frozen (p:=⟨_,o,none⟩)<|RA _;have b1:Below (w.heap.size+1) _ _:=((Ym _ _).alloc Sm _).trans<|c.mono X;obtain⟨k0,k1,k2,g0,g1,g2⟩:=FZ b1;exact⟨⟨k0,k1,k2,g0,g1,g2⟩,by simp[d,f2]⟩
theorem jo(f:s.size<=6000):
 CP 31 #[.string s] w λe u=>∃(nm:BA)(la:Option Addr)(ln lc:Nat)(sa:Option Addr)(sn sc:Nat)(ok:Bool),e=.returned (.tuple #[.agg #[.string nm,.slice la ln lc,.slice sa sn sc],.bool ok])/\
  ((ok=true/\∃(inside:LB)(qs:List<|BA×BA),u.ownsRow w.heap.size 175 2 (.slice la ln lc) qs.length (Uu qs)/\Hid (Y3 (bl s)=some (bl nm,inside,sn)/\Wp inside=some (qs.map V9)/\u.ownsRow w.heap.size 179 2 (.slice sa sn sc) sn (ZQ<|Uw<|bl s)))∨(ok=false/\Hid (Y3 (bl s)=none)))/\BW w u:=by
 cases q:LS.seek 123 (bl s)with
 |none=>
  have r:=I<|Lz<|K8 q;have g:=I q;clear q;cases c:LS.seek 125 (bl s)with
  |none=>
   have d:=I c;clear c;go_enter func31,ntmps31;go_wp2_with fail;refine(ON C f g.out).mono ?_;rintro e z ⟨rfl,rfl⟩;go_wp2_with fail;refine(ON C f d.out).mono ?_;rintro e z ⟨rfl,rfl⟩;go_wp2;exact YQ (by simp[results,results31,go_sem]) C ⟨⟨#[]⟩,none,0,0,none,0,0,false,C,.inr ⟨C,r⟩,Yh⟩
  |some b=>
   have d:=I c;clear c;go_enter func31,ntmps31;go_wp2_with fail;refine(ON C f g.out).mono ?_;rintro e z ⟨rfl,rfl⟩;go_wp2_with fail;refine(Qe C f d.out).mono ?_;rintro e z ⟨rfl,rfl⟩;go_wp2;exact YQ (by simp[results,results31,go_sem]) C ⟨⟨#[]⟩,none,0,0,none,0,0,false,C,.inr ⟨C,r⟩,Yh⟩
 |some a=>
  have g:=I q;have V:a<s.size:=by rw[<-Zb];exact NI q
  clear q;cases c:LS.seek 125 (bl s)with
  |none=>
   have r:=I<|nV g c;have d:=I c;clear c;go_enter func31,ntmps31;go_wp2_with fail;refine(Qe C f g.out).mono ?_;rintro e z ⟨rfl,rfl⟩;go_wp2_with fail;refine(ON C f d.out).mono ?_;rintro e z ⟨rfl,rfl⟩;go_wp2;exact YQ (by simp[results,results31,go_sem]) C ⟨⟨#[]⟩,none,0,0,none,0,0,false,C,.inr ⟨C,r⟩,Yh⟩
  |some b=>
   have d:=I c;have O:b<s.size:=by rw[<-Zb];exact NI c
   have R:a≠b:=by
    intro e;subst e;obtain⟨x,y,e1,e2,_⟩:=Pr c;obtain⟨x',y',e3,e4,_⟩:=Pr g;have S:(bl s)[a]?=some 125:=by rw[e1,<-e2];simp
    have t:(bl s)[a]?=some 123:=by rw[e3,<-e4];simp
    rw[S]at t;exact absurd t N
   clear c;by_cases Y:b<a
   .have r:=I<|nS g d Y;go_enter func31,ntmps31;go_wp2_with fail;refine(Qe C f g.out).mono ?_;rintro e z ⟨rfl,rfl⟩;go_wp2_with fail;refine(Qe C f d.out).mono ?_;rintro e z ⟨rfl,rfl⟩;go_wp2;exact YQ (by simp[results,results31,go_sem]) C ⟨⟨#[]⟩,none,0,0,none,0,0,false,C,.inr ⟨C,r⟩,Yh⟩
   .have P:a<b:=X;have a4:a+1<=b:=P;clear R;have e0:bl (s.extract 0 a)=(bl s).take a:=by rw[WL];simp
    have e1:=WL s (a+1) b;have e2:bl (s.extract (b+1) s.size)=(bl s).drop (b+1):=by rw[WL,Wm<|by rw[Zb];exact Yj _]
    have i:Hid<|Y3 (bl s)=if Zx (bl<|s.extract 0 a)&&(Wp<|bl<|s.extract (a+1) b).isSome then(VI<|bl<|s.extract (b+1) s.size).map λn=>(bl<|s.extract 0 a,bl<|s.extract (a+1) b,n)else none:=I<|by
     obtain⟨c1,c2⟩:=nU g.out d.out P;rw[e0,e1,e2];exact Mr c1 c2
    have T:Hid<|Uw _=Qd (bl _):=I<|by unfold Uw;rw[d,e2]
    clear e0 e1 e2;have Z:(s.extract 0 a).size<=6000:=by rw[V5];omega
    have a0:(s.extract (a+1) b).size<=6000:=by rw[V5];omega
    have a1:(s.extract (b+1) s.size).size<=6000:=by rw[V5];omega
    have a5:=KD V;have a6:=KD O;have a7:b+1<=s.size:=O;go_enter func31,ntmps31;go_wp2_with fail;refine(Qe C f g.out).mono ?_;rintro e z ⟨rfl,rfl⟩;go_wp2_with fail;refine(Qe C f d.out).mono ?_;rintro e z ⟨rfl,rfl⟩;go_wp2_with fail;obtain⟨b0,o⟩:∃b0,Zx (bl<|s.extract 0 a)=b0:=⟨_,C⟩;refine(GY Z o).mono ?_;rintro e z ⟨rfl,rfl⟩;rw[o]at i;have HN:=I o;clear o;go_wp2_with fail;refine(ji a0).mono ?_;rintro e w3 ⟨la,ln,lc,ok1,rfl,A,B⟩;have D:Below (w.heap.size+1+1) ((w.alloc<|.cells _ 105).alloc<|.cells _ 105) _:=B.mono Sm;have Q:w.heap.size+1+1<=w3.heap.size:=by have:=B.size;simp at this;omega
    clear B;go_wp2_with fail;refine(jB a1).mono ?_;rintro e U ⟨sa,sn,sc,ok2,rfl,F,G,H⟩;have j:=D.trans<|H.mono Q;obtain⟨⟨k0,k1,k2,g0,g1,g2⟩,⟨m0,m1,m2,n0,n1,n2⟩⟩:=wX j;have a2:=(((Ym _ w).alloc (Yj _) _).alloc Sm _).trans<|j.mono X;clear j D;have k:(b0&&ok1&&ok2)=true/\(∃qs,U.ownsRow (w.heap.size+1+1) 175 2 (.slice la ln lc) qs.length (Uu qs)/\Hid (Y3 (bl s)=some (bl<|s.extract 0 a,bl<|s.extract (a+1) b,sn)/\Wp (bl<|s.extract (a+1) b)=some (qs.map V9)/\U.ownsRow (w.heap.size+1+1) 179 2 (.slice sa sn sc) sn (ZQ<|Uw<|bl s)))∨((b0&&ok1&&ok2)=false/\Hid (Y3 (bl s)=none)):=by
     have p:=i.out;rcases A with⟨rfl,qs,l,J⟩|⟨rfl,J⟩
     .rcases F.out with⟨rfl,K⟩|⟨rfl,K⟩
      .cases b0
       .exact .inr ⟨C,by rw[p];rfl⟩
       .refine .inl ⟨C,qs,Ze (l.mono Sm) H,by rw[p,J,K];rfl,J,T.out▸(G.out C).mono Q⟩
      .exact .inr ⟨by cases b0<;>rfl,by rw[p,J,K];cases b0<;>rfl⟩
     .exact .inr ⟨by cases b0<;>cases ok2<;>rfl,by rw[p,J];cases b0<;>rfl⟩
    clear A F G H i HN;obtain⟨okk,m⟩:∃okk,(b0&&ok1&&ok2)=okk:=⟨_,C⟩;rw[m]at k;have L:∀W:World,W=((((U.setCell ⟨w.heap.size+1,1,none⟩<|.slice la ln lc).setCell ⟨w.heap.size+1,2,none⟩<|.slice sa sn sc).setCell ⟨w.heap.size,0,none⟩<|.string<|s.extract 0 a).setCell ⟨w.heap.size,1,none⟩<|.slice la ln lc).setCell ⟨w.heap.size,2,none⟩ (.slice sa sn sc)->
     ((okk=true/\∃(inside:LB)(qs:List<|BA×BA),W.ownsRow w.heap.size 175 2 (.slice la ln lc) qs.length (Uu qs)/\Hid (Y3 (bl s)=some (bl<|s.extract 0 a,inside,sn)/\Wp inside=some (qs.map V9)/\W.ownsRow w.heap.size 179 2 (.slice sa sn sc) sn (ZQ<|Uw<|bl s)))∨(okk=false/\Hid (Y3 (bl s)=none)))/\BW w W:=by
     rintro W rfl;refine⟨?_,Yh⟩;rcases k with⟨S,qs,l,t⟩|h
     .refine .inl ⟨S,_,qs,?_,t.1,t.2.1,?_⟩
      .refine World.ownsRow.mono (base:=w.heap.size+1+1) ?_ X;exact QX (QX (QX (QX (QX l Sm _) Sm _) (by simp;omega) _) (by simp;omega) _) (by simp;omega) _
      .refine World.ownsRow.mono (base:=w.heap.size+1+1) ?_ X;exact QX (QX (QX (QX (QX t.2.2 Sm _) Sm _) (by simp;omega) _) (by simp;omega) _) (by simp;omega) _
     .exact .inr h
    clear k a2;have M:=I L;clear L;have a3:=I m;clear m;cases b0<;>cases ok1<;>cases ok2;all_goals
     obtain rfl:=a3.out;go_wp2;exact YQ (v:=.tuple #[.agg #[.string<|s.extract 0 a,.slice la ln lc,.slice sa sn sc],.bool _]) (by simp[results,results31,go_sem,k0,k1,k2]) C ⟨s.extract 0 a,la,ln,lc,sa,sn,sc,_,C,(M.out _ C).1,(M.out _ C).2⟩
def RH(ps:List<|LB×LB):Nat->LB
 |0=>[]
 |k+1=>(if 0<k then RH ps k++[44]else RH ps k)++(ps.getD k ([],[])).1++[61]++(ps.getD k ([],[])).2
theorem Rk(a b:BA):bl (a++b)=bl a++bl b:=by simp[bl]
theorem Bw(v:Value)(base:Nat)(w:World)(a:w.ownsRow base 175 2 v qs.length<|Uu qs)(A:qs.length<=6001)(p:Hid<|∀q∈qs,q.1.size<=6000/\q.2.size<=6000):
 CP 32 #[v] w λe u=>∃r:BA,e=.returned (.string r)/\Hid (bl r=RH (qs.map V9) qs.length)/\∃n,u=w.drewN n:=by
 obtain⟨av,cp,rfl⟩:=Zd a;go_enter func32,ntmps32;go_wp2;go_loopw [3,4] (λsv i wr=>∃(k:Nat)(r:BA)(nd:Nat),k<=qs.length/\i=E k/\sv=.string r/\r.size<=12002*k/\Hid (bl r=RH (qs.map V9) k)/\wr=w.drewN nd) (λ_ i _=>qs.length-(intOf i).toNat);case atStart=>exact⟨0,⟨#[]⟩,0,Yr _,C,C,Yj _,C,C⟩
 case round=>
  obtain⟨k,r,nd,B,rfl,rfl,t,j,rfl⟩:=hrel;by_cases c:k<qs.length
  .obtain⟨f1,f2⟩:=Ls qs k;have f:qs[k]?=some qs[k]:=List.getElem?_eq_getElem c;rw[f]at f1 f2;have s:∃g,av=some ⟨g,0,none⟩:=by
    obtain⟨g,cp',h⟩:=Zm a X;injection h with h1;exact⟨g,h1⟩
   obtain⟨g,rfl⟩:=s;have c1:w.cell? ⟨g,k*2,none⟩=some (.string (qs[k]).1):=Zc a _ _ f1;have c2:w.cell? ⟨g,k*2+1,none⟩=some (.string (qs[k]).2):=Zc a _ _ f2;have m:Hid<|(qs.map V9).getD k ([],[])=(bl (qs[k]).1,bl (qs[k]).2):=I<|by simp[c,V9]
   have z:=p.out _<|List.getElem_mem c;generalize(qs[k]).1=x at*;generalize(qs[k]).2=y at*;clear f f1 f2;by_cases o:0<k
   .have l:Hid<|bl (((r++⟨#[44]⟩)++x)++⟨#[61]⟩++y)=RH (qs.map V9) (k+1):=I<|by
     rw[RH,Ye o,m.out,Rk,Rk,Rk,Rk,j.out];rfl
    have d:(((r++⟨#[44]⟩)++x)++⟨#[61]⟩++y).size<=12002*(k+1):=by simp only[Xa];have e44:(⟨#[44]⟩:BA).size=1:=C;have e61:(⟨#[61]⟩:BA).size=1:=C;omega
    have a1:∀W,(Op.stringOp .add r ⟨#[44]⟩).run prog W=.ok (.string<|r++⟨#[44]⟩) W:=λW=>XV W r ⟨#[44]⟩<|by have e44:(⟨#[44]⟩:BA).size=1:=C;omega
    have a2:∀W,(Op.stringOp .add (r++⟨#[44]⟩) x).run prog W=.ok (.string<|(r++⟨#[44]⟩)++x) W:=λW=>XV W _ _<|by simp only[Xa];have e44:(⟨#[44]⟩:BA).size=1:=C;omega
    have a3:∀W,(Op.stringOp .add ((r++⟨#[44]⟩)++x) ⟨#[61]⟩).run prog W=.ok (.string<|((r++⟨#[44]⟩)++x)++⟨#[61]⟩) W:=λW=>XV W _ _<|by simp only[Xa];have e44:(⟨#[44]⟩:BA).size=1:=C;have e61:(⟨#[61]⟩:BA).size=1:=C;omega
    have a4:∀W,(Op.stringOp .add (((r++⟨#[44]⟩)++x)++⟨#[61]⟩) y).run prog W=.ok (.string<|(((r++⟨#[44]⟩)++x)++⟨#[61]⟩)++y) W:=λW=>XV W _ _<|by simp only[Xa];have e44:(⟨#[44]⟩:BA).size=1:=C;have e61:(⟨#[61]⟩:BA).size=1:=C;omega
    go_wp2;go_quiet (fail);go_wp2;go_roundw;case rel=>exact⟨k+1,_,_,X,by go_num,C,d,l,C⟩
    case measure=>simp[intOf];omega
   .have l:Hid<|bl ((r++x)++⟨#[61]⟩++y)=RH (qs.map V9) (k+1):=I<|by
     rw[RH,Yd o,m.out,Rk,Rk,Rk,j.out];rfl
    have d:((r++x)++⟨#[61]⟩++y).size<=12002*(k+1):=by simp only[Xa];have e61:(⟨#[61]⟩:BA).size=1:=C;omega
    have a2:∀W,(Op.stringOp .add r x).run prog W=.ok (.string<|r++x) W:=λW=>XV W _ _ X;have a3:∀W,(Op.stringOp .add (r++x) ⟨#[61]⟩).run prog W=.ok (.string<|(r++x)++⟨#[61]⟩) W:=λW=>XV W _ _<|by simp only[Xa];have e61:(⟨#[61]⟩:BA).size=1:=C;omega
    have a4:∀W,(Op.stringOp .add ((r++x)++⟨#[61]⟩) y).run prog W=.ok (.string<|((r++x)++⟨#[61]⟩)++y) W:=λW=>XV W _ _<|by simp only[Xa];have e61:(⟨#[61]⟩:BA).size=1:=C;omega
    go_wp2;go_quiet (fail);go_wp2;go_roundw;case rel=>exact⟨k+1,_,_,X,by go_num,C,d,l,C⟩
    case measure=>simp[intOf];omega
  .obtain rfl:k=qs.length:=X;go_wp2;go_ret;exact⟨r,C,j,nd,C⟩
structure YX (w:World)(v:Value)(l:List Xc)(qs:List<|BA×BA):Prop where
 own:w.ownsRow 0 175 2 v qs.length<|Uu qs
 say:qs.map V9=l
 len:qs.length<=6001
 ok:∀q∈qs,q.1.size<=6000/\q.2.size<=6000
theorem YX.below{l:List Xc}(h:YX w v l qs)(a:BW w w'):YX w' v l qs:=⟨Ze h.own a,h.say,h.len,h.ok⟩
theorem YX.drewN{l:List Xc}(h:YX w v l qs)(n:Nat):YX (w.drewN n) v l qs:=⟨FF h.own n,h.say,h.len,h.ok⟩
theorem zx(l:List Xc)(n:LB)(k:Nat)(h:∀p∈l.take k,p.1≠n):Sp l n=Sp (l.drop k) n:=by
 induction l generalizing k with
 |nil=>simp
 |cons p l ih=>
  cases k with
  |zero=>rfl
  |succ k=>
   have a:=h p Sm;rw[Sp,Yd a];exact ih k λq c=>h q<|by simp[c]
theorem ZbH{a b:BA}(h:bl a=bl b):a=b:=by
 cases a with|mk x=>cases b with|mk y=>
  have:x=y:=by
   have c:x.toList=y.toList:=h;exact Array.toList_inj.mp c
  rw[this]
theorem Nl(a b:BA):(a.toList==b.toList)=decide (bl a=bl b):=by
 rw[ZA,ZA];by_cases h:bl a=bl b
 .simp[h]
 .simp[h]
theorem zQ(l:List Xc)(qs:List<|BA×BA)(h:qs.map V9=l)(n:LB)(k:Nat)(c:k<qs.length)(d:∀q∈qs.take k,bl q.1≠n)(e:bl (qs[k]).1=n):Sp l n=bl (qs[k]).2:=by
 subst h;rw[zx _ n k<|by intro p a;rw[<-Q3]at a;obtain⟨q,f,rfl⟩:=XJ.mp a;exact d q f];rw[<-Kz,List.drop_eq_getElem_cons c,Wb,Sp,Ye<|show(V9 qs[k]).1=n from e];rfl
theorem zS(l:List Xc)(qs:List<|BA×BA)(h:qs.map V9=l)(n:LB)(c:∀q∈qs,bl q.1≠n):Sp l n=[]:=by
 subst h;rw[zx _ n qs.length<|by intro p a;rw[<-Q3,X1]at a;obtain⟨q,d,rfl⟩:=XJ.mp a;exact c q d];rw[<-Kz,List.drop_length];rfl
theorem zP{l:List Xc}(nm:BA)(h:YX w v l qs):
 CP 110 #[v,.string nm] w λe u=>∃r:BA,e=.returned (.string r)/\Hid (bl r=Sp l (bl nm))/\∃n,u=w.drewN n:=by
 obtain⟨av,cp,rfl⟩:=Zd h.own;have d:Hid<|YX w (.slice av qs.length cp) l qs:=h;have o:=h.len;clear h;go_enter func110,ntmps110;go_wp2;go_loopw [5] (λi wr=>∃(k:Nat)(nd:Nat),k<=qs.length/\i=E k/\Hid (∀q∈qs.take k,bl q.1≠bl nm)/\wr=w.drewN nd) (λi _=>qs.length-(intOf i).toNat);case atStart=>exact⟨0,0,Yr _,C,I<|by intro q c;simp at c,C⟩
 case round=>
  obtain⟨k,nd,z,rfl,j,rfl⟩:=hrel;by_cases a:k<qs.length
  .have p:∃g,av=some ⟨g,0,none⟩:=by
    obtain⟨g,cp',h⟩:=Zm d.own X;injection h with h1;exact⟨g,h1⟩
   obtain⟨g,rfl⟩:=p;have c1:w.cell? ⟨g,k*2,none⟩=some (.string (qs[k]).1):=Zc d.own _ _<|by rw[(Ls qs k).1,List.getElem?_eq_getElem a];rfl
   have c2:w.cell? ⟨g,k*2+1,none⟩=some (.string (qs[k]).2):=Zc d.own _ _<|by rw[(Ls qs k).2,List.getElem?_eq_getElem a];rfl
   by_cases c:bl (qs[k]).1=bl nm
   .have m:=I<|zQ l qs d.say (bl nm) k a j.out c;have s:((qs[k]).1.toList==nm.toList)=true:=by rw[Nl];simp[c]
    generalize(qs[k]).1=x at*;generalize(qs[k]).2=y at*;go_wp2;go_ret;exact⟨_,C,I m.symm,_,C⟩
   .have s:((qs[k]).1.toList==nm.toList)=false:=by rw[Nl];simp[c]
    have t:Hid<|∀q∈qs.take<|k+1,bl q.1≠bl nm:=I (by
     intro q f;rw[List.take_succ_eq_append_getElem a]at f;rcases Wk.mp f with h|h
     .exact j.out q h
     .rw[Vs]at h;subst h;exact c);generalize(qs[k]).1=x at*;generalize(qs[k]).2=y at*;go_wp2;go_roundw;case rel=>exact⟨k+1,_,X,by go_num,t,C⟩
    case measure=>simp[intOf];omega
  .obtain rfl:k=qs.length:=X;have m:=I<|zS l qs d.say (bl nm)<|by have:=j.out;rwa [X1]at this
   go_wp2;go_ret;exact⟨_,C,I m.symm,_,C⟩
theorem Jl {op:Nat}(g:op<=3)(a b:Int)(d:YD a)(f:YD b)(w:World):CP 77 #[E op,E a,E b] w λe u=>e=.returned (E<|YI op a b)/\u=w:=by
 obtain⟨a1,a2⟩:=d;obtain⟨b1,b2⟩:=f;rcases(X:op=0∨op=1∨op=2∨op=3)with rfl|rfl|rfl|rfl
 .rw[AI];go_enter func77,ntmps77;go_wp2_with(go_at_call 74;refine(LL _ _).mono ?_;rintro e u ⟨rfl,rfl⟩);go_ret;exact⟨C,C⟩
 .rw[AJ];go_enter func77,ntmps77;go_wp2_with(go_at_call 74;refine(LL _ _).mono ?_;rintro e u ⟨rfl,rfl⟩);go_ret;exact⟨C,C⟩
 · have i:(Go.IntKind.i64).wrap (a*b)=a*b:=by
     have j:=CR a b a1 a2 b1 b2;generalize a*b=ab at*;rw[Us];omega
   rw[AK];go_enter func77,ntmps77;go_wp2_with(go_at_call 74;refine(LL _ _).mono ?_;rintro e u ⟨rfl,rfl⟩);go_ret;exact⟨C,C⟩
 · have h:(a.tdiv b).natAbs<=a.natAbs:=by rw[Kv];exact MU _ _
   have k:(Go.IntKind.i64).wrap (a.tdiv b)=a.tdiv b:=by rw[Us];omega
   by_cases c:b=0
   .subst c;rw[AM];go_enter func77,ntmps77;go_wp2;go_ret;exact⟨C,C⟩
   .rw[AL a b c];go_enter func77,ntmps77;go_wp2;go_ret;exact⟨C,C⟩
theorem mZ{a:Nd}(s:YY){qs:List<|BA×BA×Bool}(h:qs.map VL=a.kq)(k:Nat)(c:k<qs.length)(d:RM s (VL qs[k])=false):UI a s=false:=by
 unfold UI;rw[<-h,show(qs.map _).all _=false from ?_];rfl;rw[Kn];exact⟨VL _,XJ.mpr ⟨_,List.getElem_mem c,C⟩,by simp[d]⟩
theorem lf{a:Nd}(s:YY){qs:List<|BA×BA×Bool}(h:qs.map VL=a.kq)(d:∀q∈qs,RM s (VL q)=true):UI a s=decide (a.name=s.name):=by
 unfold UI;rw[<-h,show(qs.map _).all _=true from ?_];rfl;rw[Tt];intro c e;obtain⟨q,f,rfl⟩:=XJ.mp e;exact d q f
theorem jM(p:PV)(nd:Nd)(s:YY)(K:bl p.nm=nd.name)(hc:ZP w 0 p nd.kq)(o:nd.kq.length<=100000)(sn:BA)(L:bl sn=s.name)(qs:List<|BA×BA)(T:YX w lv s.labs qs)(sa:Option Addr)(sln slc:Nat):
 CP 72 #[.agg #[E p.k,E p.n,E p.op,.string p.nm,.slice p.ca p.cn p.cc,.slice p.ba p.bn p.bc,E p.a,E p.b],.agg #[.string sn,lv,.slice sa sln slc]] w λe u=>e=.returned (.bool<|UI nd s)/\BW w u:=by
 obtain⟨cs,f,t⟩:=hc;obtain⟨av,cp,hv⟩:=Zd f;injection hv with hv1 hv2 hv3;obtain⟨la,lc,rfl⟩:=Zd T.own;have U:Hid<|w.ownsRow 0 268 3 (.slice p.ca cs.length p.cc) cs.length<|TU cs:=by have:=f;rw[hv2]at this;exact this
 have d:Hid<|bl _=nd.name/\cs.map _=nd.kq/\bl _=s.name:=⟨K,t,L⟩;have HL:=I T;have a3:cs.length<=100000:=by rw[<-t,Yz]at o;exact o
 clear f hv3 t K L T o;obtain⟨pk,pn,pop,pnm,pca,pcn,pcc,pba,pbn,pbc,pa,pb⟩:=p;simp only at hv1 hv2 d U;subst hv2;clear hv1;have Z:Hid<|(pnm.toList==sn.toList)=decide _:=I<|by rw[Nl,d.1,d.2.2]
 go_enter func72,ntmps72;go_wp2;go_loopg [5] cs.length (λgk v5 wr=>∃k:Nat,k<=cs.length/\gk=cs.length-k/\v5=E k/\Hid (∀q∈cs.take k,RM s (VL q)=true)/\Hid (BW w wr)/\Hid (Yq wr w.heap.size ⟨pk,pn,pop,pnm,pca,cs.length,pcc,pba,pbn,pbc,pa,pb⟩)/\Hid (Ya wr (w.heap.size+1) [.string sn,.slice la qs.length lc,.slice sa sln slc] 105));case atStart=>exact⟨0,Yr _,C,C,I<|by intro q hq;simp at hq,I<|Yc.alloc Sm _,I<|Yc.block _ Sm|>.trans (Go.Deep.blk_alloc_new _ _),I<|by have:=Go.Deep.blk_alloc_new (w.alloc<|.cells #[E pk,E pn,E pop,.string pnm,.slice pca cs.length pcc,.slice pba pbn pbc,E pa,E pb] 59)<|.cells #[.string sn,.slice la qs.length lc,.slice sa sln slc] 105;rw[Sz]at this;exact this⟩
 case round=>
  obtain⟨k,hk,a4,rfl,HR,z,A,B⟩:=hrel;have b1:=B.cell 0;have b2:=B.cell 1;simp only[Yf]at b1 b2;obtain⟨k0,k1,k2,k3,k4,k5,k6,k7⟩:=A.all;by_cases D:k<cs.length
  .have hg:∃g,pca=some ⟨g,0,none⟩:=by
    obtain⟨g,cp',h⟩:=Zm U.out X;injection h with h1;exact⟨g,h1⟩
   obtain⟨g,rfl⟩:=hg;have i:=I<|Ze U z;obtain⟨f1,f2,f3⟩:=Dx cs k;rw[List.getElem?_eq_getElem D]at f1 f2 f3;have d1:=Zc i _ _ f1;have d2:=Zc i _ _ f2;have d3:=Zc i _ _ f3;have HK:=I λh=>mZ s d.2.1 k D h;have HN:Hid<|RM s (VL cs[k])=true->∀q∈cs.take<|k+1,RM s (VL q)=true:=by
    intro hh q M;rw[List.take_succ_eq_append_getElem D]at M;rcases Wk.mp M with h|h
    .exact HR q h
    .rw[Vs]at h;subst h;exact hh
   generalize cs[k]=c at*;obtain⟨x,y,v⟩:=c;simp only at d1 d2 d3;clear f1 f2 f3;go_upto_region 5 with fail;refine Zs λW V=>?_;have j:Below _ _ W:=V▸Yc;have F:Hid<|Ya W _ _ 268:=V▸Go.Deep.blk_alloc_new _ _;have G:=I<|z.trans<|j.mono z.size;have O:=I<|B.below j;have P:Hid<|Yq W _ _:=I<|(j.block _ A.lt).trans A;have a5:=A.lt;have a6:=B.lt;have a7:=F.lt;have a0:=I<|HL.below G;clear V j z B A b1 b2 k0 k1 k2 k3 k4 k5 k6 k7 d1 d2 d3 i;have b2:=O.cell 1;have c0:=F.cell 0;have c1:=F.cell 1;have c2:=F.cell 2;simp only[Yf]at b2 c0 c1 c2;go_region_held3 (λu=>u.cell? ⟨w.heap.size+1,1,none⟩=some (.slice la qs.length lc)/\u.cell? ⟨wr.heap.size,0,none⟩=some (.string x)/\u.cell? ⟨wr.heap.size,1,none⟩=some (.string y)) (first|exact⟨b52,c50,c51⟩|exact⟨b2,c0,c1⟩|go_keep) (first
    | (go_at_call 110;refine(zP x<|by exact a0.below ⟨C,C,C,Yj _,λ_ _=>C⟩).mono ?_;rintro e w5 ⟨r,rfl,a1,n5,Q⟩;have l:Hid<|BW W w5:=I<|by rw[Q];exact⟨C,C,C,Yj _,λ_ _=>C⟩
       have H:=I<|F.below l.out;have R:=I<|O.below l.out;have c50:=H.cell 0;have c51:=H.cell 1;have c52:=H.cell 2;have b52:=R.cell 1;simp only[Yf]at c50 c51 c52 b52;clear Q));have HQ:Hid<|RM s (VL (x,y,v))=!((r.toList==y.toList)==v):=by
    rw[Nl,a1];rfl
   have S:=I<|G.trans<|l.mono G.size;have a2:Hid<|Yq _ _ _:=I<|(l.block _ P.lt).trans P;generalize(r.toList==y.toList)=b at*;by_cases m:b=v
   .have J:=I<|HK<|by rw[HQ,m];simp
    have Y:(b==v)=true:=by rw[m];simp
    go_wp2;go_ret;exact⟨by rw[J];rfl,S⟩
   .have J:=I<|HN<|by rw[HQ];simp[m]
    have Y:(b==v)=false:=by simp[m]
    go_wp2;go_roundg (cs.length-(k+1));case measure=>omega
    case rel=>exact⟨k+1,X,C,by go_num,J,S,a2,R⟩
  .obtain rfl:k=cs.length:=X;have J:=I<|lf s d.2.1<|by have:=HR.out;rwa [X1]at this
   have a8:=Z.out;go_wp2;go_ret;exact⟨by rw[J,<-Z];rfl,z⟩
