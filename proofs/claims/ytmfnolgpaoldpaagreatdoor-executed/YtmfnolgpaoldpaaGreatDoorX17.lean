/- Parts. -/
import Derived.Test.YtmfnolgpaoldpaaGreatDoorX16
import Derived.Test.YtmfnolgpaoldpaaGreatDoorX07
set_option linter.all false
set_option maxRecDepth 100000
set_option maxHeartbeats 16000000
namespace Go.Proofs.YtmfnolgpaoldpaaGreatDoor
open Go.RowKit LS Go.Proofs.Tryz
open Go renaming World->Y,Value->F
open Go.RowKit renaming Hid->U
variable {x:CV}{y:Cl}{cv gv iv lv pv sv v:F}{t:Int}{inside last:LB}{sl xs:List CV}{ys:List Cl}{l:List PV}{ss:List SZ}{es:List Yn}{rs:List<|F×F×F}{P:List<|LB}{acc ps:List<|LB×LB}{g:List<|Option Addr×Nat×Nat}{m:MQ}{a arg b cap cb i k mb n op s sc sn:Nat}{sa:Option Addr}{w w' w0 wr:Y}{c:Yb}
theorem qZ{x:LB}{p:LB×LB}(h:Rq last x=some p):p.1.length<=8/\p.2.length<=8:=by
 unfold Rq at h;cases e:cut 61 x with
 |none=>rw[e]at h;cases h
 |some q=>
  obtain⟨n,v⟩:=q;rw[e]at h;simp only at h;split at h
  .rename_i a;have:=Ub h;subst this;simp only[Vt]at a;have c:=a.1.1.1;have d:=a.1.1.2;unfold Zx at c;unfold ZY at d;simp only[Vt,Kn]at c d;exact⟨by have:=c.2.2;show n.length<=8;omega,by have:=d.2;show v.length<=8;omega⟩
  .cases h
theorem pe{xs:List<|LB}(h:Wf last acc xs=some ps)(d:∀p∈acc,p.1.length<=8/\p.2.length<=8):ps.length=acc.length+xs.length/\∀p∈ps,p.1.length<=8/\p.2.length<=8:=by
 induction xs generalizing last acc with
 |nil=>simp only[Wf,QZ]at h;subst h;exact⟨C,d⟩
 |cons x xs ih=>
  unfold Wf at h;cases c:Rq last x with
  |none=>rw[c]at h;cases h
  |some p=>
   rw[c]at h;have:=ih h (λq a=>by
    rcases Wk.1 a with a|a
    .exact d q a
    .simp at a;subst a;exact qZ c);exact⟨by rw[this.1];simp;omega,this.2⟩
theorem C9{l:LB}(h:Wp l=some ps)(a:l.length<=6000):ps.length<=6001/\∀p∈ps,p.1.length<=8/\p.2.length<=8:=by
 unfold Wp at h;split at h
 .have:=Ub h;subst this;simp
 .have:=pe h<|Sm;exact⟨by rw[this.1];have:=Qe 44 l;simp;omega,this.2⟩
theorem nP{l a b:LB}(h:Y3 l=some (a,b,n)):b.length<=l.length:=by
 have c:=(Fm h).2.2;have:(SR l).length<=l.length:=by
  unfold SR;cases d:cut 125 l with
  |none=>exact Yj _
  |some p=>obtain⟨x,y⟩:=p;rw[(Rm d).1];simp
 rw[c]at this;simp at this;omega
def RY(w:Y)(lv:F)(inside:LB):Prop:=∃qs:List<|BA×BA,w.ownsRow 0 175 2 lv qs.length (Uu qs)/\Wp inside=some (qs.map V8)
theorem RY.below(h:RY w lv inside)(a:BW w w'):RY w' lv inside:=by
 obtain⟨qs,c,d⟩:=h;exact⟨qs,Ze c a,d⟩
theorem RY.grown{e:TypeId}{xs:List F}(h:RY w lv inside)(c:w.grownBy w' v.ownBlock)(d:w.ownsRow b e s v n xs)(f:175≠e):RY w' lv inside:=by
 obtain⟨qs,a,g⟩:=h;exact⟨qs,a.kept c<|QD a d f,g⟩
def Ty(w:Y)(rs:List<|F×F×F)(es:List Yn):Prop:=rs.length=es.length/\∀j (h:j<es.length),∃(nm:BA)(la:Option Addr)(ln lc:Nat)(sa:Option Addr)(sc:Nat),
 rs[j]?=some (.string nm,.slice la ln lc,.slice sa (es[j]).count sc)/\bl nm=(es[j]).name/\Zx (es[j]).name=true/\(es[j]).inside.length<=6000/\RY w (.slice la ln lc) (es[j]).inside
theorem Ty.nil(w:Y):Ty w [] []:=⟨C,λj h=>by simp at h⟩
theorem Ty.below(h:Ty w rs es)(a:BW w w'):Ty w' rs es:=
 ⟨h.1,λj c=>by obtain⟨nm,la,ln,lc,sa,sc,e1,e2,e3,e4,e5⟩:=h.2 j c;exact⟨nm,la,ln,lc,sa,sc,e1,e2,e3,e4,e5.below a⟩⟩
theorem Ty.grown{e:TypeId}{xs:List F}(h:Ty w rs es)(a:w.grownBy w' v.ownBlock)(c:w.ownsRow b e s v n xs)(d:175≠e):Ty w' rs es:=
 ⟨h.1,λj f=>by obtain⟨nm,la,ln,lc,sa,sc,e1,e2,e3,e4,e5⟩:=h.2 j f;exact⟨nm,la,ln,lc,sa,sc,e1,e2,e3,e4,e5.grown a c d⟩⟩
theorem Ty.snoc(h:Ty w rs es)(x:Yn)(nm:BA)(la:Option Addr)(ln lc:Nat)(sa:Option Addr)(sc:Nat)
 (d:bl nm=x.name)(e:Zx x.name=true)(f:x.inside.length<=6000)(g:RY w (.slice la ln lc) x.inside):Ty w (rs++[(.string nm,.slice la ln lc,.slice sa x.count sc)])<|es++[x]:=by
 refine⟨by simp[h.1],λj i=>?_⟩;by_cases a:j<es.length
 .obtain⟨nm',la',ln',lc',sa',sc',e1,e2⟩:=h.2 j a;refine⟨nm',la',ln',lc',sa',sc',?_⟩;rw[PA<|h.1▸a,List.getElem_append_left a];exact⟨e1,e2⟩
 .have c:j=es.length:=by simp at i;omega
  subst c;refine⟨nm,la,ln,lc,sa,sc,?_⟩;rw[Rg<|h.1▸Yj _,h.1];simp[d,e,f,g]
def U6(w:Y)(rs:List<|F×F×F)(es:List Yn)(P:List<|LB):Prop:=∀j (h:j<es.length),∃(x y:F)(sa:Option Addr)(sc:Nat),rs[j]?=some (x,y,.slice sa (es[j]).count sc)/\w.ownsRow 0 179 2 (.slice sa (es[j]).count sc) (es[j]).count (ZQ<|Uw<|P.getD (es[j]).at_ [])
theorem U6.nil(w:Y)(P:List<|LB):U6 w [] [] P:=λj h=>by simp at h
theorem U6.below (h:U6 w rs es P)(a:BW w w'):U6 w' rs es P:=λj c=>by
 obtain⟨x,y,sa,sc,e1,e2⟩:=h j c;exact⟨x,y,sa,sc,e1,Ze e2 a⟩
theorem U6.grown {e:TypeId}{xs:List F}(h:U6 w rs es P)(a:w.grownBy w' v.ownBlock)(c:w.ownsRow b e s v n xs)(d:179≠e):U6 w' rs es P:=λj f=>by
 obtain⟨x,y,sa,sc,e1,e2⟩:=h j f;exact⟨x,y,sa,sc,e1,e2.kept a<|QD e2 c d⟩
theorem U6.snoc(c:rs.length=es.length)(h:U6 w rs es P)(z:Yn)(x y:F)(sa:Option Addr)(sc:Nat)
 (e:w.ownsRow 0 179 2 (.slice sa z.count sc) z.count<|ZQ<|Uw<|P.getD z.at_ []):U6 w (rs++[(x,y,.slice sa z.count sc)]) (es++[z]) P:=λj f=>by
 by_cases a:j<es.length
 .obtain⟨x',y',sa',sc',e1,e2⟩:=h j a;refine⟨x',y',sa',sc',?_⟩;rw[PA<|c▸a,List.getElem_append_left a];exact⟨e1,e2⟩
 .have d:j=es.length:=by simp at f;omega
  subst d;refine⟨x,y,sa,sc,?_⟩;rw[Rg<|c▸Yj _,c];simp only[Kz,Qo,List.getElem_append_right<|Yj _,List.getElem_cons_zero];exact⟨trivial,e⟩
def Pa(w:Y)(v:F)(l:LB):Prop:=∃(es:List Yn)(rs:List<|F×F×F),ZT 0 [] (split 10 l)=.inr es/\Ut [] es=none/\es.length<=30/\w.ownsRow 0 105 3 v es.length (TS rs)/\Ty w rs es/\U6 w rs es (split 10 l)
theorem Pa.below{l:LB}(h:Pa w v l)(a:BW w w'):Pa w' v l:=by
 obtain⟨es,rs,c,d,e,f,g,i⟩:=h;exact⟨es,rs,c,d,e,Ze f a,g.below a,i.below a⟩
theorem Bs(h:RY w lv inside)(g:inside.length<=6000):
 CP 32 #[lv] w λe u=>∃r:BA,e=.returned (.string r)/\U (bl r=inside)/\∃n,u=w.drewN n:=by
 obtain⟨qs,c,f⟩:=h;have a:=C9 f g;have d:qs.length<=6001:=by have:=a.1;rwa [Yz]at this
 refine(Br _ 0 w c d λq i=>?_).m ?_
 .have:=a.2 _<|XK.2 ⟨q,i,C⟩;have l:q.1.size<=8:=by rw[<-Zb];exact this.1
  have m:q.2.size<=8:=by rw[<-Zb];exact this.2
  exact⟨X,X⟩
 .rintro e u ⟨r,rfl,j,k⟩;refine⟨r,C,?_,k⟩;rw[j];have:=zu f;rwa [Yz]at this
theorem Tryz.infoRSeries:(Tryz.prog.info? 105).map (λi=>(i.zero,i.size,i.bytes))=some (some<|.agg #[.string ByteArray.empty,S0,S0],3,64):=Kr
theorem Tryz.infoInt:(Tryz.prog.info? 3).map (λi=>(i.zero,i.size,i.bytes))=some (some<|E 0,1,8):=Kr
theorem jh(s:BA)(w:Y)(c:6000<s.size)(a:s.size<=maxLen):
 CP 15 #[.string s] w λe u=>∃v,e=.returned (.tuple #[v,E 1,E 0])/\BW w u:=by
 unfold maxLen at a;go_enter func15,ntmps15;go_wp2;go_ret3;exact⟨_,C,Ym _ _⟩
def K1(es:List Yn):List F:=es.map λe=>.int .i64 (e.at_:Int)
theorem fE(es:List Yn)(x:Yn):Vy (es++[x]) (es++[x]).length=Vy es es.length+x.count:=by
 unfold Vy;rw[X1,X1,Xa,Kt];simp
def Th(es:List Yn)(i:Nat):LB:=(es[i]?.map TV).getD []
theorem Mp(h:i<es.length):Th es i=TV es[i]:=by unfold Th;rw[List.getElem?_eq_getElem h];rfl
theorem sR(a:i<es.length)(c:k<i)(d:Th es k=Th es i):Ut (es.take i) (es.drop i)=some (es[i]).at_:=
 sP a c<|by rw[<-Mp,<-Mp];exact d
theorem sS(a:i<es.length)(c:∀k,k<i->Th es k≠Th es i):Ut (es.take i) (es.drop i)=Ut (es.take<|i+1) (es.drop<|i+1):=
 sQ a λk d=>by rw[<-Mp,<-Mp];exact c k d
theorem oD{a:i<es.length}{c:k<es.length}(n1:Zx (es[i]).name=true)(n2:Zx (es[k]).name=true):Th es k=Th es i↔(es[i]).name=(es[k]).name/\(es[i]).inside=(es[k]).inside:=by
 rw[Mp a,Mp c,He n2 n1];exact⟨λh=>⟨h.1.symm,h.2.symm⟩,λh=>⟨h.1.symm,h.2.symm⟩⟩
theorem ji(s:BA)(w:Y)(hs:s.size<=6000):
 CP 15 #[.string s] w λe w'=>∃v,e=.returned (.tuple #[v,E (ZG<|bl s).1,E (ZG<|bl s).2])/\BW w w'/\U ((ZG<|bl s).1=0->Pa w' v (bl s)):=by
 obtain⟨i0,hi,d4,d5,d6⟩:=Xv Tryz.infoRSeries;obtain⟨j0,hj,d7,d8,d9⟩:=Xv Tryz.infoInt;have hL:U<|∀x,(match ZT 0 []<|split 10 (bl s)with
  |.inl i=>(5,i)
  |.inr es=>match Uj 0 []<|split 10<|bl s with
   |some i=>(6,i)
   |none=>if 30<es.length\/200<Vy es es.length then(7,0)else(0,0))=x->ZG (bl s)=x:=by
  intro x hx;unfold ZG;rw[Yd<|by rw[Zb];omega];exact hx
 go_enter func15,ntmps15;go_wp2_with fail;refine(LJ s 10 C hs).m ?_;rintro e L ⟨g,n,cp,bs,rfl,hn,g2,e0,M,O,a0⟩;have HN:=I hn;have g3:n<=6001:=by
  have:=Qe 10<|bl s;rw[<-O,Yz,Zb]at this;omega
 clear hn;go_wp2;go_loopw [5,6,8,9] (λv av nv i wr=>∃(k:Nat)(es:List Yn)(rs:List<|F×F×F),k<=n/\i=E k/\es.length<=k/\nv=E (Vy es es.length)/\Vy es es.length<=6001*k/\
  wr.ownsRow L.heap.size 105 3 v es.length (TS rs)/\wr.ownsRow L.heap.size 3 1 av es.length (K1 es)/\U (Ty wr rs es/\U6 wr rs es (split 10<|bl s))/\U (ZT 0 [] (split 10<|bl s)=ZT k es ((split 10<|bl s).drop k))/\BW L wr)
   (λ_ _ _ i _=>n-(intOf i).toNat);case atStart=>exact⟨0,[],[],Yr _,C,Yj _,C,Yj _,Xm _ _ _ _,Xm _ _ _ _,⟨Ty.nil _,U6.nil _ _⟩,C,Ym _ _⟩
 case round=>
  obtain⟨k,es,rs,hk,rfl,g4,rfl,g0,c,G,t,HA,P⟩:=hrel;have e3:=P.size;by_cases e4:k<n
  .have b1:k<bs.length:=by rwa [<-HN.o]
   have a1:k<(split 10<|bl s).length:=by rwa [<-O.o,Yz]
   have e5:=(P.cell e0).trans<|M k b1;have R:=I<|Mu O k b1;generalize bs[k]=sk at e5 R;have c0:sk.size<=6000:=by rw[ZE R];have:=OV _ _ k a1;rw[Zb]at this;omega
   cases he:sk.toList.isEmpty
   .have b2:U<|(split _ _).getD k _≠[]:=R.o▸OI he;go_wp2_with fail;refine(jg c0).m ?_;rintro e z ⟨nm,la,ln,lc,sa,sn,sc,ok,rfl,c6,H⟩;have g5:=H.size;have b3:=P.trans<|H.mono e3;rcases c6 with⟨rfl,inside,qs,a6,p⟩|⟨rfl,p⟩
    .have l:=p.1;have g6:sn<=6001:=by have:=Bd l;rw[Zb]at this;omega
     have b4:=(Fm l).1;have b5:inside.length<=6000:=by have:=nP l;rw[Zb]at this;omega
     have D:U<|ZT 0 _ _=ZT _ _ _:=HA.o▸Bf a1 b2.o (by rw[<-R.o];exact l);have b6:RY _ _ _:=⟨qs,a6.mono<|Yr _,p.2.1⟩;have S:U<|Ty z (rs++[(.string nm,.slice la ln lc,.slice sa sn sc)]) (es++[⟨k,bl nm,inside,sn⟩])/\U6 z (rs++[(.string nm,.slice la ln lc,.slice sa sn sc)]) (es++[⟨k,bl nm,inside,sn⟩]) (split 10<|bl s):=⟨(t.1.below H).snoc ⟨k,bl nm,inside,sn⟩ nm la ln lc sa sc C b4 b5 b6,U6.snoc t.1.1 (t.2.below H) ⟨k,bl nm,inside,sn⟩ _ _ sa sc<|by show z.ownsRow 0 179 2 (.slice sa sn sc) sn<|ZQ<|Uw<|(split 10<|bl s).getD k [];rw[<-R];exact p.2.2.mono<|Yr _⟩;have f:=Ze c H;have T:=Ze G H;have HS:U<|Vy _ _=Vy _ _+sn:=fE es ⟨k,bl nm,inside,sn⟩;clear l a6 p b6 t HA c G b4 b5;go_wp2_with(at_builtin;refine XC _ C (.tmp 43) (.tmp 45) 45 C L.heap.size 105 i0 (.agg #[.string ByteArray.empty,S0,S0]) 3 64 underlying45 hi d4 d5 d6 C N _ _ _ C ((f.alloc _).alloc _) ⟨z.heap.size+1,0,none⟩ 1 1 [.string nm,.slice la ln lc,.slice sa sn sc] C C ?c1 ?c2 ?c3 ?c4 ?c5 ?_);case c1=>exact EP (Sm) (Sm)<|Sm
     case c2=>intro u hu;simp at hu;rcases hu with rfl|rfl|rfl<;>rfl
     case c3=>unfold maxLen;omega
     case c4=>omega
     case c5=>simp;omega
     intro v3 Q a2 a _;have g7:z.heap.size+1+1<=Q.heap.size:=by have:=a.size;simp at this;omega
     have e6:=((b3.alloc X _).alloc (by simp;omega) _).grown a (by simp;omega) λq hq=>(f.lt q hq).1;have r:=((T.alloc _).alloc _).kept a<|QD T f N;have V:∀o o':Obj,Below _ _<|(z.alloc o).alloc o':=λo o'=>Yc.alloc (Sm) _;have W:U<|Ty Q (rs++[(.string nm,.slice la ln lc,.slice sa sn sc)]) (es++[⟨k,bl nm,inside,sn⟩])/\U6 Q (rs++[(.string nm,.slice la ln lc,.slice sa sn sc)]) (es++[⟨k,bl nm,inside,sn⟩]) (split 10<|bl s):=⟨Ty.grown (S.1.below<|V _ _) a ((f.alloc _).alloc _) N,U6.grown (S.2.below<|V _ _) a ((f.alloc _).alloc _) N⟩;have a7:Q.heap[z.heap.size]?=some (.cells #[.string nm,.slice la ln lc,.slice sa sn sc] 105 (0,0)):=by
      refine(a.block _ (by simp;omega) ?_).trans ?_
      .intro he;have:=(f.lt _ he.symm).2;simp at this
      .rw[Below.heap_alloc _ _ _<|Sm];exact J6
     have b7:=(Gw a7).2;have J:Q.ownsRow L.heap.size 105 3 v3 (es++[(⟨k,bl nm,inside,sn⟩:Yn)]).length<|TS<|rs++[(.string nm,.slice la ln lc,.slice sa sn sc)]:=by
      rw[su,Yx];exact a2
     clear a2 a f T S;go_wp2_with(at_builtin;refine XC _ C (.tmp 47) (.tmp 49) 76 C L.heap.size 3 j0 (E 0) 1 8 underlying76 hj d7 d8 d9 C N _ _ _ C (r.alloc _) ⟨Q.heap.size,0,none⟩ 1 1 [E k] C C ?c1 ?c2 ?c3 ?c4 ?c5 ?_);case c1=>exact cell_one_new _ _ _
     case c2=>intro u hu;simp at hu;subst hu;rfl
     case c3=>unfold maxLen;omega
     case c4=>omega
     case c5=>simp;omega
     intro v5 w5 a8 d _;have e7:=(e6.alloc X _).grown d (by simp;omega) λq hq=>(r.lt q hq).1;have b0:=(J.alloc _).kept d<|QD J r N;have Z:∀o:Obj,Below _ _<|Q.alloc o:=λo=>Yc;have c7:U<|Ty w5 (rs++[(.string nm,.slice la ln lc,.slice sa sn sc)]) (es++[⟨k,bl nm,inside,sn⟩])/\U6 w5 (rs++[(.string nm,.slice la ln lc,.slice sa sn sc)]) (es++[⟨k,bl nm,inside,sn⟩]) (split 10<|bl s):=⟨Ty.grown (W.1.below<|Z _) d (r.alloc _) N,U6.grown (W.2.below<|Z _) d (r.alloc _) N⟩;have g8:w5.cell? ⟨z.heap.size,2,none⟩=some (.slice sa sn sc):=by
      refine d.cell ?_<|ZD r a7 N;rw[TM _ _ _<|by show z.heap.size<Q.heap.size;omega];exact b7
     have c8:w5.ownsRow L.heap.size 3 1 v5 (es++[(⟨k,bl nm,inside,sn⟩:Yn)]).length<|K1<|es++[(⟨k,bl nm,inside,sn⟩)]:=by
      unfold K1;rw[Xa,Yx];exact a8
     clear a8 d J r W b7 a7 V Z;go_wp2;go_roundw;case rel=>exact⟨k+1,_,_,X,by go_num,by simp;omega,by rw[HS];go_num,by rw[HS];omega,b0,c8,c7,D,e7⟩
     case measure=>simp[intOf];omega
    .have D:U _:=HA.o▸Be a1 b2.o (by rw[<-R.o];exact p.o);have A:U<|ZG _=(5,k):=hL _<|by rw[D]
     go_wp2;go_ret3;exact⟨_,by rw[A];rfl,a0.trans<|(b3.alloc X _).mono a0.size,I λh=>by rw[A]at h;cases h⟩
   .have D:U _:=HA.o▸Bg a1 (by rw[<-R.o];exact Pm he);go_wp2;go_roundw;case rel=>exact⟨k+1,es,rs,X,by go_num,X,C,X,c,G,t,D,P⟩
    case measure=>simp[intOf];omega
  .have D:U<|ZT 0 [] (split 10<|bl s)=.inr es:=HA.o▸Co (by rw[<-O.o,Yz,<-HN.o];exact e4);have g1:es.length<=6001:=X;have b8:=I<|AC D;obtain⟨lv,lcp,rfl⟩:=Zd c;obtain⟨tv,tcp,rfl⟩:=Zd G;have g9:=a0.trans<|P.mono a0.size;clear HA M O;go_wp2;go_loopw [12] (λi wi=>∃(m nd:Nat),m<=es.length/\i=E m/\wi=wr.drewN nd/\U (Ut [] es=Ut (es.take m) (es.drop m))) (λi _=>es.length-(intOf i).toNat);case atStart=>exact⟨0,0,Yr _,C,C,C⟩
   case round=>
    obtain⟨m,nd,hm,rfl,rfl,HD⟩:=hrel;by_cases a3:m<es.length
    .obtain⟨gl,c9⟩:∃gl,lv=some ⟨gl,0,none⟩:=by
      obtain⟨gl,cp',h⟩:=Zm c X;injection h with K;exact⟨gl,K⟩
     obtain⟨ga,d0⟩:∃ga,tv=some ⟨ga,0,none⟩:=by
      obtain⟨ga,cp',h⟩:=Zm G X;injection h with K;exact⟨ga,K⟩
     subst c9;subst d0;have e8:wr.cell? _=some (E (es[m]).at_):=Zc G m _<|by simp[K1,a3]
     obtain⟨nmi,lai,lni,lci,sai,sci,r1,r2,r3,r4,r5⟩:=t.1.2 m a3;obtain⟨f1,f2,_⟩:=Do rs m;rw[r1]at f1 f2;have ci1:wr.cell? _=some (.string _):=Zc c _ _ f1;have ci2:wr.cell? _=some (.slice _ _ _):=Zc c _ _ f2;have HI:U<|bl _=(es[m]).name/\Zx _=true/\(es[m]).inside.length<=6000/\RY _ _ _:=⟨r2,r3,r4,r5⟩;have b9:=I HD.symm;generalize hat_:(es[m]).at_=atm at e8;have d1:=I hat_;clear r1 r2 r3 r4 r5 f1 f2 hat_ HD;go_wp2;go_loopw [13] (λj wj=>∃(q nd:Nat),q<=m/\j=E q/\wj=wr.drewN nd/\U (∀k,k<q->Th es k≠Th es m)) (λj _=>m-(intOf j).toNat);case atStart=>exact⟨0,nd,Yr _,C,C,λk h=>absurd h<|Tu _⟩
     case round=>
      obtain⟨q,nd2,i1,rfl,rfl,HQ⟩:=hrel;by_cases e9:q<m
      .have d2:q<es.length:=X;obtain⟨nmk,lak,lnk,lck,sak,sck,r1,r2,r3,r4,r5⟩:=t.1.2 q d2;obtain⟨f1,f2,_⟩:=Do rs q;rw[r1]at f1 f2;have ck1:wr.cell? _=some (.string _):=Zc c _ _ f1;have ck2:wr.cell? _=some (.slice _ _ _):=Zc c _ _ f2;have a4:U<|bl _=(es[q]).name/\Zx _=true/\(es[q]).inside.length<=6000/\RY _ _ _:=⟨r2,r3,r4,r5⟩;clear r1 r2 r3 r4 r5 f1 f2;go_wp2_with fail;refine(Bs (HI.2.2.2.below<|Ou _ _ _) HI.2.2.1).m ?_;rintro e wx ⟨ra,rfl,f0,na,rfl⟩;go_wp2_with fail;refine(Bs (a4.2.2.2.below<|Ou _ _ _) a4.2.2.1).m ?_;rintro e wx ⟨rb,rfl,f3,nb,rfl⟩;have a5:=oD HI.2.1 a4.2.1;have f4:((nmi.toList==nmk.toList)=true/\(ra.toList==rb.toList)=true/\Th es q=Th es m)\/((nmi.toList==nmk.toList)=true/\(ra.toList==rb.toList)=false/\Th es q≠Th es m)\/((nmi.toList==nmk.toList)=false/\Th es q≠Th es m):=by
        rw[ZA,ZA,ZA,ZA,HI.1,a4.1,f0,f3];by_cases K:(es[m]).name=(es[q]).name
        .by_cases h2:(es[m]).inside=(es[q]).inside
         .exact .inl ⟨by rw[K];simp,by rw[h2];simp,a5.2 ⟨K,h2⟩⟩
         .exact .inr<|.inl ⟨by rw[K];simp,by simp[h2],λh=>h2 (a5.1 h).2⟩
        .exact .inr<|.inr ⟨by simp[K],λh=>K (a5.1 h).1⟩
       clear a5;rcases f4 with⟨e1,e2,B⟩|⟨e1,e2,B⟩|⟨e1,B⟩
       .have A:U<|ZG _=(6,atm):=hL _<|by
         rw[D];simp only[b8.o];rw[<-b9,sR a3 e9 B,d1]
        clear B;go_wp2;go_quiet (fail);go_wp2;go_quiet (fail);go_wp2;go_ret3;exact⟨_,by rw[A];rfl,Yh,I λh=>by rw[A]at h;cases h⟩
       .have a9:U<|∀k,k<q+1->Th _ k≠Th _ m:=λk hk=>by
          rcases Ke.1 hk with h|rfl
          .exact HQ k h
          .exact B
        clear B;go_wp2;go_quiet (fail);go_wp2;go_roundw;case rel=>exact⟨q+1,_,X,by go_num,C,a9⟩
        case measure=>simp[intOf];omega
       .have a9:U<|∀k,k<q+1->Th _ k≠Th _ m:=λk hk=>by
          rcases Ke.1 hk with h|rfl
          .exact HQ k h
          .exact B
        clear B;go_wp2;go_quiet (fail);go_wp2;go_roundw;case rel=>exact⟨q+1,_,X,by go_num,C,a9⟩
        case measure=>simp[intOf];omega
      .obtain rfl:q=m:=X;have f5:U<|Ut _ _=Ut _ _:=b9.o▸sS a3 HQ.o;go_wp2;go_roundw;case rel=>exact⟨q+1,nd2,X,by go_num,C,f5⟩
       case measure=>simp[intOf];omega
    .have f6:U<|Ut [] es=none:=by rw[HD,Ts X];rfl
     have HM:U<|ZG _=if 30<es.length\/200<Vy es es.length then(7,0)else(0,0):=hL _<|by
      have h0:Ut [] es=none:=by rw[HD,Ts X];rfl
      rw[D];simp only[b8.o,h0]
     by_cases f7:30<es.length
     .have hd:decide (30<(es.length:Int))=true:=by simp;omega
      have A:U<|ZG _=(7,0):=I<|by rw[HM,Ye<|.inl f7]
      go_wp2;go_ret3;exact⟨_,by rw[A];rfl,Yh,I λh=>by rw[A]at h;cases h⟩
     .have hd:decide (30<(es.length:Int))=false:=by simp;omega
      by_cases d3:200<Vy es es.length
      .have f8:decide (200<(Vy es es.length:Int))=true:=by simp;omega
       have A:U<|ZG _=(7,0):=I<|by rw[HM,Ye<|.inr d3]
       go_wp2;go_ret3;exact⟨_,by rw[A];rfl,Yh,I λh=>by rw[A]at h;cases h⟩
      .have f8:decide (200<(Vy es es.length:Int))=false:=by simp;omega
       have A:U<|ZG _=(0,0):=I<|by rw[HM,Yd<|by rintro(h|h)<;>omega]
       have f9:U<|∀nd,Pa (wr.drewN nd) _ _:=I λnd=>Pa.below ⟨es,rs,D,f6,X,c.mono<|Yr _,t.1,t.2⟩<|Ou _ _ _;go_wp2;go_ret3;exact⟨_,by rw[A];rfl,Yh,I λ_=>f9 _⟩
def Su(P:List<|LB)(e:Yn):YY:=⟨e.name,(Wp e.inside).getD [],Uw<|P.getD e.at_ []⟩
def Qg(l:LB):List YY:=match ZT 0 [] (split 10 l)with
 |.inr es=>es.map<|Su<|split 10 l
 |.inl _=>[]
theorem tF(l:List<|Int×Int):(ZQ l).length=l.length*2:=by
 induction l with
 |nil=>rfl
 |cons a l ih=>simp only[ZQ,Y1,ih];omega
theorem Bj{l:LB}:∀x∈Uw l,Vb x:=by
 intro x a;unfold Uw at a;split at a
 .rename_i b _;cases hd:l.drop<|b+1with
  |nil=>rw[hd]at a;cases a
  |cons c t=>
   rw[hd]at a;obtain⟨y,_,rfl⟩:=XK.1 a;exact ee y
 simp_all
theorem Gx{α:Type}(Q:Nat->α->Prop):∀n:Nat,(∀j,j<n->∃z,Q j z)->∃zs:List α,zs.length=n/\∀j (h:j<zs.length),Q j zs[j]
 |0,_=>⟨[],C,λj h=>absurd h<|Tu _⟩
 |n+1,h=>by
  obtain⟨zs,c,f⟩:=Gx Q n λj a=>h j X;obtain⟨z,g⟩:=h n X;refine⟨zs++[z],by simp[c],λj a=>?_⟩;by_cases d:j<zs.length
  .simp_all
  · have e:j=zs.length:=by simp at a;omega
    simp_all
theorem tH(zs:List SZ)(rs:List<|F×F×F)(a:rs.length=zs.length)(h:∀j (d:j<zs.length),rs[j]?=some (.string zs[j].1,zs[j].2.1,zs[j].2.2.1)):R7 zs=TS rs:=by
 induction zs generalizing rs with
 |nil=>cases rs with
  |nil=>rfl
  |cons _ _=>simp at a
 |cons z zs ih=>
  cases rs with
  |nil=>simp at a
  |cons r rs=>
   have c:=h 0<|Sm;simp only[Qo,List.getElem_cons_zero,QZ]at c;subst c;rw[R7,TS,ih rs (by simpa using a) λj d=>by have:=h (j+1) (by simp;omega);simpa using this]
theorem Hn:∀(rest seen:List Yn),Ut seen rest=none->(rest.Pairwise λa b=>TV a≠TV b)/\∀e∈rest,∀s∈seen,TV s≠TV e
 |[],_,_=>⟨List.Pairwise.nil,λ_ h=>by cases h⟩
 |e::rest,seen,h=>by
  unfold Ut at h;split at h
  .cases h
  .rename_i c;obtain⟨d,f⟩:=Hn _ _ h;simp_all
theorem Jp{l:LB}{ps:List Xc}(h:Wp l=some ps):Yy ps=l:=by
 have:=zu h;rwa [FQ _ _<|Yj _,X1]at this
theorem Pa.sto{l:LB}(S:l.length<=6000)(h:Pa w v l):∃ss:List SZ,UP w v ss/\ZH ss=Qg l/\Sw (Qg l)/\ss.length<=30:=by
 obtain⟨es,rs,s,G,V,H,g,J⟩:=h;have K:∀j (c:j<es.length),(es[j]).count<=6001:=λj c=>(Fo s (Sm) λp L=>by
  obtain⟨i,m,rfl⟩:=List.mem_iff_getElem.1 L;have:=OV 10 l i m;rw[Y0,List.getElem?_eq_getElem m,Qt]at this;omega).2 _<|List.getElem_mem c;have t:=Gx (λj(z:SZ)=>∃c:j<es.length,rs[j]?=some (.string z.1,z.2.1,z.2.2.1)/\z.2.2.2=Su (split 10 l) es[j]/\Lf w z) es.length (λj c=>by
  obtain⟨nm,la,ln,lc,sa,sc,e1,e2,e3,e4,qs,e5,e6⟩:=g.2 j c;obtain⟨x,y,sa',sc',d1,d2⟩:=J j c;rw[e1]at d1;injection d1 with d1;injection d1 with _ d1;injection d1 with _ d1;injection d1 with d1 _ d3;subst d1 d3;have o:=C9 e6 e4;have u:=d2.1;rw[tF]at u;have d:(Uw<|(split 10 l).getD (es[j]).at_ []).length=(es[j]).count:=X;refine⟨(nm,.slice la ln lc,.slice sa (es[j]).count sc,Su (split 10 l) es[j]),c,e1,C,e2,⟨qs,e5,?_,?_,λq M=>?_⟩,?_,?_,Bj⟩
  .show qs.map V8=(Wp (es[j]).inside).getD [];rw[e6];rfl
  .have:=o.1;rwa [Yz]at this
  · have:=o.2 (V8 q)<|XK.2 ⟨q,M,C⟩;have g1:q.1.size<=8:=by rw[<-Zb];exact this.1
    have g2:q.2.size<=8:=by rw[<-Zb];exact this.2
    exact⟨X,X⟩
  .show w.ownsRow 0 179 2 (.slice sa (es[j]).count sc) (Uw<|(split 10 l).getD (es[j]).at_ []).length<|ZQ<|Uw<|(split 10 l).getD (es[j]).at_ [];rw[d];exact d2
  .show(Uw<|(split 10 l).getD (es[j]).at_ []).length<=6001;rw[d];exact K j c);obtain⟨zs,e,f⟩:=t;have r:Qg l=es.map (Su<|split 10 l):=by unfold Qg;rw[s]
 refine⟨zs,⟨?_,X,λz O=>?_⟩,?_,?_,X⟩
 .have:=tH zs rs (by rw[g.1,e]) λj c=>(f j c).2.1;rw[this,e];exact H
 .obtain⟨j,c,rfl⟩:=List.mem_iff_getElem.1 O;exact(f j c).2.2.2
 .rw[r];unfold ZH;refine List.ext_getElem (by rw[Yz,Yz,e]) λj A T=>?_;rw[List.getElem_map,List.getElem_map];exact(f j<|by simpa using A).2.2.1
 .rw[r];unfold Sw;rw[Rx];refine NX ?_ (Hn es [] G).1;intro a b P Q B D;obtain⟨i,m,rfl⟩:=List.mem_iff_getElem.1 P;obtain⟨k,R,rfl⟩:=List.mem_iff_getElem.1 Q;obtain⟨_,_,_,_,_,_,_,_,n1,_,q1,_,l1⟩:=g.2 i m;obtain⟨_,_,_,_,_,_,_,_,n2,_,q2,_,l2⟩:=g.2 k R;refine B<|(He n1 n2).2 ⟨D.1,?_⟩;have n:=D.2;unfold Su at n;simp only[l1,l2,Qt]at n;rw[Jp l1,Jp l2]at n;exact n
theorem Tryz.infoI64:(Tryz.prog.info? 2).map (λi=>(i.zero,i.size,i.bytes))=some (some<|E 0,1,8):=Kr
theorem yE(f l s:Int)(w:Y)(h:UA f l s):
 CP 16 #[.agg #[E f,E l,E s]] w λe u=>e=.returned (.tuple #[S0,.bool false])/\BW w u:=by
 unfold UA at h;by_cases a:f< -1000000
 .go_enter func16,ntmps16;go_wp2;go_ret2;exact⟨C,Yh⟩
 by_cases c:1000000<f
 .go_enter func16,ntmps16;go_wp2;go_ret2;exact⟨C,Yh⟩
 by_cases d:l< -1000000
 .go_enter func16,ntmps16;go_wp2;go_ret2;exact⟨C,Yh⟩
 by_cases g:1000000<l
 .go_enter func16,ntmps16;go_wp2;go_ret2;exact⟨C,Yh⟩
 by_cases i:s<1
 .go_enter func16,ntmps16;go_wp2;go_ret2;exact⟨C,Yh⟩
 by_cases j:1000000<s
 .go_enter func16,ntmps16;go_wp2;go_ret2;exact⟨C,Yh⟩
 have k:l<f:=X;clear h;go_enter func16,ntmps16;go_wp2;go_ret2;exact⟨C,Yh⟩
def E5(w:Y)(f l s:Int)(v ok:F):Prop:=(ok=.bool false/\Tk f l s=none)\/(ok=.bool true/\∃ts:List Int,Tk f l s=some ts/\ts.length<=50/\(∀t∈ts,-1000000<=t/\t<=1000000)/\w.ownsRow 0 2 1 v ts.length (ts.map<|.int .i64))
theorem yF(f l s:Int)(w:Y)(h:¬UA f l s):
 CP 16 #[.agg #[E f,E l,E s]] w λe x=>∃v ok:F,e=.returned (.tuple #[v,ok])/\
  U (E5 x f l s v ok)/\BW w x:=by
 have M:U<|Tk f l s=Ps l s 60 f []:=I<|by unfold Tk;rw[Yd h]
 unfold UA at h;have h1:¬f< -1000000:=λe=>h<|Or.inl e;have h2:¬1000000<f:=X;have h3:¬l< -1000000:=X;have h4:¬1000000<l:=X;have h5:¬s<1:=X;have h6:¬1000000<s:=X;have h7:¬l<f:=X;clear h;obtain⟨i0,O,z,A,B⟩:=Xv Tryz.infoI64;go_enter func16,ntmps16;go_wp2;go_loopg [4,5] 60 (λgk v4 v5 wr=>∃(ts:List Int)(t:Int),ts.length<=50/\gk=60-ts.length/\v5=E t/\-1000000<=t/\t<=2000000/\U (Tk f l s=Ps l s (60-ts.length) t ts)/\U (∀t∈ts,-1000000<=t/\t<=1000000)/\U (wr.ownsRow (w.heap.size+1) 2 1 v4 ts.length<|ts.map<|.int .i64)/\U (BW w wr)/\U (Ya wr w.heap.size [E f,E l,E s] 32));case atStart=>exact⟨[],f,Yr _,C,C,X,X,M,I (by intro t P;cases P),Xm _ _ _ _,I Yc,I<|Go.Deep.blk_alloc_new _ _⟩
 case round=>
  obtain⟨ts,t,Q,V,rfl,W,Z,D,G,g,o,i⟩:=hrel;have x0:=i.cell 0;have x1:=i.cell 1;have x2:=i.cell 2;simp only[Yf]at x0 x1 x2;obtain⟨av,cp,R⟩:=Zd g.o;subst R;obtain⟨fu,r⟩:∃fu,60-ts.length=fu+1:=⟨59-ts.length,X⟩;have j:U<|Tk f l s=if t<=l then(if ts.length=50 then none else Ps l s fu (t+s)<|ts++[t])else some ts:=I<|by rw[D.o,r];rfl
  have a0:=i.lt;clear D;by_cases k:t<=l
  .by_cases m:ts.length=50
   .have n:U<|Tk f l s=none:=I<|by rw[j.o,Ye k,Ye m]
    have S:((ts.length:Int)==50)=true:=by rw[m];rfl
    go_wp2;go_ret2;exact⟨_,_,C,I<|Or.inl ⟨C,n.o⟩,o.o⟩
   .have S:((ts.length:Int)==50)=false:=by rw[YB];omega
    have n:U<|Tk f l s=Ps l s (60-(ts++[t]).length) (t+s) (ts++[t]):=I<|by
     rw[j.o,Ye k,Yd m];congr 1;rw[Yx,PC];omega
    clear r;go_wp2_with(at_builtin;refine XC _ C (.tmp 54) (.tmp 56) 48 C (w.heap.size+1) 2 i0 (E 0) 1 8 underlying48 O z A B C N _ _ _ C (g.alloc _) ⟨wr.heap.size,0,none⟩ 1 1 [E t] C C (Z1 C) ?c2 ?c3 ?c4 ?c5 ?_);case c2=>first|exact C|(intro u p;simp at p;subst p;rfl)
    case c3=>unfold maxLen;omega
    case c4=>omega
    case c5=>first|omega|(simp;omega)
    intro v' H c a _;have J:U<|BW w H:=I<|QK (o.alloc o.size _) a λq T=>by have:=(g.lt q T).1;omega
    have d:=I<|Ya.ownGrownLt (i.below Yc) (g.alloc _) a X;have K:U<|H.ownsRow (w.heap.size+1) 2 1 v' (ts++[t]).length<|(ts++[t]).map<|.int .i64:=I<|by
     rw[Xa,Yx];exact c
    have L:U<|∀u∈ts++[t],-1000000<=u/\u<=1000000:=I (by
     intro u p;rcases Wk.mp p with h|h
     .exact G.o u h
     .rw[Vr]at h;subst h;omega);clear c a x0 x1 x2;have x0:=d.cell 0;have x1:=d.cell 1;have x2:=d.cell 2;simp only[Yf]at x0 x1 x2;go_wp2;go_roundg (60-(ts.length+1));case measure=>omega
    case rel=>exact⟨ts++[t],t+s,by rw[Yx,PC];omega,by rw[Yx,PC],C,X,X,n,L,K,J,d⟩
  .have n:U<|Tk f l s=some ts:=I<|by rw[j.o,Yd k]
   go_wp2;go_ret2;exact⟨_,_,C,I<|Or.inr ⟨C,ts,n.o,Q,G.o,TX g.o⟩,o.o⟩
theorem vN(tm:Int)(c:YC tm)(V:VV)(h:Xh w v V)(f:WG 1000 V):
 CP 19 #[E tm,v] w λe u=>∃r:BA,e=.returned (.string r)/\U (bl r=U8 tm V)/\r.size<=2000000000000/\BW w u:=by
 cases V with
 |inl n=>
  obtain⟨⟨fa,fc,rfl,j⟩,g⟩:=h;exact vO tm c n g fa 0 fc w
 |inr l=>
  obtain⟨ea,ec,zs,rfl,i,d⟩:=h;have a:zs.length<=1000:=by have:=f.2;rw[<-d,Yz]at this;exact this
  rw[<-d];exact vP tm c 0 zs w i a
def VX:List (LB)->LB
 |[]=>[]
 |[a]=>a
 |a::b::l=>a++10::VX (b::l)
theorem CY:∀(l:List<|LB)(x:LB),VX (l++[x])=(if l.isEmpty then[]else VX l++[10])++x
 |[],x=>C
 |[a],x=>by simp[VX]
 |a::b::l,x=>by
  have:=CY (b::l) x;rw[Ok,Ok,VX,<-Ok,this,VX];simp
theorem vY(s:BA)(w:Y)(f:s.size<=maxLen):
 CP 15 #[.string s] w λe u=>∃v,e=.returned (.tuple #[v,E (ZG<|bl s).1,E (ZG<|bl s).2])/\BW w u/\U ((ZG<|bl s).1=0->Pa u v (bl s)/\s.size<=6000):=by
 by_cases h:s.size<=6000
 .refine(ji s w h).m ?_;rintro e u ⟨v,a,c,g⟩;exact⟨v,a,c,I λd=>⟨g.o d,h⟩⟩
 .have e:ZG (bl s)=(1,0):=by unfold ZG;rw[Ye<|by rw[Zb];omega]
  rw[e];refine(jh s w X f).m ?_;rintro e' u ⟨v,a,c⟩;exact⟨v,a,c,I λd=>by cases d⟩
theorem fg (f l st:Int):CP 16 #[.agg #[E f,E l,E st]] w λe u=>∃v ok:F,e=.returned (.tuple #[v,ok])/\U (E5 u f l st v ok)/\BW w u:=by
 by_cases h:UA f l st
 .refine(yE f l st w h).m ?_;rintro e u ⟨rfl,a⟩;exact⟨_,_,C,I<|Or.inl ⟨C,by unfold Tk;rw[Ye h]⟩,a⟩
 .exact yF f l st w h
def Pz(w':Y)(f l s:Int)(ft:Addr)(tv ev:F):Prop:=(Tk f l s=none/\tv=.slice none 0 0/\ev=.iface 469 (.pointer<|some ft))\/(∃ts,Tk f l s=some ts/\ts.length<=50/\(∀t∈ts,-1000000<=t/\t<=1000000)/\ev=.nilIface/\w'.ownsRow 0 3 1 tv ts.length (ts.map<|Value.int .i64))
theorem mr(n:Nat):(madeCells #[Value.int .i64 0] n).toList=List.replicate n (Value.int .i64 0):=by
 refine List.ext_getElem (by simp[madeCells]) λi a c=>?_;simp[madeCells,Nat.mod_one]
theorem ij(f l s:Int){ft:Addr}(w:Y)(L:w.cell? ⟨7,0,none⟩=some (.iface 469<|.pointer<|some ft)):
 CP 24 #[.agg #[E f,E l,E s]] w λe u=>∃tv ev,e=.returned (.tuple #[tv,ev])/\U (Pz u f l s ft tv ev)/\BW w u:=by
 obtain⟨i0,hi,M,O,P⟩:=Xv Tryz.infoInt3;have Q:7<w.heap.size:=Xi _ _ L;have H:∀o,(w.alloc o).cell? ⟨7,0,none⟩=some _:=λo=>by rwa [TM _ _ _ Q]
 by_cases j:UA f l s
 .have n:U<|∀u,Pz u f l s ft _ _:=I λu=>.inl ⟨by unfold Tk;rw[Ye j],C,C⟩;by_cases c1:(-1000000<=f/\f<=1000000)
  .obtain⟨d1,d2⟩:=c1;by_cases c2:(-1000000<=l/\l<=1000000)
   .obtain⟨d3,d4⟩:=c2;by_cases c3:l<f
    .clear j;go_enter func24,ntmps24;go_wp2_with(go_at_call 45;refine(Nv).m ?_;rintro e u ⟨rfl,rfl⟩);go_region;all_goals(try go_wp2)
     all_goals(go_ret2;exact⟨_,_,C,I<|n _,Yh⟩)
    .by_cases c4:s<1
     .clear j;go_enter func24,ntmps24;go_wp2_with(go_at_call 45;refine(Nv).m ?_;rintro e u ⟨rfl,rfl⟩);go_region;all_goals(try go_wp2)
      all_goals(go_ret2;exact⟨_,_,C,I<|n _,Yh⟩)
     .have c5:1000000<s:=by unfold UA at j;omega
      clear j;go_enter func24,ntmps24;go_wp2_with(go_at_call 45;refine(Nv).m ?_;rintro e u ⟨rfl,rfl⟩);go_region;all_goals(try go_wp2)
      all_goals(go_ret2;exact⟨_,_,C,I<|n _,Yh⟩)
   .have c3:(decide (-1000000<=l)&&decide (l<=1000000))=false:=by simp;omega
    clear j c2;go_enter func24,ntmps24;go_wp2_with(go_at_call 45;refine(Nv).m ?_;rintro e u ⟨rfl,rfl⟩);go_region;all_goals(try go_wp2)
    all_goals(go_ret2;exact⟨_,_,C,I<|n _,Yh⟩)
  .have c3:(decide (-1000000<=f)&&decide (f<=1000000))=false:=by simp;omega
   clear j c1;go_enter func24,ntmps24;go_wp2_with(go_at_call 45;refine(Nv).m ?_;rintro e u ⟨rfl,rfl⟩);go_region;all_goals(try go_wp2)
   all_goals(go_ret2;exact⟨_,_,C,I<|n _,Yh⟩)
 .have J:=I<|fe j;have R:-1000000<=f/\f<=1000000/\-1000000<=l/\l<=1000000/\1<=s/\s<=1000000/\f<=l:=by unfold UA at j;omega
  obtain⟨d1,d2,d3,d4,d5,d6,d7⟩:=R;clear j;obtain⟨m,v⟩:∃m:Nat,(l-f).tdiv s=(m):=⟨((l-f).tdiv s).toNat,by have:=Int.tdiv_nonneg (a:=l-f) (b:=s) X X;omega⟩;have x:SF l s f=m+1:=by
   unfold SF;rw[Ye d7,<-Eh X,v];omega
  have a4:m<=2000000:=by
   have c:((l-f).tdiv s).natAbs<=(l-f).natAbs:=by rw[Ku];exact MU _ _
   rw[v]at c;omega
  rw[x]at J;have a5:(s==0)=false:=by rw[YB];omega
  have S:s≠0:=X;clear x;by_cases A:50<m+1
  .have n:U<|∀u,Pz u f l s ft _ _:=I λu=>.inl ⟨by rw[J,Ye A],C,C⟩;have T:(50:Int)<(m)+1:=X;go_enter func24,ntmps24;go_wp2_with(go_at_call 45;refine(Nv).m ?_;rintro e u ⟨rfl,rfl⟩);go_region;all_goals(try go_wp2)
   all_goals(go_ret2;exact⟨_,_,C,I<|n _,Yh⟩)
  .have n:U<|Tk f l s=some _:=I<|by rw[J,Yd A]
   have T:(m:Int)+1<=50:=X;have B:U<|∀i,i<m+1->-1000000<=f+(i)*s/\f+(i)*s<=1000000:=I λi D=>by
    have c:(i)*s<=(m)*s:=Int.mul_le_mul_of_nonneg_right X X;have h2:(m)*s<=l-f:=by
     rw[<-v,Eh X];exact Int.ediv_mul_le _ S
    have h3:0<=(i)*s:=Int.mul_nonneg X X;omega
   go_enter func24,ntmps24;go_wp2_with(first
    |(go_at_call 45;refine(Nv).m ?_;rintro e u ⟨rfl,rfl⟩)
    |(at_make;refine Is _ C _ _ 76 C w.heap.size 3 i0 _ 1 underlying76 hi M O _ _ _ _ (m+1) C C ?e1 ?e2 ?b2 ?b3 ?b4 ?_));case e1=>rfl
   case e2=>rfl
   case b2=>rw[P];omega
   case b3=>unfold maxLen;omega
   case b4=>simp
   rw[mr];intro z p d;have V:U<|Ya _ _ _ 23:=I<|(d.block _ (Sm)<|Sm).trans YO;have W:=I<|Yc.grown d (Sm) λq hq=>by cases hq
   clear d v H;have a3:=ZN p;go_wp2;go_loopw [50] (λi wr=>∃k:Nat,k<=m+1/\i=E k/\U (wr.ownsRow w.heap.size 3 1 (.slice (some ⟨w.heap.size+1,0,none⟩) (m+1)<|m+1) (m+1)<|(List.range k).map (λ(i:Nat)=>Value.int .i64<|f+(i:Int)*s)++List.replicate (m+1-k) (Value.int .i64 0))/\U (Ya wr w.heap.size [E f,E l,E s] 23)/\U (BW w wr))
    (λi _=>m+1-(intOf i).toNat);case atStart=>exact⟨0,Yr _,C,I<|by simpa using p,V,W⟩
   case round=>
    obtain⟨k,hk,rfl,r,K,Z⟩:=hrel;by_cases G:k<m+1
    .have x0:=K.cell 0;have x2:=K.cell;simp only[Yf]at x0;have a6:=B k G;have a7:0<=(k)*s:=Int.mul_nonneg X X;have a8:(Go.IntKind.i64).wrap ((k)*s)=(k)*s:=by
      generalize(k:Int)*s=ks at*;rw[Us];omega
     have a9:(Go.IntKind.i64).wrap (f+(k)*s)=f+(k)*s:=by
      generalize(k:Int)*s=ks at*;rw[Us];omega
     have a2:wr.cell? ⟨w.heap.size+1,k,none⟩=some _:=Zc r _ _<|by rw[Rg<|Sm,Yz,List.length_range,Kz,O4,Ye X]
     have b0:wr.frozen? ⟨w.heap.size+1,k,none⟩=false:=by
      rcases r.2 with⟨h,_⟩|⟨g,cap,cur,h,_,hh,_⟩
      .cases h
      .injection h with c;injection c with c;injection c with c;subst c;simp[World.frozen?,hh]
     have b1:(k:Int)<(m)+1:=X;have a0:U<|(wr.setCell ⟨w.heap.size+1,k,none⟩<|E<|f+(k)*s).ownsRow w.heap.size 3 1 (.slice (some ⟨w.heap.size+1,0,none⟩) (m+1)<|m+1) (m+1)<|(List.range<|k+1).map (λ(i:Nat)=>Value.int .i64<|f+(i)*s)++List.replicate (m+1-(k+1)) (Value.int .i64 0):=by
      have:=kF r k<|E<|f+(k)*s;rw[iD k G]at this;exact this
     go_wp2;go_roundw;case rel=>exact⟨k+1,X,by go_num,a0,I<|K.other (by show w.heap.size≠w.heap.size+1;omega) _,I<|Z.setCell (by show w.heap.size<=w.heap.size+1;omega) _⟩
     case measure=>simp[intOf];omega
    .obtain rfl:k=m+1:=X;have a1:U<|Pz _ f l s ft _ _:=I<|.inr ⟨_,n,by simp;omega,λt ht=>by
     obtain⟨i,D,rfl⟩:=XK.1 ht;exact B i<|RX.1 D,C,by
     have c:=r.o;rw[Kz,List.replicate_zero,Ud]at c;rw[Yz,List.length_range,VD];exact c.mono<|Yr _⟩;go_wp2;go_ret2;exact⟨_,_,C,a1,Z⟩
def UE(cd s:LB)(f l st fuel:Int):LB×Nat×Nat:=match Ti cd with
 |.error x=>([],x.1,x.2)
 |.ok y=>if(ZG s).1≠0 then([],(ZG s).1,(ZG s).2)else match Tk f l st with
  |none=>([],8,0)
  |some ts=>if fuel<0\/1000000<fuel then([],13,0)else match VK (Qg s) y.1 fuel.toNat ts with
   |none=>([],13,0)
   |some z=>(VX z.1,0,0)
theorem Cp{l:LB}{y:Yb×Nat×Nat}(h:Ti l=.ok y):T7 y.1/\∃L,VB y.1 L:=by
 unfold Ti at h;cases hd:Wt l with
 |error e=>simp_all
 |ok c=>
  rw[hd]at h;simp only at h;cases a:Vl c with
  |error e=>simp_all
  |ok x=>
   rw[a]at h;injection h with h;subst h;exact⟨uI hd,ye a⟩
def gO:Option (List (LB)×Nat)->LB×Nat×Nat
 |none=>([],13,0)
 |some z=>(VX z.1,0,0)
theorem ri{cd s:LB}{f l st:Int}(fuel:Int){y:Yb×Nat×Nat}{ts:List Int}(h:Ti cd=.ok y)(c:(ZG s).1=0)(a:Tk f l st=some ts):UE cd s f l st fuel=gO (if fuel<0\/1000000<fuel then none else VK (Qg s) y.1 fuel.toNat ts):=by
 unfold UE;rw[h];simp only;rw[Yd X,a];simp only;split<;>rfl
theorem YX.keepR{bad:List TypeId}{l:List Xc}{qs:List<|BA×BA}(h:YX w v l qs)(a:WU bad w w')(c:175∉bad):YX w' v l qs:=⟨a _ _ _ _ _ _ h.own c,h.say,h.len,h.ok⟩
theorem YM.keepR{bad:List TypeId}{zs:List<|F×El}(h:YM w v zs)(a:WU bad w w')(d:175∉bad)(e:118∉bad):YM w' v zs:=
 ⟨a _ _ _ _ _ _ h.own e,h.len,λz c=>⟨(h.ok z c).1.elim λqs f=>⟨qs,f.keepR a d⟩,(h.ok z c).2⟩⟩
theorem Xh.keepR{bad:List TypeId}(e:WU bad w w')(f:175∉bad)(g:118∉bad):∀{V:VV},Xh w v V->Xh w' v V
 |.inl _,⟨⟨ea,ec,a,c⟩,d⟩=>⟨⟨ea,ec,a,c.keepR e f g⟩,d⟩
 |.inr _,⟨ea,ec,zs,a,c,d⟩=>⟨ea,ec,zs,a,c.keepR e f g,d⟩
def Eu(x:CV):F:=.agg #[.bool x.sc,E x.n,.slice x.ea x.en x.ec]
def XZ(w:Y)(x:CV):Cl->Prop
 |.inl v=>x.rg=false/\Xh w (Eu x) v
 |.inr (a,n)=>x.rg=true/\0<n/\n<=1000/\VC w (a,n) x.p/\a.kq.length<=100000
theorem XZ.keepR{bad:List TypeId}(d:WU bad w w')(e:175∉bad)(f:118∉bad)(g:268∉bad):∀{y:Cl},XZ w x y->XZ w' x y
 |.inl _,⟨a,c⟩=>⟨a,c.keepR d e f⟩
 |.inr _,⟨a,c,h,i,j⟩=>⟨a,c,h,i.keep d g,j⟩
def Tp(w:Y):List CV->List Cl->Prop
 |[],[]=>True
 |x::xs,y::ys=>XZ w x y/\Tp w xs ys
 |_,_=>False
theorem Tp.keepR{bad:List TypeId}{w w':Y}(a:WU bad w w')(c:175∉bad)(d:118∉bad)(e:268∉bad):∀{xs:List CV}{ys:List Cl},Tp w xs ys->Tp w' xs ys
 |[],[],h=>h
 |_::_,_::_,⟨f,g⟩=>⟨f.keepR a c d e,Tp.keepR a c d e g⟩
theorem Tp.len{w:Y}:∀{xs:List CV}{ys:List Cl},Tp w xs ys->xs.length=ys.length
 |[],[],_=>C
 |_::xs,_::ys,⟨_,h⟩=>by rw[Y1,Y1,Tp.len h]
structure Xd (w0 wr:Y)(mb cb:Nat)(sv:F)(t:Int)(m:MQ)(sa:Option Addr)(sn sc:Nat)(sl xs:List CV):Prop where
 st:Qm wr w0.heap.size mb cb sv t sa sn sc sl xs.reverse
 stk:Tp wr xs m.jy
 ls:sl.length=16
 slot:∀j y,m.jx.getD j none=some y->XZ wr (sl.getD j T4) y
 bel:BW w0 wr
 lo:w0.heap.size<=mb
theorem Xd.below(h:Xd w0 wr mb cb sv t m sa sn sc sl xs)(a:BW wr w'):Xd w0 w' mb cb sv t m sa sn sc sl xs:=
 ⟨h.st.below a,h.stk.keepR (WU.below [] a) (Sm) (Sm)<|Sm,h.ls,λj y c=>(h.slot j y c).keepR (WU.below [] a) (Sm) (Sm)<|Sm,h.bel.trans<|a.mono h.bel.size,h.lo⟩
theorem Xd.num(h:Xd w0 wr mb cb sv t m sa sn sc sl xs):sn=m.jy.length:=by
 rw[<-h.stk.len,<-h.st.len,QY]
theorem Xd.qx{ss:List<|Option Cl}{g:Nat}(h:Xd w0 wr mb cb sv t ⟨y::ys,ss⟩ (some ⟨g,0,none⟩) (n+1) cap sl<|x::xs)(o:Ya w' mb (mC cb sv t (.slice (some ⟨g,0,none⟩) n cap) sl) 64)(f:YS wr w' mb<|.pointer none):Xd w0 w' mb cb sv t ⟨ys,ss⟩ (some ⟨g,0,none⟩) n cap sl xs/\XZ w' x y:=by
 have c:xs.length=n:=by
  have:=h.st.len;rw[QY,Y1]at this;omega
 have l:some g≠some mb:=λe=>by
  injection e with e;have:=ZD h.st.own h.st.box N;exact this<|by rw[<-e];rfl
 have d:WU [61,64] _ _:=λb e sz v m ys i p=>ZJ i λk a=>f.block k (i.lt k a).2 (by
  rintro rfl;exact ZD i h.st.box (λe2=>p<|by rw[<-e2];decide) a.symm) λe2=>by cases e2
 have q:=ZJ h.st.own λk a=>f.block k (h.st.own.lt k a).2 (λe=>by
  have:some g=some k:=a;rw[e]at this;exact l this) λe2=>by cases e2
 refine⟨⟨⟨o,?_,by rw[QY,c]⟩,h.stk.2.keepR d N N N,h.ls,λj z r=>(h.slot j z r).keepR d N N N,f.below h.bel h.lo (λk e=>by cases e),h.lo⟩,h.stk.1.keepR d N N N⟩;have:=kA q n X;rw[Se,Dr,JX<|by rw[HJ,QY,c];omega,Wm<|by rw[HJ,QY,c];omega]at this;exact this
theorem Xd.pushed{g:Nat}(h:Xd w0 wr mb cb sv t m sa sn sc sl xs)(d:XZ wr x y)(i:Qm w' w0.heap.size mb cb sv t (some ⟨g,0,none⟩) (sn+1) cap sl<|xs.reverse++[x])(c:YS wr w' mb<|.slice sa sn sc):Xd w0 w' mb cb sv t ⟨y::m.jy,m.jx⟩ (some ⟨g,0,none⟩) (sn+1) cap sl<|x::xs:=by
 have a:=c.rows h.st.box h.st.own;exact⟨by rwa [Se],⟨d.keepR a N N N,h.stk.keepR a N N N⟩,h.ls,λj z f=>(h.slot j z f).keepR a N N N,c.below h.bel h.lo λk e=>(h.st.own.lt k e).1,h.lo⟩
theorem Xd.top(h:Xd w0 wr mb cb sv t m sa sn sc sl xs)(i:m.jy=y::ys):∃x xs' g n,xs=x::xs'/\sa=some ⟨g,0,none⟩/\sn=n+1/\n+1<=sc/\XZ wr x y/\∀j,j<12->wr.cell? ⟨g,n*12+j,none⟩=x.cells[j]?:=by
 have a:=h.stk;rw[i]at a;cases xs with
 |nil=>exact absurd a id
 |cons x xs=>
  have c:=h.num;rw[i,Y1]at c;subst c;obtain⟨g,cap,d⟩:=Zm h.st.own X;injection d with hv1 hv2 hv3;subst hv1;have k:=a.2.len;refine⟨x,xs,g,ys.length,C,C,C,?_,a.1,λj l=>?_⟩
  .rcases h.st.own.2 with⟨e,_⟩|⟨g',cap',cur,d,_,_,c,_⟩
   .cases e
   .injection d with _ _ hv3;omega
  .have f:=Hz (x::xs).reverse ys.length j (by rw[QY,Y1];omega) l;have e:(x::xs).reverse.getD ys.length T4=x:=by
    rw[Se,Y0,Rg<|by rw[QY];omega,QY,k];simp
   rw[e]at f;have o:j<x.cells.length:=l;rw[List.getElem?_eq_getElem o]at f⊢;exact Zc h.st.own _ _ f
theorem XZ.below(h:XZ w x y)(a:BW w w'):XZ w' x y:=h.keepR (WU.below [] a) (Sm) (Sm)<|Sm
theorem Xh.shape:∀{V:VV},Xh w v V->∃sc n ea en ec,v=.agg #[.bool sc,E n,.slice ea en ec]/\XZ w ⟨sc,n,ea,en,ec,false,XN⟩ (.inl V)
 |.inl _,⟨⟨ea,ec,a,c⟩,d⟩=>⟨true,_,ea,0,ec,a,C,⟨ea,ec,C,c⟩,d⟩
 |.inr _,⟨ea,ec,zs,a,c,d⟩=>⟨false,0,ea,zs.length,ec,a,C,ea,ec,zs,C,c,d⟩
structure Ra (w0 wr:Y)(c:Yb)(cb mb i op arg:Nat)(sv:F)(t:Int)(m:MQ)(cv pv gv iv:F)(l:List PV)(g:List<|Option Addr×Nat×Nat)(sa:Option Addr)(sn sc:Nat)(sl xs:List CV):Prop where
 rc:X8 w0 cb c cv pv gv iv l g
 inv:Xd w0 wr mb cb sv t m sa sn sc sl xs
 ii:c.jz[i]?=some (op,arg)
 ln:c.jz.length<=65535
def RI(w0 w':Y)(mb cb:Nat)(sv:F)(t:Int)(m':MQ):Prop:=∃sa sn sc sl xs,Xd w0 w' mb cb sv t m' sa sn sc sl xs
structure JU (wr:Y)(mb cb i op arg gi n ic:Nat):Prop where
 m0:wr.cell? ⟨mb,0,none⟩=some (Vp cb)
 c3:wr.cell? ⟨cb,3,none⟩=some (.slice (some ⟨gi,0,none⟩) n ic)
 i0:wr.cell? ⟨gi,i*2,none⟩=some (E op)
 i1:wr.cell? ⟨gi,i*2+1,none⟩=some (E arg)
 lt:i<n
 mbl:mb<wr.heap.size
 cbl:cb<wr.heap.size
 gil:gi<wr.heap.size
theorem Ra.at(h:Ra w0 wr c cb mb i op arg sv t m cv pv gv iv l g sa sn sc sl xs):∃gi n ic,JU wr mb cb i op arg gi n ic/\n<=65535:=by
 have a:=h.rc.below h.inv.bel;have d:i<c.jz.length:=(Og.1 h.ii).1;have e:c.jz[i]=(op,arg):=(Og.1 h.ii).2;obtain⟨gi,ic,f⟩:=Zm a.is X;subst f;have i0:=Zc a.is _ _ (Sz c.jz i d).1;have i1:=Zc a.is _ _ (Sz c.jz i d).2;rw[e]at i0 i1;exact⟨gi,c.jz.length,ic,⟨h.inv.st.box.cell 0,a.box.cell 3,i0,i1,d,h.inv.st.box.lt,a.box.lt,ZN a.is⟩,h.ln⟩
theorem sJ(h:Ra w0 wr c cb mb i 9 arg sv t m cv pv gv iv l g sa sn sc sl xs):
 CP 17 #[Vp mb,E i] wr λe u=>e=.returned (E arg)/\U (RI w0 u mb cb sv t m):=by
 obtain⟨gi,n,ic,⟨m0,c3,i0,i1,d,mbl,cbl,gil⟩,f⟩:=h.at;have a:U<|∀o,RI w0 (wr.alloc o) mb cb sv t m:=I λo=>⟨_,_,_,_,_,h.inv.below Yc⟩;clear h;go_enter func17,ntmps17;go_wp2;go_ret;exact⟨C,I<|a.o _⟩
theorem sG(h:Ra w0 wr c cb mb i 11 arg sv t m cv pv gv iv l g sa sn sc sl xs)(o:m.jy=y::ys)(q:m.jy.length<=64):
 CP 17 #[Vp mb,E i] wr λe u=>e=.returned (E (i+1:Nat))/\U (RI w0 u mb cb sv t ⟨ys,m.jx⟩):=by
 obtain⟨gi,n,ic,⟨m0,c3,i0,i1,B,mbl,cbl,gil⟩,D⟩:=h.at;obtain⟨x,xs',gs,k,rfl,rfl,rfl,p,_,_⟩:=h.inv.top o;have A:k<=64:=by have:=h.inv.num;omega
 have r:U<|Xd w0 wr mb cb sv t ⟨y::ys,m.jx⟩ (some ⟨gs,0,none⟩) (k+1) sc sl<|x::xs':=I<|by have:=h.inv;rw[show m=⟨y::ys,m.jx⟩by rw[<-o]]at this;exact this
 clear h o q;go_enter func17,ntmps17;go_wp2_with fail;refine Zv λW s=>?_;have d:BW wr W:=by rw[s];exact Yc
 have a:=I<|r.below d;clear s d m0 c3 i0 i1 mbl cbl gil r;obtain⟨_,_,_,_,e1,e2,e3,_,_,v⟩:=a.top C;injection e1 with e1 e1';injection e2 with e2;injection e2 with e2 _ _;injection e3 with e3;subst e1 e1' e2 e3;refine(OK W mb cb gs k sc sv t sl x a.st.box v A p).m ?_;rintro e z ⟨rfl,f,j⟩;have w:=I (a.qx f.o j.o).1;clear a f j v;unfold Pv;go_wp2;go_ret;exact⟨by go_num,I ⟨_,_,_,_,_,w.o⟩⟩
theorem Ya.mkeep{c d:List F}{t:TypeId}(h:Ya w a c t)(g:Ya w mb d 64)(i:YS w w' mb<|.pointer none)(j:t≠64):Ya w' a c t:=
 (i.block a h.lt (by
  rintro rfl;have f:=h.symm.trans g;injection f with f;injection f with _ h3;exact j h3) λe=>by cases e).trans h
theorem YS.rowsP {c:List F}(h:YS w w' mb<|.pointer none)(f:Ya w mb c 64):WU [64] w w':=λb e sz v m ys a g=>ZJ a λk d=>h.block k (a.lt k d).2 (by
 rintro rfl;exact ZD a f (λe2=>g<|by rw[<-e2];decide) d.symm) λe2=>by cases e2
theorem sL(h:Ra w0 wr c cb mb i 4 arg sv t m cv pv gv iv l g sa sn sc sl xs){v:VV}(Q:m.jy=.inl v::ys)(S:m.jy.length<=64)(hv:WG 1000 v):
 CP 17 #[Vp mb,E i] wr λe u=>e=.returned (E (i+1:Nat))/\U (RI w0 u mb cb sv t ⟨.inl (TH v)::ys,m.jx⟩):=by
 obtain⟨gi,n,ic,⟨m0,c3,i0,i1,a2,mbl,cbl,gil⟩,hn⟩:=h.at;obtain⟨x,xs',gs,k,rfl,rfl,rfl,R,_,_⟩:=h.inv.top Q;have T:k<=64:=by have:=h.inv.num;omega
 have V:U<|Xd w0 wr mb cb sv t ⟨.inl v::ys,m.jx⟩ (some ⟨gs,0,none⟩) (k+1) sc sl<|x::xs':=by have:=h.inv;rw[show m=⟨.inl v::ys,m.jx⟩by rw[<-Q]]at this;exact this
 clear h Q S;go_enter func17,ntmps17;go_wp2_with fail;refine Zv λW Z=>?_;have q:Below _ _ W:=Z▸Yc;have d:=I<|V.below q;clear Z q m0 c3 i0 i1 mbl cbl gil V;obtain⟨_,_,_,_,e1,e2,e3,_,_,r⟩:=d.top C;injection e1 with e1 e1';injection e2 with e2;injection e2 with e2 _ _;injection e3 with e3;subst e1 e1' e2 e3;refine(OK _ _ _ _ k _ _ t _ x d.st.box r T R).m ?_;rintro e s ⟨rfl,w,z⟩;have j:=I<|d.qx w z;have A:=I j.1;have B:=I j.2;clear d w z r j;unfold Pv;go_upto_region 21 with fail;refine Zs λW3 o=>?_;have p:Below _ _ _:=o▸Yc;have a:U<|Ya _ _ x.cells 61:=o▸(show Ya _ _ _ _ from Go.Deep.blk_alloc_new s _);have D:=I<|A.below p;have G:=I<|B.below p;clear o p A B;generalize s.heap.size=xb at*;have x0:=a.cell 0;have x1:=a.cell 1;have x2:=a.cell 2;simp only[CV.cells,Yf]at x0 x1 x2;have a0:=a.lt;go_wp2_with fail;refine(nD v G.2 hv).m ?_;rintro e w4 ⟨v',rfl,H,J⟩;have f:=I<|D.below J;obtain⟨sc',n',ea',en',ec',rfl,K⟩:=H.shape;have L:=I K;clear J D G a x0 x1 x2 a0 K H;go_wp2_with fail;refine(MA _ _ _ _ t k _ _ _ _ _ _ _ f.st T f.bel.size).m ?_;rintro e w5 ⟨rfl,M,O⟩;obtain⟨g5,c5,P⟩:=M.o;have a1:=I<|f.pushed L P O;clear P M O f L;go_wp2;go_ret;exact⟨by go_num,I ⟨_,_,_,_,_,a1⟩⟩
theorem sE(h:Ra w0 wr c cb mb i 3 arg sv t m cv pv gv iv l g sa sn sc sl xs)(ha:arg<=3){v u:VV}(hs:m.jy=.inl u::.inl v::ys)(b8:m.jy.length<=64)(hv:WG 1000 v)(hu:WG 1000 u):
 CP 17 #[Vp mb,E i] wr λe w'=>e=.returned (E (i+1:Nat))/\U (RI w0 w' mb cb sv t ⟨.inl (QJ arg v u)::ys,m.jx⟩):=by
 obtain⟨gi,n,ic,⟨m0,c3,i0,i1,c5,mbl,cbl,gil⟩,hn⟩:=h.at;obtain⟨x,xs',gs,k1,rfl,rfl,rfl,b7,_,_⟩:=h.inv.top hs;have b9:k1<=64:=by have:=h.inv.num;omega
 have HI:U<|Xd w0 wr mb cb sv t ⟨.inl u::.inl v::ys,m.jx⟩ (some ⟨gs,0,none⟩) (k1+1) sc sl<|x::xs':=by have:=h.inv;rw[show m=⟨.inl u::.inl v::ys,m.jx⟩by rw[<-hs]]at this;exact this
 clear h hs b8;go_enter func17,ntmps17;go_wp2_with fail;refine Zv λW hW=>?_;have J:Below _ _ W:=hW▸Yc;have f:=I<|HI.below J;have K:U<|Ya W _ _ 110:=hW▸(show Ya _ _ _ _ from Go.Deep.blk_alloc_new wr _);clear hW J m0 c3 i0 i1 mbl cbl gil HI;generalize wr.heap.size=ab at*;obtain⟨_,_,_,_,e1,e2,e3,_,_,L⟩:=f.top C;injection e1 with e1 e1';injection e2 with e2;injection e2 with e2 _ _;injection e3 with e3;subst e1 e1' e2 e3;refine(OK _ _ _ _ _ _ _ t _ x f.st.box L b9 b7).m ?_;rintro e M ⟨rfl,O,s⟩;have w:=I<|f.qx O s;have z:=I w.1;have P:=I w.2;have Q:=I<|K.mkeep f.st.box s N;clear f O s L w K;unfold Pv;obtain⟨x2,xs2,gs2,k,rfl,e2,e3,H,_,_⟩:=z.top C;injection e2 with e2;injection e2 with e2 _ _;subst e2 e3;have hk:k<=64:=X;go_wp2_with fail;refine Zv λW3 A=>?_;have q:Below _ _ _:=A▸Yc;have R:U<|Ya _ _ x.cells 61:=A▸(show Ya _ _ _ _ from Go.Deep.blk_alloc_new M _);have a:=I<|z.below q;have S:=I<|P.below q;have T:=I<|Q.below q;clear A q z P Q;generalize M.heap.size=xb at*;obtain⟨_,_,_,_,e1,e2,e3,_,_,V⟩:=a.top C;injection e1 with e1 e1';injection e2 with e2;injection e2 with e2 _ _;injection e3 with e3;subst e1 e1' e2 e3;refine(OK _ _ _ _ k _ _ t _ _ a.st.box V hk H).m ?_;rintro e Z ⟨rfl,a0,j⟩;have B:=I<|a.qx a0 j;have a2:=I B.1;have a3:=I B.2;have a4:=I<|T.mkeep a.st.box j N;have a5:=I<|R.mkeep a.st.box j N;have a6:=I<|S.keepR (j.rowsP a.st.box) N N N;clear a a0 j V B T R S;unfold Pv;go_upto_region 18 with fail;refine Zs λW5 D=>?_;have d:Below _ _ _:=D▸Yc;have o:U<|Ya _ _ x2.cells 61:=D▸(show Ya _ _ _ _ from Go.Deep.blk_alloc_new Z _);have p:=I<|a5.below d;have G:=I<|a4.below d;have a7:=I<|a2.below d;have a8:=I<|a6.below d;have a9:=I<|a3.below d;clear D d a2 a3 a6 a5 a4;generalize Z.heap.size=zb at*;have x0:=p.cell 0;have x1:=p.cell 1;have x2':=p.cell 2;have z0:=o.cell 0;have z1:=o.cell 1;have z2:=o.cell 2;have a1:=G.cell 1;simp only[CV.cells,Yf]at x0 x1 x2' z0 z1 z2 a1;have c0:=p.lt;have c1:=o.lt;have c2:=G.lt;go_wp2_with fail;refine(wW ha v u a9.2 a8.2 hv hu).m ?_;rintro e w6 ⟨v',rfl,b0,b1⟩;have r:=I<|a7.below b1;obtain⟨sc',n',ea',en',ec',rfl,b2⟩:=b0.shape;have b3:=I b2;clear b1 a7 a8 a9 p o G x0 x1 x2' z0 z1 z2 a1 c0 c1 c2 b2 b0;go_wp2_with fail;refine(MA _ _ _ _ t k _ _ _ _ _ _ _ r.st hk r.bel.size).m ?_;rintro e w7 ⟨rfl,b4,b5⟩;obtain⟨g7,c7,b6⟩:=b4.o;have c4:=I<|r.pushed b3 b6 b5;clear b6 b4 b5 r b3;go_wp2;go_ret;exact⟨by go_num,I ⟨_,_,_,_,_,c4⟩⟩
theorem sF(h:Ra w0 wr c cb mb i 0 arg sv t m cv pv gv iv l g sa sn sc sl xs)(G:arg<c.jq.length)(O:YC<|c.jq.getD arg 0)(H:m.jy.length<64):
 CP 17 #[Vp mb,E i] wr λe u=>e=.returned (E (i+1:Nat))/\U (RI w0 u mb cb sv t ⟨.inl (.inl<|c.jq.getD arg 0)::m.jy,m.jx⟩):=by
 obtain⟨gi,n,ic,⟨m0,c3,i0,i1,Q,mbl,cbl,gil⟩,T⟩:=h.at;have o:=h.rc.below h.inv.bel;obtain⟨gc,cc,f⟩:=Zm o.cs X;have k0:=Zc (by have:=o.cs;rw[f]at this;exact this) arg (E<|c.jq.getD arg 0)<|by rw[Vs,List.getElem?_eq_getElem G,Y0,List.getElem?_eq_getElem G];rfl
 have b0:wr.cell? ⟨cb,0,none⟩=some cv:=o.box.cell 0;rw[f]at b0;have gcl:=Xi _ _ k0;simp only at gcl;have R:sn<64:=by have:=h.inv.num;omega
 have J:=I h.inv;generalize c.jq.getD arg 0=v at*;generalize c.jq.length=nc at*;have S:(arg:Int)<(nc:Int):=X;have q:U<|∀j:Y,BW wr j->j.cell? ⟨mb,0,none⟩=some (Vp cb)/\j.cell? ⟨cb,0,none⟩=some (.slice (some ⟨gc,0,none⟩) nc cc)/\j.cell? ⟨gc,arg,none⟩=some (E v):=I λj B=>⟨(B.cell (p:=⟨mb,0,none⟩) mbl).trans m0,(B.cell (p:=⟨cb,0,none⟩) cbl).trans b0,(B.cell (p:=⟨gc,arg,none⟩) gcl).trans k0⟩;clear h o f k0 b0 H;go_enter func17,ntmps17;go_upto_region 6 with fail;refine Zs λW D=>?_;have d:BW wr W:=by rw[D];exact Yc
 have r:U<|Ya W wr.heap.size [E 0,E arg] 110:=I<|by rw[D];exact(show Ya _ _ _ _ from Go.Deep.blk_alloc_new wr _)
 have k:=I<|J.below<|d.drew;obtain⟨q0,q1,q2⟩:=q.o W d;have mbW:mb<W.heap.size:=WH mbl d.size;have cbW:cb<W.heap.size:=WH cbl d.size;have gcW:gc<W.heap.size:=WH gcl d.size;clear D d m0 c3 i0 i1 mbl cbl gil J q gcl;generalize wr.heap.size=ab at*;have abW:=r.lt;refine ZW 13 (λu=>u.cell? ⟨mb,0,none⟩=some (Vp cb)/\u.cell? ⟨cb,0,none⟩=some (.slice (some ⟨gc,0,none⟩) nc cc)/\u.cell? ⟨ab,1,none⟩=some (E arg)/\u.cell? ⟨gc,arg,none⟩=some (E v)) Kr (by exact⟨q0,q1,r.cell 1,q2⟩) λa=>?_;clear q0 q1 q2;refine Za 0 a (h:=Za 1 a (h:=Za 2 a (h:=Za 3 a (h:=Za 4 a (h:=Za 5 a (h:=Za 6 a (h:=Za 7 a (h:=Za 8 a (h:=Za 9 a (h:=Za 10 a (h:=Za 11 a (h:=Za 12 a (h:=?_)))))))))))));refine ZS Kr Kr C Kr λK L=>?_;go_simp;refine(MA w0.heap.size mb cb sv t sn sl xs.reverse true v none 0 0 k.st X k.bel.size).m ?_;rintro e V ⟨rfl,s,w⟩;obtain⟨g9,c9,A⟩:=s.o;have M:=I<|k.pushed (x:=⟨true,v,none,0,0,false,XN⟩) (y:=.inl<|.inl v) ⟨C,⟨none,0,C,Xm _ _ _ _,Yr _,λz P=>(by cases P)⟩,O⟩ A w.o;clear A s w a;go_simp;refine L.out _ _ ?_;clear L K;go_wp2;go_ret;exact⟨by go_num,I ⟨_,_,_,_,_,M.o⟩⟩
theorem sI(h:Ra w0 wr c cb mb i op arg sv t m cv pv gv iv l g sa sn sc sl xs)(c4:5<=op)(c5:op<=8)(ha:arg<c.jv.length)(b6:(c.jv.getD arg []).length<=70000){v:List El}(hs:m.jy=.inl (.inr v)::ys)(b7:m.jy.length<=64)(hv:v.length<=1000):
 CP 17 #[Vp mb,E i] wr λe u=>e=.returned (E (i+1:Nat))/\U (RI w0 u mb cb sv t ⟨.inl (.inr<|SA (op-5) (c.jv.getD arg []) v)::ys,m.jx⟩):=by
 have o:=h.rc;obtain⟨gg,gcc,s⟩:=Zm o.gs X;have w:arg<g.length:=by rwa [o.gl]
 have A:c.jv.getD arg []=c.jv[arg]:=by rw[Y0,List.getElem?_eq_getElem ha];rfl
 obtain⟨bs,R,B⟩:=o.gk _ _ _ (List.getElem?_eq_getElem ha)<|List.getElem?_eq_getElem w;have k0:=Zc (by have:=o.gs;rw[s]at this;exact this) _ (.slice _ _ _)<|by rw[Vs,List.getElem?_eq_getElem w];rfl
 have b2:w0.cell? _=some _:=o.box.cell 2;rw[s]at b2;have gl0:=Xi _ _ k0;have cl0:=o.box.lt;simp only at gl0;generalize g[arg].1=na at*;generalize g[arg].2.1=nn at*;generalize g[arg].2.2=nc at*;have b8:U<|Ul _ _ _:=I ⟨R,by
  have:=congrArg List.length B;rw[Yz]at this;rw[A]at b6;omega⟩;have b9:U<|bs.map _=c.jv.getD _ _:=I<|by rw[A,B]
 clear A B;generalize c.jv.length=ngr at*;have c8:(arg:Int)<(ngr):=X;have S:U<|∀D:Y,Below _ _ _->D.cell? _=some _/\D.cell? _=some _/\cb<D.heap.size/\gg<D.heap.size:=I λD Q=>⟨(Q.cell cl0).trans b2,(Q.cell gl0).trans k0,WH cl0 Q.size,WH gl0 Q.size⟩;clear o s R k0 b2 gl0 cl0 w;obtain⟨gi,n,ic,⟨m0,c3,i0,i1,d0,mbl,cbl,gil⟩,hn⟩:=h.at;obtain⟨x,xs',gs,k,rfl,rfl,rfl,b5,_,_⟩:=h.inv.top hs;have hk:k<=64:=by have:=h.inv.num;omega
 have HI:U<|Xd w0 wr mb cb sv t ⟨.inl (.inr v)::ys,m.jx⟩ (some ⟨gs,0,none⟩) (k+1) sc sl<|x::xs':=by have:=h.inv;rw[show m=⟨.inl _::ys,m.jx⟩by rw[<-hs]]at this;exact this
 clear h hs b7;have e0:((op:Int)==0)=false:=by rw[YB];omega
 have e1:((op:Int)==1)=false:=by rw[YB];omega
 have e2:((op:Int)==2)=false:=by rw[YB];omega
 have e3:((op:Int)==3)=false:=by rw[YB];omega
 have e4:((op:Int)==4)=false:=by rw[YB];omega
 have e9:((op:Int)==9)=false:=by rw[YB];omega
 have e10:((op:Int)==10)=false:=by rw[YB];omega
 have e11:((op:Int)==11)=false:=by rw[YB];omega
 have e12:((op:Int)==12)=false:=by rw[YB];omega
 have e13:((op:Int)==13)=false:=by rw[YB];omega
 have ws:IntKind.i64.wrap ((op)-5)=((op-5:Nat)):=by rw[Us];omega
 go_enter func17,ntmps17;go_wp2_with fail;refine Zv λW hW=>?_;have T:Below _ _ W:=hW▸Yc;have d:=I<|HI.below T;have V:U<|Ya W _ _ 110:=hW▸(show Ya _ _ _ _ from Go.Deep.blk_alloc_new wr _);clear hW T m0 c3 i0 i1 mbl cbl gil HI;generalize wr.heap.size=ab at*;obtain⟨_,_,_,_,e1,e2,e3,_,_,Z⟩:=d.top C;injection e1 with e1 e1';injection e2 with e2;injection e2 with e2 _ _;injection e3 with e3;subst e1 e1' e2 e3;refine(OK _ _ _ _ k _ _ t _ x d.st.box Z hk b5).m ?_;rintro e a0 ⟨rfl,a1,G⟩;have H:=I<|d.qx a1 G;have a2:=I H.1;have a3:=I H.2;have a4:=I<|V.mkeep d.st.box G N;clear d a1 G Z H V;unfold Pv;go_upto_region 4 with fail;refine Zs λW3 J=>?_;have p:Below _ _ _:=J▸Yc;have a5:U<|Ya _ _ x.cells 61:=J▸(show Ya _ _ _ _ from Go.Deep.blk_alloc_new a0 _);have a6:=I<|a2.below p;have a7:=I<|a3.below p;have a8:=I<|a4.below p;clear J p a2 a3 a4;generalize a0.heap.size=xb at*;have f:=I<|a6.below<|(Ym _ _).drew;have c0:=I<|a7.below<|(Ym _ _).drew;have L:=I<|a8.below<|(Ym _ _).drew;have q:=I<|a5.below<|(Ym _ _).drew;clear a6 a7;have d1:=a5.lt;have c6:=a8.lt;have c7:=f.st.box.lt;clear e0 e1 e2 e3 e4 e9 e10 e11 e12 e13;obtain⟨w1,z,w3,w4⟩:=S _ f.bel;have d2:cb<W3.heap.size:=w3;have d3:gg<W3.heap.size:=w4;refine ZW 18 (λu=>u.cell? _=some _/\u.cell? _=some _/\u.cell? _=some _/\u.cell? _=some _/\u.cell? _=some _/\u.cell? _=some _/\u.cell? _=some _/\u.cell? _=some _) Kr (⟨L.cell 0,L.cell 1,f.st.box.cell 0,w1,z,q.cell 0,q.cell 1,q.cell 2⟩) λa=>?_;clear w1 z w3 w4;refine Za 0 a (h:=Za 1 a (h:=Za 2 a (h:=Za 3 a (h:=Za 4 a (h:=Za 5 a (h:=Za 6 a (h:=Za 7 a (h:=Za 8 a (h:=Za 9 a (h:=Za 10 a (h:=Za 11 a (h:=Za 12 a (h:=Za 13 a (h:=Za 14 a (h:=Za 15 a (h:=Za 16 a (h:=?_)))))))))))))))));refine Zz (i:=17) Kr C λK M=>?_;go_simp;refine(qA X v (b8.below f.bel) c0.2 hv).m ?_;rintro e w4 ⟨v',rfl,a9,r⟩;have j:=I<|f.below r;have b0:=I<|L.below r;have O:=I<|q.below r;obtain⟨sc',n',ea',en',ec',rfl,P⟩:=a9.shape;rw[b9]at P;have c1:=I P;obtain⟨q1,q2,_,_⟩:=S _ j.bel;clear r P a9;go_simp;refine M _ _ ⟨b0.cell 0,b0.cell 1,j.st.box.cell 0,q1,q2,O.cell 0,O.cell 1,O.cell 2⟩ λa=>?_;clear M K q1 q2;try simp only[Act.put,Yt]
 refine ZS Kr Kr C Kr λK M=>?_;clear a;go_simp;refine(MA _ _ _ _ t k _ _ _ _ _ _ _ j.st X j.bel.size).m ?_;rintro e w9 ⟨rfl,b1,b3⟩;obtain⟨g9,c9,b4⟩:=b1.o;have c2:=I<|j.pushed c1 b4 b3;clear b4 b1 b3;go_simp;refine M _ _ ?_;clear M K;go_wp2;go_ret;exact⟨by go_num,I ⟨_,_,_,_,_,c2⟩⟩
theorem sM(h:Ra w0 wr c cb mb i 2 arg sv t m cv pv gv iv l g sa sn sc sl xs)(L:UP w0 sv ss)(ha:arg<=4){a:Nd}{nr:Nat}(hs:m.jy=.inr (a,nr)::ys)(a9:m.jy.length<=64)(b0:-1000000<=t)(b1:t<=1000000):
 CP 17 #[Vp mb,E i] wr λe u=>e=.returned (E (i+1:Nat))/\U (RI w0 u mb cb sv t ⟨.inl (.inr<|Uk (ZH ss) a (some arg) nr t)::ys,m.jx⟩):=by
 have b2:=I L;clear L;obtain⟨gi,n,ic,⟨m0,c3,i0,i1,b9,mbl,cbl,gil⟩,hn⟩:=h.at;obtain⟨x,xs',gs,k,rfl,rfl,rfl,a8,_,_⟩:=h.inv.top hs;have hk:k<=64:=by have:=h.inv.num;omega
 have HI:U<|Xd w0 wr mb cb sv t ⟨.inr (a,nr)::ys,m.jx⟩ (some ⟨gs,0,none⟩) (k+1) sc sl<|x::xs':=I<|by have:=h.inv;rw[show m=⟨.inr (a,nr)::ys,m.jx⟩by rw[<-hs]]at this;exact this
 clear h hs a9;go_enter func17,ntmps17;go_wp2_with fail;refine Zv λW hW=>?_;have M:BW wr W:=by rw[hW];exact Yc
 have r:=I<|HI.below M;have O:U<|Ya W wr.heap.size [E 2,E arg] 110:=I<|by rw[hW];exact(show Ya _ _ _ _ from Go.Deep.blk_alloc_new wr _)
 clear hW M m0 c3 i0 i1 mbl cbl gil HI;generalize wr.heap.size=ab at*;obtain⟨_,_,_,_,e1,e2,e3,_,_,P⟩:=r.top C;injection e1 with e1 e1';injection e2 with e2;injection e2 with e2 _ _;injection e3 with e3;subst e1 e1' e2 e3;refine(OK _ mb cb gs k sc sv t sl x r.st.box P hk a8).m ?_;rintro e o ⟨rfl,Q,A⟩;have B:=I<|r.qx Q.o A.o;have R:=I B.1;have S:=I B.2;have T:U<|Ya o ab [E 2,E arg] 110:=I<|O.mkeep r.st.box A.o N;clear r Q A P B O;unfold Pv;go_upto_region 14 with fail;refine Zs λW3 D=>?_;have w:BW o W3:=by rw[D];exact Yc
 have V:U<|Ya W3 o.heap.size x.cells 61:=I<|by rw[D];exact(show Ya _ _ _ _ from Go.Deep.blk_alloc_new o _)
 have Z:=I<|R.below w;have a0:=I<|S.below w;have a1:=I<|T.below w;clear D w R S T;generalize o.heap.size=xb at*;have s:=I<|Z.below<|(Ym _ _).drew;have q:=I<|a0.below<|(Ym _ _).drew;have a2:=I<|a1.below<|(Ym _ _).drew;have f:=I<|V.below<|(Ym _ _).drew;clear Z a0;have c0:=V.lt;have b7:=a1.lt;have b8:=s.st.box.lt;have a3:x.p.n=(nr:Int):=q.2.2.2.1.n q.2.1;have G:=I a3;clear a3;refine ZW 17 (λu=>u.cell? ⟨ab,1,none⟩=some (E arg)/\u.cell? ⟨mb,1,none⟩=some sv/\u.cell? ⟨mb,2,none⟩=some (E t)/\u.cell? ⟨xb,4,none⟩=some (E x.p.k)/\u.cell? ⟨xb,5,none⟩=some (E x.p.n)/\u.cell? ⟨xb,6,none⟩=some (E x.p.op)/\u.cell? ⟨xb,7,none⟩=some (.string x.p.nm)/\u.cell? ⟨xb,8,none⟩=some (.slice x.p.ca x.p.cn x.p.cc)/\u.cell? ⟨xb,9,none⟩=some (.slice x.p.ba x.p.bn x.p.bc)/\u.cell? ⟨xb,10,none⟩=some (E x.p.a)/\u.cell? ⟨xb,11,none⟩=some (E x.p.b)) Kr (by exact⟨a2.cell 1,s.st.box.cell 1,s.st.box.cell 2,f.cell 4,f.cell 5,f.cell 6,f.cell 7,f.cell 8,f.cell 9,f.cell 10,f.cell 11⟩) λd=>?_;refine Za 0 d (h:=Za 1 d (h:=Za 2 d (h:=Za 3 d (h:=Za 4 d (h:=Za 5 d (h:=Za 6 d (h:=Za 7 d (h:=Za 8 d (h:=Za 9 d (h:=Za 10 d (h:=Za 11 d (h:=Za 12 d (h:=Za 13 d (h:=Za 14 d (h:=Za 15 d (h:=?_))))))))))))))));refine Zz (i:=16) Kr C λK H=>?_;go_simp;refine(Aq sv ss x.p a q.2.2.2.1.nm q.2.2.2.1.cs q.2.2.2.2 (some arg) arg (Or.inr ⟨arg,ha,C,C⟩) x.p.n t (by rw[G.o];omega) (by rw[G.o];have:=q.2.2.1;omega) b0 b1<|b2.below s.bel).m ?_;rintro e w4 ⟨vv,zs,rfl,J,a4,b3,z⟩;have v:=I<|s.below z;have b4:=I<|a2.below z;have j:=I<|f.below z;obtain⟨ea',ec',rfl⟩:=Zd J.own;have b5:U<|XZ w4 ⟨false,0,ea',zs.length,ec',false,XN⟩<|.inl<|.inr<|Uk (ZH ss) a (some arg) nr t:=I ⟨C,ea',ec',zs,C,J.o,by rw[a4.o,G.o]⟩;clear z J a4 b3;generalize zs.length=en' at*;go_simp;refine H.out _ _ ⟨b4.cell 1,v.st.box.cell 1,v.st.box.cell 2,j.cell 4,j.cell 5,j.cell 6,j.cell 7,j.cell 8,j.cell 9,j.cell 10,j.cell 11⟩ λd=>?_;clear H K;try simp only[Act.put,Yt]
 refine ZS Kr Kr C Kr λK H=>?_;clear d;go_simp;refine(MA w0.heap.size mb cb sv t k sl xs'.reverse false 0 ea' en' ec' v.st X v.bel.size).m ?_;rintro e w9 ⟨rfl,a5,a6⟩;obtain⟨g9,c9,a7⟩:=a5.o;have b6:=I<|v.pushed b5.o a7 a6.o;clear a7 a5 a6;go_simp;refine H.out _ _ ?_;clear H K;go_wp2;go_ret;exact⟨by go_num,I ⟨_,_,_,_,_,b6.o⟩⟩
theorem sH(h:Ra w0 wr c cb mb i 10 arg sv t m cv pv gv iv l g sa sn sc sl xs){v:List El}(Z:m.jy=.inl (.inr v)::ys)(a4:m.jy.length<=64):
 CP 17 #[Vp mb,E i] wr λe u=>e=.returned (E (if v.isEmpty then i+1 else arg:Nat))/\U (RI w0 u mb cb sv t m):=by
 obtain⟨gi,n,ic,⟨m0,c3,i0,i1,a5,mbl,cbl,gil⟩,hn⟩:=h.at;obtain⟨x,xs',gs,k,rfl,rfl,rfl,a0,z,_⟩:=h.inv.top Z;have hk:k<=64:=by have:=h.inv.num;omega
 have L:x.en=v.length:=by
  obtain⟨ea,ec,zs,J,_,h3⟩:=z.2;unfold Eu at J;injection J with J;have r:=congrArg Array.toList J;simp only at r;injection r with _ r;injection r with _ r;injection r with r _;injection r with _ r _;rw[r,<-h3,Yz]
 have M:=I L;clear L;have HI:=I h.inv;have w:U<|∀j,BW wr j->j.cell? ⟨mb,3,none⟩=some (.slice (some ⟨gs,0,none⟩) (k+1) sc)/\j.cell? ⟨gs,k*12,none⟩=some (.bool x.sc)/\j.cell? ⟨gs,k*12+1,none⟩=some (E x.n)/\j.cell? ⟨gs,k*12+2,none⟩=some (.slice x.ea x.en x.ec)/\j.cell? ⟨gs,k*12+3,none⟩=some (.bool x.rg)/\j.cell? ⟨gs,k*12+4,none⟩=some (E x.p.k)/\j.cell? ⟨gs,k*12+5,none⟩=some (E x.p.n)/\j.cell? ⟨gs,k*12+6,none⟩=some (E x.p.op)/\j.cell? ⟨gs,k*12+7,none⟩=some (.string x.p.nm)/\j.cell? ⟨gs,k*12+8,none⟩=some (.slice x.p.ca x.p.cn x.p.cc)/\j.cell? ⟨gs,k*12+9,none⟩=some (.slice x.p.ba x.p.bn x.p.bc)/\j.cell? ⟨gs,k*12+10,none⟩=some (E x.p.a)/\j.cell? ⟨gs,k*12+11,none⟩=some (E x.p.b):=I λj hb=>by
  have hi:=h.inv.below hb;obtain⟨_,_,_,_,e1,e2,e3,_,_,q⟩:=hi.top Z;injection e1 with e1 e1';injection e2 with e2;injection e2 with e2 _ _;injection e3 with e3;subst e1 e1' e2 e3;exact⟨hi.st.box.cell 3,q 0 N,q 1 N,q 2 N,q 3 N,q 4 N,q 5 N,q 6 N,q 7 N,q 8 N,q 9 N,q 10 N,q 11 N⟩
 clear h z;have a6:IntKind.i64.wrap (k)=(k):=by rw[Us];omega
 have a7:(k:Int)<(k)+1:=X;go_enter func17,ntmps17;go_upto_region 25 with fail;refine Zs λW T=>?_;have s:Below _ _ W:=T▸Yc;have O:U<|Ya W _ _ 110:=T▸(show Ya _ _ _ _ from Go.Deep.blk_alloc_new wr _);have A:=I<|HI.below s;have B:=w _<|s.drew;have P:U<|∀o,(W.drew.alloc o).cell? _=some _/\(W.drew.alloc o).cell? _=some _/\(W.drew.alloc o).cell? _=some _/\(W.drew.alloc o).cell? _=some _/\(W.drew.alloc o).cell? _=some _/\(W.drew.alloc o).cell? _=some _/\(W.drew.alloc o).cell? _=some _/\(W.drew.alloc o).cell? _=some _/\(W.drew.alloc o).cell? _=some _/\(W.drew.alloc o).cell? _=some _/\(W.drew.alloc o).cell? _=some _/\(W.drew.alloc o).cell? _=some _/\(W.drew.alloc o).cell? _=some _:=I λo=>w _<|(s.drew).alloc (s.size) _;have mbW:=A.st.box.lt;have gsW:gs<W.heap.size:=by have:=B.2.1;exact Xi _ _ this
 clear T s m0 c3 i0 i1 mbl cbl gil HI w;generalize wr.heap.size=ab at*;have d:U<|Ya ((W.alloc<|.cells #[.bool false,.int _ 0,S0,.bool false,.int _ 0,.int _ 0,.int _ 0,.string ⟨#[]⟩,S0,S0,.int _ 0,.int _ 0] _).drew) _ T4.cells 61:=I<|Go.Deep.blk_alloc_new W _;refine ZW 13 (λu=>u.cell? _=some _/\u.cell? _=some _/\u.cell? _=some _/\u.cell? _=some _/\u.cell? _=some _/\u.cell? _=some _/\u.cell? _=some _/\u.cell? _=some _/\u.cell? _=some _/\u.cell? _=some _/\u.cell? _=some _/\u.cell? _=some _/\u.cell? _=some _) Kr (B) λf=>?_;clear B;refine Za 0 f (h:=Za 1 f (h:=Za 2 f (h:=Za 3 f (h:=Za 4 f (h:=Za 5 f (h:=Za 6 f (h:=Za 7 f (h:=Za 8 f (h:=Za 9 f (h:=Za 10 f (h:=Za 11 f (h:=?_))))))))))));refine Zz (i:=12) Kr C λK D=>?_;go_simp;refine D _ _ (P _) λf=>?_;clear D K;try simp only[Act.put,Yt]
 refine ZS Kr Kr C Kr λK D=>?_;have z0:=d.cell 0;have f0:=d.frozen 0;have z1:=d.cell 1;have f1:=d.frozen 1;have z2:=d.cell 2;have f2:=d.frozen 2;have z3:=d.cell 3;have f3:=d.frozen 3;have z4:=d.cell 4;have f4:=d.frozen 4;have z5:=d.cell 5;have f5:=d.frozen 5;have z6:=d.cell 6;have f6:=d.frozen 6;have z7:=d.cell 7;have f7:=d.frozen 7;have z8:=d.cell 8;have f8:=d.frozen 8;have z9:=d.cell 9;have f9:=d.frozen 9;have z10:=d.cell 10;have f10:=d.frozen 10;have z11:=d.cell 11;have f11:=d.frozen 11;simp only[T4,XN,CV.cells,Yf]at z0 z1 z2 z3 z4 z5 z6 z7 z8 z9 z10 z11;clear f;go_simp;refine D _ _ ?_;clear D K z0 f0 z1 f1 z2 f2 z3 f3 z4 f4 z5 f5 z6 f6 z7 f7 z8 f8 z9 f9 z10 f10 z11 f11;go_upto_region 26 with fail;refine Zs λW4 G=>?_;have Q:U<|Ya W4 W.heap.size x.cells 61:=G▸(show Ya _ _ _ _ from Go.Deep.blk_alloc_new W _);have H:Below _ W _:=G▸Yc.drew;have R:=I<|A.below H;have S:=I<|O.below H;clear H A O d P G;generalize W.heap.size=tb at*;have t2:=Q.cell 2;have a1:=S.cell 1;simp only[CV.cells,Yf]at t2 a1;have a8:=Q.lt;have a9:=S.lt;cases v with
 |nil=>
  have V:x.en=0:=M;rw[V]at t2;go_wp2;go_ret;exact⟨by first|rfl|go_num,I ⟨_,_,_,_,_,R⟩⟩
 |cons e0 v0=>
  have a2:0<x.en:=by rw[M];simp
  have a3:(0:Int)<(x.en):=X;go_wp2;go_ret;exact⟨C,I ⟨_,_,_,_,_,R⟩⟩
theorem Dy:∀(l:List PV)(i j:Nat)(p:PV),l[i]?=some p->j<8->(Pf l)[i*8+j]?=p.cells[j]?
 |[],i,j,p,h,_=>by simp at h
 |q::l,0,j,p,h,a=>by
  simp at h;subst h;show(q.cells++Pf l)[0*8+j]?=_;rw[MZ,SI,PA<|by rwa [Oz]]
 |q::l,i+1,j,p,h,a=>by
  rw[J7]at h;have:=Dy l i j p h a;show(q.cells++Pf l)[(i+1)*8+j]?=_;rw[Rg<|by rw[Oz];omega,Oz,show(i+1)*8+j-8=i*8+j by omega];exact this
theorem Tryz.infoCellP:(Tryz.prog.info? 61).map (λi=>(i.zero,i.size,i.bytes))=some (some<|.agg #[.bool false,E 0,S0,.bool false,E 0,E 0,E 0,.string ⟨#[]⟩,S0,S0,E 0,E 0],12,152):=Tryz.infoCell
theorem sN(h:Ra w0 wr c cb mb i 1 arg sv t m cv pv gv iv l g sa sn sc sl xs)(b2:UP w0 sv ss)(ha:arg<c.jw.length)(c6:(c.jw.getD arg VN).2<=1000)(b3:(c.jw.getD arg VN).1.kq.length<=100000)(c7:m.jy.length<64)(c8:-1000000<=t)(d0:t<=1000000):
 CP 17 #[Vp mb,E i] wr λe q=>e=.returned (E (i+1:Nat))/\U (RI w0 q mb cb sv t ⟨SC (ZH ss) t (c.jw.getD arg VN)::m.jy,m.jx⟩):=by
 have d1:=I b2;clear b2;obtain⟨i0',hi,d2,d3,d4⟩:=Xv Tryz.infoCellP;obtain⟨gi,n,ic,⟨m0,c3,i0,i1,e1,mbl,cbl,gil⟩,hn⟩:=h.at;have R:=h.rc;obtain⟨gp,pc,Z⟩:=Zm R.ps X;have a0:arg<l.length:=by rwa [R.pl]
 have b4:c.jw.getD arg VN=c.jw[arg]:=by rw[Y0,List.getElem?_eq_getElem ha];rfl
 have A:=R.pk _ _ _ (List.getElem?_eq_getElem ha)<|List.getElem?_eq_getElem a0;have kk:∀j,j<8->w0.cell? _=l[arg].cells[j]?:=λj hj=>by
  have h1:=Dy l _ j _ (List.getElem?_eq_getElem a0) hj;have d5:j<l[arg].cells.length:=hj;rw[List.getElem?_eq_getElem d5]at h1⊢;exact Zc (by have:=R.ps;rw[Z]at this;exact this) _ _ h1
 rw[<-b4]at A;generalize c.jw.getD arg VN=nx at*;generalize l[arg]=p at*;have b1:w0.cell? _=some _:=R.box.cell 1;rw[Z]at b1;have gl0:gp<w0.heap.size:=by have:=kk 0 N;exact Xi _ _ this
 have cl0:=R.box.lt;have a1:=I A;clear b4 A a0;generalize c.jw.length=np at*;have e2:(arg:Int)<(np):=X;have a2:U<|∀s:Y,Below _ _ _->s.cell? _=some _/\cb<s.heap.size/\gp<s.heap.size/\∀j,j<8->s.cell? _=p.cells[j]?:=I λs S=>⟨(S.cell cl0).trans b1,WH cl0 S.size,WH gl0 S.size,λj hj=>(S.cell gl0).trans<|kk j hj⟩;clear R Z kk b1 gl0 cl0;have e3:sn<64:=by have:=h.inv.num;omega
 have HI:=I h.inv;clear h c7;go_enter func17,ntmps17;go_upto_region 8 with fail;refine Zs λW hW=>?_;have b5:Below _ _ W:=hW▸Yc;have a3:U<|Ya W _ _ 110:=hW▸(show Ya _ _ _ _ from Go.Deep.blk_alloc_new wr _);have M:=I<|HI.below b5;clear hW b5 m0 c3 i0 i1 mbl cbl gil HI;generalize wr.heap.size=ab at*;have a4:U<|∀s,BW W s->s.cell? ⟨mb,0,none⟩=some (Vp cb)/\s.cell? ⟨cb,1,none⟩=some (.slice (some ⟨gp,0,none⟩) np pc)/\s.cell? ⟨ab,1,none⟩=some (E arg)/\s.cell? ⟨gp,arg*8,none⟩=some (E p.k)/\s.cell? ⟨gp,arg*8+1,none⟩=some (E p.n)/\s.cell? ⟨gp,arg*8+2,none⟩=some (E p.op)/\s.cell? ⟨gp,arg*8+3,none⟩=some (.string p.nm)/\s.cell? ⟨gp,arg*8+4,none⟩=some (.slice p.ca p.cn p.cc)/\s.cell? ⟨gp,arg*8+5,none⟩=some (.slice p.ba p.bn p.bc)/\s.cell? ⟨gp,arg*8+6,none⟩=some (E p.a)/\s.cell? ⟨gp,arg*8+7,none⟩=some (E p.b):=I λs S=>by
  have hi:=M.below S;obtain⟨q1,_,_,q4⟩:=a2.o s hi.bel;exact⟨hi.st.box.cell 0,q1,(a3.below S).cell 1,q4 0 N,q4 1 N,q4 2 N,q4 3 N,q4 4 N,q4 5 N,q4 6 N,q4 7 N⟩
 obtain⟨_,cbW,gpW,_⟩:=a2.o W M.bel;have mbW:=M.st.box.lt;have abW:=a3.lt;refine ZW 12 (λq=>q.cell? _=some _/\q.cell? _=some _/\q.cell? _=some _/\q.cell? _=some _/\q.cell? _=some _/\q.cell? _=some _/\q.cell? _=some _/\q.cell? _=some _/\q.cell? _=some _/\q.cell? _=some _/\q.cell? _=some _) Kr (a4.o _<|(Ym _ _).drew) λf=>?_;refine Za 0 f (h:=Za 1 f (h:=Za 2 f (h:=Za 3 f (h:=Za 4 f (h:=Za 5 f (h:=Za 6 f (h:=Za 7 f (h:=Za 8 f (h:=Za 9 f (h:=Za 10 f (h:=?_)))))))))));refine Zz (i:=11) Kr C λK z=>?_;go_simp;refine z _ _ (a4 _<|Yc.drew) λf=>?_;clear z K;try simp only[Act.put,Yt]
 refine ZS Kr Kr C Kr λK z=>?_;clear f;go_simp;refine z _ _ ?_;clear z K;go_upto_region 9 with fail;refine Zs λW4 a5=>?_;have V:U<|Ya W4 W.heap.size p.cells 59:=a5▸(show Ya _ _ _ _ from Go.Deep.blk_alloc_new W _);have b6:Below _ W _:=a5▸Yc.drew;have J:=I<|M.below b6;clear a5 b6 M a3 a4 a2 cbW gpW mbW abW;generalize W.heap.size=tb at*;have t0:=V.cell 0;simp only[PV.cells,Qo]at t0;have e4:=V.lt;have e5:=J.st.box.lt;have T:=I<|a1.below J.bel;have O:=I<|J.below<|(Ym _ _).drew;have r:=I<|V.below<|(Ym _ _).drew;by_cases hw:0<nx.2
 .have A:p.k=2:=by rw[a1.k,Ye hw]
  have c4:=I A;rw[A]at t0;clear A;have a6:U<|SC (ZH ss) t _=.inr _:=I<|by unfold SC;rw[Ye hw]
  go_upto_region 10 with fail;clear t0;have b7:=I λo=>J.st.own.drew.alloc o;have a7:U<|∀o,Xd _ (W4.drew.alloc o) _ _ _ t m _ _ _ _ _:=I λo=>J.below<|((Ym _ _).drew).alloc (Yj _) _;have B:U<|∀o,Ya (W4.drew.alloc o) _ _ _:=I λo=>V.below<|((Ym _ _).drew).alloc (Yj _) _;have e6:=J.bel.size;refine ZW 11 (λq=>q.cell? _=some _/\q.cell? _=some _/\q.cell? _=some _/\q.cell? _=some _/\q.cell? _=some _/\q.cell? _=some _/\q.cell? _=some _/\q.cell? _=some _/\q.cell? _=some _) Kr (⟨O.st.box.cell 3,r.cell 0,r.cell 1,r.cell 2,r.cell 3,r.cell 4,r.cell 5,r.cell 6,r.cell 7⟩) λf=>?_;refine Za 0 f (h:=Za 1 f (h:=Za 2 f (h:=Za 3 f (h:=Za 4 f (h:=Za 5 f (h:=Za 6 f (h:=?_)))))));refine Zz (i:=7) Kr C λK z=>?_;go_simp;refine z _ _ ⟨(a7 _).st.box.cell 3,(B _).cell 0,(B _).cell 1,(B _).cell 2,(B _).cell 3,(B _).cell 4,(B _).cell 5,(B _).cell 6,(B _).cell 7⟩ λf=>?_;clear z K;try simp only[Act.put,Yt]
  refine Zz (i:=8) Kr C λK z=>?_;refine SY C _ _ 52 C _ 61 i0' _ 12 152 underlying52 hi d2 d3 d4 C N _ sn _ (by simp[Act.eval]) (b7.o _) ⟨W4.heap.size,0,none⟩ 1 1 [.bool false,E 0,S0,.bool true,E p.k,E p.n,E p.op,.string p.nm,.slice p.ca p.cn p.cc,.slice p.ba p.bn p.bc,E p.a,E p.b] (by simp[Act.eval]) C ?h2 ?h3 ?h4 ?h5 ?h6 ?_;case h2=>exact Z1 C
  case h3=>intro u hu;simp at hu;rcases hu with rfl|rfl|rfl|rfl|rfl|rfl|rfl|rfl|rfl|rfl|rfl|rfl<;>rfl
  case h4=>unfold maxLen;omega
  case h5=>omega
  case h6=>simp;omega
  intro v1 w1 L H _;obtain⟨g1,cp1,d6⟩:=Zm L X;subst d6;obtain⟨a8,P,b8⟩:=(a7 _).st.app (Ym _ _) (x:=⟨false,0,none,0,0,true,p⟩) (H) L;have b9:=I a8;have d7:U<|∀o,XZ (W4.drew.alloc o) ⟨false,0,none,0,0,true,p⟩<|.inr (nx.1,nx.2):=I λo=>⟨C,hw,c6,T.below<|((Ym _ _).drew).alloc (Yj _) _,b3⟩;have d8:=I<|(a7 _).pushed (d7 _) P b8;have D:=(B _).ownGrownR (b7 _) H N;refine z _ _ ⟨a8.cell 3,D.cell 0,D.cell 1,D.cell 2,D.cell 3,D.cell 4,D.cell 5,D.cell 6,D.cell 7⟩ λf=>?_;clear z K a8 P b8 D L H;try simp only[Act.put,Of]
  refine Tj (i:=9) (d:=87) (v:=?qv9) C C Kr (λ_ _ _ h=>h) (Or.inl ⟨by rfl,?qhy9⟩) f ?qrs9;case qhy9=>(intro w hSw;go_simp;try with_reducible rfl)
  case qrs9=>
  refine Tj (i:=10) (d:=88) (v:=?qv10) C C Kr (λ_ _ _ h=>h) (Or.inl ⟨by rfl,?qhy10⟩) f ?qrs10;case qhy10=>(intro w hSw;go_simp;try with_reducible rfl)
  case qrs10=>
  refine ZS Kr Kr C Kr λK z=>?_;have yc:w1.cell? _=some _:=b9.cell 3;have yf:=b9.frozen 3;clear f;go_simp;refine z _ _ ?_;clear z K yc yf;go_wp2;go_ret;exact⟨by go_num,I ⟨_,_,_,_,_,by rwa [a6.o]⟩⟩
 .have A:p.k=1:=by rw[a1.k,Yd hw]
  have c5:((p.k)==2)=false:=by rw[A];rfl
  have c4:=I A;clear A;have a6:U<|SC (ZH ss) t _=.inl _:=I<|by unfold SC;rw[Yd hw]
  go_upto_region 11 with fail;clear t0 c5;refine ZW 11 (λq=>q.cell? _=some _/\q.cell? _=some _/\q.cell? _=some _/\q.cell? _=some _/\q.cell? _=some _/\q.cell? _=some _/\q.cell? _=some _/\q.cell? _=some _/\q.cell? _=some _/\q.cell? _=some _) Kr (⟨O.st.box.cell 1,O.st.box.cell 2,r.cell 0,r.cell 1,r.cell 2,r.cell 3,r.cell 4,r.cell 5,r.cell 6,r.cell 7⟩) λf=>?_;refine Za 0 f (h:=Za 1 f (h:=Za 2 f (h:=Za 3 f (h:=Za 4 f (h:=Za 5 f (h:=Za 6 f (h:=Za 7 f (h:=Za 8 f (h:=Za 9 f (h:=?_))))))))));refine Zz (i:=10) Kr C λK z=>?_;go_simp;refine(Aq _ _ p _ T.nm (T.below<|(Ym _ _).drew).cs b3 _ _ (.inl ⟨C,C⟩) _ t N N c8 d0<|d1.below O.bel).m ?_;rintro e w5 ⟨vv,zs,rfl,a9,c0,d9,b0⟩;have Q:=I<|O.below b0;have G:=I<|r.below b0;obtain⟨ea',ec',rfl⟩:=Zd a9.own;have e0:U<|XZ _ ⟨false,0,ea',zs.length,ec',false,XN⟩<|.inl<|.inr _:=I ⟨C,ea',ec',zs,C,a9,c0⟩;clear b0 a9 c0 d9;generalize zs.length=en' at*;go_simp;refine z _ _ ⟨Q.st.box.cell 1,Q.st.box.cell 2,G.cell 0,G.cell 1,G.cell 2,G.cell 3,G.cell 4,G.cell 5,G.cell 6,G.cell 7⟩ λf=>?_;clear z K;try simp only[Act.put,Yt]
  refine ZS Kr Kr C Kr λK z=>?_;clear f;go_simp;refine(MA _ _ _ _ t _ _ _ _ 0 _ _ _ Q.st X Q.bel.size).m ?_;rintro e w9 ⟨rfl,c1,c2⟩;obtain⟨g9,c9,P⟩:=c1.o;have d8:=I<|Q.pushed e0 P c2;clear P c1 c2;go_simp;refine z _ _ ?_;clear z K;go_wp2;go_ret;exact⟨by go_num,I ⟨_,_,_,_,_,by rwa [a6.o]⟩⟩
theorem Cq(cb:Nat)(sv:F)(t:Int)(st:F)(sl:List CV)(i j:Nat)(a:i<sl.length)(c:j<12):(mC cb sv t st sl)[4+i*12+j]?=(sl.getD i T4).cells[j]?:=by
 unfold mC;rw[Rg<|by simp;omega];rw[show 4+i*12+j-[Value.pointer<|some ⟨cb,0,none⟩,sv,E t,st].length=i*12+j by simp;omega];exact Hz sl i j a c
theorem sK(h:Ra w0 wr c cb mb i 13 arg sv t m cv pv gv iv l g sa sn sc sl xs)(ha:arg<16)(hy:m.jx.getD arg none=some y)(a2:m.jy.length<64):
 CP 17 #[Vp mb,E i] wr λe s=>e=.returned (E (i+1:Nat))/\U (RI w0 s mb cb sv t ⟨y::m.jy,m.jx⟩):=by
 obtain⟨i0',M,a3,a4,a5⟩:=Xv Tryz.infoCell;obtain⟨gi,n,ic,⟨m0,c3,i0,i1,b1,mbl,cbl,gil⟩,hn⟩:=h.at;have b2:sn<64:=by have:=h.inv.num;omega
 obtain⟨x,hx⟩:∃x,sl.getD arg T4=x:=⟨_,C⟩;have G:=h.inv.slot arg y hy;rw[hx]at G;have P:U<|∀(r:Y)(st:F),Ya r mb (mC cb sv t st sl) 64->∀j,j<12->r.cell? ⟨mb,4+arg*12+j,none⟩=x.cells[j]?:=I λr st O j hj=>by
  rw[O.cell,Cq cb sv t st sl arg j (by rw[h.inv.ls];exact ha) hj,hx]
 have HI:=I h.inv;have Q:=I G;clear h a2 hx G hy;have b3:(arg:Int)<16:=X;go_enter func17,ntmps17;go_upto_region 33 with fail;refine Zs λW hW=>?_;have J:BW wr W:=by rw[hW];exact Yc
 have L:U<|Ya W wr.heap.size [E 13,E arg] 110:=I<|by rw[hW];exact(show Ya _ _ _ _ from Go.Deep.blk_alloc_new wr _)
 have B:=I<|HI.below J;have a6:=I<|Q.below J;clear hW J m0 c3 i0 i1 mbl cbl gil HI Q;generalize wr.heap.size=ab at*;have R:U<|∀r,BW W r->r.cell? ⟨mb,3,none⟩=some (.slice sa sn sc)/\r.cell? ⟨ab,1,none⟩=some (E arg)/\r.cell? ⟨mb,4+arg*12,none⟩=some (.bool x.sc)/\r.cell? ⟨mb,4+arg*12+1,none⟩=some (E x.n)/\r.cell? ⟨mb,4+arg*12+2,none⟩=some (.slice x.ea x.en x.ec)/\r.cell? ⟨mb,4+arg*12+3,none⟩=some (.bool x.rg)/\r.cell? ⟨mb,4+arg*12+4,none⟩=some (E x.p.k)/\r.cell? ⟨mb,4+arg*12+5,none⟩=some (E x.p.n)/\r.cell? ⟨mb,4+arg*12+6,none⟩=some (E x.p.op)/\r.cell? ⟨mb,4+arg*12+7,none⟩=some (.string x.p.nm)/\r.cell? ⟨mb,4+arg*12+8,none⟩=some (.slice x.p.ca x.p.cn x.p.cc)/\r.cell? ⟨mb,4+arg*12+9,none⟩=some (.slice x.p.ba x.p.bn x.p.bc)/\r.cell? ⟨mb,4+arg*12+10,none⟩=some (E x.p.a)/\r.cell? ⟨mb,4+arg*12+11,none⟩=some (E x.p.b):=I λr O=>by
  have M:=B.below O;have q:=P.o r _ M.st.box;exact⟨M.st.box.cell 3,(L.below O).cell 1,q 0 N,q 1 N,q 2 N,q 3 N,q 4 N,q 5 N,q 6 N,q 7 N,q 8 N,q 9 N,q 10 N,q 11 N⟩
 have S:U<|∀o,(W.drew.alloc o).ownsRow w0.heap.size 61 12 (.slice sa sn sc) sn<|Ui xs.reverse:=I λo=>B.st.own.drew.alloc o;have T:U<|∀o,Xd w0 (W.drew.alloc o) mb cb sv t m sa sn sc sl xs:=I λo=>B.below<|((Ym _ _).drew).alloc (Yj _) _;have a7:U<|∀o,XZ (W.drew.alloc o) x y:=I λo=>a6.below<|((Ym _ _).drew).alloc (Yj _) _;have a8:U<|∀o,Ya (W.drew.alloc o) ab [E 13,E arg] 110:=I λo=>L.below<|((Ym _ _).drew).alloc (Yj _) _;have b4:w0.heap.size<=W.heap.size:=B.bel.size;have mbW:=B.st.box.lt;have abW:=L.lt;refine ZW 16 (λs=>s.cell? ⟨mb,3,none⟩=some (.slice sa sn sc)/\s.cell? ⟨ab,1,none⟩=some (E arg)/\s.cell? ⟨mb,4+arg*12,none⟩=some (.bool x.sc)/\s.cell? ⟨mb,4+arg*12+1,none⟩=some (E x.n)/\s.cell? ⟨mb,4+arg*12+2,none⟩=some (.slice x.ea x.en x.ec)/\s.cell? ⟨mb,4+arg*12+3,none⟩=some (.bool x.rg)/\s.cell? ⟨mb,4+arg*12+4,none⟩=some (E x.p.k)/\s.cell? ⟨mb,4+arg*12+5,none⟩=some (E x.p.n)/\s.cell? ⟨mb,4+arg*12+6,none⟩=some (E x.p.op)/\s.cell? ⟨mb,4+arg*12+7,none⟩=some (.string x.p.nm)/\s.cell? ⟨mb,4+arg*12+8,none⟩=some (.slice x.p.ca x.p.cn x.p.cc)/\s.cell? ⟨mb,4+arg*12+9,none⟩=some (.slice x.p.ba x.p.bn x.p.bc)/\s.cell? ⟨mb,4+arg*12+10,none⟩=some (E x.p.a)/\s.cell? ⟨mb,4+arg*12+11,none⟩=some (E x.p.b)) Kr (by exact R.o _<|(Ym _ _).drew) λf=>?_;refine Za 0 f (h:=Za 1 f (h:=Za 2 f (h:=Za 3 f (h:=Za 4 f (h:=Za 5 f (h:=Za 6 f (h:=Za 7 f (h:=Za 8 f (h:=Za 9 f (h:=Za 10 f (h:=Za 11 f (h:=?_))))))))))));refine Zz (i:=12) Kr C λK D=>?_;go_simp;refine D.out _ _ (R.o _<|Yc.drew) λf=>?_;clear D K;try simp only[Act.put,Yt]
 refine Zz (i:=13) Kr C λK D=>?_;refine SY C (.tmp 192) (.tmp 200) 52 C w0.heap.size 61 i0' _ 12 152 underlying52 M a3 a4 a5 C N (.slice sa sn sc) sn (Ui xs.reverse) (by simp[Act.eval]) (by exact S.o _) ⟨W.heap.size,0,none⟩ 1 1 [.bool x.sc,E x.n,.slice x.ea x.en x.ec,.bool x.rg,E x.p.k,E x.p.n,E x.p.op,.string x.p.nm,.slice x.p.ca x.p.cn x.p.cc,.slice x.p.ba x.p.bn x.p.bc,E x.p.a,E x.p.b] (by simp[Act.eval]) C ?h2 ?h3 ?h4 ?h5 ?h6 ?_;case h2=>exact Z1 C
 case h3=>intro u hu;simp at hu;rcases hu with rfl|rfl|rfl|rfl|rfl|rfl|rfl|rfl|rfl|rfl|rfl|rfl<;>rfl
 case h4=>unfold maxLen;omega
 case h5=>omega
 case h6=>simp;omega
 intro v1 w1 A z _;obtain⟨g1,cp1,a9⟩:=Zm A X;subst a9;obtain⟨H,V,Z⟩:=(T.o _).st.app (Ym _ _) (x:=x) (by exact z) A;have a0:=I H;have b0:=I<|(T.o _).pushed (a7.o _) V Z;have a1:=(a8.o _).ownGrownR (S.o _) z N;have q:=P.o _ _ H;refine D.out _ _ ⟨H.cell 3,a1.cell 1,q 0 N,q 1 N,q 2 N,q 3 N,q 4 N,q 5 N,q 6 N,q 7 N,q 8 N,q 9 N,q 10 N,q 11 N⟩ λf=>?_;clear D K H V Z a1 A z q;try simp only[Act.put,Of]
 refine Tj (i:=14) (d:=202) (v:=?v14) C C Kr (λ_ _ _ h=>h) (Or.inl ⟨by rfl,?hy14⟩) f ?rs14;case hy14=>(intro w hSw;go_simp;try with_reducible rfl)
 case rs14=>
 refine Tj (i:=15) (d:=203) (v:=?v15) C C Kr (λ_ _ _ h=>h) (Or.inl ⟨by rfl,?hy15⟩) f ?rs15;case hy15=>(intro w hSw;go_simp;try with_reducible rfl)
 case rs15=>
 refine ZS Kr Kr C Kr λK D=>?_;have yc:w1.cell? ⟨mb,3,none⟩=some (.slice sa sn sc):=a0.cell 3;have yf:=a0.frozen 3;clear f;go_simp;refine D.out _ _ ?_;clear D K yc yf;go_wp2;go_ret;exact⟨by go_num,I ⟨_,_,_,_,_,b0.o⟩⟩
theorem Ds:∀(l:List CV)(i:Nat)(x:CV)(v0 v1 v2 v3 v4 v5 v6 v7 v8 v9 v10 v11:F),x.cells=[v0,v1,v2,v3,v4,v5,v6,v7,v8,v9,v10,v11]->i<l.length->((((((((((((Ui l).set (i*12) v0).set (i*12+1) v1).set (i*12+2) v2).set (i*12+3) v3).set (i*12+4) v4).set (i*12+5) v5).set (i*12+6) v6).set (i*12+7) v7).set (i*12+8) v8).set (i*12+9) v9).set (i*12+10) v10).set (i*12+11) v11=Ui (l.set i x)
 |[],i,x,_,_,_,_,_,_,_,_,_,_,_,_,_,h=>absurd h<|Tu _
 |a::l,0,x,v0,v1,v2,v3,v4,v5,v6,v7,v8,v9,v10,v11,c,_=>by
  show(((((((((((((a.cells++Ui l)).set (0) v0).set (0+1) v1).set (0+2) v2).set (0+3) v3).set (0+4) v4).set (0+5) v5).set (0+6) v6).set (0+7) v7).set (0+8) v8).set (0+9) v9).set (0+10) v10).set (0+11) v11=x.cells++Ui l;rw[c];rfl
 |a::l,i+1,x,v0,v1,v2,v3,v4,v5,v6,v7,v8,v9,v10,v11,c,h=>by
  have ih:=Ds l i x v0 v1 v2 v3 v4 v5 v6 v7 v8 v9 v10 v11 c<|by simpa using h
  show(((((((((((((a.cells++Ui l)).set ((i+1)*12) v0).set ((i+1)*12+1) v1).set ((i+1)*12+2) v2).set ((i+1)*12+3) v3).set ((i+1)*12+4) v4).set ((i+1)*12+5) v5).set ((i+1)*12+6) v6).set ((i+1)*12+7) v7).set ((i+1)*12+8) v8).set ((i+1)*12+9) v9).set ((i+1)*12+10) v10).set ((i+1)*12+11) v11=a.cells++Ui (l.set i x);rw[Ve _ _<|by rw[Si];omega,Ve _ _<|by rw[Si];omega,Ve _ _<|by rw[Si];omega,Ve _ _<|by rw[Si];omega,Ve _ _<|by rw[Si];omega,Ve _ _<|by rw[Si];omega,Ve _ _<|by rw[Si];omega,Ve _ _<|by rw[Si];omega,Ve _ _<|by rw[Si];omega,Ve _ _<|by rw[Si];omega,Ve _ _<|by rw[Si];omega,Ve _ _<|by rw[Si];omega,Si,
   show(i+1)*12-12=i*12 by omega,show(i+1)*12+1-12=i*12+1 by omega,show(i+1)*12+2-12=i*12+2 by omega,show(i+1)*12+3-12=i*12+3 by omega,show(i+1)*12+4-12=i*12+4 by omega,show(i+1)*12+5-12=i*12+5 by omega,show(i+1)*12+6-12=i*12+6 by omega,show(i+1)*12+7-12=i*12+7 by omega,show(i+1)*12+8-12=i*12+8 by omega,show(i+1)*12+9-12=i*12+9 by omega,show(i+1)*12+10-12=i*12+10 by omega,show(i+1)*12+11-12=i*12+11 by omega,ih]
def OQ(w:Y)(g o:Nat)(x:CV):Y:=((((((((((((w).setCell ⟨g,o,none⟩<|.bool x.sc).setCell ⟨g,o+1,none⟩<|E x.n).setCell ⟨g,o+2,none⟩<|.slice x.ea x.en x.ec).setCell ⟨g,o+3,none⟩<|.bool x.rg).setCell ⟨g,o+4,none⟩<|E x.p.k).setCell ⟨g,o+5,none⟩<|E x.p.n).setCell ⟨g,o+6,none⟩<|E x.p.op).setCell ⟨g,o+7,none⟩<|.string x.p.nm).setCell ⟨g,o+8,none⟩<|.slice x.p.ca x.p.cn x.p.cc).setCell ⟨g,o+9,none⟩<|.slice x.p.ba x.p.bn x.p.bc).setCell ⟨g,o+10,none⟩<|E x.p.a).setCell ⟨g,o+11,none⟩<|E x.p.b
theorem mq(cb:Nat)(sv:F)(t:Int)(st:F)(sl:List CV)(i:Nat)(x:CV)(v0 v1 v2 v3 v4 v5 v6 v7 v8 v9 v10 v11:F)(c:x.cells=[v0,v1,v2,v3,v4,v5,v6,v7,v8,v9,v10,v11])(d:i<sl.length):((((((((((((mC cb sv t st sl).set (4+i*12) v0).set (4+i*12+1) v1).set (4+i*12+2) v2).set (4+i*12+3) v3).set (4+i*12+4) v4).set (4+i*12+5) v5).set (4+i*12+6) v6).set (4+i*12+7) v7).set (4+i*12+8) v8).set (4+i*12+9) v9).set (4+i*12+10) v10).set (4+i*12+11) v11=mC cb sv t st (sl.set i x):=by
 unfold mC;have a:[Value.pointer<|some ⟨cb,0,none⟩,sv,E t,st].length=4:=C;rw[Ve _ _<|by rw[a];omega,Ve _ _<|by rw[a];omega,Ve _ _<|by rw[a];omega,Ve _ _<|by rw[a];omega,Ve _ _<|by rw[a];omega,Ve _ _<|by rw[a];omega,Ve _ _<|by rw[a];omega,Ve _ _<|by rw[a];omega,Ve _ _<|by rw[a];omega,Ve _ _<|by rw[a];omega,Ve _ _<|by rw[a];omega,Ve _ _<|by rw[a];omega,a,
  show 4+i*12-4=i*12 by omega,show 4+i*12+1-4=i*12+1 by omega,show 4+i*12+2-4=i*12+2 by omega,show 4+i*12+3-4=i*12+3 by omega,show 4+i*12+4-4=i*12+4 by omega,show 4+i*12+5-4=i*12+5 by omega,show 4+i*12+6-4=i*12+6 by omega,show 4+i*12+7-4=i*12+7 by omega,show 4+i*12+8-4=i*12+8 by omega,show 4+i*12+9-4=i*12+9 by omega,show 4+i*12+10-4=i*12+10 by omega,show 4+i*12+11-4=i*12+11 by omega,Ds sl i x v0 v1 v2 v3 v4 v5 v6 v7 v8 v9 v10 v11 c d]
theorem iY{st:F}(h:Ya w mb (mC cb sv t st sl) 64)(d:i<sl.length):Ya (OQ w mb (4+i*12) x) mb (mC cb sv t st<|sl.set i x) 64:=by
 have c:=((((((((((((h.setkM (4+i*12)<|.bool x.sc).setkM (4+i*12+1)<|E x.n).setkM (4+i*12+2)<|.slice x.ea x.en x.ec).setkM (4+i*12+3)<|.bool x.rg).setkM (4+i*12+4)<|E x.p.k).setkM (4+i*12+5)<|E x.p.n).setkM (4+i*12+6)<|E x.p.op).setkM (4+i*12+7)<|.string x.p.nm).setkM (4+i*12+8)<|.slice x.p.ca x.p.cn x.p.cc).setkM (4+i*12+9)<|.slice x.p.ba x.p.bn x.p.bc).setkM (4+i*12+10)<|E x.p.a).setkM (4+i*12+11)<|E x.p.b);have e:=mq cb sv t st sl i x (.bool x.sc) (E x.n) (.slice x.ea x.en x.ec) (.bool x.rg) (E x.p.k) (E x.p.n) (E x.p.op) (.string x.p.nm) (.slice x.p.ca x.p.cn x.p.cc) (.slice x.p.ba x.p.bn x.p.bc) (E x.p.a) (E x.p.b) C d;rw[e]at c;exact c
theorem hE{o:Nat}(x:CV)(c:k≠a):(OQ w a o x).heap[k]?=w.heap[k]?:=by
 unfold OQ;iterate 12 rw[Go.Deep.blk_setCell_other _ _ _ _ c]
theorem iZ{o:Nat}(x:CV):w.grownBy (OQ w a o x)<|some a:=by
 unfold OQ;iterate 12 refine Zn ?_ (Or.inl C) _
 exact Z2 w<|some a
theorem Xd.stored(h:Xd w0 wr mb cb sv t m sa sn sc sl xs)(p:XZ wr x y)(q:i<16)(u:m.jx.length=16):Xd w0 (OQ wr mb (4+i*12) x) mb cb sv t ⟨m.jy,m.jx.set i<|some y⟩ sa sn sc (sl.set i x) xs:=by
 have f:=iZ (w:=wr) (a:=mb) (o:=4+i*12) x;have g:YS wr (OQ wr mb (4+i*12) x) mb<|.pointer none:=⟨f.os,f.tape,f.output,f.size,λk g r _=>hE x r⟩;have d:=g.rowsP h.st.box;have l:=iY (x:=x) h.st.box<|show i<sl.length by rw[h.ls];exact q
 clear f;generalize OQ wr mb (4+i*12) x=W' at*;refine⟨⟨l,d _ _ _ _ _ _ h.st.own N,h.st.len⟩,h.stk.keepR d N N N,by rw[Qv];exact h.ls,λj z s=>?_,g.below h.bel h.lo (λk e=>by cases e),h.lo⟩;have e1:(m.jx.set i<|some y).getD j none=if i=j then some y else m.jx.getD j none:=by
  rw[Y0,Sc,Y0];by_cases e:i=j
  .rw[Ye e,Ye e,Ye X];rfl
  .rw[Yd e,Yd e]
 have e2:(sl.set i x).getD j T4=if i=j then x else sl.getD j T4:=by
  rw[Y0,Sc,Y0];by_cases e:i=j
  .rw[Ye e,Ye e,Ye<|by rw[h.ls];omega];rfl
  .rw[Yd e,Yd e]
 have c:(m.jx.set i<|some y).getD j none=some z:=s;rw[e1]at c;rw[e2];by_cases e:i=j
 .rw[Ye e]at c⊢;have n:y=z:=Ub c;rw[<-n];exact p.keepR d N N N
 .rw[Yd e]at c⊢;exact(h.slot j z c).keepR d N N N
theorem sO(h:Ra w0 wr c cb mb i 12 arg sv t m cv pv gv iv l g sa sn sc sl xs)(M:arg<16)(O:m.jx.length=16)(G:m.jy=y::ys)(P:m.jy.length<=64):
 CP 17 #[Vp mb,E i] wr λe H=>e=.returned (E (i+1:Nat))/\U (RI w0 H mb cb sv t ⟨ys,m.jx.set arg<|some y⟩):=by
 obtain⟨gi,n,ic,⟨m0,c3,i0,i1,a0,mbl,cbl,gil⟩,hn⟩:=h.at;obtain⟨x,xs',gs,k,rfl,rfl,rfl,J,_,_⟩:=h.inv.top G;have Z:k<=64:=by have:=h.inv.num;omega
 have Q:U<|Xd w0 wr mb cb sv t ⟨y::ys,m.jx⟩ (some ⟨gs,0,none⟩) (k+1) sc sl<|x::xs':=I<|by have:=h.inv;rw[show m=⟨y::ys,m.jx⟩by rw[<-G]]at this;exact this
 have v:=h.inv.ls;clear h G P;have a1:(arg:Int)<16:=X;go_enter func17,ntmps17;go_upto_region 31 with fail;refine Zs λW L=>?_;have w:BW wr W:=by rw[L];exact Yc
 have z:U<|Ya W wr.heap.size [E 12,E arg] 110:=I<|by rw[L];exact(show Ya _ _ _ _ from Go.Deep.blk_alloc_new wr _)
 have f:=I<|(Q.below w).below<|(Ym _ _).drew;clear L w m0 c3 i0 i1 mbl cbl gil Q;generalize wr.heap.size=ab at*;have o:=I<|z.below<|(Ym _ _).drew;have mbW:mb<W.heap.size:=f.st.box.lt;have abW:=z.lt;refine ZW 8 (λH=>H.cell? ⟨ab,1,none⟩=some (E arg)) Kr (by exact o.cell 1) λa=>?_;refine Za 0 a (h:=Za 1 a (h:=Za 2 a (h:=Za 3 a (h:=Za 5 a (h:=Za 6 a (h:=?_))))));refine Zz (i:=4) Kr C λK p=>?_;go_simp;obtain⟨_,_,_,_,e1,e2,e3,_,_,A⟩:=f.top C;injection e1 with e1 e1';injection e2 with e2;injection e2 with e2 _ _;injection e3 with e3;subst e1 e1' e2 e3;refine(OK _ mb cb gs k sc sv t sl x f.st.box A Z J).m ?_;rintro e B ⟨rfl,D,r⟩;have s:=I<|f.qx D.o r.o;have d:=I s.1;have R:=I s.2;have S:U<|Ya B ab [E 12,E arg] 110:=I<|o.mkeep f.st.box r.o N;clear f D r A s o;unfold Pv;go_simp;refine p.out _ _ (S.cell 1) λa=>?_;clear p K;try simp only[Act.put,Yt]
 refine Za 7 a (h:=?_);refine ZS Kr Kr C Kr λK p=>?_;have q:∀j,j<12->B.cell? ⟨mb,4+arg*12+j,none⟩=(sl.getD arg T4).cells[j]?:=λj hj=>by
  rw[d.st.box.cell,Cq _ _ _ _ sl arg j (by rw[v];exact M) hj]
 obtain⟨u,T⟩:∃u,sl.getD arg T4=u:=⟨_,C⟩;rw[T]at q;have z0:=q 0 N;have f0:=d.st.box.frozen<|4+arg*12+0;have z1:=q 1 N;have f1:=d.st.box.frozen<|4+arg*12+1;have z2:=q 2 N;have f2:=d.st.box.frozen<|4+arg*12+2;have z3:=q 3 N;have f3:=d.st.box.frozen<|4+arg*12+3;have z4:=q 4 N;have f4:=d.st.box.frozen<|4+arg*12+4;have z5:=q 5 N;have f5:=d.st.box.frozen<|4+arg*12+5;have z6:=q 6 N;have f6:=d.st.box.frozen<|4+arg*12+6;have z7:=q 7 N;have f7:=d.st.box.frozen<|4+arg*12+7;have z8:=q 8 N;have f8:=d.st.box.frozen<|4+arg*12+8;have z9:=q 9 N;have f9:=d.st.box.frozen<|4+arg*12+9;have z10:=q 10 N;have f10:=d.st.box.frozen<|4+arg*12+10;have z11:=q 11 N;have f11:=d.st.box.frozen<|4+arg*12+11;simp only[CV.cells,Yf,IA]at z0 z1 z2 z3 z4 z5 z6 z7 z8 z9 z10 z11 f0;clear a q T;go_simp;refine p.out _ _ ?_;clear p K z0 f0 z1 f1 z2 f2 z3 f3 z4 f4 z5 f5 z6 f6 z7 f7 z8 f8 z9 f9 z10 f10 z11 f11;have V:=I<|d.stored R.o M O;go_wp2;go_ret;exact⟨by go_num,I ⟨_,_,_,_,_,V.o⟩⟩
theorem ub{st tl st' tl':List Nat}(h:Ra w0 wr c cb mb i op arg sv t m cv pv gv iv l g sa sn sc sl xs)(B:UP w0 sv ss)(M:T7 c)(J:-1000000<=t)(K:t<=1000000)(T:op<=13)(A:Zy c i (op,arg)=true)(w:YV (ZH ss).length st tl m)(V:st.length<=64)(f:Zr c (op,arg) st tl=some (st',tl')):
 CP 17 #[Vp mb,E i] wr λe u=>e=.returned (E (UH i (op,arg) m:Nat))/\U (RI w0 u mb cb sv t<|XG (ZH ss) t c (op,arg) m):=by
 have Q:m.jy.length=st.length:=by rw[<-w.jy,Yz]
 have G:(ZH ss).length<=1000:=by unfold ZH;rw[Yz];have:=B.len;omega
 rcases(X:op=0\/op=1\/op=2\/op=3\/op=4\/op=9\/op=10\/op=11\/op=12\/op=13\/(op=5\/op=6\/op=7\/op=8))with rfl|rfl|rfl|rfl|rfl|rfl|rfl|rfl|rfl|rfl|H
 .have o:arg<c.jq.length:=by simpa [Zy]using A
  exact sF h o (M.cs _<|M2 o)<|by have:=MB<|show Z4 1 st tl=_ from f;omega
 .have o:arg<c.jw.length:=by simpa [Zy]using A
  have O:=M.ps _<|M2 (d:=VN) o;exact sN h B o O.1 O.2 (by have:=MB<|show Z4 _ st tl=_ from f;omega) J K
 .have o:arg<=4:=by
   have:arg<5:=by simpa [Zy]using A
   omega
  cases st with
  |nil=>cases f
  |cons k r=>
   simp only[Zr]at f;split at f
   .rename_i s;subst s;obtain⟨y,rs,j,p,q,x⟩:=w.pop;obtain⟨a,n,rfl⟩:=Fe p;have e:XG (ZH ss) t c (2,arg) m=⟨.inl (.inr<|Uk (ZH ss) a (some arg) n t)::rs,m.jx⟩:=by simp only[XG,j]
    rw[e];exact sM h B o j X J K
   .cases f
 .have o:arg<=3:=by
   have:arg<4:=by simpa [Zy]using A
   omega
  cases st with
  |nil=>cases f
  |cons ky r=>
   cases r with
   |nil=>cases f
   |cons kz r=>
    simp only[Zr]at f;split at f
    .rename_i s;rw[Vt]at s;obtain⟨y,rs,j,p,q,x⟩:=w.pop;obtain⟨z,qs,D,R,P,W⟩:=x.pop;have D:rs=z::qs:=D;subst D;obtain⟨vy,rfl⟩:=Po<|by rw[p];exact s.2
     obtain⟨vz,rfl⟩:=Po<|by rw[R];exact s.1
     have e:XG (ZH ss) t c (3,arg) m=⟨.inl (QJ arg vz vy)::qs,m.jx⟩:=by simp only[XG,j];rfl
     rw[e];exact sE h o j X (WG.more G P)<|WG.more G q
    .cases f
 .cases st with
  |nil=>cases f
  |cons ky r=>
   simp only[Zr]at f;split at f
   .rename_i s;obtain⟨y,rs,j,p,q,x⟩:=w.pop;obtain⟨vy,rfl⟩:=Po<|by rw[p];exact s
    have e:XG (ZH ss) t c (4,arg) m=⟨.inl (TH vy)::rs,m.jx⟩:=by simp only[XG,j];rfl
    rw[e];exact sL h j X<|WG.more G q
   .cases f
 .exact sJ h
 .cases st with
  |nil=>cases f
  |cons k r=>
   simp only[Zr]at f;split at f
   .rename_i s;subst s;obtain⟨y,rs,j,p,q,x⟩:=w.pop;obtain⟨v,rfl⟩:=La p;have e:UH i (10,arg) m=if v.isEmpty then i+1 else arg:=by
     have x:Mc m=!v.isEmpty:=by unfold Mc;rw[j];rfl
     unfold UH;simp only;rw[Yd N,x];cases v<;>simp
    rw[e];exact sH h j X
   .cases f
 .cases st with
  |nil=>cases f
  |cons k r=>
   obtain⟨y,rs,j,p,q,x⟩:=w.pop;have e:XG (ZH ss) t c (11,arg) m=⟨rs,m.jx⟩:=by simp only[XG,j];rfl
   rw[e];exact sG h j X
 .cases st with
  |nil=>cases f
  |cons k r=>
   have o:arg<16:=by simpa [Zy]using A
   obtain⟨y,rs,j,p,q,x⟩:=w.pop;have e:XG (ZH ss) t c (12,arg) m=⟨rs,m.jx.set arg<|some y⟩:=by simp only[XG,j]
   rw[e];exact sO h o w.len j X
 .have o:arg<16:=by simpa [Zy]using A
  simp only[Zr]at f;split at f
  .cases f
  .rename_i S;obtain⟨y,p,s⟩:=w.jx arg S;have e:XG (ZH ss) t c (13,arg) m=⟨y::m.jy,m.jx⟩:=by simp only[XG,p]
   rw[e];exact sK h o p<|by have:=MB f;omega
 .have key:∃r,st=2::r:=by
   cases st with
  |nil=>rcases H with rfl|rfl|rfl|rfl<;>cases f
  |cons k r=>
   have L:(if k=2 then Z4 2 r tl else none)=some (st',tl'):=by rcases H with rfl|rfl|rfl|rfl<;>exact f
   split at L
   .rename_i s;subst s;exact⟨r,C⟩
   .cases L
  obtain⟨r,rfl⟩:=key;obtain⟨y,rs,j,p,q,x⟩:=w.pop;obtain⟨v,rfl⟩:=La p;have o:arg<c.jv.length:=by rcases H with rfl|rfl|rfl|rfl<;>simpa [Zy]using A
  have e:XG (ZH ss) t c (op,arg) m=⟨.inl (.inr<|SA (op-5) (c.jv.getD arg []) v)::rs,m.jx⟩:=by
   rcases H with rfl|rfl|rfl|rfl<;>(simp only[XG,j];rfl)
  have e2:UH i (op,arg) m=i+1:=by
   unfold UH;simp only;rw[Yd X,Yd λZ=>X]
  rw[e,e2];exact sI h X X o (M.gs _<|M2 o) j X<|Xb (DR (v:=.inr v) q) G
