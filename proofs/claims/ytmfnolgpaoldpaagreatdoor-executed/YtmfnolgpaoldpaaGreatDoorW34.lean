/- Parts. -/
import Derived.Test.YtmfnolgpaoldpaaGreatDoorW33
import Derived.Test.YtmfnolgpaoldpaaGreatDoorW16
set_option linter.all false
set_option maxRecDepth 100000
set_option maxHeartbeats 16000000
namespace Go.Proofs.YtmfnolgpaoldpaaGreatDoor
open Go.RowKit LS Go.Proofs.Tryz
variable {inside l last:LB}{p:LB×LB}{xs:List Value}{es:List Yn}{P:List<|LB}{acc ps:List<|LB×LB}{rs:List<|Value×Value×Value}{b i k n s:Nat}{lv v:Value}{w w':World}{y:Yb×Nat×Nat}
def Pl:List (LB)->LB
 |[]=>[]
 |[x]=>x
 |x::y::r=>x++44::Pl (y::r)
theorem Hb(x:LB){l:List<|LB}(h:l≠[]):Pl (x::l)=x++44::Pl l:=by
 cases l with
 |nil=>simp_all
 |cons y r=>rfl
theorem ot{p:LB}{l:List<|LB}(h:l≠[]):Pl (pre p l)=p++Pl l:=by
 cases l with
 |nil=>simp_all
 |cons y r=>
  cases r with
  |nil=>rfl
  |cons z t=>simp[pre,Pl]
theorem oB(l:LB):Pl (split 44 l)=l:=by
 induction l with
 |nil=>rfl
 |cons b l ih=>
  by_cases a:b=44
  .subst a;rw[Nh,Hb _<|Ni _ l,ih];rfl
  .rw[LR _ b l<|by simp[a],ot<|Ni _ l,ih];rfl
theorem ou(xs:List<|LB)(x:LB)(h:xs≠[]):Pl (xs++[x])=Pl xs++44::x:=by
 induction xs with
 |nil=>simp_all
 |cons y r ih=>
  cases r with
  |nil=>rfl
  |cons z t=>
   rw[Oj,Hb y Sm,ih Sm,Hb y Sm];simp
def MJ(p:LB×LB):LB:=p.1++[61]++p.2
theorem xZ(ps:List<|LB×LB)(k:Nat)(d:k<=ps.length):RH ps k=Pl ((ps.take k).map MJ):=by
 induction k with
 |zero=>rfl
 |succ k ih=>
  have ih':=ih X;have e:ps.getD k ([],[])=ps[k]:=by simp[show k<ps.length by omega]
  rw[RH,e,List.take_succ_eq_append_getElem X,Y9,Wb,N7];by_cases c:0<k
  .rw[Ye c,ou _ _<|by intro h;have a:=congrArg List.length h;rw[Yz,Xw]at a;simp only[TP]at a;omega,ih'];simp[MJ]
  .obtain rfl:k=0:=X;rfl
theorem ph{x:LB}(h:Rq last x=some p):x=MJ p:=by
 unfold Rq at h;cases a:cut 61 x with
 |none=>simp_all
 |some q=>
  obtain⟨n,v⟩:=q;rw[a]at h;simp only at h;split at h
  .have:=Uc h;subst this;rw[(Rm a).1];simp[MJ]
  .cases h
theorem po{xs:List<|LB}(h:Wf last acc xs=some ps):∃qs,ps=acc++qs/\xs=qs.map MJ:=by
 induction xs generalizing last acc with
 |nil=>simp only[Wf,Q1]at h;simp_all
 |cons x xs ih=>
  unfold Wf at h;cases a:Rq last x with
  |none=>simp_all
  |some p=>
   rw[a]at h;obtain⟨qs,e1,e2⟩:=ih h;exact⟨p::qs,by simp_all,by rw[e2,Wb,ph a]⟩
theorem zA(h:Wp l=some ps):RH ps ps.length=l:=by
 unfold Wp at h;split at h
 .rename_i a;have:=Uc h;subst this;rw[a];rfl
 .obtain⟨qs,e1,e2⟩:=po h;simp at e1;subst e1;rw[xZ _ _<|Yj _,X1,<-e2,oB]
def TW(e:Yn):LB:=e.name++123::e.inside
theorem Cm{n:LB}(h:Zx n=true):(123:UInt8)∉n:=by
 intro a;unfold Zx at h;rw[Vu]at h;have:=Tt.1 h.1 _ a;exact absurd this N
theorem Hf{e f:Yn}(d:Zx e.name=true)(g:Zx f.name=true):TW e=TW f↔e.name=f.name/\e.inside=f.inside:=by
 constructor
 .intro h;have a:=LN _ _ e.inside<|Cm d;have c:=LN _ _ f.inside<|Cm g;unfold TW at h;rw[h,c]at a;have i:=Uc a;have:=List.append_inj h i.symm;simp_all
 .rintro⟨a,c⟩;unfold TW;simp_all
theorem Fo{a b:LB}(h:Y3 l=some (a,b,n)):Zx a=true/\(Wp b).isSome=true/\SU l=a++123::b:=by
 cases e:cut 123 l with
 |none=>rw[Lz e]at h;cases h
 |some p=>
  obtain⟨x,r⟩:=p;cases c:cut 125 r with
  |none=>rw[Mq e c]at h;cases h
  |some q=>
   obtain⟨y,z⟩:=q;rw[Mr e c]at h;split at h
   .rename_i d;rw[Vu]at d;cases i:VI z with
    |none=>simp_all
    |some k=>
     rw[i]at h;simp only[Wr,Q1,M1]at h;obtain⟨rfl,rfl,rfl⟩:=h;refine⟨d.1,d.2,?_⟩;have j:l=(x++123::y)++125::z:=by rw[(Rm e).1,(Rm c).1];simp
     have g:(125)∉x:=by
      intro m;have f:=d.1;unfold Zx at f;rw[Vu]at f;exact absurd (Tt.1 f.1 _ m) N
     have o:(125)∉x++123::y:=by
      simp only[Wk,X0,not_or];exact⟨g,N,(Rm c).2⟩
     unfold SU;rw[j,Hi o]
   .cases h
def Ut:List Yn->List Yn->Option Nat
 |_,[]=>none
 |seen,e::r=>if(seen.map TW).contains (TW e)then some e.at_ else Ut (seen++[e]) r
theorem yY{acc:List Yn}{ps:List<|LB}(h:ZT i acc ps=.inr es):∃rest,es=acc++rest/\Uj i (acc.map TW) ps=Ut acc rest:=by
 induction ps generalizing i acc with
 |nil=>simp only[ZT,Sum.inr.injEq]at h;exact⟨[],by simp[h],C⟩
 |cons x xs ih=>
  unfold ZT at h;unfold Uj;split at h
  .simp_all
  .rename_i d;rw[Yd d];cases c:Y3 x with
   |none=>simp_all
   |some t=>
    obtain⟨a,b,n⟩:=t;rw[c]at h;simp only at h;obtain⟨rest,e1,e2⟩:=ih h;refine⟨⟨i,a,b,n⟩::rest,by simp_all,?_⟩;have e:SU x=TW ⟨i,a,b,n⟩:=(Fo c).2.2;rw[e,Ut];simp_all
theorem AG{ps:List<|LB}(h:ZT 0 [] ps=.inr es):Uj 0 [] ps=Ut [] es:=by
 obtain⟨rest,e1,e2⟩:=yY h;simp_all
theorem sT (a:i<es.length)(d:k<i)(c:TW (es[k]' X)=TW es[i]):Ut (es.take i) (es.drop i)=some (es[i]).at_:=by
 rw[List.drop_eq_getElem_cons a,Ut,Ye];rw[L8,<-c];refine XJ.2 ⟨es[k]' X,?_,C⟩;rw[List.mem_iff_getElem];exact⟨k,by rw[Xw];omega,Sm⟩
theorem sU (a:i<es.length)(e:∀k (c:k<i),TW (es[k]' X)≠TW es[i]):Ut (es.take i) (es.drop i)=Ut (es.take<|i+1) (es.drop<|i+1):=by
 rw[List.drop_eq_getElem_cons a,Ut,Yd,List.take_succ_eq_append_getElem a];rw[L8];intro g;obtain⟨f,h,d⟩:=XJ.1 g;obtain⟨k,c,rfl⟩:=List.mem_iff_getElem.1 h;rw[Xw]at c;exact e k X<|by simpa using d
theorem pg{x:LB}(h:Rq last x=some p):p.1.length<=8/\p.2.length<=8:=by
 unfold Rq at h;cases e:cut 61 x with
 |none=>rw[e]at h;cases h
 |some q=>
  obtain⟨n,v⟩:=q;rw[e]at h;simp only at h;split at h
  .rename_i a;have:=Uc h;subst this;simp only[Vu]at a;have c:=a.1.1.1;have d:=a.1.1.2;unfold Zx at c;unfold ZY at d;simp only[Vu,Ko]at c d;exact⟨by have:=c.2.2;show n.length<=8;omega,by have:=d.2;show v.length<=8;omega⟩
  .cases h
theorem pj{xs:List<|LB}(h:Wf last acc xs=some ps)(d:∀p∈acc,p.1.length<=8/\p.2.length<=8):ps.length=acc.length+xs.length/\∀p∈ps,p.1.length<=8/\p.2.length<=8:=by
 induction xs generalizing last acc with
 |nil=>simp only[Wf,Q1]at h;subst h;exact⟨C,d⟩
 |cons x xs ih=>
  unfold Wf at h;cases c:Rq last x with
  |none=>rw[c]at h;cases h
  |some p=>
   rw[c]at h;have:=ih h (λq a=>by
    rcases Wk.1 a with a|a
    .exact d q a
    .simp at a;subst a;exact pg c);exact⟨by rw[this.1];simp;omega,this.2⟩
theorem Bd(h:Wp l=some ps)(a:l.length<=6000):ps.length<=6001/\∀p∈ps,p.1.length<=8/\p.2.length<=8:=by
 unfold Wp at h;split at h
 .have:=Uc h;subst this;simp
 .have:=pj h Sm;exact⟨by rw[this.1];have:=Qf 44 l;simp;omega,this.2⟩
theorem nT{a b:LB}(h:Y3 l=some (a,b,n)):b.length<=l.length:=by
 have c:=(Fo h).2.2;have:(SU l).length<=l.length:=by
  unfold SU;cases d:cut 125 l with
  |none=>exact Yj _
  |some p=>obtain⟨x,y⟩:=p;rw[(Rm d).1];simp
 rw[c]at this;simp at this;omega
def RZ(w:World)(lv:Value)(inside:LB):Prop:=∃qs:List<|BA×BA,w.ownsRow 0 175 2 lv qs.length (Uu qs)/\Wp inside=some (qs.map V9)
theorem RZ.below(h:RZ w lv inside)(a:BW w w'):RZ w' lv inside:=by
 obtain⟨qs,c,d⟩:=h;exact⟨qs,Ze c a,d⟩
theorem RZ.grown{e:TypeId}(h:RZ w lv inside)(c:w.grownBy w' v.ownBlock)(d:w.ownsRow b e s v n xs)(f:175≠e):RZ w' lv inside:=by
 obtain⟨qs,a,g⟩:=h;exact⟨qs,a.kept c<|QE a d f,g⟩
def Ty(w:World)(rs:List<|Value×Value×Value)(es:List Yn):Prop:=rs.length=es.length/\∀j (h:j<es.length),∃(nm:BA)(la:Option Addr)(ln lc:Nat)(sa:Option Addr)(sc:Nat),
 rs[j]?=some (.string nm,.slice la ln lc,.slice sa (es[j]).count sc)/\bl nm=(es[j]).name/\Zx (es[j]).name=true/\(es[j]).inside.length<=6000/\RZ w (.slice la ln lc) (es[j]).inside
theorem Ty.nil(w:World):Ty w [] []:=⟨C,λj h=>by simp at h⟩
theorem Ty.below(h:Ty w rs es)(a:BW w w'):Ty w' rs es:=
 ⟨h.1,λj c=>by obtain⟨nm,la,ln,lc,sa,sc,e1,e2,e3,e4,e5⟩:=h.2 j c;exact⟨nm,la,ln,lc,sa,sc,e1,e2,e3,e4,e5.below a⟩⟩
theorem Ty.grown{e:TypeId}(h:Ty w rs es)(a:w.grownBy w' v.ownBlock)(c:w.ownsRow b e s v n xs)(d:175≠e):Ty w' rs es:=
 ⟨h.1,λj f=>by obtain⟨nm,la,ln,lc,sa,sc,e1,e2,e3,e4,e5⟩:=h.2 j f;exact⟨nm,la,ln,lc,sa,sc,e1,e2,e3,e4,e5.grown a c d⟩⟩
theorem Ty.snoc(h:Ty w rs es)(x:Yn)(nm:BA)(la:Option Addr)(ln lc:Nat)(sa:Option Addr)(sc:Nat)
 (d:bl nm=x.name)(e:Zx x.name=true)(f:x.inside.length<=6000)(g:RZ w (.slice la ln lc) x.inside):Ty w (rs++[(.string nm,.slice la ln lc,.slice sa x.count sc)])<|es++[x]:=by
 refine⟨by simp[h.1],λj i=>?_⟩;by_cases a:j<es.length
 .obtain⟨nm',la',ln',lc',sa',sc',e1,e2⟩:=h.2 j a;refine⟨nm',la',ln',lc',sa',sc',?_⟩;rw[QQ<|h.1▸a,List.getElem_append_left a];exact⟨e1,e2⟩
 .have c:j=es.length:=by simp at i;omega
  subst c;refine⟨nm,la,ln,lc,sa,sc,?_⟩;rw[SJ<|h.1▸Yj _,h.1];simp[d,e,f,g]
def U7(w:World)(rs:List<|Value×Value×Value)(es:List Yn)(P:List<|LB):Prop:=∀j (h:j<es.length),∃(x y:Value)(sa:Option Addr)(sc:Nat),rs[j]?=some (x,y,.slice sa (es[j]).count sc)/\w.ownsRow 0 179 2 (.slice sa (es[j]).count sc) (es[j]).count (ZQ<|Uw<|P.getD (es[j]).at_ [])
theorem U7.nil(w:World)(P:List<|LB):U7 w [] [] P:=λj h=>by simp at h
theorem U7.below (h:U7 w rs es P)(a:BW w w'):U7 w' rs es P:=λj c=>by
 obtain⟨x,y,sa,sc,e1,e2⟩:=h j c;exact⟨x,y,sa,sc,e1,Ze e2 a⟩
theorem U7.grown {e:TypeId}(h:U7 w rs es P)(a:w.grownBy w' v.ownBlock)(c:w.ownsRow b e s v n xs)(d:179≠e):U7 w' rs es P:=λj f=>by
 obtain⟨x,y,sa,sc,e1,e2⟩:=h j f;exact⟨x,y,sa,sc,e1,e2.kept a<|QE e2 c d⟩
theorem U7.snoc(c:rs.length=es.length)(h:U7 w rs es P)(z:Yn)(x y:Value)(sa:Option Addr)(sc:Nat)
 (e:w.ownsRow 0 179 2 (.slice sa z.count sc) z.count<|ZQ<|Uw<|P.getD z.at_ []):U7 w (rs++[(x,y,.slice sa z.count sc)]) (es++[z]) P:=λj f=>by
 by_cases a:j<es.length
 .obtain⟨x',y',sa',sc',e1,e2⟩:=h j a;refine⟨x',y',sa',sc',?_⟩;rw[QQ<|c▸a,List.getElem_append_left a];exact⟨e1,e2⟩
 .have d:j=es.length:=by simp at f;omega
  subst d;refine⟨x,y,sa,sc,?_⟩;rw[SJ<|c▸Yj _,c];simp only[KA,Qp,List.getElem_append_right<|Yj _,List.getElem_cons_zero];exact⟨trivial,e⟩
def Pc(w:World)(v:Value)(l:LB):Prop:=∃(es:List Yn)(rs:List<|Value×Value×Value),ZT 0 [] (split 10 l)=.inr es/\Ut [] es=none/\es.length<=30/\w.ownsRow 0 105 3 v es.length (TT rs)/\Ty w rs es/\U7 w rs es (split 10 l)
theorem Pc.below(h:Pc w v l)(a:BW w w'):Pc w' v l:=by
 obtain⟨es,rs,c,d,e,f,g,i⟩:=h;exact⟨es,rs,c,d,e,Ze f a,g.below a,i.below a⟩
theorem Bx(h:RZ w lv inside)(g:inside.length<=6000):
 CP 32 #[lv] w λe u=>∃r:BA,e=.returned (.string r)/\Hid (bl r=inside)/\∃n,u=w.drewN n:=by
 obtain⟨qs,c,f⟩:=h;have a:=Bd f g;have d:qs.length<=6001:=by have:=a.1;rwa [Yz]at this
 refine(Bw _ 0 w c d λq i=>?_).mono ?_
 .have:=a.2 _<|XJ.2 ⟨q,i,C⟩;have l:q.1.size<=8:=by rw[<-Zb];exact this.1
  have m:q.2.size<=8:=by rw[<-Zb];exact this.2
  exact⟨X,X⟩
 .rintro e u ⟨r,rfl,j,k⟩;refine⟨r,C,?_,k⟩;rw[j];have:=zA f;rwa [Yz]at this
theorem Tryz.infoRSeries:(Tryz.prog.info? 105).map (λi=>(i.zero,i.size,i.bytes))=some (some<|.agg #[.string ByteArray.empty,S0,S0],3,64):=Kr
theorem Tryz.infoInt:(Tryz.prog.info? 3).map (λi=>(i.zero,i.size,i.bytes))=some (some<|E 0,1,8):=Kr
theorem jr(s:BA)(w:World)(c:6000<s.size)(a:s.size<=maxLen):
 CP 15 #[.string s] w λe u=>∃v,e=.returned (.tuple #[v,E 1,E 0])/\BW w u:=by
 unfold maxLen at a;go_enter func15,ntmps15;go_wp2;go_ret3;exact⟨_,C,Ym _ _⟩
def K2(es:List Yn):List Value:=es.map λe=>.int .i64 (e.at_:Int)
theorem fI(es:List Yn)(x:Yn):Vz (es++[x]) (es++[x]).length=Vz es es.length+x.count:=by
 unfold Vz;rw[X1,X1,Y9,Ku];simp
def Ti(es:List Yn)(i:Nat):LB:=(es[i]?.map TW).getD []
theorem Mp(h:i<es.length):Ti es i=TW es[i]:=by unfold Ti;rw[List.getElem?_eq_getElem h];rfl
theorem sV(a:i<es.length)(c:k<i)(d:Ti es k=Ti es i):Ut (es.take i) (es.drop i)=some (es[i]).at_:=
 sT a c<|by rw[<-Mp,<-Mp];exact d
theorem sW(a:i<es.length)(c:∀k,k<i->Ti es k≠Ti es i):Ut (es.take i) (es.drop i)=Ut (es.take<|i+1) (es.drop<|i+1):=
 sU a λk d=>by rw[<-Mp,<-Mp];exact c k d
theorem oH{a:i<es.length}{c:k<es.length}(n1:Zx (es[i]).name=true)(n2:Zx (es[k]).name=true):Ti es k=Ti es i↔(es[i]).name=(es[k]).name/\(es[i]).inside=(es[k]).inside:=by
 rw[Mp a,Mp c,Hf n2 n1];exact⟨λh=>⟨h.1.symm,h.2.symm⟩,λh=>⟨h.1.symm,h.2.symm⟩⟩
theorem jt(s:BA)(w:World)(hs:s.size<=6000):
 CP 15 #[.string s] w λe w'=>∃v,e=.returned (.tuple #[v,E (ZG<|bl s).1,E (ZG<|bl s).2])/\BW w w'/\Hid ((ZG<|bl s).1=0->Pc w' v (bl s)):=by
 obtain⟨i0,hi,d1,d2,d3⟩:=Xv Tryz.infoRSeries;obtain⟨j0,hj,d4,d5,d6⟩:=Xv Tryz.infoInt;have hL:Hid<|∀x,(match ZT 0 []<|split 10 (bl s)with
  |.inl i=>(5,i)
  |.inr es=>match Uj 0 []<|split 10<|bl s with
   |some i=>(6,i)
   |none=>if 30<es.length∨200<Vz es es.length then(7,0)else(0,0))=x->ZG (bl s)=x:=by
  intro x hx;unfold ZG;rw[Yd<|by rw[Zb];omega];exact hx
 go_enter func15,ntmps15;go_wp2_with fail;refine(LK s 10 C hs).mono ?_;rintro e K ⟨g,n,cp,bs,rfl,hn,f9,d7,L,M,W⟩;have HN:=I hn;have g0:n<=6001:=by
  have:=Qf 10<|bl s;rw[<-M,Yz,Zb]at this;omega
 clear hn;go_wp2;go_loopw [5,6,8,9] (λv av nv i wr=>∃(k:Nat)(es:List Yn)(rs:List<|Value×Value×Value),k<=n/\i=E k/\es.length<=k/\nv=E (Vz es es.length)/\Vz es es.length<=6001*k/\
  wr.ownsRow K.heap.size 105 3 v es.length (TT rs)/\wr.ownsRow K.heap.size 3 1 av es.length (K2 es)/\Hid (Ty wr rs es/\U7 wr rs es (split 10<|bl s))/\Hid (ZT 0 [] (split 10<|bl s)=ZT k es ((split 10<|bl s).drop k))/\BW K wr)
   (λ_ _ _ i _=>n-(intOf i).toNat);case atStart=>exact⟨0,[],[],Yr _,C,Yj _,C,Yj _,Xm _ _ _ _,Xm _ _ _ _,⟨Ty.nil _,U7.nil _ _⟩,C,Ym _ _⟩
 case round=>
  obtain⟨k,es,rs,hk,rfl,g1,rfl,f7,c,F,t,HA,O⟩:=hrel;have d8:=O.size;by_cases d9:k<n
  .have a8:k<bs.length:=by rwa [<-HN.out]
   have Y:k<(split 10<|bl s).length:=by rwa [<-M.out,Yz]
   have e0:=(O.cell d7).trans<|L k a8;have Q:=I<|Mu M k a8;generalize bs[k]=sk at e0 Q;have b7:sk.size<=6000:=by rw[ZE Q];have:=OU _ _ k Y;rw[Zb]at this;omega
   cases he:sk.toList.isEmpty
   .have a9:Hid<|(split _ _).getD k _≠[]:=Q.out▸OH he;go_wp2_with fail;refine(jo b7).mono ?_;rintro e z ⟨nm,la,ln,lc,sa,sn,sc,ok,rfl,b8,G⟩;have g2:=G.size;have b0:=O.trans<|G.mono d8;rcases b8 with⟨rfl,inside,qs,a3,p⟩|⟨rfl,p⟩
    .have l:=p.1;have g3:sn<=6001:=by have:=Bh l;rw[Zb]at this;omega
     have b1:=(Fo l).1;have b2:inside.length<=6000:=by have:=nT l;rw[Zb]at this;omega
     have D:Hid<|ZT 0 _ _=ZT _ _ _:=HA.out▸Bj Y a9.out (by rw[<-Q.out];exact l);have b3:RZ _ _ _:=⟨qs,a3.mono<|Yr _,p.2.1⟩;have R:Hid<|Ty z (rs++[(.string nm,.slice la ln lc,.slice sa sn sc)]) (es++[⟨k,bl nm,inside,sn⟩])/\U7 z (rs++[(.string nm,.slice la ln lc,.slice sa sn sc)]) (es++[⟨k,bl nm,inside,sn⟩]) (split 10<|bl s):=⟨(t.1.below G).snoc ⟨k,bl nm,inside,sn⟩ nm la ln lc sa sc C b1 b2 b3,U7.snoc t.1.1 (t.2.below G) ⟨k,bl nm,inside,sn⟩ _ _ sa sc<|by show z.ownsRow 0 179 2 (.slice sa sn sc) sn<|ZQ<|Uw<|(split 10<|bl s).getD k [];rw[<-Q];exact p.2.2.mono<|Yr _⟩;have f:=Ze c G;have S:=Ze F G;have HS:Hid<|Vz _ _=Vz _ _+sn:=fI es ⟨k,bl nm,inside,sn⟩;clear l a3 p b3 t HA c F b1 b2;go_wp2_with(at_builtin;refine XC _ C (.tmp 43) (.tmp 45) 45 C K.heap.size 105 i0 (.agg #[.string ByteArray.empty,S0,S0]) 3 64 underlying45 hi d1 d2 d3 C N _ _ _ C ((f.alloc _).alloc _) ⟨z.heap.size+1,0,none⟩ 1 1 [.string nm,.slice la ln lc,.slice sa sn sc] C C ?c1 ?c2 ?c3 ?c4 ?c5 ?_);case c1=>exact EU Sm Sm Sm
     case c2=>intro u hu;simp at hu;rcases hu with rfl|rfl|rfl<;>rfl
     case c3=>unfold maxLen;omega
     case c4=>omega
     case c5=>simp;omega
     intro v3 P Z a _;have g4:z.heap.size+1+1<=P.heap.size:=by have:=a.size;simp at this;omega
     have e3:=((b0.alloc X _).alloc (by simp;omega) _).grown a (by simp;omega) λq hq=>(f.lt q hq).1;have r:=((S.alloc _).alloc _).kept a<|QE S f N;have T:∀o o':Obj,Below _ _<|(z.alloc o).alloc o':=λo o'=>Yc.alloc Sm _;have U:Hid<|Ty P (rs++[(.string nm,.slice la ln lc,.slice sa sn sc)]) (es++[⟨k,bl nm,inside,sn⟩])/\U7 P (rs++[(.string nm,.slice la ln lc,.slice sa sn sc)]) (es++[⟨k,bl nm,inside,sn⟩]) (split 10<|bl s):=⟨Ty.grown (R.1.below<|T _ _) a ((f.alloc _).alloc _) N,U7.grown (R.2.below<|T _ _) a ((f.alloc _).alloc _) N⟩;have a4:P.heap[z.heap.size]?=some (.cells #[.string nm,.slice la ln lc,.slice sa sn sc] 105 (0,0)):=by
      refine(a.block _ (by simp;omega) ?_).trans ?_
      .intro he;have:=(f.lt _ he.symm).2;simp at this
      .rw[Below.heap_alloc _ _ _ Sm];exact J7
     have b4:=(Gx a4).2;have H:P.ownsRow K.heap.size 105 3 v3 (es++[(⟨k,bl nm,inside,sn⟩:Yn)]).length<|TT<|rs++[(.string nm,.slice la ln lc,.slice sa sn sc)]:=by
      rw[sC,Yv];exact Z
     clear Z a f S R;go_wp2_with(at_builtin;refine XC _ C (.tmp 47) (.tmp 49) 76 C K.heap.size 3 j0 (E 0) 1 8 underlying76 hj d4 d5 d6 C N _ _ _ C (r.alloc _) ⟨P.heap.size,0,none⟩ 1 1 [E k] C C ?c1 ?c2 ?c3 ?c4 ?c5 ?_);case c1=>exact cell_one_new _ _ _
     case c2=>intro u hu;simp at hu;subst hu;rfl
     case c3=>unfold maxLen;omega
     case c4=>omega
     case c5=>simp;omega
     intro v5 w5 a5 d _;have e4:=(e3.alloc X _).grown d (by simp;omega) λq hq=>(r.lt q hq).1;have a7:=(H.alloc _).kept d<|QE H r N;have V:∀o:Obj,Below _ _<|P.alloc o:=λo=>Yc;have b9:Hid<|Ty w5 (rs++[(.string nm,.slice la ln lc,.slice sa sn sc)]) (es++[⟨k,bl nm,inside,sn⟩])/\U7 w5 (rs++[(.string nm,.slice la ln lc,.slice sa sn sc)]) (es++[⟨k,bl nm,inside,sn⟩]) (split 10<|bl s):=⟨Ty.grown (U.1.below<|V _) d (r.alloc _) N,U7.grown (U.2.below<|V _) d (r.alloc _) N⟩;have g5:w5.cell? ⟨z.heap.size,2,none⟩=some (.slice sa sn sc):=by
      refine d.cell ?_<|ZD r a4 N;rw[TN _ _ _<|by show z.heap.size<P.heap.size;omega];exact b4
     have c0:w5.ownsRow K.heap.size 3 1 v5 (es++[(⟨k,bl nm,inside,sn⟩:Yn)]).length<|K2<|es++[(⟨k,bl nm,inside,sn⟩)]:=by
      unfold K2;rw[Y9,Yv];exact a5
     clear a5 d H r U b4 a4 T V;go_wp2;go_roundw;case rel=>exact⟨k+1,_,_,X,by go_num,by simp;omega,by rw[HS];go_num,by rw[HS];omega,a7,c0,b9,D,e4⟩
     case measure=>simp[intOf];omega
    .have D:Hid _:=HA.out▸Bi Y a9.out (by rw[<-Q.out];exact p.out);have A:Hid<|ZG _=(5,k):=hL _<|by rw[D]
     go_wp2;go_ret3;exact⟨_,by rw[A];rfl,W.trans<|(b0.alloc X _).mono W.size,I λh=>by rw[A]at h;cases h⟩
   .have D:Hid _:=HA.out▸Bk Y (by rw[<-Q.out];exact Pn he);go_wp2;go_roundw;case rel=>exact⟨k+1,es,rs,X,by go_num,X,C,X,c,F,t,D,O⟩
    case measure=>simp[intOf];omega
  .have D:Hid<|ZT 0 [] (split 10<|bl s)=.inr es:=HA.out▸Cs (by rw[<-M.out,Yz,<-HN.out];exact d9);have f8:es.length<=6001:=X;have b5:=I<|AG D;obtain⟨lv,lcp,rfl⟩:=Zd c;obtain⟨tv,tcp,rfl⟩:=Zd F;have g6:=W.trans<|O.mono W.size;clear HA L M;go_wp2;go_loopw [12] (λi wi=>∃(m nd:Nat),m<=es.length/\i=E m/\wi=wr.drewN nd/\Hid (Ut [] es=Ut (es.take m) (es.drop m))) (λi _=>es.length-(intOf i).toNat);case atStart=>exact⟨0,0,Yr _,C,C,C⟩
   case round=>
    obtain⟨m,nd,hm,rfl,rfl,HD⟩:=hrel;by_cases a0:m<es.length
    .obtain⟨gl,c6⟩:∃gl,lv=some ⟨gl,0,none⟩:=by
      obtain⟨gl,cp',h⟩:=Zm c X;injection h with J;exact⟨gl,J⟩
     obtain⟨ga,c7⟩:∃ga,tv=some ⟨ga,0,none⟩:=by
      obtain⟨ga,cp',h⟩:=Zm F X;injection h with J;exact⟨ga,J⟩
     subst c6;subst c7;have e5:wr.cell? _=some (E (es[m]).at_):=Zc F m _<|by simp[K2,a0]
     obtain⟨nmi,lai,lni,lci,sai,sci,r1,r2,r3,r4,r5⟩:=t.1.2 m a0;obtain⟨f1,f2,_⟩:=Ds rs m;rw[r1]at f1 f2;have ci1:wr.cell? _=some (.string _):=Zc c _ _ f1;have ci2:wr.cell? _=some (.slice _ _ _):=Zc c _ _ f2;have HI:Hid<|bl _=(es[m]).name/\Zx _=true/\(es[m]).inside.length<=6000/\RZ _ _ _:=⟨r2,r3,r4,r5⟩;have b6:=I HD.symm;generalize hat_:(es[m]).at_=atm at e5;have c8:=I hat_;clear r1 r2 r3 r4 r5 f1 f2 hat_ HD;go_wp2;go_loopw [13] (λj wj=>∃(q nd:Nat),q<=m/\j=E q/\wj=wr.drewN nd/\Hid (∀k,k<q->Ti es k≠Ti es m)) (λj _=>m-(intOf j).toNat);case atStart=>exact⟨0,nd,Yr _,C,C,λk h=>absurd h<|Tu _⟩
     case round=>
      obtain⟨q,nd2,g7,rfl,rfl,HQ⟩:=hrel;by_cases e6:q<m
      .have c9:q<es.length:=X;obtain⟨nmk,lak,lnk,lck,sak,sck,r1,r2,r3,r4,r5⟩:=t.1.2 q c9;obtain⟨f1,f2,_⟩:=Ds rs q;rw[r1]at f1 f2;have ck1:wr.cell? _=some (.string _):=Zc c _ _ f1;have ck2:wr.cell? _=some (.slice _ _ _):=Zc c _ _ f2;have a1:Hid<|bl _=(es[q]).name/\Zx _=true/\(es[q]).inside.length<=6000/\RZ _ _ _:=⟨r2,r3,r4,r5⟩;clear r1 r2 r3 r4 r5 f1 f2;go_wp2_with fail;refine(Bx (HI.2.2.2.below<|Ot _ _ _) HI.2.2.1).mono ?_;rintro e wx ⟨ra,rfl,e7,na,rfl⟩;go_wp2_with fail;refine(Bx (a1.2.2.2.below<|Ot _ _ _) a1.2.2.1).mono ?_;rintro e wx ⟨rb,rfl,e8,nb,rfl⟩;have a2:=oH HI.2.1 a1.2.1;have e9:((nmi.toList==nmk.toList)=true/\(ra.toList==rb.toList)=true/\Ti es q=Ti es m)∨((nmi.toList==nmk.toList)=true/\(ra.toList==rb.toList)=false/\Ti es q≠Ti es m)∨((nmi.toList==nmk.toList)=false/\Ti es q≠Ti es m):=by
        rw[ZA,ZA,ZA,ZA,HI.1,a1.1,e7,e8];by_cases J:(es[m]).name=(es[q]).name
        .by_cases h2:(es[m]).inside=(es[q]).inside
         .exact .inl ⟨by rw[J];simp,by rw[h2];simp,a2.2 ⟨J,h2⟩⟩
         .exact .inr<|.inl ⟨by rw[J];simp,by simp[h2],λh=>h2 (a2.1 h).2⟩
        .exact .inr<|.inr ⟨by simp[J],λh=>J (a2.1 h).1⟩
       clear a2;rcases e9 with⟨e1,e2,B⟩|⟨e1,e2,B⟩|⟨e1,B⟩
       .have A:Hid<|ZG _=(6,atm):=hL _<|by
         rw[D];simp only[b5.out];rw[<-b6,sV a0 e6 B,c8]
        clear B;go_wp2;go_quiet (fail);go_wp2;go_quiet (fail);go_wp2;go_ret3;exact⟨_,by rw[A];rfl,Yh,I λh=>by rw[A]at h;cases h⟩
       .have a6:Hid<|∀k,k<q+1->Ti _ k≠Ti _ m:=λk hk=>by
          rcases Kf.1 hk with h|rfl
          .exact HQ k h
          .exact B
        clear B;go_wp2;go_quiet (fail);go_wp2;go_roundw;case rel=>exact⟨q+1,_,X,by go_num,C,a6⟩
        case measure=>simp[intOf];omega
       .have a6:Hid<|∀k,k<q+1->Ti _ k≠Ti _ m:=λk hk=>by
          rcases Kf.1 hk with h|rfl
          .exact HQ k h
          .exact B
        clear B;go_wp2;go_quiet (fail);go_wp2;go_roundw;case rel=>exact⟨q+1,_,X,by go_num,C,a6⟩
        case measure=>simp[intOf];omega
      .obtain rfl:q=m:=X;have f0:Hid<|Ut _ _=Ut _ _:=b6.out▸sW a0 HQ.out;go_wp2;go_roundw;case rel=>exact⟨q+1,nd2,X,by go_num,C,f0⟩
       case measure=>simp[intOf];omega
    .have f3:Hid<|Ut [] es=none:=by rw[HD,Ts X];rfl
     have HM:Hid<|ZG _=if 30<es.length∨200<Vz es es.length then(7,0)else(0,0):=hL _<|by
      have h0:Ut [] es=none:=by rw[HD,Ts X];rfl
      rw[D];simp only[b5.out,h0]
     by_cases f4:30<es.length
     .have hd:decide (30<(es.length:Int))=true:=by simp;omega
      have A:Hid<|ZG _=(7,0):=I<|by rw[HM,Ye<|.inl f4]
      go_wp2;go_ret3;exact⟨_,by rw[A];rfl,Yh,I λh=>by rw[A]at h;cases h⟩
     .have hd:decide (30<(es.length:Int))=false:=by simp;omega
      by_cases d0:200<Vz es es.length
      .have f5:decide (200<(Vz es es.length:Int))=true:=by simp;omega
       have A:Hid<|ZG _=(7,0):=I<|by rw[HM,Ye<|.inr d0]
       go_wp2;go_ret3;exact⟨_,by rw[A];rfl,Yh,I λh=>by rw[A]at h;cases h⟩
      .have f5:decide (200<(Vz es es.length:Int))=false:=by simp;omega
       have A:Hid<|ZG _=(0,0):=I<|by rw[HM,Yd<|by rintro(h|h)<;>omega]
       have f6:Hid<|∀nd,Pc (wr.drewN nd) _ _:=I λnd=>Pc.below ⟨es,rs,D,f3,X,c.mono<|Yr _,t.1,t.2⟩<|Ot _ _ _;go_wp2;go_ret3;exact⟨_,by rw[A];rfl,Yh,I λ_=>f6 _⟩
def Sv(P:List<|LB)(e:Yn):YY:=⟨e.name,(Wp e.inside).getD [],Uw<|P.getD e.at_ []⟩
def Qh(l:LB):List YY:=match ZT 0 [] (split 10 l)with
 |.inr es=>es.map<|Sv<|split 10 l
 |.inl _=>[]
theorem tJ(l:List<|Int×Int):(ZQ l).length=l.length*2:=by
 induction l with
 |nil=>rfl
 |cons a l ih=>simp only[ZQ,Y1,ih];omega
theorem Bn:∀x∈Uw l,Vc x:=by
 intro x a;unfold Uw at a;split at a
 .rename_i b _;cases hd:l.drop<|b+1with
  |nil=>rw[hd]at a;cases a
  |cons c t=>
   rw[hd]at a;obtain⟨y,_,rfl⟩:=XJ.1 a;exact ek y
 simp_all
theorem Gy{α:Type}(Q:Nat->α->Prop):∀n:Nat,(∀j,j<n->∃z,Q j z)->∃zs:List α,zs.length=n/\∀j (h:j<zs.length),Q j zs[j]
 |0,_=>⟨[],C,λj h=>absurd h<|Tu _⟩
 |n+1,h=>by
  obtain⟨zs,c,f⟩:=Gy Q n λj a=>h j X;obtain⟨z,g⟩:=h n X;refine⟨zs++[z],by simp[c],λj a=>?_⟩;by_cases d:j<zs.length
  .simp_all
  · have e:j=zs.length:=by simp at a;omega
    simp_all
theorem tL(zs:List SZ)(rs:List<|Value×Value×Value)(a:rs.length=zs.length)(h:∀j (d:j<zs.length),rs[j]?=some (.string zs[j].1,zs[j].2.1,zs[j].2.2.1)):R8 zs=TT rs:=by
 induction zs generalizing rs with
 |nil=>cases rs with
  |nil=>rfl
  |cons _ _=>simp at a
 |cons z zs ih=>
  cases rs with
  |nil=>simp at a
  |cons r rs=>
   have c:=h 0 Sm;simp only[Qp,List.getElem_cons_zero,Q1]at c;subst c;rw[R8,TT,ih rs (by simpa using a) λj d=>by have:=h (j+1) (by simp;omega);simpa using this]
theorem Ho:∀(rest seen:List Yn),Ut seen rest=none->(rest.Pairwise λa b=>TW a≠TW b)/\∀e∈rest,∀s∈seen,TW s≠TW e
 |[],_,_=>⟨List.Pairwise.nil,λ_ h=>by cases h⟩
 |e::rest,seen,h=>by
  unfold Ut at h;split at h
  .cases h
  .rename_i c;obtain⟨d,f⟩:=Ho _ _ h;simp_all
theorem Jq{ps:List Xc}(h:Wp l=some ps):Yy ps=l:=by
 have:=zA h;rwa [FR _ _<|Yj _,X1]at this
theorem Pc.sto(R:l.length<=6000)(h:Pc w v l):∃ss:List SZ,UP w v ss/\ZH ss=Qh l/\Sx (Qh l)/\ss.length<=30:=by
 obtain⟨es,rs,s,F,T,G,g,H⟩:=h;have J:∀j (c:j<es.length),(es[j]).count<=6001:=λj c=>(Fp s Sm λp K=>by
  obtain⟨i,m,rfl⟩:=List.mem_iff_getElem.1 K;have:=OU 10 l i m;rw[Y0,List.getElem?_eq_getElem m,Qu]at this;omega).2 _<|List.getElem_mem c;have t:=Gy (λj(z:SZ)=>∃c:j<es.length,rs[j]?=some (.string z.1,z.2.1,z.2.2.1)/\z.2.2.2=Sv (split 10 l) es[j]/\Lg w z) es.length (λj c=>by
  obtain⟨nm,la,ln,lc,sa,sc,e1,e2,e3,e4,qs,e5,e6⟩:=g.2 j c;obtain⟨x,y,sa',sc',d1,d2⟩:=H j c;rw[e1]at d1;injection d1 with d1;injection d1 with _ d1;injection d1 with _ d1;injection d1 with d1 _ d3;subst d1 d3;have o:=Bd e6 e4;have u:=d2.1;rw[tJ]at u;have d:(Uw<|(split 10 l).getD (es[j]).at_ []).length=(es[j]).count:=X;refine⟨(nm,.slice la ln lc,.slice sa (es[j]).count sc,Sv (split 10 l) es[j]),c,e1,C,e2,⟨qs,e5,?_,?_,λq L=>?_⟩,?_,?_,Bn⟩
  .show qs.map V9=(Wp (es[j]).inside).getD [];rw[e6];rfl
  .have:=o.1;rwa [Yz]at this
  · have:=o.2 (V9 q)<|XJ.2 ⟨q,L,C⟩;have g1:q.1.size<=8:=by rw[<-Zb];exact this.1
    have g2:q.2.size<=8:=by rw[<-Zb];exact this.2
    exact⟨X,X⟩
  .show w.ownsRow 0 179 2 (.slice sa (es[j]).count sc) (Uw<|(split 10 l).getD (es[j]).at_ []).length<|ZQ<|Uw<|(split 10 l).getD (es[j]).at_ [];rw[d];exact d2
  .show(Uw<|(split 10 l).getD (es[j]).at_ []).length<=6001;rw[d];exact J j c);obtain⟨zs,e,f⟩:=t;have r:Qh l=es.map (Sv<|split 10 l):=by unfold Qh;rw[s]
 refine⟨zs,⟨?_,X,λz M=>?_⟩,?_,?_,X⟩
 .have:=tL zs rs (by rw[g.1,e]) λj c=>(f j c).2.1;rw[this,e];exact G
 .obtain⟨j,c,rfl⟩:=List.mem_iff_getElem.1 M;exact(f j c).2.2.2
 .rw[r];unfold ZH;refine List.ext_getElem (by rw[Yz,Yz,e]) λj A S=>?_;rw[List.getElem_map,List.getElem_map];exact(f j<|by simpa using A).2.2.1
 .rw[r];unfold Sx;rw[Rx];refine NW ?_ (Ho es [] F).1;intro a b O P B D;obtain⟨i,m,rfl⟩:=List.mem_iff_getElem.1 O;obtain⟨k,Q,rfl⟩:=List.mem_iff_getElem.1 P;obtain⟨_,_,_,_,_,_,_,_,n1,_,q1,_,l1⟩:=g.2 i m;obtain⟨_,_,_,_,_,_,_,_,n2,_,q2,_,l2⟩:=g.2 k Q;refine B<|(Hf n1 n2).2 ⟨D.1,?_⟩;have n:=D.2;unfold Sv at n;simp only[l1,l2,Qu]at n;rw[Jq l1,Jq l2]at n;exact n
theorem Tryz.infoI64:(Tryz.prog.info? 2).map (λi=>(i.zero,i.size,i.bytes))=some (some<|E 0,1,8):=Kr
theorem yI(f l s:Int)(w:World)(h:UA f l s):
 CP 16 #[.agg #[E f,E l,E s]] w λe u=>e=.returned (.tuple #[S0,.bool false])/\BW w u:=by
 unfold UA at h;by_cases a:f< -1000000
 .go_enter func16,ntmps16;go_wp2;go_ret2;exact⟨C,Yh⟩
 by_cases c:1000000<f
 .go_enter func16,ntmps16;go_wp2;go_ret2;exact⟨C,Yh⟩
 by_cases d:l< -1000000
 .go_enter func16,ntmps16;go_wp2;go_ret2;exact⟨C,Yh⟩
 by_cases g:1000000<l
 .go_enter func16,ntmps16;go_wp2;go_ret2;exact⟨C,Yh⟩
 by_cases i:s<1
 .go_enter func16,ntmps16;go_wp2;go_ret2;exact⟨C,Yh⟩
 by_cases j:1000000<s
 .go_enter func16,ntmps16;go_wp2;go_ret2;exact⟨C,Yh⟩
 have k:l<f:=X;clear h;go_enter func16,ntmps16;go_wp2;go_ret2;exact⟨C,Yh⟩
def E9(w:World)(f l s:Int)(v ok:Value):Prop:=(ok=.bool false/\Tl f l s=none)∨(ok=.bool true/\∃ts:List Int,Tl f l s=some ts/\ts.length<=50/\(∀t∈ts,-1000000<=t/\t<=1000000)/\w.ownsRow 0 2 1 v ts.length (ts.map<|.int .i64))
theorem yJ(f l s:Int)(w:World)(h:¬UA f l s):
 CP 16 #[.agg #[E f,E l,E s]] w λe x=>∃v ok:Value,e=.returned (.tuple #[v,ok])/\
  Hid (E9 x f l s v ok)/\BW w x:=by
 have L:Hid<|Tl f l s=Pt l s 60 f []:=I<|by unfold Tl;rw[Yd h]
 unfold UA at h;have Y:¬f< -1000000:=λe=>h<|Or.inl e;have Z:¬1000000<f:=X;have h3:¬l< -1000000:=X;have h4:¬1000000<l:=X;have h5:¬s<1:=X;have h6:¬1000000<s:=X;have h7:¬l<f:=X;clear h;obtain⟨i0,M,z,A,B⟩:=Xv Tryz.infoI64;go_enter func16,ntmps16;go_wp2;go_loopg [4,5] 60 (λgk v4 v5 wr=>∃(ts:List Int)(t:Int),ts.length<=50/\gk=60-ts.length/\v5=E t/\-1000000<=t/\t<=2000000/\Hid (Tl f l s=Pt l s (60-ts.length) t ts)/\Hid (∀t∈ts,-1000000<=t/\t<=1000000)/\Hid (wr.ownsRow (w.heap.size+1) 2 1 v4 ts.length<|ts.map<|.int .i64)/\Hid (BW w wr)/\Hid (Ya wr w.heap.size [E f,E l,E s] 32));case atStart=>exact⟨[],f,Yr _,C,C,X,X,L,I (by intro t O;cases O),Xm _ _ _ _,I Yc,I<|Go.Deep.blk_alloc_new _ _⟩
 case round=>
  obtain⟨ts,t,P,T,rfl,U,V,D,F,g,o,i⟩:=hrel;have x0:=i.cell 0;have x1:=i.cell 1;have x2:=i.cell 2;simp only[Yf]at x0 x1 x2;obtain⟨av,cp,Q⟩:=Zd g.out;subst Q;obtain⟨fu,r⟩:∃fu,60-ts.length=fu+1:=⟨59-ts.length,X⟩;have j:Hid<|Tl f l s=if t<=l then(if ts.length=50 then none else Pt l s fu (t+s)<|ts++[t])else some ts:=I<|by rw[D.out,r];rfl
  have W:=i.lt;clear D;by_cases k:t<=l
  .by_cases m:ts.length=50
   .have n:Hid<|Tl f l s=none:=I<|by rw[j.out,Ye k,Ye m]
    have R:((ts.length:Int)==50)=true:=by rw[m];rfl
    go_wp2;go_ret2;exact⟨_,_,C,I<|Or.inl ⟨C,n.out⟩,o.out⟩
   .have R:((ts.length:Int)==50)=false:=by rw[YB];omega
    have n:Hid<|Tl f l s=Pt l s (60-(ts++[t]).length) (t+s) (ts++[t]):=I<|by
     rw[j.out,Ye k,Yd m];congr 1;rw[Yv,PC];omega
    clear r;go_wp2_with(at_builtin;refine XC _ C (.tmp 54) (.tmp 56) 48 C (w.heap.size+1) 2 i0 (E 0) 1 8 underlying48 M z A B C N _ _ _ C (g.alloc _) ⟨wr.heap.size,0,none⟩ 1 1 [E t] C C (Z1 C) ?c2 ?c3 ?c4 ?c5 ?_);case c2=>first|exact C|(intro u p;simp at p;subst p;rfl)
    case c3=>unfold maxLen;omega
    case c4=>omega
    case c5=>first|omega|(simp;omega)
    intro v' G c a _;have H:Hid<|BW w G:=I<|QL (o.alloc o.size _) a λq S=>by have:=(g.lt q S).1;omega
    have d:=I<|Ya.ownGrownLt (i.below Yc) (g.alloc _) a X;have J:Hid<|G.ownsRow (w.heap.size+1) 2 1 v' (ts++[t]).length<|(ts++[t]).map<|.int .i64:=I<|by
     rw[Y9,Yv];exact c
    have K:Hid<|∀u∈ts++[t],-1000000<=u/\u<=1000000:=I (by
     intro u p;rcases Wk.mp p with h|h
     .exact F.out u h
     .rw[Vs]at h;subst h;omega);clear c a x0 x1 x2;have x0:=d.cell 0;have x1:=d.cell 1;have x2:=d.cell 2;simp only[Yf]at x0 x1 x2;go_wp2;go_roundg (60-(ts.length+1));case measure=>omega
    case rel=>exact⟨ts++[t],t+s,by rw[Yv,PC];omega,by rw[Yv,PC],C,X,X,n,K,J,H,d⟩
  .have n:Hid<|Tl f l s=some ts:=I<|by rw[j.out,Yd k]
   go_wp2;go_ret2;exact⟨_,_,C,I<|Or.inr ⟨C,ts,n.out,P,F.out,U6 g.out⟩,o.out⟩
theorem vR(tm:Int)(c:YD tm)(V:VV)(h:Xh w v V)(f:WG 1000 V):
 CP 19 #[E tm,v] w λe u=>∃r:BA,e=.returned (.string r)/\Hid (bl r=U9 tm V)/\r.size<=2000000000000/\BW w u:=by
 cases V with
 |inl n=>
  obtain⟨⟨fa,fc,rfl,j⟩,g⟩:=h;exact vS tm c n g fa 0 fc w
 |inr l=>
  obtain⟨ea,ec,zs,rfl,i,d⟩:=h;have a:zs.length<=1000:=by have:=f.2;rw[<-d,Yz]at this;exact this
  rw[<-d];exact vT tm c 0 zs w i a
def VX:List (LB)->LB
 |[]=>[]
 |[a]=>a
 |a::b::l=>a++10::VX (b::l)
theorem C2:∀(l:List<|LB)(x:LB),VX (l++[x])=(if l.isEmpty then[]else VX l++[10])++x
 |[],x=>C
 |[a],x=>by simp[VX]
 |a::b::l,x=>by
  have:=C2 (b::l) x;rw[Oj,Oj,VX,<-Oj,this,VX];simp
theorem uc(s:BA)(w:World)(f:s.size<=maxLen):
 CP 15 #[.string s] w λe u=>∃v,e=.returned (.tuple #[v,E (ZG<|bl s).1,E (ZG<|bl s).2])/\BW w u/\Hid ((ZG<|bl s).1=0->Pc u v (bl s)/\s.size<=6000):=by
 by_cases h:s.size<=6000
 .refine(jt s w h).mono ?_;rintro e u ⟨v,a,c,g⟩;exact⟨v,a,c,I λd=>⟨g.out d,h⟩⟩
 .have e:ZG (bl s)=(1,0):=by unfold ZG;rw[Ye<|by rw[Zb];omega]
  rw[e];refine(jr s w X f).mono ?_;rintro e' u ⟨v,a,c⟩;exact⟨v,a,c,I λd=>by cases d⟩
theorem fl (f l st:Int):CP 16 #[.agg #[E f,E l,E st]] w λe u=>∃v ok:Value,e=.returned (.tuple #[v,ok])/\Hid (E9 u f l st v ok)/\BW w u:=by
 by_cases h:UA f l st
 .refine(yI f l st w h).mono ?_;rintro e u ⟨rfl,a⟩;exact⟨_,_,C,I<|Or.inl ⟨C,by unfold Tl;rw[Ye h]⟩,a⟩
 .exact yJ f l st w h
def PA(w':World)(f l s:Int)(ft:Addr)(tv ev:Value):Prop:=(Tl f l s=none/\tv=.slice none 0 0/\ev=.iface 469 (.pointer<|some ft))∨(∃ts,Tl f l s=some ts/\ts.length<=50/\(∀t∈ts,-1000000<=t/\t<=1000000)/\ev=.nilIface/\w'.ownsRow 0 3 1 tv ts.length (ts.map<|Value.int .i64))
theorem mz(n:Nat):(madeCells #[Value.int .i64 0] n).toList=List.replicate n (Value.int .i64 0):=by
 refine List.ext_getElem (by simp[madeCells]) λi a c=>?_;simp[madeCells,Nat.mod_one]
theorem iq(f l s:Int){ft:Addr}(w:World)(K:w.cell? ⟨7,0,none⟩=some (.iface 469<|.pointer<|some ft)):
 CP 24 #[.agg #[E f,E l,E s]] w λe u=>∃tv ev,e=.returned (.tuple #[tv,ev])/\Hid (PA u f l s ft tv ev)/\BW w u:=by
 obtain⟨i0,hi,L,M,O⟩:=Xv Tryz.infoInt3;have P:7<w.heap.size:=Xi _ _ K;have G:∀o,(w.alloc o).cell? ⟨7,0,none⟩=some _:=λo=>by rwa [TN _ _ _ P]
 by_cases j:UA f l s
 .have n:Hid<|∀u,PA u f l s ft _ _:=I λu=>.inl ⟨by unfold Tl;rw[Ye j],C,C⟩;by_cases c1:(-1000000<=f/\f<=1000000)
  .obtain⟨d1,d2⟩:=c1;by_cases c2:(-1000000<=l/\l<=1000000)
   .obtain⟨d3,d4⟩:=c2;by_cases c3:l<f
    .clear j;go_enter func24,ntmps24;go_wp2_with(go_at_call 45;refine(Nu).mono ?_;rintro e u ⟨rfl,rfl⟩);go_region;all_goals(try go_wp2)
     all_goals(go_ret2;exact⟨_,_,C,I<|n _,Yh⟩)
    .by_cases c4:s<1
     .clear j;go_enter func24,ntmps24;go_wp2_with(go_at_call 45;refine(Nu).mono ?_;rintro e u ⟨rfl,rfl⟩);go_region;all_goals(try go_wp2)
      all_goals(go_ret2;exact⟨_,_,C,I<|n _,Yh⟩)
     .have c5:1000000<s:=by unfold UA at j;omega
      clear j;go_enter func24,ntmps24;go_wp2_with(go_at_call 45;refine(Nu).mono ?_;rintro e u ⟨rfl,rfl⟩);go_region;all_goals(try go_wp2)
      all_goals(go_ret2;exact⟨_,_,C,I<|n _,Yh⟩)
   .have c3:(decide (-1000000<=l)&&decide (l<=1000000))=false:=by simp;omega
    clear j c2;go_enter func24,ntmps24;go_wp2_with(go_at_call 45;refine(Nu).mono ?_;rintro e u ⟨rfl,rfl⟩);go_region;all_goals(try go_wp2)
    all_goals(go_ret2;exact⟨_,_,C,I<|n _,Yh⟩)
  .have c3:(decide (-1000000<=f)&&decide (f<=1000000))=false:=by simp;omega
   clear j c1;go_enter func24,ntmps24;go_wp2_with(go_at_call 45;refine(Nu).mono ?_;rintro e u ⟨rfl,rfl⟩);go_region;all_goals(try go_wp2)
   all_goals(go_ret2;exact⟨_,_,C,I<|n _,Yh⟩)
 .have H:=I<|fj j;have Q:-1000000<=f/\f<=1000000/\-1000000<=l/\l<=1000000/\1<=s/\s<=1000000/\f<=l:=by unfold UA at j;omega
  obtain⟨d1,d2,d3,d4,d5,d6,d7⟩:=Q;clear j;obtain⟨m,v⟩:∃m:Nat,(l-f).tdiv s=(m):=⟨((l-f).tdiv s).toNat,by have:=Int.tdiv_nonneg (a:=l-f) (b:=s) X X;omega⟩;have x:SG l s f=m+1:=by
   unfold SG;rw[Ye d7,<-Ek X,v];omega
  have a1:m<=2000000:=by
   have c:((l-f).tdiv s).natAbs<=(l-f).natAbs:=by rw[Kv];exact MU _ _
   rw[v]at c;omega
  rw[x]at H;have a2:(s==0)=false:=by rw[YB];omega
  have R:s≠0:=X;clear x;by_cases A:50<m+1
  .have n:Hid<|∀u,PA u f l s ft _ _:=I λu=>.inl ⟨by rw[H,Ye A],C,C⟩;have S:(50:Int)<(m)+1:=X;go_enter func24,ntmps24;go_wp2_with(go_at_call 45;refine(Nu).mono ?_;rintro e u ⟨rfl,rfl⟩);go_region;all_goals(try go_wp2)
   all_goals(go_ret2;exact⟨_,_,C,I<|n _,Yh⟩)
  .have n:Hid<|Tl f l s=some _:=I<|by rw[H,Yd A]
   have S:(m:Int)+1<=50:=X;have B:Hid<|∀i,i<m+1->-1000000<=f+(i)*s/\f+(i)*s<=1000000:=I λi D=>by
    have c:(i)*s<=(m)*s:=Int.mul_le_mul_of_nonneg_right X X;have h2:(m)*s<=l-f:=by
     rw[<-v,Ek X];exact Int.ediv_mul_le _ R
    have h3:0<=(i)*s:=Int.mul_nonneg X X;omega
   go_enter func24,ntmps24;go_wp2_with(first
    |(go_at_call 45;refine(Nu).mono ?_;rintro e u ⟨rfl,rfl⟩)
    |(at_make;refine It _ C _ _ 76 C w.heap.size 3 i0 _ 1 underlying76 hi L M _ _ _ _ (m+1) C C ?e1 ?e2 ?b2 ?b3 ?b4 ?_));case e1=>rfl
   case e2=>rfl
   case b2=>rw[O];omega
   case b3=>unfold maxLen;omega
   case b4=>simp
   rw[mz];intro z p d;have T:Hid<|Ya _ _ _ 23:=I<|(d.block _ Sm Sm).trans YO;have U:=I<|Yc.grown d Sm λq hq=>by cases hq
   clear d v G;have a0:=ZN p;go_wp2;go_loopw [50] (λi wr=>∃k:Nat,k<=m+1/\i=E k/\Hid (wr.ownsRow w.heap.size 3 1 (.slice (some ⟨w.heap.size+1,0,none⟩) (m+1)<|m+1) (m+1)<|(List.range k).map (λ(i:Nat)=>Value.int .i64<|f+(i:Int)*s)++List.replicate (m+1-k) (Value.int .i64 0))/\Hid (Ya wr w.heap.size [E f,E l,E s] 23)/\Hid (BW w wr))
    (λi _=>m+1-(intOf i).toNat);case atStart=>exact⟨0,Yr _,C,I<|by simpa using p,T,U⟩
   case round=>
    obtain⟨k,hk,rfl,r,J,V⟩:=hrel;by_cases F:k<m+1
    .have x0:=J.cell 0;have x2:=J.cell;simp only[Yf]at x0;have a3:=B k F;have a4:0<=(k)*s:=Int.mul_nonneg X X;have a5:(Go.IntKind.i64).wrap ((k)*s)=(k)*s:=by
      generalize(k:Int)*s=ks at*;rw[Us];omega
     have a6:(Go.IntKind.i64).wrap (f+(k)*s)=f+(k)*s:=by
      generalize(k:Int)*s=ks at*;rw[Us];omega
     have Z:wr.cell? ⟨w.heap.size+1,k,none⟩=some _:=Zc r _ _<|by rw[SJ Sm,Yz,List.length_range,KA,O3,Ye X]
     have a7:wr.frozen? ⟨w.heap.size+1,k,none⟩=false:=by
      rcases r.2 with⟨h,_⟩|⟨g,cap,cur,h,_,hh,_⟩
      .cases h
      .injection h with c;injection c with c;injection c with c;subst c;simp[World.frozen?,hh]
     have a8:(k:Int)<(m)+1:=X;have W:Hid<|(wr.setCell ⟨w.heap.size+1,k,none⟩<|E<|f+(k)*s).ownsRow w.heap.size 3 1 (.slice (some ⟨w.heap.size+1,0,none⟩) (m+1)<|m+1) (m+1)<|(List.range<|k+1).map (λ(i:Nat)=>Value.int .i64<|f+(i)*s)++List.replicate (m+1-(k+1)) (Value.int .i64 0):=by
      have:=kJ r k<|E<|f+(k)*s;rw[iH k F]at this;exact this
     go_wp2;go_roundw;case rel=>exact⟨k+1,X,by go_num,W,I<|J.other (by show w.heap.size≠w.heap.size+1;omega) _,I<|V.setCell (by show w.heap.size<=w.heap.size+1;omega) _⟩
     case measure=>simp[intOf];omega
    .obtain rfl:k=m+1:=X;have Y:Hid<|PA _ f l s ft _ _:=I<|.inr ⟨_,n,by simp;omega,λt ht=>by
     obtain⟨i,D,rfl⟩:=XJ.1 ht;exact B i<|RY.1 D,C,by
     have c:=r.out;rw[KA,List.replicate_zero,V6]at c;rw[Yz,List.length_range,VD];exact c.mono<|Yr _⟩;go_wp2;go_ret2;exact⟨_,_,C,Y,V⟩
def UE(cd s:LB)(f l st fuel:Int):LB×Nat×Nat:=match Tj cd with
 |.error x=>([],x.1,x.2)
 |.ok y=>if(ZG s).1≠0 then([],(ZG s).1,(ZG s).2)else match Tl f l st with
  |none=>([],8,0)
  |some ts=>if fuel<0∨1000000<fuel then([],13,0)else match VK (Qh s) y.1 fuel.toNat ts with
   |none=>([],13,0)
   |some z=>(VX z.1,0,0)
theorem Ct(h:Tj l=.ok y):T7 y.1/\∃L,VC y.1 L:=by
 unfold Tj at h;cases hd:Wt l with
 |error e=>simp_all
 |ok c=>
  rw[hd]at h;simp only at h;cases a:Vl c with
  |error e=>simp_all
  |ok x=>
   rw[a]at h;injection h with h;subst h;exact⟨uM hd,yj a⟩
def gS:Option (List (LB)×Nat)->LB×Nat×Nat
 |none=>([],13,0)
 |some z=>(VX z.1,0,0)
theorem rn{cd s:LB}{f l st:Int}(fuel:Int){ts:List Int}(h:Tj cd=.ok y)(c:(ZG s).1=0)(a:Tl f l st=some ts):UE cd s f l st fuel=gS (if fuel<0∨1000000<fuel then none else VK (Qh s) y.1 fuel.toNat ts):=by
 unfold UE;rw[h];simp only;rw[Yd X,a];simp only;split<;>rfl
