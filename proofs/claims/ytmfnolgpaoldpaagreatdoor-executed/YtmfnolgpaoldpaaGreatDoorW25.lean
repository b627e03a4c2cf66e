/- Parts. -/
import Derived.Test.YtmfnolgpaoldpaaGreatDoorW24
import Derived.Deep.WholeRow
set_option linter.all false
set_option maxRecDepth 100000
set_option maxHeartbeats 16000000
namespace Go.Proofs.YtmfnolgpaoldpaaGreatDoor
open Go.RowKit LS Go.Proofs.Tryz
variable {a:Ah}{l:List Ah}{sl sl' st st' x y:List Nat}{c:List Value}{arg e0 e1 e2 e3 g i n0 n1 n2 n3 nb:Nat}{a0 a1 a2 a3:Option Addr}{v:Value}{w:World}
theorem F4(w:World)(a:Ah)(c:Yb)(h:Qk w nb a c 1 arg a0 a1 a2 a3 n0 n1 n2 n3 e0 e1 e2 e3):
 CP 122 #[Vp nb,.agg #[.slice a0 n0 e0,.slice a1 n1 e1,.slice a2 n2 e2,.slice a3 n3 e3],.agg #[E (1:Nat),E arg]] w λe u=>∃ok,e=.returned (.bool ok)/\Hid (Vv w u nb a (Zr c (1,arg) a.jy a.jx) ok):=by
 have l:=I h;have M:=h.st.lt;clear h;obtain⟨i,m⟩:=l.rf;obtain⟨xs,d,f,r⟩:=l.cv.ps;have q:arg<c.jw.length:=by simpa [Zy]using m
 have s:xs.length=c.jw.length:=by rw[<-f,Yz]
 have t:n1=xs.length:=by
  obtain⟨av,cp,e⟩:=Zd d;injection e
 subst t;obtain⟨g,cp,K⟩:=Zm d X;injection K with hg1 hg2 hg3;subst hg1;have o:arg<xs.length:=X;obtain⟨g0,g1,g2⟩:=DX _ _ o;have x0:=Zc d _ _ g0;have x1:=Zc d _ _ g1;have x2:=Zc d _ _ g2;have O:=ZN d;have L:Hid<|Zr c (1,arg) a.jy a.jx=Z4 (VF (xs[arg].nd,xs[arg].n)) a.jy a.jx:=by
  show Z4 ((c.jw[arg]?.map VF).getD 0) _ _=_;rw[<-f,Vt,List.getElem?_eq_getElem o];rfl
 generalize xs[arg]=x at*;have v:Hid<|VF (x.nd,x.n)≠0:=I<|by unfold VF;split<;>decide
 have P:(arg:Int)<xs.length:=X;clear m d f r g0 g1 g2 s q hg2 hg3;go_enter func122,ntmps122;go_wp2_with fail;refine Zv λW A=>?_;have j:Below _ w W:=A▸Yc.alloc Sm _;have B:=I<|l.st.below j;have D:Hid<|w.grownBy W<|some nb:=I<|ZB j;clear A j x0 x1 x2;refine(oI x.nd W).mono ?_;rintro e Q ⟨rfl,k⟩;have F:=I<|B.below k;have G:=I<|Qz D k;clear k;generalize VF (x.nd,x.n)=kk at*;go_wp2_with fail;refine(ME _ a _ _ F l.ln).mono ?_;rintro e z ⟨rfl,H,p⟩;have J:=I<|Zi G p;clear p;go_wp2;go_ret;exact⟨_,C,I<|Vv.put v L ⟨C,C⟩ H J⟩
theorem F5(w:World)(a:Ah)(c:Yb)(h:Qk w nb a c 3 arg a0 a1 a2 a3 n0 n1 n2 n3 e0 e1 e2 e3):
 CP 122 #[Vp nb,.agg #[.slice a0 n0 e0,.slice a1 n1 e1,.slice a2 n2 e2,.slice a3 n3 e3],.agg #[E (3:Nat),E arg]] w λe u=>∃ok,e=.returned (.bool ok)/\Hid (Vv w u nb a (Zr c (3,arg) a.jy a.jx) ok):=by
 have G:=I h;have a5:=h.st.lt;clear h;go_enter func122,ntmps122;go_wp2_with fail;refine Zv λW P=>?_;have q:Below _ w W:=P▸Yc.alloc Sm _;have Q:=I<|G.st.below q;have R:Hid<|w.grownBy W<|some nb:=I<|ZB q;clear P q;obtain⟨y,f⟩:∃y,y=a.jy.headD 0:=⟨_,C⟩;obtain⟨x,g⟩:∃x,x=a.jy.tail.headD 0:=⟨_,C⟩;have l:=MG _ a W Q G.ln;rw[<-f]at l;refine l.mono ?_;clear l;rintro e w1 ⟨rfl,K,i⟩;have S:=I<|Zi R i;have T:=I f;have L:=I g;clear i f g;go_wp2_with fail;have g:=L.out;have f:=T.out;have l:=MG _ _ _ K<|by have:=G.ln;simp;omega
 rw[g.symm]at l;refine l.mono ?_;clear l;rintro e z ⟨rfl,s,i⟩;have t:=I<|Zi S i;clear i;have U:Hid<|YW _ _ {a with jy:=a.jy.tail.tail}:=I s;have v:Hid<|(ZO x&&ZO y)=false->Zr c (3,arg) a.jy a.jx=none:=I λV=>by
  cases A:a.jy with
  |nil=>rfl
  |cons k r=>
   cases H:r with
   |nil=>rfl
   |cons k2 r2=>
    rw[A,H]at g f;have g:x=k2:=g;have f:y=k:=f;rw[g,f]at V;show(if(ZO k2&&ZO k)=true then _ else none)=none;rw[V];rfl
 have B:Hid<|ZO x=true->ZO y=true->Zr c (3,arg) a.jy a.jx=Z4 (max x y) {a with jy:=a.jy.tail.tail}.jy {a with jy:=a.jy.tail.tail}.jx:=I λo p=>by
  cases A:a.jy with
  |nil=>rw[A]at f;rw[f]at p;cases p
  |cons k r=>
   cases H:r with
   |nil=>rw[A,H]at g;rw[g]at o;cases o
   |cons k2 r2=>
    rw[A,H]at g f;have g:x=k2:=g;have f:y=k:=f;rw[g]at o⊢;rw[f]at p⊢;show(if(ZO k2&&ZO k)=true then _ else none)=_;rw[o,p];rfl
 clear g f K s L T;cases d:ZO x with
 |false=>
  have D:=I<|v<|by rw[d];rfl
  have n:=I λm=>by have:=OC x m;rwa [d]at this
  clear d;go_wp2_with(go_at_call 162;refine(n.out _).mono ?_;rintro e J ⟨rfl,rfl⟩);go_ret;exact⟨_,C,I<|Vv.no D t⟩
 |true=>
  cases j:ZO y with
  |false=>
   have D:=I<|v<|by rw[d,j];rfl
   have n:=I λm=>by have:=OC x m;rwa [d]at this
   have F:=I λm=>by have:=OC y m;rwa [j]at this
   clear d j;go_wp2_with fail;refine(n _).mono ?_;rintro e J ⟨rfl,rfl⟩;go_wp2_with fail;refine(F _).mono ?_;rintro e J ⟨rfl,rfl⟩;go_wp2;go_ret;exact⟨_,C,I<|Vv.no D t⟩
  |true=>
   have D:=I<|B d j;have n:=I λm=>by have:=OC x m;rwa [d]at this
   have F:=I λm=>by have:=OC y m;rwa [j]at this
   have M:x=1∨x=2:=by unfold ZO at d;simpa using d
   have O:y=1∨y=2:=by unfold ZO at j;simpa using j
   have Y:Hid<|max x y≠0:=I X;clear d j v B;go_wp2_with fail;refine(n _).mono ?_;rintro e J ⟨rfl,rfl⟩;go_wp2_with fail;refine(F _).mono ?_;rintro e J ⟨rfl,rfl⟩;rcases M with rfl|rfl<;>rcases O with rfl|rfl;all_goals
    go_wp2_with fail;refine(ME _ _ _ _ U<|by have:=G.ln;simp;omega).mono ?_;rintro e w3 ⟨rfl,Z,i⟩;have a4:=I<|Zi t i;clear i;go_wp2;go_ret;exact⟨_,C,I<|Vv.put Y D ⟨C,C⟩ Z a4⟩
theorem ub(w:World)(a:Ah)(c:Yb)(h:Qk w nb a c 13 arg a0 a1 a2 a3 n0 n1 n2 n3 e0 e1 e2 e3):
 CP 122 #[Vp nb,.agg #[.slice a0 n0 e0,.slice a1 n1 e1,.slice a2 n2 e2,.slice a3 n3 e3],.agg #[E (13:Nat),E arg]] w λe u=>∃ok,e=.returned (.bool ok)/\Hid (Vv w u nb a (Zr c (13,arg) a.jy a.jx) ok):=by
 have q:=I h;have D:=h.st.lt;obtain⟨i,f⟩:=h.rf;have m:arg<16:=by simpa [Zy]using f
 have F:(arg:Int)<16:=X;clear h f;go_enter func122,ntmps122;go_upto_region 26 with fail;refine Zs λW n=>?_;have d:Below _ w W:=n▸Yc.alloc Sm _;have g:=I<|q.st.below d;have r:Hid<|w.grownBy W<|some nb:=I<|ZB d;have s:Hid<|Ya W (w.heap.size+1) [E (13:Nat),E arg] 137:=by
  rw[n];have:=Go.Deep.blk_alloc_new (w.alloc<|.cells #[.slice a0 n0 e0,.slice a1 n1 e1,.slice a2 n2 e2,.slice a3 n3 e3] 80)<|.cells #[E (13:Nat),E arg] 137;rwa [Go.Deep.nblk_alloc]at this
 clear n d;have o1:=s.cell;have s1:=YW.slot g _ m;obtain⟨k,o⟩:∃k,k=a.jx.getD arg 0:=⟨_,C⟩;rw[<-o]at s1;have t:=I o;have v:=I λA h=>ME nb a k A h q.ln;have x:Hid<|YW _ _ a:=I<|g.below<|(Ym _ _).drew;clear o;go_region_with (first
  | (go_at_call 159;refine(v.out _ x.out).mono ?_;rintro e B ⟨rfl,z,j⟩;have l:Hid<|w.grownBy B<|some nb:=I<|Zi (TV r.out) j;clear j));all_goals
  go_wp2;go_ret;refine⟨_,C,I ?_⟩;by_cases p:k=0
  .subst p;rw[iu];refine Vv.no ?_ l;show(if a.jx.getD arg 0=0 then none else _)=none;rw[<-t];rfl
  .refine Vv.put p ?_ ⟨C,C⟩ z l;show(if a.jx.getD arg 0=0 then none else Z4 (a.jx.getD arg 0) a.jy a.jx)=_;rw[<-t,Yd p]
theorem ua(w:World)(a:Ah)(c:Yb)(h:Qk w nb a c 12 arg a0 a1 a2 a3 n0 n1 n2 n3 e0 e1 e2 e3):
 CP 122 #[Vp nb,.agg #[.slice a0 n0 e0,.slice a1 n1 e1,.slice a2 n2 e2,.slice a3 n3 e3],.agg #[E (12:Nat),E arg]] w λe u=>∃ok,e=.returned (.bool ok)/\Hid (Vv w u nb a (Zr c (12,arg) a.jy a.jx) ok):=by
 have p:=I h;have Q:=h.st.lt;obtain⟨i,q⟩:=h.rf;have l:arg<16:=by simpa [Zy]using q
 have R:(arg:Int)<16:=X;clear h q;go_enter func122,ntmps122;go_upto_region 23 with fail;refine Zs λW z=>?_;have m:Below _ w W:=z▸Yc.alloc Sm _;have B:=I<|p.st.below m;have D:Hid<|w.grownBy W<|some nb:=I<|ZB m;have n:Hid<|Ya W (w.heap.size+1) [E (12:Nat),E arg] 137:=by
  rw[z];have:=Go.Deep.blk_alloc_new (w.alloc<|.cells #[.slice a0 n0 e0,.slice a1 n1 e1,.slice a2 n2 e2,.slice a3 n3 e3] 80)<|.cells #[E (12:Nat),E arg] 137;rwa [Go.Deep.nblk_alloc]at this
 clear z m;have o1:=n.cell;obtain⟨y,d⟩:∃y,y=a.jy.headD 0:=⟨_,C⟩;have L:=I d;have s:Hid<|∀f,YW f _ a->Calls _ _ _ _ λe u=>e=.returned _/\Hid _/\f.grownBy _ _:=I λf h=>d▸MG nb a f h p.ln;have t:Hid<|YW _ _ a:=I<|B.below<|(Ym _ _).drew;clear d;have S:¬nb=w.heap.size+1:=X;have M:¬w.heap.size+1=nb:=X;go_region_with (first
  | (go_at_call 161;refine(s.out _ t.out).mono ?_;rintro e F ⟨rfl,g,o⟩;have G:Hid<|w.grownBy F<|some nb:=I<|Zi (TV D.out) o;have v:=I<|(n.below<|(Ym _ _).drew).grown o<|by intro e;injection e with e;omega
     have p1:=v.cell;have s5:=YW.slot g.out arg l;have fz5:=g.frozen<|67+arg;clear o));all_goals
  have H:Hid<|∀f:World,(∀j,f.heap[j]?=(F.setCell _ _).heap[j]?)->w.grownBy f _->Vv w f nb a (Zr c (12,arg) a.jy _) (((y):Int) !=0):=I λf O J=>by
   have x:YW _ _ {a with jy:=a.jy.tail,jx:=a.jx.set _ y}:=(O _).trans<|by
    have K:=g.setk (67+arg)<|.int .u8<|y;rw[GK {a with jy:=a.jy.tail} _ y l p.sl]at K;exact K
   rw[show(((y):Int) !=0)=decide (y≠0)from by rw[Ud,Vg,Qs];omega];have d:=L.out;cases A:a.jy with
   |nil=>rw[A]at d;subst d;exact Vv.no C J
   |cons k r=>
    rw[A]at d x;have d:y=k:=d;subst d;have P:=p.kd y<|by rw[A];simp
    refine⟨by show decide (y≠0)=true;simp[P],λst sl e=>?_,J⟩;injection e with e;injection e with e1 e2;subst e1;subst e2;exact x
  clear s t n v g;go_wp2;go_region;all_goals
   go_wp2;go_ret;exact⟨_,C,I<|H _ (λ_=>C)<|TV<|Zn G (.inl C) _⟩
theorem iP(w:World)(a:Ah)(c:Yb){op:Nat}(n3:Nat)(h:Qk w nb a c op arg a0 a1 a2 a3 n0 n1 n2 n3 e0 e1 e2 e3)(d:op<=13):
 CP 122 #[Vp nb,.agg #[.slice a0 n0 e0,.slice a1 n1 e1,.slice a2 n2 e2,.slice a3 n3 e3],.agg #[E op,E arg]] w λe u=>∃ok,e=.returned (.bool ok)/\Hid (Vv w u nb a (Zr c (op,arg) a.jy a.jx) ok):=by
 rcases(X:op=0∨op=1∨op=2∨op=3∨op=4∨op=5∨op=6∨op=7∨op=8∨op=9∨op=10∨op=11∨op=12∨op=13)with rfl|rfl|rfl|rfl|rfl|rfl|rfl|rfl|rfl|rfl|rfl|rfl|rfl|rfl
 .exact F0 w a c h
 .exact F4 w a c h
 .exact Mn w a c h<|.inl ⟨⟨C,C⟩,C⟩
 .exact F5 w a c h
 .exact F6 w a c h
 .exact Mn w a c h<|.inr ⟨⟨C,C⟩,N⟩
 .exact Mn w a c h<|.inr ⟨⟨C,C⟩,N⟩
 .exact Mn w a c h<|.inr ⟨⟨C,C⟩,N⟩
 .exact Mn w a c h<|.inr ⟨⟨C,C⟩,N⟩
 .exact F7 w a c h
 .exact Mn w a c h<|.inr ⟨⟨C,C⟩,N⟩
 .exact vZ w a c h
 .exact ua w a c h
 .exact ub w a c h
def YT(l:List Ah):List Value:=(List.range<|83*l.length).map λt=>Tb (l.getD (t/83) Ys)<|t%83
theorem MF(l:List Ah):(YT l).length=83*l.length:=by simp[YT]
theorem LV(l:List Ah)(i j:Nat)(a:i<l.length)(c:j<83):(YT l)[i*83+j]?=some (Tb (l.getD i Ys) j):=by
 unfold YT;rw[Vt,J5 X];simp only[Wr];rw[show(i*83+j)/83=i by omega,show(i*83+j)%83=j by omega]
theorem GL(l:List Ah)(t:Nat)(a:t<83*l.length):(YT l)[t]?=some (Tb (l.getD (t/83) Ys)<|t%83):=by
 unfold YT;simp_all
theorem Ns(l:List Ah)(i:Nat)(c:i<l.length):(l.set i a).getD i Ys=a:=by
 simp_all
theorem getD_set_ne(l:List Ah)(i j:Nat)(a:Ah)(h:i≠j):(l.set i a).getD j Ys=l.getD j Ys:=by
 simp_all
theorem GM(d:c.length=83*l.length)(h:∀t,t<83*l.length->c[t]?=some (Tb (l.getD (t/83) Ys)<|t%83)):c=YT l:=by
 apply PB;intro t;by_cases a:t<83*l.length
 .rw[h t a,GL l t a]
 .rw[Rh X,Rh<|by rw[MF];omega]
theorem JP{j:Nat}{a2:Ah}(a:i<l.length)(f:j<83)(h:(Xn<|l.getD i Ys).set j v=Xn a2):(YT l).set (i*83+j) v=YT (l.set i a2):=by
 refine GM (by simp[MF]) λt c=>?_;rw[Qw]at c;have d:∀k,k<83->((Xn _).set j v)[k]?=some _:=λk g=>by rw[h,Tx _ k g]
 rw[Se];by_cases e:i*83+j=t
 .subst e;rw[Ye C,Ye<|by rwa [MF],show(i*83+j)/83=i by omega,show(i*83+j)%83=j by omega,Ns l i a];have:=d j f;rw[List.getElem?_set_self<|by assumption]at this;omega
 .rw[Yd e,GL l t c];by_cases ei:i=t/83
  .rw[<-ei,Ns l i a];have:=d (t%83) X;rw[List.getElem?_set_ne X,Tx _ _ X]at this;omega
  simp_all
def OS:List Value->Nat->List Value->List Value
 |c,_,[]=>c
 |c,o,v::r=>OS (c.set o v) (o+1) r
theorem A8(vs:List Value):∀(c:List Value)(o t:Nat),o+vs.length<=c.length->(OS c o vs)[t]?=if o<=t/\t<o+vs.length then vs[t-o]? else c[t]?:=by
 induction vs with
 |nil=>intro c o t h;rw[Yd Sm];rfl
 |cons v r ih=>
  intro c o t h;rw[Y1]at h;show(OS (c.set o v) (o+1) r)[t]?=_;rw[ih _ _ _<|by simp_all;omega];by_cases a:o+1<=t/\t<o+1+r.length
  .rw[Ye a,Ye<|by simp_all;omega,show t-o=(t-(o+1))+1 by omega,J8]
  .rw[Yd a,Se];by_cases d:o=t
   .simp_all;omega
   simp_all;omega
theorem A9(vs:List Value):∀(c:List Value)(o:Nat),(OS c o vs).length=c.length:=by
 induction vs with
 |nil=>intro c o;rfl
 |cons v r ih=>intro c o;show(OS (c.set o v) (o+1) r).length=_;simp_all
theorem fp{a2:Ah}(c:i<l.length):OS (YT l) (i*83) (Xn a2)=YT (l.set i a2):=by
 refine GM (by rw[A9];simp[MF]) λt a=>?_;rw[Qw]at a;rw[A8 _ _ _ _<|by rw[Ux,MF];omega,Ux];by_cases e:i*83<=t/\t<i*83+83
 .rw[Ye e,show t/83=i by omega,Ns l i c,Tx _ _ X,show t-i*83=t%83 by omega]
 .rw[Yd e,GL l t a,getD_set_ne l i _ _ X]
theorem Ya.setCells{g:Nat}{t:TypeId}:∀(vs:List Value){w:World}{c:List Value}(o:Nat),Ya w g c t->Ya (w.setCells g o vs) g (OS c o vs) t
 |[],_,_,_,h=>h
 |v::r,w,c,o,h=>by
  rw[World.setCells];exact Ya.setCells r _<|h.setk o v
theorem DO{g:Nat}:∀(vs:List Value){w0 w:World}(o:Nat),w0.grownBy w (some g)->w0.grownBy (w.setCells g o vs) (some g)
 |[],_,_,_,h=>h
 |v::r,w0,w,o,h=>by
  rw[World.setCells];exact DO r _<|Zn h (.inl C) _
theorem Ya.range {t:TypeId}(h:Ya w g c t)(o:Nat)(cs:List Value)(d:∀j,j<cs.length->c[o+j]?=cs[j]?):w.rangeAt g o cs:=λj v a=>by
 have e:=(RX.1 a).1;rw[h.cell _,d j e,a]
theorem Ya.there {t:TypeId}(h:Ya w g c t)(o n:Nat)(a:o+n<=c.length):w.there g o n:=λj d=>by
 refine⟨?_,h.frozen _⟩;rw[h.cell _,List.getElem?_eq_getElem X];rfl
def VO(a:Ah):List Value:=(List.range 64).map λj=>.int .u8 ((a.jy.reverse.getD j 0:Nat):Int)
theorem MH(a:Ah):(VO a).length=64:=by rfl
theorem JQ(a:Ah)(j:Nat)(c:j<64):(VO a)[j]?=some (.int .u8 ((a.jy.reverse.getD j 0:Nat):Int)):=by
 unfold VO;simp_all
theorem fw(c:x.length<=64)(d:y.length<=64)(kx:∀k∈x,k≠0)(ky:∀k∈y,k≠0)(h:∀j,j<64->x.getD j 0=y.getD j 0):x=y:=by
 have a:∀(x y:List _),x.length<=64->y.length<=64->(∀k∈y,k≠0)->(∀j,j<64->x.getD j 0=y.getD j 0)->¬x.length<y.length:=λx y c d ky h e=>by
  have:=h x.length X;rw[Y0,Rh<|Yj _,Y0,List.getElem?_eq_getElem e]at this;exact ky _ (List.getElem_mem _) this.symm
 have f:x.length=y.length:=by
  have g:=a x y c d ky h;have i:=a y x d c kx λj l=>(h j l).symm;omega
 refine List.ext_getElem f λj g i=>?_;have:=h j X;simp_all
theorem fD{b:Ah}(d:a.jy.length<=64)(e:b.jy.length<=64)(kx:∀k∈a.jy,k≠0)(ky:∀k∈b.jy,k≠0):(∀j,j<64->a.jy.reverse.getD j 0=b.jy.reverse.getD j 0)↔a.jy=b.jy:=by
 constructor
 .intro h;have:=fw (by simp_all) (by simp_all) (λk c=>kx k<|by simp_all) (λk c=>ky k<|by simp_all) h;simp_all
 simp_all
theorem BR{X:Array Value}(i:Nat)(a:X[i]?=some v)(w:World):(part 290 X<|i*1).run prog w=.ok v w:=by
 have c:prog.underlying 290=some _:=underlying290;unfold part;simp_all
theorem BQ (a b:Ah)(d:Nat)(w:World):∀is:List Nat,(∀i∈is,i<64)->(Op.eqItems (d+1) 290 1 (VO a).toArray (VO b).toArray is).run prog w=.ok (is.all λi=>a.jy.reverse.getD i 0==b.jy.reverse.getD i 0) w
 |[],_=>C
 |i::is,h=>by
  have c:=h i Sm;have ih:=BQ a b d w is λj f=>h j<|by simp[f]
  have g:prog.underlying 290=some _:=underlying290;simp only[Op.eqItems,KB];rw[BR i<|If▸JQ a i c];simp only[Kp];rw[BR i<|If▸JQ b i c];simp only[Kp];rw[run_equalIn_int w d _ _ _ _ _ g];simp only[Kp,Im];by_cases e:a.jy.reverse.getD i 0=b.jy.reverse.getD i 0
  .simp_all
  · have e1:((((a.jy.reverse.getD i 0)))==(((b.jy.reverse.getD i 0):Int)))=false:=by rw[YB];omega
    simp_all
structure X4 (a:Ah):Prop where
 ln:a.jy.length<=64
 kd:∀k∈a.jy,k≠0
 sl:a.jx.length=16
theorem Tryz.infoSt:(Tryz.prog.info? 294).map (·.size)=some 83:=Kr
theorem Tryz.infoSk:(Tryz.prog.info? 291).map (·.size)=some 64:=Kr
theorem Tryz.infoKd:(Tryz.prog.info? 290).isSome=true:=Kr
theorem eG(a:Ah):(Xn a).set 1 (.bool true)=Xn {a with kw:=true}:=by
 refine LU (by simp[Ux]) λi f=>?_;rw[Se];by_cases d:1=i
 .subst d;rw[Ye C,Ye<|by simp[Ux]];rfl
 .have c:¬i=1:=λe=>d e.symm;rw[Yd d,Tx a i f];unfold Tb;rw[Yd c,Yd c]
def WZ(x y:List Nat)(k:Nat):List Nat:=(Xx x y).take k++x.drop k
theorem Mk(a:x.length=16)(c:y.length=16):(Xx x y).length=16:=by simp[Xx,a,c]
theorem KP(a:x.length=16)(c:y.length=16)(k:Nat)(d:k<=16):(WZ x y k).length=16:=by
 unfold WZ;rw[Yv,Xw,Ur,Mk a c,a];omega
theorem CK(x y:List Nat):WZ x y 0=x:=by simp[WZ]
theorem CG(a:x.length=16)(c:y.length=16):WZ x y 16=Xx x y:=by
 unfold WZ;rw[Wm<|Mk a c▸Yj _,Ts X,V6]
theorem Fy(a:x.length=16)(c:y.length=16)(k:Nat)(d:k<16):(WZ x y k).getD k 0=x.getD k 0:=by
 unfold WZ;rw[Y0,SJ<|by rw[Xw,Mk a c];omega,Xw,Mk a c,Kk,Y0];congr 2;omega
theorem CJ(a:x.length=16)(c:y.length=16)(k:Nat)(f:k<16):WZ x y (k+1)=(WZ x y k).set k (if x.getD k 0=y.getD k 0 then x.getD k 0 else 0):=by
 have d:=Mk a c;have e:(Xx x y)[k]' X=if x.getD k 0=y.getD k 0 then x.getD k 0 else 0:=by
  unfold Xx;rw[List.getElem_zipWith];simp[Y0,List.getElem?_eq_getElem<|show k<x.length by omega,List.getElem?_eq_getElem<|show k<y.length by omega]
 unfold WZ;rw[List.take_succ_eq_append_getElem X,e,Ve _ _<|by rw[Xw];omega,Xw,d,show k-min k _=0 by omega,WV];congr 1;rw[List.drop_eq_getElem_cons<|show k<x.length by omega];rfl
theorem CI(a:x.length=16)(c:y.length=16)(k:Nat)(d:k<16)(h:x.getD k 0=y.getD k 0):WZ x y (k+1)=WZ x y k:=by
 rw[CJ a c k d,Ye h,<-Fy a c k d];apply PB;intro j;rw[Se];by_cases e:k=j
 .subst e;rw[Ye C,Ye<|KP a c k X▸d,Y0,List.getElem?_eq_getElem<|by rwa [KP a c k X]];rfl
 .rw[Yd e]
theorem CH(a:x.length=16)(c:y.length=16)(k:Nat)(d:k<16)(h:x.getD k 0≠y.getD k 0):WZ x y (k+1)=(WZ x y k).set k 0:=by
 rw[CJ a c k d,Yd h]
theorem JM(l:List Ah)(b:Ah)(t:i<l.length)(hg:Ya w g (YT l) 294)(ha:X4<|l.getD i Ys)(hb:X4 b)(hk:b.kj=true)(hc:b.kw=false):
 CP 124 #[.pointer<|some ⟨g,i*83,none⟩,.agg (Xn b).toArray] w λe u=>e=.returned (.tuple #[])/\Hid (Ya u g (YT<|l.set i<|ZZ (l.getD i Ys) b.jy b.jx) 294)/\w.grownBy u (some g):=by
 obtain⟨a,Y⟩:∃a,a=l.getD i Ys:=⟨_,C⟩;rw[<-Y]at ha⊢;obtain⟨o,ho⟩:∃o,o=i*83:=⟨_,C⟩;rw[<-ho];have z:=I ho;have HA:=I ha;have HB:=I hb;have HG:=I hg;have c9:=hg.lt;have H:=I Y;have cells:∀(W:World)(l':List Ah),l'.length=l.length->Ya W g (YT l') 294->∀j,j<83->W.cell? ⟨g,o+j,none⟩=some (Tb (l'.getD i Ys) j):=λW l' G q j v=>by
  rw[q.cell,z.out,LV l' i j X v]
 have J:=I cells;clear ha hb hg Y ho cells;go_enter func124,ntmps124;go_upto_region 1 with fail;refine Zs λW hW=>?_;have Z:Below _ w W:=hW▸Yc;have r:=I<|HG.below Z;have HW:Hid<|w.grownBy W<|some g:=I<|ZB Z;have U:Hid<|Ya W _ _ 294:=hW▸YO;clear hW Z HG;have c0:W.cell? ⟨g,o,none⟩=some (.bool a.kj):=by
  have:=J W l C r 0 N;rw[<-H]at this;exact this
 have a0:¬w.heap.size=g:=X;cases L:a.kj with
 |false=>
  rw[L]at c0;have HL:=I<|U.range 0 _ λj _=>by rw[SK]
  have b6:Hid<|W.there g o (Xn b).toArray.size:=I<|r.there o _<|by rw[Oi,Ux,MF,z];omega
  have b7:Hid ((prog.info? 294).map (·.size)=some (Xn b).length):=by rw[Ux];exact Tryz.infoSt
  have b8:Hid ((prog.info? 294).map (·.size)=some (Xn b).toArray.size):=by rwa [Oi,Ux]
  have b9:=I<|all_oneCell_toArray<|zf b;have HF:Hid<|Ya (W.setCells g o<|Xn b) g (YT<|l.set i<|ZZ a b.jy b.jx) 294:=by
   have G:=Ya.setCells (Xn b) o r;rw[z,fp t]at G;rw[z];have q:ZZ a b.jy b.jx=b:=by
    unfold ZZ;rw[L];cases b with
    |mk k c st sl=>simp only at hk hc;subst hk;subst hc;rfl
   rw[q];exact G
  have c2:=I<|DO (Xn b) o HW;clear J;go_wp2_with(first
   |refine wpList_load_mid C 294 (.tmp 3) C w.heap.size 0 C (Xn b) _ HL.out underlying294 C b7.out ?_
   |refine wpList_store_mid C 294 (.tmp 12) (.tmp 11) C g o (Xn b).toArray C C b6.out b8.out b9.out ?_);exact YQ (Tq C _ _ _) C ⟨C,HF,c2⟩
 |true=>
  rw[L]at c0;have c3:=underlying291;have a5:(prog.info? 291).map (·.size)=some (VO a).length:=by rw[MH];exact Tryz.infoSk
  have a6:(prog.info? 291).map (·.size)=some (VO b).length:=by rwa [MH]
  have c4:=MH a;have c5:=MH b;have a7:=r.range (o+3) _ λj v=>by
   rw[MH]at v;rw[JQ a j v,z,show i*83+3+j=i*83+(3+j)by omega,LV l i _ t X,<-H];have:=GJ a j v;rw[Tx a _ X]at this;exact this
  have a8:=U.range 3 _ λj v=>by
   rw[MH]at v;rw[JQ b j v,GJ b j v]
  have d0:prog.eqGuardType prog.depth 291=false:=Kr;have V:Hid<|∀f:World,(binOp .neq 291 (.agg (VO a).toArray)<|.agg (VO b).toArray).run prog f=.ok (.bool<|decide<|a.jy≠b.jy) f:=I (λf=>by
   obtain⟨i9,c6⟩:=MV.1 Tryz.infoKd;rw[run_neq_struct,run_equalIn_array f 9999 _ _ underlying291 c6,show prog.cellsOf 290=1 by kernel_rfl,BQ a b 9998 f _ λi t=>RY.1 t];simp only[Kp];congr 2;have G:((List.range 64).all λi=>a.jy.reverse.getD i 0==b.jy.reverse.getD i 0)=decide (a.jy=b.jy):=by
    rw[Ud,Tt,Qs,<-fD HA.ln HB.ln HA.kd HB.kd];constructor
    .intro h j v;simpa using h j<|RY.2 v
    .intro h j v;simpa using h j<|RY.1 v
   rw[G];simp);have m:=I HB.sl;have n:=I HA.sl;have c7:Hid<|l.set i a=l:=by
   apply PB;intro j;rw[Se];by_cases e:i=j
   .subst e;rw[Ye C,Ye t,H,Y0,List.getElem?_eq_getElem t];rfl
   .rw[Yd e]
  have d1:=r.lt;have ff:=λj=>r.frozen j;have c1:W.cell? ⟨g,o+1,none⟩=some (.bool a.kw):=by
   have:=J W l C r 1 N;rw[<-H]at this;exact this
  obtain⟨cl,M⟩:∃cl,cl=(a.kw||decide (a.jy≠b.jy)):=⟨_,C⟩;have a9:Hid<|ZZ a b.jy b.jx=⟨true,cl,a.jy,Xx a.jx b.jx⟩:=by unfold ZZ;rw[L,M];rfl
  have b0:Hid<|a=⟨true,a.kw,a.jy,a.jx⟩:=I<|by rw[<-L]
  have b1:=I a7;have b2:=I a8;have b3:=I a5;have b4:=I a6;clear a7 a8 a5 a6 c4 c5 c3;by_cases F:a.jy=b.jy
  .have b5:∀f:World,(binOp .neq 291 (.agg (VO a).toArray)<|.agg (VO b).toArray).run prog f=.ok (.bool false) f:=λf=>by rw[V.out f];simp[F]
   have a1:Hid<|cl=a.kw:=I<|by rw[M];simp[F]
   have O:Hid<|Ya W.drew g (YT<|l.set i ⟨true,cl,a.jy,WZ a.jx b.jx 0⟩) 294:=by
    rw[CK,a1,<-b0,c7];exact r.below<|(Ym _ _).drew
   have P:=I<|U.below<|(Ym _ _).drew;have Q:=I<|TV HW;clear M F V;go_upto_region 3 with fail;refine ZW 6 (λu=>u.rangeAt g _ _/\u.rangeAt _ 3 _) Kr ⟨by simpa using b1.out,by simpa using b2.out⟩ λd=>?_;refine Za 0 d (h:=Za 1 d (h:=Za 2 d (h:=?_)));refine Tk (i:=3) C C Kr (λ_ _ _ h=>h) (yieldsIf_load_mid (by rfl) _ _ C g _ C _ _ (λw R=>R.1) underlying291 C b3) d ?rsp3;case rsp3=>
   try simp only[Yt]
   refine Za 4 d (h:=?_);refine Tk (i:=5) C C Kr (λ_ _ _ h=>h) (yieldsIf_load_mid (by rfl) _ _ C _ 3 C _ _ (λw R=>R.2) underlying291 C b4) d ?rsp5;case rsp5=>
   try simp only[Yt]
   refine ZS Kr Kr C Kr λK hK=>?_;go_simp;refine hK _ _ ?_;clear hK K d;go_wp2;go_loopw [23] (λiv wr=>∃k:Nat,k<=16/\iv=E k/\Hid (Ya wr g (YT<|l.set i ⟨true,cl,a.jy,WZ a.jx b.jx k⟩) 294)/\Hid (Ya wr w.heap.size (Xn b) 294)/\Hid (w.grownBy wr<|some g))
    (λiv _=>16-(intOf iv).toNat);case atStart=>exact⟨0,Yr _,C,O,P,Q⟩
   case round=>
    obtain⟨k,hk,rfl,s,A,B⟩:=hrel;clear O P Q;by_cases p:k<16
    .have c8:(k:Int)<16:=X;have s1:wr.cell? ⟨g,o+67+k,none⟩=some (.int .u8<|(a.jx.getD k 0)):=by
      have:=J _ _ Sm s (67+k) X;rw[Ns l i t]at this;rw[show o+67+k=o+(67+k)by omega,this];have q:=GI ⟨true,cl,a.jy,WZ a.jx b.jx k⟩ k p;rw[Tx _ _ X]at q;rw[q,show(⟨true,cl,a.jy,WZ _ _ k⟩:Ah).jx=WZ _ _ k from C,Fy n m k p]
     have s2:=YW.slot A k p;have fz:=s.frozen<|o+67+k;by_cases D:a.jx.getD k 0=b.jx.getD k 0
     .have S:=I<|CI n m k p D;have a2:((((a.jx.getD k 0))) !=(((b.jx.getD k 0):Int)))=false:=by rw[D];simp
      generalize a.jx.getD k 0=x at*;generalize b.jx.getD k 0=y at*;clear D;go_wp2;go_region;all_goals
       go_wp2;go_roundw;case rel=>exact⟨k+1,X,by go_num,I<|S.out▸s.below ((Ym _ _).drew),I<|A.below<|(Ym _ _).drew,I<|TV B⟩
       case measure=>simp[intOf];omega
     .have S:=I<|CH n m k p D;have a2:((((a.jx.getD k 0))) !=(((b.jx.getD k 0):Int)))=true:=by rw[Vg];omega
      have a3:Hid<|∀f:World,(∀j,f.heap[j]?=wr.heap[j]?)->Ya (f.setCell ⟨g,o+67+k,none⟩ _) g _ _:=I λf a4=>by
       have G:Ya _ g _ _:=(a4 g).trans s;have q:=G.setk (o+67+k)<|.int .u8 0;have T:(YT _).set (i*83+(67+k)) (.int .u8 0)=YT ((l.set i ⟨true,cl,a.jy,WZ a.jx b.jx k⟩).set i ⟨true,cl,a.jy,WZ a.jx b.jx<|k+1⟩):=
        JP (by simpa using t) X<|Ns l i t▸S.out▸GK ⟨true,cl,a.jy,WZ a.jx b.jx k⟩ k 0 p (KP n.out m.out k X);rw[List.set_set]at T;rw[show o+67+k=i*83+(67+k)by rw[z];omega,T]at q;rw[show o+67+k=i*83+(67+k)by rw[z];omega];exact q
      generalize a.jx.getD k 0=x at*;generalize b.jx.getD k 0=y at*;clear D;go_wp2;go_region;all_goals
       go_wp2;go_roundw;case rel=>exact⟨k+1,X,by go_num,I<|a3 _ λ_=>C,I<|(A.below<|(Ym _ _).drew).other a0 _,I<|Zn (TV B) (.inl C) _⟩
       case measure=>simp[intOf];omega
    .obtain rfl:k=16:=X;have HF:Hid<|Ya wr g (YT<|l.set i<|ZZ a b.jy b.jx) 294:=by rwa [a9.out,<-CG n.out m.out]
     go_wp2;go_end0;exact⟨C,HF,B⟩
  .have b5:∀f:World,(binOp .neq 291 (.agg (VO a).toArray)<|.agg (VO b).toArray).run prog f=.ok (.bool true) f:=λf=>by rw[V.out f];simp[F]
   have a1:Hid<|cl=true:=I<|by rw[M];simp[F]
   have O:Hid<|Ya (W.drew.setCell ⟨g,o+1,none⟩<|.bool true) g (YT<|l.set i ⟨true,cl,a.jy,WZ a.jx b.jx 0⟩) 294:=by
    have q:=(r.below<|(Ym _ _).drew).setk (o+1)<|.bool true;have T:(YT l).set (i*83+1) (.bool true)=YT (l.set i {a with kw:=true}):=JP t N<|H.out▸eG a;rw[show o+1=i*83+1 by rw[z],T]at q;rw[CK,a1,show o+1=i*83+1 by rw[z]];rw[b0]at q;exact q
   have P:Hid<|Ya (W.drew.setCell ⟨g,o+1,none⟩<|.bool true) _ _ _:=I<|(U.below<|(Ym _ _).drew).other a0 _;have Q:Hid<|w.grownBy (W.drew.setCell ⟨g,o+1,none⟩<|.bool true) _:=I<|Zn (TV HW) (.inl C) _;clear M F V;go_upto_region 3 with fail;refine ZW 6 (λu=>u.rangeAt g _ _/\u.rangeAt _ 3 _) Kr ⟨by simpa using b1.out,by simpa using b2.out⟩ λd=>?_;refine Za 0 d (h:=Za 1 d (h:=Za 2 d (h:=?_)));refine Tk (i:=3) C C Kr (λ_ _ _ h=>h) (yieldsIf_load_mid (by rfl) _ _ C g _ C _ _ (λw R=>R.1) underlying291 C b3) d ?rsq3;case rsq3=>
   try simp only[Yt]
   refine Za 4 d (h:=?_);refine Tk (i:=5) C C Kr (λ_ _ _ h=>h) (yieldsIf_load_mid (by rfl) _ _ C _ 3 C _ _ (λw R=>R.2) underlying291 C b4) d ?rsq5;case rsq5=>
   try simp only[Yt]
   refine ZS Kr Kr C Kr λK hK=>?_;go_simp;refine hK _ _ ?_;clear hK K d;go_wp2;go_loopw [23] (λiv wr=>∃k:Nat,k<=16/\iv=E k/\Hid (Ya wr g (YT<|l.set i ⟨true,cl,a.jy,WZ a.jx b.jx k⟩) 294)/\Hid (Ya wr w.heap.size (Xn b) 294)/\Hid (w.grownBy wr<|some g))
    (λiv _=>16-(intOf iv).toNat);case atStart=>exact⟨0,Yr _,C,O,P,Q⟩
   case round=>
    obtain⟨k,hk,rfl,s,A,B⟩:=hrel;clear O P Q;by_cases p:k<16
    .have c8:(k:Int)<16:=X;have s1:wr.cell? ⟨g,o+67+k,none⟩=some (.int .u8<|(a.jx.getD k 0)):=by
      have:=J _ _ Sm s (67+k) X;rw[Ns l i t]at this;rw[show o+67+k=o+(67+k)by omega,this];have q:=GI ⟨true,cl,a.jy,WZ a.jx b.jx k⟩ k p;rw[Tx _ _ X]at q;rw[q,show(⟨true,cl,a.jy,WZ _ _ k⟩:Ah).jx=WZ _ _ k from C,Fy n m k p]
     have s2:=YW.slot A k p;have fz:=s.frozen<|o+67+k;by_cases D:a.jx.getD k 0=b.jx.getD k 0
     .have S:=I<|CI n m k p D;have a2:((((a.jx.getD k 0))) !=(((b.jx.getD k 0):Int)))=false:=by rw[D];simp
      generalize a.jx.getD k 0=x at*;generalize b.jx.getD k 0=y at*;clear D;go_wp2;go_region;all_goals
       go_wp2;go_roundw;case rel=>exact⟨k+1,X,by go_num,I<|S.out▸s.below ((Ym _ _).drew),I<|A.below<|(Ym _ _).drew,I<|TV B⟩
       case measure=>simp[intOf];omega
     .have S:=I<|CH n m k p D;have a2:((((a.jx.getD k 0))) !=(((b.jx.getD k 0):Int)))=true:=by rw[Vg];omega
      have a3:Hid<|∀f:World,(∀j,f.heap[j]?=wr.heap[j]?)->Ya (f.setCell ⟨g,o+67+k,none⟩ _) g _ _:=I λf a4=>by
       have G:Ya _ g _ _:=(a4 g).trans s;have q:=G.setk (o+67+k)<|.int .u8 0;have T:(YT _).set (i*83+(67+k)) (.int .u8 0)=YT ((l.set i ⟨true,cl,a.jy,WZ a.jx b.jx k⟩).set i ⟨true,cl,a.jy,WZ a.jx b.jx<|k+1⟩):=
        JP (by simpa using t) X<|Ns l i t▸S.out▸GK ⟨true,cl,a.jy,WZ a.jx b.jx k⟩ k 0 p (KP n.out m.out k X);rw[List.set_set]at T;rw[show o+67+k=i*83+(67+k)by rw[z];omega,T]at q;rw[show o+67+k=i*83+(67+k)by rw[z];omega];exact q
      generalize a.jx.getD k 0=x at*;generalize b.jx.getD k 0=y at*;clear D;go_wp2;go_region;all_goals
       go_wp2;go_roundw;case rel=>exact⟨k+1,X,by go_num,I<|a3 _ λ_=>C,I<|(A.below<|(Ym _ _).drew).other a0 _,I<|Zn (TV B) (.inl C) _⟩
       case measure=>simp[intOf];omega
    .obtain rfl:k=16:=X;have HF:Hid<|Ya wr g (YT<|l.set i<|ZZ a b.jy b.jx) 294:=by rwa [a9.out,<-CG n.out m.out]
     go_wp2;go_end0;exact⟨C,HF,B⟩
theorem mB(n:Nat):(madeCells (Xn Ys).toArray<|n*83).toList=YT (List.replicate n Ys):=by
 refine GM (by simp[madeCells];omega) λt a=>?_;rw[Ie]at a;have c:(madeCells (Xn Ys).toArray<|n*83).toList[t]?=some ((Xn Ys).toArray[t%(Xn Ys).toArray.size]!):=by
  unfold madeCells;rw[Array.toList_map,Vt,Array.toList_range,J5 X];rfl
 rw[c,Oi,Ux];have d:=Tx Ys (t%83) X;have e:(List.replicate n Ys).getD (t/83) Ys=Ys:=by
  rw[Y0,O3];split<;>rfl
 rw[e];congr 1;rw[getElem!_def];have:(Xn _).toArray[t%83]?=some _:=If▸d;rw[this]
theorem iF(a b:Ah):OS (Xn a) 0 (Xn b)=Xn b:=by
 refine LU (by rw[A9,Ux]) λi c=>?_;rw[A8 _ _ _ _<|by rw[Ux,Ux];omega,Ye<|by rw[Ux];omega,Nat.sub_zero,Tx b i c]
theorem IU:X4 Ys:=⟨N,(λk a=>(by cases a)),C⟩
theorem De:X4 ⟨true,false,[],List.replicate 16 0⟩:=⟨N,(λk a=>(by cases a)),C⟩
theorem lF(n:Nat):∀a∈Po n,X4 a:=by
 intro a c;rcases X0.1 c with rfl|c
 .exact De
 .rw[(Kl.1 c).2];exact IU
theorem ND{k:Nat}(c:k≠0)(f:st.length<=64)(d:∀k∈st,k≠0)(e:sl.length=16)(h:Z4 k st sl=some (st',sl')):st'.length<=64/\(∀k∈st',k≠0)/\sl'.length=16:=by
 unfold Z4 at h;split at h
 .cases h
 .injection h with h;injection h with e1 e2;subst e1;subst e2;exact⟨by rw[Y1];omega,λx a=>by
  rcases X0.1 a with rfl|a
  .exact c
  .exact d x a,e⟩
theorem zh{c:Yb}{x:Nat×Nat}(m:Zy c i x=true)(f:st.length<=64)(d:∀k∈st,k≠0)(a:sl.length=16)(h:Zr c x st sl=some (st',sl')):st'.length<=64/\(∀k∈st',k≠0)/\sl'.length=16:=by
 obtain⟨op,arg⟩:=x;have tl:∀{k:Nat}{r:List _},st=k::r->r.length<=64/\(∀k∈r,k≠0):=λ{k r} e=>by
  subst e;exact⟨by rw[Y1]at f;omega,λy n=>d y<|Vf _ n⟩
 unfold Zr at h;simp only at h;split at h
 .exact ND N f d a h
 .have g:arg<c.jw.length:=by simpa [Zy]using m
  refine ND ?_ f d a h;rw[List.getElem?_eq_getElem g];show VF _≠0;unfold VF;split<;>decide
 .split at h
  .rename_i k r;obtain⟨t1,t2⟩:=tl C;split at h
   .exact ND N t1 t2 a h
   .cases h
  .cases h
 .split at h
  .rename_i y k r;split at h
   .rename_i j;have j:=j;rw[Vu]at j;have l:=d k Sm;exact ND X (by simp only[Y1]at f;omega) (λz o=>d z<|by simp[o]) a h
   .cases h
  .cases h
 .split at h
  .rename_i k r;obtain⟨t1,t2⟩:=tl C;split at h
   .exact ND (d k Sm) t1 t2 a h
   .cases h
  .cases h
 .injection h with h;injection h with e1 e2;subst e1;subst e2;exact⟨f,d,a⟩
 .split at h
  .rename_i k r;obtain⟨t1,t2⟩:=tl C;injection h with h;injection h with e1 e2;subst e1;subst e2;exact⟨t1,t2,a⟩
  .cases h
 .split at h
  .rename_i k r;obtain⟨t1,t2⟩:=tl C;injection h with h;injection h with e1 e2;subst e1;subst e2;exact⟨t1,t2,by rwa [Qw]⟩
  .cases h
 .split at h
  .cases h
  .rename_i l;exact ND l f d a h
 .split at h
  .rename_i k r;obtain⟨t1,t2⟩:=tl C;split at h
   .exact ND N t1 t2 a h
   .cases h
  .cases h
theorem CE(c:X4 a)(e:st.length<=64)(f:∀k∈st,k≠0)(d:sl.length=16):X4<|ZZ a st sl:=by
 unfold ZZ;split
 .exact⟨c.ln,c.kd,Mk c.sl d⟩
 .exact⟨e,f,d⟩
theorem iI (c:∀x∈l,X4 x)(d:X4 a)(i:Nat):∀x∈l.set i a,X4 x:=λx e=>by
 rcases NU e with h|h
 .exact c x h
 .rw[h];exact d
theorem Mo(c:∀x∈l,X4 x)(i:Nat):X4<|l.getD i Ys:=by
 rw[Y0];cases h:l[i]? with
 |none=>exact IU
 |some a=>exact c a<|QY h
theorem pV(a:Ah):Ro a=(!a.kw&&(decide (a.jy.length=1)&&ZO (a.jy.reverse.getD 0 0))):=by
 unfold Ro;congr 1;cases e:a.jy with
 |nil=>rfl
 |cons k r=>
  cases r with
  |nil=>
   unfold ZO;by_cases c:k=1
   .subst c;rfl
   .by_cases d:k=2
    .subst d;rfl
    .simp[c,d]
  |cons k2 r2=>simp
theorem pW(i:Nat)(l:List Ah)(f:i<l.length)(h:Ya w g (YT l) 294):
 CP 125 #[.pointer<|some ⟨g,i*83,none⟩] w λe u=>e=.returned (.bool<|Ro<|l.getD i Ys)/\u=w:=by
 have c:∀j,j<83->w.cell? _=some _:=λj p=>by rw[h.cell,LV l i j f p]
 generalize l.getD i Ys=a at*;have c1:w.cell? _=some (.bool _):=c 1 N;have c2:w.cell? _=some (.int _ _):=c 2 N;have c3:w.cell? _=some (.int _<|(a.jy.reverse.getD 0 0)):=c 3 N;have q:=I<|pV a;generalize i*83=o at*;generalize a.jy.reverse.getD 0 0=k at*;generalize a.jy.length=n at*;rw[q];clear c h f;cases d:a.kw with
 |true=>
  rw[d]at c1;go_enter func125,ntmps125;go_wp2;go_ret;exact⟨C,C⟩
 |false=>
  rw[d]at c1;by_cases m:n=1
  .subst m;go_enter func125,ntmps125;go_wp2_with(go_at_call 162;refine(OC k _).mono ?_;rintro e r ⟨rfl,rfl⟩);go_ret;exact⟨VY Sm,C⟩
  .have s:((n:Int)==1)=false:=by rw[YB];omega
   go_enter func125,ntmps125;go_wp2;go_ret;exact⟨VY<|by simp[m],C⟩
theorem Tryz.infoState:(Tryz.prog.info? 294).map (λi=>(i.zero,i.size,i.bytes))=some (some<|.agg (Xn Ys).toArray,83,96):=Kr
