/- Parts. -/
import Derived.Test.YtmfnolgpaoldpaaGreatDoorX14
set_option linter.all false
set_option maxRecDepth 100000
set_option maxHeartbeats 16000000
namespace Go.Proofs.YtmfnolgpaoldpaaGreatDoor
open Go.RowKit LS Go.Proofs.Tryz
open Go renaming World->Y,Value->F
open Go.RowKit renaming Hid->U
variable {d nm s tx:BA}{lv sv v:F}{ns:List BA}{c xs:List F}{l:List Xc}{es:List Yn}{qs:List<|BA×BA}{rs:List<|F×F×F×F}{ps:List<|LB}{a b base n sn sz:Nat}{w w':Y}
theorem Bw(s:BA)(m:Int)(w:Y)(g:s.size<=6000)(h:w.cell? ⟨14,0,none⟩=some (E m)):
 CP 131 #[.string s] w λe u=>∃(a:Option Addr)(n cap:Nat)(ok:Bool),e=.returned (.tuple #[.slice a n cap,.bool ok])/\
  U (ok=(Wp<|bl s).isSome/\(ok=true->∃qs,TP u 0 (.slice a n cap) n qs/\Wp (bl s)=some (qs.map Xt)))/\BW w u:=by
 cases c:s.toList.isEmpty
 .have d:=OI c;have i:Wp (bl s)=Wf [] [] (split 44<|bl s):=by unfold Wp;rw[Yd d]
  rw[i];exact kS s m w g h c
 .have f:U<|Wp (bl s)=some []:=by rw[Pm c];rfl
  go_enter func131,ntmps131;go_wp2;go_ret2;exact⟨none,0,0,true,C,⟨by rw[f];rfl,λ_=>⟨[],⟨Xm _ _ _ _,X,λp j=>(by cases j)⟩,f⟩⟩,Ym _ _⟩
theorem kQ(m:Int)(d:s.size<=6000)(f:w.cell? ⟨14,0,none⟩=some (E m))(h:(Wp<|bl s).isSome=false):
 CP 131 #[.string s] w λe u=>∃(a:Option Addr)(n cap:Nat),e=.returned (.tuple #[.slice a n cap,.bool false])/\BW w u:=by
 refine(Bw s m w d f).m ?_;rintro e u ⟨a,n,cap,ok,rfl,c,g⟩;exact⟨a,n,cap,by rw[c.1,h],g⟩
theorem kR(m:Int)(d:s.size<=6000)(f:w.cell? ⟨14,0,none⟩=some (E m))(h:(Wp<|bl s).isSome=true):
 CP 131 #[.string s] w λe u=>∃(a:Option Addr)(n cap:Nat)(qs:List<|BA×BA),e=.returned (.tuple #[.slice a n cap,.bool true])/\U (TP u 0 (.slice a n cap) n qs/\Wp (bl s)=some (qs.map Xt))/\BW w u:=by
 refine(Bw s m w d f).m ?_;rintro e u ⟨a,n,cap,ok,rfl,c,g⟩;have e:ok=true:=by rw[c.1,h]
 subst e;obtain⟨qs,i,j⟩:=c.2 C;exact⟨a,n,cap,qs,C,⟨i,j⟩,g⟩
theorem NM{a:Y}{x y z u:F}{t:TypeId}(c:Below (w.heap.size+1) (w.alloc<|.cells #[x,y,z,u] t) a):
 a.cell? ⟨w.heap.size,0,none⟩=some x/\a.cell? ⟨w.heap.size,1,none⟩=some y/\a.cell? ⟨w.heap.size,2,none⟩=some z/\a.cell? ⟨w.heap.size,3,none⟩=some u/\
 a.frozen? ⟨w.heap.size,0,none⟩=false/\a.frozen? ⟨w.heap.size,1,none⟩=false/\a.frozen? ⟨w.heap.size,2,none⟩=false/\a.frozen? ⟨w.heap.size,3,none⟩=false:=by
 have h:=(c.block _ X).trans YO;refine⟨?_,?_,?_,?_,?_,?_,?_,?_⟩<;>simp[World.cell?,World.frozen?,h]
theorem gd(m:Int)(d:s.size<=6000)(f:w.cell? ⟨14,0,none⟩=some (E m))(h:VI (bl s)=none):
 CP 132 #[.string s] w λe u=>∃sv:F,e=.returned (.tuple #[sv,.bool false])/\BW w u:=by
 refine(By s m w d f).m ?_;rintro e u ⟨sv,ok,rfl,c,g⟩;rcases c.o with⟨_,_,_,_,_,a,_⟩|⟨a,_⟩
 .rw[h]at a;cases a
 .exact⟨sv,by rw[a],g⟩
theorem gf(m:Int)(g:s.size<=6000)(i:w.cell? ⟨14,0,none⟩=some (E m))(h:VI (bl s)=some n):
 CP 132 #[.string s] w λe u=>∃a cap,e=.returned (.tuple #[.slice a n cap,.bool true])/\U (u.ownsRow w.heap.size 315 2 (.slice a n cap) n<|ZQ<|Qc<|bl s)/\BW w u:=by
 refine(By s m w g i).m ?_;rintro e u ⟨sv,ok,rfl,d,j⟩;rcases d.o with⟨k,a,n',cap,f,c,l⟩|⟨_,c⟩
 .rw[h]at c;obtain rfl:=Ub c;exact⟨a,cap,by rw[k,f],by rwa [<-f],j⟩
 .rw[h]at c;cases c
def SL(w:Y)(l:LB)(nm:BA)(lv:F)(tx:BA)(sv:F)(sn:Nat):Prop:=∃(inside:LB)(qs:List<|BA×BA),Y3 l=some (bl nm,inside,sn)/\Wp inside=some (qs.map Xt)/\TP w 0 lv qs.length qs/\bl tx=Wv qs/\w.ownsRow 0 315 2 sv sn (ZQ<|Uw l)
theorem SL.below{l:LB}(h:SL w l nm lv tx sv sn)(a:BW w w'):SL w' l nm lv tx sv sn:=by
 obtain⟨i,qs,c,d,e,f,g⟩:=h;exact⟨i,qs,c,d,e.below a,f,Ze g a⟩
theorem SL.other{l:LB}(h:SL w l nm lv tx sv sn){c:Array F}{fr:Nat×Nat}(g:w.heap[a]?=some (.cells c 201 fr))(k:∀j,j≠a->w'.heap[j]?=w.heap[j]?):SL w' l nm lv tx sv sn:=by
 obtain⟨i,qs,n,o,d,p,m⟩:=h;exact⟨i,qs,n,o,⟨Lz d.1 λj f=>k j λe=>ZD d.1 g N<|by rw[f,e],d.2⟩,p,Lz m λj f=>k j λe=>ZD m g N<|by rw[f,e]⟩
def N9(w:Y)(l:LB)(nm:BA)(lv:F)(tx:BA)(sv:F)(sn:Nat)(ok:Bool):Prop:=(ok=true/\SL w l nm lv tx sv sn)\/(ok=false/\Y3 l=none)
theorem rR{m:Int}{B:Nat}(a:w.cell? ⟨14,0,none⟩=some (E m))(c:Below B w w')(d:14<B):w'.cell? ⟨14,0,none⟩=some (E m):=
 (c.cell d).trans a
theorem gh(m:Int)(Z:s.size<=6000)(hm:w.cell? ⟨14,0,none⟩=some (E m)):
 CP 88 #[.string s] w λe u=>∃(nm:BA)(a:Option Addr)(n cap:Nat)(tx:BA)(sa:Option Addr)(sn sc:Nat)(ok:Bool),e=.returned (.tuple #[.agg #[.string nm,.slice a n cap,.string tx,.slice sa sn sc],.bool ok])/\
  U (N9 u (bl s) nm (.slice a n cap) tx (.slice sa sn sc) sn ok)/\BW w u:=by
 have a7:=Xi _ _ hm;have H:∀o,(w.alloc o).cell? _=some _:=λo=>TM _ _ _ a7▸hm;have k:∀o (j:Nat),((w.alloc o).drewN j).cell? _=some _:=λo j=>H o;cases O:cut 123 (bl s)with
 |none=>
  have l:U<|∀W nm lv tx sv,N9 W _ nm lv tx sv 0 _:=I λ_ _ _ _ _=>.inr ⟨C,Ly O⟩;have J:=I O;clear O;go_enter func88,ntmps88;go_wp2_with fail;refine(Mm m _ Z (H _) J).m ?_;rintro e u ⟨a,b,rfl,c,j,rfl⟩;have t:b.size<=6000:=by rw[ZE c.2];simp
  go_wp2_with fail;refine(Mm m _ t (k _ _)<|by rw[c.2];rfl).m ?_;rintro e u ⟨a2,b2,rfl,d,j2,rfl⟩;go_wp2;exact YQ (v:=.tuple #[.agg #[.string ⟨#[]⟩,S0,.string ⟨#[]⟩,S0],.bool false]) (by simp[results,results88,go_sem]) C ⟨⟨#[]⟩,none,0,0,⟨#[]⟩,none,0,0,false,C,I<|l.o _ _ _ _ _,Yh⟩
 |some p=>
  obtain⟨x,r⟩:=p;have b3:x.length<=s.size/\r.length<=s.size:=by rw[<-Zb,(Rm O).1];simp;omega
  have J:=I O;clear O;cases A:cut 125 r with
  |none=>
   have l:U<|∀W nm lv tx sv,N9 W _ nm lv tx sv 0 _:=I λ_ _ _ _ _=>.inr ⟨C,Mq J A⟩;have a0:=I A;clear A;go_enter func88,ntmps88;go_wp2_with fail;refine(Pe m _ Z (H _) J).m ?_;rintro e u ⟨a,b,rfl,c,j,rfl⟩;have t:b.size<=6000:=by rw[ZE c.2];omega
   go_wp2_with fail;refine(Mm m _ t (k _ _)<|by rwa [c.2]).m ?_;rintro e u ⟨a2,b2,rfl,d,j2,rfl⟩;go_wp2;exact YQ (v:=.tuple #[.agg #[.string ⟨#[]⟩,S0,.string ⟨#[]⟩,S0],.bool false]) (by simp[results,results88,go_sem]) C ⟨⟨#[]⟩,none,0,0,⟨#[]⟩,none,0,0,false,C,I<|l.o _ _ _ _ _,Yh⟩
  |some q=>
   obtain⟨y,z⟩:=q;have b4:y.length<=r.length/\z.length<=r.length:=by rw[(Rm A).1];simp;omega
   have a0:=I A;have g:=Mr J A;clear A;cases P:Zx x
   .have l:U<|∀W nm lv tx sv,N9 W _ nm lv tx sv 0 _:=I λ_ _ _ _ _=>.inr ⟨C,by rw[g,P];rfl⟩;have HN:=I P;clear P g;go_enter func88,ntmps88;go_wp2_with fail;refine(Pe m _ Z (H _) J).m ?_;rintro e u ⟨a,b,rfl,c,j,rfl⟩;have Q:a.size<=6000:=by rw[ZE c.1];omega
    have t:b.size<=6000:=by rw[ZE c.2];omega
    go_wp2_with fail;refine(Pe m _ t (k _ _)<|by rwa [c.2]).m ?_;rintro e u ⟨a2,b2,rfl,d,j2,rfl⟩;go_wp2_with fail;refine(Jn (b:=false) Q<|by rwa [c.1]).m ?_;rintro e u ⟨rfl,rfl⟩;go_wp2;exact YQ (v:=.tuple #[.agg #[.string ⟨#[]⟩,S0,.string ⟨#[]⟩,S0],.bool false]) (by simp[results,results88,go_sem]) C ⟨⟨#[]⟩,none,0,0,⟨#[]⟩,none,0,0,false,C,I<|l.o _ _ _ _ _,Yh⟩
   .have HN:=I P;rw[P]at g;clear P;go_enter func88,ntmps88;have i:=I g;clear g;go_wp2_with fail;refine(Pe m _ Z (H _) J).m ?_;rintro e u ⟨a,b,rfl,c,j,rfl⟩;have Q:a.size<=6000:=by rw[ZE c.1];omega
    have t:b.size<=6000:=by rw[ZE c.2];omega
    go_wp2_with fail;refine(Pe m _ t (k _ _)<|by rwa [c.2]).m ?_;rintro e u ⟨a2,b2,rfl,d,j2,rfl⟩;have R:a2.size<=6000:=by rw[ZE d.1];omega
    have S:b2.size<=6000:=by rw[ZE d.2];omega
    go_wp2_with fail;refine(Jn (b:=true) Q<|by rwa [c.1]).m ?_;rintro e u ⟨rfl,rfl⟩;cases D:(Wp y).isSome
    .have l:U<|∀W nm lv tx sv,N9 W _ nm lv tx sv 0 _:=I λ_ _ _ _ _=>.inr ⟨C,by rw[i,D];rfl⟩;have HL:=I D;clear D;go_wp2_with fail;refine(kQ m R (k _ _)<|by rwa [d.1]).m ?_;rintro e w3 ⟨la,ln,lc,rfl,B⟩;have f:Below (w.heap.size+1) (w.alloc<|.cells _ 201) _:=(Gn B).mono<|Sm;have K:=((Ym _ w).alloc (Yj _) _).trans<|f.mono X;obtain⟨k0,k1,k2,k3,g0,g1,g2,g3⟩:=NM f;clear B f;go_wp2;exact YQ (v:=.tuple #[.agg #[.string ⟨#[]⟩,S0,.string ⟨#[]⟩,S0],.bool false]) (by simp[results,results88,go_sem,k0,k1,k2,k3]) C ⟨⟨#[]⟩,none,0,0,⟨#[]⟩,none,0,0,false,C,I<|l.o _ _ _ _ _,Yh⟩
    .have HL:=I D;rw[D]at i;clear D;go_wp2_with fail;refine(kR m R (k _ _)<|by rwa [d.1]).m ?_;rintro e w3 ⟨la,ln,lc,qs,rfl,HQ,B⟩;have T:w.heap.size+1<=w3.heap.size:=by have:=B.size;simp at this;omega
     have a1:=rR (k _ _) B<|by simp;omega
     have f:Below (w.heap.size+1) (w.alloc<|.cells _ 201) _:=(Gn B).mono<|Sm;have K:=((Ym _ w).alloc (Yj _) _).trans<|f.mono X;clear B;cases G:VI z with
     |none=>
      have l:U<|∀W nm lv tx sv,N9 W _ nm lv tx sv 0 _:=I λ_ _ _ _ _=>.inr ⟨C,by rw[i,G];rfl⟩;have HM:=I G;clear G;go_wp2_with fail;refine(gd m S a1<|by rwa [d.2]).m ?_;rintro e w4 ⟨sv,rfl,h⟩;obtain⟨k0,k1,k2,k3,g0,g1,g2,g3⟩:=NM<|f.trans<|h.mono T;have V:=K.trans<|h.mono X;clear f h K;go_wp2;exact YQ (v:=.tuple #[.agg #[.string ⟨#[]⟩,S0,.string ⟨#[]⟩,S0],.bool false]) (by simp[results,results88,go_sem,k0,k1,k2,k3]) C ⟨⟨#[]⟩,none,0,0,⟨#[]⟩,none,0,0,false,C,I<|l.o _ _ _ _ _,Yh⟩
     |some n=>
      have l:U<|Y3 (bl s)=some (x,y,n):=by rw[i,G];rfl
      have a8:=I<|Bi HN J a0;have HM:=I G;clear G;go_wp2_with fail;refine(gf m S a1<|by rwa [d.2]).m ?_;rintro e w4 ⟨sa,sc,rfl,a9,h⟩;have a3:=I<|TP.below HQ.1 h;have M:=f.trans<|h.mono T;have a4:=Xb T h.size;have V:=K.trans<|h.mono X;clear f h K;go_wp2_with fail;refine(BZ a3).m ?_;rintro e w5 ⟨oa,oc,rfl,a5,L⟩;have a6:qs.length=ln:=by have:=a3.1.1;rw[Jc]at this;omega
      have b0:U<|SL w5 _ a (.slice oa ln oc) _ _ n:=I ⟨y,qs,by rw[l,c.1],d.1▸HQ.2,a6▸a5,U9 _,a8.o▸d.2▸Ze (GO a9.o) L⟩;clear a6;obtain⟨k0,k1,k2,k3,g0,g1,g2,g3⟩:=NM<|M.trans<|L.mono a4;have b1:=I<|((M.trans<|L.mono a4).block _ X).trans YO;have b5:=V.trans<|L.mono X;clear M L a5 V;go_wp2;exact YQ (v:=.tuple #[.agg #[.string a,.slice oa ln oc,.string ⟨(Wv qs).toArray⟩,.slice sa n sc],.bool true]) (by simp[results,results88,go_sem,k0,k1,k2,k3]) C ⟨a,oa,ln,oc,_,sa,n,sc,true,C,I<|Or.inl ⟨C,b0.other b1.o λj hj=>by first|rfl|(repeat rw[Go.Deep.blk_setCell_other _ _ _ _<|by exact hj])⟩,Yh⟩
theorem EA{i:Int}{what:F}:
 CP 89 #[E i,.iface 469 what] w λe u=>e=.returned (.iface 92<|Vp w.heap.size)/\u=w.alloc (.cells #[.string ⟨#[108,105,110,101]⟩,E i,.iface 469 what] 96):=by
 go_enter func89,ntmps89;go_wp2;go_ret;exact⟨C,C⟩
theorem Tryz.infoSeries:(Tryz.prog.info? 201).map (λi=>(i.zero,i.size,i.bytes))=some (some<|.agg #[.string ByteArray.empty,S0,.string ByteArray.empty,S0],4,80):=Kr
theorem td{W:Y}{u x z:F}(d:W.cell? ⟨a,0,none⟩=some u)(e:W.cell? ⟨a,1,none⟩=some v)(f:W.cell? ⟨a,2,none⟩=some x)(g:W.cell? ⟨a,3,none⟩=some z):∀j y,[u,v,x,z][j]?=some y->W.cell? ((⟨a,0,none⟩:Addr).add j)=some y:=by
 intro j y c;rw[QI];match j,c with
 |0,c=>simp at c;subst c;exact d
 |1,c=>simp at c;subst c;exact e
 |2,c=>simp at c;subst c;exact f
 |3,c=>simp at c;subst c;exact g
def TS:List (F×F×F)->List F
 |[]=>[]
 |r::rs=>r.1::r.2.1::r.2.2::TS rs
theorem su(a b:List<|F×F×F):TS (a++b)=TS a++TS b:=by
 induction a with
 |nil=>rfl
 |cons r a ih=>simp[TS,ih]
theorem Do(rs:List<|F×F×F)(j:Nat):(TS rs)[j*3]?=rs[j]?.map (·.1)/\(TS rs)[j*3+1]?=rs[j]?.map (·.2.1)/\(TS rs)[j*3+2]?=rs[j]?.map (·.2.2):=by
 induction rs generalizing j with
 |nil=>simp[TS]
 |cons r rs ih=>
  cases j with
  |zero=>simp[TS]
  |succ j=>
   obtain⟨a,c,d⟩:=ih j;refine⟨?_,?_,?_⟩
   .rw[show(j+1)*3=j*3+1+1+1 by omega];simpa [TS]using a
   .rw[show(j+1)*3+1=j*3+1+1+1+1 by omega];simpa [TS]using c
   .rw[show(j+1)*3+2=j*3+2+1+1+1 by omega];simpa [TS]using d
def Uh:List (F×F×F×F)->List F
 |[]=>[]
 |r::rs=>r.1::r.2.1::r.2.2.1::r.2.2.2::Uh rs
theorem sw(a b:List<|F×F×F×F):Uh (a++b)=Uh a++Uh b:=by
 induction a with
 |nil=>rfl
 |cons r a ih=>simp[Uh,ih]
theorem sA(rs:List<|F×F×F×F)(j:Nat):(Uh rs)[j*4]?=rs[j]?.map (·.1)/\(Uh rs)[j*4+1]?=rs[j]?.map (·.2.1)/\(Uh rs)[j*4+2]?=rs[j]?.map (·.2.2.1)/\(Uh rs)[j*4+3]?=rs[j]?.map (·.2.2.2):=by
 induction rs generalizing j with
 |nil=>simp[Uh]
 |cons r rs ih=>
  cases j with
  |zero=>simp[Uh]
  |succ j=>
   obtain⟨a,c,d,e⟩:=ih j;refine⟨?_,?_,?_,?_⟩
   .rw[show(j+1)*4=j*4+1+1+1+1 by omega];simpa [Uh]using a
   .rw[show(j+1)*4+1=j*4+1+1+1+1+1 by omega];simpa [Uh]using c
   .rw[show(j+1)*4+2=j*4+2+1+1+1+1 by omega];simpa [Uh]using d
   .rw[show(j+1)*4+3=j*4+3+1+1+1+1 by omega];simpa [Uh]using e
def PN(rs:List<|F×F×F×F)(es:List Yn):Prop:=rs.length=es.length/\∀j (h:j<es.length),∃nm a n c tx sa sc,rs[j]?=some (.string nm,.slice a n c,.string tx,.slice sa (es[j]).count sc)
theorem PN.snoc(h:PN rs es)(x:Yn)(nm:BA)(a:Option Addr)(n c:Nat)(tx:BA)(sa:Option Addr)(sc:Nat):
 PN (rs++[(.string nm,.slice a n c,.string tx,.slice sa x.count sc)])<|es++[x]:=by
 refine⟨by simp[h.1],λj g=>?_⟩;by_cases d:j<es.length
 .obtain⟨nm',a',n',c',tx',sa',sc',e⟩:=h.2 j d;exact⟨nm',a',n',c',tx',sa',sc',by rw[PA<|h.1▸d,e,List.getElem_append_left _]⟩
 .have f:j=es.length:=by simp at g;omega
  subst f;refine⟨nm,a,n,c,tx,sa,sc,?_⟩;rw[Rg<|h.1▸Yj _,h.1];simp
theorem SL.grown{l:LB}(h:SL w l nm lv tx sv sn){e:TypeId}{s:Nat}(a:w.grownBy w' v.ownBlock)(c:w.ownsRow b e s v n xs)(d:340≠e)(f:315≠e):SL w' l nm lv tx sv sn:=by
 obtain⟨i,qs,e1,e2,e3,e4,e5⟩:=h;exact⟨i,qs,e1,e2,⟨e3.1.kept a<|QD e3.1 c d,e3.2⟩,e4,e5.kept a<|QD e5 c f⟩
def WQ(w:Y)(rs:List<|F×F×F×F)(es:List Yn)(ps:List<|LB):Prop:=∀j (h:j<es.length),∃(nm:BA)(a:Option Addr)(n c:Nat)(tx:BA)(sa:Option Addr)(sc:Nat),rs[j]?=some (.string nm,.slice a n c,.string tx,.slice sa (es[j]).count sc)/\SL w (ps.getD (es[j]).at_ []) nm (.slice a n c) tx (.slice sa (es[j]).count sc) (es[j]).count/\Y3 (ps.getD (es[j]).at_ [])=some ((es[j]).name,(es[j]).inside,(es[j]).count)
theorem WQ.below (h:WQ w rs es ps)(d:BW w w'):WQ w' rs es ps:=λj e=>by
 obtain⟨nm,a,n,c,tx,sa,sc,e1,e2,e3⟩:=h j e;exact⟨nm,a,n,c,tx,sa,sc,e1,e2.below d,e3⟩
theorem WQ.grown (h:WQ w rs es ps){e:TypeId}{s:Nat}(d:w.grownBy w' v.ownBlock)(f:w.ownsRow b e s v n xs)(g:340≠e)(i:315≠e):WQ w' rs es ps:=λj k=>by
 obtain⟨nm,a,n,c,tx,sa,sc,e1,e2,e3⟩:=h j k;exact⟨nm,a,n,c,tx,sa,sc,e1,e2.grown d f g i,e3⟩
theorem WQ.snoc(e:rs.length=es.length)(h:WQ w rs es ps)(z:Yn)(nm:BA)(a:Option Addr)(n c:Nat)(tx:BA)(sa:Option Addr)(sc:Nat)
 (g:SL w (ps.getD z.at_ []) nm (.slice a n c) tx (.slice sa z.count sc) z.count)(i:Y3 (ps.getD z.at_ [])=some (z.name,z.inside,z.count)):WQ w (rs++[(.string nm,.slice a n c,.string tx,.slice sa z.count sc)]) (es++[z]) ps:=λj k=>by
 by_cases d:j<es.length
 .obtain⟨nm',a',n',c',tx',sa',sc',e1,e2⟩:=h j d;refine⟨nm',a',n',c',tx',sa',sc',?_⟩;rw[PA<|e▸d,List.getElem_append_left d];exact⟨e1,e2⟩
 .have f:j=es.length:=by simp at k;omega
  subst f;refine⟨nm,a,n,c,tx,sa,sc,?_⟩;rw[Rg<|e▸Yj _,e];simp only[Kz,Qo,List.getElem_append_right<|Yj _,List.getElem_cons_zero];exact⟨trivial,g,i⟩
theorem kT{g:Nat}(n:Nat)(A:Nat->Addr)(m:Int)(hn:U<|n=ps.length)(b1:n<=6001)(a0:U<|∀i,i<ps.length->(ps.getD i []).length<=6000)(H:Nl w g ps)(hv:YD w A m):
 CP 42 #[.slice (some ⟨g,0,none⟩) n n] w λe J=>BW w J/\
  ((∃(i:Nat)(fa:Nat),e=.returned (.tuple #[S0,.iface 92<|Vp fa])/\J.heap[fa]?=some (.cells #[.string ⟨#[108,105,110,101]⟩,E i,.iface 469<|.pointer<|some<|A 4] 96 (0,0))/\U (ZT 0 [] ps=.inl i))\/
   (∃(v:F)(es:List Yn)(rs:List<|F×F×F×F),e=.returned (.tuple #[v,.nilIface])/\J.ownsRow 0 201 4 v es.length (Uh rs)/\U (PN rs es/\ZT 0 [] ps=.inr es)/\U (WQ J rs es ps))):=by
 obtain⟨i0,hi,a1,a2,a3⟩:=Xv Tryz.infoSeries;have a4:=H.1;go_enter func42,ntmps42;go_wp2;go_loopw [4,11] (λv i wr=>∃(k:Nat)(es:List Yn)(rs:List<|F×F×F×F),k<=n/\i=E k/\es.length<=k/\wr.ownsRow w.heap.size 201 4 v es.length (Uh rs)/\U (PN rs es/\ZT 0 [] ps=ZT k es (ps.drop k))/\U (WQ wr rs es ps)/\BW w wr)
  (λ_ i _=>n-(intOf i).toNat);case atStart=>exact⟨0,[],[],Yr _,C,Yr _,Xm _ _ _ _,⟨⟨C,λj h=>by simp at h⟩,C⟩,I λj h=>by simp at h,Ym _ _⟩
 case round=>
  obtain⟨k,es,rs,hk,rfl,b2,f,p,K,d⟩:=hrel;have a5:=d.size;have r:=hv.below d;by_cases a6:k<n
  .have s:k<ps.length:=by rwa [<-hn.o]
   obtain⟨sk,b3,L⟩:=(H.below d a4).2 k s;have V:sk.size<=6000:=ZE L▸a0.o k s;have G:=I L;clear L;cases he:sk.toList.isEmpty
   .have P:U<|ps.getD k _≠[]:=G.o▸OI he;have Q:=r.max;have a7:=r.sent 4 N;go_wp2_with fail;refine(gh m V Q).m ?_;rintro e z ⟨nm,la,ln,lc,tx,sa,sn,sc,ok,rfl,x,t⟩;have a9:z.cell? ⟨4,0,none⟩=some _:=(r.below t).sent _ N;have b0:∀o,(z.alloc o).cell? ⟨4,0,none⟩=some _:=λo=>((r.below t).alloc o).sent _ N;have R:=d.trans<|t.mono a5;have b4:=R.size;have c:=Ze f t;clear a7 Q r;cases ok
    .have B:U<|ZT 0 [] ps=.inl k:=by
      rw[p.2];refine Be s P ?_;rw[<-G];rcases x.o with⟨h,_⟩|⟨_,h⟩
      .cases h
      .exact h
     go_wp2_with(go_at_call 89;refine(EA).m ?_;rintro e J ⟨rfl,rfl⟩);go_ret2;refine⟨Yh,.inl ⟨k,z.heap.size+1,C,?_,B⟩⟩;rw[show z.heap.size+1=(z.alloc<|.cells #[.string nm,.slice la ln lc,.string tx,.slice sa sn sc] 201).heap.size by simp];exact J6
    .have S:U<|SL z (bl sk) nm (.slice la ln lc) tx (.slice sa sn sc) sn:=by
      rcases x.o with⟨_,h⟩|⟨h,_⟩
      .exact h
      .cases h
     obtain⟨na,a,T⟩:∃name inside,Y3 _=some (name,inside,sn):=by
      obtain⟨a,qs,h,_⟩:=S.o;exact⟨_,a,h⟩
     have W:U<|WQ z (rs++[(.string nm,.slice la ln lc,.string tx,.slice sa sn sc)]) (es++[⟨k,na,a,sn⟩]) ps:=I<|WQ.snoc p.1.1 (K.below t) ⟨k,na,a,sn⟩ nm la ln lc tx sa sc (by show SL z (ps.getD k []) nm (.slice la ln lc) tx (.slice sa sn sc) sn;rw[<-G];exact S)<|by show Y3 (ps.getD k [])=some (na,a,sn);rw[<-G];exact T
     have B:U<|PN (rs++[(.string nm,.slice la ln lc,.string tx,.slice sa sn sc)]) (es++[⟨k,na,a,sn⟩])/\ZT 0 [] ps=ZT (k+1) (es++[⟨k,na,a,sn⟩]) (ps.drop<|k+1):=
      ⟨p.1.snoc ⟨k,na,a,sn⟩ nm la ln lc tx sa sc,by rw[p.2];exact Bf s P<|by rwa [<-G.o]⟩;clear T x;go_wp2_with(at_builtin;refine XC _ C (.tmp 28) (.tmp 30) 85 C w.heap.size 201 i0 (.agg #[.string ByteArray.empty,S0,.string ByteArray.empty,S0]) 4 80 underlying85 hi a1 a2 a3 C N _ _ _ C ((c.alloc _).alloc _) ⟨z.heap.size+1,0,none⟩ 1 1 [.string nm,.slice la ln lc,.string tx,.slice sa sn sc] C C ?c1 ?c2 ?c3 ?c4 ?c5 ?_);case c1=>exact td (Sm) (Sm) (Sm)<|Sm
     case c2=>intro u hu;simp at hu;rcases hu with rfl|rfl|rfl|rfl<;>rfl
     case c3=>unfold maxLen;omega
     case c4=>omega
     case c5=>simp;omega
     intro v' w3 D l _;have a8:=((R.alloc X _).alloc (by simp;omega) _).grown l (by simp;omega) λq hq=>(c.lt q hq).1;have O:w3.ownsRow w.heap.size 201 4 v' (es++[(⟨k,na,a,sn⟩:Yn)]).length<|Uh<|rs++[(.string nm,.slice la ln lc,.string tx,.slice sa sn sc)]:=by
      rw[sw,Yx];exact D
     have M:∀o o':Obj,Below _ _<|(z.alloc o).alloc o':=λo o'=>Yc.alloc (Sm) _;have Z:U<|WQ w3 (rs++[(.string nm,.slice la ln lc,.string tx,.slice sa sn sc)]) (es++[⟨k,na,a,sn⟩]) ps:=I<|(W.below<|M _ _).grown l ((c.alloc _).alloc _) N N;clear c f l D M;go_wp2;go_roundw;case rel=>exact⟨k+1,_,_,X,by go_num,by simp;omega,O,B,Z,a8⟩
     case measure=>simp[intOf];omega
   .have B:U<|PN _ _/\ZT 0 _ _=ZT _ _ _:=
    ⟨p.1,p.2▸Bg s (by rw[<-G.o];exact Pm he)⟩;go_wp2;go_roundw;case rel=>exact⟨k+1,es,rs,X,by go_num,X,f,B,K,d⟩
    case measure=>simp[intOf];omega
  .have B:U<|PN _ _/\ZT 0 [] ps=.inr es:=⟨p.1,p.2▸Co (by rw[<-hn.o];exact a6)⟩;go_wp2;go_ret2;exact⟨d,.inr ⟨_,es,rs,C,f.mono<|Yr _,B,K⟩⟩
def Vy(es:List Yn)(k:Nat):Nat:=((es.take k).map (·.count)).sum
theorem zh(k:Nat)(h:k<es.length):Vy es (k+1)=Vy es k+(es[k]).count:=by
 unfold Vy;rw[List.take_succ_eq_append_getElem h,Xa,Kt];rfl
theorem zg(es:List Yn)(h:∀e∈es,e.count<=6001)(k:Nat):Vy es k<=6001*k:=by
 induction k with
 |zero=>simp[Vy]
 |succ k ih=>
  by_cases a:k<es.length
  .rw[zh k a];have:=h _<|List.getElem_mem a;omega
  .have:Vy es (k+1)=Vy es k:=by unfold Vy;rw[Wm X,Wm X]
   omega
theorem uB(d:w.ownsRow 0 201 4 v es.length<|Uh rs)(p:U<|PN rs es)(m:U<|∀e∈es,e.count<=6001)(z:es.length<=6001):
 CP 44 #[v] w λe u=>e=.returned (E<|Vy es es.length)/\BW w u:=by
 obtain⟨av,cp,rfl⟩:=Zd d;go_enter func44,ntmps44;go_wp2;go_loopw [3,8] (λc i wr=>∃k:Nat,k<=es.length/\i=E k/\c=E (Vy es k)/\BW w wr) (λ_ i _=>es.length-(intOf i).toNat);case atStart=>exact⟨0,Yr _,C,by simp[Vy],Ym _ _⟩
 case round=>
  obtain⟨k,A,rfl,rfl,f⟩:=hrel;have s:=f.size;have t:=zg _ m k;by_cases l:k<es.length
  .have q:=I<|zh k l;have x:=m _<|List.getElem_mem l;obtain⟨nm,a,n,c,tx,sa,sc,o⟩:=p.2 k l;obtain⟨f1,f2,f3,f4⟩:=sA rs k;rw[o]at f1 f2 f3 f4;have r:∃g,av=some ⟨g,0,none⟩:=by
    obtain⟨g,cp',h⟩:=Zm d X;injection h with h1;exact⟨g,h1⟩
   obtain⟨g,rfl⟩:=r;have j:=ZN d;have c1:wr.cell? _=some (.string _):=(f.cell j).trans<|Zc d _ _ f1;have c2:wr.cell? _=some (.slice a n c):=(f.cell j).trans<|Zc d _ _ f2;have c3:wr.cell? _=some (.string _):=(f.cell j).trans<|Zc d _ _ f3;have c4:wr.cell? _=some (.slice _ _ _):=(f.cell j).trans<|Zc d _ _ f4;generalize(es[k]).count=SF at*;clear o f1 f2 f3 f4;go_wp2;go_roundw;case rel=>exact⟨k+1,X,by go_num,by rw[q];go_num,Yh⟩
   case measure=>simp[intOf];omega
  .obtain rfl:k=es.length:=X;go_wp2;go_ret;exact⟨C,f⟩
theorem Tryz.infoRLabel:(Tryz.prog.info? 175).map (λi=>(i.zero,i.size,i.bytes))=some (some<|.agg #[.string ByteArray.empty,.string ByteArray.empty],2,32):=Kr
def Uu:List (BA×BA)->List F
 |[]=>[]
 |r::rs=>.string r.1::.string r.2::Uu rs
theorem Dn(a b:List<|BA×BA):Uu (a++b)=Uu a++Uu b:=by
 induction a with
 |nil=>rfl
 |cons r a ih=>simp[Uu,ih]
theorem Lr (rs:List<|BA×BA)(j:Nat):(Uu rs)[j*2]?=rs[j]?.map (λr=>.string r.1)/\(Uu rs)[j*2+1]?=rs[j]?.map λr=>.string r.2:=by
 induction rs generalizing j with
 |nil=>simp[Uu]
 |cons r rs ih=>
  cases j with
  |zero=>simp[Uu]
  |succ j=>
   obtain⟨a,c⟩:=ih j;refine⟨?_,?_⟩
   .rw[show(j+1)*2=j*2+1+1 by omega];simpa [Uu]using a
   .rw[show(j+1)*2+1=j*2+1+1+1 by omega];simpa [Uu]using c
def V8(r:BA×BA):LB×LB:=(bl r.1,bl r.2)
theorem GX{b:Bool}(a:s.size<=6000)(h:Zx (bl s)=b):
 CP 69 #[.string s] w λe u=>e=.returned (.bool b)/\u=w:=by
 have:=jc s w a;rwa [h]at this
theorem jf(s:BA)(w:Y)(hs:s.size<=6000)(b5:s.toList.isEmpty=false):
 CP 70 #[.string s] w λe H=>∃(a:Option Addr)(n cap:Nat)(ok:Bool),e=.returned (.tuple #[.slice a n cap,.bool ok])/\
  ((ok=true/\∃qs,H.ownsRow w.heap.size 175 2 (.slice a n cap) qs.length (Uu qs)/\U (Wf [] [] (split 44<|bl s)=some (qs.map V8)))\/(ok=false/\U (Wf [] [] (split 44<|bl s)=none)))/\BW w H:=by
 obtain⟨i0,hi,a3,a4,a5⟩:=Xv Tryz.infoRLabel;go_enter func70,ntmps70;go_wp2_with fail;refine(LJ s 44 C hs).m ?_;rintro e J ⟨g,n,cp,bs,rfl,hn,b6,V,K,A,h⟩;have HN:=I hn;have b7:n<=6001:=by
  have:=Qe 44<|bl s;rw[<-A,Yz,Zb]at this;omega
 clear hn;go_wp2;go_loopw [4,6,7] (λv last i wr=>∃(k:Nat)(ls:BA)(qs:List<|BA×BA),k<=n/\i=E k/\last=.string ls/\qs.length=k/\wr.ownsRow J.heap.size 175 2 v qs.length (Uu qs)/\U (Wf [] [] (split 44<|bl s)=Wf (bl ls) (qs.map V8) ((split 44<|bl s).drop k))/\BW J wr)
  (λ_ _ i _=>n-(intOf i).toNat);case atStart=>exact⟨0,⟨#[]⟩,[],Yr _,C,C,C,Xm _ _ _ _,C,Ym _ _⟩
 case round=>
  obtain⟨k,ls,qs,hk,rfl,rfl,W,c,L,j⟩:=hrel;have HQ:=I W;have b8:qs.length<=6001:=X;clear W;have B:=j.size;by_cases a6:k<n
  .have Z:k<bs.length:=by rwa [<-HN.o]
   have D:k<(split 44<|bl s).length:=by rwa [<-A.o,Yz]
   have a7:=(j.cell V).trans<|K k Z;have M:=I<|Mu A k Z;generalize bs[k]=sk at a7 M;have l:sk.size<=6000:=by rw[ZE M];have:=OV _ _ k D;rw[Zb]at this;omega
   cases m:LS.seek 61 (bl sk)with
   |none=>
    have r:U _:=L.o▸KJ D M.o (C5<|K7 m);have R:=I m;clear m;go_wp2_with fail;refine(OO C l R.o).m ?_;rintro e z ⟨rfl,rfl⟩;go_wp2;go_ret2;exact⟨none,0,0,false,C,.inr ⟨C,r⟩,h.trans<|j.mono h.size⟩
   |some p=>
    have hp:p<sk.size:=by rw[<-Zb];exact NJ m
    have d:=C4 (last:=bl ls)<|Lo m;have R:=I m;clear m;have e1:bl (sk.extract 0 p)=(bl sk).take p:=by rw[WL];simp
    have e2:bl (sk.extract (p+1) sk.size)=(bl sk).drop (p+1):=by rw[WL,Wm<|by rw[Zb];exact Yj _]
    rw[<-e1,<-e2]at d;have a0:(sk.extract 0 p).size<=6000:=by rw[<-Zb,e1,Xw,Zb];omega
    have a1:(sk.extract (p+1) sk.size).size<=6000:=by rw[<-Zb,e2,Ur,Zb];omega
    clear e1 e2;have b9:=KB hp;have c0:p+1<=sk.size:=hp;have c6:(p:Int)+1<=(sk.size):=X;have a2:∀o,(wr.alloc o).cell? ⟨g,k,none⟩=some _:=λo=>by rwa [TM _ _ _<|by exact WH V B]
    have b0:∀o,(wr.alloc o).drew.cell? _=some _:=a2;obtain⟨b1,t⟩:∃b,Zx (bl<|sk.extract 0 p)=b:=⟨_,C⟩;obtain⟨b2,x⟩:∃b,ZY (bl<|sk.extract (p+1) sk.size)=b:=⟨_,C⟩;obtain⟨b3,O⟩:∃b,(bl<|sk.extract (p+1) sk.size).isEmpty=b:=⟨_,C⟩;obtain⟨b4,P⟩:∃b,MI (bl<|sk.extract 0 p) (bl ls)=b:=⟨_,C⟩;rw[t,x,O,P]at d;have f1:=I t;have f2:=I x;have f3:(sk.extract (p+1) sk.size).toList.isEmpty=b3:=by rwa [ZA]
    have f4:(Op.bytesLess (sk.extract 0 p).toList ls.toList||(sk.extract 0 p).toList==ls.toList)=b4:=by rwa [Fh]
    clear t x O P;have f:(b1=true/\b2=true/\b3=false/\b4=false)\/(b1=false\/(b1=true/\b2=false)\/(b1=true/\b2=true/\b3=true)\/(b1=true/\b2=true/\b3=false/\b4=true)):=by
     cases b1<;>cases b2<;>cases b3<;>cases b4<;>simp
    rcases f with⟨rfl,rfl,rfl,rfl⟩|f
    .have r:U<|Wf [] [] (split 44<|bl s)=Wf (bl<|sk.extract 0 p) ((qs++[(sk.extract 0 p,sk.extract (p+1) sk.size)]).map V8) ((split 44<|bl s).drop<|k+1):=by
      rw[L,Xa];exact C6 D M<|by simpa using d
     clear d L;go_wp2_with fail;refine(Qd C l R.o).m ?_;rintro e z ⟨rfl,Q⟩;subst Q;go_wp2;go_region;have a8:Below _ _<|z.alloc<|.cells #[.string<|sk.extract 0 p,.string<|sk.extract (p+1) sk.size] 175:=j.alloc B _;go_wp2_with(first|(go_at_call 69;refine(GX a0 f1.o).m ?_;rintro e H ⟨rfl,rfl⟩)|(go_at_call 109;refine(Jy a1 f2.o).m ?_;rintro e H ⟨rfl,rfl⟩)|(at_builtin;refine XC _ C (.tmp 69) (.tmp 71) 102 C J.heap.size 175 i0 (.agg #[.string ByteArray.empty,.string ByteArray.empty]) 2 32 underlying102 hi a3 a4 a5 C N _ _ _ C (World.ownsRow.drew<|(c.alloc _).alloc _) ⟨z.heap.size+1,0,none⟩ 1 1 [.string<|sk.extract 0 p,.string<|sk.extract (p+1) sk.size] C C ?c1 ?c2 ?c3 ?c4 ?c5 ?_));case c1=>exact PW (by first|simp|exact(Ry _ _ _ _<|Sm).trans C)<|by first|simp|exact(Ry _ _ _ _<|Sm).trans C
     case c2=>intro u hu;simp at hu;rcases hu with rfl|rfl<;>rfl
     case c3=>unfold maxLen;omega
     case c4=>omega
     case c5=>simp;omega
     intro v' w3 S G _;have a9:=(Below.drew<|(j.alloc B _).alloc (by simp;omega) _).grown G (by simp;omega) λq hq=>(c.lt q hq).1;have T:w3.ownsRow J.heap.size 175 2 v' (qs++[(sk.extract 0 p,sk.extract (p+1) sk.size)]).length<|Uu<|qs++[(sk.extract 0 p,sk.extract (p+1) sk.size)]:=by rwa [Dn,Yx]
     clear c G S a8;go_wp2;go_roundw;case rel=>exact⟨k+1,_,_,X,by go_num,C,by rw[Yx,HQ];rfl,T,r,a9⟩
     case measure=>simp[intOf];omega
    .have r:U<|Wf [] [] (split 44<|bl s)=none:=by
      rw[L];refine KJ D M ?_;rw[d];rcases f with rfl|⟨rfl,rfl⟩|⟨rfl,rfl,rfl⟩|⟨rfl,rfl,rfl,rfl⟩<;>simp
     clear d;go_wp2_with fail;refine(Qd C l R.o).m ?_;rintro e z ⟨rfl,Q⟩;subst Q;go_wp2;go_region;rcases f with rfl|⟨rfl,rfl⟩|⟨rfl,rfl,rfl⟩|⟨rfl,rfl,rfl,rfl⟩;all_goals
      go_wp2_with(first|(go_at_call 69;refine(GX a0 f1.o).m ?_;rintro e H ⟨rfl,rfl⟩)|(go_at_call 109;refine(Jy a1 f2.o).m ?_;rintro e H ⟨rfl,rfl⟩));go_ret2;exact⟨none,0,0,false,C,.inr ⟨C,r⟩,h.trans<|(Below.drew<|j.alloc B _).mono h.size⟩
  .have r:U _:=L.o▸C7 (by rw[<-A.o,Yz,<-HN.o];exact a6);obtain⟨av,cp,hv⟩:=Zd c;rw[hv]at c⊢;go_wp2;go_ret2;exact⟨_,_,_,true,C,.inl ⟨C,qs,c.mono h.size,r⟩,h.trans<|j.mono h.size⟩
theorem Tryz.infoRSample:(Tryz.prog.info? 179).map (λi=>(i.zero,i.size,i.bytes))=some (some<|.agg #[E 0,E 0],2,16):=Kr
theorem gQ{x a d:LB}{t v:Int}{less:Bool}{d':LB}(g:cut 58 x=some (a,d))(c:Z6 45 d=(d',less))(i:YL 1000000 a=t)(e:YL 1000000000 d'=v):
 (0<=t/\0<=v/\(less=true->v≠0)->Tw x=some t.toNat)/\((t<0\/v<0\/(less=true/\v=0))->Tw x=none):=by
 constructor
 .rintro⟨j,k,l⟩;unfold Tw;rw[g];simp only[FA i j];have:T2 d=true:=by
   unfold T2;rw[c];simp only[FA e k];cases less
   .rfl
   .have:=l C;simp;omega
  rw[this];rfl
 .intro h;unfold Tw;rw[g];cases f:ZC 1000000 a with
  |none=>simp only[f]
  |some tm=>
   rw[RB f]at i;have:T2 d=false:=by
    unfold T2;rw[c];rcases h with h|h|⟨h,m⟩
    .omega
    .simp only[oK e h]
    .simp only[FA e X];subst h;subst m;rfl
   simp[f,this]
theorem fA(a:0<d.size)(h:d[0].toNat=45):Z6 45 (bl d)=(bl<|d.extract 1 d.size,true):=by
 have e:=Td d 0 a;rw[PF]at e;have e2:bl (d.extract 1 d.size)=(bl d).drop 1:=by rw[WL,Wm<|by rw[Zb];exact Yj _]
 have e3:d[0]=45:=TN.1 h;rw[e2,e,e3];rfl
theorem ze(h:d.size<1\/∃a:0<d.size,d[0].toNat≠45):Z6 45 (bl d)=(bl d,false):=by
 rcases h with h|⟨a,h⟩
 .have:bl d=[]:=Oh.1<|by rw[Zb];omega
  rw[this];rfl
 .have e:=Td d 0 a;rw[PF]at e;have e3:(d[0]==45)=false:=by
   rw[YB];intro c;rw[c]at h;exact h C
  rw[e];simp[Z6,e3]
theorem jr(s:BA)(t0:LB)(w:Y)(hs:s.size<=6000)(d1:s.toList.isEmpty=false)(a2:U<|bl s=32::t0):
 CP 71 #[.string s] w λe w'=>∃(a:Option Addr)(n cap:Nat)(ok:Bool),e=.returned (.tuple #[.slice a n cap,.bool ok])/\
  U ((ok=true/\Vk (-1) 0 (split 32 t0)=some n)\/(ok=false/\Vk (-1) 0 (split 32 t0)=none))/\U (ok=true->w'.ownsRow w.heap.size 179 2 (.slice a n cap) n (ZQ<|(split 32 t0).map UJ))/\BW w w':=by
 obtain⟨i0,hi,b1,b2,b3⟩:=Xv Tryz.infoRSample;have HS:U<|split 32 (bl s)=[]::split 32 t0:=I<|by rw[a2.o,Ni]
 go_enter func71,ntmps71;go_wp2_with fail;refine(LJ s 32 C hs).m ?_;rintro e t ⟨g,n,cp,bs,rfl,hn,d2,b4,x,K,o⟩;have HN:U<|n=bs.length:=hn;have d3:n<=6001:=by
  have:=Qe 32<|bl s;rw[<-K.o,Yz,Zb]at this;omega
 have M:U<|n=(split 32 t0).length+1:=I<|by
  rw[hn,show bs.length=(split 32<|bl s).length by rw[<-K.o,Yz],HS.o];rfl
 have a3:1<=n:=by rw[M.o];omega
 clear hn;have a4:0<bs.length:=by rw[<-HN.o];exact a3
 have b5:t.cell? ⟨g,0,none⟩=some (.string bs[0]):=x.o 0 a4;have b6:bs[0].toList.isEmpty=true:=by
  rw[ZA,Mu K.o 0 a4,HS.o];rfl
 generalize bs[0]=s0 at b5 b6;go_wp2;go_loopw [4,6,7] (λv last i wr=>∃(k:Nat)(L:Int),k+1<=n/\i=E ((k:Int)+1)/\last=E L/\-1<=L/\L<=1000000/\wr.ownsRow t.heap.size 179 2 v k (ZQ<|((split 32 t0).map UJ).take k)/\U (Vk (-1) 0 (split 32 t0)=Vk L k ((split 32 t0).drop k))/\BW t wr)
  (λ_ _ i _=>n-(intOf i).toNat);case atStart=>exact⟨0,-1,a3,C,C,Om,Om,Xm _ _ _ _,C,Ym _ _⟩
 case round=>
  obtain⟨k,L,hk,rfl,rfl,d4,d5,f,HA,r⟩:=hrel;have b7:t.heap.size<=wr.heap.size:=r.size;by_cases b8:k+1<n
  .have a5:k+1<bs.length:=by rw[<-HN.o];exact b8
   have A:k<(split 32 t0).length:=by have:=M.o;omega
   have b9:wr.cell? ⟨g,k+1,none⟩=some (.string bs[k+1]):=(r.cell (p:=⟨g,k+1,none⟩) b4).trans<|x.o (k+1) a5;have Q:U<|bl bs[k+1]=(split 32 t0).getD k []:=I<|by
    rw[Mu K.o (k+1) a5,HS.o];rfl
   have B:bs[k+1].size<=6000:=by
    have j:=OV 32 t0 k A;have l:s.size=t0.length+1:=by rw[ZE a2.o];rfl
    rw[ZE Q.o];omega
   generalize bs[k+1]=sk at b9 Q B;cases D:LS.seek 58 (bl sk)with
   |none=>
    have G:U<|Vk (-1) 0 (split 32 t0)=none:=I<|by
     rw[HA.o];refine JF A Q.o<|Or.inl ?_;unfold Tw;rw[K7 D]
    have HC:U<|LS.seek 58 (bl sk)=none:=D;clear D;go_wp2_with fail;refine(OO (c:=58) C B HC.o).m ?_;rintro e z ⟨rfl,R⟩;subst R;go_wp2;go_ret2;exact⟨none,0,0,false,C,Or.inr ⟨C,G.o⟩,I (λh=>by cases h),o.trans<|r.mono o.size⟩
   |some p=>
    have hp:p<sk.size:=by rw[<-Zb];exact NJ D
    have hcut:=Lo D;have HC:U<|LS.seek 58 (bl sk)=some p:=D;clear D;have e1:bl (sk.extract 0 p)=(bl sk).take p:=by rw[WL];simp
    have e2:bl (sk.extract (p+1) sk.size)=(bl sk).drop (p+1):=by rw[WL,Wm<|by rw[Zb];exact Yj _]
    rw[<-e1,<-e2]at hcut;have c0:(sk.extract 0 p).size<=6000:=by rw[<-Zb,e1,Xw,Zb];omega
    have a6:(sk.extract (p+1) sk.size).size<=6000:=by rw[<-Zb,e2,Ur,Zb];omega
    clear e1 e2;have d6:p<=sk.size:=KB hp;have d7:p+1<=sk.size:=hp;have d8:(p:Int)+1<=(sk.size:Int):=Om;go_wp2_with fail;refine(Qd (c:=58) C B HC.o).m ?_;rintro e z ⟨rfl,R⟩;subst R;have H:U _:=hcut;clear hcut;go_wp2_with fail;refine(LI 1000000 C c0 Om).m ?_;rintro e w3 ⟨rfl,c6⟩;subst c6;have hT:=Nz 1000000<|bl<|sk.extract 0 p;obtain⟨T,S⟩:∃T,YL 1000000 (bl<|sk.extract 0 p)=T:=⟨_,C⟩;rw[S]at hT⊢;have HT:U _:=S;clear S;obtain⟨d,hd⟩:∃d,sk.extract (p+1) sk.size=d:=⟨_,C⟩;rw[hd]at a6 H;have hD:(∃j:0<d.size,((d[0].toNat:Int)==45)=true)\/(∃j:0<d.size,((d[0].toNat:Int)==45)=false)\/¬0<d.size:=by
     by_cases j:0<d.size
     .cases l:((d[0].toNat:Int)==45)
      .exact Or.inr<|Or.inl ⟨j,l⟩
      .exact Or.inl ⟨j,l⟩
     .exact Or.inr<|Or.inr j
    go_upto_region 16 with fail;go_cut [11]from 22 to 89 (λs11 J=>∃ng:Bool,s11=.bool ng/\J=w3/\U ((ng=true/\0<d.size/\Z6 45 (bl d)=(bl<|d.extract 1 d.size,true))\/(ng=false/\Z6 45 (bl d)=(bl d,false))));case first=>
     rcases hD with⟨j,l⟩|⟨j,l⟩|j
     .go_wp2;go_meet;exact⟨true,C,C,I<|Or.inl ⟨C,j,fA j<|by have:=XM.1 l;omega⟩⟩
     .go_wp2;go_meet;exact⟨false,C,C,I<|Or.inr ⟨C,ze<|Or.inr ⟨j,by have:=YB.1 l;omega⟩⟩⟩
     .go_wp2;go_meet;exact⟨false,C,C,I<|Or.inr ⟨C,ze<|Or.inl Om⟩⟩
    case rest=>
    obtain⟨ng,rfl,rfl,a7⟩:=hcut;rename Y=>w3;clear hD;go_upto_if 57 with fail;go_cut [10]from 22 to 89 (λs10 J=>∃d':BA,s10=.string d'/\J=w3/\d'.size<=6000/\U (Z6 45 (bl d)=(bl d',ng)));case first=>
     rcases a7.o with⟨rfl,j,l⟩|⟨rfl,l⟩
     .have h3:(1:Int)<=d.size:=Om;go_wp2;go_meet;exact⟨_,C,C,by rw[V5];omega,I l⟩
     .go_wp2;go_meet;exact⟨_,C,C,a6,I l⟩
    case rest=>
    obtain⟨d',rfl,rfl,c7,a8⟩:=hcut;rename Y=>w3;clear a7;go_wp2_with fail;refine(LI 1000000000 C c7 Om).m ?_;rintro e W ⟨rfl,c8⟩;subst c8;have hV:=Nz 1000000000<|bl d';obtain⟨V,Z⟩:∃V,YL 1000000000 (bl d')=V:=⟨_,C⟩;rw[Z]at hV⊢;have HV:=I Z;clear Z;have a0:=I<|gQ H.o a8.o HT.o HV.o;have a9:=I<|DA A Q.o<|ed H.o a8.o HT.o HV.o;obtain⟨bd,m⟩:∃bd,decide (T<0\/V<0\/T<=L\/(ng=true/\V=0))=bd:=⟨_,C⟩;go_upto_region 20 with fail;go_cut [79]from 22 to 89 (λs79 J=>s79=.bool bd/\J=W);case first=>
     by_cases q1:T<0
     .go_wp2;go_meet;exact⟨by rw[<-m];simp[q1],C⟩
     .by_cases q2:V<0
      .go_wp2;go_meet;exact⟨by rw[<-m];simp[q2],C⟩
      .by_cases q3:T<=L
       .go_wp2;go_meet;exact⟨by rw[<-m];simp[q3],C⟩
       .cases ng
        .go_wp2;go_meet;exact⟨by rw[<-m];simp[q1,q2,q3],C⟩
        .cases q5:(V==0)
         .go_wp2;go_meet;exact⟨by rw[<-m];simp[q1,q2,q3,YB.1 q5],C⟩
         .go_wp2;go_meet;exact⟨by rw[<-m];simp[XM.1 q5],C⟩
    case rest=>
    obtain⟨rfl,rfl⟩:=hcut;rename Y=>W;cases bd
    .have a1:=Kh m;have G:U<|Vk (-1) 0 (split 32 t0)=Vk T (k+1) ((split 32 t0).drop<|k+1):=I<|by
      rw[HA.o];have hh:=BR (n:=k) (last:=L) A Q.o (a0.1 ⟨Om,Om,λj l=>a1<|by simp[j,l]⟩) Om;rw[hh,Int.toNat_of_nonneg Om]
     obtain⟨X,hX⟩:∃X,(if ng then-V else V)=X:=⟨_,C⟩;go_upto_if 80 with fail;go_cut [12]from 22 to 89 (λs12 J=>s12=E X/\J=W);case first=>
      cases ng
      .go_wp2;go_meet;exact⟨by rw[<-hX];rfl,C⟩
      .go_wp2;go_meet;exact⟨by rw[<-hX];go_num,C⟩
     case rest=>
     obtain⟨rfl,rfl⟩:=hcut;rename Y=>W;rw[hX]at a9;go_wp2_with(at_builtin;refine XC _ C (.tmp 84) (.tmp 88) 103 C t.heap.size 179 i0 (.agg #[E 0,E 0]) 2 16 underlying103 hi b1 b2 b3 C N _ _ _ C (N6 f _) ⟨W.heap.size,0,none⟩ 1 1 [E T,E X] C C ?c1 ?c2 ?c3 ?c4 ?c5 ?_);case c1=>exact PW (Sm)<|Sm
     case c2=>intro u hu;simp at hu;rcases hu with rfl|rfl<;>rfl
     case c3=>unfold maxLen;omega
     case c4=>omega
     case c5=>simp;omega
     intro v' w5 O P _;rw[<-a9.o]at O;have c9:BW t w5:=(r.alloc b7 _).grown P (by simp;omega) λq hq=>(f.lt q hq).1;clear f P;go_wp2;go_roundw;case rel=>exact⟨k+1,T,Om,by go_num,C,Om,Om,O,G,c9⟩
     case measure=>simp[intOf];omega
    .have b0:=Rw m;have G:U<|Vk (-1) 0 (split 32 t0)=none:=I (by
     rw[HA.o];refine JF A Q.o ?_;by_cases hx:T<0\/V<0\/(ng=true/\V=0)
     .exact Or.inl<|a0.2 hx
     .exact Or.inr ⟨T.toNat,a0.1 ⟨Om,Om,λj l=>hx<|by simp[j,l]⟩,by rw[Int.toNat_of_nonneg Om];rcases b0 with h|h|h|h<;>first|exact h|exact absurd (by simp[h]) hx⟩);go_wp2;go_ret2;exact⟨none,0,0,false,C,Or.inr ⟨C,G.o⟩,I (λh=>by cases h),o.trans<|r.mono o.size⟩
  .have G:U<|Vk (-1) 0 (split 32 t0)=some k:=I<|by
    rw[HA.o];exact BS<|by have:=M.o;omega
   obtain⟨av,cp,hv⟩:=Zd f;rw[hv]at f;rw[hv];have d0:U<|wr.ownsRow w.heap.size 179 2 (.slice av k cp) k<|ZQ<|(split 32 t0).map UJ:=I<|by
    rw[Wm<|by rw[Yz];have:=M.o;omega]at f;exact f.mono o.size
   clear f;go_wp2;go_ret2;exact⟨av,k,cp,true,C,Or.inl ⟨C,G.o⟩,I λ_=>d0.o,o.trans<|r.mono o.size⟩
structure VS (w:Y)(v:F)(l:List<|Int×Int):Prop where
 own:w.ownsRow 0 179 2 v l.length<|ZQ l
 len:l.length<=6001
 ok:∀x∈l,Vb x
theorem VS.below{l:List<|Int×Int}(h:VS w v l)(a:BW w w'):VS w' v l:=⟨Ze h.own a,h.len,h.ok⟩
theorem LK (n:Int)(w:Y):CP 74 #[E n] w λe u=>e=.returned (E<|YZ n)/\u=w:=by
 unfold YZ;by_cases a:1000000000<n
 .rw[Ye a];go_enter func74,ntmps74;go_wp2;go_ret;exact⟨C,C⟩
 · rw[Yd a];by_cases c:n< -1000000000
   .rw[Ye c];go_enter func74,ntmps74;go_wp2;go_ret;exact⟨C,C⟩
   .rw[Yd c];go_enter func74,ntmps74;go_wp2;go_ret;exact⟨C,C⟩
theorem fF(l:List<|Int×Int)(h:∀x∈l,Vb x):-1000000000*(l.length:Int)<=(l.map (·.2)).sum/\(l.map (·.2)).sum<=1000000000*(l.length:Int):=by
 induction l with
 |nil=>simp
 |cons a l ih=>
  have e:=ih λx c=>h x<|Vf _ c;have d:=h a<|Rd ..;unfold Vb at d;simp only[Wb,List.sum_cons,Y1];omega
theorem gS(l:List<|Int×Int)(k:Nat)(h:k<l.length):(l.take<|k+1).map (·.2)=(l.take k).map (·.2)++[l[k].2]:=by
 rw[List.take_succ_eq_append_getElem h,Xa];rfl
theorem Az(op:Nat)(a1:op<=4)(l:List<|Int×Int)(h:VS w v l)(m:0<l.length):
 CP 75 #[E op,v] w λe u=>e=.returned (E (T1 op (l.map (·.2))))/\∃n,u=w.drewN n:=by
 obtain⟨g,cp,rfl⟩:=Zm h.own m;have a0:=h.len;have B:=I h;have L:∀(j:Nat)(O:j<l.length),w.cell? _=some (.int _ _):=λj O=>Zc h.own _ _<|by rw[(Ls l j).2,List.getElem?_eq_getElem O];rfl
 have P:=I L;have h0:w.cell? ⟨g,1,none⟩=some (E (l[0]).2):=by simpa using L 0 _
 obtain⟨x0,q⟩:∃x0,x0=(l[0]).2:=⟨_,C⟩;have r:U (x0=(l.map (·.2)).headD 0):=by rw[q];cases l with|nil=>simp at m|cons a l=>rfl
 rw[<-q]at h0;clear h L q;go_enter func75,ntmps75;go_wp2;go_loop [5,6,7,8] (λs5 s6 s7 s8=>∃(k:Nat)(sm mx mn:Int),k<=l.length/\s8=E k/\s5=E sm/\s6=E mx/\s7=E mn/\U (sm=((l.take k).map (·.2)).sum/\mx=Wh x0 ((l.take k).map (·.2))/\mn=Wi x0 ((l.take k).map (·.2)))) (λ_ _ _ s8=>l.length-(intOf s8).toNat);case atStart=>exact⟨0,0,x0,x0,Yr _,C,C,C,C,C,C,C⟩
 case round=>
  obtain⟨k,sm,mx,mn,hk,rfl,rfl,rfl,rfl,p⟩:=hrel;by_cases s:k<l.length
  .have ck:=P k s;have Q:=I<|gS l k s;have R:=fF (l.take k) λx D=>B.ok x<|MX D;rw[<-p.1,Xw]at R;have D:=B.ok _<|List.getElem_mem s;unfold Vb at D;obtain⟨S,T,V,W⟩:=D;obtain⟨G,H⟩:=R;have t:min k l.length=k:=X;rw[t]at G H;have a2:(k:Int)<=6001:=X;have a3:-6001000000000<=sm:=X;have a4:sm<=6001000000000:=X;have c:U (sm+(l[k]).2=((l.take<|k+1).map (·.2)).sum/\(if mx<(l[k]).2 then(l[k]).2 else mx)=Wh x0 ((l.take<|k+1).map (·.2))/\(if(l[k]).2<mn then(l[k]).2 else mn)=Wi x0 ((l.take<|k+1).map (·.2))):=by
    rw[Q,Kt,Cz,CJ,<-p.1,<-p.2.1,<-p.2.2];exact⟨Sm,C,C⟩
   obtain⟨x,J⟩:∃x,x=(l[k]).2:=⟨_,C⟩;rw[<-J]at ck c V W;clear t G H S T Q p J;by_cases o:mx<x
   .by_cases d:x<mn
    .go_wp2;go_round;case rel=>exact⟨k+1,_,_,_,X,by go_num,C,C,C,⟨c.1,by rw[<-c.2.1,Ye o],by rw[<-c.2.2,Ye d]⟩⟩
     case measure=>simp[intOf];omega
    .go_wp2;go_round;case rel=>exact⟨k+1,_,_,_,X,by go_num,C,C,C,⟨c.1,by rw[<-c.2.1,Ye o],by rw[<-c.2.2,Yd d]⟩⟩
     case measure=>simp[intOf];omega
   .by_cases d:x<mn
    .go_wp2;go_round;case rel=>exact⟨k+1,_,_,_,X,by go_num,C,C,C,⟨c.1,by rw[<-c.2.1,Yd o],by rw[<-c.2.2,Ye d]⟩⟩
     case measure=>simp[intOf];omega
    .go_wp2;go_round;case rel=>exact⟨k+1,_,_,_,X,by go_num,C,C,C,⟨c.1,by rw[<-c.2.1,Yd o],by rw[<-c.2.2,Yd d]⟩⟩
     case measure=>simp[intOf];omega
  .obtain rfl:k=l.length:=X;have M:U (sm=(l.map (·.2)).sum/\mx=Wh ((l.map (·.2)).headD 0) (l.map (·.2))/\mn=Wi ((l.map (·.2)).headD 0) (l.map (·.2))):=by
    have:=p.o;rw[X1,r]at this;exact this
   have cl:=P (l.length-1) X;obtain⟨xl,z⟩:∃xl,xl=(l[l.length-1]).2:=⟨_,C⟩;have Z:U (xl=(l.map (·.2)).getLastD 0):=by
    rw[z,Kb,Kc,Yz,Vs,List.getElem?_eq_getElem X];rfl
   have f:=B.ok _<|List.getElem_mem m;have i:=B.ok l[l.length-1]<|List.getElem_mem _;have A:x0=(l[0]).2:=by
    have h1:=r.o;cases l with
    |nil=>simp at m
    |cons a l=>exact h1
   unfold Vb at f i;rw[<-A]at f;rw[<-z]at i cl;obtain⟨_,_,y1,y2⟩:=f;obtain⟨_,_,y3,y4⟩:=i;clear z A;rcases(X:op=0\/op=1\/op=2\/op=3\/op=4)with rfl|rfl|rfl|rfl|rfl
   .go_wp2;go_ret;exact⟨TY<|by rw[M.1];rfl,0,C⟩
   .go_wp2;go_ret;exact⟨TY<|by rw[M.2.1];rfl,0,C⟩
   .go_wp2;go_ret;exact⟨TY<|by rw[M.2.2];rfl,0,C⟩
   .go_wp2;go_ret;exact⟨TY<|by unfold T1;rw[Yz];rfl,0,C⟩
   .obtain⟨n1,K⟩:∃n1:Nat,n1=l.length-1:=⟨_,C⟩;have a5:(l.length:Int)-1=(n1):=X;have a6:(n1:Int)<l.length:=X;rw[<-K]at cl;clear K;go_wp2;go_quiet (fail);go_wp2;go_ret;exact⟨TY<|by unfold T1;rw[<-r,<-Z];rfl,_,C⟩
theorem Tryz.infoRSm:(Tryz.prog.info? 179).map (λi=>(i.zero,i.size,i.bytes))=some (some<|.agg #[E 0,E 0],2,16):=Kr
theorem QK{w0:Y}(h:BW w0 w)(a:w.grownBy w' v.ownBlock)(d:∀q,v.ownBlock=some q->w0.heap.size<=q):BW w0 w':=by
 refine⟨a.os.trans h.os,a.tape.trans h.tape,a.output.trans h.output,Xb h.size a.size,?_⟩;intro j c;rw[a.block j (WH c h.size) λe=>by have:=d j e.symm;omega,h.block j c]
theorem Ya.ownGrown{t:TypeId}(h:Ya w a c t){e:TypeId}(d:w.ownsRow base e sz v n xs)(f:w.grownBy w' v.ownBlock)(g:t≠e):Ya w' a c t:=
 (f.block a h.lt<|ZD d h g).trans h
theorem yB(l:List<|Int×Int)(k:Nat)(h:k<l.length)(n t:Int):ZM (l.take<|k+1) n t=ZM (l.take k) n t++(if t-n<l[k].1/\l[k].1<=t then[l[k]]else[]):=by
 unfold ZM;rw[List.take_succ_eq_append_getElem h,N7];congr 1;by_cases a:t-n<l[k].1/\l[k].1<=t
 .rw[Ye a];simp[a.1,a.2]
 .rw[Yd a];have:(decide (t-n<l[k].1)&&decide (l[k].1<=t))=false:=by
   rw[Ia,O5,O5];by_cases c:t-n<l[k].1
   .right;intro d;exact a ⟨c,d⟩
   .exact .inl c
  simp only[Kq,this,Ix];rfl
theorem At(l:List<|Int×Int)(n t:Int):(ZM l n t).length<=l.length:=Qp _ _
theorem yC{la:Option Addr}{ln lc:Nat}(P:lv=.slice la ln lc){l:List<|Int×Int}(n t:Int)(a1:0<=n)(a2:n<=1000)(a3:-1000000<=t)(a4:t<=1000000)(h:VS w sv l):
 CP 73 #[.agg #[.string nm,lv,sv],E n,E t] w λe u=>∃rv:F,e=.returned rv/\U (VS u rv<|ZM l n t)/\BW w u:=by
 obtain⟨sa,sc,rfl⟩:=Zd h.own;subst P;have A:=I h;have K:=h.len;obtain⟨i0,hi,Q,R,S⟩:=Xv Tryz.infoRSm;clear h;go_enter func73,ntmps73;go_wp2;go_loopg [7,8] l.length (λgk v7 v8 wr=>∃k:Nat,k<=l.length/\gk=l.length-k/\v8=E k/\U (wr.ownsRow (w.heap.size+1) 179 2 v7 (ZM (l.take k) n t).length<|ZQ<|ZM (l.take k) n t)/\U (BW w wr)/\U (Ya wr w.heap.size [.string nm,.slice la ln lc,.slice sa l.length sc] 105));case atStart=>exact⟨0,Yr _,C,C,Xm _ _ _ _,I Yc,I<|Go.Deep.blk_alloc_new _ _⟩
 case round=>
  obtain⟨k,hk,a5,rfl,B,r,s⟩:=hrel;have b2:=s.cell 2;simp only[Yf]at b2;obtain⟨av,cp,hv⟩:=Zd B;subst hv;by_cases i:k<l.length
  .obtain⟨g,cpx,hg⟩:=Zm A.own X;injection hg with hg1 _ hg2;subst hg1 hg2;have v:=I<|A.below r;have r0:=Zc v.own _ _<|by rw[(Ls l k).1,List.getElem?_eq_getElem i];rfl
   have r1:=Zc v.own _ _<|by rw[(Ls l k).2,List.getElem?_eq_getElem i];rfl
   have c:=I<|yB l k i n t;have j:=A.ok _<|List.getElem_mem i;unfold Vb at j;obtain⟨⟨x,y⟩,G⟩:∃p,p=l[k]:=⟨_,C⟩;rw[<-G]at r0 r1 c j;simp only at r0 r1 c j;obtain⟨o1,o2,o3,o4⟩:=j;have T:=At (l.take k) n t;rw[Xw]at T;clear G;go_upto_region 6 with fail;refine Zs λW L=>?_;have m:Below _ _ W:=L▸Yc;have M:U<|Ya W _ _ 179:=L▸Go.Deep.blk_alloc_new _ _;have z:=I<|Ze B m;have o:=I<|r.trans<|m.mono r.size;have f:=I<|s.below m;have a6:=M.lt;have a0:=r.size;clear L m B r s r0 r1 b2 v;have x0:=M.cell 0;have x1:=M.cell 1;simp only[Yf]at x0 x1;by_cases H:t-n<x
   .by_cases J:x<=t
    .go_wp2_with(at_builtin;refine XC _ C (.tmp 34) (.tmp 36) 103 C (w.heap.size+1) 179 i0 (.agg #[E 0,E 0]) 2 16 underlying103 hi Q R S C N _ _ _ C (z.alloc _) ⟨W.heap.size,0,none⟩ 1 1 [E x,E y] C C (Z1 C) ?c2 ?c3 ?c4 ?c5 ?_);case c2=>exact⟨C,C⟩
     case c3=>unfold maxLen;omega
     case c4=>omega
     case c5=>omega
     intro v' w6 D a _;have V:=I<|QK (o.alloc o.size _) a λq hq=>by have:=(z.lt q hq).1;omega
     have O:=I<|Ya.ownGrown (f.below Yc) (z.alloc _) a N;have d:U<|w6.ownsRow (w.heap.size+1) 179 2 v' (ZM (l.take<|k+1) n t).length<|ZQ<|ZM (l.take<|k+1) n t:=by rwa [c.o,Ye ⟨H,J⟩,H3,Yx]
     clear D a;go_wp2;go_roundg (l.length-(k+1));case measure=>omega
     case rel=>exact⟨k+1,X,C,by go_num,d,V,O⟩
    .have d:U<|W.ownsRow (w.heap.size+1) 179 2 (.slice av (ZM (l.take k) n t).length cp) (ZM (l.take<|k+1) n t).length<|ZQ<|ZM (l.take<|k+1) n t:=by rwa [c.o,Yd λh=>J h.2,Ud]
     go_wp2;go_roundg (l.length-(k+1));case measure=>omega
     case rel=>exact⟨k+1,X,C,by go_num,d,o,f⟩
   .have d:U<|W.ownsRow (w.heap.size+1) 179 2 (.slice av (ZM (l.take k) n t).length cp) (ZM (l.take<|k+1) n t).length<|ZQ<|ZM (l.take<|k+1) n t:=by rwa [c.o,Yd λh=>H h.1,Ud]
    go_wp2;go_roundg (l.length-(k+1));case measure=>omega
    case rel=>exact⟨k+1,X,C,by go_num,d,o,f⟩
  .obtain rfl:k=l.length:=X;have Z:U<|wr.ownsRow 0 179 2 (.slice av (ZM (l.take l.length) n t).length cp) (ZM l n t).length<|ZQ<|ZM l n t:=by
    have:=TX B;rw[X1]at this⊢;exact this
   go_wp2;go_ret;exact⟨_,C,⟨Z,Xb (At _ _ _) K,λx hx=>A.ok x<|(Qu.1 hx).1⟩,r⟩
theorem jo(m:s.size<=6000):
 CP 71 #[.string s] w λe u=>∃(a:Option Addr)(n cap:Nat)(ok:Bool),e=.returned (.tuple #[.slice a n cap,.bool ok])/\
  U ((ok=true/\VI (bl s)=some n)\/(ok=false/\VI (bl s)=none))/\U (ok=true->u.ownsRow w.heap.size 179 2 (.slice a n cap) n (ZQ<|Qc<|bl s))/\BW w u:=by
 cases d:s.toList.isEmpty
 .have i:=OI d;cases f:bl s with
  |nil=>exact absurd f i
  |cons b t=>
   by_cases k:b=32
   .subst k;have x:VI (32::t)=Vk (-1) 0 (split 32 t):=by unfold VI;simp[Z6]
    rw[x];exact jr s t w m d f
   .have l:U<|VI (b::t)=none:=I<|by unfold VI;simp[Z6,k]
    have z:=I f;clear f i;go_enter func71,ntmps71;go_wp2_with fail;refine(LJ s 32 C m).m ?_;rintro e H ⟨g,n,cp,bs,rfl,o,B,D,c,j,p⟩;have q:0<bs.length:=by
     have:bs.length=(split 32<|bl s).length:=by rw[<-j,Yz]
     rw[this];exact QX.2<|Nj _ _
    have G:0<n:=X;have r:=c 0 q;have v:bs[0].toList.isEmpty=false:=by
     rw[ZA,Mu j 0 _,z,LQ _ b t<|by simp[k]];cases split 32 t<;>rfl
    generalize bs[0]=s0 at r v;have J:=I o;clear o;go_wp2;go_ret2;exact⟨none,0,0,false,C,.inr ⟨C,l⟩,I (λh=>by cases h),p⟩
 .have l:U<|VI (bl s)=some 0:=by rw[Pm d];rfl
  go_enter func71,ntmps71;go_wp2;go_ret2;have A:U<|Qc (bl s)=[]:=by rw[Pm d];rfl
  exact⟨none,0,0,true,C,.inl ⟨C,l⟩,I λ_=>A.o▸Xm _ _ _ _,Ym _ _⟩
theorem je(d:s.size<=6000):
 CP 70 #[.string s] w λe u=>∃(a:Option Addr)(n cap:Nat)(ok:Bool),e=.returned (.tuple #[.slice a n cap,.bool ok])/\
  ((ok=true/\∃qs,u.ownsRow w.heap.size 175 2 (.slice a n cap) qs.length (Uu qs)/\U (Wp (bl s)=some (qs.map V8)))\/(ok=false/\U (Wp (bl s)=none)))/\BW w u:=by
 cases c:s.toList.isEmpty
 .have f:Wp (bl s)=Wf [] [] (split 44<|bl s):=by unfold Wp;rw[Yd<|OI c]
  rw[f];exact jf s w d c
 .have g:U<|Wp (bl s)=some (([]).map V8):=by rw[Pm c];rfl
  go_enter func70,ntmps70;go_wp2;go_ret2;exact⟨none,0,0,true,C,.inl ⟨C,[],Xm _ _ _ _,g⟩,Ym _ _⟩
theorem nQ{l:LB}(e:LS.seek 123 l=some a)(f:LS.seek 125 l=some b)(i:a<b):
 cut 123 l=some (l.take a,l.drop<|a+1)/\cut 125 (l.drop<|a+1)=some ((l.take b).drop<|a+1,l.drop<|b+1):=by
 refine⟨Lo e,?_⟩;obtain⟨x,y,c,d,g⟩:=Pq f;have e1:l.drop (a+1)=x.drop (a+1)++125::y:=by rw[c,MS X]
 have e2:l.take b=x:=by rw[c,<-d];simp
 have e3:l.drop (b+1)=y:=by rw[c,<-d];simp
 rw[e1,e2,e3];exact Hh λh=>g<|List.mem_of_mem_drop h
theorem nO{l:LB}(g:LS.seek 123 l=some a)(h:LS.seek 125 l=some b)(d:b<a):Y3 l=none:=by
 obtain⟨x,y,i,j,k⟩:=Pq h;have e:Zx (l.take a)=false:=by
  have:(l.take a).all Zl=false:=by
   rw[Km];refine⟨125,?_,N⟩;rw[List.mem_iff_getElem?];refine⟨b,?_⟩;rw[Ki,Ye d,i,<-j];simp
  unfold Zx;rw[this];rfl
 have f:=Lo g;cases c:cut 125<|l.drop<|a+1with
 |none=>exact Mq f c
 |some q=>obtain⟨y,z⟩:=q;rw[Mr f c,e];rfl
theorem nR{l:LB}(c:LS.seek 123 l=some a)(d:LS.seek 125 l=none):Y3 l=none:=by
 have e:=(LN _ l).1 d;refine Mq (Lo c) ?_;exact K7<|(LN _ _).2 λh=>e<|List.mem_of_mem_drop h
theorem wR{a:Y}{x y z x' y' z':F}{t:TypeId}(c:Below (w.heap.size+1+1) ((w.alloc<|.cells #[x,y,z] t).alloc<|.cells #[x',y',z'] t) a):
 (a.cell? ⟨w.heap.size,0,none⟩=some x/\a.cell? ⟨w.heap.size,1,none⟩=some y/\a.cell? ⟨w.heap.size,2,none⟩=some z/\
 a.frozen? ⟨w.heap.size,0,none⟩=false/\a.frozen? ⟨w.heap.size,1,none⟩=false/\a.frozen? ⟨w.heap.size,2,none⟩=false)/\
 (a.cell? ⟨w.heap.size+1,0,none⟩=some x'/\a.cell? ⟨w.heap.size+1,1,none⟩=some y'/\a.cell? ⟨w.heap.size+1,2,none⟩=some z'/\
 a.frozen? ⟨w.heap.size+1,0,none⟩=false/\a.frozen? ⟨w.heap.size+1,1,none⟩=false/\a.frozen? ⟨w.heap.size+1,2,none⟩=false):=by
 have d:=λo=>c.cell (p:=⟨_,o,none⟩)<|RA _;have f2:=λo=>c.frozen (p:=⟨_,o,none⟩)<|RA _;have b1:Below (w.heap.size+1) _ _:=((Ym _ _).alloc (Sm) _).trans<|c.mono X;obtain⟨k0,k1,k2,g0,g1,g2⟩:=FW b1;exact⟨⟨k0,k1,k2,g0,g1,g2⟩,by simp[d,f2]⟩
theorem jg(f:s.size<=6000):
 CP 31 #[.string s] w λe u=>∃(nm:BA)(la:Option Addr)(ln lc:Nat)(sa:Option Addr)(sn sc:Nat)(ok:Bool),e=.returned (.tuple #[.agg #[.string nm,.slice la ln lc,.slice sa sn sc],.bool ok])/\
  ((ok=true/\∃(inside:LB)(qs:List<|BA×BA),u.ownsRow w.heap.size 175 2 (.slice la ln lc) qs.length (Uu qs)/\U (Y3 (bl s)=some (bl nm,inside,sn)/\Wp inside=some (qs.map V8)/\u.ownsRow w.heap.size 179 2 (.slice sa sn sc) sn (ZQ<|Uw<|bl s)))\/(ok=false/\U (Y3 (bl s)=none)))/\BW w u:=by
 cases q:LS.seek 123 (bl s)with
 |none=>
  have r:=I<|Ly<|K7 q;have g:=I q;clear q;cases c:LS.seek 125 (bl s)with
  |none=>
   have d:=I c;clear c;go_enter func31,ntmps31;go_wp2_with fail;refine(OO C f g.o).m ?_;rintro e z ⟨rfl,rfl⟩;go_wp2_with fail;refine(OO C f d.o).m ?_;rintro e z ⟨rfl,rfl⟩;go_wp2;exact YQ (by simp[results,results31,go_sem]) C ⟨⟨#[]⟩,none,0,0,none,0,0,false,C,.inr ⟨C,r⟩,Yh⟩
  |some b=>
   have d:=I c;clear c;go_enter func31,ntmps31;go_wp2_with fail;refine(OO C f g.o).m ?_;rintro e z ⟨rfl,rfl⟩;go_wp2_with fail;refine(Qd C f d.o).m ?_;rintro e z ⟨rfl,rfl⟩;go_wp2;exact YQ (by simp[results,results31,go_sem]) C ⟨⟨#[]⟩,none,0,0,none,0,0,false,C,.inr ⟨C,r⟩,Yh⟩
 |some a=>
  have g:=I q;have a0:a<s.size:=by rw[<-Zb];exact NJ q
  clear q;cases c:LS.seek 125 (bl s)with
  |none=>
   have r:=I<|nR g c;have d:=I c;clear c;go_enter func31,ntmps31;go_wp2_with fail;refine(Qd C f g.o).m ?_;rintro e z ⟨rfl,rfl⟩;go_wp2_with fail;refine(OO C f d.o).m ?_;rintro e z ⟨rfl,rfl⟩;go_wp2;exact YQ (by simp[results,results31,go_sem]) C ⟨⟨#[]⟩,none,0,0,none,0,0,false,C,.inr ⟨C,r⟩,Yh⟩
  |some b=>
   have d:=I c;have P:b<s.size:=by rw[<-Zb];exact NJ c
   have S:a≠b:=by
    intro e;subst e;obtain⟨x,y,e1,e2,_⟩:=Pq c;obtain⟨x',y',e3,e4,_⟩:=Pq g;have T:(bl s)[a]?=some 125:=by rw[e1,<-e2];simp
    have t:(bl s)[a]?=some 123:=by rw[e3,<-e4];simp
    rw[T]at t;exact absurd t N
   clear c;by_cases a1:b<a
   .have r:=I<|nO g d a1;go_enter func31,ntmps31;go_wp2_with fail;refine(Qd C f g.o).m ?_;rintro e z ⟨rfl,rfl⟩;go_wp2_with fail;refine(Qd C f d.o).m ?_;rintro e z ⟨rfl,rfl⟩;go_wp2;exact YQ (by simp[results,results31,go_sem]) C ⟨⟨#[]⟩,none,0,0,none,0,0,false,C,.inr ⟨C,r⟩,Yh⟩
   .have Q:a<b:=X;have a7:a+1<=b:=Q;clear S;have e0:bl (s.extract 0 a)=(bl s).take a:=by rw[WL];simp
    have e1:=WL s (a+1) b;have e2:bl (s.extract (b+1) s.size)=(bl s).drop (b+1):=by rw[WL,Wm<|by rw[Zb];exact Yj _]
    have i:U<|Y3 (bl s)=if Zx (bl<|s.extract 0 a)&&(Wp<|bl<|s.extract (a+1) b).isSome then(VI<|bl<|s.extract (b+1) s.size).map λn=>(bl<|s.extract 0 a,bl<|s.extract (a+1) b,n)else none:=I<|by
     obtain⟨c1,c2⟩:=nQ g.o d.o Q;rw[e0,e1,e2];exact Mr c1 c2
    have V:U<|Uw _=Qc (bl _):=I<|by unfold Uw;rw[d,e2]
    clear e0 e1 e2;have a2:(s.extract 0 a).size<=6000:=by rw[V5];omega
    have a3:(s.extract (a+1) b).size<=6000:=by rw[V5];omega
    have a4:(s.extract (b+1) s.size).size<=6000:=by rw[V5];omega
    have a8:=KB a0;have a9:=KB P;have b1:b+1<=s.size:=P;go_enter func31,ntmps31;go_wp2_with fail;refine(Qd C f g.o).m ?_;rintro e z ⟨rfl,rfl⟩;go_wp2_with fail;refine(Qd C f d.o).m ?_;rintro e z ⟨rfl,rfl⟩;go_wp2_with fail;obtain⟨b0,o⟩:∃b0,Zx (bl<|s.extract 0 a)=b0:=⟨_,C⟩;refine(GX a2 o).m ?_;rintro e z ⟨rfl,rfl⟩;rw[o]at i;have HN:=I o;clear o;go_wp2_with fail;refine(je a3).m ?_;rintro e w3 ⟨la,ln,lc,ok1,rfl,A,B⟩;have D:Below (w.heap.size+1+1) ((w.alloc<|.cells _ 105).alloc<|.cells _ 105) _:=B.mono<|Sm;have R:w.heap.size+1+1<=w3.heap.size:=by have:=B.size;simp at this;omega
    clear B;go_wp2_with fail;refine(jo a4).m ?_;rintro e Z ⟨sa,sn,sc,ok2,rfl,G,H,J⟩;have j:=D.trans<|J.mono R;obtain⟨⟨k0,k1,k2,g0,g1,g2⟩,⟨m0,m1,m2,n0,n1,n2⟩⟩:=wR j;have a5:=(((Ym _ w).alloc (Yj _) _).alloc (Sm) _).trans<|j.mono X;clear j D;have k:(b0&&ok1&&ok2)=true/\(∃qs,Z.ownsRow (w.heap.size+1+1) 175 2 (.slice la ln lc) qs.length (Uu qs)/\U (Y3 (bl s)=some (bl<|s.extract 0 a,bl<|s.extract (a+1) b,sn)/\Wp (bl<|s.extract (a+1) b)=some (qs.map V8)/\Z.ownsRow (w.heap.size+1+1) 179 2 (.slice sa sn sc) sn (ZQ<|Uw<|bl s)))\/((b0&&ok1&&ok2)=false/\U (Y3 (bl s)=none)):=by
     have p:=i.o;rcases A with⟨rfl,qs,l,K⟩|⟨rfl,K⟩
     .rcases G.o with⟨rfl,L⟩|⟨rfl,L⟩
      .cases b0
       .exact .inr ⟨C,by rw[p];rfl⟩
       .refine .inl ⟨C,qs,Ze (l.mono<|Sm) J,by rw[p,K,L];rfl,K,V.o▸(H.o C).mono R⟩
      .exact .inr ⟨by cases b0<;>rfl,by rw[p,K,L];cases b0<;>rfl⟩
     .exact .inr ⟨by cases b0<;>cases ok2<;>rfl,by rw[p,K];cases b0<;>rfl⟩
    clear A G H J i HN;obtain⟨okk,m⟩:∃okk,(b0&&ok1&&ok2)=okk:=⟨_,C⟩;rw[m]at k;have M:∀W:Y,W=((((Z.setCell ⟨w.heap.size+1,1,none⟩<|.slice la ln lc).setCell ⟨w.heap.size+1,2,none⟩<|.slice sa sn sc).setCell ⟨w.heap.size,0,none⟩<|.string<|s.extract 0 a).setCell ⟨w.heap.size,1,none⟩<|.slice la ln lc).setCell ⟨w.heap.size,2,none⟩ (.slice sa sn sc)->
     ((okk=true/\∃(inside:LB)(qs:List<|BA×BA),W.ownsRow w.heap.size 175 2 (.slice la ln lc) qs.length (Uu qs)/\U (Y3 (bl s)=some (bl<|s.extract 0 a,inside,sn)/\Wp inside=some (qs.map V8)/\W.ownsRow w.heap.size 179 2 (.slice sa sn sc) sn (ZQ<|Uw<|bl s)))\/(okk=false/\U (Y3 (bl s)=none)))/\BW w W:=by
     rintro W rfl;refine⟨?_,Yh⟩;rcases k with⟨T,qs,l,t⟩|h
     .refine .inl ⟨T,_,qs,?_,t.1,t.2.1,?_⟩
      .refine World.ownsRow.mono (base:=w.heap.size+1+1) ?_ X;exact QU (QU (QU (QU (QU l (Sm) _) (Sm) _) (by simp;omega) _) (by simp;omega) _) (by simp;omega) _
      .refine World.ownsRow.mono (base:=w.heap.size+1+1) ?_ X;exact QU (QU (QU (QU (QU t.2.2 (Sm) _) (Sm) _) (by simp;omega) _) (by simp;omega) _) (by simp;omega) _
     .exact .inr h
    clear k a5;have O:=I M;clear M;have a6:=I m;clear m;cases b0<;>cases ok1<;>cases ok2;all_goals
     obtain rfl:=a6.o;go_wp2;exact YQ (v:=.tuple #[.agg #[.string<|s.extract 0 a,.slice la ln lc,.slice sa sn sc],.bool _]) (by simp[results,results31,go_sem,k0,k1,k2]) C ⟨s.extract 0 a,la,ln,lc,sa,sn,sc,_,C,(O.o _ C).1,(O.o _ C).2⟩
def RH(ps:List<|LB×LB):Nat->LB
 |0=>[]
 |k+1=>(if 0<k then RH ps k++[44]else RH ps k)++(ps.getD k ([],[])).1++[61]++(ps.getD k ([],[])).2
theorem Rk(a b:BA):bl (a++b)=bl a++bl b:=by simp[bl]
theorem Br(v:F)(base:Nat)(w:Y)(a:w.ownsRow base 175 2 v qs.length<|Uu qs)(A:qs.length<=6001)(p:U<|∀q∈qs,q.1.size<=6000/\q.2.size<=6000):
 CP 32 #[v] w λe u=>∃r:BA,e=.returned (.string r)/\U (bl r=RH (qs.map V8) qs.length)/\∃n,u=w.drewN n:=by
 obtain⟨av,cp,rfl⟩:=Zd a;go_enter func32,ntmps32;go_wp2;go_loopw [3,4] (λsv i wr=>∃(k:Nat)(r:BA)(nd:Nat),k<=qs.length/\i=E k/\sv=.string r/\r.size<=12002*k/\U (bl r=RH (qs.map V8) k)/\wr=w.drewN nd) (λ_ i _=>qs.length-(intOf i).toNat);case atStart=>exact⟨0,⟨#[]⟩,0,Yr _,C,C,Yj _,C,C⟩
 case round=>
  obtain⟨k,r,nd,B,rfl,rfl,t,j,rfl⟩:=hrel;by_cases c:k<qs.length
  .obtain⟨f1,f2⟩:=Lr qs k;have f:qs[k]?=some qs[k]:=List.getElem?_eq_getElem c;rw[f]at f1 f2;have s:∃g,av=some ⟨g,0,none⟩:=by
    obtain⟨g,cp',h⟩:=Zm a X;injection h with h1;exact⟨g,h1⟩
   obtain⟨g,rfl⟩:=s;have c1:w.cell? ⟨g,k*2,none⟩=some (.string (qs[k]).1):=Zc a _ _ f1;have c2:w.cell? ⟨g,k*2+1,none⟩=some (.string (qs[k]).2):=Zc a _ _ f2;have m:U<|(qs.map V8).getD k ([],[])=(bl (qs[k]).1,bl (qs[k]).2):=I<|by simp[c,V8]
   have z:=p.o _<|List.getElem_mem c;generalize(qs[k]).1=x at*;generalize(qs[k]).2=y at*;clear f f1 f2;by_cases o:0<k
   .have l:U<|bl (((r++⟨#[44]⟩)++x)++⟨#[61]⟩++y)=RH (qs.map V8) (k+1):=I<|by
     rw[RH,Ye o,m.o,Rk,Rk,Rk,Rk,j.o];rfl
    have d:(((r++⟨#[44]⟩)++x)++⟨#[61]⟩++y).size<=12002*(k+1):=by simp only[Y9];have e44:(⟨#[44]⟩:BA).size=1:=C;have e61:(⟨#[61]⟩:BA).size=1:=C;omega
    have a1:∀W,(Op.stringOp .add r ⟨#[44]⟩).run prog W=.ok (.string<|r++⟨#[44]⟩) W:=λW=>XW W r ⟨#[44]⟩<|by have e44:(⟨#[44]⟩:BA).size=1:=C;omega
    have a2:∀W,(Op.stringOp .add (r++⟨#[44]⟩) x).run prog W=.ok (.string<|(r++⟨#[44]⟩)++x) W:=λW=>XW W _ _<|by simp only[Y9];have e44:(⟨#[44]⟩:BA).size=1:=C;omega
    have a3:∀W,(Op.stringOp .add ((r++⟨#[44]⟩)++x) ⟨#[61]⟩).run prog W=.ok (.string<|((r++⟨#[44]⟩)++x)++⟨#[61]⟩) W:=λW=>XW W _ _<|by simp only[Y9];have e44:(⟨#[44]⟩:BA).size=1:=C;have e61:(⟨#[61]⟩:BA).size=1:=C;omega
    have a4:∀W,(Op.stringOp .add (((r++⟨#[44]⟩)++x)++⟨#[61]⟩) y).run prog W=.ok (.string<|(((r++⟨#[44]⟩)++x)++⟨#[61]⟩)++y) W:=λW=>XW W _ _<|by simp only[Y9];have e44:(⟨#[44]⟩:BA).size=1:=C;have e61:(⟨#[61]⟩:BA).size=1:=C;omega
    go_wp2;go_quiet (fail);go_wp2;go_roundw;case rel=>exact⟨k+1,_,_,X,by go_num,C,d,l,C⟩
    case measure=>simp[intOf];omega
   .have l:U<|bl ((r++x)++⟨#[61]⟩++y)=RH (qs.map V8) (k+1):=I<|by
     rw[RH,Yd o,m.o,Rk,Rk,Rk,j.o];rfl
    have d:((r++x)++⟨#[61]⟩++y).size<=12002*(k+1):=by simp only[Y9];have e61:(⟨#[61]⟩:BA).size=1:=C;omega
    have a2:∀W,(Op.stringOp .add r x).run prog W=.ok (.string<|r++x) W:=λW=>XW W _ _ X;have a3:∀W,(Op.stringOp .add (r++x) ⟨#[61]⟩).run prog W=.ok (.string<|(r++x)++⟨#[61]⟩) W:=λW=>XW W _ _<|by simp only[Y9];have e61:(⟨#[61]⟩:BA).size=1:=C;omega
    have a4:∀W,(Op.stringOp .add ((r++x)++⟨#[61]⟩) y).run prog W=.ok (.string<|((r++x)++⟨#[61]⟩)++y) W:=λW=>XW W _ _<|by simp only[Y9];have e61:(⟨#[61]⟩:BA).size=1:=C;omega
    go_wp2;go_quiet (fail);go_wp2;go_roundw;case rel=>exact⟨k+1,_,_,X,by go_num,C,d,l,C⟩
    case measure=>simp[intOf];omega
  .obtain rfl:k=qs.length:=X;go_wp2;go_ret;exact⟨r,C,j,nd,C⟩
structure YX (w:Y)(v:F)(l:List Xc)(qs:List<|BA×BA):Prop where
 own:w.ownsRow 0 175 2 v qs.length<|Uu qs
 say:qs.map V8=l
 len:qs.length<=6001
 ok:∀q∈qs,q.1.size<=6000/\q.2.size<=6000
theorem YX.below(h:YX w v l qs)(a:BW w w'):YX w' v l qs:=⟨Ze h.own a,h.say,h.len,h.ok⟩
theorem YX.drewN(h:YX w v l qs)(n:Nat):YX (w.drewN n) v l qs:=⟨FE h.own n,h.say,h.len,h.ok⟩
theorem zr(l:List Xc)(n:LB)(k:Nat)(h:∀p∈l.take k,p.1≠n):So l n=So (l.drop k) n:=by
 induction l generalizing k with
 |nil=>simp
 |cons p l ih=>
  cases k with
  |zero=>rfl
  |succ k=>
   have a:=h p<|Sm;rw[So,Yd a];exact ih k λq c=>h q<|by simp[c]
theorem ZbH{a b:BA}(h:bl a=bl b):a=b:=by
 cases a with|mk x=>cases b with|mk y=>
  have:x=y:=by
   have c:x.toList=y.toList:=h;exact Array.toList_inj.mp c
  rw[this]
theorem Nm(a b:BA):(a.toList==b.toList)=decide (bl a=bl b):=by
 rw[ZA,ZA];by_cases h:bl a=bl b
 .simp[h]
 .simp[h]
theorem zM(l:List Xc)(qs:List<|BA×BA)(h:qs.map V8=l)(n:LB)(k:Nat)(c:k<qs.length)(d:∀q∈qs.take k,bl q.1≠n)(e:bl (qs[k]).1=n):So l n=bl (qs[k]).2:=by
 subst h;rw[zr _ n k<|by intro p a;rw[<-Q1]at a;obtain⟨q,f,rfl⟩:=XK.mp a;exact d q f];rw[<-Ky,List.drop_eq_getElem_cons c,Wb,So,Ye<|show(V8 qs[k]).1=n from e];rfl
theorem zO(l:List Xc)(qs:List<|BA×BA)(h:qs.map V8=l)(n:LB)(c:∀q∈qs,bl q.1≠n):So l n=[]:=by
 subst h;rw[zr _ n qs.length<|by intro p a;rw[<-Q1,X1]at a;obtain⟨q,d,rfl⟩:=XK.mp a;exact c q d];rw[<-Ky,List.drop_length];rfl
theorem zL(nm:BA)(h:YX w v l qs):
 CP 110 #[v,.string nm] w λe u=>∃r:BA,e=.returned (.string r)/\U (bl r=So l (bl nm))/\∃n,u=w.drewN n:=by
 obtain⟨av,cp,rfl⟩:=Zd h.own;have d:U<|YX w (.slice av qs.length cp) l qs:=h;have o:=h.len;clear h;go_enter func110,ntmps110;go_wp2;go_loopw [5] (λi wr=>∃(k:Nat)(nd:Nat),k<=qs.length/\i=E k/\U (∀q∈qs.take k,bl q.1≠bl nm)/\wr=w.drewN nd) (λi _=>qs.length-(intOf i).toNat);case atStart=>exact⟨0,0,Yr _,C,I<|by intro q c;simp at c,C⟩
 case round=>
  obtain⟨k,nd,z,rfl,j,rfl⟩:=hrel;by_cases a:k<qs.length
  .have p:∃g,av=some ⟨g,0,none⟩:=by
    obtain⟨g,cp',h⟩:=Zm d.own X;injection h with h1;exact⟨g,h1⟩
   obtain⟨g,rfl⟩:=p;have c1:w.cell? ⟨g,k*2,none⟩=some (.string (qs[k]).1):=Zc d.own _ _<|by rw[(Lr qs k).1,List.getElem?_eq_getElem a];rfl
   have c2:w.cell? ⟨g,k*2+1,none⟩=some (.string (qs[k]).2):=Zc d.own _ _<|by rw[(Lr qs k).2,List.getElem?_eq_getElem a];rfl
   by_cases c:bl (qs[k]).1=bl nm
   .have m:=I<|zM l qs d.say (bl nm) k a j.o c;have s:((qs[k]).1.toList==nm.toList)=true:=by rw[Nm];simp[c]
    generalize(qs[k]).1=x at*;generalize(qs[k]).2=y at*;go_wp2;go_ret;exact⟨_,C,I m.symm,_,C⟩
   .have s:((qs[k]).1.toList==nm.toList)=false:=by rw[Nm];simp[c]
    have t:U<|∀q∈qs.take<|k+1,bl q.1≠bl nm:=I (by
     intro q f;rw[List.take_succ_eq_append_getElem a]at f;rcases Wk.mp f with h|h
     .exact j.o q h
     .rw[Vr]at h;subst h;exact c);generalize(qs[k]).1=x at*;generalize(qs[k]).2=y at*;go_wp2;go_roundw;case rel=>exact⟨k+1,_,X,by go_num,t,C⟩
    case measure=>simp[intOf];omega
  .obtain rfl:k=qs.length:=X;have m:=I<|zO l qs d.say (bl nm)<|by have:=j.o;rwa [X1]at this
   go_wp2;go_ret;exact⟨_,C,I m.symm,_,C⟩
theorem Jk {op:Nat}(g:op<=3)(a b:Int)(d:YC a)(f:YC b)(w:Y):CP 77 #[E op,E a,E b] w λe u=>e=.returned (E<|YI op a b)/\u=w:=by
 obtain⟨a1,a2⟩:=d;obtain⟨b1,b2⟩:=f;rcases(X:op=0\/op=1\/op=2\/op=3)with rfl|rfl|rfl|rfl
 .rw[AE];go_enter func77,ntmps77;go_wp2_with(go_at_call 74;refine(LK _ _).m ?_;rintro e u ⟨rfl,rfl⟩);go_ret;exact⟨C,C⟩
 .rw[AF];go_enter func77,ntmps77;go_wp2_with(go_at_call 74;refine(LK _ _).m ?_;rintro e u ⟨rfl,rfl⟩);go_ret;exact⟨C,C⟩
 · have i:(Go.IntKind.i64).wrap (a*b)=a*b:=by
     have j:=CL a b a1 a2 b1 b2;generalize a*b=ab at*;rw[Us];omega
   rw[AG];go_enter func77,ntmps77;go_wp2_with(go_at_call 74;refine(LK _ _).m ?_;rintro e u ⟨rfl,rfl⟩);go_ret;exact⟨C,C⟩
 · have h:(a.tdiv b).natAbs<=a.natAbs:=by rw[Ku];exact MU _ _
   have k:(Go.IntKind.i64).wrap (a.tdiv b)=a.tdiv b:=by rw[Us];omega
   by_cases c:b=0
   .subst c;rw[AI];go_enter func77,ntmps77;go_wp2;go_ret;exact⟨C,C⟩
   .rw[AH a b c];go_enter func77,ntmps77;go_wp2;go_ret;exact⟨C,C⟩
theorem mT{a:Nd}(s:YY){qs:List<|BA×BA×Bool}(h:qs.map VL=a.kq)(k:Nat)(c:k<qs.length)(d:RM s (VL qs[k])=false):UI a s=false:=by
 unfold UI;rw[<-h,show(qs.map _).all _=false from ?_];rfl;rw[Km];exact⟨VL _,XK.mpr ⟨_,List.getElem_mem c,C⟩,by simp[d]⟩
theorem mV{a:Nd}(s:YY){qs:List<|BA×BA×Bool}(h:qs.map VL=a.kq)(d:∀q∈qs,RM s (VL q)=true):UI a s=decide (a.name=s.name):=by
 unfold UI;rw[<-h,show(qs.map _).all _=true from ?_];rfl;rw[Tt];intro c e;obtain⟨q,f,rfl⟩:=XK.mp e;exact d q f
theorem jI(p:PV)(nd:Nd)(s:YY)(L:bl p.nm=nd.name)(hc:ZP w 0 p nd.kq)(o:nd.kq.length<=100000)(sn:BA)(M:bl sn=s.name)(qs:List<|BA×BA)(V:YX w lv s.labs qs)(sa:Option Addr)(sln slc:Nat):
 CP 72 #[.agg #[E p.k,E p.n,E p.op,.string p.nm,.slice p.ca p.cn p.cc,.slice p.ba p.bn p.bc,E p.a,E p.b],.agg #[.string sn,lv,.slice sa sln slc]] w λe u=>e=.returned (.bool<|UI nd s)/\BW w u:=by
 obtain⟨cs,f,t⟩:=hc;obtain⟨av,cp,hv⟩:=Zd f;injection hv with hv1 hv2 hv3;obtain⟨la,lc,rfl⟩:=Zd V.own;have Z:U<|w.ownsRow 0 268 3 (.slice p.ca cs.length p.cc) cs.length<|TT cs:=by have:=f;rw[hv2]at this;exact this
 have d:U<|bl _=nd.name/\cs.map _=nd.kq/\bl _=s.name:=⟨L,t,M⟩;have HL:=I V;have a4:cs.length<=100000:=by rw[<-t,Yz]at o;exact o
 clear f hv3 t L M V o;obtain⟨pk,pn,pop,pnm,pca,pcn,pcc,pba,pbn,pbc,pa,pb⟩:=p;simp only at hv1 hv2 d Z;subst hv2;clear hv1;have HE:U<|(pnm.toList==sn.toList)=decide _:=I<|by rw[Nm,d.1,d.2.2]
 go_enter func72,ntmps72;go_wp2;go_loopg [5] cs.length (λgk v5 wr=>∃k:Nat,k<=cs.length/\gk=cs.length-k/\v5=E k/\U (∀q∈cs.take k,RM s (VL q)=true)/\U (BW w wr)/\U (Yq wr w.heap.size ⟨pk,pn,pop,pnm,pca,cs.length,pcc,pba,pbn,pbc,pa,pb⟩)/\U (Ya wr (w.heap.size+1) [.string sn,.slice la qs.length lc,.slice sa sln slc] 105));case atStart=>exact⟨0,Yr _,C,C,I<|by intro q hq;simp at hq,I<|Yc.alloc (Sm) _,I<|Yc.block _ (Sm)|>.trans (Go.Deep.blk_alloc_new _ _),I<|by have:=Go.Deep.blk_alloc_new (w.alloc<|.cells #[E pk,E pn,E pop,.string pnm,.slice pca cs.length pcc,.slice pba pbn pbc,E pa,E pb] 59)<|.cells #[.string sn,.slice la qs.length lc,.slice sa sln slc] 105;rw[Sy]at this;exact this⟩
 case round=>
  obtain⟨k,hk,a5,rfl,HR,z,A,B⟩:=hrel;have b1:=B.cell 0;have b2:=B.cell 1;simp only[Yf]at b1 b2;obtain⟨k0,k1,k2,k3,k4,k5,k6,k7⟩:=A.all;by_cases D:k<cs.length
  .have hg:∃g,pca=some ⟨g,0,none⟩:=by
    obtain⟨g,cp',h⟩:=Zm Z.o X;injection h with h1;exact⟨g,h1⟩
   obtain⟨g,rfl⟩:=hg;have i:=I<|Ze Z z;obtain⟨f1,f2,f3⟩:=Dt cs k;rw[List.getElem?_eq_getElem D]at f1 f2 f3;have d1:=Zc i _ _ f1;have d2:=Zc i _ _ f2;have d3:=Zc i _ _ f3;have HK:=I λh=>mT s d.2.1 k D h;have HN:U<|RM s (VL cs[k])=true->∀q∈cs.take<|k+1,RM s (VL q)=true:=by
    intro hh q O;rw[List.take_succ_eq_append_getElem D]at O;rcases Wk.mp O with h|h
    .exact HR q h
    .rw[Vr]at h;subst h;exact hh
   generalize cs[k]=c at*;obtain⟨x,y,v⟩:=c;simp only at d1 d2 d3;clear f1 f2 f3;go_upto_region 5 with fail;refine Zs λW hW=>?_;have j:Below _ _ W:=hW▸Yc;have G:U<|Ya W _ _ 268:=hW▸Go.Deep.blk_alloc_new _ _;have H:=I<|z.trans<|j.mono z.size;have P:=I<|B.below j;have Q:U<|Yq W _ _:=I<|(j.block _ A.lt).trans A;have a6:=A.lt;have a7:=B.lt;have a8:=G.lt;have a1:=I<|HL.below H;clear hW j z B A b1 b2 k0 k1 k2 k3 k4 k5 k6 k7 d1 d2 d3 i;have b2:=P.cell 1;have c0:=G.cell 0;have c1:=G.cell 1;have c2:=G.cell 2;simp only[Yf]at b2 c0 c1 c2;go_region_held3 (λu=>u.cell? ⟨w.heap.size+1,1,none⟩=some (.slice la qs.length lc)/\u.cell? ⟨wr.heap.size,0,none⟩=some (.string x)/\u.cell? ⟨wr.heap.size,1,none⟩=some (.string y)) (first|exact⟨b52,c50,c51⟩|exact⟨b2,c0,c1⟩|go_keep) (first
    | (go_at_call 110;refine(zL x<|by exact a1.below ⟨C,C,C,Yj _,λ_ _=>C⟩).m ?_;rintro e w5 ⟨r,rfl,a2,n5,R⟩;have l:U<|BW W w5:=I<|by rw[R];exact⟨C,C,C,Yj _,λ_ _=>C⟩
       have J:=I<|G.below l.o;have S:=I<|P.below l.o;have c50:=J.cell 0;have c51:=J.cell 1;have c52:=J.cell 2;have b52:=S.cell 1;simp only[Yf]at c50 c51 c52 b52;clear R));have HQ:U<|RM s (VL (x,y,v))=!((r.toList==y.toList)==v):=by
    rw[Nm,a2];rfl
   have T:=I<|H.trans<|l.mono H.size;have a3:U<|Yq _ _ _:=I<|(l.block _ Q.lt).trans Q;generalize(r.toList==y.toList)=b at*;by_cases m:b=v
   .have K:=I<|HK<|by rw[HQ,m];simp
    have a0:(b==v)=true:=by rw[m];simp
    go_wp2;go_ret;exact⟨by rw[K];rfl,T⟩
   .have K:=I<|HN<|by rw[HQ];simp[m]
    have a0:(b==v)=false:=by simp[m]
    go_wp2;go_roundg (cs.length-(k+1));case measure=>omega
    case rel=>exact⟨k+1,X,C,by go_num,K,T,a3,S⟩
  .obtain rfl:k=cs.length:=X;have K:=I<|mV s d.2.1<|by have:=HR.o;rwa [X1]at this
   have a9:=HE.o;go_wp2;go_ret;exact⟨by rw[K,<-HE];rfl,z⟩
theorem FQ(l:List Xc):∀k,k<=l.length->RH l k=Yy (l.take k)
 |0,_=>C
 |k+1,h=>by
  have a:k<l.length:=h;rw[RH,FQ l k X];unfold Yy;rw[List.take_succ_eq_append_getElem a,Xa,PE,Gz];have c:l.getD k ([],[])=l[k]:=by rw[Y0,List.getElem?_eq_getElem a];rfl
  rw[c];by_cases d:0<k
  · rw[Ye d,Yd]
    .simp[XY]
    .rw[Kp];intro e;have:=congrArg List.length e;rw[Yz,Xw,TO]at this;omega
  .obtain rfl:k=0:=X;rfl
theorem Nk(l:List Xc)(qs:List<|BA×BA)(h:YX w v l qs):
 CP 32 #[v] w λe u=>∃r:BA,e=.returned (.string r)/\U (bl r=Yy l)/\∃n,u=w.drewN n:=by
 refine(Br v 0 w h.own h.len<|I h.ok).m ?_;rintro e u ⟨r,rfl,a,n,rfl⟩;refine⟨r,C,I ?_,n,C⟩;rw[a,h.say,FQ l _<|by rw[<-h.say,Yz];exact Yj _,<-h.say,Wm<|by rw[Yz];exact Yj _]
def UR:List (F×El)->List F
 |[]=>[]
 |z::l=>z.1::.int .i64 z.2.2::UR l
theorem PX(l m:List<|F×El):UR (l++m)=UR l++UR m:=by
 induction l with
 |nil=>rfl
 |cons a l ih=>simp[UR,ih]
theorem Te (l:List<|F×El)(j:Nat):(UR l)[j*2]?=l[j]?.map (λz=>z.1)/\(UR l)[j*2+1]?=l[j]?.map λz=>E z.2.2:=by
 induction l generalizing j with
 |nil=>simp[UR]
 |cons r l ih=>
  cases j with
  |zero=>simp[UR]
  |succ j=>
   obtain⟨a,c⟩:=ih j;refine⟨?_,?_⟩
   .rw[show(j+1)*2=j*2+1+1 by omega];simpa [UR]using a
   .rw[show(j+1)*2+1=j*2+1+1+1 by omega];simpa [UR]using c
def V3(w:Y)(z:F×El):Prop:=(∃qs,YX w z.1 z.2.1 qs)/\YC z.2.2
theorem V3.below{z:F×El}(h:V3 w z)(a:BW w w'):V3 w' z:=⟨h.1.elim λqs c=>⟨qs,c.below a⟩,h.2⟩
structure YM (w:Y)(v:F)(zs:List<|F×El):Prop where
 own:w.ownsRow 0 118 2 v zs.length<|UR zs
 len:zs.length<=1000000
 ok:∀z∈zs,V3 w z
theorem YM.below{zs:List<|F×El}(h:YM w v zs)(a:BW w w'):YM w' v zs:=⟨Ze h.own a,h.len,λz c=>(h.ok z c).below a⟩
def VG:List (F×El)->F×El->List (F×El)
 |[],x=>[x]
 |y::l,x=>if Op.bytesLess (Yy x.2.1)<|Yy y.2.1then x::y::l else y::VG l x
theorem B9(l:List<|F×El)(x:F×El):(VG l x).map (·.2)=V7 (l.map (·.2)) x.2:=by
 induction l with
 |nil=>rfl
 |cons y l ih=>
  rw[VG,Wb,V7];by_cases h:Op.bytesLess (Yy x.2.1) (Yy y.2.1)=true
  .rw[Ye h,Ye h];rfl
  .rw[Yd h,Yd h,Wb,ih]
theorem Aa(l:List<|F×El)(x z:F×El)(h:z∈VG l x):z=x\/z∈l:=by
 induction l with
 |nil=>rw[VG,Vr]at h;exact .inl h
 |cons y l ih=>
  rw[VG]at h;by_cases a:Op.bytesLess (Yy x.2.1) (Yy y.2.1)=true
  .rw[Ye a,X0]at h;exact h
  .rw[Yd a,X0]at h;rcases h with h|h
   .exact .inr<|h▸Rd ..
   .rcases ih h with h|h
    .exact .inl h
    .exact .inr<|Vf _ h
theorem LH(l:List<|F×El)(x:F×El):(VG l x).length=l.length+1:=by
 induction l with
 |nil=>rfl
 |cons y l ih=>
  rw[VG];split
  .simp
  .simp[ih]
theorem Ya.ownGrownLt{t:TypeId}(h:Ya w a c t){e:TypeId}(d:w.ownsRow base e sz v n xs)(f:w.grownBy w' v.ownBlock)(g:a<base):Ya w' a c t:=
 (f.block a h.lt λe=>by have:=(d.lt a e.symm).1;omega).trans h
theorem jM{l:List<|F×El}(x:F×El)(k:Nat)(h:k<l.length)(a:Op.bytesLess (Yy x.2.1) (Yy l[k].2.1)=true):VG (l.drop k) x=x::l[k]::l.drop (k+1):=by
 rw[List.drop_eq_getElem_cons h,VG,Ye a]
theorem jN{l:List<|F×El}(x:F×El)(k:Nat)(h:k<l.length)(a:¬Op.bytesLess (Yy x.2.1) (Yy l[k].2.1)=true):VG (l.drop k) x=l[k]::VG (l.drop<|k+1) x:=by
 rw[List.drop_eq_getElem_cons h,VG,Yd a]
theorem Tryz.infoREl:(Tryz.prog.info? 118).map (λi=>(i.zero,i.size,i.bytes))=some (some<|.agg #[S0,E 0],2,32):=Kr
theorem GW(zs:List<|F×El)(x:F×El)(w:Y)(h:YM w v zs)(hx:V3 w x)(d0:zs.length<=1000):
 CP 76 #[v,.agg #[x.1,E x.2.2]] w λe w'=>∃rv:F,e=.returned rv/\U (YM w' rv<|VG zs x)/\BW w w':=by
 obtain⟨sa,sc,rfl⟩:=Zd h.own;obtain⟨xv,xl,xn⟩:=x;obtain⟨⟨qs,O⟩,T⟩:=hx;simp only at O T;obtain⟨la,lc,rfl⟩:=Zd O.own;have V:=I h;have HX:=I O;obtain⟨i0,Z,D,G,H⟩:=Xv Tryz.infoREl;clear h O;go_enter func76,ntmps76;go_wp2_with fail;refine(Nk _ _<|HX.below Yc).m ?_;rintro e w1 ⟨tx,rfl,b2,n1,a0⟩;have a4:U _:=a0▸Wn Yc _;have a1:U<|Ya w1 w.heap.size [.slice la qs.length lc,E xn] 118:=a0▸Go.Deep.blk_alloc_new _ _;clear a0;go_wp2;go_loopg [5,6,8] zs.length (λgk v5 v6 v8 wr=>∃(k:Nat)(os:List<|F×El)(dn:Bool),k<=zs.length/\gk=zs.length-k/\v8=E k/\v6=.bool dn/\os.length=k+dn.toNat/\U (wr.ownsRow (w.heap.size+1) 118 2 v5 os.length<|UR os)/\U (VG zs (.slice la qs.length lc,xl,xn)=os++(if dn then zs.drop k else VG (zs.drop k) (.slice la qs.length lc,xl,xn)))/\U (BW w wr)/\U (Ya wr w.heap.size [.slice la qs.length lc,E xn] 118));case atStart=>exact⟨0,[],false,Yr _,C,C,C,C,Xm _ _ _ _,C,a4,a1⟩
 case round=>
  obtain⟨k,os,dn,hk,d4,rfl,rfl,a2,R,S,t,J⟩:=hrel;clear a4 a1;have d1:os.length<=1001:=by rw[a2];cases dn<;>simp<;>omega
  have M:=I a2;clear a2;have b0:=J.cell 0;have b1:=J.cell 1;simp only[Yf]at b0 b1;obtain⟨av,cp,hv⟩:=Zd R.o;subst hv;have d5:=J.lt;by_cases l:k<zs.length
  .obtain⟨g,cpx,hg⟩:=Zm V.own X;injection hg with hg1 _ hg2;subst hg1 hg2;have r:=I<|V.below t;have r0:=Zc r.own _ _<|by rw[(Te _ k).1,List.getElem?_eq_getElem l];rfl
   have r1:=Zc r.own _ _<|by rw[(Te _ k).2,List.getElem?_eq_getElem l];rfl
   have a5:U<|∀W:Y,W.ownsRow 0 118 2 (.slice _ _ sc) zs.length _->W.cell? ⟨g,k*2,none⟩=some (zs[k]).1/\W.cell? _=some (.int _ _):=I λW h=>⟨Zc h _ _<|by rw[(Te _ k).1,List.getElem?_eq_getElem l];rfl,Zc h _ _<|by rw[(Te _ k).2,List.getElem?_eq_getElem l];rfl⟩;have a6:=ZN r.own;have b3:=r.ok _<|List.getElem_mem l;have b4:=I<|List.drop_eq_getElem_cons l;have b5:=I λh=>jM (.slice la qs.length lc,xl,xn) k l h;have b6:=I λh=>jN (.slice la qs.length lc,xl,xn) k l h;generalize zs[k]=z at*;obtain⟨zv,zl,zn⟩:=z;obtain⟨⟨qz,P⟩,b7⟩:=b3;simp only at r0 r1 P b7;obtain⟨lz,cz,rfl⟩:=Zd P.own;have b8:=I P;clear P;simp only at a5;go_wp2_with fail;refine(Nk _ _<|b8.o).m ?_;rintro e w2 ⟨tz,rfl,b9,n2,a7⟩;have m:Below wr.heap.size _ _:=a7▸Wn (Ym _ _) _;have s:=I<|t.trans<|m.mono t.size;have o:=I<|J.below m;have f:=I<|Ze R m;have d2:=I<|r.below m;have d3:=m.size;have r02:=(m.cell a6).trans r0;have r12:=(m.cell a6).trans r1;clear a7 m r0 r1 b0 b1 J R t r;have b0:=o.cell 0;have b1:=o.cell 1;simp only[Yf]at b0 b1;have a8:U<|Op.bytesLess tx.toList tz.toList=Op.bytesLess _ _:=I<|by rw[ZA,ZA,b2,b9]
   cases dn with
   |true=>
    have K:U<|(os++[((.slice lz qz.length cz,zl,zn):F×El)]).length=k+1+true.toNat:=I<|by rw[Yx,M];simp;try omega
    have L:U<|VG zs (.slice la qs.length lc,xl,xn)=(os++[(.slice lz qz.length cz,zl,zn)])++zs.drop (k+1):=by
     rw[S,Ye C,b4,Vd];rfl
    go_wp2_with(at_builtin;refine XC _ C (.tmp 36) (.tmp 41) 53 C (w.heap.size+1) 118 i0 (.agg #[S0,E 0]) 2 32 underlying53 Z D G H C N _ _ _ C (f.alloc _) ⟨w2.heap.size,0,none⟩ 1 1 [.slice lz qz.length cz,E zn] C C (Z1 C) ?c2 ?c3 ?c4 ?c5 ?_);case c2=>intro u i;simp at i;rcases i with rfl|rfl<;>rfl
    case c3=>unfold maxLen;first|omega|(simp;omega)
    case c4=>first|omega|(simp;omega)
    case c5=>first|omega|(simp;omega)
    intro v' A c a _;have d:=I<|QK (s.alloc s.size _) a λq B=>by have:=(f.lt q B).1;omega
    have j:=I<|Ya.ownGrownLt (o.below Yc) (f.alloc _) a X;have n:U<|A.ownsRow (w.heap.size+1) 118 2 v' (os++[((.slice lz qz.length cz,zl,zn):F×El)]).length<|UR<|os++[(.slice lz qz.length cz,zl,zn)]:=by rwa [PX,Yx]
    clear c a;go_wp2;go_roundg (zs.length-(k+1));case measure=>omega
    case rel=>exact⟨k+1,_,true,X,C,by go_num,C,K,n,L,d,j⟩
   |false=>
    by_cases Q:Op.bytesLess (Yy xl) (Yy zl)=true
    .have L:U<|VG zs (.slice la qs.length lc,xl,xn)=(os++[(.slice la qs.length lc,xl,xn)]++[(.slice lz qz.length cz,zl,zn)])++zs.drop (k+1):=I<|by
      rw[S,Yd N,b5 Q,Vd,Vd];rfl
     have c0:Op.bytesLess tx.toList tz.toList=true:=by rw[a8,Q]
     have K:U<|(os++[((.slice la qs.length lc,xl,xn):F×El)]++[((.slice lz qz.length cz,zl,zn):F×El)]).length=k+1+true.toNat:=I<|by rw[Yx,Yx,M];simp;try omega
     go_wp2_with(at_builtin;refine XC _ C (.tmp 32) (.tmp 34) 53 C (w.heap.size+1) 118 i0 (.agg #[S0,E 0]) 2 32 underlying53 Z D G H C N _ _ _ C (f.alloc _) ⟨w2.heap.size,0,none⟩ 1 1 [.slice la qs.length lc,E xn] C C (Z1 C) ?c2 ?c3 ?c4 ?c5 ?_);case c2=>intro u i;simp at i;rcases i with rfl|rfl<;>rfl
     case c3=>unfold maxLen;first|omega|(simp;omega)
     case c4=>first|omega|(simp;omega)
     case c5=>first|omega|(simp;omega)
     intro v' A c a _;have d:=I<|QK (s.alloc s.size _) a λq B=>by have:=(f.lt q B).1;omega
     have j:=I<|Ya.ownGrownLt (o.below Yc) (f.alloc _) a X;have n:U<|A.ownsRow (w.heap.size+1) 118 2 v' (os++[((.slice la qs.length lc,xl,xn):F×El)]).length<|UR<|os++[(.slice la qs.length lc,xl,xn)]:=by rwa [PX,Yx]
     have c1:=I<|V.below d;obtain⟨e0,e1⟩:=a5.o A c1.own;obtain⟨av6,cp6,c6⟩:=Zd n;subst c6;have d6:=j.lt;have d7:(os++[((.slice la qs.length lc,xl,xn):F×El)]).length<=1002:=by simp;omega
     clear c a r02 r12 b0 b1;generalize d8:os++[((.slice la qs.length lc,xl,xn):F×El)]=os6 at*;go_wp2_with(at_builtin;refine XC _ C (.tmp 36) (.tmp 41) 53 C (w.heap.size+1) 118 i0 (.agg #[S0,E 0]) 2 32 underlying53 Z D G H C N _ _ _ C (n.alloc _) ⟨A.heap.size,0,none⟩ 1 1 [.slice lz qz.length cz,E zn] C C (Z1 C) ?c2 ?c3 ?c4 ?c5 ?_);case c2=>intro u i;simp at i;rcases i with rfl|rfl<;>rfl
     case c3=>unfold maxLen;first|omega|(simp;omega)
     case c4=>first|omega|(simp;omega)
     case c5=>first|omega|(simp;omega)
     intro v' w7 a3 p _;have c7:=I<|QK (d.alloc d.size _) p λq B=>by have:=(n.lt q B).1;omega
     have a9:=I<|Ya.ownGrownLt (j.below Yc) (n.alloc _) p X;have c8:U<|w7.ownsRow (w.heap.size+1) 118 2 v' (os6++[((.slice lz qz.length cz,zl,zn):F×El)]).length<|UR<|os6++[(.slice lz qz.length cz,zl,zn)]:=by rwa [PX,Yx]
     clear a3 p;go_wp2;go_roundg (zs.length-(k+1));case measure=>omega
     case rel=>exact⟨k+1,_,true,X,C,by go_num,C,K,c8,L,c7,a9⟩
    .have L:U<|VG zs (.slice la qs.length lc,xl,xn)=(os++[(.slice lz qz.length cz,zl,zn)])++VG (zs.drop<|k+1) (.slice la qs.length lc,xl,xn):=by
      rw[S,Yd N,b6 Q,Vd];rfl
     have K:U<|(os++[((.slice lz qz.length cz,zl,zn):F×El)]).length=k+1+false.toNat:=I<|by rw[Yx,M];simp;try omega
     have c0:Op.bytesLess tx.toList tz.toList=false:=by rw[a8];simpa using Q
     go_wp2_with(at_builtin;refine XC _ C (.tmp 36) (.tmp 41) 53 C (w.heap.size+1) 118 i0 (.agg #[S0,E 0]) 2 32 underlying53 Z D G H C N _ _ _ C (f.alloc _) ⟨w2.heap.size,0,none⟩ 1 1 [.slice lz qz.length cz,E zn] C C (Z1 C) ?c2 ?c3 ?c4 ?c5 ?_);case c2=>intro u i;simp at i;rcases i with rfl|rfl<;>rfl
     case c3=>unfold maxLen;first|omega|(simp;omega)
     case c4=>first|omega|(simp;omega)
     case c5=>first|omega|(simp;omega)
     intro v' A c a _;have d:=I<|QK (s.alloc s.size _) a λq B=>by have:=(f.lt q B).1;omega
     have j:=I<|Ya.ownGrownLt (o.below Yc) (f.alloc _) a X;have n:U<|A.ownsRow (w.heap.size+1) 118 2 v' (os++[((.slice lz qz.length cz,zl,zn):F×El)]).length<|UR<|os++[(.slice lz qz.length cz,zl,zn)]:=by rwa [PX,Yx]
     clear c a;go_wp2;go_roundg (zs.length-(k+1));case measure=>omega
     case rel=>exact⟨k+1,_,false,X,C,by go_num,C,K,n,L,d,j⟩
  .obtain rfl:k=zs.length:=X;rw[List.drop_length]at S;cases dn with
   |true=>
    have HF:U<|YM wr (.slice av os.length cp)<|VG zs (.slice la qs.length lc,xl,xn):=by
     have he:VG zs (.slice la qs.length lc,xl,xn)=os:=by rw[S,Ye C,Ud]
     have c9:=LH zs (.slice la qs.length lc,xl,xn);refine⟨by rw[he];exact TX R,X,λz hz=>?_⟩;rcases Aa _ _ _ hz with h|h
     .rw[h];exact V3.below ⟨⟨qs,HX⟩,T⟩ t
     .exact(V.ok z h).below t
    go_wp2;go_ret;exact⟨_,C,HF,t⟩
   |false=>
    go_wp2_with(at_builtin;refine XC _ C (.tmp 45) (.tmp 47) 53 C (w.heap.size+1) 118 i0 (.agg #[S0,E 0]) 2 32 underlying53 Z D G H C N _ _ _ C (R.alloc _) ⟨wr.heap.size,0,none⟩ 1 1 [.slice la qs.length lc,E xn] C C (Z1 C) ?c2 ?c3 ?c4 ?c5 ?_);case c2=>intro u i;simp at i;rcases i with rfl|rfl<;>rfl
    case c3=>unfold maxLen;first|omega|(simp;omega)
    case c4=>first|omega|(simp;omega)
    case c5=>first|omega|(simp;omega)
    intro v' A c a _;have d:=I<|QK (t.alloc t.size _) a λq B=>by have:=(R.lt q B).1;omega
    have HF:U<|YM A v'<|VG zs (.slice la qs.length lc,xl,xn):=by
     have he:VG zs (.slice la qs.length lc,xl,xn)=os++[(.slice la qs.length lc,xl,xn)]:=by rw[S,Yd N];rfl
     have c9:=LH zs (.slice la qs.length lc,xl,xn);refine⟨by rw[he,PX,Yx];exact TX c,X,λz hz=>?_⟩;rcases Aa _ _ _ hz with h|h
     .rw[h];exact V3.below ⟨⟨qs,HX⟩,T⟩ d
     .exact(V.ok z h).below d
    clear c a;go_wp2;go_ret;exact⟨_,C,HF,d⟩
def RN(by_:List<|LB)(qs:List<|BA×BA):List<|BA×BA:=qs.filter λq=>by_.contains<|bl q.1
theorem ou(by_:List<|LB)(qs:List<|BA×BA):(RN by_ qs).map V8=Zp (qs.map V8) by_:=by
 induction qs with
 |nil=>rfl
 |cons q qs ih=>
  unfold RN Zp at*;rw[Wb,Kq,Kq];by_cases h:by_.contains (bl q.1)=true
  .rw[Ye h,Ye<|show by_.contains (V8 q).1=true from h,Wb,ih]
  .rw[Yd h,Yd<|show¬by_.contains (V8 q).1=true from h,ih]
theorem oA(by_:List<|LB)(k:Nat)(h:k<qs.length):RN by_ (qs.take<|k+1)=RN by_ (qs.take k)++(if by_.contains<|bl (qs[k]).1then[qs[k]]else[]):=by
 unfold RN;rw[List.take_succ_eq_append_getElem h,N7,Kq,Ix]
theorem nu (ns:List BA)(x:BA):(ns.map bl).contains (bl x)=ns.any λn=>n.toList==x.toList:=by
 induction ns with
 |nil=>rfl
 |cons n ns ih=>
  rw[Wb,List.contains_cons,Ij,ih,Nm];congr 1;by_cases h:bl n=bl x
  .simp[h]
  .have a:¬bl x=bl n:=λe=>h e.symm;simp[h,a]
theorem vQ (x:BA)(j:Nat)(h:j<ns.length):(ns.take<|j+1).any λn=>n.toList==x.toList=((ns.take j).any (λn=>n.toList==x.toList)||(ns[j].toList==x.toList)):=by
 rw[List.take_succ_eq_append_getElem h,List.any_append];simp
structure Ul (w:Y)(v:F)(ns:List BA):Prop where
 own:w.ownsRow 0 9 1 v ns.length<|ns.map .string
 len:ns.length<=100000
theorem Ul.below(h:Ul w v ns)(a:BW w w'):Ul w' v ns:=⟨Ze h.own a,h.len⟩
theorem C0{bv:F}(h:YX w v l qs)(o:Ul w bv ns):
 CP 78 #[v,bv] w λe J=>∃(rv:F)(qs':List<|BA×BA),e=.returned rv/\U (YX J rv (Zp l<|ns.map bl) qs')/\BW w J:=by
 obtain⟨la,lc,rfl⟩:=Zd h.own;obtain⟨ba,bc,rfl⟩:=Zd o.own;have p:=I h;have V:=I o;have B:=h.len;have a0:=o.len;obtain⟨i0,W,K,L,M⟩:=Xv Tryz.infoRLabel;clear h o;go_enter func78,ntmps78;go_wp2;go_loopg [5,6] qs.length (λgk v5 v6 wr=>∃k:Nat,k<=qs.length/\gk=qs.length-k/\v6=E k/\U (wr.ownsRow w.heap.size 175 2 v5 (RN (ns.map bl)<|qs.take k).length<|Uu<|RN (ns.map bl)<|qs.take k)/\U (BW w wr));case atStart=>exact⟨0,Yr _,C,C,Xm _ _ _ _,Ym _ _⟩
 case round=>
  obtain⟨k,hk,a1,rfl,r,a⟩:=hrel;obtain⟨av,cp,Z⟩:=Zd r.o;subst Z;by_cases f:k<qs.length
  .obtain⟨g,cpx,hg⟩:=Zm p.own X;injection hg with hg1 _ hg2;subst hg1 hg2;have i:=I<|p.below a;have t:=I<|V.below a;have r0:=Zc i.own _ _<|by rw[(Lr _ k).1,List.getElem?_eq_getElem f];rfl
   have r1:=Zc i.own _ _<|by rw[(Lr _ k).2,List.getElem?_eq_getElem f];rfl
   have d:=I<|oA (ns.map bl) k f;have a2:(RN (ns.map bl)<|qs.take k).length<=6001:=by
    have:=Qp (λq:BA×BA=>(ns.map bl).contains<|bl q.1)<|qs.take k;rw[Xw]at this;unfold RN;omega
   generalize qs[k]=q at*;obtain⟨x,y⟩:=q;simp only at r0 r1;rw[nu]at d;have a3:=a.size;clear i;go_wp2;go_loopw [7,8] (λv7 v8 wi=>∃(j:Nat)(m:Bool)(nd:Nat),j<=ns.length/\v8=E j/\v7=.bool m/\U (m=(ns.take j).any λn=>n.toList==x.toList)/\wi=wr.drewN nd) (λ_ v8 _=>ns.length-(intOf v8).toNat);case atStart=>exact⟨0,false,0,Yr _,C,C,C,C⟩
   case round=>
    obtain⟨j,m,nd,hj,rfl,rfl,D,rfl⟩:=hrel;by_cases z:j<ns.length
    .obtain⟨gb,cpb,O⟩:=Zm t.own X;injection O with hgb1 _ hgb2;subst hgb1 hgb2;have n0:=Zc t.own j _<|by rw[Vs,List.getElem?_eq_getElem z];rfl
     have G:=I<|vQ x j z;rw[<-D]at G;generalize ns[j]=n at*;cases m with
     |true=>
      go_wp2;go_quiet (fail);go_wp2;go_roundw;case rel=>exact⟨j+1,true,_,X,by go_num,C,I G.symm,C⟩
      case measure=>simp[intOf];omega
     |false=>
      go_wp2;go_quiet (fail);go_wp2;go_roundw;case rel=>exact⟨j+1,_,_,X,by go_num,C,I<|by rw[G,Kx],C⟩
      case measure=>simp[intOf];omega
    .obtain rfl:j=ns.length:=X;rw[X1]at D;rw[<-D]at d;have A:=I<|FE r nd;cases m with
     |true=>
      rw[Ye C]at d;go_wp2_with(at_builtin;refine XC _ C (.tmp 35) (.tmp 40) 102 C w.heap.size 175 i0 (.agg #[.string ByteArray.empty,.string ByteArray.empty]) 2 32 underlying102 W K L M C N _ _ _ C (A.alloc _) ⟨wr.heap.size,0,none⟩ 1 1 [.string x,.string y] C C (Z1 C) ?c2 ?c3 ?c4 ?c5 ?_);case c2=>intro u P;simp at P;rcases P with rfl|rfl<;>rfl
      case c3=>unfold maxLen;first|omega|(simp;omega)
      case c4=>first|omega|(simp;omega)
      case c5=>first|omega|(simp;omega)
      intro v' w6 s c _;have Q:=I<|QK ((Wn a _).alloc a.size _) c λq H=>by have:=(r.lt q H).1;omega
      have R:U<|w6.ownsRow w.heap.size 175 2 v' (RN (ns.map bl)<|qs.take<|k+1).length<|Uu<|RN (ns.map bl)<|qs.take<|k+1:=by rwa [d.o,Dn,Yx]
      clear s c;go_wp2;go_roundg (qs.length-(k+1));case measure=>omega
      case rel=>exact⟨k+1,X,C,by go_num,R,Q⟩
     |false=>
      rw[Yd N,Ud]at d;go_wp2;go_roundg (qs.length-(k+1));case measure=>omega
      case rel=>exact⟨k+1,X,C,by go_num,I<|d.o▸A.o,I<|Wn a _⟩
  .obtain rfl:k=qs.length:=X;have S:U<|YX wr (.slice av (RN (ns.map bl)<|qs.take qs.length).length cp) (Zp l<|ns.map bl)<|RN (ns.map bl) qs:=by
    have T:=TX r;rw[X1]at T⊢;refine⟨T,by rw[ou,p.say],Xb (Qp _ _) B,λq H=>p.ok q<|(Qu.1 H).1⟩
   go_wp2;go_ret;exact⟨_,_,C,S,a⟩
