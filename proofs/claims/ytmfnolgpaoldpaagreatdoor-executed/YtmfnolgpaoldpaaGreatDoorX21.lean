/- Parts. -/
import Derived.Test.YtmfnolgpaoldpaaGreatDoorX19
import Derived.RangeFuncNested
import Derived.RangeFuncBound
import Derived.Test.YtmfnolgpaoldpaaGreatDoorX17
set_option linter.all false
set_option maxRecDepth 100000
set_option maxHeartbeats 16000000
namespace Go.Proofs.YtmfnolgpaoldpaaGreatDoor
open Go.RowKit LS Go.Proofs.Tryz
open Go renaming World->Y,Value->F
open Go.RowKit renaming Hid->U
variable {es:Array MapEntry}{os:Array Obj}{k tx:BA}{v:F}{y:LB}{bs:List BA}{l:List Int}{rs:List Wq}{is ys:List YG}{st:List YY}{e:MapEntry}{B b1 b2 base clock i j n op x:Nat}{nd:Nd}{a aa la p:Option Addr}{s:Wq}{w w':Y}
section
def UM(W w':Y):Prop:=∃q os,w'=Sort.grow (W.drewN q) os
theorem UM.refl(W:Y):UM W W:=⟨0,#[],by rw[Sort.grow_empty];rfl⟩
theorem UM.trans{a b c:Y}(h:UM a b)(k:UM b c):UM a c:=by
 obtain⟨q1,o1,rfl⟩:=h;obtain⟨q2,o2,rfl⟩:=k;exact⟨q1+q2,o1++o2,by simp[Sort.grow,World.drewN,Nat.add_assoc]⟩
theorem UM.alloc(W:Y)(o:Obj):UM W<|W.alloc o:=⟨0,#[o],by rw[Sort.alloc_eq_grow];rfl⟩
theorem UM.drewN(W:Y)(n:Nat):UM W<|W.drewN n:=⟨n,#[],(Sort.grow_empty _).symm⟩
theorem UM.drew(W:Y):UM W W.drew:=⟨1,#[],by rw[Sort.grow_empty];rfl⟩
theorem UM.below{W:Y}(h:UM W w'):BW W w':=by
 obtain⟨q,os,rfl⟩:=h;refine⟨C,C,C,by simp[Sort.grow,World.drewN],λk a=>?_⟩;simp[Sort.grow,World.drewN,J9,a]
theorem eh (x y:YG):CP 178 #[.agg #[.slice x.a x.n x.c,.string x.tx,E x.v],.agg #[.slice y.a y.n y.c,.string y.tx,E y.v]] w λe u=>e=.returned (E<|Wx (bl x.tx)<|bl y.tx)/\UM w u:=by
 obtain⟨xa,xn,xc,xt,xq,xv⟩:=x;obtain⟨ya,yn,yc,yt,yq,yv⟩:=y;simp only;go_enter func178,ntmps178;go_upto_region 1 with fail;refine Zs λW d=>?_;have h:U<|UM w W:=d▸(UM.alloc _ _).trans (UM.alloc _ _);have f:U<|Ya W _ _ 223:=d▸(Yc.block _<|Sm).trans YO;have g:U<|Ya W (w.heap.size+1) [.slice ya yn yc,.string yt,E yv] 223:=by rw[d];have:=Go.Deep.blk_alloc_new (w.alloc<|.cells #[.slice xa xn xc,.string xt,E xv] 223)<|.cells #[.slice ya yn yc,.string yt,E yv] 223;rw[Go.Deep.nblk_alloc]at this;exact this
 clear d;have x0:=f.cell 0;have x1:=f.cell 1;have y0:=g.cell 0;have y1:=g.cell 1;simp only[Yf]at x0 x1 y0 y1;go_region_held3 (λu=>u.cell? ⟨w.heap.size,0,none⟩=some (.slice xa xn xc)/\u.cell? ⟨w.heap.size,1,none⟩=some (.string xt)/\u.cell? ⟨w.heap.size+1,0,none⟩=some (.slice ya yn yc)/\u.cell? ⟨w.heap.size+1,1,none⟩=some (.string yt)) (first|exact⟨x0,x1,y0,y1⟩|go_keep) (first
  | (go_at_call 94;refine(Mt).m ?_;rintro e k ⟨rfl,o5,i⟩)
  | (go_at_call 179;refine(ER).m ?_;rintro e l ⟨rfl,j⟩));all_goals
  go_wp2;go_ret;exact⟨C,h.trans<|((UM.alloc _ _).trans<|UM.alloc _ _).trans<|UM.drew _⟩
theorem Ln(x y:LB):decide (Wx x y<0)=Op.bytesLess x y:=by
 unfold Wx;cases h:Op.bytesLess x y
 .cases a:Op.bytesLess y x<;>simp
 .simp
theorem ek:Sort.SWO<|ltOf λx y:YG=>Wx (bl x.tx)<|bl y.tx where
 irrefl x:=by unfold ltOf;rw[Ln];exact R5 _
 trans x y z h1 h2:=by unfold ltOf at*;rw[Ln]at*;exact PU _ _ _ h1 h2
 ntrans x y z h1 h2:=by
  unfold ltOf at*;rw[Ln]at*;cases h:Op.bytesLess (bl x.tx) (bl z.tx)with
  |false=>rfl
  |true=>
   cases a:Op.bytesLess (bl z.tx) (bl y.tx)with
   |true=>rw[PU _ _ _ h a]at h1;cases h1
   |false=>
    have e:=Pc _ _ h2 a;rw[e,h]at h1;cases h1
theorem Dw [Inhabited YG](d:Array YG):(Sort.flatK YG.enc 3 d).toList=Y5 d.toList:=by
 refine PB λt=>?_;by_cases c:t<d.size*3
 .have f:t/3<d.toList.length:=by rw[Sx];omega
  have a:t/3<d.size:=X;obtain⟨g0,g1,g2⟩:=OB _ _ f;have e:(Sort.flatK YG.enc 3 d).toList[t]?=some (YG.enc d[t/3]!)[t%3]!:=by
   rw[QT,<-Sort.get_flatK _ _ _ t c];rw[getElem!_pos _ t<|by rwa [Sort.size_flatK],Array.getElem?_eq_getElem _]
  rw[e,getElem!_pos d _ a];rw[Array.getElem_toList]at g0 g1 g2;rcases(X:t%3=0\/t%3=1\/t%3=2)with h|h|h
  .rw[show t/3*3=t by omega]at g0;rw[h,g0];rfl
  .rw[show t/3*3+1=t by omega]at g1;rw[h,g1];rfl
  .rw[show t/3*3+2=t by omega]at g2;rw[h,g2];rfl
 .rw[Rh<|by rw[Sx,Sort.size_flatK];omega,Rh<|by rw[Hq,Sx];omega]
theorem gU(cur F:Array Value)(h:F.size<=cur.size):(Sort.putCells id 0 F cur).toList.take F.size=F.toList:=by
 apply PB;intro j;by_cases a:j<F.size
 .rw[Ek a,QT];simp[Sort.putCells,a,show j<cur.size by omega]
 .rw[List.getElem?_take_eq_none X,Rh<|by simp;omega]
theorem rP{g:Nat}{cur F:Array Value}{e:TypeId}{fr:Nat×Nat}(a:w.heap[g]?=some (.cells cur e fr)):
 (Sort.grow (Sort.putRow id (Sort.ahead w n) g 0 F) os).heap[g]?=some (.cells (Sort.putCells id 0 F cur) e fr):=by
 have c:=(Xr.1 a).1;rw[Sort.heap_grow_old _ _<|by simpa using c];simp[Sort.putRow,Sort.mapBlock,Sort.ahead,V4,a,Sort.onCells]
theorem rE{g:Nat}{F:Array Value}:w.grownBy (Sort.grow (Sort.putRow id (Sort.ahead w n) g 0 F) os)<|some g:=by
 refine⟨C,C,C,Sm,λk c a=>?_⟩;rw[Sort.heap_grow_old _ _<|by simpa using c];have:g≠k:=λe=>a<|by rw[e]
 simp[Sort.putRow,Sort.mapBlock,Sort.ahead,V4,this]
theorem pQ (p:Option Addr)(cap:Nat)(fv:F)(w:Y):CP 233 #[.slice p 0 cap,E 0,E 0,fv] w λe u=>e=.returned (.tuple #[])/\u=w:=by
 go_enter func233,ntmps233;go_wp2;refine Ol 1 ?_;rw[Q2];go_wp2;go_end0;exact⟨C,C⟩
theorem lN (p:Option Addr)(cap:Nat)(lim:Int)(fv:F)(w:Y):CP 206 #[.slice p 0 cap,E 0,E 0,E lim,fv] w λe u=>e=.returned (.tuple #[])/\u=w:=by
 have a:=λW=>pQ p cap fv W;go_enter func206,ntmps206;go_wp2;refine Ol 1 ?_;rw[Q2];go_wp2_with(go_at_call 233;refine(a _).m ?_;rintro e u ⟨rfl,rfl⟩);(try simp only[Exit.inBlock,Exit.then]);refine YQ (Tq C _ _ _) C ?_;exact⟨C,C⟩
theorem eu {cap:Nat}{fv:F}:CP 177 #[.slice p 0 cap,fv] w λe u=>e=.returned (.tuple #[])/\u=w:=by
 have a:=λlim W=>lN p cap lim fv W;have c:∀W,Calls _ _ _ W λe u=>e=.returned (.int _<|Lib.bitLen 0)/\u=W:=λW=>bits_Len 0 W X X;go_enter func177,ntmps177;go_wp2_with(first|(go_at_call 207;refine(c _).m ?_;rintro e u ⟨rfl,rfl⟩)|(go_at_call 206;refine(a _ _).m ?_;rintro e u ⟨rfl,rfl⟩));go_end0;exact⟨C,C⟩
theorem ej(v:F)(w:Y)(c:w.ownsRow base 223 3 v is.length<|Y5 is)(G:is.length<=1000):
 CP 142 #[v] w λe u=>∃is',e=.returned v/\U (is'.Perm is/\(is'.Pairwise λa b=>Op.bytesLess (bl b.tx) (bl a.tx)=false)/\u.ownsRow base 223 3 v is'.length (Y5 is')/\w.grownBy u v.ownBlock):=by
 haveI:Inhabited YG:=⟨⟨none,0,0,⟨#[]⟩,[],0⟩⟩;by_cases r:is.length=0
 .obtain rfl:=Qq r;obtain⟨av,cp,rfl⟩:=Zd c;have H:=I c;clear c r;go_enter func142,ntmps142;go_wp2_with(go_at_call 177;refine(eu).m ?_;rintro e u ⟨rfl,rfl⟩);go_ret;exact⟨[],C,I ⟨List.Perm.refl _,List.Pairwise.nil,H,⟨C,C,C,Yj _,λ_ _ _=>C⟩⟩⟩
 .obtain⟨g,cp,rfl⟩:=Zm c X;rcases c.2 with⟨h,_⟩|⟨g',cap,cur,h,f,o,r1,r2,r3,r4⟩
  .cases h
  injection h with e1 e2 e3;injection e1 with e1;injection e1 with e1;subst e1 e3;have s:=(Xr.1 o).1;have t:Sort.HoldsK YG.enc 3 w g 0 is.toArray:=by
   intro j k;rw[Sort.size_flatK]at k;have q:j<(Y5 is).length:=by rw[Hq];simpa using k
   refine⟨?_,by simp[World.frozen?,o]⟩;have e:=Zc c j _<|List.getElem?_eq_getElem q;rw[SI,e];have e2:(Sort.flatK YG.enc 3 is.toArray).toList[j]?=(Y5 is)[j]?:=by rw[Dw]
   rw[List.getElem?_eq_getElem q,QT,Array.getElem?_eq_getElem<|by rwa [Sort.size_flatK]]at e2;rw[getElem!_pos _ j<|by rwa [Sort.size_flatK],Ub e2];rfl
  have eg:∀args w,(callFunc 178 _).run _ w=.ok _ w:=enters_of func178 Kr C;have l:CmpLays _ 178 #[] YG.enc 3 _ g 0 is.toArray.size w:=λ_ _ _ _ x y=>eh x y;have d:=AnyQ.slices_SortFunc sortItem 3 isAgg223 sizeOf223 _ (λ_=>C) (λx v h=>by simp[YG.enc]at h;rcases h with rfl|rfl|rfl<;>rfl) _ ek 178 _ g 0 cp _ w eg l t s<|by simp;omega
  change CP 177 _ _ _ at d;rw[Oj]at d;have J:=I d;have K:U<|base<=g/\w.heap[g]?=some _/\is.length<=cp/\cp<=maxLen/\cur.size=cp*3:=I ⟨f,o,r1,r2,r3⟩;clear d l eg t c o f r1 r2 r3 r4;go_enter func142,ntmps142;go_wp2_with(go_at_call 177;refine J.m ?_;rintro e u ⟨rfl,d',n,os,z,L,rfl⟩);go_ret;obtain⟨q1,q2,q3,q4,q5⟩:=K.o;have m:d'.size=is.length:=by rw[z.1];simp
  have p:d'.toList.Perm is:=by
   have:=z.2.2;rwa [Ed X,Ed<|Sm]at this
  refine⟨d'.toList,C,I ⟨p,?_,?_,?_⟩⟩
  .rw[List.pairwise_iff_getElem];intro i j A k B;rw[Sx]at A k;have:=L i j (Yr _) B X;unfold ltOf at this;rw[Ln,getElem!_pos _ i A,getElem!_pos _ j k]at this;simpa using this
  .change (Sort.grow (Sort.putRow id (Sort.ahead w n) g 0<|Sort.flatK YG.enc 3 d') os).ownsRow _ _ _ _ _ _;have D:d'.toList.length=is.length:=by rw[Sx,m]
   rw[D];refine⟨by rw[Hq,D],.inr ⟨g,cp,Sort.putCells _ 0 _ _,C,q1,rP q2,q3,q4,by simp[Sort.putCells,q5],?_⟩⟩;have:=gU cur (Sort.flatK YG.enc 3 _)<|by rw[Sort.size_flatK,m];omega
   rw[Sort.size_flatK,Dw,m]at this;exact this
  .exact rE
theorem Fa(c:w.ownsRow base 223 3 v is.length<|Y5 is)(h:base<=w.heap.size)(f:is.length<=1000)(j:∀i∈is,YR w i)(hd:Tm<|is.map YG.el):
 CP 142 #[v] w λe u=>e=.returned v/\∃is',U<|Y2 u v ((is.map YG.el).foldl V7 []) is'/\Below base w u:=by
 refine(ej v w c f).m ?_;rintro e u ⟨is',rfl,H⟩;obtain⟨g,n,o,k⟩:=H.o;have l:=Wc.grown k c;have d:=λi p=>(j i<|g.mem_iff.1 p).kb l N;refine⟨C,is',I ⟨⟨o.mono<|Yr _,?_,d,by rwa [g.length_eq]⟩,?_⟩⟩
 .refine et hd (g.map _) ?_;rw[Rx];refine NX ?_ n;intro a b r s m;have ea:=(d a r).lb.txt;have eb:=(d b s).lb.txt;show Op.bytesLess (Yy b.labs) (Yy a.labs)=false;unfold YG.labs;rw[<-ea,<-eb];exact m
 .exact(Ym _ w).grown k h λq t=>(c.lt q t).1
theorem Wa.kb{t:TypeId}(h:Wa w v rs)(a:Wc t w w')(c:311≠t)(d:340≠t)(e:315≠t):Wa w' v rs:=⟨a.own h.row c,λs f=>(h.ok s f).kb a d e⟩
def Wq.itm(s:Wq)(v:Int):YG:=⟨s.a,s.n,s.c,s.tx,s.qs,v⟩
theorem CS(h:Y4 w s){v:Int}(a:YC v):YR w<|s.itm v:=⟨h.lb,a⟩
theorem FB(op:Option Nat){l:List<|Int×Int}(c:∀x∈l,Vb x):YC<|X3 op l:=by
 cases op with
 |some o=>exact Nq _
 |none=>
  unfold X3 YC;simp only;cases l with
  |nil=>decide
  |cons a l=>
   rw[J5,<-Ej<|Sm];exact(c _<|List.getLast_mem _).2.2
def X2(op:Option Nat)(rs:List Wq):List YG:=rs.map λs=>s.itm<|X3 op s.jm
theorem CT(op:Option Nat)(n t:Int)(h:rs.map Wq.pr=VH st nd n t):(X2 op rs).map YG.el=P2 st nd op n t:=by
 rw[mQ,<-h];unfold X2;rw[VD,VD];rfl
theorem iJ(h:s.jm≠[]):∃a:s.jm.length-1<s.jm.length,X3 none s.jm=(s.jm[s.jm.length-1]).2:=by
 have c:=QX.2 h;refine⟨X,?_⟩;unfold X3;simp only;rw[<-List.getLast_eq_getElem h];rw[Kb,List.getLast?_eq_some_getLast h];rfl
theorem jT{sv:F}{ss:List YU}{nm:BA}{ln lc:Nat}(t:Int)(m:Up w sv ss)(K:Sw<|ss.map YU.ser)(L:bl nm=nd.name)(hc:Z0 w (.slice la ln lc) nd.kq)(a1:-1000000<=t)(a2:t<=1000000):
 CP 139 #[sv,.agg #[.string nm,.slice la ln lc],E t] w λe w'=>∃v is,e=.returned v/\U (Y2 w' v (Uk (ss.map YU.ser) nd none 10 t) is)/\BW w w':=by
 obtain⟨i0,D,a3,a4,a5⟩:=Xv Tryz.infoItem;obtain⟨sa,scp,rfl⟩:=Zd m.row;have M:=I λW hW=>Ab 10 t W (m.below hW) L (hc.below hW) N N a1 a2;have a6:=I K;have O:=I m.len;clear m L hc K;go_enter func139,ntmps139;go_wp2_with fail;refine(M _ Yh).m ?_;rintro e w1 ⟨rv,rs,rfl,G,P⟩;have Q:U<|BW w _:=I<|Below.trans Yh<|P.mono<|Sm;obtain⟨ra,rcp,rfl⟩:=Zd G.1.row;have b7:rs.length<=30:=by
  have h1:=congrArg List.length G.2;rw[Yz]at h1;have h2:=Bu (ss.map YU.ser) nd 10 t;rw[Yz]at h2;have:=O.o;omega
 clear P M O;have b8:=Q.size;go_wp2;go_loopw [7,16] (λv i wr=>∃k:Nat,k<=rs.length/\i=E k/\wr.ownsRow w.heap.size 223 3 v k (Y5<|X2 none<|rs.take k)/\U (Wa wr (.slice ra rs.length rcp) rs)/\U (BW w wr))
  (λ_ i _=>rs.length-(intOf i).toNat);case atStart=>exact⟨0,Yr _,C,Xm _ _ _ _,I G.1,Q⟩
 case round=>
  obtain⟨k,hk,rfl,d,f,HB⟩:=hrel;have a7:=HB.size;by_cases p:k<rs.length
  .have hg:∃g,ra=some ⟨g,0,none⟩:=by
    obtain⟨g,cp',h⟩:=Zm f.row X;injection h with h1;exact⟨g,h1⟩
   obtain⟨g,rfl⟩:=hg;obtain⟨f1,f2,f3⟩:=DU _ k p;have d1:=Zc f.row _ _ f1;have d2:=Zc f.row _ _ f2;have d3:=Zc f.row _ _ f3;have l:=I<|f.ok _<|List.getElem_mem p;have a8:U<|X2 none (rs.take<|k+1)=X2 none (rs.take k)++[(rs[k]).itm<|X3 none (rs[k]).jm]:=by
    rw[List.take_succ_eq_append_getElem p];unfold X2;rw[Xa];rfl
   generalize rs[k]=s at*;clear f1 f2 f3;have b9:(k:Int)<(rs.length):=X;obtain⟨hj,r⟩:=iJ l.ne;obtain⟨sg,soff,a9,x⟩:=l.sam.resolve_left l.ne;obtain⟨m1,m2⟩:=x.cells _ hj;have b0:=l.len;have c0:=I<|FB none l.ok;have z:=I r;clear r x;rw[a9]at d3;obtain⟨sm,R⟩:∃sm,s.jm.length=sm+1:=⟨s.jm.length-1,X⟩;have b1:((s.jm.length:Int)-1)=(sm):=X;rw[R]at d3 b0;have e1:s.jm.length-1=sm:=X;have m1':wr.cell? ⟨sg,soff+sm*2,none⟩=some (E (s.jm[s.jm.length-1]).1):=by rwa [<-e1]
   have m2':wr.cell? ⟨sg,soff+sm*2+1,none⟩=some (E<|X3 none s.jm):=z.o▸e1▸m2;clear m1 m2 b1 R e1 z;generalize(s.jm[s.jm.length-1]).1=tmx at*;generalize X3 none s.jm=one at*;have b6:((sm:Int)+1-1)=(sm):=X;have A:sg<wr.heap.size:=Xi _ _ m1';have n1:∀o,(wr.alloc o).cell? ⟨sg,soff+sm*2,none⟩=some _:=λo=>by rwa [TM _ _ _ A]
   have n2:∀o,(wr.alloc o).cell? ⟨sg,soff+sm*2+1,none⟩=some _:=λo=>by rwa [TM _ _ _ A]
   go_wp2_with(at_builtin;refine XC _ C (.tmp 28) (.tmp 34) 220 C w.heap.size 223 i0 (.agg #[S0,.string ByteArray.empty,E 0]) 3 48 underlying220 D a3 a4 a5 C N _ _ _ C (((d.alloc _).alloc _).alloc _) ⟨wr.heap.size+2,0,none⟩ 1 1 [.slice s.a s.n s.c,.string s.tx,E one] C C ?c1 ?c2 ?c3 ?c4 ?c5 ?_);case c1=>exact Z1<|Sm
   case c2=>intro u hu;simp at hu;rcases hu with rfl|rfl|rfl<;>rfl
   case c3=>unfold maxLen;omega
   case c4=>omega
   case c5=>simp;omega
   intro v' w3 H j _;have S:=(((HB.alloc X _).alloc (by simp;omega) _).alloc (by simp;omega) _).grown j (by simp;omega) λq hq=>(d.lt q hq).1;have T:∀o o' o'',Wc 223 _<|((wr.alloc o).alloc o').alloc o'':=λo o' o''=>Wc.below ((Yc.alloc (Sm) _).alloc (by simp;omega) _) _;have B:=(T _ _ _).trans<|Wc.grown j<|((d.alloc _).alloc _).alloc _;have J:w3.ownsRow w.heap.size 223 3 v' (k+1)<|Y5<|X2 none<|rs.take<|k+1:=by rwa [a8.o,Lq]
   have b2:=I<|f.kb B N N N;clear d j H T B d1 d2 d3 m1' m2';have b3:=I S;clear S;go_wp2;go_roundw;case rel=>exact⟨k+1,X,by go_num,J,b2,b3⟩
   case measure=>simp[intOf];omega
  .obtain rfl:k=rs.length:=X;rw[X1]at d;have V:=I<|CT none _ t G.2;have a0:(X2 none rs).length=rs.length:=by unfold X2;rw[Yz]
   rw[<-a0]at d;have Z:=I<|Fa d a7 X (λi D=>by
    unfold X2 at D;obtain⟨s,hs,rfl⟩:=XK.1 D;exact CS (f.ok s hs)<|FB _ (f.ok s hs).ok)<|V.o▸GT a6.o nd none 10 t;rw[V]at Z;clear d;go_wp2_with fail;refine Z.m ?_;rintro e w5 ⟨rfl,is',H5⟩;have b4:=I<|HB.trans H5.2;have b5:U<|Y2 _ _ (Uk _ _ _ _ t) _:=I<|by rw[FM];exact H5.1
   go_wp2;go_ret;exact⟨_,is',C,b5,b4⟩
theorem yV {x:Int}(a:l.length<=10000)(c:∀y∈l,YC y)(d:YC x){t0 t1 t2 t3 t4 t5:Int}(f:Vc l=[E t0,E t1,E t2,E t3,E t4,E t5]):CP 140 #[.agg #[E t0,E t1,E t2,E t3,E t4,E t5],E x] w λe u=>∃r0 r1 r2 r3 r4 r5:Int,e=.returned (.agg #[E r0,E r1,E r2,E r3,E r4,E r5])/\U (Vc (l++[x])=[E r0,E r1,E r2,E r3,E r4,E r5])/\BW w u:=by
 have h:=AD l x a c d w;unfold UC at h;rw[f]at h;refine h.m ?_;rintro e u ⟨rfl,g⟩;exact⟨_,_,_,_,_,_,C,I C,g⟩
theorem AA (a:op<=4)(c:l.length<=10000)(d:∀y∈l,YC y){t0 t1 t2 t3 t4 t5:Int}(f:Vc l=[E t0,E t1,E t2,E t3,E t4,E t5]):CP 141 #[.agg #[E t0,E t1,E t2,E t3,E t4,E t5],E op] w λe u=>e=.returned (E<|YZ<|T1 op l)/\BW w u:=by
 have h:=yL a l c d w;unfold UC at h;rw[f]at h;exact h
def RT(w:Y)(a:Nat)(x0 x1 x2 x3 x4 x5:F):Y:=(((((w.setCell ⟨a,0,none⟩ x0).setCell ⟨a,1,none⟩ x1).setCell ⟨a,2,none⟩ x2).setCell ⟨a,3,none⟩ x3).setCell ⟨a,4,none⟩ x4).setCell ⟨a,5,none⟩ x5
theorem iu{a:Nat}{p0 p1 p2 p3 p4 p5 x0 x1 x2 x3 x4 x5:F}{t:TypeId}(h:Ya w a [p0,p1,p2,p3,p4,p5] t):Ya (RT w a x0 x1 x2 x3 x4 x5) a [x0,x1,x2,x3,x4,x5] t:=by
 unfold Ya at h;unfold Ya RT;simp only[World.setCell,V4,h,VE,Wr];rfl
theorem iw{a:Nat}(c:B<=a){x0 x1 x2 x3 x4 x5:F}:Below B w<|RT w a x0 x1 x2 x3 x4 x5:=by
 unfold RT;exact((((((Ym B w).setCell c _).setCell c _).setCell c _).setCell c _).setCell c _).setCell c _
theorem iy{a b:Nat}{c:List F}{t:TypeId}(h:Ya w b c t)(d:b≠a){x0 x1 x2 x3 x4 x5:F}:Ya (RT w a x0 x1 x2 x3 x4 x5) b c t:=by
 unfold RT;exact(((((h.other d _).other d _).other d _).other d _).other d _).other d _
theorem LV(l:List Int):∃t0 t1 t2 t3 t4 t5:Int,Vc l=[E t0,E t1,E t2,E t3,E t4,E t5]:=⟨_,_,_,_,_,_,C⟩
theorem jQ(e0:op<=4){rv:F}(nd:Nd)(n t:Int)(hr:Wa w rv rs)(hm:rs.map Wq.pr=VH st nd n t)(b5:Sw st)(f6:rs.length<=30):
 CP 98 #[E op,rv] w λe f=>∃v is,e=.returned v/\U (Y2 f v (Uk st nd (some op) n t) is)/\BW w f:=by
 obtain⟨i0,hi,b6,b7,b8⟩:=Xv Tryz.infoItem;obtain⟨ra,rcp,rfl⟩:=Zd hr.row;have HR:=I hr;have HM:U<|rs.map _=VH _ _ n t/\Sw _:=⟨hm,b5⟩;clear hr hm b5;go_enter func98,ntmps98;go_wp2_with(at_make;refine Kw _ C _ _ 220 C w.heap.size 223 i0 _ 3 underlying220 hi b6 b7 _ _ _ rs.length C C C ?b2 ?b3 ?b4 ?_);case b2=>rw[b8];omega
 case b3=>unfold maxLen;omega
 case b4=>exact Yj _
 intro w1 a9 O;have b9:=I<|(Ym _ _).grown O (Yj _) λq hq=>by cases hq
 have e1:=I<|HR.below b9;clear O;go_wp2;go_loopw [5,16] (λv i wr=>∃k:Nat,k<=rs.length/\i=E k/\wr.ownsRow w.heap.size 223 3 v k (Y5<|X2 (some op)<|rs.take k)/\U (Wa wr (.slice ra rs.length rcp) rs)/\U (BW w wr))
  (λ_ i _=>rs.length-(intOf i).toNat);case atStart=>exact⟨0,Yr _,C,a9,e1,b9⟩
 case round=>
  rename Y=>wo;obtain⟨k,hk,rfl,A,x,HB⟩:=hrel;have c6:=HB.size;by_cases a3:k<rs.length
  .have hg:∃g,ra=some ⟨g,0,none⟩:=by
    obtain⟨g,cp',h⟩:=Zm x.row X;injection h with h1;exact⟨g,h1⟩
   obtain⟨g,rfl⟩:=hg;obtain⟨f1,f2,f3⟩:=DU _ k a3;have d1:=Zc x.row _ _ f1;have d2:=Zc x.row _ _ f2;have d3:=Zc x.row _ _ f3;have G:=I<|x.ok _<|List.getElem_mem a3;have e2:U<|X2 (some op) (rs.take<|k+1)=X2 (some op) (rs.take k)++[(rs[k]).itm<|X3 (some op) (rs[k]).jm]:=by
    rw[List.take_succ_eq_append_getElem a3];unfold X2;rw[Xa];rfl
   generalize rs[k]=s at*;clear f1 f2 f3;have f7:(k:Int)<(rs.length):=X;obtain⟨sg,soff,c7,P⟩:=G.sam.resolve_left G.ne;have e3:=G.len;rw[c7]at d3;have f5:sg<wo.heap.size:=by
    have hj:=QX.2 G.ne;exact Xi _ _ (P.cells 0 hj).1
   have c8:=I P;clear P c7;obtain⟨sn,a4⟩:∃sn,s.jm.length=sn:=⟨_,C⟩;have a5:=I a4;rw[a4]at d3 e3;clear a4;go_wp2;go_loopw [23] (λi wi=>∃j:Nat,j<=sn/\i=E j/\U (BW wo wi)/\U (Ya wi wo.heap.size [.slice s.a s.n s.c,.string s.tx,.slice (some ⟨sg,soff,none⟩) sn s.sc] 311)/\U (Ya wi (wo.heap.size+1) (Vc ((s.jm.take j).map (·.2))) 313))
    (λi _=>sn-(intOf i).toNat);case atStart=>
    refine⟨0,Yr _,C,I<|Yc.alloc (Sm) _,I ?_,I ?_⟩
    .exact(Yc.block _<|Sm).trans YO
    .have:=Go.Deep.blk_alloc_new (wo.alloc<|.cells #[.slice s.a s.n s.c,.string s.tx,.slice (some ⟨sg,soff,none⟩) sn s.sc] 311)<|.cells #[E 0,E 0,E 0,E 0,E 0,E 0] 313;rw[Go.Deep.nblk_alloc]at this;exact this
   case round=>
    obtain⟨j,hj,rfl,B,Q,m⟩:=hrel;have e4:=B.size;have f8:=Q.lt;have f9:=m.lt;by_cases g0:j<sn
    .have a6:j<s.jm.length:=by rwa [a5.o]
     obtain⟨m1,m2⟩:=c8.cells j a6;have m1':=(Zu.below B).cell m1;have m2':=(Zu.below B).cell m2;have a7:U<|YC _:=I (G.ok _<|List.getElem_mem a6).2.2;have e5:U ((s.jm.take<|j+1).map (·.2)=(s.jm.take j).map (·.2)++[(s.jm[j]).2]):=by rw[List.take_succ_eq_append_getElem a6,Xa];rfl
     have L:U (((s.jm.take j).map (·.2)).length<=10000/\∀y∈(s.jm.take j).map (·.2),YC y):=I ⟨by rw[Yz,Xw];omega,λy hy=>by
      obtain⟨z,hz,rfl⟩:=XK.1 hy;exact(G.ok z<|MX hz).2.2⟩;generalize(s.jm[j]).1=x1 at*;generalize(s.jm[j]).2=x2 at*;clear m1 m2;obtain⟨t0,t1,t2,t3,t4,t5,r⟩:=LV ((s.jm.take j).map (·.2));rw[r]at m;have R:=I r;clear r;have c0:=m.cell 0;have c1:=m.cell 1;have c2:=m.cell 2;have c3:=m.cell 3;have c4:=m.cell 4;have c5:=m.cell 5;simp only[Yf]at c0 c1 c2 c3 c4 c5;have g1:(j:Int)<(sn):=X;go_wp2_with fail;refine Zv λW hW=>?_;have S:Below _ _ W:=hW▸Yc;have c9:=I<|m.below S;have d0:=I<|Q.below S;have a8:=I<|B.trans<|S.mono e4;clear hW S c0 c1 c2 c3 c4 c5 m Q B m1' m2';refine(yV L.1 L.2 a7 R).m ?_;rintro e w5 ⟨r0,r1,r2,r3,r4,r5,rfl,e6,l⟩;have M:=I<|c9.below l;have T:=I<|d0.below l;have p:=I<|a8.trans<|l.mono a8.size;clear l c9 d0 a8 R L a7;have z0:=M.frozen;have c0:=M.cell;go_wp2;go_roundw;case rel=>
      refine⟨j+1,X,by go_num,I<|p.trans<|iw X,I<|iy T X,I ?_⟩;rw[e5,e6];exact iu M
     case measure=>simp[intOf];omega
    .obtain rfl:j=sn:=X;have V:s.jm.take j=s.jm:=by rw[<-a5,X1]
     rw[V]at m;obtain⟨t0,t1,t2,t3,t4,t5,r⟩:=LV (s.jm.map (·.2));rw[r]at m;have R:=I r;have L:U ((s.jm.map (·.2)).length<=10000/\∀y∈s.jm.map (·.2),YC y):=I ⟨by rw[Yz,a5];omega,λy hy=>by
      obtain⟨z,hz,rfl⟩:=XK.1 hy;exact(G.ok z hz).2.2⟩;have d8:U<|X3 (some op) s.jm=YZ _:=I C;generalize X3 (some op) s.jm=one at*;clear r V;have c0:=m.cell;have y0:=Q.cell;have Z:=Ze A B;have e7:=I<|x.below B;have d4:=I<|HB.trans<|B.mono c6;clear A x HB c8 d1 d2 d3;have e8:=d4.size;go_upto_region 11 with fail;have a0:U<|∀f,Ya _ wo.heap.size [.slice s.a s.n s.c,.string s.tx,.slice (some ⟨sg,soff,none⟩) j s.sc] 311->Ya f (wo.heap.size+1) [E t0,E t1,E t2,E t3,E t4,E t5] 313->f.cell? _=some _/\f.cell? _=some _/\f.cell? _=some _/\f.cell? _=some _/\f.cell? _=some _/\f.cell? _=some _/\f.cell? _=some _/\f.cell? _=some _:=I λf h1 h2=>⟨h1.cell 0,h1.cell 1,h2.cell 0,h2.cell 1,h2.cell 2,h2.cell 3,h2.cell 4,h2.cell 5⟩;refine ZW 9 (λf=>f.cell? _=some _/\f.cell? _=some _/\f.cell? _=some _/\f.cell? _=some _/\f.cell? _=some _/\f.cell? _=some _/\f.cell? _=some _/\f.cell? _=some _) Kr (a0.o _ Q.o m.o) λd=>?_;clear c0 y0;refine Za 0 d (h:=Za 1 d (h:=Za 2 d (h:=Za 3 d (h:=Za 4 d (h:=?_)))));refine Zz (i:=5) Kr C λK H=>?_;go_simp;refine(AA e0 L.1 L.2 R).m ?_;rintro e w5 ⟨rfl,l⟩;have p:U<|BW wr _:=I ⟨l.os,l.tape,l.output,l.size,l.block⟩;have M:=I<|m.below p;have T:=I<|Q.below p;clear l;rw[<-d8];go_simp;refine H _ _ (a0 _ T M) λd=>?_;clear H K;try simp only[Act.put,Yt]
     refine Za 6 d (h:=?_);refine Zz (i:=7) Kr C λK H=>?_;have a1:U<|∀o,Below _ _<|w5.alloc o:=I λo=>Yc;go_simp;refine H _ _ (a0 _ (T.below<|a1 _)<|M.below<|a1 _) λd=>?_;clear H K;try simp only[Act.put,Yt]
     refine Zz (i:=8) Kr C λK H=>?_;have D:=Ze Z p;have d5:=p.size;refine SY C _ _ _ C _ 223 _ _ 3 _ underlying220 hi b6 b7 b8 C N _ k _ (by simp[Act.eval]) (D.alloc _) ⟨w5.heap.size,0,none⟩ 1 1 [.slice s.a s.n s.c,.string s.tx,E one] (by simp[Act.eval]) C ?h2 ?h3 ?h4 ?h5 ?h6 ?_;case h2=>exact Z1 C
     case h3=>intro u hu;simp at hu;rcases hu with rfl|rfl|rfl<;>rfl
     case h4=>unfold maxLen;omega
     case h5=>omega
     case h6=>simp;omega
     intro v6 w6 b0 J _;have a2:=(Wc.below (p.trans<|(a1 _).mono d5) _).trans<|Wc.grown J<|D.alloc _;have e9:=I<|(d4.trans<|(p.trans<|(a1 _).mono d5).mono e8).grown J (by simp;omega) λq hq=>(D.lt q hq).1;have b1:w6.ownsRow w.heap.size 223 3 v6 (k+1)<|Y5<|X2 (some op)<|rs.take<|k+1:=by rwa [e2.o,Lq]
     have f0:=I<|e7.kb a2 N N N;refine H _ _ (a0 _ (a2 _ _ _ _ N Q)<|a2 _ _ _ _ N m) λd=>?_;clear H K;try simp only[Act.put,Yt]
     refine ZS Kr Kr C Kr λK H=>?_;go_simp;refine H _ _ ?_;clear H K J b0 D Z a2;go_wp2;go_roundw;case rel=>exact⟨k+1,X,by go_num,b1,f0,e9⟩
     case measure=>simp[intOf];omega
  .obtain rfl:k=rs.length:=X;rw[X1]at A;have d6:=I<|CT (some op) n t HM.1;have d9:(X2 (some op) rs).length=rs.length:=by unfold X2;rw[Yz]
   rw[<-d9]at A;have d7:=I<|Fa A c6 X (λi hi=>by
    unfold X2 at hi;obtain⟨s,hs,rfl⟩:=XK.1 hi;exact CS (x.ok s hs)<|FB _ (x.ok s hs).ok)<|d6.o▸GT HM.2 nd (some op) n t;rw[d6]at d7;clear A;go_wp2_with fail;refine d7.m ?_;rintro e w5 ⟨rfl,is',H5⟩;have p:=I<|HB.trans H5.2;have f4:U<|Y2 _ _ (Uk _ _ _ n t) _:=I<|by rw[FM];exact H5.1
   go_wp2;go_ret;exact⟨_,is',C,f4,p⟩
def Pu(f:Int->Int)(l:List YG):List YG:=l.map λi=>{i with v:=f i.v}
theorem th (f:Int->Int)(l:List YG):(Pu f l).map YG.el=(l.map YG.el).map λe=>(e.1,f e.2):=by
 unfold Pu;rw[VD,VD];rfl
theorem Y2.kb{t:TypeId}{l:List El}(h:Y2 w v l is)(a:Wc t w w')(c:223≠t)(d:340≠t):Y2 w' v l is:=⟨a.own h.row c,h.els,λi e=>(h.ok i e).kb a d,h.len⟩
theorem Ho(v:F)(l:List El)(is:List YG)(g:Nat)(cb:Array F)(f:Int->Int)(w:Y)(hv:Y2 w v l is)(eg:∀args w,(callFunc g args).run prog w=.ok (.enter g args) w)
 (hf:∀W,BW w W->∀x,YC x->CP g (#[E x]++cb) W λe p=>e=.returned (E<|f x)/\BW W p)(a4:∀x,YC x->YC (f x)):
 CP 144 #[v,.func (.func g) #[] cb] w λe p=>∃v' is',e=.returned v'/\U (Y2 p v' (l.map λe=>(e.1,f e.2)) is')/\BW w p:=by
 obtain⟨i0,z,a5,a6,a7⟩:=Xv Tryz.infoItem;obtain⟨ra,rcp,rfl⟩:=Zd hv.row;have HV:=I hv;have c5:=hv.len;have HF:=I hf;have b5:=I a4;clear hv hf a4;go_enter func144,ntmps144;go_wp2_with(at_make;refine Kw _ C _ _ 221 C w.heap.size 223 i0 _ 3 underlying221 z a5 a6 _ _ _ is.length C C C ?b2 ?b3 ?b4 ?_);case b2=>rw[a7];omega
 case b3=>unfold maxLen;omega
 case b4=>exact Yj _
 intro w1 a1 G;have a8:=I<|(Ym _ _).grown G (Yj _) λq R=>by cases R
 clear G;go_wp2;go_loopw [5,13] (λv i wr=>∃k:Nat,k<=is.length/\i=E k/\wr.ownsRow w.heap.size 223 3 v k (Y5<|Pu f<|is.take k)/\U (∀i∈is,YR wr i)/\U (BW w wr))
  (λ_ i _=>is.length-(intOf i).toNat);case atStart=>exact⟨0,Yr _,C,a1,I λi z=>(HV.ok i z).below a8,a8⟩
 case round=>
  rename Y=>wo;obtain⟨k,hk,rfl,m,H,S⟩:=hrel;have b6:=S.size;by_cases T:k<is.length
  .have hg:∃g,ra=some ⟨g,0,none⟩:=by
    obtain⟨g,cp',h⟩:=Zm HV.row X;injection h with V;exact⟨g,V⟩
   obtain⟨vg,rfl⟩:=hg;have L:=I<|Ze HV.row S;obtain⟨f1,f2,f3⟩:=OB _ k T;have d1:=Zc L _ _ f1;have d2:=Zc L _ _ f2;have d3:=Zc L _ _ f3;have b7:U<|Pu f (is.take<|k+1)=Pu f (is.take k)++[{is[k]with v:=f (is[k]).v}]:=by
    rw[List.take_succ_eq_append_getElem T];unfold Pu;rw[Xa];rfl
   have b8:=I (H _<|List.getElem_mem T).vok;generalize is[k]=s at*;clear f1 f2 f3;have c6:(k:Int)<(is.length):=X;go_upto_region 5 with fail;refine Zs λwr hW=>?_;have M:Below _ _ _:=hW▸Yc;have HX:U<|Ya _ _ [.slice _ _ _,.string _,.int _ _] 223:=hW▸YO;have A:=I<|S.trans<|M.mono b6;have b9:=I λq R=>(m.lt q R).2;have O:=Ze m M;have b1:=I λi z=>(H i z).below M;have c0:=A.size;clear hW M m S H L d1 d2 d3;have P:U<|∀p,Ya p wo.heap.size [.slice s.a s.n s.c,.string s.tx,E s.v] 223->p.cell? _=some _/\p.cell? _=some _/\p.cell? _=some _:=I λp V=>⟨V.cell 0,V.cell 1,V.cell 2⟩;refine ZW 10 (λp=>p.cell? _=some _/\p.cell? _=some _/\p.cell? _=some _) Kr (P.o _ HX.o) λd=>?_;refine Za 0 d (h:=Za 1 d (h:=Za 2 d (h:=Za 3 d (h:=Za 4 d (h:=Za 5 d (h:=?_))))));refine Zz (i:=6) Kr C λK B=>?_;have a9:=I<|HF wr.drew (⟨A.os,A.tape,A.output,A.size,A.block⟩) _ b8;go_simp;refine a9.m ?_;rintro e w5 ⟨rfl,D⟩;have J:U<|BW wr _:=I ⟨D.os,D.tape,D.output,D.size,D.block⟩;have Z:=I<|HX.below J;clear D a9;go_simp;refine B _ _ (P _ Z) λd=>?_;clear B K;try simp only[Act.put,Yt]
   refine Za 7 d (h:=?_);refine Zz (i:=8) Kr C λK B=>?_;have Q:U<|∀o,Below _ _<|w5.alloc o:=I λo=>Yc;go_simp;refine B _ _ (P _<|Z.below<|Q _) λd=>?_;clear B K;try simp only[Act.put,Yt]
   refine Zz (i:=9) Kr C λK B=>?_;have t:=Ze O J;have b0:=J.size;refine SY C _ _ _ C _ 223 _ _ 3 _ underlying221 z a5 a6 a7 C N _ k _ (by simp[Act.eval]) (t.alloc _) ⟨w5.heap.size,0,none⟩ 1 1 [.slice s.a s.n s.c,.string s.tx,E<|f s.v] (by simp[Act.eval]) C ?h2 ?h3 ?h4 ?h5 ?h6 ?_;case h2=>exact Z1 C
   case h3=>intro u hu;simp at hu;rcases hu with rfl|rfl|rfl<;>rfl
   case h4=>unfold maxLen;omega
   case h5=>omega
   case h6=>simp;omega
   intro v6 w6 a2 r hwhere6;have c1:=I λi z=>(b1 i z).kb ((Wc.below (J.trans<|(Q _).mono b0) _).trans<|Wc.grown r<|t.alloc _) N;have c2:=I<|(A.trans<|(J.trans<|(Q _).mono b0).mono c0).grown r (by simp;omega) λq R=>(t.lt q R).1;have a3:w6.ownsRow w.heap.size 223 3 v6 (k+1)<|Y5<|Pu f<|is.take<|k+1:=by rwa [b7.o,Lq]
   have c3:=I<|(Z.below<|Q _).grown r λe=>by have:=b9 _ e.symm;omega
   refine B _ _ (P _ c3) λd=>?_;clear B K;try simp only[Act.put,Yt]
   refine ZS Kr Kr C Kr λK B=>?_;go_simp;refine B _ _ ?_;clear B K r a2 t O hwhere6;go_wp2;go_roundw;case rel=>exact⟨k+1,X,by go_num,a3,c1,c2⟩
   case measure=>simp[intOf];omega
  .obtain rfl:k=is.length:=X;rw[X1]at m;have a0:(Pu f is).length=is.length:=by unfold Pu;rw[Yz]
   rw[<-a0]at m;have c4:U<|Y2 _ _ (l.map _) _:=I ⟨m.mono<|Yr _,by rw[th,HV.els],λi z=>by
    unfold Pu at z;obtain⟨j,hj,rfl⟩:=XK.1 z;exact⟨(H j hj).lb,b5 _ (H j hj).vok⟩,by rwa [a0]⟩;clear m;go_wp2;go_ret;exact⟨_,_,C,c4,S⟩
theorem D8 (x:YG)(tx:BA)(w:Y):CP 210 #[.agg #[.slice x.a x.n x.c,.string x.tx,E x.v],.string tx] w λe u=>e=.returned (E<|Wx (bl x.tx)<|bl tx)/\BW w u:=by
 obtain⟨xa,xn,xc,xt,xq,xv⟩:=x;simp only;go_enter func210,ntmps210;go_wp2_with fail;refine(Mt).m ?_;rintro e g ⟨rfl,o5,d⟩;have f:U _:=d▸Yc.alloc (Sm) _;clear d;go_wp2_with(go_at_call 179;refine(ER).m ?_;rintro e h ⟨rfl,rfl⟩);go_ret;exact⟨C,f⟩
theorem tt{x:LB}(h:Wx x y=0):x=y:=by
 unfold Wx at h;cases a:Op.bytesLess x y with
 |true=>rw[a]at h;simp at h
 |false=>
  cases c:Op.bytesLess y x with
  |true=>rw[a,c]at h;simp at h
  |false=>exact Pc _ _ a c
theorem tq{x:LB}:Wx x x=0:=by unfold Wx;rw[R5];rfl
def Oe(is:List YG):Prop:=is.Pairwise λa b=>Op.bytesLess (bl a.tx) (bl b.tx)=true
theorem Oe.mono (h:Oe is)(d:i<=j)(e:j<is.length)(a:Op.bytesLess (bl is[j].tx) y=true):Op.bytesLess (bl (is[i]' X).tx) y=true:=by
 rcases Sf i j with c|c
 .exact PU _ _ _ (List.pairwise_iff_getElem.1 h i j _ _ c) a
 .obtain rfl:i=j:=X;exact a
def Pw(is:List YG)(y:LB)(k:Nat)(ok:Bool):Prop:=(ok=true/\∃h:k<is.length,bl (is[k]).tx=y)\/(ok=false/\∀i∈is,bl i.tx≠y)
theorem EL(f:Oe is){k:Nat}(g:∀j (h:j<is.length),j<k->Op.bytesLess (bl is[j].tx) y=true)(l:∀j (h:j<is.length),k<=j->Op.bytesLess (bl is[j].tx) y=false)(m:∀h:k<is.length,bl (is[k]).tx≠y):∀i∈is,bl i.tx≠y:=by
 intro i n c;obtain⟨j,d,rfl⟩:=List.mem_iff_getElem.1 n;rcases Sf j k with a|a
 .have:=g j d a;rw[c,R5]at this;cases this
 .rcases Sf k j with e|e
  .have e1:=List.pairwise_iff_getElem.1 f k j X d e;rw[c,l k _<|Yj _]at e1;cases e1
  .obtain rfl:k=j:=X;exact m _ c
theorem uM(l:w.ownsRow 0 223 3 v is.length<|Y5 is)(S:is.length<=1000)(Q:Oe is):
 CP 209 #[v,.string tx,.func (.func 210) #[] #[]] w λe u=>∃(k:Nat)(ok:Bool),e=.returned (.tuple #[E k,.bool ok])/\U (Pw is (bl tx) k ok)/\BW w u:=by
 obtain⟨ra,rcp,rfl⟩:=Zd l;have z:=XI l;have A:=XI Q;clear l Q;go_enter func209,ntmps209;go_wp2;go_loopg [9,10] is.length (λkx s5 s6 wr=>∃lo a:Nat,s5=E lo/\s6=E a/\lo<=a/\a<=is.length/\a-lo<=kx/\U (BW w wr)/\U ((∀j (h:j<is.length),j<lo->Op.bytesLess (bl is[j].tx) (bl tx)=true)/\(∀j (h:j<is.length),a<=j->Op.bytesLess (bl is[j].tx) (bl tx)=false)));case atStart=>exact⟨0,is.length,C,C,Yr _,Yj _,X,XI<|Ym _ _,XI ⟨λj _ h=>absurd h<|Tu _,λj h p=>X⟩⟩
 case round=>
  obtain⟨lo,a,rfl,rfl,T,R,B,m,I⟩:=hrel;by_cases V:lo<a
  .have H:(lo+a)/2<is.length:=X;have B:∃g,ra=some ⟨g,0,none⟩:=by
    obtain⟨g,cp',h⟩:=Zm z.o X;injection h with h1;exact⟨g,h1⟩
   obtain⟨g,rfl⟩:=B;have c:=XI<|Ze z m;obtain⟨f1,f2,f3⟩:=OB _ _ H;have d1:=Zc c _ _ f1;have d2:=Zc c _ _ f2;have d3:=Zc c _ _ f3;have W:(((lo+a)/2:Nat))=((lo:Int)+(a))/2:=X;have Z:(((lo:Int)+(a))/2).toNat=(lo+a)/2:=X;have n:=D8 is[(lo+a)/2] tx wr;have J:U<|Op.bytesLess _ (bl tx)=true->∀i (h:i<is.length),i<=(lo+a)/2->Op.bytesLess (bl is[i].tx) _=true:=XI λD i h p=>A.mono p H D;have K:U<|Op.bytesLess (bl (is[(lo+a)/2]).tx) _=false->∀i (h:i<is.length),(lo+a)/2<=i->Op.bytesLess _ _=false:=XI λD i h p=>by
    cases d:Op.bytesLess (bl is[i].tx) (bl tx)with
    |false=>rfl
    |true=>rw[A.mono p h d]at D;cases D
   have f:=Ln (bl (is[(lo+a)/2]).tx)<|bl tx;clear f1 f2 f3 c;generalize is[(lo+a)/2]=x at*;obtain⟨xa,xn,xc,xt,xq,xv⟩:=x;simp only at n J K f d1 d2 d3;generalize Wx (bl xt) (bl tx)=cr at*;cases o:Op.bytesLess (bl xt) (bl tx)with
   |true=>
    rw[o]at f;have O:=XI<|J o;clear o;have P:cr<0:=by simpa using f
    clear f;go_wp2_with(go_at_call 210;refine n.m ?_;rintro e u ⟨rfl,d⟩);go_roundg (a-((lo+a)/2+1));case measure=>omega
    case rel=>
     exact⟨(lo+a)/2+1,a,by rw[show((lo)+(a))/2+1=(((lo+a)/2+1:Nat):Int)by omega],C,X,R,Yj _,XI<|m.trans<|d.mono m.size,XI ⟨λj h p=>O j h X,I.2⟩⟩
   |false=>
    rw[o]at f;have O:=XI<|K o;clear o;have P:¬cr<0:=by simpa using f
    clear f;go_wp2_with(go_at_call 210;refine n.m ?_;rintro e u ⟨rfl,d⟩);go_roundg ((lo+a)/2-lo);case measure=>omega
    case rel=>
     exact⟨lo,(lo+a)/2,C,by rw[show((lo)+(a))/2=(((lo+a)/2:Nat):Int)by omega],X,X,Yj _,XI<|m.trans<|d.mono m.size,XI ⟨I.1,O⟩⟩
  .obtain rfl:a=lo:=X;have d:=m.o;by_cases q:a<is.length
   .have B:∃g,ra=some ⟨g,0,none⟩:=by
     obtain⟨g,cp',h⟩:=Zm z.o X;injection h with h1;exact⟨g,h1⟩
    obtain⟨g,rfl⟩:=B;have c:=XI<|Ze z m;obtain⟨f1,f2,f3⟩:=OB _ _ q;have d1:=Zc c _ _ f1;have d2:=Zc c _ _ f2;have d3:=Zc c _ _ f3;have n:=D8 is[a] tx wr;have L:U<|Wx _ (bl tx)=0->Pw _ _ _ _:=XI λh=>.inl ⟨C,q,tt h⟩;have M:U<|Wx (bl (is[a]).tx) (bl tx)≠0->Pw _ _ a _:=XI λh=>.inr ⟨C,EL A I.1 I.2 λ_ e=>h<|e▸tq⟩;generalize is[a]=x at*;obtain⟨xa,xn,xc,xt,xq,xv⟩:=x;simp only at n L M d1 d2 d3;generalize Wx (bl xt) (bl tx)=cr at*;clear f1 f2 f3 c;by_cases G:cr=0
    .have r:=XI<|L G;subst G;go_wp2_with(go_at_call 210;refine n.m ?_;rintro e u ⟨rfl,s⟩);have t:=d.trans<|s.mono d.size;go_ret2;exact⟨a,true,C,r,t⟩
    .have r:=XI<|M G;have a0:(cr==0)=false:=by simpa using G
     go_wp2_with(go_at_call 210;refine n.m ?_;rintro e u ⟨rfl,s⟩);have t:=d.trans<|s.mono d.size;go_ret2;exact⟨a,false,C,r,t⟩
   .have r:U<|Pw _ _ a _:=XI<|.inr ⟨C,EL A I.1 I.2 λh=>absurd h q⟩;go_wp2;go_ret2;exact⟨a,false,C,r,d⟩
def OZ(ys:List YG)(y:LB):Option YG:=ys.find? λj=>decide<|bl j.tx=y
theorem se(c:Oe ys){k:Nat}{a:k<ys.length}(h:bl (ys[k]).tx=y):OZ ys y=some ys[k]:=by
 unfold OZ;rw[List.find?_eq_some_iff_getElem];refine⟨by simpa using h,k,a,C,λj d=>?_⟩;have e:=List.pairwise_iff_getElem.1 c j k X a d;simp only[MT,O5];intro e2;rw[e2,h,R5]at e;cases e
theorem tZ(h:∀i∈ys,bl i.tx≠y):OZ ys y=none:=by
 unfold OZ;rw[List.find?_eq_none];intro x a;simpa using h x a
def O0(ys:List YG)(y:LB)(x:Int)(ok:Bool):Prop:=(ok=true/\∃j∈ys,OZ ys y=some j/\x=j.v)\/(ok=false/\OZ ys y=none)
theorem si{c:Nat}(d:w.ownsRow 0 223 3 v is.length<|Y5 is)(o:is.length<=1000)(s:Oe is):
 CP 180 #[v,.agg #[.slice a n c,.string tx]] w λe u=>∃(x:Int)(ok:Bool),e=.returned (.tuple #[E x,.bool ok])/\U (O0 is (bl tx) x ok)/\BW w u:=by
 obtain⟨ra,rcp,rfl⟩:=Zd d;have p:=I d;have t:=I s;clear d s;go_enter func180,ntmps180;go_wp2_with fail;refine(Mt).m ?_;rintro e G ⟨rfl,o5,j⟩;have i:U _:=j▸Yc.alloc (Sm) _;clear j;go_wp2_with fail;refine(uM (Ze p i) o t).m ?_;rintro e H ⟨k,ok,rfl,q,l⟩;have f:=I<|i.trans<|l.mono i.size;clear l i;rcases q.o with⟨rfl,A,m⟩|⟨rfl,z⟩
 .have B:∃g,ra=some ⟨g,0,none⟩:=by
   obtain⟨g,cp',h⟩:=Zm p.o X;injection h with h1;exact⟨g,h1⟩
  obtain⟨g,rfl⟩:=B;have d3:=Zc (Ze p f) _ _ (OB _ k A).2.2;have r:U<|O0 _ _ _ _:=I<|.inl ⟨C,is[k],List.getElem_mem _,se t m,C⟩;have D:(k:Int)<(is.length):=X;clear m q;generalize(is[k]).v=x at*;go_wp2;go_ret2;exact⟨x,true,C,r,f⟩
 .have r:U<|O0 _ _ 0 _:=I<|.inr ⟨C,tZ z⟩;clear z q;go_wp2;go_ret2;exact⟨0,false,C,r,f⟩
def U0(op:Nat)(ys:List YG)(i:YG):Option YG:=(OZ ys<|bl i.tx).map λj=>{i with v:=YI op i.v j.v}
theorem tK{α β:Type}{f:α->Option β}{l:List α}{a:α}:(l++[a]).filterMap f=l.filterMap f++(f a).toList:=by
 rw[List.filterMap_append];cases h:f a<;>simp[h]
theorem D9{α:Type}{p q:α->Bool}:∀{l:List α},(∀a∈l,p a=q a)->l.find? p=l.find? q
 |[],_=>C
 |a::l,h=>by
  rw[List.find?_cons,List.find?_cons,h a<|Sm,D9 λb c=>h b<|Vf _ c]
theorem yi(a:∀j∈ys,YR w j){i:YG}(c:YR w i):(U0 op ys i).map YG.el=Oc op (ys.map YG.el) i.el:=by
 unfold U0 Oc OZ;rw[List.find?_map,Option.map_map,Option.map_map];have e:ys.find? (λj=>decide<|bl j.tx=bl i.tx)=ys.find? ((λf=>decide<|Yy i.el.1=Yy f.1)∘YG.el):=by
  refine D9 λj d=>?_;show decide (bl j.tx=bl i.tx)=decide (Yy i.labs=Yy j.labs);unfold YG.labs;rw[<-c.lb.txt,<-(a j d).lb.txt,O8];exact⟨λh=>h.symm,λh=>h.symm⟩
 rw[e];rfl
theorem AS{op:Nat}{w:Y}{ys:List YG}(a:∀j∈ys,YR w j):∀{xs:List YG},(∀i∈xs,YR w i)->(xs.filterMap<|U0 op ys).map YG.el=(xs.map YG.el).filterMap (Oc op<|ys.map YG.el)
 |[],_=>C
 |i::xs,h=>by
  have e1:=yi (op:=op) a<|h i<|Sm;have e2:=AS (op:=op) a λj c=>h j<|Vf _ c;rw[Wb,J0,J0];rw[<-e1];cases U0 op ys i with
  |none=>exact e2
  |some z=>simp only[Wr,Wb,e2]
theorem Y2.txs{l:List El}(h:Y2 w v l is)(c:To l):Oe is:=by
 unfold To at c;rw[<-h.els,Rx]at c;unfold Oe;refine NX ?_ c;intro a b e f d;rw[(h.ok a e).lb.txt,(h.ok b f).lb.txt];exact d
theorem yA(b2:op<=3)(v:F){y:F}(l m:List El)(w:Y)(hv:Y2 w v l is)(V:Y2 w y m ys)(a7:To m):
 CP 147 #[v,y,E (op+1:Nat)] w λe A=>∃v' is',e=.returned v'/\U (Y2 A v' (l.filterMap<|Oc op m) is')/\BW w A:=by
 obtain⟨i0,f,b3,b4,b5⟩:=Xv Tryz.infoItem;obtain⟨ra,rcp,rfl⟩:=Zd hv.row;obtain⟨ya,ycp,rfl⟩:=Zd V.row;have HV:=I hv;have HY:=I V;have b6:=I<|V.txs a7;have c8:=hv.len;have b7:=V.len;obtain⟨oz,Z⟩:∃oz:Int,oz=((op+1:Nat)):=⟨_,C⟩;rw[<-Z];have a8:=I Z;clear hv V a7 Z;go_enter func147,ntmps147;go_wp2;go_loopw [7,14] (λv i wr=>∃(k:Nat)(os:List YG),k<=is.length/\i=E k/\os.length<=k/\wr.ownsRow w.heap.size 223 3 v os.length (Y5 os)/\U (os=(is.take k).filterMap (U0 op ys))/\U ((∀i∈is,YR wr i)/\∀i∈ys,YR wr i)/\U (BW w wr))
  (λ_ i _=>is.length-(intOf i).toNat);case atStart=>exact⟨0,[],Yr _,C,Yr _,Xm _ _ _ _,I C,I ⟨HV.ok,HY.ok⟩,I<|Ym _ _⟩
 case round=>
  rename Y=>wo;obtain⟨k,os,hk,rfl,c7,B,a0,t,HB⟩:=hrel;have b8:=HB.size;by_cases a1:k<is.length
  .have hg:∃g,ra=some ⟨g,0,none⟩:=by
    obtain⟨g,cp',h⟩:=Zm HV.row X;injection h with h1;exact⟨g,h1⟩
   obtain⟨vg,rfl⟩:=hg;have Q:=I<|Ze HV.row HB;obtain⟨f1,f2,f3⟩:=OB _ k a1;have d1:=Zc Q _ _ f1;have d2:=Zc Q _ _ f2;have d3:=Zc Q _ _ f3;have a9:U<|(is.take _).filterMap _=(is.take k).filterMap _++(U0 op ys _).toList:=List.take_succ_eq_append_getElem a1▸tK;have b9:=I (t.1 _<|List.getElem_mem a1).vok;generalize is[k]=s at*;clear f1 f2 f3;have c9:(k:Int)<(is.length):=X;go_wp2_with fail;refine Zv λW hW=>?_;have L:Below _ _ W:=hW▸Yc;have b0:U<|Ya W _ [.slice _ _ _,.string _,.int _ _] 223:=hW▸YO;have R:=I<|HB.trans<|L.mono b8;have c0:=I λq hq=>(B.lt q hq).2;have S:=Ze B L;have O:U<|(∀i∈is,YR W i)/\∀i∈ys,YR W i:=I ⟨λi f=>(t.1 i f).below L,λi f=>(t.2 i f).below L⟩;clear hW L B HB t Q d1 d2 d3;refine(si (Ze HY.row R) b7 b6).m ?_;rintro e wr ⟨x,ok,rfl,a2,G⟩;have HX:=I<|b0.below G;have a3:=I<|R.trans<|G.mono R.size;have p:=Ze S G;have J:U<|(∀i∈is,YR _ i)/\∀i∈ys,YR _ i:=I ⟨λi f=>(O.1 i f).below G,λi f=>(O.2 i f).below G⟩;clear G b0 R S O;have c1:=a3.size;rcases a2.o with⟨rfl,j,hj,M,rfl⟩|⟨rfl,M⟩
   .have P:U<|(is.take<|k+1).filterMap (U0 op ys)=os++[{s with v:=YI op s.v j.v}]:=by
     rw[a9,<-a0];unfold U0;rw[M];rfl
    have c2:=I (J.2 j hj).vok;clear M a2 hj;go_upto_region 7 with fail;have T:U<|∀A,Ya A wo.heap.size [.slice s.a s.n s.c,.string s.tx,E s.v] 223->A.cell? _=some _/\A.cell? _=some _/\A.cell? _=some _:=I λA h1=>⟨h1.cell 0,h1.cell 1,h1.cell 2⟩;refine ZW 11 (λA=>A.cell? _=some _/\A.cell? _=some _/\A.cell? _=some _) Kr (T.o _ HX.o) λd=>?_;refine Za 0 d (h:=Za 1 d (h:=Za 2 d (h:=Za 3 d (h:=Za 4 d (h:=Za 5 d (h:=Za 6 d (h:=?_)))))));refine Zz (i:=7) Kr C λK D=>?_;go_simp;rw[a8];refine(Jl _ b2 _ _ b9 c2 _).m ?_;rintro e w5 ⟨rfl,rfl⟩;rw[<-a8];go_simp;refine D _ _ (T _ HX) λd=>?_;clear D K;try simp only[Act.put,Yt]
    refine Za 8 d (h:=?_);refine Zz (i:=9) Kr C λK D=>?_;have H:U<|∀o,Below _ _<|wr.drew.alloc o:=I λo=>((Ym wr.heap.size _).drew).alloc (Yj _) _;go_simp;refine D _ _ (T _<|HX.below<|H _) λd=>?_;clear D K;try simp only[Act.put,Yt]
    refine Zz (i:=10) Kr C λK D=>?_;refine SY C _ _ _ C _ 223 _ _ 3 _ underlying221 f b3 b4 b5 C N _ _ _ (by simp[Act.eval]) (Ze p<|H _) ⟨wr.heap.size,0,none⟩ 1 1 [.slice s.a s.n s.c,.string s.tx,E<|YI op s.v j.v] (by simp[Act.eval]) C ?h2 ?h3 ?h4 ?h5 ?h6 ?_;case h2=>exact Z1 C
    case h3=>intro u hu;simp at hu;rcases hu with rfl|rfl|rfl<;>rfl
    case h4=>unfold maxLen;omega
    case h5=>omega
    case h6=>simp;omega
    intro v6 w6 a5 r hwhere6;have a4:=(Wc.below (H _) _).trans<|Wc.grown r<|Ze p<|H _;have c3:U<|(∀i∈is,YR _ i)/\∀i∈ys,YR _ i:=I ⟨λi f=>(J.1 i f).kb a4 N,λi f=>(J.2 i f).kb a4 N⟩;have c4:=I<|(a3.trans<|(H _).mono c1).grown r (by simp;omega) λq hq=>(p.lt q hq).1;have a6:w6.ownsRow w.heap.size 223 3 v6 (os++[{s with v:=YI op s.v j.v}]).length<|Y5<|os++[{s with v:=YI op s.v j.v}]:=by rwa [Lq,Yx]
    have c5:=I<|(HX.below<|H _).grown r λe=>by have:=c0 _ e.symm;omega
    refine D _ _ (T _ c5) λd=>?_;clear D K;try simp only[Act.put,Yt]
    refine ZS Kr Kr C Kr λK D=>?_;go_simp;refine D _ _ ?_;clear D K r a5 p hwhere6 a4;go_wp2;go_roundw;case rel=>exact⟨k+1,_,X,by go_num,by simp;omega,a6,I P.symm,c3,c4⟩
    case measure=>simp[intOf];omega
   .have P:U<|os=(is.take _).filterMap _:=I<|by
     rw[a9,<-a0];unfold U0;rw[M];simp
    clear M a2;go_wp2;go_roundw;case rel=>exact⟨k+1,os,X,by go_num,X,p,P,J,a3⟩
    case measure=>simp[intOf];omega
  .obtain rfl:k=is.length:=X;have c6:U<|Y2 _ _ _ _:=I<|by
    have e:=a0.o;rw[X1]at e;refine⟨B.mono<|Yr _,by rw[e,AS t.2 t.1,HV.els,HY.els],λi f=>?_,X⟩;rw[e]at f;obtain⟨z,hz,b1⟩:=List.mem_filterMap.1 f;unfold U0 at b1;obtain⟨q,hq,rfl⟩:=RV.1 b1;exact⟨(t.1 z hz).lb,OW _ _ _ (t.1 z hz).vok⟩
   clear B;go_wp2;go_ret;exact⟨_,_,C,c6,HB⟩
theorem QM(v:F)(w:Y):(Instr.typeAssert (.iface 219 v) 134 219 true).run prog w=.ok (.tuple #[v,.bool true]) w:=Kr
theorem QN(v:F)(w:Y):(Instr.typeAssert (.iface 221 v) 134 219 true).run prog w=.ok (.tuple #[E 0,.bool false]) w:=Kr
theorem RO(v:F)(w:Y):(Instr.typeAssert (.iface 221 v) 134 221 true).run prog w=.ok (.tuple #[v,.bool true]) w:=Kr
theorem nC (x:Int)(a:YC x)(w:Y):CP 148 #[E x] w λe u=>e=.returned (E<|-x)/\BW w u:=by
 unfold YC at a;go_enter func148,ntmps148;go_wp2;go_ret;exact⟨C,Ym _ _⟩
theorem Cd{x:Int}(h:YC x):YC<|-x:=by unfold YC at*;omega
theorem jO (v:F)(V:VV)(h:Vq w v V):CP 100 #[v] w λe u=>∃v',e=.returned v'/\U (Vq u v'<|TH V)/\BW w u:=by
 cases V with
 |inl n=>
  obtain⟨rfl,c⟩:=h;have i:=I<|Cd c;have j:=QM<|E n;unfold YC at c;go_enter func100,ntmps100;go_wp2;go_ret;exact⟨_,C,I ⟨C,i⟩,Ym _ _⟩
 |inr l=>
  obtain⟨s,is,rfl,d⟩:=h;have k:=I d;have j:=QN s;have o:=RO s;have eg:∀args w,(callFunc 148 _).run _ w=.ok _ w:=enters_of func148 Kr C;have m:=I<|Ho s l is 148 #[] _ w k eg (λW _ x a=>nC x a W) λx a=>Cd a;clear d eg;go_enter func100,ntmps100;go_wp2_with(go_at_call 144;refine m.m ?_;rintro e p ⟨v',is',rfl,f,g⟩);go_ret;exact⟨_,C,I ⟨v',is',C,f⟩,g⟩
theorem wU (op:Nat)(d:op<=3)(a x:Int)(f:YC a)(g:YC x)(w:Y)(h:w.cell? ⟨b1,0,none⟩=some (E (op+1:Nat)))(j:w.cell? ⟨b2,0,none⟩=some (E a)):CP 145 #[E x,Vp b1,Vp b2] w λe u=>e=.returned (E<|YI op a x)/\BW w u:=by
 obtain⟨oz,c⟩:∃oz:Int,oz=((op+1:Nat)):=⟨_,C⟩;rw[<-c]at h;have i:U<|∀W,Calls _ _ _ W _:=I λW=>c▸Jl op d a x f g W;clear f g c;go_enter func145,ntmps145;go_wp2_with(go_at_call 143;refine(i.o _).m ?_;rintro e u ⟨rfl,rfl⟩);go_ret;exact⟨C,Ym _ _⟩
theorem wV (op:Nat)(d:op<=3)(a x:Int)(f:YC a)(g:YC x)(w:Y)(h:w.cell? ⟨b1,0,none⟩=some (E (op+1:Nat)))(j:w.cell? ⟨b2,0,none⟩=some (E a)):CP 146 #[E x,Vp b1,Vp b2] w λe u=>e=.returned (E<|YI op x a)/\BW w u:=by
 obtain⟨oz,c⟩:∃oz:Int,oz=((op+1:Nat)):=⟨_,C⟩;rw[<-c]at h;have i:U<|∀W,Calls _ _ _ W _:=I λW=>c▸Jl op d x a g f W;clear f g c;go_enter func146,ntmps146;go_wp2_with(go_at_call 143;refine(i.o _).m ?_;rintro e u ⟨rfl,rfl⟩);go_ret;exact⟨C,Ym _ _⟩
theorem AK(w:Y)(x y:F)(s t:TypeId):Ya ((w.alloc<|.cells #[x] s).alloc<|.cells #[y] t) w.heap.size [x] s/\Ya ((w.alloc<|.cells #[x] s).alloc<|.cells #[y] t) (w.heap.size+1) [y] t:=by
 refine⟨(Yc.block _<|Sm).trans YO,?_⟩;have:=Go.Deep.blk_alloc_new (w.alloc<|.cells #[x] s)<|.cells #[y] t;rw[Go.Deep.nblk_alloc]at this;exact this
theorem mY (n:op<=3){x:F}(y:F)(X Y:VV){w:World}(L:Vq w x X)(A:Vq w y Y)(D:WG 1000 Y):CP 99 #[E (op+1:Nat),x,y] w λe u=>∃v',e=.returned v'/\U (Vq u v'<|QJ op X Y)/\BW w u:=by
 obtain⟨oz,p⟩:∃oz:Int,oz=((op+1:Nat)):=⟨_,C⟩;rw[<-p];have f:=I p;clear p;have eg1:∀args w,(callFunc 145 _).run _ w=.ok _ w:=enters_of func145 Kr C;have eg2:∀args w,(callFunc 146 _).run _ w=.ok _ w:=enters_of func146 Kr C;have EG1:=I eg1;have EG2:=I eg2;clear eg1 eg2;cases X with
 |inl a=>
  obtain⟨rfl,q⟩:=L;have S:=QM<|E a;cases Y with
  |inl b=>
   obtain⟨rfl,r⟩:=A;have M:=QM<|E b;have o:U<|∀W,Calls _ _ _ W _:=I λW=>f.o▸Jl op n a b q r W;have O:=I<|OW op a b q;clear q r;go_enter func99,ntmps99;go_wp2_with(go_at_call 143;refine(o.o _).m ?_;rintro e u ⟨rfl,rfl⟩);go_ret;exact⟨_,C,I ⟨C,O⟩,Yh⟩
  |inr m=>
   obtain⟨s,is,rfl,t⟩:=A;have B:=I t;have o:=I q;have M:=QN s;have P:=RO s;clear t q;go_enter func99,ntmps99;go_wp2_with fail;refine Zv λW d=>?_;have c:Below _ w W:=d▸Yc.alloc (Sm) _;have g:U<|W.cell? ⟨w.heap.size,0,none⟩=some (E oz)/\W.cell? ⟨w.heap.size+1,0,none⟩=some (E a):=by rw[d];obtain⟨g1,g2⟩:=AK w (E oz) (E a) 238 219;exact⟨g1.cell 0,g2.cell 0⟩
   clear d;refine(Ho s m is 145 #[Vp w.heap.size,Vp<|w.heap.size+1] (λz=>YI op a z) W (B.below c) EG1.o (λJ h z v=>wU op n a z o.o v J (by rw[<-f];exact(Zu.below h).cell g.1)<|(Zu.below h).cell g.2) λz _=>OW op a z o.o).m ?_;rintro e K ⟨v',is',rfl,i,j⟩;have k:=c.trans<|j.mono c.size;go_wp2;go_ret;exact⟨_,C,I ⟨v',is',C,i⟩,k⟩
 |inr l=>
  obtain⟨s,is,rfl,t⟩:=L;have B:=I t;have S:=QN s;have M:=RO s;clear t;cases Y with
  |inl b=>
   obtain⟨rfl,r⟩:=A;have P:=QM<|E b;have o:=I r;clear r;go_enter func99,ntmps99;go_wp2_with fail;refine Zv λW d=>?_;have c:Below _ w W:=d▸Yc.alloc (Sm) _;have g:U<|W.cell? ⟨w.heap.size,0,none⟩=some (E oz)/\W.cell? ⟨w.heap.size+1,0,none⟩=some (E b):=by rw[d];obtain⟨g1,g2⟩:=AK w (E oz) (E b) 238 219;exact⟨g1.cell 0,g2.cell 0⟩
   clear d;refine(Ho s l is 146 #[Vp w.heap.size,Vp<|w.heap.size+1] (λz=>YI op z b) W (B.below c) EG2.o (λJ h z v=>wV op n b z o.o v J (by rw[<-f];exact(Zu.below h).cell g.1)<|(Zu.below h).cell g.2) λz v=>OW op z b v).m ?_;rintro e K ⟨v',is',rfl,i,j⟩;have k:=c.trans<|j.mono c.size;go_wp2;go_ret;exact⟨_,C,I ⟨v',is',C,i⟩,k⟩
  |inr m=>
   obtain⟨s2,is2,rfl,G⟩:=A;have Q:=I G;have H:=I D.1;have P:=QN s2;have T:=RO s2;clear G D;go_enter func99,ntmps99;go_wp2_with fail;refine Zv λW d=>?_;have c:Below _ w W:=d▸Yc;clear d;rw[f];refine(yA n s l m W (B.below c) (Q.below c) H).m ?_;rw[<-f];rintro e K ⟨v',is',rfl,i,j⟩;have k:=c.trans<|j.mono c.size;have R:U<|Vq K (.iface 221 v')<|QJ op (.inr l)<|.inr m:=Db op l m H.o▸⟨v',is',C,i.o⟩;go_wp2;go_ret;exact⟨_,C,R,k⟩
def O2(bs:List BA):Prop:=bs.Pairwise λa b=>Op.bytesLess (bl b) (bl a)=false
theorem O2.le (h:O2 bs)(c:i<=j)(d:j<bs.length):Op.bytesLess (bl bs[j]) (bl<|bs[i]' X)=false:=by
 rcases Sf i j with a|a
 .exact List.pairwise_iff_getElem.1 h i j _ _ a
 .obtain rfl:i=j:=X;exact R5 _
theorem EH{x z:LB}(d:Op.bytesLess y x=false)(a:Op.bytesLess y z=true):Op.bytesLess x z=true:=by
 cases c:Op.bytesLess x y with
 |true=>exact PU _ _ _ c a
 |false=>rw[Pc _ _ c d];exact a
theorem DB(a:j<bs.length):(TE bs)[j]?=some (.string bs[j]):=by
 unfold TE;rw[Vs,List.getElem?_eq_getElem a];rfl
theorem Cg(c:O2 bs){k:Nat}(d:∀j (h:j<bs.length),j<k->Op.bytesLess (bl bs[j]) y=true)(e:∀j (h:j<bs.length),k<=j->Op.bytesLess (bl bs[j]) y=false)(f:y∈bs.map bl):∃h:k<bs.length,bl bs[k]=y:=by
 obtain⟨b,g,rfl⟩:=XK.1 f;obtain⟨j,i,rfl⟩:=List.mem_iff_getElem.1 g;have a:k<=j:=by
  rcases Sf j k with h|h
  .have:=d j i h;rw[R5]at this;cases this
  .exact h
 exact⟨X,Pc _ _ (e k _<|Yj _)<|c.le a _⟩
theorem uN(tx:BA)(w:Y)(c:w.ownsRow 0 9 1 v bs.length<|TE bs)(J:bs.length<=100000)(A:O2 bs):
 CP 181 #[v,.string tx] w λe u=>∃k:Nat,e=.returned (.tuple #[E k,.bool<|decide<|bl tx∈bs.map bl])/\u=w:=by
 obtain⟨ra,rcp,rfl⟩:=Zd c;have n:=XI c;have o:=XI A;obtain⟨fd,f⟩:∃fd,fd=decide (bl tx∈bs.map bl):=⟨_,C⟩;rw[<-f];have l:=XI f;clear c A f;go_enter func181,ntmps181;go_wp2;go_loopg [7,8] bs.length (λkx s5 s6 wr=>∃lo a:Nat,s5=E lo/\s6=E a/\lo<=a/\a<=bs.length/\a-lo<=kx/\wr=w/\U ((∀j (h:j<bs.length),j<lo->Op.bytesLess (bl bs[j]) (bl tx)=true)/\(∀j (h:j<bs.length),a<=j->Op.bytesLess (bl bs[j]) (bl tx)=false)));case atStart=>exact⟨0,bs.length,C,C,Yr _,Yj _,X,C,XI ⟨λj _ h=>absurd h<|Tu _,λj h m=>X⟩⟩
 case round=>
  obtain⟨lo,a,rfl,rfl,L,B,p,rfl,I⟩:=hrel;by_cases M:lo<a
  .have s:(lo+a)/2<bs.length:=X;have p:∃g,ra=some ⟨g,0,none⟩:=by
    obtain⟨g,cp',h⟩:=Zm n.o X;injection h with h1;exact⟨g,h1⟩
   obtain⟨g,rfl⟩:=p;have d1:=Zc n _ _<|DB s;have O:(((lo+a)/2:Nat))=((lo:Int)+(a))/2:=X;have P:(((lo:Int)+(a))/2).toNat=(lo+a)/2:=X;have q:=pE bs[(lo+a)/2] tx;have D:U<|Op.bytesLess _ (bl tx)=true->∀i (h:i<bs.length),i<=(lo+a)/2->Op.bytesLess (bl _) _=true:=XI λr i h m=>EH (o.le m s) r;have G:U<|Op.bytesLess (bl bs[(lo+a)/2]) _=false->∀i (h:i<bs.length),(lo+a)/2<=i->Op.bytesLess _ _=false:=XI λr i h m=>by
    cases K:Op.bytesLess (bl bs[i]) (bl tx)with
    |false=>rfl
    |true=>rw[EH (o.le m h) K]at r;cases r
   generalize bs[(lo+a)/2]=x at*;cases d:Op.bytesLess (bl x) (bl tx)with
   |true=>
    rw[d]at q;have z:=XI<|D d;clear d;go_wp2_with(go_at_call 211;refine(q _).m ?_;rintro e u ⟨rfl,rfl⟩);go_roundg (a-((lo+a)/2+1));case measure=>omega
    case rel=>
     exact⟨(lo+a)/2+1,a,by rw[show((lo)+(a))/2+1=(((lo+a)/2+1:Nat):Int)by omega],C,X,B,Yj _,C,XI ⟨λj h m=>z j h X,I.2⟩⟩
   |false=>
    rw[d]at q;have z:=XI<|G d;clear d;go_wp2_with(go_at_call 211;refine(q _).m ?_;rintro e u ⟨rfl,rfl⟩);go_roundg ((lo+a)/2-lo);case measure=>omega
    case rel=>
     exact⟨lo,(lo+a)/2,C,by rw[show((lo)+(a))/2=(((lo+a)/2:Nat):Int)by omega],X,X,Yj _,C,XI ⟨I.1,z⟩⟩
  .obtain rfl:a=lo:=X;by_cases t:a<bs.length
   .have p:∃g,ra=some ⟨g,0,none⟩:=by
     obtain⟨g,cp',h⟩:=Zm n.o X;injection h with h1;exact⟨g,h1⟩
    obtain⟨g,rfl⟩:=p;have d1:=Zc n _ _<|DB t;have H:(bs[a].toList==tx.toList)=fd:=by
     rw[Gr,l,O8];constructor
     .intro h;rw[<-h];exact XK.2 ⟨_,List.getElem_mem _,C⟩
     .intro h;exact(Cg o I.1 I.2 h).2
    clear l;generalize bs[a]=x at*;cases fd
    .go_wp2_with(go_at_call 212;refine(CO).m ?_;rintro e u ⟨rfl,rfl⟩);go_ret2;exact⟨a,C,C⟩
    .go_wp2_with(go_at_call 212;refine(CO).m ?_;rintro e u ⟨rfl,rfl⟩);go_ret2;exact⟨a,C,C⟩
   .have H:fd=false:=by
     rw[l,O5];intro h;exact t (Cg o I.1 I.2 h).1
    subst H;go_wp2;go_ret2;exact⟨a,C,C⟩
theorem oB{l:List Xc}{p:Xc}{ns:List<|LB}:Zp (l++[p]) ns=if p.1∈ns then Zp l ns++[p]else Zp l ns:=by
 unfold Zp;rw[N7];split
 .rename_i h;rw[NY<|by simpa using h];rfl
 .rename_i h;rw[N4<|by simpa using h];simp
theorem po{c:Nat}{qs:List<|BA×BA}{nv:F}(w:Y)(hl:Xz w a n c tx qs)(hn:w.ownsRow 0 9 1 nv bs.length<|TE bs)(a9:bs.length<=100000)(hs:O2 bs):
 CP 149 #[.agg #[.slice a n c,.string tx],nv] w λe w'=>∃(a':Option Addr)(n' c':Nat)(tx':BA)(qs':List<|BA×BA),e=.returned (.agg #[.slice a' n' c',.string tx'])/\U (Xz w' a' n' c' tx' qs'/\qs'.map Xt=Zp (qs.map Xt) (bs.map bl))/\BW w w':=by
 obtain⟨i0,hi,b0,b1,b2⟩:=Xv Tryz.infoLabel;have b3:qs.length=n:=by have:=hl.row.1.1;rw[Jc]at this;omega
 subst b3;obtain⟨na,ncp,rfl⟩:=Zd hn;have L:=I hl;have d0:=hl.row.2.1;have b4:=I λW M nm=>uN nm W (Ze hn M) a9 hs;clear hl hn hs;go_enter func149,ntmps149;go_wp2;go_loopw [5,13] (λv i wr=>∃(k:Nat)(os:List<|BA×BA),k<=qs.length/\i=E k/\os.length<=k/\wr.ownsRow (w.heap.size+2) 340 2 v os.length (UG os)/\U (os.map Xt=Zp ((qs.take k).map Xt) (bs.map bl)/\∀p∈os,p∈qs)/\U (Ya wr w.heap.size [.slice a qs.length c,.string tx] 198)/\U (Ya wr (w.heap.size+1) [S0,.string ⟨#[]⟩] 198)/\U (BW w wr))
  (λ_ i _=>qs.length-(intOf i).toNat);case atStart=>
  obtain⟨g1,g2⟩:Ya ((w.alloc<|.cells #[.slice a qs.length c,.string tx] 198).alloc<|.cells #[S0,.string ⟨#[]⟩] 198) _ _ _/\Ya _ _ _ _:=by
   refine⟨(Yc.block _<|Sm).trans YO,?_⟩;have:=Go.Deep.blk_alloc_new (w.alloc<|.cells #[.slice a qs.length c,.string tx] 198)<|.cells #[S0,.string ⟨#[]⟩] 198;rw[Go.Deep.nblk_alloc]at this;exact this
  exact⟨0,[],Yr _,C,Yr _,Xm _ _ _ _,I ⟨C,λp r=>by cases r⟩,I g1,I g2,I<|Yc.alloc (Sm) _⟩
 case round=>
  rename Y=>wo;obtain⟨k,os,hk,rfl,c9,d,s,J,l,G⟩:=hrel;have a2:=G.size;have d3:=J.lt;have d4:=l.lt;by_cases O:k<qs.length
  .have hg:∃g,a=some ⟨g,0,none⟩:=by
    obtain⟨g,cp',h⟩:=Zm L.row.1 X;injection h with h1;exact⟨g,h1⟩
   obtain⟨g,rfl⟩:=hg;have P:=I<|Ze L.row.1 G;obtain⟨f1,f2⟩:=Jb qs k;rw[List.getElem?_eq_getElem O]at f1 f2;have d1:=Zc P _ _ f1;have d2:=Zc P _ _ f2;have a3:U<|Zp ((qs.take<|k+1).map Xt) (bs.map bl)=if bl (qs[k]).1∈bs.map bl then Zp ((qs.take k).map Xt) (bs.map bl)++[Xt qs[k]]else Zp ((qs.take k).map Xt)<|bs.map bl:=List.take_succ_eq_append_getElem O▸Xa▸oB;have b5:=I<|List.getElem_mem O;generalize qs[k]=q at*;obtain⟨x,y⟩:=q;simp only at d1 d2;clear f1 f2 P;have d5:(k:Int)<(qs.length):=X;go_wp2_with fail;refine Zv λW M=>?_;have z:Below _ _ W:=M▸Yc;have HX:U<|Ya W _ _ 340:=M▸YO;have Q:=I<|G.trans<|z.mono a2;have d6:=I λq hq=>(d.lt q hq).2;have f:=Ze d z;have R:=I<|J.below z;have S:=I<|l.below z;clear M z d G d1 d2 J l;refine(b4 W Q x).m ?_;rintro e w5 ⟨kk,rfl,rfl⟩;have d7:=HX.lt;by_cases K:bl x∈bs.map bl
   .rw[WI K];have H:U<|(os++[(x,y)]).map Xt=Zp _ _/\∀p∈os++[(x,y)],p∈qs:=I ⟨by rw[a3,Ye K,Xa,s.1];rfl,λp r=>by
    rcases Wk.1 r with r|r
    .exact s.2 p r
    .rw[Vr]at r;subst r;exact b5⟩;clear K;have x0:=HX.cell;go_wp2_with(at_builtin;refine XC _ C (.tmp 25) (.tmp 27) 196 C (w.heap.size+2) 340 i0 (.agg #[.string ByteArray.empty,.string ByteArray.empty]) 2 32 underlying196 hi b0 b1 b2 C N _ _ _ C (f.alloc _) ⟨w5.heap.size,0,none⟩ 1 1 [.string x,.string y] C C ?c1 ?c2 ?c3 ?c4 ?c5 ?_);case c1=>exact Z1 C
    case c2=>intro u hu;simp at hu;rcases hu with rfl|rfl<;>rfl
    case c3=>unfold maxLen;omega
    case c4=>omega
    case c5=>simp;omega
    intro v6 w6 a0 m _;have a4:∀o,Below _ _<|w5.alloc o:=λo=>Yc;have T:=(Wc.below (a4 _) _).trans<|Wc.grown m<|f.alloc _;have b6:=I<|(Q.alloc X _).grown m (by simp;omega) λq hq=>by have:=(f.lt q hq).1;omega
    have a1:w6.ownsRow (w.heap.size+2) 340 2 v6 (os++[(x,y)]).length<|UG<|os++[(x,y)]:=by rwa [Dx,Yx]
    have a7:U<|Ya _ _ _ _:=I<|T _ _ _ _ N R;have a8:U<|Ya _ _ _ _:=I<|T _ _ _ _ N S;clear m a0 f T x0 a4;go_wp2;go_roundw;case rel=>exact⟨k+1,_,X,by go_num,by simp;omega,a1,H,a7,a8,b6⟩
    case measure=>simp[intOf];omega
   .rw[Wl K];have H:U<|os.map Xt=Zp ((qs.take<|k+1).map Xt) (bs.map bl)/\∀p∈os,p∈qs:=I ⟨a3.o▸Yd K▸s.1,s.2⟩;clear K;go_wp2;go_roundw;case rel=>exact⟨k+1,os,X,by go_num,X,f,H,R,S,Q⟩
    case measure=>simp[intOf];omega
  .obtain rfl:k=qs.length:=X;have HK:U<|os.map Xt=Zp (qs.map Xt) (bs.map bl):=by have:=s.1;rwa [X1]at this
   have b7:U<|Rj<|os.map _:=HK.o▸L.wf.kept _;have b8:=I λp r=>L.row.2.2 p<|s.2 p r;obtain⟨va,vcp,b9⟩:=Zd d;subst b9;have y0:=J.cell;have z0:=l.cell 0;have z1:=l.cell 1;have fz0:=l.frozen;simp only[Yf]at z0 z1;by_cases a5:os.length=qs.length
   .have c0:((os.length:Int)==(qs.length))=true:=by simp[a5]
    have c6:U<|qs.map Xt=Zp (qs.map Xt) (bs.map bl):=by
     unfold Zp;refine(J2.2 ?_).symm;have h1:=HK.o;have h2:(Zp (qs.map Xt)<|bs.map bl).length=(qs.map Xt).length:=by rw[<-h1,Yz,Yz,a5]
     unfold Zp at h2;exact List.length_filter_eq_length_iff.1 h2
    have A:=I<|L.jk<|Zu.below G;have V:U<|∀x y,Xz ((wo.setCell ⟨w.heap.size+1,0,none⟩ x).setCell ⟨w.heap.size+1,1,none⟩ y) a _ c _ _:=I λx y=>⟨⟨Lz A.row.1 λj hj=>by
     have B:j≠w.heap.size+1:=by rintro rfl;exact ZD A.row.1 l N hj.symm
     rw[Go.Deep.blk_setCell_other _ _ _ _ B,Go.Deep.blk_setCell_other _ _ _ _ B],A.row.2⟩,A.txt,A.wf⟩;clear d;go_wp2;exact YQ (by simp[results,results149,go_sem,z0,z1]) C ⟨a,qs.length,c,tx,qs,C,I ⟨V _ _,c6⟩,(G.setCell (by show w.heap.size<=w.heap.size+1;omega) _).setCell (by show w.heap.size<=w.heap.size+1;omega) _⟩
   .have c0:((os.length:Int)==(qs.length))=false:=by rw[YB];omega
    have c7:U<|TP _ 0 _ _ _:=I ⟨d.mono<|Yr _,X,b8⟩;clear d;go_wp2_with fail;refine(BZ c7).m ?_;rintro e w5 ⟨a',c',rfl,a6,Z⟩;have t:=I<|l.below Z;have c8:=I<|G.trans<|Z.mono a2;have D:U<|Xz _ _ _ _ ⟨(Wv _).toArray⟩ _:=I ⟨a6,by rw[Fg];rfl,b7⟩;have V:U<|∀x y,Xz ((w5.setCell ⟨w.heap.size+1,0,none⟩ x).setCell ⟨w.heap.size+1,1,none⟩ y) _ _ _ _ _:=I λx y=>⟨⟨Lz D.row.1 λj hj=>by
     have B:j≠w.heap.size+1:=by rintro rfl;exact ZD D.row.1 t N hj.symm
     rw[Go.Deep.blk_setCell_other _ _ _ _ B,Go.Deep.blk_setCell_other _ _ _ _ B],D.row.2⟩,D.txt,D.wf⟩;clear y0 z0 z1 fz0 a6 Z;have z0:=t.cell 0;have z1:=t.cell 1;have fz0:=t.frozen;simp only[Yf]at z0 z1;go_wp2;exact YQ (by simp[results,results149,go_sem,z0,z1]) C ⟨a',os.length,c',_,os,C,I ⟨V _ _,HK⟩,(c8.setCell (by show w.heap.size<=w.heap.size+1;omega) _).setCell (by show w.heap.size<=w.heap.size+1;omega) _⟩
attribute [local go_sem] Oper.semAt_some
theorem Tryz.infoStrG:(Tryz.prog.info? 9).map (λi=>(i.zero,i.size,i.bytes))=some (some<|.string ByteArray.empty,1,16):=Kr
end
section
open Go.ChangeMaps (setBlock)
structure YJ (x B:Nat)(w w':Y):Prop where
 os:w'.os=w.os
 tape:w'.tape=w.tape
 output:w'.output=w.output
 size:w.heap.size<=w'.heap.size
 block:∀k,k<B->k≠x->w'.heap[k]?=w.heap[k]?
theorem YJ.of(h:Below B w w'):YJ x B w w':=⟨h.os,h.tape,h.output,h.size,λk a _=>h.block k a⟩
theorem YJ.refl(x B:Nat)(w:Y):YJ x B w w:=YJ.of<|Ym B w
theorem YJ.trans{a b c:Y}(h:YJ x B a b)(k:YJ x B b c):YJ x B a c:=⟨k.os.trans h.os,k.tape.trans h.tape,k.output.trans h.output,Xb h.size k.size,λj d e=>(k.block j d e).trans<|h.block j d e⟩
theorem YJ.mono{x B C:Nat}(h:YJ x C w w')(c:B<=C):YJ x B w w':=⟨h.os,h.tape,h.output,h.size,λk d a=>h.block k X a⟩
theorem YJ.below(h:YJ x B w w')(c:B<=x):Below B w w':=⟨h.os,h.tape,h.output,h.size,λk a=>h.block k a X⟩
theorem YJ.set(x B:Nat)(w:Y)(o':Obj):YJ x B w<|setBlock w x o':=⟨C,C,C,by simp[setBlock],λk _ a=>by simp[setBlock,Qw a]⟩
def XO(w:Y)(x:Nat):Prop:=∃es clock,w.heap[x]?=some (.map es clock)
theorem Zu.belX (h:YJ x w.heap.size w w')(d:XO w x):Zu w w':=λb c T fr a=>by
 obtain⟨es,cl,f⟩:=d;refine(h.block b (Xr.1 a).1 λe=>?_).trans a;simp_all
structure XV where
 a:Option Addr
 n:Nat
 c:Nat
 tx:BA
 qs:List<|BA×BA
 vals:List Int
def XV.val(g:XV):F:=.agg (.slice g.a g.n g.c::.string g.tx::Vc g.vals).toArray
def XV.grp(g:XV):Qk:=(g.qs.map Xt,g.vals)
structure XE (w:Y)(g:XV):Prop where
 lb:Xz w g.a g.n g.c g.tx g.qs
 vok:∀v∈g.vals,YC v
theorem XE.jk{g:XV}(h:XE w g)(a:Zu w w'):XE w' g:=⟨h.lb.jk a,h.vok⟩
structure Xe (w:Y)(x:Nat)(gs:List XV)(es:Array MapEntry)(clock:Nat):Prop where
 heap:w.heap[x]?=some (.map es clock)
 stm:MapKept.Stamped es clock
 kv:es.toList.map (λe=>(e.key,e.val))=gs.map λg=>(Value.string g.tx,g.val)
 sz:∀g∈gs,g.tx.size<=maxLen
theorem Xe.len{gs:List XV}(h:Xe w x gs es clock):es.size=gs.length:=by
 have:=congrArg List.length h.kv;simp_all
theorem Xe.at{gs:List XV}(h:Xe w x gs es clock)(c:es.toList[j]?=some e):∃d:j<gs.length,e.key=.string gs[j].tx/\e.val=gs[j].val:=by
 have f:(es.toList.map λe=>(e.key,e.val))[j]?=(gs.map λg=>(Value.string g.tx,g.val))[j]?:=by rw[h.kv]
 rw[Vs,c,Vs]at f;have d:j<gs.length:=by
  rcases Sf j gs.length with a|a
  .exact a
  .simp_all
 simp_all
theorem Xe.keys {gs:List XV}(h:Xe w x gs es clock):∀e∈es.toList,∃l,keyOf prog 9 e.key=some l:=λe a=>by
 obtain⟨j,c⟩:=If a;obtain⟨f,d,_⟩:=h.at c;rw[d];exact⟨_,Go.WideMaps.keyOf_string_mk underlying9<|h.sz _<|List.getElem_mem _⟩
theorem Xe.moved{gs:List XV}(h:Xe w x gs es clock)(a:w'.heap[x]?=w.heap[x]?):Xe w' x gs es clock:=⟨a.trans h.heap,h.stm,h.kv,h.sz⟩
def xO:F:=.agg #[S0,.string ByteArray.empty,E 0,E 0,E 0,E 0,E 0,E 0]
theorem Xe.find{gs:List XV}(h:Xe w x gs es clock)(k:BA)(u:k.size<=maxLen):
 ((∀W:Y,(Instr.findKey 9 (.string k) es.toList).run prog W=.ok none W)/\(∀g∈gs,g.tx≠k)/\∀e∈es.toList,e.key≠.string k)\/
 ∃j,∃p:j<gs.length,gs[j].tx=k/\(∀i (l:i<gs.length),i≠j->gs[i].tx≠k)/\∃e,es.toList[j]?=some e/\e.key=.string k/\e.val=gs[j].val/\∀W:Y,(Instr.findKey 9 (.string k) es.toList).run prog W=.ok (some (j,e.val)) W:=by
 have K:=Maps.string_keyed (P:=prog) (k:=9) underlying9;have d:=Go.WideMaps.keyOf_string_mk (P:=prog) (k:=9) underlying9 u;rcases K.find w d es.toList h.keys with⟨v,a⟩|⟨j,e,v,a,o⟩
 .left;refine⟨λW=>?_,λg z A=>?_,a⟩
  .rcases K.find W d es.toList h.keys with⟨k1,_⟩|⟨j,e,k1,k2,k3⟩
   .exact k1
   .exact absurd k3<|a e<|QW k2
  .obtain⟨i,l,rfl⟩:=List.mem_iff_getElem.1 z;have c:i<es.toList.length:=by rw[Sx,h.len];exact l
   obtain⟨_,e1,_⟩:=h.at<|List.getElem?_eq_getElem c;simp_all
 .right;obtain⟨p,e1,e2⟩:=h.at a;rw[o]at e1;have q:gs[j].tx=k:=(Value.string.inj e1).symm;have m:=h.stm.2.2;have f:∀i (l:i<gs.length),i≠j->gs[i].tx≠k:=λi l B A=>by
    have c:i<es.toList.length:=by rw[Sx,h.len];exact l
    have n:j<es.toList.length:=(Og.1 a).1;obtain⟨_,f1,_⟩:=h.at<|List.getElem?_eq_getElem c;have e3:es.toList[j]=e:=Ub<|(List.getElem?_eq_getElem n).symm.trans a;rw[List.Nodup,Rx,List.pairwise_iff_getElem]at m;rcases Sf i j with r|r
    .exact m i j c n r<|by simp_all
    .exact m j i n c X<|by simp_all
  refine⟨j,p,q,f,e,a,o,e2,λW=>?_⟩;rcases K.find W d es.toList h.keys with⟨_,k2⟩|⟨j',e',k1,k2,k3⟩
  .exact absurd o<|k2 e<|QW a
  .obtain⟨s,f1,f2⟩:=h.at k2;rw[k3]at f1;have:j'=j:=by
    refine JY λt=>f j' s t ?_;exact(Value.string.inj f1).symm
   simp_all
theorem me{gs:List XV}(h:Xe w x gs es clock)(c:k.size<=maxLen)(d:∀W:Y,(Instr.findKey 9 (.string k) es.toList).run prog W=.ok none W)(W:Y)(e:W.heap[x]?=w.heap[x]?):
 (Instr.lookup 304 (.map<|some x) (.string k) false).run prog W=.ok xO W:=by
 have K:=Maps.string_keyed (k:=9) underlying9;have a:=Go.WideMaps.keyOf_string_mk (k:=9) underlying9 c;simp[Instr.lookup,QS _,QP<|e.trans h.heap,K.check W _ a,d W,Result.andThen];rfl
theorem ma{gs:List XV}(h:Xe w x gs es clock)(c:k.size<=maxLen)(d:∀W:Y,(Instr.findKey 9 (.string k) es.toList).run prog W=.ok (some (j,v)) W)(W:Y)(e:W.heap[x]?=w.heap[x]?):
 (Instr.lookup 304 (.map<|some x) (.string k) false).run prog W=.ok v W:=by
 have K:=Maps.string_keyed (k:=9) underlying9;have a:=Go.WideMaps.keyOf_string_mk (k:=9) underlying9 c;simp[Instr.lookup,QS _,QP<|e.trans h.heap,K.check W _ a,d W,Result.andThen]
theorem xg{gs:List XV}(h:Xe w x gs es clock)(d:k.size<=maxLen)(e:∀W:Y,(Instr.findKey 9 (.string k) es.toList).run prog W=.ok none W)(v:F)(W:Y)(c:W.heap[x]?=w.heap[x]?):
 (Instr.mapUpdate 304 (.map<|some x) (.string k) v).run prog W=.ok () (setBlock W x<|.map (es.push ⟨.string k,v,clock⟩)<|clock+1):=by
 have K:=Maps.string_keyed (k:=9) underlying9;have a:=Go.WideMaps.keyOf_string_mk (k:=9) underlying9 d;simp[Instr.mapUpdate,QS _,QP<|c.trans h.heap,K.check W _ a,e W,N5 _<|c.trans h.heap,Result.andThen,setBlock]
theorem xd{gs:List XV}(h:Xe w x gs es clock)(g:k.size<=maxLen)(i:es.toList[j]?=some e)(c:e.key=.string k){u:F}(l:∀W:Y,(Instr.findKey 9 (.string k) es.toList).run prog W=.ok (some (j,u)) W)(v:F)(W:Y)(d:W.heap[x]?=w.heap[x]?):
 (Instr.mapUpdate 304 (.map<|some x) (.string k) v).run prog W=.ok () (setBlock W x<|.map (es.modify j λe=>{e with key:=.string k,val:=v}) clock):=by
 have K:=Maps.string_keyed (k:=9) underlying9;have a:=Go.WideMaps.keyOf_string_mk (k:=9) underlying9 g;have f:((es[j]?).map (·.key)).getD (.string k)=.string k:=QT▸i▸c;simp[Instr.mapUpdate,QS _,QP<|d.trans h.heap,K.check W _ a,l W,f,K.stays W a,N5 _<|d.trans h.heap,Result.andThen,setBlock]
theorem Cf :CP 91 #[] w λe u=>e=.returned (Vp<|w.heap.size+1)/\U (XO u w.heap.size)/\U (Ya u (w.heap.size+1) [.map<|some w.heap.size] 306)/\u.heap.size=w.heap.size+2/\BW w u:=by
 have c:=@run_makeMap prog;go_enter func91,ntmps91;go_wp2;go_ret;have a:Below _ w<|w.alloc<|.map #[] 0:=Yc;refine⟨C,I ⟨#[],0,(Yc.block _<|Sm).trans YO⟩,I ?_,Sm,a.alloc (Sm) _⟩;have:=Go.Deep.blk_alloc_new (w.alloc<|.map #[] 0)<|.cells #[.map<|some w.heap.size] 306;rw[Go.Deep.nblk_alloc]at this;exact this
theorem XO.below(h:XO w x)(c:BW w w'):XO w' x:=by
 obtain⟨es,cl,a⟩:=h;exact⟨es,cl,(c.block x (Xr.1 a).1).trans a⟩
theorem XO.grown{r:Option Nat}(h:XO w x)(c:w.grownBy w' r)(d:some x≠r):XO w' x:=by
 obtain⟨es,cl,a⟩:=h;exact⟨es,cl,(c.block x (Xr.1 a).1 d).trans a⟩
theorem Ya.set1{a:Nat}{p q r x:F}{t:TypeId}(h:Ya w a [p,q,r] t):Ya (w.setCell ⟨a,1,none⟩ x) a [p,x,r] t:=by
 unfold Ya at h;unfold Ya;simp only[World.setCell,V4,h,VE,Wr];rfl
theorem CW:∀l:List<|LB,Lib.join l [10]=VX l
 |[]=>C
 |[a]=>by simp[Lib.join,List.intercalate,VX]
 |a::b::l=>by
  have ih:=CW<|b::l;rw[VX,<-ih];simp[Lib.join,List.intercalate]
theorem CX{n:Nat}:∀l:List<|LB,(∀x∈l,x.length<=n)->(VX l).length<=l.length*(n+1)
 |[],_=>Yr _
 |[a],h=>by have:=h a<|Sm;simp only[VX,Y1,TO];omega
 |a::b::l,h=>by
  have ih:=CX _ λx c=>h x<|Vf _ c;have d:=h a<|Sm;have e:(VX<|a::b::l).length=a.length+((VX<|b::l).length+1):=by rw[VX,Yx,Y1]
  rw[e,Y1,Nat.succ_mul];omega
section
variable {P:Program} {ops:Array Oper} {Q:Exit->Act->World->Prop} {md:Region.Mode} {S:World->Prop} {k:Nat}
theorem fs{o p:Oper}{f:Nat}{ls:Array Bool}{a:Act}(l:Region.ready md ops ls=[i,j])(n:ops[i]?=some o)(q:ops[j]?=some p)
 (h:∀K':Act->Y->Prop,Shut (∀a w,S w->(S w->T3 P md ops Q S k f (ls.setIfInBounds i true) a w)->K' a w)->if Region.wanted o (yielded ops a.tmps)=true then Oper.wp P o a w K' Q else K' (a.put o.dst undef) w)
 (r:∀K':Act->Y->Prop,Shut (∀a w,S w->(S w->T3 P md ops Q S k f (ls.setIfInBounds j true) a w)->K' a w)->if Region.wanted p (yielded ops a.tmps)=true then Oper.wp P p a w K' Q else K' (a.put p.dst undef) w):T3 P md ops Q S k (f+1) ls a w:=by
 refine⟨λm=>(by rw[l]at m;cases m),λx d=>?_⟩;rw[l]at d;simp only[X0,List.not_mem_nil,or_false]at d;rcases d with rfl|rfl
 .exact wpOp_step n λK' e=>h _ λa w c g=>e a w ⟨λ_=>c,g c⟩
 .exact wpOp_step q λK' e=>r _ λa w c g=>e a w ⟨λ_=>c,g c⟩
end
structure Qn (w w':Y)(base mb:Nat)(c0 c1 c2 c3 al:F):Prop where
 ex:∃x gb gx,Un w' base mb c0 c1 c2 c3 al 0 (.map<|some x) (Vp gb) none 0 0 []/\XJ w' x [] #[] 0/\Ya w' gb [.map<|some gx] 306/\XO w' gx/\w.heap.size<=x/\w.heap.size<=gb/\w.heap.size<=gx/\x≠gx
 old:w.heap.size<=mb
 below:BW w w'
theorem Qn.made{a:Y}(base:Nat)(c0 c1 c2 c3 al:F){gb gx:Nat}(f:a.heap[x]?=some (.map #[] 0))(d:Ya a gb [.map<|some gx] 306)(h:XO a gx)(i:w.heap.size<=x)(j:w.heap.size<=gb)(l:w.heap.size<=gx)(m:x≠gx)(e:BW w a):
 Qn w (a.alloc<|.cells #[c0,c1,c2,c3,al,E 0,S0,.map<|some x,Vp gb] 214) base a.heap.size c0 c1 c2 c3 al:=by
 have c:∀o,Below _ _<|a.alloc o:=λo=>Yc;refine⟨⟨x,gb,gx,⟨YO,⟨Sm,.inl ⟨C,C⟩⟩,C⟩,⟨((c _).block x (Xr.1 f).1).trans f,⟨Sm,Sm,Sm⟩,C,λg d=>(by cases d)⟩,d.below<|c _,h.below<|c _,i,j,l,m⟩,e.size,e.trans<|(c _).mono e.size⟩
theorem jP(w:Y)(base:Nat){c0 c1 c2 c3:F}{an ac:Nat}:
 CP 46 #[.agg #[c0,c1,c2,c3],.slice aa an ac] w λe u=>∃mb,e=.returned (Vp mb)/\U (Qn w u base mb c0 c1 c2 c3<|.slice aa an ac):=by
 have D:=@run_makeMap prog;have n:U<|Ya (w.alloc<|.cells #[c0,c1,c2,c3] 80).drew _ _ _:=I<|Ya.below YO (Ym _ _).drew;have r:U<|Below _ w (w.alloc<|.cells #[c0,c1,c2,c3] 80).drew:=I Yc.drew;go_enter func46,ntmps46;go_upto_region 1 with fail;refine ZW 6 (λu=>u.cell? _=some _/\u.cell? _=some _/\u.cell? _=some _/\u.cell? _=some _) Kr ⟨n.cell 0,n.cell 1,n.cell 2,n.cell 3⟩ λa=>?_;generalize B:(w.alloc<|.cells #[c0,c1,c2,c3] 80).drew=W at n r a⊢;clear B;refine Za 0 a (h:=Za 1 a (h:=?_));refine fs (i:=2) (j:=3) Kr C C (λK c=>?_) λK c=>?_
 .go_simp;have m:=r.size;have f:U<|Ya (W.alloc<|.map #[] 0) _ _ _:=I<|n.below Yc;refine c _ _ ⟨f.cell 0,f.cell 1,f.cell 2,f.cell 3⟩ λa=>?_;clear c K;try simp only[Act.put,Yt]
  refine Zz (i:=3) Kr C λK c=>?_;go_simp;refine(Cf).m ?_;rintro e A ⟨rfl,s,t,v,l⟩;go_simp;have d:=I<|f.below l;refine c _ _ ⟨d.cell 0,d.cell 1,d.cell 2,d.cell 3⟩ λa=>?_;clear c K;try simp only[Act.put,Yt]
  have p:(W.alloc<|.map #[] 0).heap.size=W.heap.size+1:=Go.Deep.nblk_alloc _ _;have q:=I<|Qn.made base c0 c1 c2 c3 (.slice aa an ac) ((l.block _ X).trans YO) t s m X X X<|(r.alloc m _).trans<|l.mono X;refine Za 4 a (h:=?_);refine Zz (i:=5) Kr C λK c=>?_;go_simp;have g:U<|∀o,Ya (A.alloc o) _ _ _:=I λo=>d.below Yc;refine c _ _ ⟨(g _).cell 0,(g _).cell 1,(g _).cell 2,(g _).cell 3⟩ λa=>?_;clear c K;try simp only[Act.put,Yt]
  refine ZS Kr Kr C Kr λK c=>?_;go_simp;refine c _ _ ?_;clear c K;go_wp2;go_ret;simp only[v,p]at q;exact⟨_,C,q⟩
 .go_simp;have m:=r.size;refine(Cf).m ?_;rintro e z ⟨rfl,s,t,v,l⟩;go_simp;have f:=I<|n.below l;refine c _ _ ⟨f.cell 0,f.cell 1,f.cell 2,f.cell 3⟩ λa=>?_;clear c K;try simp only[Act.put,Yt]
  refine Zz (i:=2) Kr C λK c=>?_;go_simp;have x:Below _ _<|z.alloc<|.map #[] 0:=Yc;have d:=I<|f.below x;refine c _ _ ⟨d.cell 0,d.cell 1,d.cell 2,d.cell 3⟩ λa=>?_;clear c K;try simp only[Act.put,Yt]
  have p:(z.alloc<|.map #[] 0).heap.size=z.heap.size+1:=Go.Deep.nblk_alloc _ _;have q:=I<|Qn.made base c0 c1 c2 c3 (.slice aa an ac) YO (t.below x) (s.below x) X X m X<|(r.trans<|l.mono m).trans<|x.mono X;clear x;generalize z.alloc (.map #[] 0)=A at q d a p⊢;refine Za 4 a (h:=?_);refine Zz (i:=5) Kr C λK c=>?_;go_simp;have g:U<|∀o,Ya (A.alloc o) _ _ _:=I λo=>d.below Yc;refine c _ _ ⟨(g _).cell 0,(g _).cell 1,(g _).cell 2,(g _).cell 3⟩ λa=>?_;clear c K;try simp only[Act.put,Yt]
  refine ZS Kr Kr C Kr λK c=>?_;go_simp;refine c _ _ ?_;clear c K;go_wp2;go_ret;simp only[v,p]at q;exact⟨_,C,q⟩
