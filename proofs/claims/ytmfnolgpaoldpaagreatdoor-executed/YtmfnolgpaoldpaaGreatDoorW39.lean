/- Parts. -/
import Derived.Test.YtmfnolgpaoldpaaGreatDoorW37
import Derived.Test.YtmfnolgpaoldpaaGreatDoorW31
set_option linter.all false
set_option maxRecDepth 100000
set_option maxHeartbeats 16000000
namespace Go.Proofs.YtmfnolgpaoldpaaGreatDoor
open Go.RowKit LS Go.Proofs.Tryz
variable {os:Array Obj}{F:Array Value}{tx:BA}{x y:LB}{l:List Int}{rs:List Wq}{is ys:List YG}{st:List YY}{a base k n op:Nat}{nd:Nd}{la p:Option Addr}{fv rv sv v x0 x1 x2 x3 x4 x5:Value}{w w':World}{s:Wq}
def UM(W w':World):Prop:=∃q os,w'=Sort.grow (W.drewN q) os
theorem UM.refl(W:World):UM W W:=⟨0,#[],by rw[Sort.grow_empty];rfl⟩
theorem UM.trans{a b c:World}(h:UM a b)(k:UM b c):UM a c:=by
 obtain⟨q1,o1,rfl⟩:=h;obtain⟨q2,o2,rfl⟩:=k;exact⟨q1+q2,o1++o2,by simp[Sort.grow,World.drewN,Nat.add_assoc]⟩
theorem UM.alloc(W:World)(o:Obj):UM W<|W.alloc o:=⟨0,#[o],by rw[Sort.alloc_eq_grow];rfl⟩
theorem UM.drewN(W:World)(n:Nat):UM W<|W.drewN n:=⟨n,#[],(Sort.grow_empty _).symm⟩
theorem UM.drew(W:World):UM W W.drew:=⟨1,#[],by rw[Sort.grow_empty];rfl⟩
theorem UM.below{W:World}(h:UM W w'):BW W w':=by
 obtain⟨q,os,rfl⟩:=h;refine⟨C,C,C,by simp[Sort.grow,World.drewN],λk a=>?_⟩;simp[Sort.grow,World.drewN,Ia,a]
theorem ep (x y:YG):CP 178 #[.agg #[.slice x.a x.n x.c,.string x.tx,E x.v],.agg #[.slice y.a y.n y.c,.string y.tx,E y.v]] w λe u=>e=.returned (E<|Wx (bl x.tx)<|bl y.tx)/\UM w u:=by
 obtain⟨xa,xn,xc,xt,xq,xv⟩:=x;obtain⟨ya,yn,yc,yt,yq,yv⟩:=y;simp only;go_enter func178,ntmps178;go_upto_region 1 with fail;refine Zs λW d=>?_;have h:Hid<|UM w W:=d▸(UM.alloc _ _).trans (UM.alloc _ _);have f:Hid<|Ya W _ _ 223:=d▸(Yc.block _ Sm).trans YO;have g:Hid<|Ya W (w.heap.size+1) [.slice ya yn yc,.string yt,E yv] 223:=by rw[d];have:=Go.Deep.blk_alloc_new (w.alloc<|.cells #[.slice xa xn xc,.string xt,E xv] 223)<|.cells #[.slice ya yn yc,.string yt,E yv] 223;rw[Go.Deep.nblk_alloc]at this;exact this
 clear d;have x0:=f.cell 0;have x1:=f.cell 1;have y0:=g.cell 0;have y1:=g.cell 1;simp only[Yf]at x0 x1 y0 y1;go_region_held3 (λu=>u.cell? ⟨w.heap.size,0,none⟩=some (.slice xa xn xc)/\u.cell? ⟨w.heap.size,1,none⟩=some (.string xt)/\u.cell? ⟨w.heap.size+1,0,none⟩=some (.slice ya yn yc)/\u.cell? ⟨w.heap.size+1,1,none⟩=some (.string yt)) (first|exact⟨x0,x1,y0,y1⟩|go_keep) (first
  | (go_at_call 94;refine(Mt).mono ?_;rintro e k ⟨rfl,o5,i⟩)
  | (go_at_call 179;refine(EV).mono ?_;rintro e l ⟨rfl,j⟩));all_goals
  go_wp2;go_ret;exact⟨C,h.trans<|((UM.alloc _ _).trans<|UM.alloc _ _).trans<|UM.drew _⟩
theorem Lo(x y:LB):decide (Wx x y<0)=Op.bytesLess x y:=by
 unfold Wx;cases h:Op.bytesLess x y
 .cases a:Op.bytesLess y x<;>simp
 .simp
theorem eu:Sort.SWO<|ltOf λx y:YG=>Wx (bl x.tx)<|bl y.tx where
 irrefl x:=by unfold ltOf;rw[Lo];exact R6 _
 trans x y z h1 h2:=by unfold ltOf at*;rw[Lo]at*;exact PU _ _ _ h1 h2
 ntrans x y z h1 h2:=by
  unfold ltOf at*;rw[Lo]at*;cases h:Op.bytesLess (bl x.tx) (bl z.tx)with
  |false=>rfl
  |true=>
   cases a:Op.bytesLess (bl z.tx) (bl y.tx)with
   |true=>rw[PU _ _ _ h a]at h1;cases h1
   |false=>
    have e:=Pe _ _ h2 a;rw[e,h]at h1;cases h1
theorem DA [Inhabited YG](d:Array YG):(Sort.flatK YG.enc 3 d).toList=Y5 d.toList:=by
 refine PB λt=>?_;by_cases c:t<d.size*3
 .have f:t/3<d.toList.length:=by rw[Sy];omega
  have a:t/3<d.size:=X;obtain⟨g0,g1,g2⟩:=OA _ _ f;have e:(Sort.flatK YG.enc 3 d).toList[t]?=some (YG.enc d[t/3]!)[t%3]!:=by
   rw[QW,<-Sort.get_flatK _ _ _ t c];rw[getElem!_pos _ t<|by rwa [Sort.size_flatK],Array.getElem?_eq_getElem _]
  rw[e,getElem!_pos d _ a];rw[Array.getElem_toList]at g0 g1 g2;rcases(X:t%3=0∨t%3=1∨t%3=2)with h|h|h
  .rw[show t/3*3=t by omega]at g0;rw[h,g0];rfl
  .rw[show t/3*3+1=t by omega]at g1;rw[h,g1];rfl
  .rw[show t/3*3+2=t by omega]at g2;rw[h,g2];rfl
 .rw[Rh<|by rw[Sy,Sort.size_flatK];omega,Rh<|by rw[Hs,Sy];omega]
theorem gY(cur F:Array Value)(h:F.size<=cur.size):(Sort.putCells id 0 F cur).toList.take F.size=F.toList:=by
 apply PB;intro j;by_cases a:j<F.size
 .rw[Eo a,QW];simp[Sort.putCells,a,show j<cur.size by omega]
 .rw[List.getElem?_take_eq_none X,Rh<|by simp;omega]
theorem rT{g:Nat}{cur:Array Value}{e:TypeId}{fr:Nat×Nat}(a:w.heap[g]?=some (.cells cur e fr)):
 (Sort.grow (Sort.putRow id (Sort.ahead w n) g 0 F) os).heap[g]?=some (.cells (Sort.putCells id 0 F cur) e fr):=by
 have c:=(Xr.1 a).1;rw[Sort.heap_grow_old _ _<|by simpa using c];simp[Sort.putRow,Sort.mapBlock,Sort.ahead,V4,a,Sort.onCells]
theorem rI{g:Nat}:w.grownBy (Sort.grow (Sort.putRow id (Sort.ahead w n) g 0 F) os)<|some g:=by
 refine⟨C,C,C,Sm,λk c a=>?_⟩;rw[Sort.heap_grow_old _ _<|by simpa using c];have:g≠k:=λe=>a<|by rw[e]
 simp[Sort.putRow,Sort.mapBlock,Sort.ahead,V4,this]
theorem pU (p:Option Addr)(cap:Nat)(fv:Value)(w:World):CP 233 #[.slice p 0 cap,E 0,E 0,fv] w λe u=>e=.returned (.tuple #[])/\u=w:=by
 go_enter func233,ntmps233;go_wp2;refine Ok 1 ?_;rw[Q4];go_wp2;go_end0;exact⟨C,C⟩
theorem lR (p:Option Addr)(cap:Nat)(lim:Int)(fv:Value)(w:World):CP 206 #[.slice p 0 cap,E 0,E 0,E lim,fv] w λe u=>e=.returned (.tuple #[])/\u=w:=by
 have a:=λW=>pU p cap fv W;go_enter func206,ntmps206;go_wp2;refine Ok 1 ?_;rw[Q4];go_wp2_with(go_at_call 233;refine(a _).mono ?_;rintro e u ⟨rfl,rfl⟩);(try simp only[Exit.inBlock,Exit.then]);refine YQ (Tq C _ _ _) C ?_;exact⟨C,C⟩
theorem eC {cap:Nat}:CP 177 #[.slice p 0 cap,fv] w λe u=>e=.returned (.tuple #[])/\u=w:=by
 have a:=λlim W=>lR p cap lim fv W;have c:∀W,Calls _ _ _ W λe u=>e=.returned (.int _<|Lib.bitLen 0)/\u=W:=λW=>bits_Len 0 W X X;go_enter func177,ntmps177;go_wp2_with(first|(go_at_call 207;refine(c _).mono ?_;rintro e u ⟨rfl,rfl⟩)|(go_at_call 206;refine(a _ _).mono ?_;rintro e u ⟨rfl,rfl⟩));go_end0;exact⟨C,C⟩
theorem et(v:Value)(w:World)(c:w.ownsRow base 223 3 v is.length<|Y5 is)(F:is.length<=1000):
 CP 142 #[v] w λe u=>∃is',e=.returned v/\Hid (is'.Perm is/\(is'.Pairwise λa b=>Op.bytesLess (bl b.tx) (bl a.tx)=false)/\u.ownsRow base 223 3 v is'.length (Y5 is')/\w.grownBy u v.ownBlock):=by
 haveI:Inhabited YG:=⟨⟨none,0,0,⟨#[]⟩,[],0⟩⟩;by_cases r:is.length=0
 .obtain rfl:=Qr r;obtain⟨av,cp,rfl⟩:=Zd c;have G:=I c;clear c r;go_enter func142,ntmps142;go_wp2_with(go_at_call 177;refine(eC).mono ?_;rintro e u ⟨rfl,rfl⟩);go_ret;exact⟨[],C,I ⟨List.Perm.refl _,List.Pairwise.nil,G,⟨C,C,C,Yj _,λ_ _ _=>C⟩⟩⟩
 .obtain⟨g,cp,rfl⟩:=Zm c X;rcases c.2 with⟨h,_⟩|⟨g',cap,cur,h,f,o,r1,r2,r3,r4⟩
  .cases h
  injection h with e1 e2 e3;injection e1 with e1;injection e1 with e1;subst e1 e3;have s:=(Xr.1 o).1;have t:Sort.HoldsK YG.enc 3 w g 0 is.toArray:=by
   intro j k;rw[Sort.size_flatK]at k;have q:j<(Y5 is).length:=by rw[Hs];simpa using k
   refine⟨?_,by simp[World.frozen?,o]⟩;have e:=Zc c j _<|List.getElem?_eq_getElem q;rw[SK,e];have e2:(Sort.flatK YG.enc 3 is.toArray).toList[j]?=(Y5 is)[j]?:=by rw[DA]
   rw[List.getElem?_eq_getElem q,QW,Array.getElem?_eq_getElem<|by rwa [Sort.size_flatK]]at e2;rw[getElem!_pos _ j<|by rwa [Sort.size_flatK],Uc e2];rfl
  have eg:∀args w,(callFunc 178 _).run _ w=.ok _ w:=enters_of func178 Kr C;have l:CmpLays _ 178 #[] YG.enc 3 _ g 0 is.toArray.size w:=λ_ _ _ _ x y=>ep x y;have d:=AnyQ.slices_SortFunc sortItem 3 isAgg223 sizeOf223 _ (λ_=>C) (λx v h=>by simp[YG.enc]at h;rcases h with rfl|rfl|rfl<;>rfl) _ eu 178 _ g 0 cp _ w eg l t s<|by simp;omega
  change CP 177 _ _ _ at d;rw[Oi]at d;have H:=I d;have J:Hid<|base<=g/\w.heap[g]?=some _/\is.length<=cp/\cp<=maxLen/\cur.size=cp*3:=I ⟨f,o,r1,r2,r3⟩;clear d l eg t c o f r1 r2 r3 r4;go_enter func142,ntmps142;go_wp2_with(go_at_call 177;refine H.mono ?_;rintro e u ⟨rfl,d',n,os,z,K,rfl⟩);go_ret;obtain⟨q1,q2,q3,q4,q5⟩:=J.out;have m:d'.size=is.length:=by rw[z.1];simp
  have p:d'.toList.Perm is:=by
   have:=z.2.2;rwa [Eg X,Eg Sm]at this
  refine⟨d'.toList,C,I ⟨p,?_,?_,?_⟩⟩
  .rw[List.pairwise_iff_getElem];intro i j A k B;rw[Sy]at A k;have:=K i j (Yr _) B X;unfold ltOf at this;rw[Lo,getElem!_pos _ i A,getElem!_pos _ j k]at this;simpa using this
  .change (Sort.grow (Sort.putRow id (Sort.ahead w n) g 0<|Sort.flatK YG.enc 3 d') os).ownsRow _ _ _ _ _ _;have D:d'.toList.length=is.length:=by rw[Sy,m]
   rw[D];refine⟨by rw[Hs,D],.inr ⟨g,cp,Sort.putCells _ 0 _ _,C,q1,rT q2,q3,q4,by simp[Sort.putCells,q5],?_⟩⟩;have:=gY cur (Sort.flatK YG.enc 3 _)<|by rw[Sort.size_flatK,m];omega
   rw[Sort.size_flatK,DA,m]at this;exact this
  .exact rI
theorem Fb(c:w.ownsRow base 223 3 v is.length<|Y5 is)(h:base<=w.heap.size)(f:is.length<=1000)(j:∀i∈is,YR w i)(hd:Tm<|is.map YG.el):
 CP 142 #[v] w λe u=>e=.returned v/\∃is',Hid<|Y2 u v ((is.map YG.el).foldl V8 []) is'/\Below base w u:=by
 refine(et v w c f).mono ?_;rintro e u ⟨is',rfl,H⟩;obtain⟨g,n,o,k⟩:=H.out;have l:=Wc.grown k c;have d:=λi p=>(j i<|g.mem_iff.1 p).kb l N;refine⟨C,is',I ⟨⟨o.mono<|Yr _,?_,d,by rwa [g.length_eq]⟩,?_⟩⟩
 .refine eB hd (g.map _) ?_;rw[Rx];refine NW ?_ n;intro a b r s m;have ea:=(d a r).lb.txt;have eb:=(d b s).lb.txt;show Op.bytesLess (Yy b.labs) (Yy a.labs)=false;unfold YG.labs;rw[<-ea,<-eb];exact m
 .exact(Ym _ w).grown k h λq t=>(c.lt q t).1
theorem Wa.kb{t:TypeId}(h:Wa w v rs)(a:Wc t w w')(c:311≠t)(d:340≠t)(e:315≠t):Wa w' v rs:=⟨a.own h.row c,λs f=>(h.ok s f).kb a d e⟩
def Wq.itm(s:Wq)(v:Int):YG:=⟨s.a,s.n,s.c,s.tx,s.qs,v⟩
theorem CX(h:Y4 w s){v:Int}(a:YD v):YR w<|s.itm v:=⟨h.lb,a⟩
theorem FC(op:Option Nat){l:List<|Int×Int}(c:∀x∈l,Vc x):YD<|X3 op l:=by
 cases op with
 |some o=>exact Np _
 |none=>
  unfold X3 YD;simp only;cases l with
  |nil=>decide
  |cons a l=>
   rw[J6,<-En Sm];exact(c _<|List.getLast_mem _).2.2
def X2(op:Option Nat)(rs:List Wq):List YG:=rs.map λs=>s.itm<|X3 op s.jm
theorem CY(op:Option Nat)(n t:Int)(h:rs.map Wq.pr=VH st nd n t):(X2 op rs).map YG.el=P2 st nd op n t:=by
 rw[mY,<-h];unfold X2;rw[VD,VD];rfl
theorem iN(h:s.jm≠[]):∃a:s.jm.length-1<s.jm.length,X3 none s.jm=(s.jm[s.jm.length-1]).2:=by
 have c:=QZ.2 h;refine⟨X,?_⟩;unfold X3;simp only;rw[<-List.getLast_eq_getElem h];rw[Kc,List.getLast?_eq_some_getLast h];rfl
theorem jX{ss:List YU}{nm:BA}{ln lc:Nat}(t:Int)(m:Up w sv ss)(J:Sx<|ss.map YU.ser)(K:bl nm=nd.name)(hc:Z0 w (.slice la ln lc) nd.kq)(a0:-1000000<=t)(a1:t<=1000000):
 CP 139 #[sv,.agg #[.string nm,.slice la ln lc],E t] w λe w'=>∃v is,e=.returned v/\Hid (Y2 w' v (Uk (ss.map YU.ser) nd none 10 t) is)/\BW w w':=by
 obtain⟨i0,D,a2,a3,a4⟩:=Xv Tryz.infoItem;obtain⟨sa,scp,rfl⟩:=Zd m.row;have L:=I λW hW=>Af 10 t W (m.below hW) K (hc.below hW) N N a0 a1;have a5:=I J;have M:=I m.len;clear m K hc J;go_enter func139,ntmps139;go_wp2_with fail;refine(L _ Yh).mono ?_;rintro e w1 ⟨rv,rs,rfl,F,O⟩;have P:Hid<|BW w _:=I<|Below.trans Yh<|O.mono Sm;obtain⟨ra,rcp,rfl⟩:=Zd F.1.row;have b6:rs.length<=30:=by
  have V:=congrArg List.length F.2;rw[Yz]at V;have h2:=By (ss.map YU.ser) nd 10 t;rw[Yz]at h2;have:=M.out;omega
 clear O L M;have b7:=P.size;go_wp2;go_loopw [7,16] (λv i wr=>∃k:Nat,k<=rs.length/\i=E k/\wr.ownsRow w.heap.size 223 3 v k (Y5<|X2 none<|rs.take k)/\Hid (Wa wr (.slice ra rs.length rcp) rs)/\Hid (BW w wr))
  (λ_ i _=>rs.length-(intOf i).toNat);case atStart=>exact⟨0,Yr _,C,Xm _ _ _ _,I F.1,P⟩
 case round=>
  obtain⟨k,hk,rfl,d,f,Y⟩:=hrel;have a6:=Y.size;by_cases p:k<rs.length
  .have hg:∃g,ra=some ⟨g,0,none⟩:=by
    obtain⟨g,cp',h⟩:=Zm f.row X;injection h with V;exact⟨g,V⟩
   obtain⟨g,rfl⟩:=hg;obtain⟨f1,f2,f3⟩:=DY _ k p;have d1:=Zc f.row _ _ f1;have d2:=Zc f.row _ _ f2;have d3:=Zc f.row _ _ f3;have l:=I<|f.ok _<|List.getElem_mem p;have a7:Hid<|X2 none (rs.take<|k+1)=X2 none (rs.take k)++[(rs[k]).itm<|X3 none (rs[k]).jm]:=by
    rw[List.take_succ_eq_append_getElem p];unfold X2;rw[Y9];rfl
   generalize rs[k]=s at*;clear f1 f2 f3;have b8:(k:Int)<(rs.length):=X;obtain⟨hj,r⟩:=iN l.ne;obtain⟨sg,soff,a8,x⟩:=l.sam.resolve_left l.ne;obtain⟨m1,m2⟩:=x.cells _ hj;have a9:=l.len;have b9:=I<|FC none l.ok;have z:=I r;clear r x;rw[a8]at d3;obtain⟨sm,Q⟩:∃sm,s.jm.length=sm+1:=⟨s.jm.length-1,X⟩;have b0:((s.jm.length:Int)-1)=(sm):=X;rw[Q]at d3 a9;have e1:s.jm.length-1=sm:=X;have m1':wr.cell? ⟨sg,soff+sm*2,none⟩=some (E (s.jm[s.jm.length-1]).1):=by rwa [<-e1]
   have m2':wr.cell? ⟨sg,soff+sm*2+1,none⟩=some (E<|X3 none s.jm):=z.out▸e1▸m2;clear m1 m2 b0 Q e1 z;generalize(s.jm[s.jm.length-1]).1=tmx at*;generalize X3 none s.jm=one at*;have b5:((sm:Int)+1-1)=(sm):=X;have A:sg<wr.heap.size:=Xi _ _ m1';have n1:∀o,(wr.alloc o).cell? ⟨sg,soff+sm*2,none⟩=some _:=λo=>by rwa [TN _ _ _ A]
   have n2:∀o,(wr.alloc o).cell? ⟨sg,soff+sm*2+1,none⟩=some _:=λo=>by rwa [TN _ _ _ A]
   go_wp2_with(at_builtin;refine XC _ C (.tmp 28) (.tmp 34) 220 C w.heap.size 223 i0 (.agg #[S0,.string ByteArray.empty,E 0]) 3 48 underlying220 D a2 a3 a4 C N _ _ _ C (((d.alloc _).alloc _).alloc _) ⟨wr.heap.size+2,0,none⟩ 1 1 [.slice s.a s.n s.c,.string s.tx,E one] C C ?c1 ?c2 ?c3 ?c4 ?c5 ?_);case c1=>exact Z1 Sm
   case c2=>intro u hu;simp at hu;rcases hu with rfl|rfl|rfl<;>rfl
   case c3=>unfold maxLen;omega
   case c4=>omega
   case c5=>simp;omega
   intro v' w3 G j _;have R:=(((Y.alloc X _).alloc (by simp;omega) _).alloc (by simp;omega) _).grown j (by simp;omega) λq hq=>(d.lt q hq).1;have S:∀o o' o'',Wc 223 _<|((wr.alloc o).alloc o').alloc o'':=λo o' o''=>Wc.below ((Yc.alloc Sm _).alloc (by simp;omega) _) _;have B:=(S _ _ _).trans<|Wc.grown j<|((d.alloc _).alloc _).alloc _;have H:w3.ownsRow w.heap.size 223 3 v' (k+1)<|Y5<|X2 none<|rs.take<|k+1:=by rwa [a7.out,Lr]
   have b1:=I<|f.kb B N N N;clear d j G S B d1 d2 d3 m1' m2';have b2:=I R;clear R;go_wp2;go_roundw;case rel=>exact⟨k+1,X,by go_num,H,b1,b2⟩
   case measure=>simp[intOf];omega
  .obtain rfl:k=rs.length:=X;rw[X1]at d;have T:=I<|CY none _ t F.2;have Z:(X2 none rs).length=rs.length:=by unfold X2;rw[Yz]
   rw[<-Z]at d;have U:=I<|Fb d a6 X (λi D=>by
    unfold X2 at D;obtain⟨s,hs,rfl⟩:=XJ.1 D;exact CX (f.ok s hs)<|FC _ (f.ok s hs).ok)<|T.out▸GU a5.out nd none 10 t;rw[T]at U;clear d;go_wp2_with fail;refine U.mono ?_;rintro e w5 ⟨rfl,is',H5⟩;have b3:=I<|Y.trans H5.2;have b4:Hid<|Y2 _ _ (Uk _ _ _ _ t) _:=I<|by rw[FN];exact H5.1
   go_wp2;go_ret;exact⟨_,is',C,b4,b3⟩
theorem yZ {x:Int}(a:l.length<=10000)(c:∀y∈l,YD y)(d:YD x){t0 t1 t2 t3 t4 t5:Int}(f:Vd l=[E t0,E t1,E t2,E t3,E t4,E t5]):CP 140 #[.agg #[E t0,E t1,E t2,E t3,E t4,E t5],E x] w λe u=>∃r0 r1 r2 r3 r4 r5:Int,e=.returned (.agg #[E r0,E r1,E r2,E r3,E r4,E r5])/\Hid (Vd (l++[x])=[E r0,E r1,E r2,E r3,E r4,E r5])/\BW w u:=by
 have h:=AH l x a c d w;unfold UC at h;rw[f]at h;refine h.mono ?_;rintro e u ⟨rfl,g⟩;exact⟨_,_,_,_,_,_,C,I C,g⟩
theorem AE (a:op<=4)(c:l.length<=10000)(d:∀y∈l,YD y){t0 t1 t2 t3 t4 t5:Int}(f:Vd l=[E t0,E t1,E t2,E t3,E t4,E t5]):CP 141 #[.agg #[E t0,E t1,E t2,E t3,E t4,E t5],E op] w λe u=>e=.returned (E<|YZ<|T1 op l)/\BW w u:=by
 have h:=yP a l c d w;unfold UC at h;rw[f]at h;exact h
def RT(w:World)(a:Nat)(x0 x1 x2 x3 x4 x5:Value):World:=(((((w.setCell ⟨a,0,none⟩ x0).setCell ⟨a,1,none⟩ x1).setCell ⟨a,2,none⟩ x2).setCell ⟨a,3,none⟩ x3).setCell ⟨a,4,none⟩ x4).setCell ⟨a,5,none⟩ x5
theorem iA{p0 p1 p2 p3 p4 p5:Value}{t:TypeId}(h:Ya w a [p0,p1,p2,p3,p4,p5] t):Ya (RT w a x0 x1 x2 x3 x4 x5) a [x0,x1,x2,x3,x4,x5] t:=by
 unfold Ya at h;unfold Ya RT;simp only[World.setCell,V4,h,VE,Wr];rfl
theorem iB{B:Nat}(c:B<=a):Below B w<|RT w a x0 x1 x2 x3 x4 x5:=by
 unfold RT;exact((((((Ym B w).setCell c _).setCell c _).setCell c _).setCell c _).setCell c _).setCell c _
theorem iC{b:Nat}{c:List Value}{t:TypeId}(h:Ya w b c t)(d:b≠a):Ya (RT w a x0 x1 x2 x3 x4 x5) b c t:=by
 unfold RT;exact(((((h.other d _).other d _).other d _).other d _).other d _).other d _
theorem LW(l:List Int):∃t0 t1 t2 t3 t4 t5:Int,Vd l=[E t0,E t1,E t2,E t3,E t4,E t5]:=⟨_,_,_,_,_,_,C⟩
theorem jU(d7:op<=4)(nd:Nd)(n t:Int)(hr:Wa w rv rs)(hm:rs.map Wq.pr=VH st nd n t)(a9:Sx st)(f0:rs.length<=30):
 CP 98 #[E op,rv] w λe f=>∃v is,e=.returned v/\Hid (Y2 f v (Uk st nd (some op) n t) is)/\BW w f:=by
 obtain⟨i0,hi,b0,b1,b5⟩:=Xv Tryz.infoItem;obtain⟨ra,rcp,rfl⟩:=Zd hr.row;have HR:=I hr;have HM:Hid<|rs.map _=VH _ _ n t/\Sx _:=⟨hm,a9⟩;clear hr hm a9;go_enter func98,ntmps98;go_wp2_with(at_make;refine Kx _ C _ _ 220 C w.heap.size 223 i0 _ 3 underlying220 hi b0 b1 _ _ _ rs.length C C C ?b2 ?b3 ?b4 ?_);case b2=>rw[b5];omega
 case b3=>unfold maxLen;omega
 case b4=>exact Yj _
 intro w1 a6 M;have b6:=I<|(Ym _ _).grown M (Yj _) λq hq=>by cases hq
 have d8:=I<|HR.below b6;clear M;go_wp2;go_loopw [5,16] (λv i wr=>∃k:Nat,k<=rs.length/\i=E k/\wr.ownsRow w.heap.size 223 3 v k (Y5<|X2 (some op)<|rs.take k)/\Hid (Wa wr (.slice ra rs.length rcp) rs)/\Hid (BW w wr))
  (λ_ i _=>rs.length-(intOf i).toNat);case atStart=>exact⟨0,Yr _,C,a6,d8,b6⟩
 case round=>
  rename World=>wo;obtain⟨k,hk,rfl,A,x,HB⟩:=hrel;have b7:=HB.size;by_cases a0:k<rs.length
  .have hg:∃g,ra=some ⟨g,0,none⟩:=by
    obtain⟨g,cp',h⟩:=Zm x.row X;injection h with h1;exact⟨g,h1⟩
   obtain⟨g,rfl⟩:=hg;obtain⟨f1,f2,f3⟩:=DY _ k a0;have d1:=Zc x.row _ _ f1;have d2:=Zc x.row _ _ f2;have d3:=Zc x.row _ _ f3;have F:=I<|x.ok _<|List.getElem_mem a0;have d9:Hid<|X2 (some op) (rs.take<|k+1)=X2 (some op) (rs.take k)++[(rs[k]).itm<|X3 (some op) (rs[k]).jm]:=by
    rw[List.take_succ_eq_append_getElem a0];unfold X2;rw[Y9];rfl
   generalize rs[k]=s at*;clear f1 f2 f3;have f4:(k:Int)<(rs.length):=X;obtain⟨sg,soff,b8,O⟩:=F.sam.resolve_left F.ne;have e0:=F.len;rw[b8]at d3;have e9:sg<wo.heap.size:=by
    have hj:=QZ.2 F.ne;exact Xi _ _ (O.cells 0 hj).1
   have b9:=I O;clear O b8;obtain⟨sn,a1⟩:∃sn,s.jm.length=sn:=⟨_,C⟩;have a2:=I a1;rw[a1]at d3 e0;clear a1;go_wp2;go_loopw [23] (λi wi=>∃j:Nat,j<=sn/\i=E j/\Hid (BW wo wi)/\Hid (Ya wi wo.heap.size [.slice s.a s.n s.c,.string s.tx,.slice (some ⟨sg,soff,none⟩) sn s.sc] 311)/\Hid (Ya wi (wo.heap.size+1) (Vd ((s.jm.take j).map (·.2))) 313))
    (λi _=>sn-(intOf i).toNat);case atStart=>
    refine⟨0,Yr _,C,I<|Yc.alloc Sm _,I ?_,I ?_⟩
    .exact(Yc.block _ Sm).trans YO
    .have:=Go.Deep.blk_alloc_new (wo.alloc<|.cells #[.slice s.a s.n s.c,.string s.tx,.slice (some ⟨sg,soff,none⟩) sn s.sc] 311)<|.cells #[E 0,E 0,E 0,E 0,E 0,E 0] 313;rw[Go.Deep.nblk_alloc]at this;exact this
   case round=>
    obtain⟨j,hj,rfl,B,P,m⟩:=hrel;have e1:=B.size;have f5:=P.lt;have f6:=m.lt;by_cases f7:j<sn
    .have a3:j<s.jm.length:=by rwa [a2.out]
     obtain⟨m1,m2⟩:=b9.cells j a3;have m1':=(Zu.below B).cell m1;have m2':=(Zu.below B).cell m2;have a4:Hid<|YD _:=I (F.ok _<|List.getElem_mem a3).2.2;have e2:Hid ((s.jm.take<|j+1).map (·.2)=(s.jm.take j).map (·.2)++[(s.jm[j]).2]):=by rw[List.take_succ_eq_append_getElem a3,Y9];rfl
     have J:Hid (((s.jm.take j).map (·.2)).length<=10000/\∀y∈(s.jm.take j).map (·.2),YD y):=I ⟨by rw[Yz,Xw];omega,λy hy=>by
      obtain⟨z,hz,rfl⟩:=XJ.1 hy;exact(F.ok z<|MX hz).2.2⟩;generalize(s.jm[j]).1=x1 at*;generalize(s.jm[j]).2=x2 at*;clear m1 m2;obtain⟨t0,t1,t2,t3,t4,t5,r⟩:=LW ((s.jm.take j).map (·.2));rw[r]at m;have Q:=I r;clear r;have c0:=m.cell 0;have c1:=m.cell 1;have c2:=m.cell 2;have c3:=m.cell 3;have c4:=m.cell 4;have c5:=m.cell 5;simp only[Yf]at c0 c1 c2 c3 c4 c5;have f8:(j:Int)<(sn):=X;go_wp2_with fail;refine Zv λW hW=>?_;have R:Below _ _ W:=hW▸Yc;have c6:=I<|m.below R;have c7:=I<|P.below R;have a5:=I<|B.trans<|R.mono e1;clear hW R c0 c1 c2 c3 c4 c5 m P B m1' m2';refine(yZ J.1 J.2 a4 Q).mono ?_;rintro e w5 ⟨r0,r1,r2,r3,r4,r5,rfl,e3,l⟩;have L:=I<|c6.below l;have S:=I<|c7.below l;have p:=I<|a5.trans<|l.mono a5.size;clear l c6 c7 a5 Q J a4;have z0:=L.frozen;have c0:=L.cell;go_wp2;go_roundw;case rel=>
      refine⟨j+1,X,by go_num,I<|p.trans<|iB X,I<|iC S X,I ?_⟩;rw[e2,e3];exact iA L
     case measure=>simp[intOf];omega
    .obtain rfl:j=sn:=X;have T:s.jm.take j=s.jm:=by rw[<-a2,X1]
     rw[T]at m;obtain⟨t0,t1,t2,t3,t4,t5,r⟩:=LW (s.jm.map (·.2));rw[r]at m;have Q:=I r;have J:Hid ((s.jm.map (·.2)).length<=10000/\∀y∈s.jm.map (·.2),YD y):=I ⟨by rw[Yz,a2];omega,λy hy=>by
      obtain⟨z,hz,rfl⟩:=XJ.1 hy;exact(F.ok z hz).2.2⟩;have d5:Hid<|X3 (some op) s.jm=YZ _:=I C;generalize X3 (some op) s.jm=one at*;clear r T;have c0:=m.cell;have y0:=P.cell;have U:=Ze A B;have e4:=I<|x.below B;have c8:=I<|HB.trans<|B.mono b7;clear A x HB b9 d1 d2 d3;have e5:=c8.size;go_upto_region 11 with fail;have V:Hid<|∀f,Ya _ wo.heap.size [.slice s.a s.n s.c,.string s.tx,.slice (some ⟨sg,soff,none⟩) j s.sc] 311->Ya f (wo.heap.size+1) [E t0,E t1,E t2,E t3,E t4,E t5] 313->f.cell? _=some _/\f.cell? _=some _/\f.cell? _=some _/\f.cell? _=some _/\f.cell? _=some _/\f.cell? _=some _/\f.cell? _=some _/\f.cell? _=some _:=I λf h1 h2=>⟨h1.cell 0,h1.cell 1,h2.cell 0,h2.cell 1,h2.cell 2,h2.cell 3,h2.cell 4,h2.cell 5⟩;refine ZW 9 (λf=>f.cell? _=some _/\f.cell? _=some _/\f.cell? _=some _/\f.cell? _=some _/\f.cell? _=some _/\f.cell? _=some _/\f.cell? _=some _/\f.cell? _=some _) Kr (V.out _ P.out m.out) λd=>?_;clear c0 y0;refine Za 0 d (h:=Za 1 d (h:=Za 2 d (h:=Za 3 d (h:=Za 4 d (h:=?_)))));refine Zz (i:=5) Kr C λK G=>?_;go_simp;refine(AE d7 J.1 J.2 Q).mono ?_;rintro e w5 ⟨rfl,l⟩;have p:Hid<|BW wr _:=I ⟨l.os,l.tape,l.output,l.size,l.block⟩;have L:=I<|m.below p;have S:=I<|P.below p;clear l;rw[<-d5];go_simp;refine G _ _ (V _ S L) λd=>?_;clear G K;try simp only[Act.put,Yt]
     refine Za 6 d (h:=?_);refine Zz (i:=7) Kr C λK G=>?_;have Y:Hid<|∀o,Below _ _<|w5.alloc o:=I λo=>Yc;go_simp;refine G _ _ (V _ (S.below<|Y _)<|L.below<|Y _) λd=>?_;clear G K;try simp only[Act.put,Yt]
     refine Zz (i:=8) Kr C λK G=>?_;have D:=Ze U p;have c9:=p.size;refine S3 C _ _ _ C _ 223 _ _ 3 _ underlying220 hi b0 b1 b5 C N _ k _ (by simp[Act.eval]) (D.alloc _) ⟨w5.heap.size,0,none⟩ 1 1 [.slice s.a s.n s.c,.string s.tx,E one] (by simp[Act.eval]) C ?h2 ?h3 ?h4 ?h5 ?h6 ?_;case h2=>exact Z1 C
     case h3=>intro u hu;simp at hu;rcases hu with rfl|rfl|rfl<;>rfl
     case h4=>unfold maxLen;omega
     case h5=>omega
     case h6=>simp;omega
     intro v6 w6 a7 H _;have Z:=(Wc.below (p.trans<|(Y _).mono c9) _).trans<|Wc.grown H<|D.alloc _;have e6:=I<|(c8.trans<|(p.trans<|(Y _).mono c9).mono e5).grown H (by simp;omega) λq hq=>(D.lt q hq).1;have a8:w6.ownsRow w.heap.size 223 3 v6 (k+1)<|Y5<|X2 (some op)<|rs.take<|k+1:=by rwa [d9.out,Lr]
     have e7:=I<|e4.kb Z N N N;refine G _ _ (V _ (Z _ _ _ _ N P)<|Z _ _ _ _ N m) λd=>?_;clear G K;try simp only[Act.put,Yt]
     refine ZS Kr Kr C Kr λK G=>?_;go_simp;refine G _ _ ?_;clear G K H a7 D U Z;go_wp2;go_roundw;case rel=>exact⟨k+1,X,by go_num,a8,e7,e6⟩
     case measure=>simp[intOf];omega
  .obtain rfl:k=rs.length:=X;rw[X1]at A;have d0:=I<|CY (some op) n t HM.1;have d6:(X2 (some op) rs).length=rs.length:=by unfold X2;rw[Yz]
   rw[<-d6]at A;have d4:=I<|Fb A b7 X (λi hi=>by
    unfold X2 at hi;obtain⟨s,hs,rfl⟩:=XJ.1 hi;exact CX (x.ok s hs)<|FC _ (x.ok s hs).ok)<|d0.out▸GU HM.2 nd (some op) n t;rw[d0]at d4;clear A;go_wp2_with fail;refine d4.mono ?_;rintro e w5 ⟨rfl,is',H5⟩;have p:=I<|HB.trans H5.2;have e8:Hid<|Y2 _ _ (Uk _ _ _ n t) _:=I<|by rw[FN];exact H5.1
   go_wp2;go_ret;exact⟨_,is',C,e8,p⟩
def Pv(f:Int->Int)(l:List YG):List YG:=l.map λi=>{i with v:=f i.v}
theorem tq (f:Int->Int)(l:List YG):(Pv f l).map YG.el=(l.map YG.el).map λe=>(e.1,f e.2):=by
 unfold Pv;rw[VD,VD];rfl
theorem Y2.kb{t:TypeId}{l:List El}(h:Y2 w v l is)(a:Wc t w w')(c:223≠t)(d:340≠t):Y2 w' v l is:=⟨a.own h.row c,h.els,λi e=>(h.ok i e).kb a d,h.len⟩
theorem Hp(v:Value)(l:List El)(is:List YG)(g:Nat)(cb:Array Value)(f:Int->Int)(w:World)(Y:Y2 w v l is)(eg:∀args w,(callFunc g args).run prog w=.ok (.enter g args) w)
 (hf:∀W,BW w W->∀x,YD x->CP g (#[E x]++cb) W λe p=>e=.returned (E<|f x)/\BW W p)(a3:∀x,YD x->YD (f x)):
 CP 144 #[v,.func (.func g) #[] cb] w λe p=>∃v' is',e=.returned v'/\Hid (Y2 p v' (l.map λe=>(e.1,f e.2)) is')/\BW w p:=by
 obtain⟨i0,z,a4,a5,a6⟩:=Xv Tryz.infoItem;obtain⟨ra,rcp,rfl⟩:=Zd Y.row;have Z:=I Y;have c4:=Y.len;have HF:=I hf;have b1:=I a3;clear Y hf a3;go_enter func144,ntmps144;go_wp2_with(at_make;refine Kx _ C _ _ 221 C w.heap.size 223 i0 _ 3 underlying221 z a4 a5 _ _ _ is.length C C C ?b2 ?b3 ?b4 ?_);case b2=>rw[a6];omega
 case b3=>unfold maxLen;omega
 case b4=>exact Yj _
 intro w1 a0 F;have a7:=I<|(Ym _ _).grown F (Yj _) λq Q=>by cases Q
 clear F;go_wp2;go_loopw [5,13] (λv i wr=>∃k:Nat,k<=is.length/\i=E k/\wr.ownsRow w.heap.size 223 3 v k (Y5<|Pv f<|is.take k)/\Hid (∀i∈is,YR wr i)/\Hid (BW w wr))
  (λ_ i _=>is.length-(intOf i).toNat);case atStart=>exact⟨0,Yr _,C,a0,I λi z=>(Z.ok i z).below a7,a7⟩
 case round=>
  rename World=>wo;obtain⟨k,hk,rfl,m,G,R⟩:=hrel;have b5:=R.size;by_cases S:k<is.length
  .have hg:∃g,ra=some ⟨g,0,none⟩:=by
    obtain⟨g,cp',h⟩:=Zm Z.row X;injection h with T;exact⟨g,T⟩
   obtain⟨vg,rfl⟩:=hg;have J:=I<|Ze Z.row R;obtain⟨f1,f2,f3⟩:=OA _ k S;have d1:=Zc J _ _ f1;have d2:=Zc J _ _ f2;have d3:=Zc J _ _ f3;have b6:Hid<|Pv f (is.take<|k+1)=Pv f (is.take k)++[{is[k]with v:=f (is[k]).v}]:=by
    rw[List.take_succ_eq_append_getElem S];unfold Pv;rw[Y9];rfl
   have b7:=I (G _<|List.getElem_mem S).vok;generalize is[k]=s at*;clear f1 f2 f3;have c5:(k:Int)<(is.length):=X;go_upto_region 5 with fail;refine Zs λwr hW=>?_;have L:Below _ _ _:=hW▸Yc;have HX:Hid<|Ya _ _ [.slice _ _ _,.string _,.int _ _] 223:=hW▸YO;have A:=I<|R.trans<|L.mono b5;have b8:=I λq Q=>(m.lt q Q).2;have M:=Ze m L;have b0:=I λi z=>(G i z).below L;have b9:=A.size;clear hW L m R G J d1 d2 d3;have O:Hid<|∀p,Ya p wo.heap.size [.slice s.a s.n s.c,.string s.tx,E s.v] 223->p.cell? _=some _/\p.cell? _=some _/\p.cell? _=some _:=I λp T=>⟨T.cell 0,T.cell 1,T.cell 2⟩;refine ZW 10 (λp=>p.cell? _=some _/\p.cell? _=some _/\p.cell? _=some _) Kr (O.out _ HX.out) λd=>?_;refine Za 0 d (h:=Za 1 d (h:=Za 2 d (h:=Za 3 d (h:=Za 4 d (h:=Za 5 d (h:=?_))))));refine Zz (i:=6) Kr C λK B=>?_;have a8:=I<|HF wr.drew (⟨A.os,A.tape,A.output,A.size,A.block⟩) _ b7;go_simp;refine a8.mono ?_;rintro e w5 ⟨rfl,D⟩;have H:Hid<|BW wr _:=I ⟨D.os,D.tape,D.output,D.size,D.block⟩;have U:=I<|HX.below H;clear D a8;go_simp;refine B _ _ (O _ U) λd=>?_;clear B K;try simp only[Act.put,Yt]
   refine Za 7 d (h:=?_);refine Zz (i:=8) Kr C λK B=>?_;have P:Hid<|∀o,Below _ _<|w5.alloc o:=I λo=>Yc;go_simp;refine B _ _ (O _<|U.below<|P _) λd=>?_;clear B K;try simp only[Act.put,Yt]
   refine Zz (i:=9) Kr C λK B=>?_;have t:=Ze M H;have a9:=H.size;refine S3 C _ _ _ C _ 223 _ _ 3 _ underlying221 z a4 a5 a6 C N _ k _ (by simp[Act.eval]) (t.alloc _) ⟨w5.heap.size,0,none⟩ 1 1 [.slice s.a s.n s.c,.string s.tx,E<|f s.v] (by simp[Act.eval]) C ?h2 ?h3 ?h4 ?h5 ?h6 ?_;case h2=>exact Z1 C
   case h3=>intro u hu;simp at hu;rcases hu with rfl|rfl|rfl<;>rfl
   case h4=>unfold maxLen;omega
   case h5=>omega
   case h6=>simp;omega
   intro v6 w6 a1 r hwhere6;have c0:=I λi z=>(b0 i z).kb ((Wc.below (H.trans<|(P _).mono a9) _).trans<|Wc.grown r<|t.alloc _) N;have c1:=I<|(A.trans<|(H.trans<|(P _).mono a9).mono b9).grown r (by simp;omega) λq Q=>(t.lt q Q).1;have a2:w6.ownsRow w.heap.size 223 3 v6 (k+1)<|Y5<|Pv f<|is.take<|k+1:=by rwa [b6.out,Lr]
   have c2:=I<|(U.below<|P _).grown r λe=>by have:=b8 _ e.symm;omega
   refine B _ _ (O _ c2) λd=>?_;clear B K;try simp only[Act.put,Yt]
   refine ZS Kr Kr C Kr λK B=>?_;go_simp;refine B _ _ ?_;clear B K r a1 t M hwhere6;go_wp2;go_roundw;case rel=>exact⟨k+1,X,by go_num,a2,c0,c1⟩
   case measure=>simp[intOf];omega
  .obtain rfl:k=is.length:=X;rw[X1]at m;have V:(Pv f is).length=is.length:=by unfold Pv;rw[Yz]
   rw[<-V]at m;have c3:Hid<|Y2 _ _ (l.map _) _:=I ⟨m.mono<|Yr _,by rw[tq,Z.els],λi z=>by
    unfold Pv at z;obtain⟨j,hj,rfl⟩:=XJ.1 z;exact⟨(G j hj).lb,b1 _ (G j hj).vok⟩,by rwa [V]⟩;clear m;go_wp2;go_ret;exact⟨_,_,C,c3,R⟩
theorem Cc (x:YG)(tx:BA)(w:World):CP 210 #[.agg #[.slice x.a x.n x.c,.string x.tx,E x.v],.string tx] w λe u=>e=.returned (E<|Wx (bl x.tx)<|bl tx)/\BW w u:=by
 obtain⟨xa,xn,xc,xt,xq,xv⟩:=x;simp only;go_enter func210,ntmps210;go_wp2_with fail;refine(Mt).mono ?_;rintro e g ⟨rfl,o5,d⟩;have f:Hid _:=d▸Yc.alloc Sm _;clear d;go_wp2_with(go_at_call 179;refine(EV).mono ?_;rintro e h ⟨rfl,rfl⟩);go_ret;exact⟨C,f⟩
theorem tC(h:Wx x y=0):x=y:=by
 unfold Wx at h;cases a:Op.bytesLess x y with
 |true=>rw[a]at h;simp at h
 |false=>
  cases c:Op.bytesLess y x with
  |true=>rw[a,c]at h;simp at h
  |false=>exact Pe _ _ a c
theorem tB:Wx x x=0:=by unfold Wx;rw[R6];rfl
def Oe(is:List YG):Prop:=is.Pairwise λa b=>Op.bytesLess (bl a.tx) (bl b.tx)=true
theorem Oe.mono (h:Oe is){i j:Nat}(d:i<=j)(e:j<is.length)(a:Op.bytesLess (bl is[j].tx) y=true):Op.bytesLess (bl (is[i]' X).tx) y=true:=by
 rcases Sg i j with c|c
 .exact PU _ _ _ (List.pairwise_iff_getElem.1 h i j _ _ c) a
 .obtain rfl:i=j:=X;exact a
def Px(is:List YG)(y:LB)(k:Nat)(ok:Bool):Prop:=(ok=true/\∃h:k<is.length,bl (is[k]).tx=y)∨(ok=false/\∀i∈is,bl i.tx≠y)
theorem EP(f:Oe is)(g:∀j (h:j<is.length),j<k->Op.bytesLess (bl is[j].tx) y=true)(l:∀j (h:j<is.length),k<=j->Op.bytesLess (bl is[j].tx) y=false)(m:∀h:k<is.length,bl (is[k]).tx≠y):∀i∈is,bl i.tx≠y:=by
 intro i n c;obtain⟨j,d,rfl⟩:=List.mem_iff_getElem.1 n;rcases Sg j k with a|a
 .have:=g j d a;rw[c,R6]at this;cases this
 .rcases Sg k j with e|e
  .have e1:=List.pairwise_iff_getElem.1 f k j X d e;rw[c,l k _<|Yj _]at e1;cases e1
  .obtain rfl:k=j:=X;exact m _ c
theorem uQ(l:w.ownsRow 0 223 3 v is.length<|Y5 is)(R:is.length<=1000)(P:Oe is):
 CP 209 #[v,.string tx,.func (.func 210) #[] #[]] w λe u=>∃(k:Nat)(ok:Bool),e=.returned (.tuple #[E k,.bool ok])/\Hid (Px is (bl tx) k ok)/\BW w u:=by
 obtain⟨ra,rcp,rfl⟩:=Zd l;have z:=XH l;have A:=XH P;clear l P;go_enter func209,ntmps209;go_wp2;go_loopg [9,10] is.length (λkx s5 s6 wr=>∃lo a:Nat,s5=E lo/\s6=E a/\lo<=a/\a<=is.length/\a-lo<=kx/\Hid (BW w wr)/\Hid ((∀j (h:j<is.length),j<lo->Op.bytesLess (bl is[j].tx) (bl tx)=true)/\(∀j (h:j<is.length),a<=j->Op.bytesLess (bl is[j].tx) (bl tx)=false)));case atStart=>exact⟨0,is.length,C,C,Yr _,Yj _,X,XH<|Ym _ _,XH ⟨λj _ h=>absurd h<|Tu _,λj h p=>X⟩⟩
 case round=>
  obtain⟨lo,a,rfl,rfl,S,Q,B,m,I⟩:=hrel;by_cases T:lo<a
  .have G:(lo+a)/2<is.length:=X;have B:∃g,ra=some ⟨g,0,none⟩:=by
    obtain⟨g,cp',h⟩:=Zm z.out X;injection h with h1;exact⟨g,h1⟩
   obtain⟨g,rfl⟩:=B;have c:=XH<|Ze z m;obtain⟨f1,f2,f3⟩:=OA _ _ G;have d1:=Zc c _ _ f1;have d2:=Zc c _ _ f2;have d3:=Zc c _ _ f3;have U:(((lo+a)/2:Nat))=((lo:Int)+(a))/2:=X;have V:(((lo:Int)+(a))/2).toNat=(lo+a)/2:=X;have n:=Cc is[(lo+a)/2] tx wr;have H:Hid<|Op.bytesLess _ (bl tx)=true->∀i (h:i<is.length),i<=(lo+a)/2->Op.bytesLess (bl is[i].tx) _=true:=XH λD i h p=>A.mono p G D;have J:Hid<|Op.bytesLess (bl (is[(lo+a)/2]).tx) _=false->∀i (h:i<is.length),(lo+a)/2<=i->Op.bytesLess _ _=false:=XH λD i h p=>by
    cases d:Op.bytesLess (bl is[i].tx) (bl tx)with
    |false=>rfl
    |true=>rw[A.mono p h d]at D;cases D
   have f:=Lo (bl (is[(lo+a)/2]).tx)<|bl tx;clear f1 f2 f3 c;generalize is[(lo+a)/2]=x at*;obtain⟨xa,xn,xc,xt,xq,xv⟩:=x;simp only at n H J f d1 d2 d3;generalize Wx (bl xt) (bl tx)=cr at*;cases o:Op.bytesLess (bl xt) (bl tx)with
   |true=>
    rw[o]at f;have M:=XH<|H o;clear o;have O:cr<0:=by simpa using f
    clear f;go_wp2_with(go_at_call 210;refine n.mono ?_;rintro e u ⟨rfl,d⟩);go_roundg (a-((lo+a)/2+1));case measure=>omega
    case rel=>
     exact⟨(lo+a)/2+1,a,by rw[show((lo)+(a))/2+1=(((lo+a)/2+1:Nat):Int)by omega],C,X,Q,Yj _,XH<|m.trans<|d.mono m.size,XH ⟨λj h p=>M j h X,I.2⟩⟩
   |false=>
    rw[o]at f;have M:=XH<|J o;clear o;have O:¬cr<0:=by simpa using f
    clear f;go_wp2_with(go_at_call 210;refine n.mono ?_;rintro e u ⟨rfl,d⟩);go_roundg ((lo+a)/2-lo);case measure=>omega
    case rel=>
     exact⟨lo,(lo+a)/2,C,by rw[show((lo)+(a))/2=(((lo+a)/2:Nat):Int)by omega],X,X,Yj _,XH<|m.trans<|d.mono m.size,XH ⟨I.1,M⟩⟩
  .obtain rfl:a=lo:=X;have d:=m.out;by_cases q:a<is.length
   .have B:∃g,ra=some ⟨g,0,none⟩:=by
     obtain⟨g,cp',h⟩:=Zm z.out X;injection h with h1;exact⟨g,h1⟩
    obtain⟨g,rfl⟩:=B;have c:=XH<|Ze z m;obtain⟨f1,f2,f3⟩:=OA _ _ q;have d1:=Zc c _ _ f1;have d2:=Zc c _ _ f2;have d3:=Zc c _ _ f3;have n:=Cc is[a] tx wr;have K:Hid<|Wx _ (bl tx)=0->Px _ _ _ _:=XH λh=>.inl ⟨C,q,tC h⟩;have L:Hid<|Wx (bl (is[a]).tx) (bl tx)≠0->Px _ _ a _:=XH λh=>.inr ⟨C,EP A I.1 I.2 λ_ e=>h<|e▸tB⟩;generalize is[a]=x at*;obtain⟨xa,xn,xc,xt,xq,xv⟩:=x;simp only at n K L d1 d2 d3;generalize Wx (bl xt) (bl tx)=cr at*;clear f1 f2 f3 c;by_cases F:cr=0
    .have r:=XH<|K F;subst F;go_wp2_with(go_at_call 210;refine n.mono ?_;rintro e u ⟨rfl,s⟩);have t:=d.trans<|s.mono d.size;go_ret2;exact⟨a,true,C,r,t⟩
    .have r:=XH<|L F;have W:(cr==0)=false:=by simpa using F
     go_wp2_with(go_at_call 210;refine n.mono ?_;rintro e u ⟨rfl,s⟩);have t:=d.trans<|s.mono d.size;go_ret2;exact⟨a,false,C,r,t⟩
   .have r:Hid<|Px _ _ a _:=XH<|.inr ⟨C,EP A I.1 I.2 λh=>absurd h q⟩;go_wp2;go_ret2;exact⟨a,false,C,r,d⟩
def OY(ys:List YG)(y:LB):Option YG:=ys.find? λj=>decide<|bl j.tx=y
theorem sj(c:Oe ys){a:k<ys.length}(h:bl (ys[k]).tx=y):OY ys y=some ys[k]:=by
 unfold OY;rw[List.find?_eq_some_iff_getElem];refine⟨by simpa using h,k,a,C,λj d=>?_⟩;have e:=List.pairwise_iff_getElem.1 c j k X a d;simp only[MT,O4];intro e2;rw[e2,h,R6]at e;cases e
theorem si(h:∀i∈ys,bl i.tx≠y):OY ys y=none:=by
 unfold OY;rw[List.find?_eq_none];intro x a;simpa using h x a
def OZ(ys:List YG)(y:LB)(x:Int)(ok:Bool):Prop:=(ok=true/\∃j∈ys,OY ys y=some j/\x=j.v)∨(ok=false/\OY ys y=none)
theorem sr{a:Option Addr}{c:Nat}(d:w.ownsRow 0 223 3 v is.length<|Y5 is)(o:is.length<=1000)(s:Oe is):
 CP 180 #[v,.agg #[.slice a n c,.string tx]] w λe u=>∃(x:Int)(ok:Bool),e=.returned (.tuple #[E x,.bool ok])/\Hid (OZ is (bl tx) x ok)/\BW w u:=by
 obtain⟨ra,rcp,rfl⟩:=Zd d;have p:=I d;have t:=I s;clear d s;go_enter func180,ntmps180;go_wp2_with fail;refine(Mt).mono ?_;rintro e F ⟨rfl,o5,j⟩;have i:Hid _:=j▸Yc.alloc Sm _;clear j;go_wp2_with fail;refine(uQ (Ze p i) o t).mono ?_;rintro e G ⟨k,ok,rfl,q,l⟩;have f:=I<|i.trans<|l.mono i.size;clear l i;rcases q.out with⟨rfl,A,m⟩|⟨rfl,z⟩
 .have B:∃g,ra=some ⟨g,0,none⟩:=by
   obtain⟨g,cp',h⟩:=Zm p.out X;injection h with h1;exact⟨g,h1⟩
  obtain⟨g,rfl⟩:=B;have d3:=Zc (Ze p f) _ _ (OA _ k A).2.2;have r:Hid<|OZ _ _ _ _:=I<|.inl ⟨C,is[k],List.getElem_mem _,sj t m,C⟩;have D:(k:Int)<(is.length):=X;clear m q;generalize(is[k]).v=x at*;go_wp2;go_ret2;exact⟨x,true,C,r,f⟩
 .have r:Hid<|OZ _ _ 0 _:=I<|.inr ⟨C,si z⟩;clear z q;go_wp2;go_ret2;exact⟨0,false,C,r,f⟩
def U0(op:Nat)(ys:List YG)(i:YG):Option YG:=(OY ys<|bl i.tx).map λj=>{i with v:=YI op i.v j.v}
theorem tP{α β:Type}{f:α->Option β}{l:List α}{a:α}:(l++[a]).filterMap f=l.filterMap f++(f a).toList:=by
 rw[List.filterMap_append];cases h:f a<;>simp[h]
theorem Cd{α:Type}{p q:α->Bool}:∀{l:List α},(∀a∈l,p a=q a)->l.find? p=l.find? q
 |[],_=>C
 |a::l,h=>by
  rw[List.find?_cons,List.find?_cons,h a Sm,Cd λb c=>h b<|Vf _ c]
theorem yp(a:∀j∈ys,YR w j){i:YG}(c:YR w i):(U0 op ys i).map YG.el=Oc op (ys.map YG.el) i.el:=by
 unfold U0 Oc OY;rw[List.find?_map,Option.map_map,Option.map_map];have e:ys.find? (λj=>decide<|bl j.tx=bl i.tx)=ys.find? ((λf=>decide<|Yy i.el.1=Yy f.1)∘YG.el):=by
  refine Cd λj d=>?_;show decide (bl j.tx=bl i.tx)=decide (Yy i.labs=Yy j.labs);unfold YG.labs;rw[<-c.lb.txt,<-(a j d).lb.txt,O7];exact⟨λh=>h.symm,λh=>h.symm⟩
 rw[e];rfl
theorem AW{op:Nat}{w:World}{ys:List YG}(a:∀j∈ys,YR w j):∀{xs:List YG},(∀i∈xs,YR w i)->(xs.filterMap<|U0 op ys).map YG.el=(xs.map YG.el).filterMap (Oc op<|ys.map YG.el)
 |[],_=>C
 |i::xs,h=>by
  have e1:=yp (op:=op) a<|h i Sm;have e2:=AW (op:=op) a λj c=>h j<|Vf _ c;rw[Wb,J1,J1];rw[<-e1];cases U0 op ys i with
  |none=>exact e2
  |some z=>simp only[Wr,Wb,e2]
theorem Y2.txs{l:List El}(h:Y2 w v l is)(c:To l):Oe is:=by
 unfold To at c;rw[<-h.els,Rx]at c;unfold Oe;refine NW ?_ c;intro a b e f d;rw[(h.ok a e).lb.txt,(h.ok b f).lb.txt];exact d
theorem yE(b0:op<=3)(v:Value){y:Value}(l m:List El)(w:World)(hv:Y2 w v l is)(T:Y2 w y m ys)(a5:To m):
 CP 147 #[v,y,E (op+1:Nat)] w λe A=>∃v' is',e=.returned v'/\Hid (Y2 A v' (l.filterMap<|Oc op m) is')/\BW w A:=by
 obtain⟨i0,f,b1,b2,b3⟩:=Xv Tryz.infoItem;obtain⟨ra,rcp,rfl⟩:=Zd hv.row;obtain⟨ya,ycp,rfl⟩:=Zd T.row;have HV:=I hv;have HY:=I T;have b4:=I<|T.txs a5;have c6:=hv.len;have b5:=T.len;obtain⟨oz,U⟩:∃oz:Int,oz=((op+1:Nat)):=⟨_,C⟩;rw[<-U];have a6:=I U;clear hv T a5 U;go_enter func147,ntmps147;go_wp2;go_loopw [7,14] (λv i wr=>∃(k:Nat)(os:List YG),k<=is.length/\i=E k/\os.length<=k/\wr.ownsRow w.heap.size 223 3 v os.length (Y5 os)/\Hid (os=(is.take k).filterMap (U0 op ys))/\Hid ((∀i∈is,YR wr i)/\∀i∈ys,YR wr i)/\Hid (BW w wr))
  (λ_ i _=>is.length-(intOf i).toNat);case atStart=>exact⟨0,[],Yr _,C,Yr _,Xm _ _ _ _,I C,I ⟨HV.ok,HY.ok⟩,I<|Ym _ _⟩
 case round=>
  rename World=>wo;obtain⟨k,os,hk,rfl,c5,B,V,t,Y⟩:=hrel;have b6:=Y.size;by_cases Z:k<is.length
  .have hg:∃g,ra=some ⟨g,0,none⟩:=by
    obtain⟨g,cp',h⟩:=Zm HV.row X;injection h with h1;exact⟨g,h1⟩
   obtain⟨vg,rfl⟩:=hg;have P:=I<|Ze HV.row Y;obtain⟨f1,f2,f3⟩:=OA _ k Z;have d1:=Zc P _ _ f1;have d2:=Zc P _ _ f2;have d3:=Zc P _ _ f3;have a7:Hid<|(is.take _).filterMap _=(is.take k).filterMap _++(U0 op ys _).toList:=List.take_succ_eq_append_getElem Z▸tP;have b7:=I (t.1 _<|List.getElem_mem Z).vok;generalize is[k]=s at*;clear f1 f2 f3;have c7:(k:Int)<(is.length):=X;go_wp2_with fail;refine Zv λW hW=>?_;have J:Below _ _ W:=hW▸Yc;have a8:Hid<|Ya W _ [.slice _ _ _,.string _,.int _ _] 223:=hW▸YO;have Q:=I<|Y.trans<|J.mono b6;have b8:=I λq hq=>(B.lt q hq).2;have R:=Ze B J;have M:Hid<|(∀i∈is,YR W i)/\∀i∈ys,YR W i:=I ⟨λi f=>(t.1 i f).below J,λi f=>(t.2 i f).below J⟩;clear hW J B Y t P d1 d2 d3;refine(sr (Ze HY.row Q) b5 b4).mono ?_;rintro e wr ⟨x,ok,rfl,a0,F⟩;have HX:=I<|a8.below F;have a1:=I<|Q.trans<|F.mono Q.size;have p:=Ze R F;have H:Hid<|(∀i∈is,YR _ i)/\∀i∈ys,YR _ i:=I ⟨λi f=>(M.1 i f).below F,λi f=>(M.2 i f).below F⟩;clear F a8 Q R M;have b9:=a1.size;rcases a0.out with⟨rfl,j,hj,L,rfl⟩|⟨rfl,L⟩
   .have O:Hid<|(is.take<|k+1).filterMap (U0 op ys)=os++[{s with v:=YI op s.v j.v}]:=by
     rw[a7,<-V];unfold U0;rw[L];rfl
    have c0:=I (H.2 j hj).vok;clear L a0 hj;go_upto_region 7 with fail;have S:Hid<|∀A,Ya A wo.heap.size [.slice s.a s.n s.c,.string s.tx,E s.v] 223->A.cell? _=some _/\A.cell? _=some _/\A.cell? _=some _:=I λA h1=>⟨h1.cell 0,h1.cell 1,h1.cell 2⟩;refine ZW 11 (λA=>A.cell? _=some _/\A.cell? _=some _/\A.cell? _=some _) Kr (S.out _ HX.out) λd=>?_;refine Za 0 d (h:=Za 1 d (h:=Za 2 d (h:=Za 3 d (h:=Za 4 d (h:=Za 5 d (h:=Za 6 d (h:=?_)))))));refine Zz (i:=7) Kr C λK D=>?_;go_simp;rw[a6];refine(Jm _ b0 _ _ b7 c0 _).mono ?_;rintro e w5 ⟨rfl,rfl⟩;rw[<-a6];go_simp;refine D _ _ (S _ HX) λd=>?_;clear D K;try simp only[Act.put,Yt]
    refine Za 8 d (h:=?_);refine Zz (i:=9) Kr C λK D=>?_;have G:Hid<|∀o,Below _ _<|wr.drew.alloc o:=I λo=>((Ym wr.heap.size _).drew).alloc (Yj _) _;go_simp;refine D _ _ (S _<|HX.below<|G _) λd=>?_;clear D K;try simp only[Act.put,Yt]
    refine Zz (i:=10) Kr C λK D=>?_;refine S3 C _ _ _ C _ 223 _ _ 3 _ underlying221 f b1 b2 b3 C N _ _ _ (by simp[Act.eval]) (Ze p<|G _) ⟨wr.heap.size,0,none⟩ 1 1 [.slice s.a s.n s.c,.string s.tx,E<|YI op s.v j.v] (by simp[Act.eval]) C ?h2 ?h3 ?h4 ?h5 ?h6 ?_;case h2=>exact Z1 C
    case h3=>intro u hu;simp at hu;rcases hu with rfl|rfl|rfl<;>rfl
    case h4=>unfold maxLen;omega
    case h5=>omega
    case h6=>simp;omega
    intro v6 w6 a3 r hwhere6;have a2:=(Wc.below (G _) _).trans<|Wc.grown r<|Ze p<|G _;have c1:Hid<|(∀i∈is,YR _ i)/\∀i∈ys,YR _ i:=I ⟨λi f=>(H.1 i f).kb a2 N,λi f=>(H.2 i f).kb a2 N⟩;have c2:=I<|(a1.trans<|(G _).mono b9).grown r (by simp;omega) λq hq=>(p.lt q hq).1;have a4:w6.ownsRow w.heap.size 223 3 v6 (os++[{s with v:=YI op s.v j.v}]).length<|Y5<|os++[{s with v:=YI op s.v j.v}]:=by rwa [Lr,Yv]
    have c3:=I<|(HX.below<|G _).grown r λe=>by have:=b8 _ e.symm;omega
    refine D _ _ (S _ c3) λd=>?_;clear D K;try simp only[Act.put,Yt]
    refine ZS Kr Kr C Kr λK D=>?_;go_simp;refine D _ _ ?_;clear D K r a3 p hwhere6 a2;go_wp2;go_roundw;case rel=>exact⟨k+1,_,X,by go_num,by simp;omega,a4,I O.symm,c1,c2⟩
    case measure=>simp[intOf];omega
   .have O:Hid<|os=(is.take _).filterMap _:=I<|by
     rw[a7,<-V];unfold U0;rw[L];simp
    clear L a0;go_wp2;go_roundw;case rel=>exact⟨k+1,os,X,by go_num,X,p,O,H,a1⟩
    case measure=>simp[intOf];omega
  .obtain rfl:k=is.length:=X;have c4:Hid<|Y2 _ _ _ _:=I<|by
    have e:=V.out;rw[X1]at e;refine⟨B.mono<|Yr _,by rw[e,AW t.2 t.1,HV.els,HY.els],λi f=>?_,X⟩;rw[e]at f;obtain⟨z,hz,a9⟩:=List.mem_filterMap.1 f;unfold U0 at a9;obtain⟨q,hq,rfl⟩:=RV.1 a9;exact⟨(t.1 z hz).lb,OV _ _ _ (t.1 z hz).vok⟩
   clear B;go_wp2;go_ret;exact⟨_,_,C,c4,Y⟩
