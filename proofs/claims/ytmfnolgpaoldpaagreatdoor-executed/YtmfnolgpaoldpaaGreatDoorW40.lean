/- Parts. -/
import Derived.Test.YtmfnolgpaoldpaaGreatDoorW39
import Derived.RangeFuncNested
import Derived.RangeFuncBound
import Derived.Sort.OwnSorted
import Derived.Test.YtmfnolgpaoldpaaGreatDoorW34
set_option linter.all false
set_option maxRecDepth 100000
set_option maxHeartbeats 16000000
namespace Go.Proofs.YtmfnolgpaoldpaaGreatDoor
open Go.RowKit LS Go.Proofs.Tryz
variable {es:Array MapEntry}{k:BA}{y:LB}{bs:List BA}{e:MapEntry}{B b1 b2 clock j x:Nat}{a aa:Option Addr}{nv u v:Value}{w w':World}
section
theorem QN(v:Value)(w:World):(Instr.typeAssert (.iface 219 v) 134 219 true).run prog w=.ok (.tuple #[v,.bool true]) w:=Kr
theorem QO(v:Value)(w:World):(Instr.typeAssert (.iface 221 v) 134 219 true).run prog w=.ok (.tuple #[E 0,.bool false]) w:=Kr
theorem RO(v:Value)(w:World):(Instr.typeAssert (.iface 221 v) 134 221 true).run prog w=.ok (.tuple #[v,.bool true]) w:=Kr
theorem nH (x:Int)(a:YD x)(w:World):CP 148 #[E x] w λe u=>e=.returned (E<|-x)/\BW w u:=by
 unfold YD at a;go_enter func148,ntmps148;go_wp2;go_ret;exact⟨C,Ym _ _⟩
theorem Ch{x:Int}(h:YD x):YD<|-x:=by unfold YD at*;omega
theorem jS (v:Value)(V:VV)(h:Vr w v V):CP 100 #[v] w λe u=>∃v',e=.returned v'/\Hid (Vr u v'<|TI V)/\BW w u:=by
 cases V with
 |inl n=>
  obtain⟨rfl,c⟩:=h;have i:=I<|Ch c;have j:=QN<|E n;unfold YD at c;go_enter func100,ntmps100;go_wp2;go_ret;exact⟨_,C,I ⟨C,i⟩,Ym _ _⟩
 |inr l=>
  obtain⟨s,is,rfl,d⟩:=h;have k:=I d;have j:=QO s;have o:=RO s;have eg:∀args w,(callFunc 148 _).run _ w=.ok _ w:=enters_of func148 Kr C;have m:=I<|Hp s l is 148 #[] _ w k eg (λW _ x a=>nH x a W) λx a=>Ch a;clear d eg;go_enter func100,ntmps100;go_wp2_with(go_at_call 144;refine m.mono ?_;rintro e p ⟨v',is',rfl,f,g⟩);go_ret;exact⟨_,C,I ⟨v',is',C,f⟩,g⟩
theorem wZ (op:Nat)(d:op<=3)(a x:Int)(f:YD a)(g:YD x)(w:World)(h:w.cell? ⟨b1,0,none⟩=some (E (op+1:Nat)))(j:w.cell? ⟨b2,0,none⟩=some (E a)):CP 145 #[E x,Vp b1,Vp b2] w λe u=>e=.returned (E<|YI op a x)/\BW w u:=by
 obtain⟨oz,c⟩:∃oz:Int,oz=((op+1:Nat)):=⟨_,C⟩;rw[<-c]at h;have i:Hid<|∀W,Calls _ _ _ W _:=I λW=>c▸Jm op d a x f g W;clear f g c;go_enter func145,ntmps145;go_wp2_with(go_at_call 143;refine(i.out _).mono ?_;rintro e u ⟨rfl,rfl⟩);go_ret;exact⟨C,Ym _ _⟩
theorem vd (op:Nat)(d:op<=3)(a x:Int)(f:YD a)(g:YD x)(w:World)(h:w.cell? ⟨b1,0,none⟩=some (E (op+1:Nat)))(j:w.cell? ⟨b2,0,none⟩=some (E a)):CP 146 #[E x,Vp b1,Vp b2] w λe u=>e=.returned (E<|YI op x a)/\BW w u:=by
 obtain⟨oz,c⟩:∃oz:Int,oz=((op+1:Nat)):=⟨_,C⟩;rw[<-c]at h;have i:Hid<|∀W,Calls _ _ _ W _:=I λW=>c▸Jm op d x a g f W;clear f g c;go_enter func146,ntmps146;go_wp2_with(go_at_call 143;refine(i.out _).mono ?_;rintro e u ⟨rfl,rfl⟩);go_ret;exact⟨C,Ym _ _⟩
theorem AO(w:World)(x y:Value)(s t:TypeId):Ya ((w.alloc<|.cells #[x] s).alloc<|.cells #[y] t) w.heap.size [x] s/\Ya ((w.alloc<|.cells #[x] s).alloc<|.cells #[y] t) (w.heap.size+1) [y] t:=by
 refine⟨(Yc.block _ Sm).trans YO,?_⟩;have:=Go.Deep.blk_alloc_new (w.alloc<|.cells #[x] s)<|.cells #[y] t;rw[Go.Deep.nblk_alloc]at this;exact this
theorem lj {op:Nat}(n:op<=3){x:Value}(y:Value)(X Y:VV)(K:Vr w x X)(A:Vr w y Y)(D:WG 1000 Y):CP 99 #[E (op+1:Nat),x,y] w λe u=>∃v',e=.returned v'/\Hid (Vr u v'<|QK op X Y)/\BW w u:=by
 obtain⟨oz,p⟩:∃oz:Int,oz=((op+1:Nat)):=⟨_,C⟩;rw[<-p];have f:=I p;clear p;have eg1:∀args w,(callFunc 145 _).run _ w=.ok _ w:=enters_of func145 Kr C;have eg2:∀args w,(callFunc 146 _).run _ w=.ok _ w:=enters_of func146 Kr C;have EG1:=I eg1;have EG2:=I eg2;clear eg1 eg2;cases X with
 |inl a=>
  obtain⟨rfl,q⟩:=K;have R:=QN<|E a;cases Y with
  |inl b=>
   obtain⟨rfl,r⟩:=A;have L:=QN<|E b;have o:Hid<|∀W,Calls _ _ _ W _:=I λW=>f.out▸Jm op n a b q r W;have M:=I<|OV op a b q;clear q r;go_enter func99,ntmps99;go_wp2_with(go_at_call 143;refine(o.out _).mono ?_;rintro e u ⟨rfl,rfl⟩);go_ret;exact⟨_,C,I ⟨C,M⟩,Yh⟩
  |inr m=>
   obtain⟨s,is,rfl,t⟩:=A;have B:=I t;have o:=I q;have L:=QO s;have O:=RO s;clear t q;go_enter func99,ntmps99;go_wp2_with fail;refine Zv λW d=>?_;have c:Below _ w W:=d▸Yc.alloc Sm _;have g:Hid<|W.cell? ⟨w.heap.size,0,none⟩=some (E oz)/\W.cell? ⟨w.heap.size+1,0,none⟩=some (E a):=by rw[d];obtain⟨g1,g2⟩:=AO w (E oz) (E a) 238 219;exact⟨g1.cell 0,g2.cell 0⟩
   clear d;refine(Hp s m is 145 #[Vp w.heap.size,Vp<|w.heap.size+1] (λz=>YI op a z) W (B.below c) EG1.out (λH h z v=>wZ op n a z o.out v H (by rw[<-f];exact(Zu.below h).cell g.1)<|(Zu.below h).cell g.2) λz _=>OV op a z o.out).mono ?_;rintro e J ⟨v',is',rfl,i,j⟩;have k:=c.trans<|j.mono c.size;go_wp2;go_ret;exact⟨_,C,I ⟨v',is',C,i⟩,k⟩
 |inr l=>
  obtain⟨s,is,rfl,t⟩:=K;have B:=I t;have R:=QO s;have L:=RO s;clear t;cases Y with
  |inl b=>
   obtain⟨rfl,r⟩:=A;have O:=QN<|E b;have o:=I r;clear r;go_enter func99,ntmps99;go_wp2_with fail;refine Zv λW d=>?_;have c:Below _ w W:=d▸Yc.alloc Sm _;have g:Hid<|W.cell? ⟨w.heap.size,0,none⟩=some (E oz)/\W.cell? ⟨w.heap.size+1,0,none⟩=some (E b):=by rw[d];obtain⟨g1,g2⟩:=AO w (E oz) (E b) 238 219;exact⟨g1.cell 0,g2.cell 0⟩
   clear d;refine(Hp s l is 146 #[Vp w.heap.size,Vp<|w.heap.size+1] (λz=>YI op z b) W (B.below c) EG2.out (λH h z v=>vd op n b z o.out v H (by rw[<-f];exact(Zu.below h).cell g.1)<|(Zu.below h).cell g.2) λz v=>OV op z b v).mono ?_;rintro e J ⟨v',is',rfl,i,j⟩;have k:=c.trans<|j.mono c.size;go_wp2;go_ret;exact⟨_,C,I ⟨v',is',C,i⟩,k⟩
  |inr m=>
   obtain⟨s2,is2,rfl,F⟩:=A;have P:=I F;have G:=I D.1;have O:=QO s2;have S:=RO s2;clear F D;go_enter func99,ntmps99;go_wp2_with fail;refine Zv λW d=>?_;have c:Below _ w W:=d▸Yc;clear d;rw[f];refine(yE n s l m W (B.below c) (P.below c) G).mono ?_;rw[<-f];rintro e J ⟨v',is',rfl,i,j⟩;have k:=c.trans<|j.mono c.size;have Q:Hid<|Vr J (.iface 221 v')<|QK op (.inr l)<|.inr m:=Dg op l m G.out▸⟨v',is',C,i.out⟩;go_wp2;go_ret;exact⟨_,C,Q,k⟩
def O1(bs:List BA):Prop:=bs.Pairwise λa b=>Op.bytesLess (bl b) (bl a)=false
theorem O1.le (h:O1 bs){i:Nat}(c:i<=j)(d:j<bs.length):Op.bytesLess (bl bs[j]) (bl<|bs[i]' X)=false:=by
 rcases Sg i j with a|a
 .exact List.pairwise_iff_getElem.1 h i j _ _ a
 .obtain rfl:i=j:=X;exact R6 _
theorem EL{x z:LB}(d:Op.bytesLess y x=false)(a:Op.bytesLess y z=true):Op.bytesLess x z=true:=by
 cases c:Op.bytesLess x y with
 |true=>exact PU _ _ _ c a
 |false=>rw[Pe _ _ c d];exact a
theorem DF(a:j<bs.length):(TE bs)[j]?=some (.string bs[j]):=by
 unfold TE;rw[Vt,List.getElem?_eq_getElem a];rfl
theorem Ck(c:O1 bs){k:Nat}(d:∀j (h:j<bs.length),j<k->Op.bytesLess (bl bs[j]) y=true)(e:∀j (h:j<bs.length),k<=j->Op.bytesLess (bl bs[j]) y=false)(f:y∈bs.map bl):∃h:k<bs.length,bl bs[k]=y:=by
 obtain⟨b,g,rfl⟩:=XJ.1 f;obtain⟨j,i,rfl⟩:=List.mem_iff_getElem.1 g;have a:k<=j:=by
  rcases Sg j k with h|h
  .have:=d j i h;rw[R6]at this;cases this
  .exact h
 exact⟨X,Pe _ _ (e k _<|Yj _)<|c.le a _⟩
theorem uR(tx:BA)(w:World)(c:w.ownsRow 0 9 1 v bs.length<|TE bs)(H:bs.length<=100000)(A:O1 bs):
 CP 181 #[v,.string tx] w λe u=>∃k:Nat,e=.returned (.tuple #[E k,.bool<|decide<|bl tx∈bs.map bl])/\u=w:=by
 obtain⟨ra,rcp,rfl⟩:=Zd c;have n:=XH c;have o:=XH A;obtain⟨fd,f⟩:∃fd,fd=decide (bl tx∈bs.map bl):=⟨_,C⟩;rw[<-f];have l:=XH f;clear c A f;go_enter func181,ntmps181;go_wp2;go_loopg [7,8] bs.length (λkx s5 s6 wr=>∃lo a:Nat,s5=E lo/\s6=E a/\lo<=a/\a<=bs.length/\a-lo<=kx/\wr=w/\Hid ((∀j (h:j<bs.length),j<lo->Op.bytesLess (bl bs[j]) (bl tx)=true)/\(∀j (h:j<bs.length),a<=j->Op.bytesLess (bl bs[j]) (bl tx)=false)));case atStart=>exact⟨0,bs.length,C,C,Yr _,Yj _,X,C,XH ⟨λj _ h=>absurd h<|Tu _,λj h m=>X⟩⟩
 case round=>
  obtain⟨lo,a,rfl,rfl,K,B,p,rfl,I⟩:=hrel;by_cases L:lo<a
  .have s:(lo+a)/2<bs.length:=X;have p:∃g,ra=some ⟨g,0,none⟩:=by
    obtain⟨g,cp',h⟩:=Zm n.out X;injection h with h1;exact⟨g,h1⟩
   obtain⟨g,rfl⟩:=p;have d1:=Zc n _ _<|DF s;have M:(((lo+a)/2:Nat))=((lo:Int)+(a))/2:=X;have O:(((lo:Int)+(a))/2).toNat=(lo+a)/2:=X;have q:=pJ bs[(lo+a)/2] tx;have D:Hid<|Op.bytesLess _ (bl tx)=true->∀i (h:i<bs.length),i<=(lo+a)/2->Op.bytesLess (bl _) _=true:=XH λr i h m=>EL (o.le m s) r;have F:Hid<|Op.bytesLess (bl bs[(lo+a)/2]) _=false->∀i (h:i<bs.length),(lo+a)/2<=i->Op.bytesLess _ _=false:=XH λr i h m=>by
    cases J:Op.bytesLess (bl bs[i]) (bl tx)with
    |false=>rfl
    |true=>rw[EL (o.le m h) J]at r;cases r
   generalize bs[(lo+a)/2]=x at*;cases d:Op.bytesLess (bl x) (bl tx)with
   |true=>
    rw[d]at q;have z:=XH<|D d;clear d;go_wp2_with(go_at_call 211;refine(q _).mono ?_;rintro e u ⟨rfl,rfl⟩);go_roundg (a-((lo+a)/2+1));case measure=>omega
    case rel=>
     exact⟨(lo+a)/2+1,a,by rw[show((lo)+(a))/2+1=(((lo+a)/2+1:Nat):Int)by omega],C,X,B,Yj _,C,XH ⟨λj h m=>z j h X,I.2⟩⟩
   |false=>
    rw[d]at q;have z:=XH<|F d;clear d;go_wp2_with(go_at_call 211;refine(q _).mono ?_;rintro e u ⟨rfl,rfl⟩);go_roundg ((lo+a)/2-lo);case measure=>omega
    case rel=>
     exact⟨lo,(lo+a)/2,C,by rw[show((lo)+(a))/2=(((lo+a)/2:Nat):Int)by omega],X,X,Yj _,C,XH ⟨I.1,z⟩⟩
  .obtain rfl:a=lo:=X;by_cases t:a<bs.length
   .have p:∃g,ra=some ⟨g,0,none⟩:=by
     obtain⟨g,cp',h⟩:=Zm n.out X;injection h with h1;exact⟨g,h1⟩
    obtain⟨g,rfl⟩:=p;have d1:=Zc n _ _<|DF t;have G:(bs[a].toList==tx.toList)=fd:=by
     rw[Gs,l,O7];constructor
     .intro h;rw[<-h];exact XJ.2 ⟨_,List.getElem_mem _,C⟩
     .intro h;exact(Ck o I.1 I.2 h).2
    clear l;generalize bs[a]=x at*;cases fd
    .go_wp2_with(go_at_call 212;refine(CT).mono ?_;rintro e u ⟨rfl,rfl⟩);go_ret2;exact⟨a,C,C⟩
    .go_wp2_with(go_at_call 212;refine(CT).mono ?_;rintro e u ⟨rfl,rfl⟩);go_ret2;exact⟨a,C,C⟩
   .have G:fd=false:=by
     rw[l,O4];intro h;exact t (Ck o I.1 I.2 h).1
    subst G;go_wp2;go_ret2;exact⟨a,C,C⟩
theorem oF{l:List Xc}{p:Xc}{ns:List<|LB}:Zp (l++[p]) ns=if p.1∈ns then Zp l ns++[p]else Zp l ns:=by
 unfold Zp;rw[N6];split
 .rename_i h;rw[NX<|by simpa using h];rfl
 .rename_i h;rw[NY<|by simpa using h];simp
theorem py{n c:Nat}{tx:BA}{qs:List<|BA×BA}(w:World)(V:Xz w a n c tx qs)(hn:w.ownsRow 0 9 1 nv bs.length<|TE bs)(a8:bs.length<=100000)(hs:O1 bs):
 CP 149 #[.agg #[.slice a n c,.string tx],nv] w λe w'=>∃(a':Option Addr)(n' c':Nat)(tx':BA)(qs':List<|BA×BA),e=.returned (.agg #[.slice a' n' c',.string tx'])/\Hid (Xz w' a' n' c' tx' qs'/\qs'.map Xt=Zp (qs.map Xt) (bs.map bl))/\BW w w':=by
 obtain⟨i0,hi,a9,b0,b1⟩:=Xv Tryz.infoLabel;have b2:qs.length=n:=by have:=V.row.1.1;rw[Jd]at this;omega
 subst b2;obtain⟨na,ncp,rfl⟩:=Zd hn;have K:=I V;have c9:=V.row.2.1;have b3:=I λW L nm=>uR nm W (Ze hn L) a8 hs;clear V hn hs;go_enter func149,ntmps149;go_wp2;go_loopw [5,13] (λv i wr=>∃(k:Nat)(os:List<|BA×BA),k<=qs.length/\i=E k/\os.length<=k/\wr.ownsRow (w.heap.size+2) 340 2 v os.length (UG os)/\Hid (os.map Xt=Zp ((qs.take k).map Xt) (bs.map bl)/\∀p∈os,p∈qs)/\Hid (Ya wr w.heap.size [.slice a qs.length c,.string tx] 198)/\Hid (Ya wr (w.heap.size+1) [S0,.string ⟨#[]⟩] 198)/\Hid (BW w wr))
  (λ_ i _=>qs.length-(intOf i).toNat);case atStart=>
  obtain⟨g1,g2⟩:Ya ((w.alloc<|.cells #[.slice a qs.length c,.string tx] 198).alloc<|.cells #[S0,.string ⟨#[]⟩] 198) _ _ _/\Ya _ _ _ _:=by
   refine⟨(Yc.block _ Sm).trans YO,?_⟩;have:=Go.Deep.blk_alloc_new (w.alloc<|.cells #[.slice a qs.length c,.string tx] 198)<|.cells #[S0,.string ⟨#[]⟩] 198;rw[Go.Deep.nblk_alloc]at this;exact this
  exact⟨0,[],Yr _,C,Yr _,Xm _ _ _ _,I ⟨C,λp r=>by cases r⟩,I g1,I g2,I<|Yc.alloc Sm _⟩
 case round=>
  rename World=>wo;obtain⟨k,os,hk,rfl,c8,d,s,H,l,F⟩:=hrel;have a1:=F.size;have d0:=H.lt;have d3:=l.lt;by_cases M:k<qs.length
  .have hg:∃g,a=some ⟨g,0,none⟩:=by
    obtain⟨g,cp',h⟩:=Zm K.row.1 X;injection h with h1;exact⟨g,h1⟩
   obtain⟨g,rfl⟩:=hg;have O:=I<|Ze K.row.1 F;obtain⟨f1,f2⟩:=Jc qs k;rw[List.getElem?_eq_getElem M]at f1 f2;have d1:=Zc O _ _ f1;have d2:=Zc O _ _ f2;have a2:Hid<|Zp ((qs.take<|k+1).map Xt) (bs.map bl)=if bl (qs[k]).1∈bs.map bl then Zp ((qs.take k).map Xt) (bs.map bl)++[Xt qs[k]]else Zp ((qs.take k).map Xt)<|bs.map bl:=List.take_succ_eq_append_getElem M▸Y9▸oF;have b4:=I<|List.getElem_mem M;generalize qs[k]=q at*;obtain⟨x,y⟩:=q;simp only at d1 d2;clear f1 f2 O;have d4:(k:Int)<(qs.length):=X;go_wp2_with fail;refine Zv λW L=>?_;have z:Below _ _ W:=L▸Yc;have HX:Hid<|Ya W _ _ 340:=L▸YO;have P:=I<|F.trans<|z.mono a1;have d5:=I λq hq=>(d.lt q hq).2;have f:=Ze d z;have Q:=I<|H.below z;have R:=I<|l.below z;clear L z d F d1 d2 H l;refine(b3 W P x).mono ?_;rintro e Y ⟨kk,rfl,rfl⟩;have d6:=HX.lt;by_cases J:bl x∈bs.map bl
   .rw[WI J];have G:Hid<|(os++[(x,y)]).map Xt=Zp _ _/\∀p∈os++[(x,y)],p∈qs:=I ⟨by rw[a2,Ye J,Y9,s.1];rfl,λp r=>by
    rcases Wk.1 r with r|r
    .exact s.2 p r
    .rw[Vs]at r;subst r;exact b4⟩;clear J;have x0:=HX.cell;go_wp2_with(at_builtin;refine XC _ C (.tmp 25) (.tmp 27) 196 C (w.heap.size+2) 340 i0 (.agg #[.string ByteArray.empty,.string ByteArray.empty]) 2 32 underlying196 hi a9 b0 b1 C N _ _ _ C (f.alloc _) ⟨Y.heap.size,0,none⟩ 1 1 [.string x,.string y] C C ?c1 ?c2 ?c3 ?c4 ?c5 ?_);case c1=>exact Z1 C
    case c2=>intro u hu;simp at hu;rcases hu with rfl|rfl<;>rfl
    case c3=>unfold maxLen;omega
    case c4=>omega
    case c5=>simp;omega
    intro v6 w6 Z m _;have a3:∀o,Below _ _<|Y.alloc o:=λo=>Yc;have S:=(Wc.below (a3 _) _).trans<|Wc.grown m<|f.alloc _;have b5:=I<|(P.alloc X _).grown m (by simp;omega) λq hq=>by have:=(f.lt q hq).1;omega
    have a0:w6.ownsRow (w.heap.size+2) 340 2 v6 (os++[(x,y)]).length<|UG<|os++[(x,y)]:=by rwa [DB,Yv]
    have a6:Hid<|Ya _ _ _ _:=I<|S _ _ _ _ N Q;have a7:Hid<|Ya _ _ _ _:=I<|S _ _ _ _ N R;clear m Z f S x0 a3;go_wp2;go_roundw;case rel=>exact⟨k+1,_,X,by go_num,by simp;omega,a0,G,a6,a7,b5⟩
    case measure=>simp[intOf];omega
   .rw[Wl J];have G:Hid<|os.map Xt=Zp ((qs.take<|k+1).map Xt) (bs.map bl)/\∀p∈os,p∈qs:=I ⟨a2.out▸Yd J▸s.1,s.2⟩;clear J;go_wp2;go_roundw;case rel=>exact⟨k+1,os,X,by go_num,X,f,G,Q,R,P⟩
    case measure=>simp[intOf];omega
  .obtain rfl:k=qs.length:=X;have HK:Hid<|os.map Xt=Zp (qs.map Xt) (bs.map bl):=by have:=s.1;rwa [X1]at this
   have b6:Hid<|Rj<|os.map _:=HK.out▸K.wf.kept _;have b7:=I λp r=>K.row.2.2 p<|s.2 p r;obtain⟨va,vcp,b8⟩:=Zd d;subst b8;have y0:=H.cell;have z0:=l.cell 0;have z1:=l.cell 1;have fz0:=l.frozen;simp only[Yf]at z0 z1;by_cases a4:os.length=qs.length
   .have b9:((os.length:Int)==(qs.length))=true:=by simp[a4]
    have c0:Hid<|qs.map Xt=Zp (qs.map Xt) (bs.map bl):=by
     unfold Zp;refine(J3.2 ?_).symm;have h1:=HK.out;have h2:(Zp (qs.map Xt)<|bs.map bl).length=(qs.map Xt).length:=by rw[<-h1,Yz,Yz,a4]
     unfold Zp at h2;exact List.length_filter_eq_length_iff.1 h2
    have A:=I<|K.jk<|Zu.below F;have T:Hid<|∀x y,Xz ((wo.setCell ⟨w.heap.size+1,0,none⟩ x).setCell ⟨w.heap.size+1,1,none⟩ y) a _ c _ _:=I λx y=>⟨⟨LA A.row.1 λj hj=>by
     have B:j≠w.heap.size+1:=by rintro rfl;exact ZD A.row.1 l N hj.symm
     rw[Go.Deep.blk_setCell_other _ _ _ _ B,Go.Deep.blk_setCell_other _ _ _ _ B],A.row.2⟩,A.txt,A.wf⟩;clear d;go_wp2;exact YQ (by simp[results,results149,go_sem,z0,z1]) C ⟨a,qs.length,c,tx,qs,C,I ⟨T _ _,c0⟩,(F.setCell (by show w.heap.size<=w.heap.size+1;omega) _).setCell (by show w.heap.size<=w.heap.size+1;omega) _⟩
   .have b9:((os.length:Int)==(qs.length))=false:=by rw[YB];omega
    have c6:Hid<|TQ _ 0 _ _ _:=I ⟨d.mono<|Yr _,X,b7⟩;clear d;go_wp2_with fail;refine(B3 c6).mono ?_;rintro e Y ⟨a',c',rfl,a5,U⟩;have t:=I<|l.below U;have c7:=I<|F.trans<|U.mono a1;have D:Hid<|Xz _ _ _ _ ⟨(Wv _).toArray⟩ _:=I ⟨a5,by rw[Fh];rfl,b6⟩;have T:Hid<|∀x y,Xz ((Y.setCell ⟨w.heap.size+1,0,none⟩ x).setCell ⟨w.heap.size+1,1,none⟩ y) _ _ _ _ _:=I λx y=>⟨⟨LA D.row.1 λj hj=>by
     have B:j≠w.heap.size+1:=by rintro rfl;exact ZD D.row.1 t N hj.symm
     rw[Go.Deep.blk_setCell_other _ _ _ _ B,Go.Deep.blk_setCell_other _ _ _ _ B],D.row.2⟩,D.txt,D.wf⟩;clear y0 z0 z1 fz0 a5 U;have z0:=t.cell 0;have z1:=t.cell 1;have fz0:=t.frozen;simp only[Yf]at z0 z1;go_wp2;exact YQ (by simp[results,results149,go_sem,z0,z1]) C ⟨a',os.length,c',_,os,C,I ⟨T _ _,HK⟩,(c7.setCell (by show w.heap.size<=w.heap.size+1;omega) _).setCell (by show w.heap.size<=w.heap.size+1;omega) _⟩
attribute [local go_sem] Oper.semAt_some
theorem Tryz.infoStrG:(Tryz.prog.info? 9).map (λi=>(i.zero,i.size,i.bytes))=some (some<|.string ByteArray.empty,1,16):=Kr
end
section
open Go.ChangeMaps (setBlock)
structure YJ (x B:Nat)(w w':World):Prop where
 os:w'.os=w.os
 tape:w'.tape=w.tape
 output:w'.output=w.output
 size:w.heap.size<=w'.heap.size
 block:∀k,k<B->k≠x->w'.heap[k]?=w.heap[k]?
theorem YJ.of(h:Below B w w'):YJ x B w w':=⟨h.os,h.tape,h.output,h.size,λk a _=>h.block k a⟩
theorem YJ.refl(x B:Nat)(w:World):YJ x B w w:=YJ.of<|Ym B w
theorem YJ.trans{a b c:World}(h:YJ x B a b)(k:YJ x B b c):YJ x B a c:=⟨k.os.trans h.os,k.tape.trans h.tape,k.output.trans h.output,Xb h.size k.size,λj d e=>(k.block j d e).trans<|h.block j d e⟩
theorem YJ.mono{x B C:Nat}(h:YJ x C w w')(c:B<=C):YJ x B w w':=⟨h.os,h.tape,h.output,h.size,λk d a=>h.block k X a⟩
theorem YJ.below(h:YJ x B w w')(c:B<=x):Below B w w':=⟨h.os,h.tape,h.output,h.size,λk a=>h.block k a X⟩
theorem YJ.set(x B:Nat)(w:World)(o':Obj):YJ x B w<|setBlock w x o':=⟨C,C,C,by simp[setBlock],λk _ a=>by simp[setBlock,Qx a]⟩
def XN(w:World)(x:Nat):Prop:=∃es clock,w.heap[x]?=some (.map es clock)
theorem Zu.belX (h:YJ x w.heap.size w w')(d:XN w x):Zu w w':=λb c T fr a=>by
 obtain⟨es,cl,f⟩:=d;refine(h.block b (Xr.1 a).1 λe=>?_).trans a;simp_all
structure XU where
 a:Option Addr
 n:Nat
 c:Nat
 tx:BA
 qs:List<|BA×BA
 vals:List Int
def XU.val(g:XU):Value:=.agg (.slice g.a g.n g.c::.string g.tx::Vd g.vals).toArray
def XU.grp(g:XU):Ql:=(g.qs.map Xt,g.vals)
structure XE (w:World)(g:XU):Prop where
 lb:Xz w g.a g.n g.c g.tx g.qs
 vok:∀v∈g.vals,YD v
theorem XE.jk{g:XU}(h:XE w g)(a:Zu w w'):XE w' g:=⟨h.lb.jk a,h.vok⟩
structure Xe (w:World)(x:Nat)(gs:List XU)(es:Array MapEntry)(clock:Nat):Prop where
 heap:w.heap[x]?=some (.map es clock)
 stm:MapKept.Stamped es clock
 kv:es.toList.map (λe=>(e.key,e.val))=gs.map λg=>(Value.string g.tx,g.val)
 sz:∀g∈gs,g.tx.size<=maxLen
theorem Xe.len{gs:List XU}(h:Xe w x gs es clock):es.size=gs.length:=by
 have:=congrArg List.length h.kv;simp_all
theorem Xe.at{gs:List XU}(h:Xe w x gs es clock)(c:es.toList[j]?=some e):∃d:j<gs.length,e.key=.string gs[j].tx/\e.val=gs[j].val:=by
 have f:(es.toList.map λe=>(e.key,e.val))[j]?=(gs.map λg=>(Value.string g.tx,g.val))[j]?:=by rw[h.kv]
 rw[Vt,c,Vt]at f;have d:j<gs.length:=by
  rcases Sg j gs.length with a|a
  .exact a
  .simp_all
 simp_all
theorem Xe.keys {gs:List XU}(h:Xe w x gs es clock):∀e∈es.toList,∃l,keyOf prog 9 e.key=some l:=λe a=>by
 obtain⟨j,c⟩:=Ig a;obtain⟨f,d,_⟩:=h.at c;rw[d];exact⟨_,Go.WideMaps.keyOf_string_mk underlying9<|h.sz _<|List.getElem_mem _⟩
theorem Xe.moved{gs:List XU}(h:Xe w x gs es clock)(a:w'.heap[x]?=w.heap[x]?):Xe w' x gs es clock:=⟨a.trans h.heap,h.stm,h.kv,h.sz⟩
def xS:Value:=.agg #[S0,.string ByteArray.empty,E 0,E 0,E 0,E 0,E 0,E 0]
theorem Xe.find{gs:List XU}(h:Xe w x gs es clock)(k:BA)(u:k.size<=maxLen):
 ((∀W:World,(Instr.findKey 9 (.string k) es.toList).run prog W=.ok none W)/\(∀g∈gs,g.tx≠k)/\∀e∈es.toList,e.key≠.string k)∨
 ∃j,∃p:j<gs.length,gs[j].tx=k/\(∀i (l:i<gs.length),i≠j->gs[i].tx≠k)/\∃e,es.toList[j]?=some e/\e.key=.string k/\e.val=gs[j].val/\∀W:World,(Instr.findKey 9 (.string k) es.toList).run prog W=.ok (some (j,e.val)) W:=by
 have K:=Maps.string_keyed (P:=prog) (k:=9) underlying9;have d:=Go.WideMaps.keyOf_string_mk (P:=prog) (k:=9) underlying9 u;rcases K.find w d es.toList h.keys with⟨v,a⟩|⟨j,e,v,a,o⟩
 .left;refine⟨λW=>?_,λg z A=>?_,a⟩
  .rcases K.find W d es.toList h.keys with⟨k1,_⟩|⟨j,e,k1,k2,k3⟩
   .exact k1
   .exact absurd k3<|a e<|QY k2
  .obtain⟨i,l,rfl⟩:=List.mem_iff_getElem.1 z;have c:i<es.toList.length:=by rw[Sy,h.len];exact l
   obtain⟨_,e1,_⟩:=h.at<|List.getElem?_eq_getElem c;simp_all
 .right;obtain⟨p,e1,e2⟩:=h.at a;rw[o]at e1;have q:gs[j].tx=k:=(Value.string.inj e1).symm;have m:=h.stm.2.2;have f:∀i (l:i<gs.length),i≠j->gs[i].tx≠k:=λi l B A=>by
    have c:i<es.toList.length:=by rw[Sy,h.len];exact l
    have n:j<es.toList.length:=(RX.1 a).1;obtain⟨_,f1,_⟩:=h.at<|List.getElem?_eq_getElem c;have e3:es.toList[j]=e:=Uc<|(List.getElem?_eq_getElem n).symm.trans a;rw[List.Nodup,Rx,List.pairwise_iff_getElem]at m;rcases Sg i j with r|r
    .exact m i j c n r<|by simp_all
    .exact m j i n c X<|by simp_all
  refine⟨j,p,q,f,e,a,o,e2,λW=>?_⟩;rcases K.find W d es.toList h.keys with⟨_,k2⟩|⟨j',e',k1,k2,k3⟩
  .exact absurd o<|k2 e<|QY a
  .obtain⟨s,f1,f2⟩:=h.at k2;rw[k3]at f1;have:j'=j:=by
    refine JZ λt=>f j' s t ?_;exact(Value.string.inj f1).symm
   simp_all
theorem ml{gs:List XU}(h:Xe w x gs es clock)(c:k.size<=maxLen)(d:∀W:World,(Instr.findKey 9 (.string k) es.toList).run prog W=.ok none W)(W:World)(e:W.heap[x]?=w.heap[x]?):
 (Instr.lookup 304 (.map<|some x) (.string k) false).run prog W=.ok xS W:=by
 have K:=Maps.string_keyed (k:=9) underlying9;have a:=Go.WideMaps.keyOf_string_mk (k:=9) underlying9 c;simp[Instr.lookup,QU _,QR<|e.trans h.heap,K.check W _ a,d W,Result.andThen];rfl
theorem mh{gs:List XU}(h:Xe w x gs es clock)(c:k.size<=maxLen)(d:∀W:World,(Instr.findKey 9 (.string k) es.toList).run prog W=.ok (some (j,v)) W)(W:World)(e:W.heap[x]?=w.heap[x]?):
 (Instr.lookup 304 (.map<|some x) (.string k) false).run prog W=.ok v W:=by
 have K:=Maps.string_keyed (k:=9) underlying9;have a:=Go.WideMaps.keyOf_string_mk (k:=9) underlying9 c;simp[Instr.lookup,QU _,QR<|e.trans h.heap,K.check W _ a,d W,Result.andThen]
theorem xr{gs:List XU}(h:Xe w x gs es clock)(d:k.size<=maxLen)(e:∀W:World,(Instr.findKey 9 (.string k) es.toList).run prog W=.ok none W)(v:Value)(W:World)(c:W.heap[x]?=w.heap[x]?):
 (Instr.mapUpdate 304 (.map<|some x) (.string k) v).run prog W=.ok () (setBlock W x<|.map (es.push ⟨.string k,v,clock⟩)<|clock+1):=by
 have K:=Maps.string_keyed (k:=9) underlying9;have a:=Go.WideMaps.keyOf_string_mk (k:=9) underlying9 d;simp[Instr.mapUpdate,QU _,QR<|c.trans h.heap,K.check W _ a,e W,N4 _<|c.trans h.heap,Result.andThen,setBlock]
theorem xj{gs:List XU}(h:Xe w x gs es clock)(g:k.size<=maxLen)(i:es.toList[j]?=some e)(c:e.key=.string k)(l:∀W:World,(Instr.findKey 9 (.string k) es.toList).run prog W=.ok (some (j,u)) W)(v:Value)(W:World)(d:W.heap[x]?=w.heap[x]?):
 (Instr.mapUpdate 304 (.map<|some x) (.string k) v).run prog W=.ok () (setBlock W x<|.map (es.modify j λe=>{e with key:=.string k,val:=v}) clock):=by
 have K:=Maps.string_keyed (k:=9) underlying9;have a:=Go.WideMaps.keyOf_string_mk (k:=9) underlying9 g;have f:((es[j]?).map (·.key)).getD (.string k)=.string k:=QW▸i▸c;simp[Instr.mapUpdate,QU _,QR<|d.trans h.heap,K.check W _ a,l W,f,K.stays W a,N4 _<|d.trans h.heap,Result.andThen,setBlock]
theorem Cj :CP 91 #[] w λe u=>e=.returned (Vp<|w.heap.size+1)/\Hid (XN u w.heap.size)/\Hid (Ya u (w.heap.size+1) [.map<|some w.heap.size] 306)/\u.heap.size=w.heap.size+2/\BW w u:=by
 have c:=@run_makeMap prog;go_enter func91,ntmps91;go_wp2;go_ret;have a:Below _ w<|w.alloc<|.map #[] 0:=Yc;refine⟨C,I ⟨#[],0,(Yc.block _ Sm).trans YO⟩,I ?_,Sm,a.alloc Sm _⟩;have:=Go.Deep.blk_alloc_new (w.alloc<|.map #[] 0)<|.cells #[.map<|some w.heap.size] 306;rw[Go.Deep.nblk_alloc]at this;exact this
theorem XN.below(h:XN w x)(c:BW w w'):XN w' x:=by
 obtain⟨es,cl,a⟩:=h;exact⟨es,cl,(c.block x (Xr.1 a).1).trans a⟩
theorem XN.grown{r:Option Nat}(h:XN w x)(c:w.grownBy w' r)(d:some x≠r):XN w' x:=by
 obtain⟨es,cl,a⟩:=h;exact⟨es,cl,(c.block x (Xr.1 a).1 d).trans a⟩
theorem Ya.set1{a:Nat}{p q r x:Value}{t:TypeId}(h:Ya w a [p,q,r] t):Ya (w.setCell ⟨a,1,none⟩ x) a [p,x,r] t:=by
 unfold Ya at h;unfold Ya;simp only[World.setCell,V4,h,VE,Wr];rfl
theorem C0:∀l:List<|LB,Lib.join l [10]=VX l
 |[]=>C
 |[a]=>by simp[Lib.join,List.intercalate,VX]
 |a::b::l=>by
  have ih:=C0<|b::l;rw[VX,<-ih];simp[Lib.join,List.intercalate]
theorem C1{n:Nat}:∀l:List<|LB,(∀x∈l,x.length<=n)->(VX l).length<=l.length*(n+1)
 |[],_=>Yr _
 |[a],h=>by have:=h a Sm;simp only[VX,Y1,TP];omega
 |a::b::l,h=>by
  have ih:=C1 _ λx c=>h x<|Vf _ c;have d:=h a Sm;have e:(VX<|a::b::l).length=a.length+((VX<|b::l).length+1):=by rw[VX,Yv,Y1]
  rw[e,Y1,Nat.succ_mul];omega
section
variable {P:Program} {ops:Array Oper} {Q:Exit->Act->World->Prop} {md:Region.Mode} {S:World->Prop} {k:Nat}
theorem fA{i:Nat}{o p:Oper}{f:Nat}{ls:Array Bool}{a:Act}(l:Region.ready md ops ls=[i,j])(n:ops[i]?=some o)(q:ops[j]?=some p)
 (h:∀K':Act->World->Prop,Shut (∀a w,S w->(S w->T3 P md ops Q S k f (ls.setIfInBounds i true) a w)->K' a w)->if Region.wanted o (yielded ops a.tmps)=true then Oper.wp P o a w K' Q else K' (a.put o.dst undef) w)
 (r:∀K':Act->World->Prop,Shut (∀a w,S w->(S w->T3 P md ops Q S k f (ls.setIfInBounds j true) a w)->K' a w)->if Region.wanted p (yielded ops a.tmps)=true then Oper.wp P p a w K' Q else K' (a.put p.dst undef) w):T3 P md ops Q S k (f+1) ls a w:=by
 refine⟨λm=>(by rw[l]at m;cases m),λx d=>?_⟩;rw[l]at d;simp only[X0,List.not_mem_nil,or_false]at d;rcases d with rfl|rfl
 .exact wpOp_step n λK' e=>h _ λa w c g=>e a w ⟨λ_=>c,g c⟩
 .exact wpOp_step q λK' e=>r _ λa w c g=>e a w ⟨λ_=>c,g c⟩
end
structure Qo (w w':World)(base mb:Nat)(c0 c1 c2 c3 al:Value):Prop where
 ex:∃x gb gx,Un w' base mb c0 c1 c2 c3 al 0 (.map<|some x) (Vp gb) none 0 0 []/\XI w' x [] #[] 0/\Ya w' gb [.map<|some gx] 306/\XN w' gx/\w.heap.size<=x/\w.heap.size<=gb/\w.heap.size<=gx/\x≠gx
 old:w.heap.size<=mb
 below:BW w w'
theorem Qo.made{a:World}(base:Nat)(c0 c1 c2 c3 al:Value){gb gx:Nat}(f:a.heap[x]?=some (.map #[] 0))(d:Ya a gb [.map<|some gx] 306)(h:XN a gx)(i:w.heap.size<=x)(j:w.heap.size<=gb)(l:w.heap.size<=gx)(m:x≠gx)(e:BW w a):
 Qo w (a.alloc<|.cells #[c0,c1,c2,c3,al,E 0,S0,.map<|some x,Vp gb] 214) base a.heap.size c0 c1 c2 c3 al:=by
 have c:∀o,Below _ _<|a.alloc o:=λo=>Yc;refine⟨⟨x,gb,gx,⟨YO,⟨Sm,.inl ⟨C,C⟩⟩,C⟩,⟨((c _).block x (Xr.1 f).1).trans f,⟨Sm,Sm,Sm⟩,C,λg d=>(by cases d)⟩,d.below<|c _,h.below<|c _,i,j,l,m⟩,e.size,e.trans<|(c _).mono e.size⟩
theorem jT(w:World)(base:Nat){c0 c1 c2 c3:Value}{an ac:Nat}:
 CP 46 #[.agg #[c0,c1,c2,c3],.slice aa an ac] w λe u=>∃mb,e=.returned (Vp mb)/\Hid (Qo w u base mb c0 c1 c2 c3<|.slice aa an ac):=by
 have D:=@run_makeMap prog;have n:Hid<|Ya (w.alloc<|.cells #[c0,c1,c2,c3] 80).drew _ _ _:=I<|Ya.below YO (Ym _ _).drew;have r:Hid<|Below _ w (w.alloc<|.cells #[c0,c1,c2,c3] 80).drew:=I Yc.drew;go_enter func46,ntmps46;go_upto_region 1 with fail;refine ZW 6 (λu=>u.cell? _=some _/\u.cell? _=some _/\u.cell? _=some _/\u.cell? _=some _) Kr ⟨n.cell 0,n.cell 1,n.cell 2,n.cell 3⟩ λa=>?_;generalize B:(w.alloc<|.cells #[c0,c1,c2,c3] 80).drew=W at n r a⊢;clear B;refine Za 0 a (h:=Za 1 a (h:=?_));refine fA (i:=2) (j:=3) Kr C C (λK c=>?_) λK c=>?_
 .go_simp;have m:=r.size;have f:Hid<|Ya (W.alloc<|.map #[] 0) _ _ _:=I<|n.below Yc;refine c _ _ ⟨f.cell 0,f.cell 1,f.cell 2,f.cell 3⟩ λa=>?_;clear c K;try simp only[Act.put,Yt]
  refine Zz (i:=3) Kr C λK c=>?_;go_simp;refine(Cj).mono ?_;rintro e A ⟨rfl,s,t,v,l⟩;go_simp;have d:=I<|f.below l;refine c _ _ ⟨d.cell 0,d.cell 1,d.cell 2,d.cell 3⟩ λa=>?_;clear c K;try simp only[Act.put,Yt]
  have p:(W.alloc<|.map #[] 0).heap.size=W.heap.size+1:=Go.Deep.nblk_alloc _ _;have q:=I<|Qo.made base c0 c1 c2 c3 (.slice aa an ac) ((l.block _ X).trans YO) t s m X X X<|(r.alloc m _).trans<|l.mono X;refine Za 4 a (h:=?_);refine Zz (i:=5) Kr C λK c=>?_;go_simp;have g:Hid<|∀o,Ya (A.alloc o) _ _ _:=I λo=>d.below Yc;refine c _ _ ⟨(g _).cell 0,(g _).cell 1,(g _).cell 2,(g _).cell 3⟩ λa=>?_;clear c K;try simp only[Act.put,Yt]
  refine ZS Kr Kr C Kr λK c=>?_;go_simp;refine c _ _ ?_;clear c K;go_wp2;go_ret;simp only[v,p]at q;exact⟨_,C,q⟩
 .go_simp;have m:=r.size;refine(Cj).mono ?_;rintro e z ⟨rfl,s,t,v,l⟩;go_simp;have f:=I<|n.below l;refine c _ _ ⟨f.cell 0,f.cell 1,f.cell 2,f.cell 3⟩ λa=>?_;clear c K;try simp only[Act.put,Yt]
  refine Zz (i:=2) Kr C λK c=>?_;go_simp;have x:Below _ _<|z.alloc<|.map #[] 0:=Yc;have d:=I<|f.below x;refine c _ _ ⟨d.cell 0,d.cell 1,d.cell 2,d.cell 3⟩ λa=>?_;clear c K;try simp only[Act.put,Yt]
  have p:(z.alloc<|.map #[] 0).heap.size=z.heap.size+1:=Go.Deep.nblk_alloc _ _;have q:=I<|Qo.made base c0 c1 c2 c3 (.slice aa an ac) YO (t.below x) (s.below x) X X m X<|(r.trans<|l.mono m).trans<|x.mono X;clear x;generalize z.alloc (.map #[] 0)=A at q d a p⊢;refine Za 4 a (h:=?_);refine Zz (i:=5) Kr C λK c=>?_;go_simp;have g:Hid<|∀o,Ya (A.alloc o) _ _ _:=I λo=>d.below Yc;refine c _ _ ⟨(g _).cell 0,(g _).cell 1,(g _).cell 2,(g _).cell 3⟩ λa=>?_;clear c K;try simp only[Act.put,Yt]
  refine ZS Kr Kr C Kr λK c=>?_;go_simp;refine c _ _ ?_;clear c K;go_wp2;go_ret;simp only[v,p]at q;exact⟨_,C,q⟩
