/- Parts. -/
import Derived.Test.YtmfnolgpaoldpaaGreatDoorX08
import Derived.Test.YtmfnolgpaoldpaaGreatDoorX10
import Derived.Sort.OwnSorted
set_option linter.all false
set_option maxRecDepth 100000
set_option maxHeartbeats 16000000
namespace Go.Proofs.YtmfnolgpaoldpaaGreatDoor
open Go.RowKit LS Go.Proofs.Tryz
open Go renaming World->Y,Value->F
open Go.RowKit renaming Hid->U
variable {ca:Addr}{nm s:BA}{ok:Bool}{u v z:F}{fn:Func}{m:Int}{l:LB}{c cs xs:List F}{B b lc ln n p y:Nat}{A:Nat->Addr}{fr x:Nat×Nat}{a:Nd}{la:Option Addr}{r:Option<|Nd×Nat}{q t:Tr}{w w' w0:Y}
section
theorem EB{T e:TypeId}{p:F}{bs:List F}(h:Lib.BuilderAtF T e B b p bs w)(a:BW w w'):Lib.BuilderAtF T e B b p bs w':=by
 obtain⟨i,v,c,⟨j,k⟩,l⟩:=h;refine⟨i,v,(a.block b (Xr.1 c).1).trans c,⟨j,?_⟩,l⟩;rcases k with d|⟨g,cap,cur,fz,d,m,f,n⟩
 .simp_all
 .exact .inr ⟨g,cap,cur,fz,d,m,(a.block g (Xr.1 f).1).trans f,n⟩
theorem wJ{T e:TypeId}{bs:List F}(h:Lib.IsBuilderF T e B b bs w)(a:BW w w'):Lib.IsBuilderF T e B b bs w':=by
 rcases h with h|h
 .exact .inl<|EB h a
 .exact .inr<|EB h a
theorem ko{e:TypeId}{b:Option Nat}(h:BW w w'):Lib.OthersKept e b w w':=λk _ a _ _=>(h.block k (Xr.1 a).1).trans a
structure WB (w:Y)(B b:Nat)(l:LB):Prop where
 bd:Lib.IsBuilderF 217 5 B b (Lib.byteCells l) w
 le:B<=w.heap.size
structure WK (B b:Nat)(w w':Y):Prop where
 low:Below B w w'
 kept:Lib.OthersKept 5 (some b) w w'
theorem WK.refl(B b:Nat)(w:Y):WK B b w w:=⟨Ym _ _,Lib.OthersKept.refl _ _ _⟩
theorem WK.trans{a z c:Y}(h:WK B b a z)(d:WK B b z c):WK B b a c:=⟨h.low.trans d.low,h.kept.trans d.kept⟩
theorem WK.below(h:BW w w')(a:B<=w.heap.size):WK B b w w':=⟨h.mono a,ko h⟩
theorem WB.below(h:WB w B b l)(a:BW w w'):WB w' B b l:=⟨wJ h.bd a,Xb h.le a.size⟩
theorem WB.ne(h:WB w B b l):b<w.heap.size/\∃c,w.heap[b]?=some (.cells c 217 (0,0)):=by
 rcases h.bd with h|h
 .obtain⟨_,v,a,_⟩:=h;exact⟨(Xr.1 a).1,_,a⟩
 .obtain⟨_,v,a,_⟩:=h;exact⟨(Xr.1 a).1,_,a⟩
theorem WK.block(d:WB w B b l)(h:WK B b w w'){a:Nat}{c:Array F}{t:TypeId}(f:w.heap[a]?=some (.cells c t fr))(g:t≠217)(i:t≠5):w'.heap[a]?=some (.cells c t fr):=by
 refine h.kept a _ f ?_ ?_
 .intro e;injection e with e;subst e;obtain⟨_,c',j⟩:=d.ne;simp_all
 simp_all
theorem WK.bat(d:WB w B b l)(h:WK B b w w'){a:Nat}{t:TypeId}(e:Ya w a c t)(f:t≠217)(g:t≠5):Ya w' a c t:=WK.block d h e f g
theorem WK.own(d:WB w B b l)(h:WK B b w w'){base:Nat}{e:TypeId}{size:Nat}(a:w.ownsRow base e size v n xs)(f:e≠217)(i:e≠5):w'.ownsRow base e size v n xs:=by
 refine⟨a.1,?_⟩;rcases a.2 with c|⟨g,cap,cur,c,j,k,m⟩
 .simp_all
 .exact .inr ⟨g,cap,cur,c,j,WK.block d h k f i,m⟩
theorem Zo.wrote(d:WB w B b l)(h:WK B b w w')(e:Zo w t v):Zo w' t v:=
 Zo.mono (λ_ _ ⟨bs,a,c⟩=>⟨bs,WK.own d h a N N,c⟩) (λ_ _ ⟨bs,a,c⟩=>⟨bs,WK.own d h a N N,c⟩) t v e
theorem Z0.wrote(a:WB w B b l)(h:WK B b w w'){cs:List<|LB×LB×Bool}(c:Z0 w v cs):Z0 w' v cs:=by
 obtain⟨bs,d,e⟩:=c;exact⟨bs,WK.own a h d N N,e⟩
theorem Ue.wrote(a:WB w B b l)(h:WK B b w w'){cs:List<|LB}(c:Ue w v cs):Ue w' v cs:=by
 obtain⟨bs,d,e⟩:=c;exact⟨bs,WK.own a h d N N,e⟩
theorem EM(l:LB)(s:BA):Lib.byteCells l++Lib.strCells s=Lib.byteCells (l++bl s):=by
 unfold Lib.byteCells Lib.strCells bl;simp
def big:Nat:=1000000
theorem SU(h:WB w B b l)(s:BA)(d:l.length+s.size<=big):
 CP 92 #[Vp b,.string s] w λe u=>e=.returned (.tuple #[E s.size,.nilIface])/\U (WB u B b<|l++bl s)/\U (WK B b w u):=by
 refine(Ll B b s w h.bd (by rw[Lib.byteCells_length];unfold big at d;omega) h.le).m ?_;rintro e u ⟨rfl,a,c,f⟩;rw[EM]at a;exact⟨C,⟨.inr a,Xb h.le c.size⟩,⟨c,f⟩⟩
theorem Hj(n:Nat):Lib.decDigits n=Xj n:=by
 induction n using Nat.strongRecOn with
 |_ n ih=>
  by_cases h:n<=9
  .rw[Lp h,Lib.decDigits,dif_pos X];rfl
  .rw[K8 h,Lib.decDigits,dif_neg X,ih _ X];rfl
def Vv (w:Y):Prop:=Lib.TabIs Tryz.prog w "internal/strconv.uint64pow10" .u64 Lib.pow10Tab
theorem Tryz.gPow:Tryz.prog.globalNamed "internal/strconv.uint64pow10"=some 17:=by rfl
theorem Vv.low(h:Vv w)(a:Below B w w')(c:20<=B):Vv w':=var?_below a Tryz.gPow (WH N c) h
theorem CU(h:Vv w)(n:Int)(c:0<=n)(d:n<=1000000000):
 CP 93 #[E n] w λe u=>∃s:BA,e=.returned (.string s)/\U (bl s=Xj n.toNat)/\BW w u:=by
 refine(strconv_Itoa n X X w h).m ?_;rintro e u ⟨rfl,k,os,rfl⟩;refine⟨_,C,I ?_,?_⟩
 .rw[U9];unfold Lib.itoa;rw[Yd X,Hj]
 .exact⟨C,C,C,Sm,λk a=>by simp[Go.Sort.grow,World.drewN,J9,a]⟩
attribute [local go_sem ↓] Go.wp_at_zero Go.wp_at_succ
theorem Er(x y:BA)(ng:Bool):
 CP 282 #[.agg #[.string x,.bool ng,.string y]] w λe u=>e=.returned (.string<|if ng then⟨#[33,61]⟩else⟨#[61]⟩)/\BW w u:=by
 cases ng
 .go_enter func282,ntmps282;go_wp2;go_ret;exact⟨C,Yh⟩
 .go_enter func282,ntmps282;go_wp2;go_ret;exact⟨C,Yh⟩
theorem tC (l:List<|BA×BA×Bool)(j:Nat):(UF l)[j*3]?=l[j]?.map (λt=>.string t.1)/\(UF l)[j*3+1]?=l[j]?.map (λt=>.bool t.2.2)/\(UF l)[j*3+2]?=l[j]?.map λt=>.string t.2.1:=by
 induction l generalizing j with
 |nil=>simp[UF]
 |cons r l ih=>
  cases j with
  |zero=>simp[UF]
  |succ j=>
   obtain⟨a,c,d⟩:=ih j;refine⟨?_,?_,?_⟩
   .rw[show(j+1)*3=j*3+1+1+1 by omega];simpa [UF]using a
   .rw[show(j+1)*3+1=j*3+1+1+1+1 by omega];simpa [UF]using c
   .rw[show(j+1)*3+2=j*3+1+1+1+1+1 by omega];simpa [UF]using d
def Sh(bs:List<|BA×BA×Bool)(k:Nat):LB:=commas<|(bs.take k).map λc=>VT<|Wo c
theorem uf{bs:List<|BA×BA×Bool}(k:Nat)(h:k<bs.length):Sh bs (k+1)=(if k=0 then[]else Sh bs k++[44])++VT (Wo bs[k]):=by
 unfold Sh;rw[List.take_succ_eq_append_getElem h,Xa,PE,Gz];by_cases a:k=0
 .subst a;rfl
 .rw[Yd a,Yd<|by rw[Kp,L9];intro e;have:=congrArg List.length e;rw[Xw,TO]at this;omega]
theorem GA(bs:List<|BA×BA×Bool)(k:Nat):(Sh bs k).length<=cw (bs.map Wo):=by
 unfold Sh;refine Xb (OA _) ?_;rw[show(λc=>VT _)=VT∘Wo from C,<-VD];refine Xb (Jt _) ?_;rw[Q1];have:=Ev ((bs.map Wo).take k)<|(bs.map Wo).drop k;rw[Oi]at this;omega
theorem ue(bs:List<|BA×BA×Bool):Sh bs bs.length=commas ((bs.map Wo).map VT):=by
 unfold Sh;rw[X1,VD];rfl
theorem tB(c:BA×BA×Bool):VT (Wo c)=bl c.1++(if c.2.2 then[33,61]else[61])++[34]++bl c.2.1++[34]:=rfl
theorem zy(h:WB w B b l)(nm:BA)(la:Option Addr)(ln lc:Nat)(a:Nd)(a5:bl nm=a.name)(hc:Z0 w (.slice la ln lc) a.kq)(d9:l.length+a.name.length+cw a.kq+10<=big):
 CP 254 #[Vp b,.agg #[.string nm,.slice la ln lc]] w λe u=>e=.returned (.tuple #[])/\U (WB u B b<|l++Xl a)/\U (WK B b w u):=by
 obtain⟨bs,v,M⟩:=hc;have e5:ln=bs.length:=by obtain⟨_,_,e⟩:=Zd v;injection e
 subst e5;have HW:=I h;have c7:=I a5;have O:=I M;have o:U<|l.length+nm.size+cw (bs.map Wo)+10<=big:=by rwa [M,ZE a5]
 have HO:=I v;have f6:bs.length<=1000000:=by
  have j:=o.o;have h2:bs.length<=cw (bs.map Wo):=by
   clear j o HO O v M;induction bs with
   |nil=>exact Yr _
   |cons c l ih=>simp only[Wb,cw,Y1];omega
  unfold big at j;omega
 clear h a5 M d9 v;go_enter func254,ntmps254;go_upto_region 1 with fail;refine Zs λW0 a6=>?_;have P:Below _ w _:=a6▸Yc;have Q:U<|Ya _ _ _ 229:=a6▸YO;have R:=I<|HW.below P;have c8:U<|WK B b w _:=WK.below P HW.le;have c9:=I<|Ze HO P;clear a6 P;have s0:=Q.cell 0;have s1:=Q.cell 1;simp only[Yf]at s0 s1;go_wp2_with fail;refine(SU R _<|by have:=o.o;omega).m ?_;rintro e w1 ⟨rfl,S,A⟩;have a7:=I<|c8.trans A;have a8:=I<|WK.bat R A Q N N;have a9:=I<|WK.own R A c9 N N;clear A s0 s1 Q c8 R c9;have s1:=a8.cell 1;simp only[Yf]at s1;by_cases hz:bs.length=0
 .have HE:U<|Xl a=bl nm:=by
   have:=Qq hz;unfold Xl;rw[<-O,this,c7];rfl
  rw[hz]at s1;go_wp2;exact YQ (Tq C _ _ _) C ⟨C,by rwa [HE.o],a7⟩
 .have hp:0<bs.length:=X;have HE:U<|Xl a=bl _++[123]++Sh _ _++[125]:=I<|by
   unfold Xl;rw[Yd<|by rw[<-O];intro e;rw[L9]at e;subst e;exact hz C,ue,O,c7]
  have f7:((bs.length:Int)==0)=false:=by rw[YB];omega
  obtain⟨g,cp,hg⟩:=Zm a9.o hp;injection hg with hg1 _ hg2;subst hg1 hg2;go_wp2_with fail;refine(SU S _<|by rw[Yx,Zb];have:=o.o;show _+1<=_;omega).m ?_;rintro e z ⟨rfl,e6,D⟩;have d3:=I<|a7.trans D;have d4:=I<|WK.bat S D a8 N N;have d5:=I<|WK.own S D a9 N N;have e7:U<|l++bl nm++[123]++Sh bs 0=l++bl nm++[123]:=by show _++commas ([]:List<|LB)=_;simp[commas]
  clear D s1 a8 a7 S a9;have s1:=d4.cell;go_wp2;go_loopg [19] bs.length (λgk v19 wr=>∃k:Nat,k<=bs.length/\gk=bs.length-k/\v19=E k/\U (WB wr B b<|l++bl nm++[123]++Sh bs k)/\U (WK B b w wr)/\U (wr.ownsRow 0 374 3 (.slice (some ⟨g,0,none⟩) bs.length lc) bs.length<|UF bs));case atStart=>exact⟨0,Yr _,C,C,by rwa [e7.o],d3,d5⟩
  case round=>
   obtain⟨k,hk,f8,rfl,T,b0,s⟩:=hrel;clear e6 d3 d5 s1 d4;by_cases d6:k<bs.length
   .have H:=I<|uf k d6;have d7:=I<|GA bs<|k+1;have p:=I<|tB bs[k];obtain⟨f1,f2,f3⟩:=tC bs k;rw[List.getElem?_eq_getElem d6]at f1 f2 f3;simp only[Wr]at f1 f2 f3;have r0:=Zc s _ _ f1;have r1:=Zc s _ _ f2;have r2:=Zc s _ _ f3;clear f1 f2 f3;obtain⟨⟨x,y,ng⟩,hc⟩:∃c,c=bs[k]:=⟨_,C⟩;rw[<-hc]at r0 r1 r2 H p;simp only at r0 r1 r2 p;have f9:=ZN s;clear hc;go_upto_region 7 with fail;refine Zs λW3 b1=>?_;have V:Below _ _ _:=b1▸Yc;have J:U<|Ya _ _ _ 374:=b1▸YO;have t:=I<|T.below V;have Z:=I<|b0.trans<|WK.below V T.le;have a0:=I<|Ze s V;clear b1 V T b0 s r0 r1 r2;have e8:U<|k=0\/0<k:=I X;rcases e8.o with b2|b2
    .have m:U<|WB W3 B b<|l++bl nm++[123]++(if k=0 then[]else Sh bs k++[44]):=by
      rw[Ye b2,Ud];have h3:=t.o;rw[b2,show Sh _ 0=[]from C,Ud]at h3;exact h3
     have n:=J;have b3:=Z;have b4:=a0;clear t J Z a0;have e9:¬(0:Int)<k:=X;go_upto_region 9 with fail;have c0:=n.cell 0;have c1:=n.cell 1;have c2:=n.cell 2;simp only[Yf]at c0 c1 c2;obtain⟨sg,q⟩:∃sg:BA,sg=(if ng then⟨#[33,61]⟩else⟨#[61]⟩):=⟨_,C⟩;have b5:=I q;have r:U<|bl sg=(if ng then[33,61]else[61]):=by rw[q];cases ng<;>rfl
     have K:U<|l.length+nm.size+1+(if k=0 then[]else Sh bs k++[44]).length+(VT<|Wo (x,y,ng)).length+8<=big:=I<|by
      have j:=o.o;have h2:=d7.o;rw[H,Yx]at h2;omega
     have b6:x.size+sg.size+y.size+2<=1000000:=by
      have j:=K.o;rw[p,<-r]at j;simp only[Yx,Zb,Y1,TO]at j;unfold big at j;omega
     clear q;have a1:∀W,(Op.stringOp _ x sg).run prog W=.ok _ W:=λW=>XW W _ _ X;have y1:(x++sg).size=x.size+sg.size:=by rw[Y9]
     have a2:∀W,(Op.stringOp _ _ ⟨#[34]⟩).run prog W=.ok _ W:=λW=>XW W _ _<|by rw[y1];show _+1<=_;omega
     have y2:((x++sg)++⟨#[34]⟩).size=x.size+sg.size+1:=by rw[Y9,y1];rfl
     have a3:∀W,(Op.stringOp _ _ y).run prog W=.ok _ W:=λW=>XW W _ _<|by rw[y2];omega
     have y3:(((x++sg)++⟨#[34]⟩)++y).size=x.size+sg.size+1+y.size:=by rw[Y9,y2]
     have a4:∀W,(Op.stringOp _ _ ⟨#[34]⟩).run prog W=.ok _ W:=λW=>XW W _ _<|by rw[y3];show _+1<=_;omega
     have b7:U<|((((x++sg)++⟨#[34]⟩)++y)++⟨#[34]⟩).size=(VT<|Wo (x,y,ng)).length:=by
      rw[p,<-r];simp only[Yx,Zb,Y9];rfl
     have b8:U<|bl ((((x++sg)++⟨#[34]⟩)++y)++⟨#[34]⟩)=VT (Wo (x,y,ng)):=by
      rw[p,<-r,ZX,ZX,ZX,ZX];rfl
     clear y1 y2 y3 b6;go_region_held3 (λu=>u.cell? ⟨wr.heap.size,0,none⟩=some (.string x)/\u.cell? ⟨wr.heap.size,1,none⟩=some (.bool ng)/\u.cell? ⟨wr.heap.size,2,none⟩=some (.string y)) (first|exact⟨e0,e1,e2⟩|exact⟨d0,d1,d2⟩|exact⟨c0,c1,c2⟩|go_keep) (first
      | (go_at_call 282;refine(Er x y ng).m ?_;rintro e w5 ⟨rfl,d⟩;rw[<-b5.o];have f:U<|BW W3 w5:=I ⟨d.os,d.tape,d.output,d.size,d.block⟩;have L:=I<|n.below f.o;have d0:=L.cell;clear d)
      | (go_at_call 92;refine(SU (m.below f.o) _<|by rw[b7.o];have:=K.o;simp only[Yx,Zb,Y1,TO];omega).m ?_;rintro e w6 ⟨rfl,f0,i⟩;have b9:=I<|WK.bat (m.below f.o) i.o L.o N N;have e0:=b9.cell;have c3:U<|WK B b w w6:=b3.trans<|(WK.below f.o m.le).trans i.o;have c4:=I<|WK.own (m.below f.o) i.o (Ze b4.o f.o) N N;clear i));have c5:U<|WB w6 B b<|l++bl nm++[123]++Sh bs (k+1):=by rwa [H.o,<-b8.o,<-Vd]
     go_wp2;go_roundg (bs.length-(k+1));case measure=>omega
     case rel=>exact⟨k+1,X,C,by go_num,c5,c3,c4⟩
    .have e3:=J;have e9:(0:Int)<k:=X;go_wp2_with fail;refine(SU t _<|by have j:=o.o;have h2:=GA bs k;simp only[Yx,Zb];show _+1<=_;simp only[Y1,TO];omega).m ?_;rintro e w4 ⟨rfl,e4,G⟩;have m:U<|WB w4 B b<|l++bl nm++[123]++(if k=0 then[]else Sh bs k++[44]):=by rwa [Yd X,<-Vd]
     have n:=I<|WK.bat t G J N N;have b3:=I<|Z.trans G;have b4:=I<|WK.own t G a0 N N;clear t J Z a0 G e4 e3;go_upto_region 9 with fail;have c0:=n.cell 0;have c1:=n.cell 1;have c2:=n.cell 2;simp only[Yf]at c0 c1 c2;obtain⟨sg,q⟩:∃sg:BA,sg=(if ng then⟨#[33,61]⟩else⟨#[61]⟩):=⟨_,C⟩;have b5:=I q;have r:U<|bl sg=(if ng then[33,61]else[61]):=by rw[q];cases ng<;>rfl
     have K:U<|l.length+nm.size+1+(if k=0 then[]else Sh bs k++[44]).length+(VT<|Wo (x,y,ng)).length+8<=big:=I<|by
      have j:=o.o;have h2:=d7.o;rw[H,Yx]at h2;omega
     have b6:x.size+sg.size+y.size+2<=1000000:=by
      have j:=K.o;rw[p,<-r]at j;simp only[Yx,Zb,Y1,TO]at j;unfold big at j;omega
     clear q;have a1:∀W,(Op.stringOp _ x sg).run prog W=.ok _ W:=λW=>XW W _ _ X;have y1:(x++sg).size=x.size+sg.size:=by rw[Y9]
     have a2:∀W,(Op.stringOp _ _ ⟨#[34]⟩).run prog W=.ok _ W:=λW=>XW W _ _<|by rw[y1];show _+1<=_;omega
     have y2:((x++sg)++⟨#[34]⟩).size=x.size+sg.size+1:=by rw[Y9,y1];rfl
     have a3:∀W,(Op.stringOp _ _ y).run prog W=.ok _ W:=λW=>XW W _ _<|by rw[y2];omega
     have y3:(((x++sg)++⟨#[34]⟩)++y).size=x.size+sg.size+1+y.size:=by rw[Y9,y2]
     have a4:∀W,(Op.stringOp _ _ ⟨#[34]⟩).run prog W=.ok _ W:=λW=>XW W _ _<|by rw[y3];show _+1<=_;omega
     have b7:U<|((((x++sg)++⟨#[34]⟩)++y)++⟨#[34]⟩).size=(VT<|Wo (x,y,ng)).length:=by
      rw[p,<-r];simp only[Yx,Zb,Y9];rfl
     have b8:U<|bl ((((x++sg)++⟨#[34]⟩)++y)++⟨#[34]⟩)=VT (Wo (x,y,ng)):=by
      rw[p,<-r,ZX,ZX,ZX,ZX];rfl
     clear y1 y2 y3 b6;go_region_held3 (λu=>u.cell? ⟨wr.heap.size,0,none⟩=some (.string x)/\u.cell? ⟨wr.heap.size,1,none⟩=some (.bool ng)/\u.cell? ⟨wr.heap.size,2,none⟩=some (.string y)) (first|exact⟨e0,e1,e2⟩|exact⟨d0,d1,d2⟩|exact⟨c0,c1,c2⟩|go_keep) (first
      | (go_at_call 282;refine(Er x y ng).m ?_;rintro e w5 ⟨rfl,d⟩;rw[<-b5.o];have f:U<|BW w4 w5:=I ⟨d.os,d.tape,d.output,d.size,d.block⟩;have L:=I<|n.below f.o;have d0:=L.cell;clear d)
      | (go_at_call 92;refine(SU (m.below f.o) _<|by rw[b7.o];have:=K.o;simp only[Yx,Zb,Y1,TO];omega).m ?_;rintro e w6 ⟨rfl,f0,i⟩;have b9:=I<|WK.bat (m.below f.o) i.o L.o N N;have e0:=b9.cell;have c3:U<|WK B b w w6:=b3.trans<|(WK.below f.o m.le).trans i.o;have c4:=I<|WK.own (m.below f.o) i.o (Ze b4.o f.o) N N;clear i));have c5:U<|WB w6 B b<|l++bl nm++[123]++Sh bs (k+1):=by rwa [H.o,<-b8.o,<-Vd]
     go_wp2;go_roundg (bs.length-(k+1));case measure=>omega
     case rel=>exact⟨k+1,X,C,by go_num,c5,c3,c4⟩
   .obtain rfl:k=bs.length:=X;go_wp2_with fail;refine(SU T _<|by have j:=o.o;have h2:=GA bs bs.length;simp only[Yx,Zb,Y1,TO];show _+1<=_;omega).m ?_;rintro e w8 ⟨rfl,d8,c6⟩;have f4:=I<|b0.trans c6;have f5:U<|WB w8 B b<|l++Xl a:=by rw[HE];have:=d8.o;simp only[Vd]at this⊢;exact this
    clear c6 d8;go_wp2;go_end0;exact⟨C,f5,f4⟩
end
section
theorem EV:∀xs:List<|LB,([44]:LB).intercalate xs=commas xs
 |[]=>C
 |[a]=>by simp[List.intercalate,commas]
 |a::b::l=>by
  have ih:=EV<|b::l;rw[EU,<-ih];simp[List.intercalate]
theorem ot(la:Option Addr)(ln lc:Nat)(ns:List<|LB)(h:Ue w (.slice la ln lc) ns)(v:nw ns<=1000000):
 CP 52 #[.slice la ln lc,.string ⟨#[44]⟩] w λe u=>∃s:BA,e=.returned (.string s)/\U (bl s=commas ns)/\BW w u:=by
 obtain⟨bs,a,d⟩:=h;have m:ln=bs.length:=by obtain⟨_,_,e⟩:=Zd a;injection e
 subst m;by_cases k:bs.length=0
 .rw[k];refine(strings_Join_none _ _ _ w).m ?_;rintro e u ⟨rfl,rfl⟩;have:=Qq k;subst this;exact⟨_,C,I<|by rw[<-d];rfl,Ym _ _⟩
 .obtain⟨g,cp,n⟩:=Zm a X;injection n with hg1 _ hg2;subst hg1 hg2;have f:Lib.join (bs.map (·.data.toList)) [44]=commas ns:=d▸EV _;have r:=OA ns;have i:bs.length<=lc:=by
   rcases a.2 with⟨e,_⟩|⟨g',cap,cur,e,_,_,o,_⟩
   .cases e
   .injection e with _ _ e;subst e;exact o
  have t:bs.length<=1000000:=by
   have p:bs.length<=nw (bs.map bl):=by
    clear f i a d k;induction bs with
    |nil=>exact Yr _
    |cons c l ih=>simp only[Wb,nw,Y1];omega
   rw[d]at p;omega
  refine(strings_Join g 0 _ _ _ w ?_ (ZN a) X i (by show(Lib.join (bs.map (·.data.toList)) [44]).length<=_;rw[f];omega)).m ?_
  .intro j x f;rw[SI];exact Zc a j _<|by show(bs.map Value.string)[j]?=_;rw[Vs,f];rfl
  .rintro e u ⟨rfl,q⟩;exact⟨_,C,I (by show bl (ByteArray.mk (Lib.join (bs.map (·.data.toList)) [44]).toArray)=_;rw[U9,f]),q⟩
theorem zk(d:a.jj=4\/a.jj=6)(e:a.jj=4->a.op<=3):SW (XU a)+1=V0 a/\XU a<=4:=by
 rcases d with h|h
 .have f:=e h;have e1:XU a=a.op+1:=by unfold XU;rw[Yd X]
  have e2:V0 a=if a.op<2 then 2 else 3:=by unfold V0;rw[Yd X,Ye h]
  rw[e1,e2];refine⟨?_,X⟩;unfold SW;rw[Yd X];by_cases c:a.op<2
  .rw[Ye c,Ye X]
  .rw[Yd c,Yd X]
 .have e1:XU a=0:=by unfold XU;rw[Ye h]
  have e2:V0 a=1:=by unfold V0;rw[Ye h]
  rw[e1,e2];exact⟨C,X⟩
theorem uA(c:a.jj=4\/a.jj=6)(d:a.jj=4->a.op<=3)(pl pr:Nat->LB):TD a pl pr=pl (V0 a)++[32]++P7 (XU a)++[32]++pr (V0 a+1):=by
 unfold TD;rw[Yd X,Yd X,Yd X,Yd X,Yd X];rcases c with h|h
 .rw[Yd X];have:=d h;have e:F9 a.op=P7 (XU a):=by
   unfold XU;rw[Yd X];rcases(X:a.op=0\/a.op=1\/a.op=2\/a.op=3)with h|h|h|h<;>rw[h]<;>rfl
  rw[e]
 .have e:V0 a=1:=by unfold V0;rw[Ye h]
  rw[Ye h,e];unfold XU P7;rw[Ye h,Ye C];simp
theorem jE (W:Y):CP 341 #[v] W λe u=>e=.returned (E 3)/\BW W u:=by
 go_enter func341,ntmps341;go_wp2;all_goals
  go_ret;exact⟨C,Yh⟩
theorem jD (W:Y):CP 342 #[v] W λe u=>e=.returned (E 3)/\BW W u:=by
 go_enter func342,ntmps342;go_wp2;all_goals
  go_ret;exact⟨C,Yh⟩
theorem jG (W:Y):CP 343 #[v] W λe u=>e=.returned (E 3)/\BW W u:=by
 go_enter func343,ntmps343;go_wp2;all_goals
  go_ret;exact⟨C,Yh⟩
theorem jH (W:Y):CP 344 #[v] W λe u=>e=.returned (E 3)/\BW W u:=by
 go_enter func344,ntmps344;go_wp2;all_goals
  go_ret;exact⟨C,Yh⟩
theorem jF (W:Y):CP 327 #[v] W λe u=>e=.returned (E 3)/\BW W u:=by
 go_enter func327,ntmps327;go_wp2;all_goals
  go_ret;exact⟨C,Yh⟩
theorem Bv (W:Y)(o:Nat)(a:o<=4)(ty1 ty2:TypeId)(u1 u2:F):CP 252 #[.agg #[E o,.iface ty1 u1,.iface ty2 u2]] W λe u=>e=.returned (E<|SW o)/\BW W u:=by
 have c:Below _ W<|W.alloc<|.cells #[E o,.iface ty1 u1,.iface ty2 u2] 422:=Yc;go_enter func252,ntmps252;go_wp2_with(go_at_call 248;refine(GY o a).m ?_;rintro e d ⟨rfl,rfl⟩);go_ret;exact⟨C,c⟩
theorem mN (w:Y):(Go.method 598 424 v "gauge/syntax.rank").run Tryz.prog w=.ok (341,v) w:=by kernel_rfl
theorem mG (w:Y):(Go.method 598 426 v "gauge/syntax.rank").run Tryz.prog w=.ok (342,v) w:=by kernel_rfl
theorem mU (v:F)(w:Y):(Go.method 598 428 v "gauge/syntax.rank").run Tryz.prog w=.ok (343,v) w:=by kernel_rfl
theorem mW (w:Y):(Go.method 598 433 v "gauge/syntax.rank").run Tryz.prog w=.ok (344,v) w:=by kernel_rfl
theorem mS (w:Y):(Go.method 598 229 v "gauge/syntax.rank").run Tryz.prog w=.ok (327,v) w:=by kernel_rfl
theorem mP (w:Y):(Go.method 598 422 v "gauge/syntax.rank").run Tryz.prog w=.ok (252,v) w:=by kernel_rfl
theorem lu {x:Nat}{l r:Tr}(h:Zo w (.node x y a l r) v)(ho:a.jj=4→a.op≤3):∃(ty:TypeId)(u:F)(f:FuncId),v=.iface ty u∧(∀W,(Go.method 598 ty u "gauge/syntax.rank").run Tryz.prog W=.ok (f,u) W)∧(∀W,(callFunc f #[u]).run Tryz.prog W=.ok (.enter f #[u]) W)∧(∀W,Calls Tryz.prog f #[u] W λe w'=>e=.returned (.int .i64 ((V0 a-1:Nat):Int))∧Below W.heap.size W w'):=by
 have h4:a.jj<=3\/a.jj=5->V0 a-1=3:=by
  intro h;unfold V0;rw[Yd X,Yd X]
 rcases h with⟨hk,rfl⟩|⟨hk,nm,la,ln,lc,rfl,_⟩|⟨hk,wd,nm,la,ln,lc,rfl,_⟩|⟨hk,z,rfl,hz⟩|⟨hk,wd,la,ln,lc,z,rfl,_,_,hz⟩|⟨hk,z1,z2,rfl,hz1,hz2⟩
 .exact⟨_,_,_,C,λW=>mN W,λW=>Kr,λW=>by rw[h4 X];exact jE W⟩
 .exact⟨_,_,_,C,λW=>mS W,λW=>Kr,λW=>by rw[h4 X];exact jF W⟩
 .exact⟨_,_,_,C,λW=>mW W,λW=>Kr,λW=>by rw[h4 X];exact jH W⟩
 .exact⟨_,_,_,C,λW=>mG W,λW=>Kr,λW=>by rw[h4 X];exact jD W⟩
 .exact⟨_,_,_,C,λW=>mU _ W,λW=>Kr,λW=>by rw[h4 X];exact jG W⟩
 .obtain⟨t1,u1,rfl⟩:=Zo.shape hz1;obtain⟨t2,u2,rfl⟩:=Zo.shape hz2;have ht:=zk hk ho;exact⟨_,_,_,C,λW=>mP W,λW=>Kr,λW=>by rw[show V0 a-1=SW (XU a)by omega];exact Bv W _ ht.2 _ _ _ _⟩
def WC(t:Tr):Prop:=∀(w:Y)(v:F)(B b:Nat)(l:LB),Zo w t v->WB w B b l->Vv w->20<=B->l.length+wT t<=big->
 CP 221 #[Vp b,v] w λe w'=>e=.returned (.tuple #[])/\U (WB w' B b<|l++ZV t 1)/\U (WK B b w w')
def WW(t:Tr):Prop:=∀(w:Y)(v:F)(B b:Nat)(l:LB)(j:Nat),Zo w t v->WB w B b l->Vv w->20<=B->l.length+wT t+2<=big->
 CP 251 #[Vp b,v,E j] w λe w'=>e=.returned (.tuple #[])/\U (WB w' B b<|l++ZV t (j+1))/\U (WK B b w w')
theorem QE{x:Nat}{l r:Tr}:ZV (.node x y a l r) 1=TD a (ZV l) (ZV r):=by
 show Mg (decide<|V0 a<1) _=_;rw[Wl<|by unfold V0;split<;>(try split)<;>(try split)<;>omega];rfl
theorem Au(d:V1 t)(h:WC t):WW t:=by
 intro w v B b l j o T V W H;match t,d,h,o,H with
 |.node x y a p q,d,h,o,H=>
  obtain⟨ty,u,f,rfl,hm,Z,hc⟩:=lu o d.2.2.1;have HP:=I o;have HW:=I T;have HT:=I V;have J:=I W;have K:=I H;have HC:=I hc;have L:U<|1<=V0 a:=I<|by unfold V0;split<;>(try split)<;>(try split)<;>omega
  have M:U<|(ZV (.node x y a p q) 1).length+2<=wT (.node x y a p q):=QE▸Ep d.2.2.2.2.2.1 (λm=>Mz p m d.2.2.2.2.2.2.2.2.2.2.1) λm=>Mz q m d.2.2.2.2.2.2.2.2.2.2.2;clear hc o T V W H;go_enter func251,ntmps251;go_wp2_with fail;refine(HC w).m ?_;rintro e w1 ⟨rfl,i⟩;have r:=I<|HP.below i;have k:=I<|HW.below i;have n:U<|WK B b w _:=WK.below i HW.le;have O:=I<|HT.low n.low J;clear i hm Z;obtain⟨rk,s⟩:∃rk,rk=V0 a-1:=⟨_,C⟩;rw[<-s];by_cases a4:(j:Int)<=rk
  .have S:U<|ZV (.node x y a p q) (j+1)=ZV (.node x y a p q) 1:=by
    rw[QE];show Mg (decide<|V0 a<j+1) _=_;rw[Wl<|by have:=L.o;omega];rfl
   clear s;go_wp2_with fail;refine(h _ _ B b l r k O J<|by have:=K.o;omega).m ?_;rintro e z ⟨rfl,A,c⟩;have g:=I<|n.trans c;clear c;go_wp2;exact YQ (Tq C _ _ _) C ⟨C,by rwa [S.o],g⟩
  .have S:U<|ZV (.node x y a p q) (j+1)=[40]++ZV (.node x y a p q) 1++[41]:=by
    rw[QE];show Mg (decide<|V0 a<j+1) _=_;rw[WI<|by have:=L.o;omega];rfl
   clear s;go_wp2_with fail;refine(SU k _<|by have h1:=K.o;have h2:=M.o;show _+1<=_;omega).m ?_;rintro e z ⟨rfl,A,c⟩;have g:=I<|n.trans c;have P:=I<|Zo.wrote k c r;have Q:=I<|HT.low g.low J;clear c r k n O;go_wp2_with fail;refine(h _ _ B b _ P A Q J<|by rw[Yx,Zb];have h1:=K.o;show _+1+_<=_;omega).m ?_;rintro e w3 ⟨rfl,a0,D⟩;have a1:=I<|g.trans D;clear D P A g Q;go_wp2_with fail;refine(SU a0 _<|by simp only[Yx,Zb];have h1:=K.o;have h2:=M.o;show _+1+_+1<=_;omega).m ?_;rintro e w4 ⟨rfl,R,G⟩;have a2:=I<|a1.trans G;have a3:U<|WB w4 B b<|l++ZV (.node x y a p q) (j+1):=by
    rw[S];have:=R.o;simp only[Vd]at this⊢;exact this
   clear G R;go_wp2;go_end0;exact⟨C,a3,a2⟩
attribute [local go_sem ↓] Go.wp_at_zero Go.wp_at_succ
attribute [local go_sem] IG IF II IE IJ KW I4 I3 I5 I2 ID KU IM IL IN IK Gb KX IY IX I0 IW I1 KT Gj Gi Gk Gh Gl KZ Ge Gd Gf Gc Gg KY
theorem uw(h:a.jj=0)(pl pr:Nat->LB):TD a pl pr=Xj a.n.toNat:=by unfold TD;rw[Ye h]
theorem uy(h:a.jj=1)(pl pr:Nat->LB):TD a pl pr=Xl a:=by unfold TD;rw[Yd X,Ye h]
theorem uz(h:a.jj=2)(pl pr:Nat->LB):TD a pl pr=WN.getD a.op []++[40]++Xl a++[91]++Xj a.n.toNat++[93,41]:=by unfold TD;rw[Yd X,Yd X,Ye h]
theorem uu(h:a.jj=3)(pl pr:Nat->LB):TD a pl pr=[45]++pl 4:=by unfold TD;rw[Yd X,Yd X,Yd X,Ye h]
theorem uq(h:a.jj=5)(pl pr:Nat->LB):TD a pl pr=Wu.getD a.op []++[32,98,121,32,40]++commas a.by_++[41,32,40]++pl 1++[41]:=by unfold TD;rw[Yd X,Yd X,Yd X,Yd X,Ye h]
theorem Ey{n:Int}(h:n<=1000000000):(Xj n.toNat).length<=10:=by
 refine Hi 9 _ ?_;have a:n.toNat<=1000000000:=X;have c:(10)^10=10000000000:=N;omega
theorem zS{x:Nat}{p:Tr}(c:V1<|.node x y a p q)(k:a.jj=0)(w:Y)(B b:Nat)(l:LB)(m:WB w B b l)(o:Vv w)(r:20<=B)(M:l.length+wT (.node x y a p q)<=big):
 CP 221 #[Vp b,.iface 424<|.agg #[E a.n]] w λe u=>e=.returned (.tuple #[])/\U (WB u B b<|l++ZV (.node x y a p q) 1)/\U (WK B b w u):=by
 have t:U<|ZV (.node x y a p q) 1=Xj _:=I<|by rw[QE,uw k]
 have v:=I m;have O:=I o;have P:=I r;have h:U<|0<=a.n/\a.n<=1000000000:=⟨c.2.2.2.2.1,c.2.2.2.2.2.1⟩;have Q:U<|l.length+24<=big:=I<|by have R:Xo a+wT p+wT q=wT (.node x y a p q):=C;unfold Xo at R;omega
 obtain⟨n,A⟩:∃n,n=a.n:=⟨_,C⟩;rw[<-A]at h t⊢;clear m o r M c k A;go_enter func221,ntmps221;go_wp2_with fail;refine Zv λW D=>?_;have d:Below _ w W:=D▸Yc;have i:=I<|v.below d;have j:U<|WK B b w W:=WK.below d v.le;have G:=I<|O.low j.low P;clear D d;refine(CU G n h.1 h.2).m ?_;rintro e T ⟨s,rfl,H,f⟩;have J:=I<|i.below f;have K:=I<|j.trans<|WK.below f i.le;clear f;go_wp2_with fail;refine(SU J s<|by rw[ZE H];have:=Ey h.2;have:=Q.o;omega).m ?_;rintro e z ⟨rfl,S,g⟩;have L:=I<|K.trans g;clear g;go_wp2;go_end0;exact⟨C,by rwa [t.o,<-H.o],L⟩
theorem xQ{x:Nat}{p:Tr}(g:a.jj=1)(w:Y)(f:bl nm=a.name)(h:Z0 w (.slice la ln lc) a.kq)(B b:Nat)(l:LB)(i:WB w B b l)(t:l.length+wT (.node x y a p q)<=big):
 CP 221 #[Vp b,.iface 229<|.agg #[.string nm,.slice la ln lc]] w λe u=>e=.returned (.tuple #[])/\U (WB u B b<|l++ZV (.node x y a p q) 1)/\U (WK B b w u):=by
 have v:U<|ZV (.node x y a p q) 1=Xl a:=I<|by rw[QE,uy g]
 have j:=I i;have k:=I f;have A:=I h;have D:U<|l.length+a.name.length+cw a.kq+10<=big:=I<|by have G:Xo a+wT p+wT q=wT (.node x y a p q):=C;unfold Xo at G;omega
 clear i t g f h;go_enter func221,ntmps221;go_wp2_with fail;refine Zv λW m=>?_;have c:Below _ w W:=m▸Yc;have n:=I<|j.below c;have o:U<|WK B b w W:=WK.below c j.le;have r:=I<|A.below c;clear m c;refine(zy n _ _ _ _ a k r D).m ?_;rintro e z ⟨rfl,H,d⟩;have s:=I<|o.trans d;clear d;go_wp2;go_end0;exact⟨C,by rwa [v.o],s⟩
theorem xR{x:Nat}{p:Tr}(i:V1<|.node x y a p q)(T:a.jj=2){h:BA}(w:Y)(j:bl h=WN.getD a.op [])(H:bl nm=a.name)(V:Z0 w (.slice la ln lc) a.kq)(B b:Nat)(l:LB)(Z:WB w B b l)(ht:Vv w)(hB:20<=B)(hl:l.length+wT (.node x y a p q)<=big):
 CP 221 #[Vp b,.iface 433<|.agg #[.string h,.string nm,.slice la ln lc,E a.n]] w λe u=>e=.returned (.tuple #[])/\U (WB u B b<|l++ZV (.node x y a p q) 1)/\U (WK B b w u):=by
 have HX:U<|ZV (.node x y a p q) 1=bl _++[40]++Xl a++[91]++Xj _++[93,41]:=I<|by rw[QE,uz T,j]
 have HW:=I Z;have HT:=I ht;have HB:=I hB;have G:U<|0<=a.n/\a.n<=1000000000:=⟨i.2.2.2.2.1,i.2.2.2.2.2.1⟩;have a0:=I H;have HC:=I V;have a9:h.size<=5:=ZE j▸Lu WN N a.op;have R:U<|l.length+a.name.length+cw a.kq+24<=big:=I<|by have h1:Xo a+wT p+wT q=wT (.node x y a p q):=C;unfold Xo at h1;omega
 have a2:=I<|G5 a;obtain⟨n,hn⟩:∃n,n=a.n:=⟨_,C⟩;rw[<-hn]at G HX⊢;have a1:∀W,(Op.stringOp _ _ ⟨#[40]⟩).run prog W=.ok _ W:=λW=>XW W _ _<|by show h.size+1<=_;omega
 have k:U<|(h++⟨#[40]⟩).size=h.size+1:=by rw[Y9];rfl
 clear Z ht hB hl i T hn j H V;go_enter func221,ntmps221;go_upto_region 20 with fail;refine Zs λW S=>?_;have f:Below _ w W:=S▸Yc;have m:U<|Ya W _ [.string _,.string _,.slice _ _ _,.int _ n] 433:=S▸YO;have g:=I<|HW.below f;have J:U<|WK B b w W:=WK.below f HW.le;have K:=I<|HC.below f;clear S f;have p0:=m.cell;go_wp2_with fail;refine(SU g _<|by rw[k];have:=R.o;omega).m ?_;rintro e w1 ⟨rfl,o,c⟩;have L:=I<|J.trans c;have r:=I<|WK.bat g c m N N;have M:=I<|K.wrote g c;clear c p0 m g J K;have p1:=r.cell;go_wp2_with fail;refine(zy o _ _ _ _ a a0 M<|by rw[Yx,Zb,k];have:=R.o;omega).m ?_;rintro e z ⟨rfl,t,d⟩;have v:=I<|L.trans d;have a3:=I<|WK.bat o d r N N;have O:=I<|HT.low v.low HB;clear d p1 r o L M;have p3:=a3.cell;go_wp2_with fail;refine(CU O n G.1 G.2).m ?_;rintro e w3 ⟨s,rfl,hs,A⟩;have a4:=I<|t.below A;have a5:=I<|v.trans<|WK.below A t.le;have b0:s.size<=10:=ZE hs.o▸Ey G.2;have b1:∀W,(Op.stringOp _ ⟨#[91]⟩ s).run prog W=.ok _ W:=λW=>XW W _ _<|by show 1+s.size<=_;omega
 have P:U<|(⟨#[91]⟩++s).size=1+s.size:=by rw[Y9];rfl
 have b2:∀W,(Op.stringOp _ _ ⟨#[93,41]⟩).run prog W=.ok _ W:=λW=>XW W _ _<|by rw[P];show _+2<=_;omega
 have a6:U<|((⟨#[91]⟩++s)++⟨#[93,41]⟩).size=1+s.size+2:=by rw[Y9,P];rfl
 clear A p3 t v O;go_wp2_with fail;refine(SU a4 _<|by rw[a6];simp only[Yx,Zb];rw[k];have:=R.o;have:=a2.o;omega).m ?_;rintro e w4 ⟨rfl,Q,D⟩;have a7:=I<|a5.trans D;have a8:U<|WB w4 B b<|l++ZV (.node x y a p q) 1:=by
  rw[HX,<-hs];have:=Q.o;rw[ZX,ZX,ZX]at this;simp only[Vd]at this⊢;exact this
 clear D Q;go_wp2;go_end0;exact⟨C,a8,a7⟩
theorem zR{x:Nat}{p:Tr}(o:a.jj=3)(ih:WW p)(w:Y)(z:F)(m:Zo w p z)(B b:Nat)(l:LB)(r:WB w B b l)(s:Vv w)(t:20<=B)(R:l.length+wT (.node x y a p q)<=big):
 CP 221 #[Vp b,.iface 426<|.agg #[z]] w λe v=>e=.returned (.tuple #[])/\U (WB v B b<|l++ZV (.node x y a p q) 1)/\U (WK B b w v):=by
 have S:U<|ZV (.node x y a p q) 1=[45]++ZV p 4:=I<|by rw[QE,uu o]
 have A:=I r;have T:=I s;have D:=I t;have G:U<|l.length+24+wT p<=big:=I<|by have V:Xo a+wT p+wT q=wT (.node x y a p q):=C;unfold Xo at V;omega
 have Z:=I m;obtain⟨ty,u,H⟩:=Zo.shape m;subst H;clear r s t R o m;go_enter func221,ntmps221;go_upto_region 6 with fail;refine Zs λW n=>?_;have d:Below _ w W:=n▸Yc;have h:U<|Ya W _ _ 426:=n▸YO;have f:=I<|A.below d;have i:U<|WK B b w W:=WK.below d A.le;have j:=I<|Z.below d;clear n d;go_wp2_with fail;refine(SU f _<|by have:=G.o;show _+1<=_;omega).m ?_;rintro e w1 ⟨rfl,J,c⟩;have k:=I<|i.trans c;have K:=I<|WK.bat f c h N N;have L:=I<|Zo.wrote f c j;have M:=I<|T.low k.low D;clear c h f i j;have p0:=K.cell;go_wp2_with fail;refine(ih _ _ B b _ 3 L J M D<|by rw[Yx,Zb];have:=G.o;show _+1+_+2<=_;omega).m ?_;rintro e w2 ⟨rfl,O,g⟩;have P:=I<|k.trans g;have Q:U<|WB w2 B b<|l++ZV (.node x y a p q) 1:=by rwa [S.o,<-Vd]
 clear g O;go_wp2;go_end0;exact⟨C,Q,P⟩
end
section
attribute [local go_sem ↓] Go.wp_at_zero Go.wp_at_succ
attribute [local go_sem] IG IF II IE IJ KW I4 I3 I5 I2 ID KU IM IL IN IK Gb KX IY IX I0 IW I1 KT Gj Gi Gk Gh Gl KZ Ge Gd Gf Gc Gg KY
theorem fP(o:Nat):(P7 o).length<=2:=by
 unfold P7;split<;>(try split)<;>(try split)<;>(try split)<;>simp
theorem xP{x:Nat}{p:Tr}(r:V1<|.node x y a p q)(hk:a.jj=4\/a.jj=6)(S:WW p)(T:WW q)(w:Y){z1 z2:F}(D:Zo w p z1)(G:Zo w q z2)(B b:Nat)(l:LB)(hw:WB w B b l)(ht:Vv w)(hB:20<=B)(hl:l.length+wT (.node x y a p q)<=big):
 CP 221 #[Vp b,.iface 422<|.agg #[E<|XU a,z1,z2]] w λe u=>e=.returned (.tuple #[])/\U (WB u B b<|l++ZV (.node x y a p q) 1)/\U (WK B b w u):=by
 obtain⟨o,s⟩:∃o,o=XU a:=⟨_,C⟩;have H:=zk hk r.2.2.1;have HX:U<|ZV (.node x y a p q) 1=ZV p (SW o+1)++[32]++P7 o++[32]++ZV q (SW o+1+1):=I<|by rw[QE,uA hk r.2.2.1,s,H.1]
 have V:o<=4:=s▸H.2;have J:U<|(ZV p<|SW o+1).length<=wT p:=I<|Mz p _ r.2.2.2.2.2.2.2.2.2.2.1;rw[<-s];have HW:=I hw;have HT:=I ht;have R:=I hB;have HL:U<|l.length+24+wT p+wT q<=big:=I<|by have K:Xo a+wT p+wT q=wT (.node x y a p q):=C;unfold Xo at K;omega
 have b1:=I D;have b2:=I G;obtain⟨t1,u1,a7⟩:=Zo.shape D;obtain⟨t2,u2,a8⟩:=Zo.shape G;subst a7 a8;obtain⟨sg,L⟩:∃sg:BA,sg=⟨(P7 o).toArray⟩:=⟨_,C⟩;have b3:=I L.symm;have Z:U<|bl sg=P7 o:=I<|by rw[L,U9]
 have c6:sg.size<=2:=ZE Z.o▸fP o;have b4:SW o<=2:=by unfold SW;split<;>(try split)<;>omega
 have a1:∀W,(Op.stringOp _ ⟨#[32]⟩ _).run prog W=.ok _ W:=λW=>XW W _ _<|by show 1+sg.size<=_;omega
 have a0:U<|(⟨#[32]⟩++sg).size=1+sg.size:=by rw[Y9];rfl
 have a2:∀W,(Op.stringOp _ _ ⟨#[32]⟩).run prog W=.ok _ W:=λW=>XW W _ _<|by rw[a0];show _+1<=_;omega
 have a3:U<|((⟨#[32]⟩++sg)++⟨#[32]⟩).size=1+sg.size+1:=by rw[Y9,a0];rfl
 obtain⟨rr,M⟩:∃rr,rr=SW o:=⟨_,C⟩;rw[<-M]at HX J b4;have a4:U<|∀W,Calls _ _ _ W λe u=>e=.returned _/\Below _ W _:=I λW=>M▸Bv W o V t1 t2 u1 u2;have b5:U<|∀(u:Y)(l':List _),Zo _ p (.iface t1 u1)->WB u B b _->Vv _->l'.length+wT p+2<=big->Calls _ _ _ _ _:=I λu l' K h2 h3 h4=>S _ _ B b _ rr K h2 h3 R h4;have b6:U<|∀(u:Y)(l':List _),Zo _ q _->WB _ B b _->Vv u->l'.length+wT q+2<=big->Calls _ _ #[.pointer _,.iface t2 u2,.int _<|(rr)+1] _ _:=I λu l' K h2 h3 h4=>T _ _ B b _ (rr+1) K h2 h3 R h4;have c7:IntKind.i64.wrap ((rr)+1)=(rr)+1:=by rcases(X:rr=0\/rr=1\/rr=2)with h|h|h<;>rw[h]<;>rfl
 clear hw ht hB hl hk D G r s H L M S T;go_enter func221,ntmps221;go_upto_region 10 with fail;refine Zs λW hW=>?_;have j:Below _ w W:=hW▸Yc;have t:U<|Ya W _ _ 422:=hW▸YO;have v:=I<|HW.below j;have b7:U<|WK B b w W:=WK.below j HW.le;have a9:=I<|b1.below j;have b0:=I<|b2.below j;clear hW j;have p0:=t.cell 0;have p1:=t.cell 1;have p2:=t.cell 2;simp only[Yf]at p0 p1 p2;go_region_held3 (λu=>u.cell? ⟨w.heap.size,0,none⟩=some (E o)/\u.cell? ⟨w.heap.size,1,none⟩=some (.iface t1 u1)/\u.cell? ⟨w.heap.size,2,none⟩=some (.iface t2 u2)) (first|exact⟨e0,e1,e2⟩|exact⟨d0,d1,d2⟩|exact⟨p0,p1,p2⟩|go_keep) (first
  | (go_at_call 252;refine(a4.o _).m ?_;rintro e w5 ⟨rfl,d⟩;have c:U<|BW W w5:=I ⟨d.os,d.tape,d.output,d.size,d.block⟩;have k:=I<|t.below c.o;have d0:=k.cell 0;have d1:=k.cell 1;have d2:=k.cell 2;simp only[Yf]at d0 d1 d2;have O:U<|WK B b w w5:=b7.trans<|WK.below c.o v.le;clear d)
  | (go_at_call 251;refine(b5.o w5 l (a9.below c.o) (v.below c.o) (HT.low O.low R.o)<|by have:=HL.o;omega).m ?_;rintro e w6 ⟨rfl,P,g⟩;have z:=I<|WK.bat (v.below c.o) g.o k.o N N;have e0:=z.cell 0;have e1:=z.cell 1;have e2:=z.cell 2;simp only[Yf]at e0 e1 e2;have b8:U<|WK B b w w6:=O.trans g.o;have b9:U<|Zo w6 q<|.iface t2 u2:=I<|Zo.wrote (v.below c.o) g.o<|b0.below c.o;clear g));clear p0 p1 p2 d0 d1 d2 k c O;go_wp2_with(go_at_call 253;refine(fO o V).m ?_;rintro e wq ⟨rfl,rfl⟩;rw[b3.o]);refine(SU P _<|by rw[a3,Yx];have:=HL.o;have:=J.o;omega).m ?_;rintro e w7 ⟨rfl,Q,i⟩;have c0:=I<|b8.trans i;have A:=I<|WK.bat P i z N N;have c1:=I<|Zo.wrote P i b9;clear i e0 e1 e2;have p0:=A.cell 0;have p1:=A.cell 1;have p2:=A.cell 2;simp only[Yf]at p0 p1 p2;go_upto_region 12 with fail;go_region_held3 (λu=>u.cell? ⟨w.heap.size,0,none⟩=some (E o)/\u.cell? ⟨w.heap.size,1,none⟩=some (.iface t1 u1)/\u.cell? ⟨w.heap.size,2,none⟩=some (.iface t2 u2)) (first|exact⟨e0,e1,e2⟩|exact⟨d0,d1,d2⟩|exact⟨p0,p1,p2⟩|go_keep) (first
  | (go_at_call 252;refine(a4.o _).m ?_;rintro e w8 ⟨rfl,f⟩;have m:U<|BW w7 w8:=I ⟨f.os,f.tape,f.output,f.size,f.block⟩;have a5:=I<|A.below m.o;have d0:=a5.cell;have a6:U<|WK B b w w8:=c0.trans<|WK.below m.o Q.le;clear f)
  | (go_at_call 251;refine(b6.o w8 _ (c1.below m.o) (Q.below m.o) (HT.low a6.low R.o)<|by simp only[Yx,Zb];rw[a3.o];have:=HL.o;have:=J.o;omega).m ?_;rintro e w9 ⟨rfl,c2,n⟩;have c3:=I<|WK.bat (Q.below m.o) n.o a5.o N N;have e0:=c3.cell;have c4:U<|WK B b w w9:=a6.trans n.o;clear n));have c5:U<|WB w9 B b<|l++ZV (.node x y a p q) 1:=by
  rw[HX,<-Z];have:=c2.o;rw[ZX,ZX]at this;simp only[Vd]at this⊢;exact this
 go_wp2;go_end0;exact⟨C,c5,c4⟩
theorem zQ{x:Nat}{p:Tr}(H:V1<|.node x y a p q)(Z:a.jj=5)(ih:WC p){d:BA}(w:Y)(z:F)(o:bl d=Wu.getD a.op [])(J:Ue w (.slice la ln lc) a.by_)(S:Zo w p z)(B b:Nat)(l:LB)(hw:WB w B b l)(ht:Vv w)(hB:20<=B)(hl:l.length+wT (.node x y a p q)<=big):
 CP 221 #[Vp b,.iface 428<|.agg #[.string d,.slice la ln lc,z]] w λe c=>e=.returned (.tuple #[])/\U (WB c B b<|l++ZV (.node x y a p q) 1)/\U (WK B b w c):=by
 have HX:U<|ZV (.node x y a p q) 1=bl _++[32,98,121,32,40]++commas _++[41,32,40]++ZV p 1++[41]:=I<|by rw[QE,uq Z,o]
 have a0:U<|(ZV p 1).length<=wT p:=I<|Mz p _ H.2.2.2.2.2.2.2.2.2.2.1;have HW:=I hw;have HT:=I ht;have HB:=I hB;have r:U<|l.length+24+nw a.by_+wT p<=big:=I<|by have h1:Xo a+wT p+wT q=wT (.node x y a p q):=C;unfold Xo at h1;omega
 have HZ:=I S;have a4:=I J;have b8:d.size<=5:=ZE o▸Lu Wu N a.op;obtain⟨ty,u,a5⟩:=Zo.shape S;subst a5;obtain⟨js,K⟩:∃js:BA,js=⟨(commas a.by_).toArray⟩:=⟨_,C⟩;have t:U<|bl js=commas _:=I<|by rw[K,U9]
 have k:U _:=ZE t.o▸OA _;have b9:js.size<=1000000:=by have h1:=k.o;have T:=r.o;unfold big at T;omega
 have a1:∀W,(Op.stringOp _ _ ⟨#[32,98,121,32,40]⟩).run prog W=.ok _ W:=λW=>XW W _ _<|by show d.size+5<=_;omega
 have L:U<|(d++⟨#[32,98,121,32,40]⟩).size=d.size+5:=by rw[Y9];rfl
 have a2:∀W,(Op.stringOp _ _ js).run prog W=.ok _ W:=λW=>XW W _ _<|by rw[L];omega
 have M:U<|((d++⟨#[32,98,121,32,40]⟩)++js).size=d.size+5+js.size:=I<|by rw[Y9,L]
 have a3:∀W,(Op.stringOp _ _ ⟨#[41,32,40]⟩).run prog W=.ok _ W:=λW=>XW W _ _<|by rw[M];show _+3<=_;omega
 have v:U<|(((d++⟨#[32,98,121,32,40]⟩)++js)++⟨#[41,32,40]⟩).size=d.size+5+js.size+3:=by rw[Y9,M];rfl
 clear hw ht hB hl Z S H o J K;go_enter func221,ntmps221;go_upto_region 15 with fail;refine Zs λW V=>?_;have i:Below _ w W:=V▸Yc;have m:U<|Ya W _ _ 428:=V▸YO;have n:=I<|HW.below i;have a6:U<|WK B b w W:=WK.below i HW.le;have a7:=I<|HZ.below i;have a8:=I<|a4.below i;clear V i;have p0:=m.cell 0;have p1:=m.cell 1;have p2:=m.cell 2;simp only[Yf]at p0 p1 p2;have O:U<|∀c,BW W c->CP 52 #[.slice la ln lc,.string ⟨#[44]⟩] c λe P=>e=.returned (.string js)/\BW c P:=by
  intro c a9;refine(ot _ _ _ _ (a8.below a9)<|by have T:=r.o;unfold big at T;omega).m ?_;rintro e P ⟨s,rfl,hs,hb⟩;exact⟨by rw[LS.ZbH<|hs.trans t.symm],hb⟩
 have b0:U<|BW W _:=I<|(Ym _ _).drew;go_region_held3 (λc=>c.cell? ⟨w.heap.size,0,none⟩=some (.string d)/\c.cell? ⟨w.heap.size,1,none⟩=some (.slice la ln lc)/\c.cell? ⟨w.heap.size,2,none⟩=some (.iface ty u)) (first|exact⟨e0,e1,e2⟩|exact⟨d0,d1,d2⟩|exact⟨p0,p1,p2⟩|go_keep) (first
  | (go_at_call 52;refine(O.o _ b0.o).m ?_;rintro e w5 ⟨rfl,g⟩;have f:U<|BW W w5:=I ⟨g.os,g.tape,g.output,g.size,g.block⟩;have j:=I<|m.below f.o;have d0:=j.cell 0;have d1:=j.cell 1;have d2:=j.cell 2;simp only[Yf]at d0 d1 d2;have Q:U<|WK B b w w5:=a6.trans<|WK.below f.o n.le;clear g)
  | (go_at_call 92;refine(SU (n.below f.o) _<|by rw[v.o];have:=r.o;have:=k.o;omega).m ?_;rintro e w6 ⟨rfl,b1,h⟩;have A:=I<|WK.bat (n.below f.o) h.o j.o N N;have e0:=A.cell 0;have e1:=A.cell 1;have e2:=A.cell 2;simp only[Yf]at e0 e1 e2;have R:U<|WK B b w w6:=Q.trans h.o;have b2:U<|Zo w6 p<|.iface ty u:=I<|Zo.wrote (n.below f.o) h.o<|a7.below f.o;clear h));clear p0 p1 p2 d0 d1 d2 j f Q O;go_wp2_with fail;refine(ih _ _ B b _ b2 b1 (HT.low R.low HB) HB<|by rw[Yx,Zb,v];have:=r.o;have:=k.o;omega).m ?_;rintro e w7 ⟨rfl,b3,D⟩;have b4:=I<|R.trans D;clear D e0 e1 e2;go_wp2_with fail;refine(SU b3 _<|by simp only[Yx,Zb];rw[v];show _+1<=_;have:=r.o;have:=k.o;have:=a0.o;omega).m ?_;rintro e w8 ⟨rfl,b5,G⟩;have b6:=I<|b4.trans G;have b7:U<|WB w8 B b<|l++ZV (.node x y a p q) 1:=by
  rw[HX,<-t];have:=b5.o;rw[ZX,ZX,ZX]at this;simp only[Vd]at this⊢;exact this
 clear G;go_wp2;go_end0;exact⟨C,b7,b6⟩
theorem FP:∀t:Tr,V1 t->WC t
 |.nil,_=>λ_ _ _ _ _ h=>h.elim
 |.node x y a p q,c=>by
  have m:=FP p c.2.2.2.2.2.2.2.2.2.2.1;have o:=FP q c.2.2.2.2.2.2.2.2.2.2.2;have iwp:=Au c.2.2.2.2.2.2.2.2.2.2.1 m;have iwq:=Au c.2.2.2.2.2.2.2.2.2.2.2 o;intro w v B b l u e g i f;rcases u with⟨d,rfl⟩|⟨d,nm,la,ln,lc,rfl,j,k⟩|⟨d,A,nm,la,ln,lc,rfl,j,k,D⟩|⟨d,z,rfl,n⟩|⟨d,A,la,ln,lc,z,rfl,j,k,n⟩|⟨d,z1,z2,rfl,r,s⟩
  .exact zS c d w B b l e g i f
  .exact xQ d w j k B b l e f
  .exact xR c d w j k D B b l e g i f
  .exact zR d iwp w z n B b l e g i f
  .exact zQ c d m w z j k n B b l e g i f
  .exact xP c d iwp iwq w r s B b l e g i f
theorem BP(c:V1 t)(d:wT t<=100000)(w:Y)(h:Zo w t v)(j:Vv w)(k:20<=w.heap.size):
 CP 190 #[v] w λe D=>∃s:BA,e=.returned (.string s)/\U (bl s=ZV t 1)/\BW w D:=by
 have l:=I<|FP t c;have G:=I h;have H:=I j;have m:=I k;have J:=I d;obtain⟨ty,u,n⟩:=Zo.shape h;subst n;clear h j k d c;go_enter func190,ntmps190;go_wp2_with fail;refine Zv λW i=>?_;have a:Below _ w W:=i▸Yc;have o:U<|WB W _ _ []:=I ⟨.inl ⟨Yj _,.slice _ 0 0,i▸YO,⟨C,.inl ⟨C,C⟩⟩,by simp[Value.ownBlock]⟩,a.size⟩;have p:=I a;have q:=I<|G.below a;have r:=I<|H.low a m;clear i a;refine(l W _ _ _ _ q o r m<|by have:=J.o;unfold big;simp;omega).m ?_;rintro e K ⟨rfl,f,x⟩;have A:=I<|p.trans x.low;go_wp2_with fail;refine(Builder_String_any_f _ _ _ _ f.bd f.le).m ?_;rintro e z ⟨rfl,_,g⟩;have B:=I<|A.trans g;clear g;go_wp2;go_ret;exact⟨_,C,I<|by rw[U9],B⟩
end
section
attribute [local go_sem] KW KU KX KT KZ KY
theorem Bx(h:Z5 l=.ok t):V1 t/\isNil t=false/\wT t<=100000:=by
 unfold Z5 at h;by_cases d:300<l.length
 .rw[Ye d]at h;cases h
 .rw[Yd d]at h;have j:=Lb l (l.length+1) 0<|Yr _;have k:=KL l X (l.length+1) 0;cases a:Zh (10*(Z7 l (l.length+1) 0).length+5) false 0 .nil (Z7 l (l.length+1) 0) 0 with
  |error e=>rw[a]at h;cases h
  |ok z=>
   obtain⟨t',r⟩:=z;rw[a]at h;have c:=NB _ _ _ _ _ _ _ (λe=>by cases e) a;simp only at h;by_cases f:(hd r).jj=0
   .rw[Ye f]at h;by_cases g:Zq t'=0
    .rw[Ye g]at h;cases h
    .rw[Yd g]at h;cases h;refine⟨c.1,c.2.1,?_⟩;have i:=c.2.2;rw[Yd N]at i;simp only at i;omega
   .rw[Yd f]at h;cases h
theorem YD.sentsV(h:YD w A m):Rc w (A 0) (A 1) (A 2)<|A 3:=
 ⟨h.sent _ N,h.sent _ N,h.sent _ N,h.sent _ N⟩
theorem WT.jn{lg sy dp tp:Addr}{r:Except (Nat×Nat) Tr}{pv:F}(c:r=.error x)(h:WT w lg sy dp tp r pv v):∃ty u,v=.iface ty u:=by
 subst c;rcases h with⟨_,rfl⟩|⟨_,rfl⟩|⟨_,a⟩|⟨_,a⟩
 .exact⟨_,_,C⟩
 .exact⟨_,_,C⟩
 .obtain⟨fa,rfl⟩:=ZF.shape a;exact⟨_,_,C⟩
 .obtain⟨fa,rfl⟩:=ZF.shape a;exact⟨_,_,C⟩
def Uo(w:Y)(r:Option<|Nd×Nat)(v:F)(ok:Bool):Prop:=match r with
 |some a=>ok=true/\SK w a v
 |none=>ok=false/\Oq v
theorem Uo.mkNone(a:r=none)(h:ok=false/\Oq v):Uo w r v ok:=by subst a;exact h
theorem Uo.mkSome{a:Nd×Nat}(c:r=some a)(h:ok=true/\SK w a v):Uo w r v ok:=by subst c;exact h
theorem Bn(h:Z5 l=.error x):Xg l=none:=by unfold Xg;rw[h]
theorem Bo{x:Nat}{p:Tr}(h:Z5 l=.ok (.node x y a p q))(c:a.jj≠1):Xg l=none:=by
 unfold Xg;rw[h];simp only;rw[Yd λe=>c e.1]
theorem Bq{x:Nat}{p:Tr}(h:Z5 l=.ok (.node x y a p q))(c:a.jj=1):Xg l=if Xl a=l then some a else none:=by
 unfold Xg;rw[h];simp only;by_cases e:Xl a=l
 .rw[Ye ⟨c,e⟩,Ye e]
 .rw[Yd λh=>e h.2,Yd e]
theorem Nc(w:Y)(a:Nat)(x y z:F):w.grownBy (set3 w a x y z)<|some a:=Zn (Zn (Zn (Z2 w<|some a) (Or.inl C) _) (Or.inl C) _) (Or.inl C) _
theorem G7{a:Nat}(h:BW w0 w)(c:w0.heap.size<=a)(x y z:F):BW w0<|set3 w a x y z:=
 ((h.setCell (p:=⟨a,0,none⟩) c _).setCell (p:=⟨a,1,none⟩) c _).setCell (p:=⟨a,2,none⟩) c _
theorem fC(y:LB)(c:UInt8):Lib.hasSuffix y [c]=decide (y.getLast?=some c):=by
 rw[Uc,Qr];unfold Lib.hasSuffix;rw[List.isSuffixOf_iff_suffix];constructor
 .rintro⟨z,rfl⟩;simp
 .intro h;obtain⟨z,a⟩:=List.getLast?_eq_some_iff.1 h;exact⟨z,a.symm⟩
theorem mL {t:LB}(h:LS.cut 91 t=none):ZL t=(Xg t).map λa=>(a,0):=by
 have:LS.seek 91 t=none:=by
  unfold LS.cut at h;cases c:LS.seek 91 t with
  |none=>rfl
  |some i=>rw[c]at h;cases h
 unfold ZL;rw[this]
theorem mH{t x y:LB}(h:LS.cut 91 t=some (x,y)):ZL t=if Lib.hasSuffix y [93]=true then(match ZC 1000 y.dropLast with
 |some n=>if n=0 then none else(Xg x).map λa=>(a,n)
 |none=>none)else none:=by
 cases d:LS.seek 91 t with
 |none=>unfold LS.cut at h;rw[d]at h;cases h
 |some i=>
  unfold LS.cut at h;rw[d]at h;simp only[Wr]at h;injection h with h;injection h with h1 h2;have f:t.getLast?=some 93↔y.getLast?=some 93:=by
   obtain⟨a,b,rfl,rfl,_⟩:=Pq d;have g:y=b:=by
    rw[<-h2,List.drop_append];simp
   rw[g];cases b with
   |nil=>simp
   |cons c b=>rw[List.getLast?_append,List.getLast?_cons_cons];simp
  unfold ZL;rw[d];simp only;rw[h1,h2,fC];by_cases e:t.getLast?=some 93
  .rw[Ye e,Ye<|by simpa using f.1 e];cases ZC 1000 y.dropLast<;>rfl
  .rw[Yd e,Yd<|by simpa using λe'=>e<|f.2 e']
theorem yJ{y:LB}{c:UInt8}(h:Lib.hasSuffix y [c]=true):Lib.trimSuffix y [c]=y.dropLast:=by
 unfold Lib.trimSuffix;rw[Ye h,Eg];rfl
theorem Ya.three{a:Nat}{x y:F}{t:TypeId}(h:Ya w a [x,y,z] t):(w.frozen? ⟨a,0,none⟩=false/\w.frozen? ⟨a,1,none⟩=false/\w.frozen? ⟨a,2,none⟩=false)/\w.cell? ⟨a,0,none⟩=some x/\w.cell? ⟨a,1,none⟩=some y/\w.cell? ⟨a,2,none⟩=some z:=⟨⟨h.frozen 0,h.frozen 1,h.frozen 2⟩,h.cell 0,h.cell 1,h.cell 2⟩
def IR(fn:Func)(a:Act)(b:Nat)(x y z:F)(ok:Bool):Prop:=∀W:Y,W.cell? ⟨b,0,none⟩=some x->W.cell? ⟨b,1,none⟩=some y->W.cell? ⟨b,2,none⟩=some z->(results fn a.tmps).run prog W=.ok (.tuple #[.agg #[x,y,z],.bool ok]) W
theorem AZ{v:Y}{x y p q:F}{t:TypeId}{a:Act}{k:Nd×Nat}(d:IR fn a w.heap.size x y z true)(hd:a.defers=[])(f:Ya v w.heap.size [p,q,u] t)(g:BW w v)(h:r=some k)(i:∀W,v.grownBy W (some w.heap.size)->SK W k (.agg #[x,y,z])):
 bodyPost prog fn (λe c=>∃v ok,e=.returned (.tuple #[v,.bool ok])/\U (Uo c r v ok)/\BW w c) .ret a<|set3 v w.heap.size x y z:=by
 obtain⟨_,s0,s1,s2⟩:=(P5 f (x:=x) (y:=y) (z:=z)).three;exact YQ (d _ s0 s1 s2) hd ⟨_,_,C,I<|Uo.mkSome h ⟨C,i _<|Nc _ _ _ _ _⟩,G7 g (Yj _) _ _ _⟩
theorem NK{v:Y}{p q:F}{t:TypeId}{a:Act}(d:IR fn a w.heap.size (.string ⟨#[]⟩) S0 (E 0) false)(hd:a.defers=[])(f:Ya v w.heap.size [p,q,u] t)(g:BW w v)(h:r=none):
 bodyPost prog fn (λe c=>∃v ok,e=.returned (.tuple #[v,.bool ok])/\U (Uo c r v ok)/\BW w c) .ret a<|set3 v w.heap.size (.string ⟨#[]⟩) S0<|E 0:=by
 obtain⟨_,s0,s1,s2⟩:=(P5 f (x:=.string ⟨#[]⟩) (y:=S0) (z:=E 0)).three;exact YQ (d _ s0 s1 s2) hd ⟨_,_,C,I<|Uo.mkNone h ⟨C,C⟩,G7 g (Yj _) _ _ _⟩
theorem AY{v:Y}{p q:F}{t:TypeId}{a:Act}{o:Obj}(f:IR fn a w.heap.size (.string ⟨#[]⟩) S0 (E 0) false)(hd:a.defers=[])(g:Ya v w.heap.size [p,q,u] t)(h:BW w v)(i:r=none):
 bodyPost prog fn (λe c=>∃v ok,e=.returned (.tuple #[v,.bool ok])/\U (Uo c r v ok)/\BW w c) .ret a<|(set3 v w.heap.size (.string ⟨#[]⟩) S0<|E 0).alloc o:=by
 obtain⟨_,s0,s1,s2⟩:=((P5 g (x:=.string ⟨#[]⟩) (y:=S0) (z:=E 0)).below<|(Ym _ _).alloc (Yj _) o).three;have d:=G7 h (Yj _) (.string ⟨#[]⟩) S0<|E 0;exact YQ (f _ s0 s1 s2) hd ⟨_,_,C,I<|Uo.mkNone i ⟨C,C⟩,d.alloc d.size _⟩
theorem kP(s:BA)(A:Nat->Addr)(m:Int)(w:Y)(hs:s.size<=70000)(hv:YD w A m)(ht:Vv w)(hB:20<=w.heap.size):
 CP 157 #[.string s] w λe w'=>∃v ok,e=.returned (.tuple #[v,.bool ok])/\U (Uo w' (ZL<|bl s) v ok)/\BW w w':=by
 have HV:=I hv;have HT:=I ht;have b7:=I hB;go_enter func157,ntmps157;go_wp2_with fail;refine Zv λW hW=>?_;have d4:BW w W:=by rw[hW];exact Yc
 have a4:=I d4;have b8:U<|Ya W w.heap.size [.string ⟨#[]⟩,S0,E 0] 231:=I<|by rw[hW];exact YO
 cases hcut:LS.cut 91 (bl s)with
 |none=>
  refine(Et m W hs (HV.below a4.o).max hcut).m ?_;rintro e Q ⟨a,b,rfl,O,nd,a6⟩;have R:BW W Q:=by rw[a6];exact Ou _ _ _
  have B:U<|BW w Q:=I<|a4.trans<|R.mono a4.size;have k:=I<|b8.below R;have h:U<|ZL (bl s)=(Xg<|bl a).map λz=>(z,0):=I<|by rw[mL hcut,O.1]
  have b9:a.size<=70000:=by rw[ZE O.1,Zb];exact hs
  clear R a6 hcut O b8;go_wp2_with fail;have a7:=I<|(HV.below B.o).sentsV;refine(BQ a Q X a7.o).m ?_;rintro e w2 ⟨pv,v,rfl,g,S⟩;have d:U<|BW w w2:=I<|B.trans<|S.mono B.size;have c:=I<|k.below S;have c8:=c.lt;clear S k B a7;have f:=c.three;cases p:Z5 (bl a)with
  |error x=>
   have j:U<|ZL (bl s)=none:=I<|by rw[h.o,Bn p];rfl
   obtain⟨ty,u,rfl⟩:=WT.jn p g.o;clear g p h;go_wp2;exact NK (λW s0 s1 s2=>by simp[results,results157,go_sem,s0,s1,s2]) C c.o d.o j.o
  |ok t=>
   rw[p]at g;obtain⟨rfl,a8⟩:=g.o;obtain⟨T,J,V⟩:=Bx p;cases t with
   |nil=>cases J
   |node x y nd l r=>
    have Z:=I a8;have a9:=I<|And.intro T V;rcases a8 with⟨q,rfl⟩|⟨q,nm,la,ln,lc,rfl,h1,h2⟩|⟨q,wd,nm,la,ln,lc,rfl,_⟩|⟨q,z,rfl,_⟩|⟨q,wd,la,ln,lc,z,rfl,_⟩|⟨q,z1,z2,rfl,_⟩;case inr.inl=>
     have K:=I<|Bq p q;have b0:=I q;have c2:=I h1;have b1:=I h2;clear g p T J V q h1 h2;go_wp2_with fail;refine Zv λW3 a0=>?_;have D:BW w2 W3:=by rw[a0];exact Yc
     have G:U<|BW w W3:=I<|d.trans<|D.mono d.size;have b2:=I<|c.below D;have b3:U<|Ya W3 w2.heap.size [.string nm,.slice la ln lc] 229:=I<|by rw[a0];exact YO
     have a1:=I<|Z.below D;have a2:=I<|b1.below D;clear a0 D Z b1 f;refine(BP a9.1 a9.2 W3 a1.o (HT.low G.o b7.o)<|Xb b7.o G.size).m ?_;rintro e w4 ⟨tx,rfl,b4,H⟩;have c3:U<|BW w w4:=I<|G.trans<|H.mono G.size;have L:=I<|b2.below H;have c4:=I<|b3.below H;have b6:=I<|a2.below H;have b5:U<|bl tx=Xl nd:=I<|by rw[b4.o,QE];unfold TD;rw[Yd<|by rw[b0.o];decide,Ye b0.o]
     clear H G b2 b3 a1 a2 b4;have d0:=c4.cell;have c:=L;have d:=c3;have f:=L.three;have d5:=L.lt;by_cases he:tx=a
     .subst he;have c5:(tx.toList !=tx.toList)=false:=Sm;have c6:U<|ZL (bl s)=some (nd,0):=I<|by rw[h.o,K.o,Ye b5.symm];rfl
      clear h K;go_wp2;exact AZ (λW s0 s1 s2=>by simp[results,results157,go_sem,s0,s1,s2]) C c.o d.o c6.o λW hg=>⟨⟨nm,la,ln,lc,nd,0⟩,C,C,c2.o,b6.kept hg L.o N⟩
     .have c5:(tx.toList==a.toList)=false:=by
       rw[YB,ZA,ZA];intro e;exact he<|LS.ZbH e
      have j:U<|ZL (bl s)=none:=I<|by rw[h.o,K.o,Yd<|by intro e;exact he<|LS.ZbH<|b5.trans e];rfl
      clear h K he;go_wp2;exact NK (λW s0 s1 s2=>by simp[results,results157,go_sem,s0,s1,s2]) C c.o d.o j.o
    all_goals
     have j:U<|ZL (bl s)=none:=I<|by rw[h.o,Bo p X];rfl
     clear g p h T J V q Z;go_wp2;exact AY (λW s0 s1 s2=>by simp[results,results157,go_sem,s0,s1,s2]) C c.o d.o j.o
 |some xy=>
  obtain⟨x,y⟩:=xy;refine(Es m W hs (HV.below a4.o).max hcut).m ?_;rintro e Q ⟨a,b,rfl,O,nd,a6⟩;have R:BW W Q:=by rw[a6];exact Ou _ _ _
  have B:U<|BW w Q:=I<|a4.trans<|R.mono a4.size;have k:=I<|b8.below R;have b9:a.size<=70000/\b.size<=70000:=by
   have h9:=O.o;rw[LS.cut]at hcut;cases c9:LS.seek 91 (bl s)with
   |none=>rw[c9]at hcut;cases hcut
   |some i=>
    rw[c9]at hcut;simp only[Wr]at hcut;injection hcut with hcut;injection hcut with e1 e2;rw[ZE h9.1,ZE h9.2,<-e1,<-e2,Xw,Ur,Zb];omega
  have d6:=b9.2;have b9:=b9.1;have c0:=I<|mH hcut;clear R a6 hcut b8;go_wp2_with fail;refine(strings_CutSuffix b ⟨#[93]⟩ Q X).m ?_;rintro e wq ⟨rfl,rfl⟩;have d1:U<|bl b=y:=I O.2;have d7:U<|bl a=x:=I O.1;rw[show b.data.toList=y from d1.o,show(⟨#[93]⟩:BA).data.toList=[93]from C];have d8:y.length<=70000:=by rw[<-d1.o,Zb];exact d6
  clear O;cases a5:Lib.hasSuffix y [93]with
  |false=>
   have j:U<|ZL (bl s)=none:=I<|by rw[c0.o,Yd<|by rw[a5];simp]
   have a3:U<|∀W',CP 188 #[.string ⟨(Lib.trimSuffix y [93]).toArray⟩,E (1000:Nat)] W' _:=I λW'=>FL ⟨(Lib.trimSuffix y [93]).toArray⟩ 1000 W' (by
    rw[<-Zb,U9];unfold Lib.trimSuffix;rw[a5];simpa using d8) N N;generalize(⟨(Lib.trimSuffix y [93]).toArray⟩:BA)=dg at*;have c:=k;have d:=B;have c8:=k.lt;have f:=k.three;clear c0 a5;go_wp2_with fail;refine(a3.o _).m ?_;rintro e d2 ⟨rfl,rfl⟩;have c1:∃(v:Int)(o:Bool),S7 1000 (bl dg)=.tuple #[E v,.bool o]:=⟨_,_,C⟩;obtain⟨nv,no,c1⟩:=c1;rw[c1];clear c1 a3;go_wp2;exact NK (λW s0 s1 s2=>by simp[results,results157,go_sem,s0,s1,s2]) C c.o d.o j.o
  |true=>
   rw[yJ a5];have M:U<|ZL (bl s)=match ZC 1000 y.dropLast with
    |some n=>if n=0 then none else(Xg x).map λa=>(a,n)
    |none=>none:=I<|by rw[c0.o,Ye a5]
   have a3:U<|∀W',CP 188 #[.string ⟨y.dropLast.toArray⟩,E (1000:Nat)] W' _:=I λW'=>FL ⟨y.dropLast.toArray⟩ 1000 W' (by
    rw[<-Zb,U9,List.length_dropLast];omega) N N;have d9:=k.lt;clear c0 a5;go_wp2_with fail;refine(a3.o _).m ?_;rintro e d2 ⟨rfl,rfl⟩;rw[U9];cases P:ZC 1000 y.dropLast with
   |none=>
    rw[NA P];have j:U<|ZL (bl s)=none:=I<|by rw[M.o,P]
    have c:=k;have d:=B;have f:=k.three;clear P M;go_wp2;exact NK (λW s0 s1 s2=>by simp[results,results157,go_sem,s0,s1,s2]) C c.o d.o j.o
   |some n=>
    rw[Js P];by_cases c7:n=0
    .subst c7;have j:U<|ZL (bl s)=none:=I<|by rw[M.o,P];rfl
     have c:=k;have d:=B;have f:=k.three;clear P M;go_wp2;exact NK (λW s0 s1 s2=>by simp[results,results157,go_sem,s0,s1,s2]) C c.o d.o j.o
    .have e0:((n:Int)==0)=false:=by rw[YB];omega
     have h:U<|ZL (bl s)=(Xg<|bl a).map λz=>(z,n):=I<|by rw[M.o,P,d7.o];simp only;rw[Yd c7]
     clear P M c7 a3;obtain⟨Q,d3⟩:∃Q,Q=d2:=⟨_,C⟩;subst d3;go_wp2_with fail;have a7:=I<|(HV.below B.o).sentsV;refine(BQ a Q X a7.o).m ?_;rintro e w2 ⟨pv,v,rfl,g,S⟩;have d:U<|BW w w2:=I<|B.trans<|S.mono B.size;have c:=I<|k.below S;have c8:=c.lt;clear S k B a7;have f:=c.three;cases p:Z5 (bl a)with
     |error x=>
      have j:U<|ZL (bl s)=none:=I<|by rw[h.o,Bn p];rfl
      obtain⟨ty,u,rfl⟩:=WT.jn p g.o;clear g p h;go_wp2;exact NK (λW s0 s1 s2=>by simp[results,results157,go_sem,s0,s1,s2]) C c.o d.o j.o
     |ok t=>
      rw[p]at g;obtain⟨rfl,a8⟩:=g.o;obtain⟨T,J,V⟩:=Bx p;cases t with
      |nil=>cases J
      |node x y nd l r=>
       have Z:=I a8;have a9:=I<|And.intro T V;rcases a8 with⟨q,rfl⟩|⟨q,nm,la,ln,lc,rfl,h1,h2⟩|⟨q,wd,nm,la,ln,lc,rfl,_⟩|⟨q,z,rfl,_⟩|⟨q,wd,la,ln,lc,z,rfl,_⟩|⟨q,z1,z2,rfl,_⟩;case inr.inl=>
        have K:=I<|Bq p q;have b0:=I q;have c2:=I h1;have b1:=I h2;clear g p T J V q h1 h2;go_wp2_with fail;refine Zv λW3 a0=>?_;have D:BW w2 W3:=by rw[a0];exact Yc
        have G:U<|BW w W3:=I<|d.trans<|D.mono d.size;have b2:=I<|c.below D;have b3:U<|Ya W3 w2.heap.size [.string nm,.slice la ln lc] 229:=I<|by rw[a0];exact YO
        have a1:=I<|Z.below D;have a2:=I<|b1.below D;clear a0 D Z b1 f;refine(BP a9.1 a9.2 W3 a1.o (HT.low G.o b7.o)<|Xb b7.o G.size).m ?_;rintro e w4 ⟨tx,rfl,b4,H⟩;have c3:U<|BW w w4:=I<|G.trans<|H.mono G.size;have L:=I<|b2.below H;have c4:=I<|b3.below H;have b6:=I<|a2.below H;have b5:U<|bl tx=Xl nd:=I<|by rw[b4.o,QE];unfold TD;rw[Yd<|by rw[b0.o];decide,Ye b0.o]
        clear H G b2 b3 a1 a2 b4;have d0:=c4.cell;have c:=L;have d:=c3;have f:=L.three;have d5:=L.lt;by_cases he:tx=a
        .subst he;have c5:(tx.toList !=tx.toList)=false:=Sm;have c6:U<|ZL (bl s)=some (nd,n):=I<|by rw[h.o,K.o,Ye b5.symm];rfl
         clear h K;go_wp2;exact AZ (λW s0 s1 s2=>by simp[results,results157,go_sem,s0,s1,s2]) C c.o d.o c6.o λW hg=>⟨⟨nm,la,ln,lc,nd,n⟩,C,C,c2.o,b6.kept hg L.o N⟩
        .have c5:(tx.toList==a.toList)=false:=by
          rw[YB,ZA,ZA];intro e;exact he<|LS.ZbH e
         have j:U<|ZL (bl s)=none:=I<|by rw[h.o,K.o,Yd<|by intro e;exact he<|LS.ZbH<|b5.trans e];rfl
         clear h K he;go_wp2;exact NK (λW s0 s1 s2=>by simp[results,results157,go_sem,s0,s1,s2]) C c.o d.o j.o
       all_goals
        have j:U<|ZL (bl s)=none:=I<|by rw[h.o,Bo p X];rfl
        clear g p h T J V q Z;go_wp2;exact AY (λW s0 s1 s2=>by simp[results,results157,go_sem,s0,s1,s2]) C c.o d.o j.o
end
section
theorem Jh{x:LB×Nat}(h:Vz l p=.ok x):x.1.length<65536/\x.2<=l.length:=by
 unfold Vz at h;cases a:Z8 l p 2 with
 |error e=>rw[a]at h;cases h
 |ok y=>
  rw[a]at h;simp only at h;obtain⟨d,f,g⟩:=Mb h;have c:=(LS.Zdd a).2.2.2;have c:y.1<65536:=c;exact⟨by rw[f,JQ d];exact c,X⟩
theorem SK.ju{a:Nd×Nat}(h:SK w a v){t:TypeId}(d:Ya w b c t)(e:w.grownBy w'<|some b)(f:t≠374):SK w' a v:=by
 obtain⟨x,g,i,j⟩:=h;exact⟨x,g,i,j.ju d e f⟩
theorem SK.below{a:Nd×Nat}(h:SK w a v)(c:BW w w'):SK w' a v:=by
 obtain⟨x,d,e,f⟩:=h;exact⟨x,d,e,f.below c⟩
structure Ground (w0:Y)(A:Nat->Addr)(m:Int)(b:Nat):Prop where
 v:YD w0 A m
 t:Vv w0
 n:20<=w0.heap.size
 b:w0.heap.size<=b
theorem Ground.code(h:Ground w0 A m b)(a:BW w0 w):UQ w<|A 8:=(h.v.below a).sent _ N
theorem Ground.ng(h:Ground w0 A m b):20<=b:=Xb h.n h.b
theorem gK(s:BA)(b:Nat)(A:Nat->Addr)(m:Int)(V:Ground w0 A m b)(hs:s.size<=maxLen):
 T8 115 SK Oq w0 b s (A 8)<|pickAt<|bl s:=by
 intro p w h0 Z hp;have c3:=Z.lt;have a:=I V;have a0:U<|∀w,BW w0 w->YH w b s p->CP 156 #[Vp b] w _:=I λw h1 h2=>BH s p b w h2 (V.code h1) V.ng hp hs;have H0:=I h0;have b2:=I Z;have c1:w.cell? ⟨b,1,none⟩=some (E p):=Z.cell 1;clear Z h0 V hs;go_enter func115,ntmps115;go_wp2_with fail;refine Zv λW hW=>?_;have M:BW w W:=by rw[hW];exact Yc
 have a1:U<|Ya W w.heap.size [.string ⟨#[]⟩,S0,E 0] 231:=I<|by rw[hW];exact YO
 have O:U<|w.grownBy W<|some b:=I<|ZB M;have a2:U<|BW w0 W:=I<|Uz H0.o O.o a.b;have a3:=I<|b2.below M;clear hW M c1;refine(a0.o W a2.o a3.o).m ?_;rintro e K ⟨v,err,rfl,L,P⟩;have l:U<|w.grownBy K<|some b:=I<|Zi O.o P;have d:=I<|a1.grown P<|by intro e;injection e with e;omega
 have o:U<|BW w0 K:=I<|Uz H0.o l.o a.b;clear P O a1 a2 a3 a0;cases j:Vz (bl s) p with
 |error x=>
  obtain⟨fa,rfl⟩:=L.jn j;have Q:U<|YF SK Oq K b s (A 8) (pickAt (bl s) p) (.agg #[.string ⟨#[]⟩,S0,E 0])<|.iface 92<|Vp fa:=I<|L.km j (by unfold pickAt;rw[j]) C;obtain⟨_,_,rfl,_⟩:=L.err j;clear L j;have f0:=d.frozen;have c0:=d.cell;go_wp2;exact Ss (r:=.tuple #[.agg #[.string ⟨#[]⟩,S0,E 0],.iface 92<|Vp fa]) (λW s0 s1 s2=>by simp[results,results115,go_sem,s0,s1,s2]) C d.o ⟨_,_,C,Q.kept (Nc K w.heap.size (.string ⟨#[]⟩) S0<|E 0) d.o N N λ_ h=>h.ju d.o (Nc K w.heap.size (.string ⟨#[]⟩) S0<|E 0) N,P6 l.o (Yj _) (.string ⟨#[]⟩) S0<|E 0⟩
 |ok x=>
  obtain⟨t,q⟩:=x;obtain⟨rfl,⟨tx,rfl,u⟩,hq⟩:=L.ok j;have b3:=(Jh j).1;simp only at hq b3 u;have b4:tx.size<=70000:=by rw[ZE u];omega
  have a4:=I hq;have B:U<|pickAt (bl s) p=match ZL (bl tx)with
   |none=>.error (9,p)
   |some y=>.ok (y,q):=I<|by unfold pickAt;rw[j,u];simp only;cases ZL t<;>rfl
  clear L j hq u;go_wp2_with fail;refine(kP tx A m K b4 (a.v.below o.o) (a.t.low o.o a.n)<|Xb a.n o.size).m ?_;rintro e f ⟨v,ok,rfl,g,D⟩;have G:U<|w.grownBy f<|some b:=I<|Qy l.o D;have c:=I<|d.below D;have b5:U<|BW w0 f:=I<|Uz H0.o G.o a.b;have R:=I<|a4.below D;have c4:=c.lt;clear D d l o a4;cases i:ZL (bl tx)with
  |none=>
   rw[i]at g;obtain⟨rfl,rfl⟩:=g.o;have S:U<|pickAt (bl s) p=.error (9,p):=I<|by rw[B.o,i]
   clear g i B;go_wp2_with fail;refine Zv λW3 a5=>?_;have H:BW f W3:=by rw[a5];exact Yc
   have T:U<|w.grownBy W3<|some b:=I<|Qy G.o H;have a6:=I<|c.below H;have a7:U<|BW w0 W3:=I<|Uz H0.o T.o a.b;have a8:=I<|R.below H;clear a5 H G c b5 R;refine(Np _<|a.code a7.o).m ?_;rintro e w4 ⟨v,rfl,hv,J⟩;have Q:U<|YF SK Oq w4 b s (A 8) (pickAt (bl s) p) (.agg #[.string ⟨#[]⟩,S0,E 0]) v:=I<|YF.ku S.o ⟨C,hv.o,C,_,a8.below J⟩;have b6:U<|w.grownBy w4<|some b:=I<|Qy T.o J;have k:=I<|a6.below J;obtain⟨fa,rfl⟩:=ZF.shape hv.o;clear hv J a6 T a7 a8;have f0:=k.frozen;have c0:=k.cell;go_wp2;exact Ss (r:=.tuple #[.agg #[.string ⟨#[]⟩,S0,E 0],.iface 92<|Vp fa]) (λW s0 s1 s2=>by simp[results,results115,go_sem,s0,s1,s2]) C k.o ⟨_,_,C,Q.kept (Nc w4 w.heap.size (.string ⟨#[]⟩) S0<|E 0) k.o N N λ_ h=>h.ju k.o (Nc w4 w.heap.size (.string ⟨#[]⟩) S0<|E 0) N,P6 b6.o (Yj _) (.string ⟨#[]⟩) S0<|E 0⟩
  |some y=>
   rw[i]at g;obtain⟨rfl,a9⟩:=g.o;have b0:=I a9;obtain⟨z,rfl,b7,b8⟩:=a9;have S:U<|pickAt (bl s) p=.ok (y,q):=I<|by rw[B.o,i]
   have Q:U<|YF SK Oq f b s (A 8) (pickAt (bl s) p) (.agg #[.string z.nm,.slice z.la z.ln z.lc,E z.n]) .nilIface:=I<|YF.mkOk S.o ⟨C,b0.o,R.o⟩;clear g i B b7 b8 b0;have f0:=c.frozen;have c0:=c.cell;go_wp2;change bodyPost _ _ _ _ _<|(set3 f w.heap.size (.string z.nm) (.slice z.la z.ln z.lc)<|E z.n).alloc<|.cells #[.string z.nm,.slice z.la z.ln z.lc,E z.n] 231;have st:=(P5 c.o (x:=.string z.nm) (y:=.slice z.la z.ln z.lc) (z:=E z.n)).below<|(Ym _ _).alloc (Yj _)<|.cells #[.string z.nm,.slice z.la z.ln z.lc,E z.n] 231;have s0:=st.cell 0;have s1:=st.cell 1;have s2:=st.cell 2;simp only[Yf]at s0 s1 s2;have b1:=I<|Q.kept (Nc f w.heap.size (.string z.nm) (.slice z.la z.ln z.lc)<|E z.n) c.o N N λ_ h=>h.ju c.o (Nc f w.heap.size (.string z.nm) (.slice z.la z.ln z.lc)<|E z.n) N;obtain⟨g1,g2,g3⟩:=b1.ok S.o;have b9:U<|YF SK Oq ((set3 f w.heap.size (.string z.nm) (.slice z.la z.ln z.lc)<|E z.n).alloc<|.cells #[.string z.nm,.slice z.la z.ln z.lc,E z.n] 231) b s (A 8) (pickAt (bl s) p) (.agg #[.string z.nm,.slice z.la z.ln z.lc,E z.n]) .nilIface:=I<|YF.mkOk S.o ⟨C,g2.below Yc,g3.below Yc⟩;have c2:=I<|Vh (P6 G.o (Yj _) (.string z.nm) (.slice z.la z.ln z.lc)<|E z.n)<|.cells #[.string z.nm,.slice z.la z.ln z.lc,E z.n] 231;clear g1 g2 g3 b1;generalize(set3 f w.heap.size (.string z.nm) (.slice z.la z.ln z.lc)<|E z.n).alloc (.cells #[.string z.nm,.slice z.la z.ln z.lc,E z.n] 231)=WX at*;exact YQ (v:=.tuple #[.agg #[.string z.nm,.slice z.la z.ln z.lc,E z.n],.nilIface]) (by simp[results,results115,go_sem,s0,s1,s2]) C ⟨_,_,C,b9,c2.o⟩
theorem KK(x y:LB):decide (x<=y)=!Op.bytesLess y x:=by
 rw[bytesLess_eq,Uc,Qr,MT,O5];exact Iff.rfl
theorem eo (ss:List<|LB):(ss.mergeSort λx y=>decide<|x<=y).Pairwise λa b=>Op.bytesLess b a=false:=by
 have h:=List.pairwise_mergeSort (le:=λ(x y)=>decide _) (by
  intro a b c d i;rw[KK,MT]at*;cases h:Op.bytesLess c a with
  |false=>rfl
  |true=>
   cases f:Op.bytesLess b c with
   |true=>rw[PU _ _ _ f h]at d;cases d
   |false=>
    have e:=Pc _ _ f i;rw[e,h]at d;cases d) (by
  intro a b;rw[KK,KK];cases h:Op.bytesLess b a with
  |false=>rfl
  |true=>
   cases f:Op.bytesLess a b with
   |false=>rfl
   |true=>have:=PU _ _ _ h f;rw[R5]at this;cases this) ss;refine h.imp λ{a b} g=>?_;rw[KK,MT]at g;exact g
theorem DV(bs:List BA):TE bs=(bs.map bl).map encStr:=by
 unfold TE;rw[VD];refine J1 λb _=>?_;cases b with
 |mk d=>simp[encStr,bl]
theorem ep {l:List<|LB}(e:l.Pairwise λa b=>Op.bytesLess b a=false)(h:∀k,k+1<l.length->l[k]?≠l[k+1]?):l.Nodup:=by
 induction l with
 |nil=>exact Ih
 |cons a l ih=>
  rw[Re]at e;rw[List.nodup_cons];refine⟨λf=>?_,ih e.2 λk g=>by have:=h _ (by simpa using g);simpa using this⟩;cases l with
  |nil=>cases f
  |cons c r=>
   have d:=h 0<|Sm;simp only[Yf,SI]at d;rcases X0.1 f with rfl|f
   .exact d C
   .have i:=(Re.1 e.2).1 a f;have j:=e.1 c<|Sm;exact d<|by rw[Pc _ _ i j]
theorem qw{t:LB}{ms:List<|LB}(g:t≠[])(a:ms.Perm<|split 44 t):VW t=if ms.all Zx=true/\ms.Nodup then some (split 44 t)else none:=by
 unfold VW;rw[Yd g];have d:(split 44 t).all Zx=true↔ms.all Zx=true:=by
  rw[Tt,Tt];exact⟨λh x c=>h x<|a.mem_iff.1 c,λh x c=>h x<|a.mem_iff.2 c⟩
 have f:=a.nodup_iff.symm;by_cases e:ms.all Zx=true/\ms.Nodup
 .rw[Ye e,Ye ⟨d.2 e.1,f.2 e.2⟩]
 .rw[Yd e,Yd λh=>e ⟨d.1 h.1,f.1 h.2⟩]
def Tn(w:Y)(r:Option<|List<|LB)(v:F)(ok:Bool):Prop:=match r with
 |some a=>ok=true/\Q6 w a v
 |none=>ok=false/\XX v
theorem Tn.mkNone{r:Option<|List<|LB}(a:r=none)(h:ok=false/\XX v):Tn w r v ok:=by subst a;exact h
theorem Tn.mkSome{r:Option<|List<|LB}{a:List<|LB}(c:r=some a)(h:ok=true/\Q6 w a v):Tn w r v ok:=by subst c;exact h
theorem kO(A:Nat->Addr)(m:Int)(hs:s.size<=70000)(hv:YD w A m):
 CP 158 #[.string s] w λe u=>∃v ok,e=.returned (.tuple #[v,.bool ok])/\U (Tn u (VW<|bl s) v ok)/\BW w u:=by
 have HM:=I hv.max;clear hv;by_cases h0:s.size=0
 .have o:s.toList.isEmpty=true:=DS X;have HQ:U<|VW _=some _:=I<|by unfold VW;rw[Ye<|Pm o]
  go_enter func158,ntmps158;go_wp2;go_ret2;exact⟨_,_,C,I<|Tn.mkSome HQ ⟨C,⟨none,0,0,[]⟩,C,C,[],Xm _ _ _ _,List.Pairwise.nil,λy=>Iff.rfl,Sm⟩,Ym _ _⟩
 .have o:s.toList.isEmpty=false:=Cj X;have Z:=OI o;have a0:=I<|strings_Split s ⟨#[44]⟩ m w X HM<|Yj 1;have hd:(Lib.splitB ⟨#[44]⟩ 0 _ s).map bl=split _ _:=(Lib.splitB_data _ 0 (Lib.countB s ⟨#[44]⟩) s).trans<|A9 _ _ (bl s)<|Yj _;have H:=Lib.splitB_all ⟨#[44]⟩ (Yj 1) 0 _ s C;go_enter func158,ntmps158;go_wp2_with fail;refine a0.m ?_;rintro e w1 ⟨rfl,p⟩;obtain⟨bs,a1⟩:∃bs,bs=Lib.splitB ⟨#[44]⟩ 0 (Lib.countB s ⟨#[44]⟩) s:=⟨_,C⟩;rw[<-a1]at hd H p;have a6:(split 44<|bl s).length<=s.size+1:=by have:=Qe 44<|bl s;rwa [Zb]at this
  have a7:bs.length=(split 44<|bl s).length:=by rw[<-hd,Yz]
  obtain⟨N,hN⟩:∃N,N=Lib.countB s ⟨#[44]⟩+1:=⟨_,C⟩;rw[<-hN]at H⊢;have b8:N<=70001:=X;have b9:1<=N:=X;obtain⟨ss,q⟩:∃ss,ss=bs.map bl:=⟨_,C⟩;have c:ss.length=N:=by rw[q,Yz,H]
  have a2:Below _ w _:=p▸Yc;have S:w1.heap[w.heap.size]?=some (.cells _ 9 _):=p▸YO;have a8:=(Xr.1 S).1;have J:bs.map _=ss.map _:=q▸DV bs;have hH:=holds_of_block S<|by rw[J,c];exact Wm<|by rw[Yz,c];exact Yj _
  have hS:=slices_Sort_string _ 0 N _ _ hH a8 X;rw[c]at hS;have HS:=I hS;have K:=I a2;have HH:=I S;have L:U<|ss=split 44 (bl s):=by rwa [q]
  have M:=I H;have a9:=I Z;clear hS hH S a2 p a1 hd H a6 a7 q J a0 Z o HM hN;go_wp2_with(go_at_call 191;refine HS.m ?_;rintro e z ⟨rfl,nn,os,f⟩;have a3:=I f;clear f);have f:=a3.o;clear a3;obtain⟨ms,r⟩:∃ms,ms=ss.mergeSort λx y=>decide<|x<=y:=⟨_,C⟩;have t:U _:=r▸List.mergeSort_perm _ _;have b0:U<|ms.Pairwise λa b=>Op.bytesLess b a=false:=r▸eo ss;have b1:ms.length=N:=by rw[t.length_eq,c]
  have B:z.ownsRow w.heap.size 9 1 (.slice (some ⟨w.heap.size,0,none⟩) N N) N<|ms.map encStr:=by
   have T:=ownsRow_sorted (n:=nn) (os:=os) (cap:=N) (t.length_eq) (Yj _) HH (c▸Yj _) (by unfold maxLen;omega)<|by simp[M.o]
   rw[c]at T;rw[f,<-r];exact T
  have O:U _:=f▸K.grown (grownBy_sorted _) K.size λj V=>by cases V;exact Yj _
  have P:U<|VW _=if ms.all _=true/\ms.Nodup then some _ else none:=I<|qw a9<|by rwa [<-L.o]
  have b2:U<|∀k (h:k<ms.length),ms[k].length<=70000:=I λk h=>by
   have d:=t.mem_iff.1<|List.getElem_mem h;rw[L]at d;have:=JM _ _ _ d;rw[Zb]at this;omega
  have a4:=I B;have c0:=I c;clear B f r HS HH K M c;go_wp2;go_loop [5,16] (λlv i=>∃(k:Nat)(last:BA),k<=N/\i=E k/\lv=.string last/\U (bl last=if k=0 then[]else ms.getD (k-1) [])/\U ((ms.take k).all Zx=true)/\U (∀j,j+1<k->ms[j]?≠ms[j+1]?)) (λ_ i=>N-(intOf i).toNat);case atStart=>exact⟨0,⟨#[]⟩,Yr _,C,C,I C,I C,I λj V=>X⟩
  case round=>
   obtain⟨k,last,hk,rfl,rfl,HL,HA,HD⟩:=hrel;by_cases c1:k<N
   .have g:k<ms.length:=X;have c2:(k:Int)<N:=X;obtain⟨x,hx⟩:∃x:BA,x=⟨ms[k].toArray⟩:=⟨_,C⟩;have G:U<|bl x=ms[k]:=I<|by rw[hx,U9]
    have d0:z.cell? _=some (.string x):=Zc a4 k _<|by rw[hx,Vs,List.getElem?_eq_getElem g];rfl
    have Q:x.size<=70000:=ZE G.o▸b2.o k g;clear hx;cases W:Zx (bl x)with
    |false=>
     have R:U<|VW _=none:=I<|by
      rw[P,Yd];rintro⟨h,_⟩;have:=Tt.1 h _<|List.getElem_mem g;rw[<-G,W]at this;cases this
     go_wp2_with(go_at_call 130;refine(Jm x _ Q).m ?_;rintro e u ⟨rfl,rfl⟩);go_ret2;exact⟨_,_,C,I<|Tn.mkNone R ⟨C,C⟩,O⟩
    |true=>
     by_cases o:x=last
     .subst o;have b3:(x.toList==x.toList)=true:=Sm;have a5:k≠0:=by
       intro e;subst e;have d:=HL.o;rw[Ye C]at d;rw[d]at W;exact absurd W Dc
      have R:U<|VW _=none:=I<|by
       rw[P,Yd];rintro⟨_,h⟩;have d:=HL.o;rw[Yd a5,G,Y0,List.getElem?_eq_getElem X,Qt]at d;have:=(List.pairwise_iff_getElem.1 h) (k-1) k X g X;exact this d.symm
      clear a5;go_wp2_with(go_at_call 130;refine(Jm x _ Q).m ?_;rintro e u ⟨rfl,rfl⟩);go_ret2;exact⟨_,_,C,I<|Tn.mkNone R ⟨C,C⟩,O⟩
     .have b3:(x.toList==last.toList)=false:=by
       rw[YB,ZA,ZA];intro e;exact o<|LS.ZbH e
      have b4:U<|(ms.take _).all _=true:=I<|by
       rw[List.take_succ_eq_append_getElem g,Iz,HA,<-G];simp[W]
      have b5:U<|∀j,j+1<k+1->ms[j]?≠ms[j+1]?:=I (λj V=>by
       by_cases e:j+1=k
       .subst e;rw[List.getElem?_eq_getElem g,List.getElem?_eq_getElem X,<-G];intro e2;injection e2 with e2;have d:=HL.o;rw[Yd X,Y0,Io,List.getElem?_eq_getElem X,Qt]at d;exact o<|LS.ZbH<|by rw[d,e2]
       .exact HD j X);have b6:U<|bl x=if k+1=0 then[]else ms.getD (k+1-1) []:=I<|by
       rw[Yd X,Io,Y0,List.getElem?_eq_getElem _,Qt,G]
      clear o;go_wp2_with(go_at_call 130;refine(Jm x _ Q).m ?_;rintro e u ⟨rfl,rfl⟩);go_round;case rel=>exact⟨k+1,x,X,by go_num,C,b6,b4,b5⟩
      case measure=>simp[intOf];omega
   .obtain rfl:k=N:=X;have R:U<|VW _=some _:=I<|by
     rw[P,Ye];refine⟨by have:=HA.o;rwa [Wm X]at this,ep b0 λj V=>HD j X⟩
    have D:(ms.map λl=>(⟨l.toArray⟩)).map bl=ms:=by
     rw[VD];conv=>rhs;rw[<-List.map_id ms]
     exact J1 λl _=>by simp[bl]
    have b7:U<|Q6 _ (split _ _)<|.slice (some _) k k:=I ⟨⟨some _,k,k,split _ _⟩,C,C,ms.map _,by
     have T:=TX a4;rw[DV,D,Yz,b1];exact T,by rwa [D],λy=>by rw[D,t.mem_iff,L],by rw[Yz];omega⟩;clear D;go_wp2;go_ret2;exact⟨_,.inr ⟨C,I<|Tn.mkSome R ⟨C,b7⟩,O⟩⟩
theorem Q6.below{a:List<|LB}(h:Q6 w a v)(c:BW w w'):Q6 w' a v:=by
 obtain⟨x,d,e,f⟩:=h;exact⟨x,d,e,f.below c⟩
theorem gG(s:BA)(b:Nat)(A:Nat->Addr)(m:Int)(u:Ground w0 A m b)(R:s.size<=maxLen):
 T8 117 Q6 XX w0 b s (A 8)<|groupAt<|bl s:=by
 intro p w L M hp;have f:=I u;have B:=I<|BH s p b w M (u.code L) u.ng hp R;have S:=I L;have c1:w.cell? _=some _:=M.cell 1;clear M L u R;go_enter func117,ntmps117;go_wp2_with fail;clear c1;refine B.m ?_;rintro e w1 ⟨v,err,rfl,i,j⟩;have k:=I j;have D:=I<|Uz S j f.b;clear j B;cases d:Vz (bl s) p with
 |error x=>
  obtain⟨fa,rfl⟩:=i.jn d;have l:U<|YF Q6 XX _ b s _ (groupAt _ p) _ _:=I<|i.km d (by unfold groupAt;rw[d]) C;obtain⟨_,_,rfl,_⟩:=i.err d;clear i d;go_wp2;go_ret2;exact⟨_,_,C,l,k⟩
 |ok x=>
  obtain⟨t,q⟩:=x;obtain⟨rfl,⟨tx,rfl,g⟩,O⟩:=i.ok d;have T:=(Jh d).1;simp only at O T g;have V:tx.size<=70000:=by rw[ZE g];omega
  have G:=I O;have h:U<|groupAt (bl s) p=match VW (bl tx)with
   |none=>.error (9,p)
   |some y=>.ok (y,q):=by unfold groupAt;rw[d,g];simp only;cases VW t<;>rfl
  clear i d O g;go_wp2_with fail;refine(kO A m V<|f.v.below D).m ?_;rintro e w2 ⟨v,ok,rfl,a,n⟩;have o:=I<|Qy k n;have W:=I<|Uz S o f.b;have H:=I<|G.below n;clear n k D G;cases c:VW (bl tx)with
  |none=>
   rw[c]at a;obtain⟨rfl,rfl⟩:=a.o;have P:U<|groupAt _ p=.error _:=I<|by rw[h,c]
   clear a c h;go_wp2_with fail;refine(Np _<|f.code W).m ?_;rintro e w4 ⟨v,rfl,Q,r⟩;have l:U<|YF Q6 XX _ b s _ _ _ v:=I<|YF.ku P ⟨C,Q,C,_,H.below r⟩;have Z:=I<|Qy o r;obtain⟨fa,rfl⟩:=ZF.shape Q;clear Q r;go_wp2;go_ret2;exact⟨_,_,C,l,Z⟩
  |some y=>
   rw[c]at a;obtain⟨rfl,J⟩:=a.o;have K:=I J;obtain⟨z,rfl,a0,a1⟩:=J;have P:U<|groupAt _ p=.ok _:=I<|by rw[h,c]
   have l:U<|YF _ XX _ b s (A 8) _ _ _:=I<|YF.mkOk P ⟨C,K,H⟩;clear a c h a0 a1 K;go_wp2;go_ret2;exact⟨_,_,C,l,o⟩
theorem lW(a:Ground w0 A m b)(c:s.size<=maxLen):T8 113 KV NZ w0 b s (A 8)<|Vw<|bl s:=
 λp w d e f=>kN s p b w e (a.code d) a.ng f c
theorem lX(a:Ground w0 A m b)(c:s.size<=maxLen):T8 119 IV IZ w0 b s (A 8)<|WM<|bl s:=
 λp w d e f=>gH s p b w e (a.code d) a.ng f c
theorem GB{x:Int×Nat}(h:Vw l p=.ok x):x.2<=l.length:=by
 unfold Vw at h;cases a:Z8 l p 4 with
 |error e=>rw[a]at h;cases h
 |ok y=>
  rw[a]at h;simp only at h;split at h
  .cases h
  .injection h with h;subst h;have:=LS.Zdd a;omega
theorem I8{x:(Nat×Nat)×Nat}(h:WM l p=.ok x):x.2<=l.length/\x.1.1<=13/\x.1.2<65536:=by
 unfold WM at h;cases c:Z8 l p 1 with
 |error e=>rw[c]at h;cases h
 |ok y=>
  rw[c]at h;simp only at h;split at h
  .cases h
  .rename_i g;cases a:Z8 l y.2 2 with
   |error e=>rw[a]at h;cases h
   |ok z=>
    rw[a]at h;injection h with h;subst h;have d:=LS.Zdd a;have f:=d.2.2.2;exact⟨by show z.2<=_;omega,by show y.1<=13;omega,f⟩
theorem GS{x:(Nd×Nat)×Nat}(h:pickAt l p=.ok x):x.2<=l.length:=by
 unfold pickAt at h;cases a:Vz l p with
 |error e=>rw[a]at h;cases h
 |ok y=>
  rw[a]at h;simp only at h;cases c:ZL y.1 with
  |none=>rw[c]at h;cases h
  |some z=>rw[c]at h;injection h with h;subst h;exact(Jh a).2
theorem H8{x:List (LB)×Nat}(h:groupAt l p=.ok x):x.2<=l.length:=by
 unfold groupAt at h;cases a:Vz l p with
 |error e=>rw[a]at h;cases h
 |ok y=>
  rw[a]at h;simp only at h;cases c:VW y.1 with
  |none=>rw[c]at h;cases h
  |some z=>rw[c]at h;injection h with h;subst h;exact(Jh a).2
def TQ(l:LB):X9 Yb:=match US l with
 |.error e=>.error e
 |.ok n=>match Yo (Vw l) 9 n.1 with
  |.error e=>.error e
  |.ok cs=>match Yo (pickAt l) cs.2 n.2.1 with
   |.error e=>.error e
   |.ok ps=>match Yo (groupAt l) ps.2 n.2.2.1 with
    |.error e=>.error e
    |.ok gs=>match Yo (WM l) gs.2 n.2.2.2 with
     |.error e=>.error e
     |.ok is=>.ok (⟨cs.1,ps.1,gs.1,is.1⟩,is.2)
theorem DN(l:LB):Wt l=match TQ l with
 |.error e=>.error e
 |.ok x=>if l.length<x.2+4 then .error (9,l.length)else if x.2+4<l.length then .error (9,x.2+4)else
  if Yp (l.drop x.2)≠XL (l.take x.2)then .error (10,0)else .ok x.1:=by
 unfold Wt TQ;cases US l with
 |error e=>rfl
 |ok n=>
  simp only;cases Yo (Vw l) 9 n.1 with
  |error e=>rfl
  |ok cs=>
   simp only;cases Yo (pickAt l) cs.2 n.2.1 with
   |error e=>rfl
   |ok ps=>
    simp only;cases Yo (groupAt l) ps.2 n.2.2.1 with
    |error e=>rfl
    |ok gs=>
     simp only;cases Yo (WM l) gs.2 n.2.2.2 with
     |error e=>rfl
     |ok is=>rfl
structure X6 (w:Y)(c:Yb)(cv pv gv iv:F):Prop where
 cs:Q5 w c.jq cv
 ps:Pb w c.jw pv
 gs:Q7 w c.jv gv
 is:UN w c.jz iv
def Xy(w:Y)(c:Yb)(v:F):Prop:=∃cv pv gv iv,v=.agg #[cv,pv,gv,iv]/\X6 w c cv pv gv iv
def X5(v:F):Prop:=∃(a0 a1 a2 a3:Option Addr)(n0 n1 n2 n3 c0 c1 c2 c3:Nat),v=.agg #[.slice a0 n0 c0,.slice a1 n1 c1,.slice a2 n2 c2,.slice a3 n3 c3]
theorem Q5.ju{l:List Int}(h:Q5 w l v){t:TypeId}(a:Ya w b c t)(d:w.grownBy w'<|some b)(e:t≠3):Q5 w' l v:=Mx h a d e
theorem UN.ju{l:List<|Nat×Nat}(h:UN w l v){t:TypeId}(a:Ya w b c t)(d:w.grownBy w'<|some b)(e:t≠137):UN w' l v:=Mx h a d e
theorem Pb.ju{l:List<|Nd×Nat}(h:Pb w l v){t:TypeId}(a:Ya w b c t)(d:w.grownBy w'<|some b)(f:t≠231)(e:t≠374):Pb w' l v:=by
 obtain⟨xs,g,i,j⟩:=h;exact⟨xs,Mx g a d f,i,λx k=>(j x k).ju a d e⟩
theorem Q7.ju{l:List<|List<|LB}(h:Q7 w l v){t:TypeId}(a:Ya w b c t)(d:w.grownBy w'<|some b)(f:t≠57)(e:t≠9):Q7 w' l v:=by
 obtain⟨xs,g,i,j⟩:=h;exact⟨xs,Mx g a d f,i,λx k=>(j x k).ju a d e⟩
theorem Q5.shape{l:List Int}(h:Q5 w l v):∃a c,v=.slice a l.length c:=Zd h
theorem UN.shape{l:List<|Nat×Nat}(h:UN w l v):∃a c,v=.slice a l.length c:=Zd h
theorem Pb.shape{l:List<|Nd×Nat}(h:Pb w l v):∃a c,v=.slice a l.length c:=by
 obtain⟨xs,d,f,_⟩:=h;obtain⟨a,c,e⟩:=Zd d;exact⟨a,c,by rw[e,<-f,Yz]⟩
theorem Q7.shape{l:List<|List<|LB}(h:Q7 w l v):∃a c,v=.slice a l.length c:=by
 obtain⟨xs,d,f,_⟩:=h;obtain⟨a,c,e⟩:=Zd d;exact⟨a,c,by rw[e,<-f,Yz]⟩
theorem Xy.ju{l:Yb}(h:Xy w l v){t:TypeId}(a:Ya w b c t)(d:w.grownBy w'<|some b)(f:t≠3)(g:t≠231)(i:t≠374)(j:t≠57)(k:t≠9)(m:t≠137):Xy w' l v:=by
 obtain⟨cv,pv,gv,iv,e,h⟩:=h;exact⟨cv,pv,gv,iv,e,h.cs.ju a d f,h.ps.ju a d g i,h.gs.ju a d j k,h.is.ju a d m⟩
theorem Ya.setk{a:Nat}{t:TypeId}(h:Ya w a c t)(i:Nat)(v:F):Ya (w.setCell ⟨a,i,none⟩ v) a (c.set i v) t:=by
 unfold Ya at h⊢;simp only[World.setCell,V4,h,VE,Wr];show some (Obj.cells (c.toArray.setIfInBounds i v) t (0,0))=_;rw[Of]
def Wj(w:Y)(a:Nat)(x y z u:F):Y:=(((w.setCell ⟨a,0,none⟩ x).setCell ⟨a,1,none⟩ y).setCell ⟨a,2,none⟩ z).setCell ⟨a,3,none⟩ u
theorem LP{a:Nat}{p0 p1 p2 p3 x y:F}{t:TypeId}(h:Ya w a [p0,p1,p2,p3] t):Ya (Wj w a x y z u) a [x,y,z,u] t:=
 (((h.setk 0 x).setk 1 y).setk 2 z).setk 3 u
theorem NR{P:Program}{R:Ending->Y->Prop}{a:Act}{v:Y}{p q d e x y r:F}{t:TypeId}(c:∀W:Y,W.cell? ⟨b,0,none⟩=some x->W.cell? ⟨b,1,none⟩=some y->W.cell? ⟨b,2,none⟩=some z->W.cell? ⟨b,3,none⟩=some u->(results fn a.tmps).run P W=.ok r W)(hd:a.defers=[])(f:Ya v b [p,q,d,e] t)(g:R (.returned r)<|Wj v b x y z u):bodyPost P fn R .ret a<|Wj v b x y z u:=by
 have s:=LP f (x:=x) (y:=y) (z:=z) (u:=u);exact YQ (c _ (s.cell 0) (s.cell 1) (s.cell 2)<|s.cell 3) hd g
theorem MC(w:Y)(a:Nat)(x y z u:F):w.grownBy (Wj w a x y z u)<|some a:=Zn (Zn (Zn (Zn (Z2 w<|some a) (.inl C) _) (.inl C) _) (.inl C) _) (.inl C) _
theorem hI{a:Nat}(h:w0.grownBy w<|some b)(c:w0.heap.size<=a){x y:F}:w0.grownBy (Wj w a x y z u)<|some b:=
 Zn (Zn (Zn (Zn h (.inr c) _) (.inr c) _) (.inr c) _) (.inr c) _
def P9(l:LB)(k j:Nat):F:=E ((if j<k then Yp (Y6 l (1+2*j) 2)else 0:Nat):Int)
def L4(l:LB)(k:Nat):List F:=[P9 l k 0,P9 l k 1,P9 l k 2,P9 l k 3]
theorem Ny{α:Type}{one:Nat->X9 α}(d:∀p x,one p=.ok x->x.2<=n)(f:p<=n):∀{k:Nat}{xs:List α}{q:Nat},Yo one p k=.ok (xs,q)->q<=n
 |0,xs,q,h=>by injection h with h;injection h with _ h2;omega
 |k+1,xs,q,h=>by
  unfold Yo at h;cases c:Yo one p k with
  |error e=>rw[c]at h;cases h
  |ok x=>
   rw[c]at h;simp only at h;cases a:one x.2 with
   |error e=>rw[a]at h;cases h
   |ok y=>
    rw[a]at h;injection h with h;injection h with _ h2;have:=d _ _ a;omega
theorem rO(h:l.head?=some 103){k:Nat}(d:k<4)(c:Z8 l (1+2*k) 2=.error x):US l=.error x:=by
 unfold Z8 at c;cases a:VJ l (1+2*k) 2 with
 |ok y=>rw[a]at c;cases c
 |error e=>
  rw[a]at c;cases c;unfold VJ at a;split at a
  .cases a;unfold US;rw[Yd<|by rw[h];simp,Ye X]
  .cases a
theorem rM(h:l.head?=some 103)(a:9<=l.length):US l=.ok (Yp<|Y6 l 1 2,Yp<|Y6 l 3 2,Yp<|Y6 l 5 2,Yp<|Y6 l 7 2):=by
 unfold US;rw[Yd<|by rw[h];simp,Yd X]
theorem vx{x:Unit×Nat}(h:RZ l=.ok x):l.head?=some 103/\x.2=1:=by
 unfold RZ at h;by_cases e:l.head?=some 103
 .rw[Yd<|by rw[e];simp]at h;cases h;exact⟨e,C⟩
 .rw[Ye e]at h;cases h
theorem vw(h:RZ l=.error x):TQ l=.error x:=by
 unfold RZ at h;by_cases e:l.head?=some 103
 .rw[Yd<|by rw[e];simp]at h;cases h
 .rw[Ye e]at h;cases h;unfold TQ US;rw[Ye e]
theorem X5.zero:X5<|.agg #[S0,S0,S0,S0]:=⟨none,none,none,none,0,0,0,0,0,0,0,0,C⟩
theorem X5.mk{a0 a1 a2 a3:Option Addr}{n0 n1 n2 n3 c0 c1 c2 c3:Nat}:X5<|.agg #[.slice a0 n0 c0,.slice a1 n1 c1,.slice a2 n2 c2,.slice a3 n3 c3]:=⟨_,_,_,_,_,_,_,_,_,_,_,_,C⟩
theorem Ya.four{a:Nat}{x y:F}{t:TypeId}(h:Ya w a [x,y,z,u] t):(w.frozen? ⟨a,0,none⟩=false/\w.frozen? ⟨a,1,none⟩=false/\w.frozen? ⟨a,2,none⟩=false/\w.frozen? ⟨a,3,none⟩=false)/\w.cell? ⟨a,0,none⟩=some x/\w.cell? ⟨a,1,none⟩=some y/\w.cell? ⟨a,2,none⟩=some z/\w.cell? ⟨a,3,none⟩=some u:=⟨⟨h.frozen 0,h.frozen 1,h.frozen 2,h.frozen 3⟩,h.cell 0,h.cell 1,h.cell 2,h.cell 3⟩
structure CM (w v:Y)(b:Nat)(cs:List F):Prop where
 x:Ya v w.heap.size [S0,S0,S0,S0] 80
 y:Ya v (w.heap.size+1) cs 80
 g:w.grownBy v<|some b
 lt:b<w.heap.size
theorem CM.call{v v':Y}(h:CM w v b cs)(a:v.grownBy v'<|some b):CM w v' b cs:=
 have:=h.lt;⟨h.x.grown a<|by intro e;injection e with e;omega,h.y.grown a<|by intro e;injection e with e;omega,Zi h.g a,h.lt⟩
theorem CM.set{v:Y}(h:CM w v b cs)(i:Nat)(u:F):CM w (v.setCell ⟨w.heap.size+1,i,none⟩ u) b<|cs.set i u:=
 ⟨h.x.other (by show w.heap.size≠w.heap.size+1;omega) u,h.y.setk i u,Zn h.g (.inr<|by show w.heap.size<=w.heap.size+1;omega) u,h.lt⟩
theorem CM.self{v:Y}(_:CM w v b cs)(i:Nat)(u:F):v.grownBy (v.setCell ⟨w.heap.size+1,i,none⟩ u)<|some<|w.heap.size+1:=Zn (Z2 _ _) (.inl C) _
theorem CM.bad{α:Type}{V:World->α->F->Prop}{Y:F->Prop}{w v:World}{c0 c1 c2 c3 val err:F}{r:X9 α}(h:CM w v b [c0,c1,c2,c3])(a:YF V Y v b s ca r val err)(c:r=.error x)(d:TQ (bl s)=.error x)(i:Nat)(e:X5<|.agg #[c0,c1,c2,c3]):
 YF Xy X5 (v.setCell ⟨w.heap.size+1,i,none⟩ S0) b s ca (TQ<|bl s) (.agg #[c0,c1,c2,c3]) err:=
 YF.kept (a.km c d e) (h.self i _) h.y N N λ_ k=>k.ju h.y (h.self i _) N N N N N N
theorem Nn{v:Y}{q:X9 Yb}{p0 p1 p2 p3 err:F}{a:Act}
 (d:∀W:Y,W.cell? ⟨w.heap.size,0,none⟩=some p0->W.cell? ⟨w.heap.size,1,none⟩=some p1->W.cell? ⟨w.heap.size,2,none⟩=some p2->W.cell? ⟨w.heap.size,3,none⟩=some p3->(results fn a.tmps).run prog W=.ok (.tuple #[.agg #[p0,p1,p2,p3],err]) W)
 (hd:a.defers=[])(h:CM w v b cs)(f:YF Xy X5 v b s ca q (.agg #[p0,p1,p2,p3]) err):
 bodyPost prog fn (λe c=>∃v err,e=.returned (.tuple #[v,err])/\U (YF Xy X5 c b s ca q v err)/\w.grownBy c (some b)) .ret a<|Wj v w.heap.size p0 p1 p2 p3:=by
 obtain⟨_,s0,s1,s2,s3⟩:=(LP h.x (x:=p0) (y:=p1) (z:=p2) (u:=p3)).four;have e:=MC v w.heap.size p0 p1 p2 p3;exact YQ (d _ s0 s1 s2 s3) hd ⟨_,_,C,f.kept e h.x N N λ_ k=>k.ju h.x e N N N N N N,hI h.g<|Yj _⟩
theorem kM(s:BA)(b:Nat)(A:Nat->Addr)(m:Int)(w0 w:Y)(hG:Ground w0 A m b)(hs:s.size<=maxLen)(h0:BW w0 w)(hr:YH w b s 0):
 CP 79 #[Vp b] w λe w'=>∃v err,e=.returned (.tuple #[v,err])/\U (YF Xy X5 w' b s (A 8) (TQ<|bl s) v err)/\w.grownBy w' (some b):=by
 have Z:=hr.lt;have D:=I hG;have a4:=I hs;have H0:=I h0;have c4:=I hr;go_enter func79,ntmps79;go_wp2_with fail;refine Zv λW hW=>?_;have b5:Below _ w W:=hW▸Yc.alloc (Sm) _;have HM:U<|CM w W b _:=I ⟨hW▸(Yc.block _<|Sm).trans YO,by
  rw[hW];have:=Go.Deep.blk_alloc_new (w.alloc<|.cells #[S0,S0,S0,S0] 80)<|.cells #[S0,S0,S0,S0] 80;rwa [Go.Deep.nblk_alloc]at this,ZB b5,Z⟩;have c5:=I<|c4.below b5;refine(kL s b W c5 (D.code<|Uz H0 HM.g D.b) D.ng a4).m ?_;rintro e R ⟨err,rfl,c,c6⟩;have H1:=I<|HM.call c6;cases ht:RZ (bl s)with
 |error x=>
  obtain⟨fa,rfl⟩:=c.jn ht;have V:=I<|YF.km (V':=Xy) c ht (vw ht) X5.zero;have f:=H1.x.four;have d:=H1.y.four;go_wp2;exact Nn (λW s0 s1 s2 s3=>by simp[results,results79,go_sem,s0,s1,s2,s3]) C H1 V
 |ok x=>
  obtain⟨b2,c7⟩:=vx ht;obtain⟨rfl,_,b6⟩:=c.ok ht;have c8:U<|YH R b s 1:=by rw[c7]at b6;exact b6
  have b7:=I b2;have c9:1<=s.size:=by
   rcases Sf 0 s.size with h|h
   .exact h
   .rw[Qq (l:=bl s)<|by rw[Zb];omega]at b2;cases b2
  have d8:=H1.y.lt;go_wp2;go_loopw [17] (λi wr=>∃k:Nat,k<=4/\i=E k/\1+2*k<=s.size/\U (YH wr b s<|1+2*k)/\U (Ya wr R.heap.size (L4 (bl s) k) 271)/\U (CM w wr b [S0,S0,S0,S0]))
   (λi _=>4-(intOf i).toNat);case atStart=>
   have hB:∀o,Below _ R _:=λo=>(Ym _ _).alloc (Yj _) o;exact⟨0,Yr _,C,c9,I<|c8.below<|hB _,I YO,I<|H1.call<|ZB<|hB _⟩
  case round=>
   obtain⟨k,hk,rfl,b3,a6,a7,Hr⟩:=hrel;by_cases d0:k<4
   .have d9:(k:Int)<4:=X;go_wp2_with fail;refine(LL s _ 2 b _ _ a6 (D.code<|Uz H0 Hr.g D.b) b3 a4 X).m ?_;rintro e z ⟨v,err,rfl,c,j⟩;have H2:=I<|Hr.call j;have a8:=I<|a7.grown j<|by intro e;injection e with e;have:=Z;omega
    clear j a6 a7 Hr;cases T:Z8 (bl s) (1+2*k) 2 with
    |error x=>
     obtain⟨fa,rfl⟩:=c.jn T;obtain⟨_,_,rfl,_⟩:=c.err T;have V:=I<|YF.km (V':=Xy) (r':=TQ _) c T (by unfold TQ;rw[rO b7 d0 T]) X5.zero;have f:=H2.x.four;have d:=H2.y.four;clear c T;go_wp2;exact Nn (λW s0 s1 s2 s3=>by simp[results,results79,go_sem,s0,s1,s2,s3]) C H2 V
    |ok x=>
     obtain⟨n,q⟩:=x;obtain⟨rfl,rfl,H⟩:=c.ok T;obtain⟨a9,b0,b1,b8⟩:=LS.Zdd T;simp only at a9 b0 b1 b8 H;have b9:U<|YH z b s<|1+2*(k+1):=by rw[b1]at H;exact H
     have c3:1+2*(k+1)<=s.size:=by rw[Zb]at a9;omega
     have d1:=I b0;have k0:=a8.cell k;have kf:=a8.frozen k;have d2:U<|Ya (z.setCell ⟨R.heap.size,k,none⟩<|E n) R.heap.size (L4 (bl s)<|k+1) 271:=by
      have:=a8.setk k<|E n;rw[d1]at this⊢;rcases(X:k=0\/k=1\/k=2\/k=3)with rfl|rfl|rfl|rfl<;>exact this
     have d3:=I<|b9.other (p:=⟨R.heap.size,k,none⟩) (by show b≠R.heap.size;omega)<|E n;have d4:U<|CM w (z.setCell ⟨R.heap.size,k,none⟩<|E n) b _:=I ⟨H2.x.other (by show w.heap.size≠R.heap.size;omega) _,H2.y.other (by show w.heap.size+1≠R.heap.size;omega) _,Zn H2.g (.inr<|by show w.heap.size<=R.heap.size;omega) _,Z⟩;have d5:∃u,z.cell? ⟨R.heap.size,k,none⟩=some u:=by
      rw[k0];rcases(X:k=0\/k=1\/k=2\/k=3)with rfl|rfl|rfl|rfl<;>exact⟨_,C⟩
     obtain⟨u,hu⟩:=d5;clear c T H a9 b0 b1 b8 k0 b9 H2 a8;go_wp2;go_roundw;case rel=>exact⟨k+1,X,by go_num,c3,d3,d2,d4⟩
     case measure=>simp[intOf];omega
   .obtain rfl:k=4:=X;have b4:U<|Ya _ _ [.int _<|Yp<|Y6 _ 1 2,.int _<|Yp<|Y6 _ 3 2,.int _<|Yp<|Y6 _ 5 2,.int _<|Yp<|Y6 _ 7 2] _:=a7;have T:∀i,Yp (Y6 (bl s) i 2)<65536:=λi=>PS (n:=2)<|by unfold Y6;rw[Xw];omega
    have e4:=T 1;have a9:=T 3;have b0:=T 5;have b1:=T 7;have B:U<|TQ _=match Yo (Vw _) 9 (Yp _)with
     |.error e=>.error e
     |.ok _=>match Yo (pickAt _) _<|Yp _ with
      |.error e=>.error e
      |.ok _=>match Yo (groupAt _) _<|Yp _ with
       |.error e=>.error e
       |.ok _=>match Yo (WM _) _<|Yp _ with
        |.error e=>.error e
        |.ok _=>.ok _:=I<|by unfold TQ;rw[rM b7<|by rw[Zb];omega]
    generalize Yp (Y6 (bl s) 1 2)=N0 at*;generalize Yp (Y6 (bl s) 3 2)=N1 at*;generalize Yp (Y6 (bl s) 5 2)=N2 at*;generalize Yp (Y6 (bl s) 7 2)=N3 at*;clear a7 T;have c0:U<|YH _ b s 9:=a6;clear a6;have kk0:=b4.cell;go_wp2_with fail;refine(mB s 9 b (Uz H0 Hr.g D.b) D.b c0 b3 X (lW D a4) λp x h _=>by have:=GB h;rwa [Zb]at this).m ?_;rintro e z ⟨v,err,rfl,c,j⟩;have a:=I<|Hr.call j;have O:=I<|b4.grown j<|by intro e;injection e with e;have:=Z;omega
    clear j kk0 c0 b4 Hr;cases r:Yo (Vw<|bl s) 9 N0 with
    |error x=>
     obtain⟨fa,rfl⟩:=c.jn r;obtain⟨_,_,rfl,_⟩:=c.err r;have V:=I<|a.bad c r (by rw[B,r]) 0 X5.mk;have K:=I<|a.set 0 S0;have f:=a.x.four;have d:=a.y.four;clear c r B;go_wp2;exact Nn (λW s0 s1 s2 s3=>by simp[results,results79,go_sem,s0,s1,s2,s3]) C K V
    |ok x=>
     obtain⟨l0,q0⟩:=x;obtain⟨rfl,S,H⟩:=c.ok r;obtain⟨a0,e0,rfl⟩:=Q5.shape S;have c1:=Ny (λp x h=>by have:=GB h;rwa [Zb]at this) b3 r;replace B:U<|TQ (bl s)=match Yo (pickAt<|bl s) q0 N1 with
      |.error e=>.error e
      |.ok y1=>match Yo (groupAt<|bl s) y1.2 N2 with
       |.error e=>.error e
       |.ok z2=>match Yo (WM<|bl s) z2.2 N3 with
        |.error e=>.error e
        |.ok u3=>.ok (⟨l0,y1.1,z2.1,u3.1⟩,u3.2):=I<|by rw[B,r]
     have L:=I S;have M:=I H;simp only at L M;have G:=a.self 0<|.slice a0 l0.length e0;have J:=I<|L.ju a.y G N;have t:=I<|M.other (p:=⟨w.heap.size+1,0,none⟩) (by show b≠w.heap.size+1;omega)<|.slice a0 l0.length e0;have K:=I<|a.set 0<|.slice a0 l0.length e0;have P:=I<|O.other (p:=⟨w.heap.size+1,0,none⟩) (by show R.heap.size≠w.heap.size+1;omega)<|.slice a0 l0.length e0;have d:=a.y.four;have kk:=O.cell 1;simp only[Yf]at kk;clear c r S H G L M;go_wp2_with fail;refine Zv λu hu=>?_;rw[<-hu]at t K P J;clear hu a O d kk;refine(oS s b u (Uz H0 K.g D.b) D.b t c1 X (gK s b A m D a4) λp x h _=>by have:=GS h;rwa [Zb]at this).m ?_;rintro e w3 ⟨v,err,rfl,c,j⟩;have a:=I<|K.call j;have O:=I<|P.grown j<|by intro e;injection e with e;have:=Z;omega
     replace J:=I<|J.ju t.o j N;clear j t P K;cases r:Yo (pickAt<|bl s) q0 N1 with
     |error x=>
      obtain⟨fa,rfl⟩:=c.jn r;obtain⟨_,_,rfl,_⟩:=c.err r;have V:=I<|a.bad c r (by rw[B,r]) 1 X5.mk;have K:=I<|a.set 1 S0;have f:=a.x.four;have d:=a.y.four;clear c r B;go_wp2;exact Nn (λW s0 s1 s2 s3=>by simp[results,results79,go_sem,s0,s1,s2,s3]) C K V
     |ok x=>
      obtain⟨l1,q1⟩:=x;obtain⟨rfl,S,H⟩:=c.ok r;obtain⟨a1,e1,rfl⟩:=Pb.shape S;have c2:=Ny (λp x h=>by have:=GS h;rwa [Zb]at this) c1 r;replace B:U<|TQ (bl s)=match Yo (groupAt<|bl s) q1 N2 with
       |.error e=>.error e
       |.ok z2=>match Yo (WM<|bl s) z2.2 N3 with
        |.error e=>.error e
        |.ok u3=>.ok (⟨l0,l1,z2.1,u3.1⟩,u3.2):=I<|by rw[B,r]
      have L:=I S;have M:=I H;simp only at L M;have G:=a.self 1<|.slice a1 l1.length e1;have J:=I<|J.ju a.y G N;have Q:=I<|L.ju a.y G N N;have t:=I<|M.other (p:=⟨w.heap.size+1,1,none⟩) (by show b≠w.heap.size+1;omega)<|.slice a1 l1.length e1;have K:=I<|a.set 1<|.slice a1 l1.length e1;have P:=I<|O.other (p:=⟨w.heap.size+1,1,none⟩) (by show R.heap.size≠w.heap.size+1;omega)<|.slice a1 l1.length e1;have d:=a.y.four;have kk:=O.cell 2;simp only[Yf]at kk;clear c r S H G L M;go_wp2_with fail;refine Zv λu hu=>?_;rw[<-hu]at t K P J Q;clear hu a O d kk;refine(my s b u (Uz H0 K.g D.b) D.b t c2 X (gG s b A m D a4) λp x h _=>by have:=H8 h;rwa [Zb]at this).m ?_;rintro e w4 ⟨v,err,rfl,c,j⟩;have a:=I<|K.call j;have O:=I<|P.grown j<|by intro e;injection e with e;have:=Z;omega
      replace J:=I<|J.ju t.o j N;replace Q:=I<|Q.ju t.o j N N;clear j t P K;cases r:Yo (groupAt<|bl s) q1 N2 with
      |error x=>
       obtain⟨fa,rfl⟩:=c.jn r;obtain⟨_,_,rfl,_⟩:=c.err r;have V:=I<|a.bad c r (by rw[B,r]) 2 X5.mk;have K:=I<|a.set 2 S0;have f:=a.x.four;have d:=a.y.four;clear c r B;go_wp2;exact Nn (λW s0 s1 s2 s3=>by simp[results,results79,go_sem,s0,s1,s2,s3]) C K V
      |ok x=>
       obtain⟨l2,q2⟩:=x;obtain⟨rfl,S,H⟩:=c.ok r;obtain⟨a2,e2,rfl⟩:=Q7.shape S;have d6:=Ny (λp x h=>by have:=H8 h;rwa [Zb]at this) c2 r;replace B:U<|TQ (bl s)=match Yo (WM<|bl s) q2 N3 with
        |.error e=>.error e
        |.ok u3=>.ok (⟨l0,l1,l2,u3.1⟩,u3.2):=I<|by rw[B,r]
       have L:=I S;have M:=I H;simp only at L M;have G:=a.self 2<|.slice a2 l2.length e2;have J:=I<|J.ju a.y G N;have Q:=I<|Q.ju a.y G N N;have a5:=I<|L.ju a.y G N N;have t:=I<|M.other (p:=⟨w.heap.size+1,2,none⟩) (by show b≠w.heap.size+1;omega)<|.slice a2 l2.length e2;have K:=I<|a.set 2<|.slice a2 l2.length e2;have P:=I<|O.other (p:=⟨w.heap.size+1,2,none⟩) (by show R.heap.size≠w.heap.size+1;omega)<|.slice a2 l2.length e2;have d:=a.y.four;have kk:=O.cell;clear c r S H G L M;go_wp2_with fail;refine Zv λu hu=>?_;rw[<-hu]at t K P J Q a5;clear hu a O d kk;refine(mz s b u (Uz H0 K.g D.b) D.b t d6 X (lX D a4) λp x h _=>by have:=(I8 h).1;rwa [Zb]at this).m ?_;rintro e w5 ⟨v,err,rfl,c,j⟩;have a:=I<|K.call j;have O:=I<|P.grown j<|by intro e;injection e with e;have:=Z;omega
       replace J:=I<|J.ju t.o j N;replace Q:=I<|Q.ju t.o j N N;replace a5:=I<|a5.ju t.o j N N;clear j t P K;cases r:Yo (WM<|bl s) q2 N3 with
       |error x=>
        obtain⟨fa,rfl⟩:=c.jn r;obtain⟨_,_,rfl,_⟩:=c.err r;have V:=I<|a.bad c r (by rw[B,r]) 3 X5.mk;have K:=I<|a.set 3 S0;have f:=a.x.four;have d:=a.y.four;clear c r B;go_wp2;exact Nn (λW s0 s1 s2 s3=>by simp[results,results79,go_sem,s0,s1,s2,s3]) C K V
       |ok x=>
        obtain⟨l3,q3⟩:=x;obtain⟨rfl,S,H⟩:=c.ok r;obtain⟨a3,e3,rfl⟩:=UN.shape S;replace B:U<|TQ (bl s)=.ok (⟨l0,l1,l2,l3⟩,q3):=I<|by rw[B,r]
        have L:=I S;have M:=I H;simp only at L M;have G:=a.self 3<|.slice a3 l3.length e3;have J:=I<|J.ju a.y G N;have Q:=I<|Q.ju a.y G N N;have a5:=I<|a5.ju a.y G N N;have d7:=I<|L.ju a.y G N;have t:=I<|M.other (p:=⟨w.heap.size+1,3,none⟩) (by show b≠w.heap.size+1;omega)<|.slice a3 l3.length e3;have K:=I<|a.set 3<|.slice a3 l3.length e3;have f:=a.x.four;have d:=a.y.four;have V:U<|YF Xy X5 _ b s (A 8) _ _ _:=I<|YF.mkOk B ⟨C,⟨_,_,_,_,C,J,Q,a5,d7⟩,t⟩;clear c r S H G L M B;go_wp2;exact Nn (λW s0 s1 s2 s3=>by simp[results,results79,go_sem,s0,s1,s2,s3]) C K V
