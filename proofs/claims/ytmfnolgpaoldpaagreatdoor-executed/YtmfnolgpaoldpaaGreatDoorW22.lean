/- Parts. -/
import Derived.Test.YtmfnolgpaoldpaaGreatDoorW17
import Derived.Test.YtmfnolgpaoldpaaGreatDoorWX
import Derived.Test.YtmfnolgpaoldpaaGreatDoorW10
set_option linter.all false
set_option maxRecDepth 100000
set_option maxHeartbeats 16000000
namespace Go.Proofs.YtmfnolgpaoldpaaGreatDoor
open Go.RowKit LS Go.Proofs.Tryz
variable {nm:BA}{l:LB}{bs xs:List Value}{B b lc ln x y:Nat}{a:Nd}{la:Option Addr}{p q t:Tr}{v:Value}{w w':World}
section
theorem EF{T e:TypeId}{p:Value}(h:Lib.BuilderAtF T e B b p bs w)(a:BW w w'):Lib.BuilderAtF T e B b p bs w':=by
 obtain⟨i,v,c,⟨j,k⟩,l⟩:=h;refine⟨i,v,(a.block b (Xr.1 c).1).trans c,⟨j,?_⟩,l⟩;rcases k with d|⟨g,cap,cur,fz,d,m,f,n⟩
 .simp_all
 .exact .inr ⟨g,cap,cur,fz,d,m,(a.block g (Xr.1 f).1).trans f,n⟩
theorem wO{T e:TypeId}(h:Lib.IsBuilderF T e B b bs w)(a:BW w w'):Lib.IsBuilderF T e B b bs w':=by
 rcases h with h|h
 .exact .inl<|EF h a
 .exact .inr<|EF h a
theorem kC{e:TypeId}{b:Option Nat}(h:BW w w'):Lib.OthersKept e b w w':=λk _ a _ _=>(h.block k (Xr.1 a).1).trans a
structure WB (w:World)(B b:Nat)(l:LB):Prop where
 bd:Lib.IsBuilderF 217 5 B b (Lib.byteCells l) w
 le:B<=w.heap.size
structure WK (B b:Nat)(w w':World):Prop where
 low:Below B w w'
 kept:Lib.OthersKept 5 (some b) w w'
theorem WK.refl(B b:Nat)(w:World):WK B b w w:=⟨Ym _ _,Lib.OthersKept.refl _ _ _⟩
theorem WK.trans{a z c:World}(h:WK B b a z)(d:WK B b z c):WK B b a c:=⟨h.low.trans d.low,h.kept.trans d.kept⟩
theorem WK.below(h:BW w w')(a:B<=w.heap.size):WK B b w w':=⟨h.mono a,kC h⟩
theorem WB.below(h:WB w B b l)(a:BW w w'):WB w' B b l:=⟨wO h.bd a,Xb h.le a.size⟩
theorem WB.ne(h:WB w B b l):b<w.heap.size/\∃c,w.heap[b]?=some (.cells c 217 (0,0)):=by
 rcases h.bd with h|h
 .obtain⟨_,v,a,_⟩:=h;exact⟨(Xr.1 a).1,_,a⟩
 .obtain⟨_,v,a,_⟩:=h;exact⟨(Xr.1 a).1,_,a⟩
theorem WK.block(d:WB w B b l)(h:WK B b w w'){a:Nat}{c:Array Value}{t:TypeId}{fr:Nat×Nat}(f:w.heap[a]?=some (.cells c t fr))(g:t≠217)(i:t≠5):w'.heap[a]?=some (.cells c t fr):=by
 refine h.kept a _ f ?_ ?_
 .intro e;injection e with e;subst e;obtain⟨_,c',j⟩:=d.ne;simp_all
 simp_all
theorem WK.bat(d:WB w B b l)(h:WK B b w w'){a:Nat}{c:List Value}{t:TypeId}(e:Ya w a c t)(f:t≠217)(g:t≠5):Ya w' a c t:=WK.block d h e f g
theorem WK.own(d:WB w B b l)(h:WK B b w w'){base:Nat}{e:TypeId}{size:Nat}{n:Nat}(a:w.ownsRow base e size v n xs)(f:e≠217)(i:e≠5):w'.ownsRow base e size v n xs:=by
 refine⟨a.1,?_⟩;rcases a.2 with c|⟨g,cap,cur,c,j,k,m⟩
 .simp_all
 .exact .inr ⟨g,cap,cur,c,j,WK.block d h k f i,m⟩
theorem Zo.wrote(d:WB w B b l)(h:WK B b w w')(e:Zo w t v):Zo w' t v:=
 Zo.mono (λ_ _ ⟨bs,a,c⟩=>⟨bs,WK.own d h a N N,c⟩) (λ_ _ ⟨bs,a,c⟩=>⟨bs,WK.own d h a N N,c⟩) t v e
theorem Z0.wrote(a:WB w B b l)(h:WK B b w w'){cs:List<|LB×LB×Bool}(c:Z0 w v cs):Z0 w' v cs:=by
 obtain⟨bs,d,e⟩:=c;exact⟨bs,WK.own a h d N N,e⟩
theorem Ue.wrote(a:WB w B b l)(h:WK B b w w'){cs:List<|LB}(c:Ue w v cs):Ue w' v cs:=by
 obtain⟨bs,d,e⟩:=c;exact⟨bs,WK.own a h d N N,e⟩
theorem ER(l:LB)(s:BA):Lib.byteCells l++Lib.strCells s=Lib.byteCells (l++bl s):=by
 unfold Lib.byteCells Lib.strCells bl;simp
def big:Nat:=1000000
theorem SX(h:WB w B b l)(s:BA)(d:l.length+s.size<=big):
 CP 92 #[Vp b,.string s] w λe u=>e=.returned (.tuple #[E s.size,.nilIface])/\Hid (WB u B b<|l++bl s)/\Hid (WK B b w u):=by
 refine(Lm B b s w h.bd (by rw[Lib.byteCells_length];unfold big at d;omega) h.le).mono ?_;rintro e u ⟨rfl,a,c,f⟩;rw[ER]at a;exact⟨C,⟨.inr a,Xb h.le c.size⟩,⟨c,f⟩⟩
theorem Hk(n:Nat):Lib.decDigits n=Xj n:=by
 induction n using Nat.strongRecOn with
 |_ n ih=>
  by_cases h:n<=9
  .rw[Lq h,Lib.decDigits,dif_pos X];rfl
  .rw[K9 h,Lib.decDigits,dif_neg X,ih _ X];rfl
def Vw (w:World):Prop:=Lib.TabIs Tryz.prog w "internal/strconv.uint64pow10" .u64 Lib.pow10Tab
theorem Tryz.gPow:Tryz.prog.globalNamed "internal/strconv.uint64pow10"=some 17:=by rfl
theorem Vw.low(h:Vw w)(a:Below B w w')(c:20<=B):Vw w':=var?_below a Tryz.gPow (WH N c) h
theorem CZ(h:Vw w)(n:Int)(c:0<=n)(d:n<=1000000000):
 CP 93 #[E n] w λe u=>∃s:BA,e=.returned (.string s)/\Hid (bl s=Xj n.toNat)/\BW w u:=by
 refine(strconv_Itoa n X X w h).mono ?_;rintro e u ⟨rfl,k,os,rfl⟩;refine⟨_,C,I ?_,?_⟩
 .rw[Ta];unfold Lib.itoa;rw[Yd X,Hk]
 .exact⟨C,C,C,Sm,λk a=>by simp[Go.Sort.grow,World.drewN,Ia,a]⟩
attribute [local go_sem ↓] Go.wp_at_zero Go.wp_at_succ
theorem Ev(x y:BA)(ng:Bool):
 CP 282 #[.agg #[.string x,.bool ng,.string y]] w λe u=>e=.returned (.string<|if ng then⟨#[33,61]⟩else⟨#[61]⟩)/\BW w u:=by
 cases ng
 .go_enter func282,ntmps282;go_wp2;go_ret;exact⟨C,Yh⟩
 .go_enter func282,ntmps282;go_wp2;go_ret;exact⟨C,Yh⟩
theorem tG (l:List<|BA×BA×Bool)(j:Nat):(UF l)[j*3]?=l[j]?.map (λt=>.string t.1)/\(UF l)[j*3+1]?=l[j]?.map (λt=>.bool t.2.2)/\(UF l)[j*3+2]?=l[j]?.map λt=>.string t.2.1:=by
 induction l generalizing j with
 |nil=>simp[UF]
 |cons r l ih=>
  cases j with
  |zero=>simp[UF]
  |succ j=>
   obtain⟨a,c,d⟩:=ih j;refine⟨?_,?_,?_⟩
   .rw[show(j+1)*3=j*3+1+1+1 by omega];simpa [UF]using a
   .rw[show(j+1)*3+1=j*3+1+1+1+1 by omega];simpa [UF]using c
   .rw[show(j+1)*3+2=j*3+1+1+1+1+1 by omega];simpa [UF]using d
def Si(bs:List<|BA×BA×Bool)(k:Nat):LB:=commas<|(bs.take k).map λc=>VT<|Wo c
theorem uj{bs:List<|BA×BA×Bool}(k:Nat)(h:k<bs.length):Si bs (k+1)=(if k=0 then[]else Si bs k++[44])++VT (Wo bs[k]):=by
 unfold Si;rw[List.take_succ_eq_append_getElem h,Y9,PE,GA];by_cases a:k=0
 .subst a;rfl
 .rw[Yd a,Yd<|by rw[Kq,Ka];intro e;have:=congrArg List.length e;rw[Xw,TP]at this;omega]
theorem GB(bs:List<|BA×BA×Bool)(k:Nat):(Si bs k).length<=cw (bs.map Wo):=by
 unfold Si;refine Xb (Oz _) ?_;rw[show(λc=>VT _)=VT∘Wo from C,<-VD];refine Xb (Ju _) ?_;rw[Q3];have:=Ez ((bs.map Wo).take k)<|(bs.map Wo).drop k;rw[Oh]at this;omega
theorem ui(bs:List<|BA×BA×Bool):Si bs bs.length=commas ((bs.map Wo).map VT):=by
 unfold Si;rw[X1,VD];rfl
theorem tF(c:BA×BA×Bool):VT (Wo c)=bl c.1++(if c.2.2 then[33,61]else[61])++[34]++bl c.2.1++[34]:=rfl
theorem zD(h:WB w B b l)(nm:BA)(la:Option Addr)(ln lc:Nat)(a:Nd)(Z:bl nm=a.name)(hc:Z0 w (.slice la ln lc) a.kq)(d7:l.length+a.name.length+cw a.kq+10<=big):
 CP 254 #[Vp b,.agg #[.string nm,.slice la ln lc]] w λe u=>e=.returned (.tuple #[])/\Hid (WB u B b<|l++Xl a)/\Hid (WK B b w u):=by
 obtain⟨bs,v,L⟩:=hc;have e3:ln=bs.length:=by obtain⟨_,_,e⟩:=Zd v;injection e
 subst e3;have HW:=I h;have c5:=I Z;have M:=I L;have o:Hid<|l.length+nm.size+cw (bs.map Wo)+10<=big:=by rwa [L,ZE Z]
 have HO:=I v;have f4:bs.length<=1000000:=by
  have j:=o.out;have Y:bs.length<=cw (bs.map Wo):=by
   clear j o HO M v L;induction bs with
   |nil=>exact Yr _
   |cons c l ih=>simp only[Wb,cw,Y1];omega
  unfold big at j;omega
 clear h Z L d7 v;go_enter func254,ntmps254;go_upto_region 1 with fail;refine Zs λW0 a0=>?_;have O:Below _ w _:=a0▸Yc;have P:Hid<|Ya _ _ _ 229:=a0▸YO;have Q:=I<|HW.below O;have c6:Hid<|WK B b w _:=WK.below O HW.le;have c7:=I<|Ze HO O;clear a0 O;have s0:=P.cell 0;have s1:=P.cell 1;simp only[Yf]at s0 s1;go_wp2_with fail;refine(SX Q _<|by have:=o.out;omega).mono ?_;rintro e w1 ⟨rfl,R,A⟩;have a5:=I<|c6.trans A;have a6:=I<|WK.bat Q A P N N;have a7:=I<|WK.own Q A c7 N N;clear A s0 s1 P c6 Q c7;have s1:=a6.cell 1;simp only[Yf]at s1;by_cases hz:bs.length=0
 .have HE:Hid<|Xl a=bl nm:=by
   have:=Qr hz;unfold Xl;rw[<-M,this,c5];rfl
  rw[hz]at s1;go_wp2;exact YQ (Tq C _ _ _) C ⟨C,by rwa [HE.out],a5⟩
 .have hp:0<bs.length:=X;have HE:Hid<|Xl a=bl _++[123]++Si _ _++[125]:=I<|by
   unfold Xl;rw[Yd<|by rw[<-M];intro e;rw[Ka]at e;subst e;exact hz C,ui,M,c5]
  have f5:((bs.length:Int)==0)=false:=by rw[YB];omega
  obtain⟨g,cp,hg⟩:=Zm a7.out hp;injection hg with hg1 _ hg2;subst hg1 hg2;go_wp2_with fail;refine(SX R _<|by rw[Yv,Zb];have:=o.out;show _+1<=_;omega).mono ?_;rintro e z ⟨rfl,e4,D⟩;have c8:=I<|a5.trans D;have c9:=I<|WK.bat R D a6 N N;have d3:=I<|WK.own R D a7 N N;have e5:Hid<|l++bl nm++[123]++Si bs 0=l++bl nm++[123]:=by show _++commas ([]:List<|LB)=_;simp[commas]
  clear D s1 a6 a5 R a7;have s1:=c9.cell;go_wp2;go_loopg [19] bs.length (λgk v19 wr=>∃k:Nat,k<=bs.length/\gk=bs.length-k/\v19=E k/\Hid (WB wr B b<|l++bl nm++[123]++Si bs k)/\Hid (WK B b w wr)/\Hid (wr.ownsRow 0 374 3 (.slice (some ⟨g,0,none⟩) bs.length lc) bs.length<|UF bs));case atStart=>exact⟨0,Yr _,C,C,by rwa [e5.out],c8,d3⟩
  case round=>
   obtain⟨k,hk,f6,rfl,S,a8,s⟩:=hrel;clear e4 c8 d3 s1 c9;by_cases d4:k<bs.length
   .have G:=I<|uj k d4;have d5:=I<|GB bs<|k+1;have p:=I<|tF bs[k];obtain⟨f1,f2,f3⟩:=tG bs k;rw[List.getElem?_eq_getElem d4]at f1 f2 f3;simp only[Wr]at f1 f2 f3;have r0:=Zc s _ _ f1;have r1:=Zc s _ _ f2;have r2:=Zc s _ _ f3;clear f1 f2 f3;obtain⟨⟨x,y,ng⟩,hc⟩:∃c,c=bs[k]:=⟨_,C⟩;rw[<-hc]at r0 r1 r2 G p;simp only at r0 r1 r2 p;have f7:=ZN s;clear hc;go_upto_region 7 with fail;refine Zs λW3 a9=>?_;have T:Below _ _ _:=a9▸Yc;have H:Hid<|Ya _ _ _ 374:=a9▸YO;have t:=I<|S.below T;have U:=I<|a8.trans<|WK.below T S.le;have V:=I<|Ze s T;clear a9 T S a8 s r0 r1 r2;have e6:Hid<|k=0∨0<k:=I X;rcases e6.out with b0|b0
    .have m:Hid<|WB W3 B b<|l++bl nm++[123]++(if k=0 then[]else Si bs k++[44]):=by
      rw[Ye b0,V6];have h3:=t.out;rw[b0,show Si _ 0=[]from C,V6]at h3;exact h3
     have n:=H;have b1:=U;have b2:=V;clear t H U V;have e7:¬(0:Int)<k:=X;go_upto_region 9 with fail;have c0:=n.cell 0;have c1:=n.cell 1;have c2:=n.cell 2;simp only[Yf]at c0 c1 c2;obtain⟨sg,q⟩:∃sg:BA,sg=(if ng then⟨#[33,61]⟩else⟨#[61]⟩):=⟨_,C⟩;have b3:=I q;have r:Hid<|bl sg=(if ng then[33,61]else[61]):=by rw[q];cases ng<;>rfl
     have J:Hid<|l.length+nm.size+1+(if k=0 then[]else Si bs k++[44]).length+(VT<|Wo (x,y,ng)).length+8<=big:=I<|by
      have j:=o.out;have Y:=d5.out;rw[G,Yv]at Y;omega
     have b4:x.size+sg.size+y.size+2<=1000000:=by
      have j:=J.out;rw[p,<-r]at j;simp only[Yv,Zb,Y1,TP]at j;unfold big at j;omega
     clear q;have a1:∀W,(Op.stringOp _ x sg).run prog W=.ok _ W:=λW=>XV W _ _ X;have y1:(x++sg).size=x.size+sg.size:=by rw[Xa]
     have a2:∀W,(Op.stringOp _ _ ⟨#[34]⟩).run prog W=.ok _ W:=λW=>XV W _ _<|by rw[y1];show _+1<=_;omega
     have y2:((x++sg)++⟨#[34]⟩).size=x.size+sg.size+1:=by rw[Xa,y1];rfl
     have a3:∀W,(Op.stringOp _ _ y).run prog W=.ok _ W:=λW=>XV W _ _<|by rw[y2];omega
     have y3:(((x++sg)++⟨#[34]⟩)++y).size=x.size+sg.size+1+y.size:=by rw[Xa,y2]
     have a4:∀W,(Op.stringOp _ _ ⟨#[34]⟩).run prog W=.ok _ W:=λW=>XV W _ _<|by rw[y3];show _+1<=_;omega
     have b5:Hid<|((((x++sg)++⟨#[34]⟩)++y)++⟨#[34]⟩).size=(VT<|Wo (x,y,ng)).length:=by
      rw[p,<-r];simp only[Yv,Zb,Xa];rfl
     have b6:Hid<|bl ((((x++sg)++⟨#[34]⟩)++y)++⟨#[34]⟩)=VT (Wo (x,y,ng)):=by
      rw[p,<-r,ZX,ZX,ZX,ZX];rfl
     clear y1 y2 y3 b4;go_region_held3 (λu=>u.cell? ⟨wr.heap.size,0,none⟩=some (.string x)/\u.cell? ⟨wr.heap.size,1,none⟩=some (.bool ng)/\u.cell? ⟨wr.heap.size,2,none⟩=some (.string y)) (first|exact⟨e0,e1,e2⟩|exact⟨d0,d1,d2⟩|exact⟨c0,c1,c2⟩|go_keep) (first
      | (go_at_call 282;refine(Ev x y ng).mono ?_;rintro e w5 ⟨rfl,d⟩;rw[<-b3.out];have f:Hid<|BW W3 w5:=I ⟨d.os,d.tape,d.output,d.size,d.block⟩;have K:=I<|n.below f.out;have d0:=K.cell;clear d)
      | (go_at_call 92;refine(SX (m.below f.out) _<|by rw[b5.out];have:=J.out;simp only[Yv,Zb,Y1,TP];omega).mono ?_;rintro e w6 ⟨rfl,e8,i⟩;have b7:=I<|WK.bat (m.below f.out) i.out K.out N N;have e0:=b7.cell;have b8:Hid<|WK B b w w6:=b1.trans<|(WK.below f.out m.le).trans i.out;have b9:=I<|WK.own (m.below f.out) i.out (Ze b2.out f.out) N N;clear i));have c3:Hid<|WB w6 B b<|l++bl nm++[123]++Si bs (k+1):=by rwa [G.out,<-b6.out,<-WV]
     go_wp2;go_roundg (bs.length-(k+1));case measure=>omega
     case rel=>exact⟨k+1,X,C,by go_num,c3,b8,b9⟩
    .have d8:=H;have e7:(0:Int)<k:=X;go_wp2_with fail;refine(SX t _<|by have j:=o.out;have Y:=GB bs k;simp only[Yv,Zb];show _+1<=_;simp only[Y1,TP];omega).mono ?_;rintro e w4 ⟨rfl,d9,F⟩;have m:Hid<|WB w4 B b<|l++bl nm++[123]++(if k=0 then[]else Si bs k++[44]):=by rwa [Yd X,<-WV]
     have n:=I<|WK.bat t F H N N;have b1:=I<|U.trans F;have b2:=I<|WK.own t F V N N;clear t H U V F d9 d8;go_upto_region 9 with fail;have c0:=n.cell 0;have c1:=n.cell 1;have c2:=n.cell 2;simp only[Yf]at c0 c1 c2;obtain⟨sg,q⟩:∃sg:BA,sg=(if ng then⟨#[33,61]⟩else⟨#[61]⟩):=⟨_,C⟩;have b3:=I q;have r:Hid<|bl sg=(if ng then[33,61]else[61]):=by rw[q];cases ng<;>rfl
     have J:Hid<|l.length+nm.size+1+(if k=0 then[]else Si bs k++[44]).length+(VT<|Wo (x,y,ng)).length+8<=big:=I<|by
      have j:=o.out;have Y:=d5.out;rw[G,Yv]at Y;omega
     have b4:x.size+sg.size+y.size+2<=1000000:=by
      have j:=J.out;rw[p,<-r]at j;simp only[Yv,Zb,Y1,TP]at j;unfold big at j;omega
     clear q;have a1:∀W,(Op.stringOp _ x sg).run prog W=.ok _ W:=λW=>XV W _ _ X;have y1:(x++sg).size=x.size+sg.size:=by rw[Xa]
     have a2:∀W,(Op.stringOp _ _ ⟨#[34]⟩).run prog W=.ok _ W:=λW=>XV W _ _<|by rw[y1];show _+1<=_;omega
     have y2:((x++sg)++⟨#[34]⟩).size=x.size+sg.size+1:=by rw[Xa,y1];rfl
     have a3:∀W,(Op.stringOp _ _ y).run prog W=.ok _ W:=λW=>XV W _ _<|by rw[y2];omega
     have y3:(((x++sg)++⟨#[34]⟩)++y).size=x.size+sg.size+1+y.size:=by rw[Xa,y2]
     have a4:∀W,(Op.stringOp _ _ ⟨#[34]⟩).run prog W=.ok _ W:=λW=>XV W _ _<|by rw[y3];show _+1<=_;omega
     have b5:Hid<|((((x++sg)++⟨#[34]⟩)++y)++⟨#[34]⟩).size=(VT<|Wo (x,y,ng)).length:=by
      rw[p,<-r];simp only[Yv,Zb,Xa];rfl
     have b6:Hid<|bl ((((x++sg)++⟨#[34]⟩)++y)++⟨#[34]⟩)=VT (Wo (x,y,ng)):=by
      rw[p,<-r,ZX,ZX,ZX,ZX];rfl
     clear y1 y2 y3 b4;go_region_held3 (λu=>u.cell? ⟨wr.heap.size,0,none⟩=some (.string x)/\u.cell? ⟨wr.heap.size,1,none⟩=some (.bool ng)/\u.cell? ⟨wr.heap.size,2,none⟩=some (.string y)) (first|exact⟨e0,e1,e2⟩|exact⟨d0,d1,d2⟩|exact⟨c0,c1,c2⟩|go_keep) (first
      | (go_at_call 282;refine(Ev x y ng).mono ?_;rintro e w5 ⟨rfl,d⟩;rw[<-b3.out];have f:Hid<|BW w4 w5:=I ⟨d.os,d.tape,d.output,d.size,d.block⟩;have K:=I<|n.below f.out;have d0:=K.cell;clear d)
      | (go_at_call 92;refine(SX (m.below f.out) _<|by rw[b5.out];have:=J.out;simp only[Yv,Zb,Y1,TP];omega).mono ?_;rintro e w6 ⟨rfl,e8,i⟩;have b7:=I<|WK.bat (m.below f.out) i.out K.out N N;have e0:=b7.cell;have b8:Hid<|WK B b w w6:=b1.trans<|(WK.below f.out m.le).trans i.out;have b9:=I<|WK.own (m.below f.out) i.out (Ze b2.out f.out) N N;clear i));have c3:Hid<|WB w6 B b<|l++bl nm++[123]++Si bs (k+1):=by rwa [G.out,<-b6.out,<-WV]
     go_wp2;go_roundg (bs.length-(k+1));case measure=>omega
     case rel=>exact⟨k+1,X,C,by go_num,c3,b8,b9⟩
   .obtain rfl:k=bs.length:=X;go_wp2_with fail;refine(SX S _<|by have j:=o.out;have Y:=GB bs bs.length;simp only[Yv,Zb,Y1,TP];show _+1<=_;omega).mono ?_;rintro e w8 ⟨rfl,d6,c4⟩;have e9:=I<|a8.trans c4;have f0:Hid<|WB w8 B b<|l++Xl a:=by rw[HE];have:=d6.out;simp only[WV]at this⊢;exact this
    clear c4 d6;go_wp2;go_end0;exact⟨C,f0,e9⟩
end
section
theorem EZ:∀xs:List<|LB,([44]:LB).intercalate xs=commas xs
 |[]=>C
 |[a]=>by simp[List.intercalate,commas]
 |a::b::l=>by
  have ih:=EZ<|b::l;rw[EY,<-ih];simp[List.intercalate]
theorem oC(la:Option Addr)(ln lc:Nat)(ns:List<|LB)(h:Ue w (.slice la ln lc) ns)(v:nw ns<=1000000):
 CP 52 #[.slice la ln lc,.string ⟨#[44]⟩] w λe u=>∃s:BA,e=.returned (.string s)/\Hid (bl s=commas ns)/\BW w u:=by
 obtain⟨bs,a,d⟩:=h;have m:ln=bs.length:=by obtain⟨_,_,e⟩:=Zd a;injection e
 subst m;by_cases k:bs.length=0
 .rw[k];refine(strings_Join_none _ _ _ w).mono ?_;rintro e u ⟨rfl,rfl⟩;have:=Qr k;subst this;exact⟨_,C,I<|by rw[<-d];rfl,Ym _ _⟩
 .obtain⟨g,cp,n⟩:=Zm a X;injection n with hg1 _ hg2;subst hg1 hg2;have f:Lib.join (bs.map (·.data.toList)) [44]=commas ns:=d▸EZ _;have r:=Oz ns;have i:bs.length<=lc:=by
   rcases a.2 with⟨e,_⟩|⟨g',cap,cur,e,_,_,o,_⟩
   .cases e
   .injection e with _ _ e;subst e;exact o
  have t:bs.length<=1000000:=by
   have p:bs.length<=nw (bs.map bl):=by
    clear f i a d k;induction bs with
    |nil=>exact Yr _
    |cons c l ih=>simp only[Wb,nw,Y1];omega
   rw[d]at p;omega
  refine(strings_Join g 0 _ _ _ w ?_ (ZN a) X i (by show(Lib.join (bs.map (·.data.toList)) [44]).length<=_;rw[f];omega)).mono ?_
  .intro j x f;rw[SK];exact Zc a j _<|by show(bs.map Value.string)[j]?=_;rw[Vt,f];rfl
  .rintro e u ⟨rfl,q⟩;exact⟨_,C,I (by show bl (ByteArray.mk (Lib.join (bs.map (·.data.toList)) [44]).toArray)=_;rw[Ta,f]),q⟩
theorem zr(d:a.jj=4∨a.jj=6)(e:a.jj=4->a.op<=3):SY (XT a)+1=V0 a/\XT a<=4:=by
 rcases d with h|h
 .have f:=e h;have e1:XT a=a.op+1:=by unfold XT;rw[Yd X]
  have e2:V0 a=if a.op<2 then 2 else 3:=by unfold V0;rw[Yd X,Ye h]
  rw[e1,e2];refine⟨?_,X⟩;unfold SY;rw[Yd X];by_cases c:a.op<2
  .rw[Ye c,Ye X]
  .rw[Yd c,Yd X]
 .have e1:XT a=0:=by unfold XT;rw[Ye h]
  have e2:V0 a=1:=by unfold V0;rw[Ye h]
  rw[e1,e2];exact⟨C,X⟩
theorem uF(c:a.jj=4∨a.jj=6)(d:a.jj=4->a.op<=3)(pl pr:Nat->LB):TD a pl pr=pl (V0 a)++[32]++P7 (XT a)++[32]++pr (V0 a+1):=by
 unfold TD;rw[Yd X,Yd X,Yd X,Yd X,Yd X];rcases c with h|h
 .rw[Yd X];have:=d h;have e:Ec a.op=P7 (XT a):=by
   unfold XT;rw[Yd X];rcases(X:a.op=0∨a.op=1∨a.op=2∨a.op=3)with h|h|h|h<;>rw[h]<;>rfl
  rw[e]
 .have e:V0 a=1:=by unfold V0;rw[Ye h]
  rw[Ye h,e];unfold XT P7;rw[Ye h,Ye C];simp
theorem jI (W:World):CP 341 #[v] W λe u=>e=.returned (E 3)/\BW W u:=by
 go_enter func341,ntmps341;go_wp2;all_goals
  go_ret;exact⟨C,Yh⟩
theorem jH (W:World):CP 342 #[v] W λe u=>e=.returned (E 3)/\BW W u:=by
 go_enter func342,ntmps342;go_wp2;all_goals
  go_ret;exact⟨C,Yh⟩
theorem jK (W:World):CP 343 #[v] W λe u=>e=.returned (E 3)/\BW W u:=by
 go_enter func343,ntmps343;go_wp2;all_goals
  go_ret;exact⟨C,Yh⟩
theorem jL (W:World):CP 344 #[v] W λe u=>e=.returned (E 3)/\BW W u:=by
 go_enter func344,ntmps344;go_wp2;all_goals
  go_ret;exact⟨C,Yh⟩
theorem jJ (W:World):CP 327 #[v] W λe u=>e=.returned (E 3)/\BW W u:=by
 go_enter func327,ntmps327;go_wp2;all_goals
  go_ret;exact⟨C,Yh⟩
theorem Bz (W:World)(o:Nat)(a:o<=4)(ty1 ty2:TypeId)(u1 u2:Value):CP 252 #[.agg #[E o,.iface ty1 u1,.iface ty2 u2]] W λe u=>e=.returned (E<|SY o)/\BW W u:=by
 have c:Below _ W<|W.alloc<|.cells #[E o,.iface ty1 u1,.iface ty2 u2] 422:=Yc;go_enter func252,ntmps252;go_wp2_with(go_at_call 248;refine(GZ o a).mono ?_;rintro e d ⟨rfl,rfl⟩);go_ret;exact⟨C,c⟩
theorem mN (w:World):(Go.method 598 424 v "gauge/syntax.rank").run Tryz.prog w=.ok (341,v) w:=by kernel_rfl
theorem mG (w:World):(Go.method 598 426 v "gauge/syntax.rank").run Tryz.prog w=.ok (342,v) w:=by kernel_rfl
theorem mU (v:Value)(w:World):(Go.method 598 428 v "gauge/syntax.rank").run Tryz.prog w=.ok (343,v) w:=by kernel_rfl
theorem mW (w:World):(Go.method 598 433 v "gauge/syntax.rank").run Tryz.prog w=.ok (344,v) w:=by kernel_rfl
theorem mS (w:World):(Go.method 598 229 v "gauge/syntax.rank").run Tryz.prog w=.ok (327,v) w:=by kernel_rfl
theorem mP (w:World):(Go.method 598 422 v "gauge/syntax.rank").run Tryz.prog w=.ok (252,v) w:=by kernel_rfl
theorem lD {l r:Tr}(h:Zo w (.node x y a l r) v)(ho:a.jj=4→a.op≤3):∃(ty:TypeId)(u:Value)(f:FuncId),v=.iface ty u∧(∀W,(Go.method 598 ty u "gauge/syntax.rank").run Tryz.prog W=.ok (f,u) W)∧(∀W,(callFunc f #[u]).run Tryz.prog W=.ok (.enter f #[u]) W)∧(∀W,Calls Tryz.prog f #[u] W λe w'=>e=.returned (.int .i64 ((V0 a-1:Nat):Int))∧Below W.heap.size W w'):=by
 have h4:a.jj<=3∨a.jj=5->V0 a-1=3:=by
  intro h;unfold V0;rw[Yd X,Yd X]
 rcases h with⟨hk,rfl⟩|⟨hk,nm,la,ln,lc,rfl,_⟩|⟨hk,wd,nm,la,ln,lc,rfl,_⟩|⟨hk,z,rfl,hz⟩|⟨hk,wd,la,ln,lc,z,rfl,_,_,hz⟩|⟨hk,z1,z2,rfl,hz1,hz2⟩
 .exact⟨_,_,_,C,λW=>mN W,λW=>Kr,λW=>by rw[h4 X];exact jI W⟩
 .exact⟨_,_,_,C,λW=>mS W,λW=>Kr,λW=>by rw[h4 X];exact jJ W⟩
 .exact⟨_,_,_,C,λW=>mW W,λW=>Kr,λW=>by rw[h4 X];exact jL W⟩
 .exact⟨_,_,_,C,λW=>mG W,λW=>Kr,λW=>by rw[h4 X];exact jH W⟩
 .exact⟨_,_,_,C,λW=>mU _ W,λW=>Kr,λW=>by rw[h4 X];exact jK W⟩
 .obtain⟨t1,u1,rfl⟩:=Zo.shape hz1;obtain⟨t2,u2,rfl⟩:=Zo.shape hz2;have ht:=zr hk ho;exact⟨_,_,_,C,λW=>mP W,λW=>Kr,λW=>by rw[show V0 a-1=SY (XT a)by omega];exact Bz W _ ht.2 _ _ _ _⟩
def WC(t:Tr):Prop:=∀(w:World)(v:Value)(B b:Nat)(l:LB),Zo w t v->WB w B b l->Vw w->20<=B->l.length+wT t<=big->
 CP 221 #[Vp b,v] w λe w'=>e=.returned (.tuple #[])/\Hid (WB w' B b<|l++ZV t 1)/\Hid (WK B b w w')
def WW(t:Tr):Prop:=∀(w:World)(v:Value)(B b:Nat)(l:LB)(j:Nat),Zo w t v->WB w B b l->Vw w->20<=B->l.length+wT t+2<=big->
 CP 251 #[Vp b,v,E j] w λe w'=>e=.returned (.tuple #[])/\Hid (WB w' B b<|l++ZV t (j+1))/\Hid (WK B b w w')
theorem QF{l r:Tr}:ZV (.node x y a l r) 1=TD a (ZV l) (ZV r):=by
 show Mg (decide<|V0 a<1) _=_;rw[Wl<|by unfold V0;split<;>(try split)<;>(try split)<;>omega];rfl
theorem Ay(d:V1 t)(h:WC t):WW t:=by
 intro w v B b l j o S T U G;match t,d,h,o,G with
 |.node x y a p q,d,h,o,G=>
  obtain⟨ty,u,f,rfl,hm,V,W⟩:=lD o d.2.2.1;have HP:=I o;have Y:=I S;have Z:=I T;have H:=I U;have J:=I G;have HC:=I W;have K:Hid<|1<=V0 a:=I<|by unfold V0;split<;>(try split)<;>(try split)<;>omega
  have L:Hid<|(ZV (.node x y a p q) 1).length+2<=wT (.node x y a p q):=QF▸Eu d.2.2.2.2.2.1 (λm=>Mz p m d.2.2.2.2.2.2.2.2.2.2.1) λm=>Mz q m d.2.2.2.2.2.2.2.2.2.2.2;clear W o S T U G;go_enter func251,ntmps251;go_wp2_with fail;refine(HC w).mono ?_;rintro e w1 ⟨rfl,i⟩;have r:=I<|HP.below i;have k:=I<|Y.below i;have n:Hid<|WK B b w _:=WK.below i Y.le;have M:=I<|Z.low n.low H;clear i hm V;obtain⟨rk,s⟩:∃rk,rk=V0 a-1:=⟨_,C⟩;rw[<-s];by_cases a4:(j:Int)<=rk
  .have R:Hid<|ZV (.node x y a p q) (j+1)=ZV (.node x y a p q) 1:=by
    rw[QF];show Mg (decide<|V0 a<j+1) _=_;rw[Wl<|by have:=K.out;omega];rfl
   clear s;go_wp2_with fail;refine(h _ _ B b l r k M H<|by have:=J.out;omega).mono ?_;rintro e z ⟨rfl,A,c⟩;have g:=I<|n.trans c;clear c;go_wp2;exact YQ (Tq C _ _ _) C ⟨C,by rwa [R.out],g⟩
  .have R:Hid<|ZV (.node x y a p q) (j+1)=[40]++ZV (.node x y a p q) 1++[41]:=by
    rw[QF];show Mg (decide<|V0 a<j+1) _=_;rw[WI<|by have:=K.out;omega];rfl
   clear s;go_wp2_with fail;refine(SX k _<|by have h1:=J.out;have h2:=L.out;show _+1<=_;omega).mono ?_;rintro e z ⟨rfl,A,c⟩;have g:=I<|n.trans c;have O:=I<|Zo.wrote k c r;have P:=I<|Z.low g.low H;clear c r k n M;go_wp2_with fail;refine(h _ _ B b _ O A P H<|by rw[Yv,Zb];have h1:=J.out;show _+1+_<=_;omega).mono ?_;rintro e w3 ⟨rfl,a0,D⟩;have a1:=I<|g.trans D;clear D O A g P;go_wp2_with fail;refine(SX a0 _<|by simp only[Yv,Zb];have h1:=J.out;have h2:=L.out;show _+1+_+1<=_;omega).mono ?_;rintro e w4 ⟨rfl,Q,F⟩;have a2:=I<|a1.trans F;have a3:Hid<|WB w4 B b<|l++ZV (.node x y a p q) (j+1):=by
    rw[R];have:=Q.out;simp only[WV]at this⊢;exact this
   clear F Q;go_wp2;go_end0;exact⟨C,a3,a2⟩
attribute [local go_sem ↓] Go.wp_at_zero Go.wp_at_succ
attribute [local go_sem] II IG IJ IF IK KX I5 I4 I6 I3 IE KW IN IM IP IL Gc KY I0 IY I1 IX I2 KU Gk Gj Gl Gi Gm K0 Gf Ge Gg Gd Gh KZ
theorem uB(h:a.jj=0)(pl pr:Nat->LB):TD a pl pr=Xj a.n.toNat:=by unfold TD;rw[Ye h]
theorem uC(h:a.jj=1)(pl pr:Nat->LB):TD a pl pr=Xl a:=by unfold TD;rw[Yd X,Ye h]
theorem uD(h:a.jj=2)(pl pr:Nat->LB):TD a pl pr=WN.getD a.op []++[40]++Xl a++[91]++Xj a.n.toNat++[93,41]:=by unfold TD;rw[Yd X,Yd X,Ye h]
theorem uA(h:a.jj=3)(pl pr:Nat->LB):TD a pl pr=[45]++pl 4:=by unfold TD;rw[Yd X,Yd X,Yd X,Ye h]
theorem uz(h:a.jj=5)(pl pr:Nat->LB):TD a pl pr=Wu.getD a.op []++[32,98,121,32,40]++commas a.by_++[41,32,40]++pl 1++[41]:=by unfold TD;rw[Yd X,Yd X,Yd X,Yd X,Ye h]
theorem EC{n:Int}(h:n<=1000000000):(Xj n.toNat).length<=10:=by
 refine Hj 9 _ ?_;have a:n.toNat<=1000000000:=X;have c:(10)^10=10000000000:=N;omega
theorem zW(c:V1<|.node x y a p q)(k:a.jj=0)(w:World)(B b:Nat)(l:LB)(m:WB w B b l)(o:Vw w)(r:20<=B)(L:l.length+wT (.node x y a p q)<=big):
 CP 221 #[Vp b,.iface 424<|.agg #[E a.n]] w λe u=>e=.returned (.tuple #[])/\Hid (WB u B b<|l++ZV (.node x y a p q) 1)/\Hid (WK B b w u):=by
 have t:Hid<|ZV (.node x y a p q) 1=Xj _:=I<|by rw[QF,uB k]
 have v:=I m;have M:=I o;have O:=I r;have h:Hid<|0<=a.n/\a.n<=1000000000:=⟨c.2.2.2.2.1,c.2.2.2.2.2.1⟩;have P:Hid<|l.length+24<=big:=I<|by have Q:Xo a+wT p+wT q=wT (.node x y a p q):=C;unfold Xo at Q;omega
 obtain⟨n,A⟩:∃n,n=a.n:=⟨_,C⟩;rw[<-A]at h t⊢;clear m o r L c k A;go_enter func221,ntmps221;go_wp2_with fail;refine Zv λW D=>?_;have d:Below _ w W:=D▸Yc;have i:=I<|v.below d;have j:Hid<|WK B b w W:=WK.below d v.le;have F:=I<|M.low j.low O;clear D d;refine(CZ F n h.1 h.2).mono ?_;rintro e S ⟨s,rfl,G,f⟩;have H:=I<|i.below f;have J:=I<|j.trans<|WK.below f i.le;clear f;go_wp2_with fail;refine(SX H s<|by rw[ZE G];have:=EC h.2;have:=P.out;omega).mono ?_;rintro e z ⟨rfl,R,g⟩;have K:=I<|J.trans g;clear g;go_wp2;go_end0;exact⟨C,by rwa [t.out,<-G.out],K⟩
theorem xW(g:a.jj=1)(w:World)(f:bl nm=a.name)(h:Z0 w (.slice la ln lc) a.kq)(B b:Nat)(l:LB)(i:WB w B b l)(t:l.length+wT (.node x y a p q)<=big):
 CP 221 #[Vp b,.iface 229<|.agg #[.string nm,.slice la ln lc]] w λe u=>e=.returned (.tuple #[])/\Hid (WB u B b<|l++ZV (.node x y a p q) 1)/\Hid (WK B b w u):=by
 have v:Hid<|ZV (.node x y a p q) 1=Xl a:=I<|by rw[QF,uC g]
 have j:=I i;have k:=I f;have A:=I h;have D:Hid<|l.length+a.name.length+cw a.kq+10<=big:=I<|by have F:Xo a+wT p+wT q=wT (.node x y a p q):=C;unfold Xo at F;omega
 clear i t g f h;go_enter func221,ntmps221;go_wp2_with fail;refine Zv λW m=>?_;have c:Below _ w W:=m▸Yc;have n:=I<|j.below c;have o:Hid<|WK B b w W:=WK.below c j.le;have r:=I<|A.below c;clear m c;refine(zD n _ _ _ _ a k r D).mono ?_;rintro e z ⟨rfl,G,d⟩;have s:=I<|o.trans d;clear d;go_wp2;go_end0;exact⟨C,by rwa [v.out],s⟩
theorem xX(i:V1<|.node x y a p q)(S:a.jj=2){h:BA}(w:World)(j:bl h=WN.getD a.op [])(G:bl nm=a.name)(T:Z0 w (.slice la ln lc) a.kq)(B b:Nat)(l:LB)(U:WB w B b l)(V:Vw w)(Y:20<=B)(hl:l.length+wT (.node x y a p q)<=big):
 CP 221 #[Vp b,.iface 433<|.agg #[.string h,.string nm,.slice la ln lc,E a.n]] w λe u=>e=.returned (.tuple #[])/\Hid (WB u B b<|l++ZV (.node x y a p q) 1)/\Hid (WK B b w u):=by
 have Z:Hid<|ZV (.node x y a p q) 1=bl _++[40]++Xl a++[91]++Xj _++[93,41]:=I<|by rw[QF,uD S,j]
 have HW:=I U;have HT:=I V;have HB:=I Y;have F:Hid<|0<=a.n/\a.n<=1000000000:=⟨i.2.2.2.2.1,i.2.2.2.2.2.1⟩;have a0:=I G;have HC:=I T;have a9:h.size<=5:=ZE j▸Lv WN N a.op;have Q:Hid<|l.length+a.name.length+cw a.kq+24<=big:=I<|by have h1:Xo a+wT p+wT q=wT (.node x y a p q):=C;unfold Xo at h1;omega
 have a2:=I<|G6 a;obtain⟨n,hn⟩:∃n,n=a.n:=⟨_,C⟩;rw[<-hn]at F Z⊢;have a1:∀W,(Op.stringOp _ _ ⟨#[40]⟩).run prog W=.ok _ W:=λW=>XV W _ _<|by show h.size+1<=_;omega
 have k:Hid<|(h++⟨#[40]⟩).size=h.size+1:=by rw[Xa];rfl
 clear U V Y hl i S hn j G T;go_enter func221,ntmps221;go_upto_region 20 with fail;refine Zs λW R=>?_;have f:Below _ w W:=R▸Yc;have m:Hid<|Ya W _ [.string _,.string _,.slice _ _ _,.int _ n] 433:=R▸YO;have g:=I<|HW.below f;have H:Hid<|WK B b w W:=WK.below f HW.le;have J:=I<|HC.below f;clear R f;have p0:=m.cell;go_wp2_with fail;refine(SX g _<|by rw[k];have:=Q.out;omega).mono ?_;rintro e w1 ⟨rfl,o,c⟩;have K:=I<|H.trans c;have r:=I<|WK.bat g c m N N;have L:=I<|J.wrote g c;clear c p0 m g H J;have p1:=r.cell;go_wp2_with fail;refine(zD o _ _ _ _ a a0 L<|by rw[Yv,Zb,k];have:=Q.out;omega).mono ?_;rintro e z ⟨rfl,t,d⟩;have v:=I<|K.trans d;have a3:=I<|WK.bat o d r N N;have M:=I<|HT.low v.low HB;clear d p1 r o K L;have p3:=a3.cell;go_wp2_with fail;refine(CZ M n F.1 F.2).mono ?_;rintro e w3 ⟨s,rfl,hs,A⟩;have a4:=I<|t.below A;have a5:=I<|v.trans<|WK.below A t.le;have b0:s.size<=10:=ZE hs.out▸EC F.2;have b1:∀W,(Op.stringOp _ ⟨#[91]⟩ s).run prog W=.ok _ W:=λW=>XV W _ _<|by show 1+s.size<=_;omega
 have O:Hid<|(⟨#[91]⟩++s).size=1+s.size:=by rw[Xa];rfl
 have b2:∀W,(Op.stringOp _ _ ⟨#[93,41]⟩).run prog W=.ok _ W:=λW=>XV W _ _<|by rw[O];show _+2<=_;omega
 have a6:Hid<|((⟨#[91]⟩++s)++⟨#[93,41]⟩).size=1+s.size+2:=by rw[Xa,O];rfl
 clear A p3 t v M;go_wp2_with fail;refine(SX a4 _<|by rw[a6];simp only[Yv,Zb];rw[k];have:=Q.out;have:=a2.out;omega).mono ?_;rintro e w4 ⟨rfl,P,D⟩;have a7:=I<|a5.trans D;have a8:Hid<|WB w4 B b<|l++ZV (.node x y a p q) 1:=by
  rw[Z,<-hs];have:=P.out;rw[ZX,ZX,ZX]at this;simp only[WV]at this⊢;exact this
 clear D P;go_wp2;go_end0;exact⟨C,a8,a7⟩
theorem zV(o:a.jj=3)(ih:WW p)(w:World)(z:Value)(m:Zo w p z)(B b:Nat)(l:LB)(r:WB w B b l)(s:Vw w)(t:20<=B)(Q:l.length+wT (.node x y a p q)<=big):
 CP 221 #[Vp b,.iface 426<|.agg #[z]] w λe v=>e=.returned (.tuple #[])/\Hid (WB v B b<|l++ZV (.node x y a p q) 1)/\Hid (WK B b w v):=by
 have R:Hid<|ZV (.node x y a p q) 1=[45]++ZV p 4:=I<|by rw[QF,uA o]
 have A:=I r;have S:=I s;have D:=I t;have F:Hid<|l.length+24+wT p<=big:=I<|by have T:Xo a+wT p+wT q=wT (.node x y a p q):=C;unfold Xo at T;omega
 have U:=I m;obtain⟨ty,u,G⟩:=Zo.shape m;subst G;clear r s t Q o m;go_enter func221,ntmps221;go_upto_region 6 with fail;refine Zs λW n=>?_;have d:Below _ w W:=n▸Yc;have h:Hid<|Ya W _ _ 426:=n▸YO;have f:=I<|A.below d;have i:Hid<|WK B b w W:=WK.below d A.le;have j:=I<|U.below d;clear n d;go_wp2_with fail;refine(SX f _<|by have:=F.out;show _+1<=_;omega).mono ?_;rintro e Y ⟨rfl,H,c⟩;have k:=I<|i.trans c;have J:=I<|WK.bat f c h N N;have K:=I<|Zo.wrote f c j;have L:=I<|S.low k.low D;clear c h f i j;have p0:=J.cell;go_wp2_with fail;refine(ih _ _ B b _ 3 K H L D<|by rw[Yv,Zb];have:=F.out;show _+1+_+2<=_;omega).mono ?_;rintro e V ⟨rfl,M,g⟩;have O:=I<|k.trans g;have P:Hid<|WB V B b<|l++ZV (.node x y a p q) 1:=by rwa [R.out,<-WV]
 clear g M;go_wp2;go_end0;exact⟨C,P,O⟩
end
section
attribute [local go_sem ↓] Go.wp_at_zero Go.wp_at_succ
attribute [local go_sem] II IG IJ IF IK KX I5 I4 I6 I3 IE KW IN IM IP IL Gc KY I0 IY I1 IX I2 KU Gk Gj Gl Gi Gm K0 Gf Ge Gg Gd Gh KZ
theorem fT(o:Nat):(P7 o).length<=2:=by
 unfold P7;split<;>(try split)<;>(try split)<;>(try split)<;>simp
theorem xV(r:V1<|.node x y a p q)(hk:a.jj=4∨a.jj=6)(R:WW p)(S:WW q)(w:World){z1 z2:Value}(D:Zo w p z1)(F:Zo w q z2)(B b:Nat)(l:LB)(hw:WB w B b l)(ht:Vw w)(hB:20<=B)(hl:l.length+wT (.node x y a p q)<=big):
 CP 221 #[Vp b,.iface 422<|.agg #[E<|XT a,z1,z2]] w λe u=>e=.returned (.tuple #[])/\Hid (WB u B b<|l++ZV (.node x y a p q) 1)/\Hid (WK B b w u):=by
 obtain⟨o,s⟩:∃o,o=XT a:=⟨_,C⟩;have G:=zr hk r.2.2.1;have HX:Hid<|ZV (.node x y a p q) 1=ZV p (SY o+1)++[32]++P7 o++[32]++ZV q (SY o+1+1):=I<|by rw[QF,uF hk r.2.2.1,s,G.1]
 have T:o<=4:=s▸G.2;have H:Hid<|(ZV p<|SY o+1).length<=wT p:=I<|Mz p _ r.2.2.2.2.2.2.2.2.2.2.1;rw[<-s];have HW:=I hw;have HT:=I ht;have Q:=I hB;have HL:Hid<|l.length+24+wT p+wT q<=big:=I<|by have J:Xo a+wT p+wT q=wT (.node x y a p q):=C;unfold Xo at J;omega
 have a8:=I D;have a9:=I F;obtain⟨t1,u1,a4⟩:=Zo.shape D;obtain⟨t2,u2,a5⟩:=Zo.shape F;subst a4 a5;obtain⟨sg,K⟩:∃sg:BA,sg=⟨(P7 o).toArray⟩:=⟨_,C⟩;have b0:=I K.symm;have U:Hid<|bl sg=P7 o:=I<|by rw[K,Ta]
 have c3:sg.size<=2:=ZE U.out▸fT o;have b1:SY o<=2:=by unfold SY;split<;>(try split)<;>omega
 have a1:∀W,(Op.stringOp _ ⟨#[32]⟩ _).run prog W=.ok _ W:=λW=>XV W _ _<|by show 1+sg.size<=_;omega
 have V:Hid<|(⟨#[32]⟩++sg).size=1+sg.size:=by rw[Xa];rfl
 have a2:∀W,(Op.stringOp _ _ ⟨#[32]⟩).run prog W=.ok _ W:=λW=>XV W _ _<|by rw[V];show _+1<=_;omega
 have Y:Hid<|((⟨#[32]⟩++sg)++⟨#[32]⟩).size=1+sg.size+1:=by rw[Xa,V];rfl
 obtain⟨rr,L⟩:∃rr,rr=SY o:=⟨_,C⟩;rw[<-L]at HX H b1;have Z:Hid<|∀W,Calls _ _ _ W λe u=>e=.returned _/\Below _ W _:=I λW=>L▸Bz W o T t1 t2 u1 u2;have b2:Hid<|∀(u:World)(l':List _),Zo _ p (.iface t1 u1)->WB u B b _->Vw _->l'.length+wT p+2<=big->Calls _ _ _ _ _:=I λu l' J h2 h3 h4=>R _ _ B b _ rr J h2 h3 Q h4;have b3:Hid<|∀(u:World)(l':List _),Zo _ q _->WB _ B b _->Vw u->l'.length+wT q+2<=big->Calls _ _ #[.pointer _,.iface t2 u2,.int _<|(rr)+1] _ _:=I λu l' J h2 h3 h4=>S _ _ B b _ (rr+1) J h2 h3 Q h4;have c4:IntKind.i64.wrap ((rr)+1)=(rr)+1:=by rcases(X:rr=0∨rr=1∨rr=2)with h|h|h<;>rw[h]<;>rfl
 clear hw ht hB hl hk D F r s G K L R S;go_enter func221,ntmps221;go_upto_region 10 with fail;refine Zs λW hW=>?_;have j:Below _ w W:=hW▸Yc;have t:Hid<|Ya W _ _ 422:=hW▸YO;have v:=I<|HW.below j;have b4:Hid<|WK B b w W:=WK.below j HW.le;have a6:=I<|a8.below j;have a7:=I<|a9.below j;clear hW j;have p0:=t.cell 0;have p1:=t.cell 1;have p2:=t.cell 2;simp only[Yf]at p0 p1 p2;go_region_held3 (λu=>u.cell? ⟨w.heap.size,0,none⟩=some (E o)/\u.cell? ⟨w.heap.size,1,none⟩=some (.iface t1 u1)/\u.cell? ⟨w.heap.size,2,none⟩=some (.iface t2 u2)) (first|exact⟨e0,e1,e2⟩|exact⟨d0,d1,d2⟩|exact⟨p0,p1,p2⟩|go_keep) (first
  | (go_at_call 252;refine(Z.out _).mono ?_;rintro e w5 ⟨rfl,d⟩;have c:Hid<|BW W w5:=I ⟨d.os,d.tape,d.output,d.size,d.block⟩;have k:=I<|t.below c.out;have d0:=k.cell 0;have d1:=k.cell 1;have d2:=k.cell 2;simp only[Yf]at d0 d1 d2;have M:Hid<|WK B b w w5:=b4.trans<|WK.below c.out v.le;clear d)
  | (go_at_call 251;refine(b2.out w5 l (a6.below c.out) (v.below c.out) (HT.low M.low Q.out)<|by have:=HL.out;omega).mono ?_;rintro e w6 ⟨rfl,O,g⟩;have z:=I<|WK.bat (v.below c.out) g.out k.out N N;have e0:=z.cell 0;have e1:=z.cell 1;have e2:=z.cell 2;simp only[Yf]at e0 e1 e2;have b5:Hid<|WK B b w w6:=M.trans g.out;have b6:Hid<|Zo w6 q<|.iface t2 u2:=I<|Zo.wrote (v.below c.out) g.out<|a7.below c.out;clear g));clear p0 p1 p2 d0 d1 d2 k c M;go_wp2_with(go_at_call 253;refine(fS o T).mono ?_;rintro e wq ⟨rfl,rfl⟩;rw[b0.out]);refine(SX O _<|by rw[Y,Yv];have:=HL.out;have:=H.out;omega).mono ?_;rintro e w7 ⟨rfl,P,i⟩;have b7:=I<|b5.trans i;have A:=I<|WK.bat O i z N N;have b8:=I<|Zo.wrote O i b6;clear i e0 e1 e2;have p0:=A.cell 0;have p1:=A.cell 1;have p2:=A.cell 2;simp only[Yf]at p0 p1 p2;go_upto_region 12 with fail;go_region_held3 (λu=>u.cell? ⟨w.heap.size,0,none⟩=some (E o)/\u.cell? ⟨w.heap.size,1,none⟩=some (.iface t1 u1)/\u.cell? ⟨w.heap.size,2,none⟩=some (.iface t2 u2)) (first|exact⟨e0,e1,e2⟩|exact⟨d0,d1,d2⟩|exact⟨p0,p1,p2⟩|go_keep) (first
  | (go_at_call 252;refine(Z.out _).mono ?_;rintro e w8 ⟨rfl,f⟩;have m:Hid<|BW w7 w8:=I ⟨f.os,f.tape,f.output,f.size,f.block⟩;have a0:=I<|A.below m.out;have d0:=a0.cell;have a3:Hid<|WK B b w w8:=b7.trans<|WK.below m.out P.le;clear f)
  | (go_at_call 251;refine(b3.out w8 _ (b8.below m.out) (P.below m.out) (HT.low a3.low Q.out)<|by simp only[Yv,Zb];rw[Y.out];have:=HL.out;have:=H.out;omega).mono ?_;rintro e w9 ⟨rfl,b9,n⟩;have c0:=I<|WK.bat (P.below m.out) n.out a0.out N N;have e0:=c0.cell;have c1:Hid<|WK B b w w9:=a3.trans n.out;clear n));have c2:Hid<|WB w9 B b<|l++ZV (.node x y a p q) 1:=by
  rw[HX,<-U];have:=b9.out;rw[ZX,ZX]at this;simp only[WV]at this⊢;exact this
 go_wp2;go_end0;exact⟨C,c2,c1⟩
theorem zU(G:V1<|.node x y a p q)(U:a.jj=5)(ih:WC p){d:BA}(w:World)(z:Value)(o:bl d=Wu.getD a.op [])(H:Ue w (.slice la ln lc) a.by_)(R:Zo w p z)(B b:Nat)(l:LB)(V:WB w B b l)(Y:Vw w)(Z:20<=B)(hl:l.length+wT (.node x y a p q)<=big):
 CP 221 #[Vp b,.iface 428<|.agg #[.string d,.slice la ln lc,z]] w λe c=>e=.returned (.tuple #[])/\Hid (WB c B b<|l++ZV (.node x y a p q) 1)/\Hid (WK B b w c):=by
 have HX:Hid<|ZV (.node x y a p q) 1=bl _++[32,98,121,32,40]++commas _++[41,32,40]++ZV p 1++[41]:=I<|by rw[QF,uz U,o]
 have a0:Hid<|(ZV p 1).length<=wT p:=I<|Mz p _ G.2.2.2.2.2.2.2.2.2.2.1;have HW:=I V;have HT:=I Y;have HB:=I Z;have r:Hid<|l.length+24+nw a.by_+wT p<=big:=I<|by have h1:Xo a+wT p+wT q=wT (.node x y a p q):=C;unfold Xo at h1;omega
 have HZ:=I R;have a4:=I H;have b8:d.size<=5:=ZE o▸Lv Wu N a.op;obtain⟨ty,u,a5⟩:=Zo.shape R;subst a5;obtain⟨js,J⟩:∃js:BA,js=⟨(commas a.by_).toArray⟩:=⟨_,C⟩;have t:Hid<|bl js=commas _:=I<|by rw[J,Ta]
 have k:Hid _:=ZE t.out▸Oz _;have b9:js.size<=1000000:=by have h1:=k.out;have S:=r.out;unfold big at S;omega
 have a1:∀W,(Op.stringOp _ _ ⟨#[32,98,121,32,40]⟩).run prog W=.ok _ W:=λW=>XV W _ _<|by show d.size+5<=_;omega
 have K:Hid<|(d++⟨#[32,98,121,32,40]⟩).size=d.size+5:=by rw[Xa];rfl
 have a2:∀W,(Op.stringOp _ _ js).run prog W=.ok _ W:=λW=>XV W _ _<|by rw[K];omega
 have L:Hid<|((d++⟨#[32,98,121,32,40]⟩)++js).size=d.size+5+js.size:=I<|by rw[Xa,K]
 have a3:∀W,(Op.stringOp _ _ ⟨#[41,32,40]⟩).run prog W=.ok _ W:=λW=>XV W _ _<|by rw[L];show _+3<=_;omega
 have v:Hid<|(((d++⟨#[32,98,121,32,40]⟩)++js)++⟨#[41,32,40]⟩).size=d.size+5+js.size+3:=by rw[Xa,L];rfl
 clear V Y Z hl U R G o H J;go_enter func221,ntmps221;go_upto_region 15 with fail;refine Zs λW T=>?_;have i:Below _ w W:=T▸Yc;have m:Hid<|Ya W _ _ 428:=T▸YO;have n:=I<|HW.below i;have a6:Hid<|WK B b w W:=WK.below i HW.le;have a7:=I<|HZ.below i;have a8:=I<|a4.below i;clear T i;have p0:=m.cell 0;have p1:=m.cell 1;have p2:=m.cell 2;simp only[Yf]at p0 p1 p2;have M:Hid<|∀c,BW W c->CP 52 #[.slice la ln lc,.string ⟨#[44]⟩] c λe O=>e=.returned (.string js)/\BW c O:=by
  intro c a9;refine(oC _ _ _ _ (a8.below a9)<|by have S:=r.out;unfold big at S;omega).mono ?_;rintro e O ⟨s,rfl,hs,hb⟩;exact⟨by rw[LS.ZbH<|hs.trans t.symm],hb⟩
 have b0:Hid<|BW W _:=I<|(Ym _ _).drew;go_region_held3 (λc=>c.cell? ⟨w.heap.size,0,none⟩=some (.string d)/\c.cell? ⟨w.heap.size,1,none⟩=some (.slice la ln lc)/\c.cell? ⟨w.heap.size,2,none⟩=some (.iface ty u)) (first|exact⟨e0,e1,e2⟩|exact⟨d0,d1,d2⟩|exact⟨p0,p1,p2⟩|go_keep) (first
  | (go_at_call 52;refine(M.out _ b0.out).mono ?_;rintro e w5 ⟨rfl,g⟩;have f:Hid<|BW W w5:=I ⟨g.os,g.tape,g.output,g.size,g.block⟩;have j:=I<|m.below f.out;have d0:=j.cell 0;have d1:=j.cell 1;have d2:=j.cell 2;simp only[Yf]at d0 d1 d2;have P:Hid<|WK B b w w5:=a6.trans<|WK.below f.out n.le;clear g)
  | (go_at_call 92;refine(SX (n.below f.out) _<|by rw[v.out];have:=r.out;have:=k.out;omega).mono ?_;rintro e w6 ⟨rfl,b1,h⟩;have A:=I<|WK.bat (n.below f.out) h.out j.out N N;have e0:=A.cell 0;have e1:=A.cell 1;have e2:=A.cell 2;simp only[Yf]at e0 e1 e2;have Q:Hid<|WK B b w w6:=P.trans h.out;have b2:Hid<|Zo w6 p<|.iface ty u:=I<|Zo.wrote (n.below f.out) h.out<|a7.below f.out;clear h));clear p0 p1 p2 d0 d1 d2 j f P M;go_wp2_with fail;refine(ih _ _ B b _ b2 b1 (HT.low Q.low HB) HB<|by rw[Yv,Zb,v];have:=r.out;have:=k.out;omega).mono ?_;rintro e w7 ⟨rfl,b3,D⟩;have b4:=I<|Q.trans D;clear D e0 e1 e2;go_wp2_with fail;refine(SX b3 _<|by simp only[Yv,Zb];rw[v];show _+1<=_;have:=r.out;have:=k.out;have:=a0.out;omega).mono ?_;rintro e w8 ⟨rfl,b5,F⟩;have b6:=I<|b4.trans F;have b7:Hid<|WB w8 B b<|l++ZV (.node x y a p q) 1:=by
  rw[HX,<-t];have:=b5.out;rw[ZX,ZX,ZX]at this;simp only[WV]at this⊢;exact this
 clear F;go_wp2;go_end0;exact⟨C,b7,b6⟩
theorem FQ:∀t:Tr,V1 t->WC t
 |.nil,_=>λ_ _ _ _ _ h=>h.elim
 |.node x y a p q,c=>by
  have m:=FQ p c.2.2.2.2.2.2.2.2.2.2.1;have o:=FQ q c.2.2.2.2.2.2.2.2.2.2.2;have iwp:=Ay c.2.2.2.2.2.2.2.2.2.2.1 m;have iwq:=Ay c.2.2.2.2.2.2.2.2.2.2.2 o;intro w v B b l u e g i f;rcases u with⟨d,rfl⟩|⟨d,nm,la,ln,lc,rfl,j,k⟩|⟨d,A,nm,la,ln,lc,rfl,j,k,D⟩|⟨d,z,rfl,n⟩|⟨d,A,la,ln,lc,z,rfl,j,k,n⟩|⟨d,z1,z2,rfl,r,s⟩
  .exact zW c d w B b l e g i f
  .exact xW d w j k B b l e f
  .exact xX c d w j k D B b l e g i f
  .exact zV d iwp w z n B b l e g i f
  .exact zU c d m w z j k n B b l e g i f
  .exact xV c d iwp iwq w r s B b l e g i f
theorem BU(c:V1 t)(d:wT t<=100000)(w:World)(h:Zo w t v)(j:Vw w)(k:20<=w.heap.size):
 CP 190 #[v] w λe D=>∃s:BA,e=.returned (.string s)/\Hid (bl s=ZV t 1)/\BW w D:=by
 have l:=I<|FQ t c;have F:=I h;have G:=I j;have m:=I k;have H:=I d;obtain⟨ty,u,n⟩:=Zo.shape h;subst n;clear h j k d c;go_enter func190,ntmps190;go_wp2_with fail;refine Zv λW i=>?_;have a:Below _ w W:=i▸Yc;have o:Hid<|WB W _ _ []:=I ⟨.inl ⟨Yj _,.slice _ 0 0,i▸YO,⟨C,.inl ⟨C,C⟩⟩,by simp[Value.ownBlock]⟩,a.size⟩;have p:=I a;have q:=I<|F.below a;have r:=I<|G.low a m;clear i a;refine(l W _ _ _ _ q o r m<|by have:=H.out;unfold big;simp;omega).mono ?_;rintro e J ⟨rfl,f,x⟩;have A:=I<|p.trans x.low;go_wp2_with fail;refine(Builder_String_any_f _ _ _ _ f.bd f.le).mono ?_;rintro e z ⟨rfl,_,g⟩;have B:=I<|A.trans g;clear g;go_wp2;go_ret;exact⟨_,C,I<|by rw[Ta],B⟩
