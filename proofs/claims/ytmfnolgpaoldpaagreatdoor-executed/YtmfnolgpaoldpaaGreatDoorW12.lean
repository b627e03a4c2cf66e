/- Parts. -/
import Derived.Test.YtmfnolgpaoldpaaGreatDoorW11
import Derived.Test.YtmfnolgpaoldpaaGreatDoorW10
set_option linter.all false
set_option maxRecDepth 100000
set_option maxHeartbeats 16000000
namespace Go.Proofs.YtmfnolgpaoldpaaGreatDoor
open Go.RowKit LS Go.Proofs.Tryz
variable {S:BA}{l:LB}{qs:List<|BA×BA×Bool}{cs:List<|LB×LB×Bool}{a b x y:Nat}{r:Option<|Nd×Nat}{p q:PV}{v w w0:World}
def SF(a:Ah):List Value:=[.bool a.kj,.bool a.kw,.string<|Xp a.jy,.string<|if a.kj then WO a.jx else⟨#[]⟩]
def Sh(x y:LB):LB:=List.zipWith (λa b=>if a=b then b else 45) x y
theorem EN{x y:LB}(h:x.length=y.length):(Sh x y).length=y.length:=by unfold Sh;rw[List.length_zipWith];omega
theorem EM:∀(x y:List Nat),(∀k∈x,k<=3)->(∀k∈y,k<=3)->Sh (x.map kl) (y.map kl)=(Xx x y).map kl
 |[],y,_,_=>by simp[Sh,Xx]
 |a::x,[],_,_=>by simp[Sh,Xx]
 |a::x,b::y,d,f=>by
  have ih:=EM x y (λk c=>d k<|by simp[c]) λk c=>f k<|by simp[c]
  unfold Sh Xx at ih⊢;rw[Wb,Wb,J9,J9,Wb,ih];congr 1;by_cases e:a=b
  .subst e;rw[Ye C,Ye C]
  .rw[Yd e,Yd λh=>e<|Fg (d a Sm) (f b Sm) h];rfl
theorem AQ{a b:UInt8}:((a.toNat:Nat):Int)=((b.toNat:Nat):Int)↔a=b:=by
 constructor
 .intro h;exact TO.1 X
 .intro h;rw[h]
theorem wW{L1:BA}(L:BA)(k:Nat)(a:k<L1.size)(c:k<L.size):(Sh (bl L1)<|bl L).take (k+1)=(Sh (bl L1)<|bl L).take k++[if L1[k]=L[k]then L[k]else 45]:=by
 have d:k<(Sh (bl L1)<|bl L).length:=by unfold Sh;rw[List.length_zipWith,Zb,Zb];omega
 rw[List.take_succ_eq_append_getElem d];congr 2;simp only[Sh,List.getElem_zipWith,SP _ k a,SP L k c]
theorem Ya.setkM{c:List Value}{t:TypeId}(h:Ya w a c t)(i:Nat)(v:Value):Ya (w.setCell ⟨a,i,none⟩ v) a (c.set i v) t:=by
 unfold Ya at h⊢;simp only[World.setCell,V4,h,VE,Wr];show some (Obj.cells (c.toArray.setIfInBounds i v) t (0,0))=_;rw[Of]
def JL(w:World)(a:Nat)(x y z u:Value):World:=(((w.setCell ⟨a,0,none⟩ x).setCell ⟨a,1,none⟩ y).setCell ⟨a,2,none⟩ z).setCell ⟨a,3,none⟩ u
theorem gd{p0 p1 p2 p3 x y z u:Value}{t:TypeId}(h:Ya w a [p0,p1,p2,p3] t):Ya (JL w a x y z u) a [x,y,z,u] t:=
 (((h.setkM 0 x).setkM 1 y).setkM 2 z).setkM 3 u
theorem gf(h:BW w0 w)(c:w0.heap.size<=a)(x y z u:Value):BW w0<|JL w a x y z u:=
 (((h.setCell c _).setCell c _).setCell c _).setCell c _
theorem BK{kn cl:Bool}{S1:BA}(L1:BA){L:BA}(w:World)(G:kn=true->L1.size=L.size)(Y:L.size<=16):
 CP 67 #[.agg #[.bool kn,.bool cl,.string S1,.string L1],.string S,.string L] w λe Q=>e=.returned (if kn then .agg #[.bool true,.bool<|cl||decide (S1≠S),.string S1,.string<|Sq<|Sh (bl L1)<|bl L]else .agg #[.bool true,.bool false,.string S,.string L])/\BW w Q:=by
 cases kn with
 |false=>
  go_enter func67,ntmps67;go_wp2;have g:Ya ((w.alloc<|.cells #[.bool false,.bool cl,.string S1,.string L1] 163).alloc<|.cells #[.bool true,.bool false,.string S,.string L] 163) (w.heap.size+1) [.bool true,.bool false,.string S,.string L] 163:=by
   have:=Go.Deep.blk_alloc_new (w.alloc<|.cells #[.bool false,.bool cl,.string S1,.string L1] 163)<|.cells #[.bool true,.bool false,.string S,.string L] 163;rw[Go.Deep.nblk_alloc]at this;exact this
  have s0:=g.cell 0;have s1:=g.cell 1;have s2:=g.cell 2;have s3:=g.cell 3;simp only[Yf]at s0 s1 s2 s3;have j:Hid<|Below _ w<|(w.alloc<|.cells #[.bool false,.bool cl,.string S1,.string L1] 163).alloc<|.cells #[.bool true,.bool false,.string S,.string L] 163:=I<|((Ym _ w).alloc (Yj _) _).alloc Sm _;clear g;generalize(w.alloc<|.cells #[.bool false,.bool cl,.string S1,.string L1] 163).alloc (.cells #[.bool true,.bool false,.string S,.string L] 163)=WX at*;exact YQ (by simp[results,results67,go_sem,s0,s1,s2,s3]) C ⟨C,j⟩
 |true=>
  have U:=G C;clear G;obtain⟨cl2,f⟩:∃cl2,cl2=(cl||decide (S1≠S)):=⟨_,C⟩;rw[Ye C,<-f];by_cases l:S1=S;case' pos=>
   have H:(S1.toList==S.toList)=true:=by rw[Ov];exact WI l
   have m:cl2=cl:=by rw[f];simp[l]
  case' neg=>
   have H:(S1.toList==S.toList)=false:=by rw[Ov];exact Wl l
   have m:cl2=true:=by rw[f];simp[l]
  all_goals
   clear f l;have J:=I m;clear m;go_enter func67,ntmps67;go_upto_region 5 with fail;refine Zs λW q=>?_;have K:Hid<|Ya W w.heap.size [.bool true,.bool cl2,.string S1,.string L1] 163:=q▸J.out▸Ya.below (show Ya _ _ _ _ from Go.Deep.blk_alloc_new w _) Yc;have g:Hid<|Ya W (w.heap.size+1) [.bool false,.bool false,.string ⟨#[]⟩,.string ⟨#[]⟩] 163:=by
    rw[q];have:=λo=>Go.Deep.blk_alloc_new (w.alloc o)<|.cells #[.bool false,.bool false,.string ⟨#[]⟩,.string ⟨#[]⟩] 163;simp only[Go.Deep.nblk_alloc]at this;exact this _
   have M:Hid<|BW w W:=q▸Yh;clear q H;go_wp2;go_loopw [7,8] (λbv iv wr=>∃(k:Nat)(B:BA),k<=L.size/\iv=E k/\bv=.string B/\Hid (bl B=(Sh (bl L1)<|bl L).take k)/\Hid (Ya wr w.heap.size [.bool true,.bool cl2,.string S1,.string L1] 163)/\Hid (Ya wr (w.heap.size+1) [.bool false,.bool false,.string ⟨#[]⟩,.string ⟨#[]⟩] 163)/\Hid (BW w wr)) (λ_ iv _=>L.size-(intOf iv).toNat);case atStart=>exact⟨0,⟨#[]⟩,Yr _,C,C,I C,K,g,M⟩
   case round=>
    obtain⟨k,B,Z,rfl,rfl,h,d,c,n⟩:=hrel;clear K g M;have r:B.size=k:=by
     rw[<-Zb,h,Xw,EN<|by rwa [Zb,Zb],Zb];omega
    have R:B.size<=16:=X;have V:=I r;clear r;have a0:=d.cell 0;have a1:=d.cell 1;have a2:=d.cell 2;have a3:=d.cell 3;simp only[Yf]at a0 a1 a2 a3;by_cases s:k<L.size
    .have D:k<L1.size:=X;have t:=I<|wW L k D s;have A:bl (L.extract k<|k+1)=[L[k]]:=by
      rw[WL,Ri,show k+1-k=1 by omega,List.drop_eq_getElem_cons<|by rwa [Zb],SP L k s];rfl
     have O:=I A;clear A;have q1:¬9223372036854775807<B.size+1:=X;by_cases i:L1[k]=L[k]
     .have d1:=XL.2<|AQ.2 i;have F:Hid<|bl (B++L.extract k _)=(Sh _ _).take _:=I<|by rw[PT,h,O,t,Ye i]
      go_wp2;go_quiet (fail);go_wp2;go_roundw;case rel=>exact⟨k+1,_,X,by go_num,C,F,I<|d.below<|Wn (Ym _ _) _,I<|c.below<|Wn (Ym _ _) _,I<|Wn n _⟩
      case measure=>simp[intOf];omega
     .have d1:=YB.2 λe=>i<|AQ.1 e;have F:Hid<|bl (B++⟨#[45]⟩)=(Sh (bl L1)<|bl L).take (k+1):=by rw[PT,h,t,Yd i];rfl
      go_wp2;go_quiet (fail);go_wp2;go_roundw;case rel=>exact⟨k+1,_,X,by go_num,C,F,I<|d.below<|Wn (Ym _ _) _,I<|c.below<|Wn (Ym _ _) _,I<|Wn n _⟩
      case measure=>simp[intOf];omega
    .obtain rfl:k=L.size:=X;have T:Hid<|Sq _=B:=I<|LS.ZbH<|by
      rw[K4,h,Wm<|by rw[EN<|by rwa [Zb,Zb],Zb];exact Yj _]
     have f3:=d.frozen 3;have r0:=c.cell 0;have r1:=c.cell 1;have r2:=c.cell 2;have r3:=c.cell 3;simp only[Yf]at r0 r1 r2 r3;have g0:=c.frozen 0;have g1:=c.frozen 1;have g2:=c.frozen 2;have g3:=c.frozen 3;go_wp2;change bodyPost _ _ _ _ _<|JL (wr.setCell ⟨w.heap.size,3,none⟩<|.string B) (w.heap.size+1) (.bool true) (.bool cl2) (.string S1)<|.string B;have P:=(c.other (p:=⟨w.heap.size,3,none⟩) (by show w.heap.size+1≠w.heap.size;omega)<|.string B);have st:=gd P (x:=.bool true) (y:=.bool cl2) (z:=.string S1) (u:=.string B);have s0:=st.cell 0;have s1:=st.cell 1;have s2:=st.cell 2;have s3:=st.cell 3;simp only[Yf]at s0 s1 s2 s3;have j:=I<|gf (a:=w.heap.size+1) (n.setCell (p:=⟨w.heap.size,3,none⟩) (Yj _)<|.string B) X (.bool true) (.bool cl2) (.string S1)<|.string B;clear a0 a1 a2 a3 f3 r0 r1 r2 r3 g0 g1 g2 g3;generalize JL (wr.setCell ⟨w.heap.size,3,none⟩<|.string B) (w.heap.size+1) (.bool true) (.bool cl2) (.string S1) (.string B)=WX at*;exact YQ (v:=.agg #[.bool true,.bool cl2,.string S1,.string B]) (by simp[results,results67,go_sem,s0,s1,s2,s3]) C ⟨by rw[T],j⟩
theorem sw{W:BA}(a:W.size<=S.size)(h:∀j,j<W.size->UY ((bl W).getD j 0) ((bl S).getD (S.size-W.size+j) 0)=true):VU S W=true:=by
 unfold VU;rw[Vu];exact⟨WI a,Tt.2 λj c=>h j<|RY.1 c⟩
theorem Cg{W:BA}(j:Nat)(a:j<W.size)(h:UY ((bl W).getD j 0) ((bl S).getD (S.size-W.size+j) 0)=false):VU S W=false:=by
 unfold VU;rw[Ib];refine .inr<|Qt.2 λc=>?_;have:=Tt.1 c j<|RY.2 a;simp only[h]at this;exact Bool.noConfusion this
theorem Q5{a b:UInt8}:((a.toNat:Nat):Int)=((b.toNat:Nat):Int)↔a=b:=by
 constructor
 .intro h;exact TO.1 X
 .intro h;rw[h]
theorem lU(a b:UInt8):(a=97/\UY a b=true)∨(a≠97/\a=b/\UY a b=true)∨(a≠97/\a≠b/\a=110/\b≠114/\UY a b=true)∨(a≠97/\a≠b/\a=110/\b=114/\UY a b=false)∨(a≠97/\a≠b/\a≠110/\UY a b=false):=by
 unfold UY;by_cases c:a=97
 .subst c;exact .inl ⟨C,C⟩
 .by_cases e:a=b
  .subst e;exact .inr<|.inl ⟨c,C,Sm⟩
  .by_cases d:a=110
   .by_cases f:b=114
    .exact .inr<|.inr<|.inr<|.inl ⟨c,e,d,f,by subst d;subst f;rfl⟩
    .exact .inr<|.inr<|.inl ⟨c,e,d,f,by simp[d,f]⟩
   .exact .inr<|.inr<|.inr<|.inr ⟨c,e,d,by simp[c,e,d]⟩
theorem sA(S W:BA)(D:S.size<=70000)(F:W.size<=2):
 CP 65 #[.string S,.string W] w λe u=>e=.returned (.bool<|VU S W)/\BW w u:=by
 by_cases r:W.size<=S.size
 .obtain⟨T,p⟩:∃T,T=S.extract (S.size-W.size) S.size:=⟨_,C⟩;have B:T.size=W.size:=by rw[p,V5];omega
  have z:Hid<|∀j (q:j<T.size)(s:j<W.size),UY W[j] T[j]=UY ((bl W).getD j 0) ((bl S).getD _ 0):=I (λj q s=>by
   congr 1
   .rw[Y0,List.getElem?_eq_getElem<|by rwa [Zb],SP W j s];rfl
   · have a:(bl T)[j]?=some T[j]:=by rw[List.getElem?_eq_getElem<|by rwa [Zb],SP T j _]
     have c:bl T=(bl S).drop (S.size-W.size):=by rw[p,WL,Wm<|by rw[Zb];exact Yj _]
     rw[c,Kk]at a;rw[Y0,a];rfl);have A:=I p;go_enter func65,ntmps65;go_wp2;rw[<-A];clear p;go_loopw [6] (λiv wr=>∃k:Nat,k<=W.size/\iv=E k/\Hid (∀j,j<k->UY ((bl W).getD j 0) ((bl S).getD (S.size-W.size+j) 0)=true)/\Hid (BW w wr)) (λiv _=>W.size-(intOf iv).toNat);case atStart=>exact⟨0,Yr _,C,I λj q=>absurd q<|Tu _,I<|Ym _ _⟩
  case round=>
   obtain⟨k,G,rfl,x,l⟩:=hrel;by_cases m:k<W.size
   .have v:k<T.size:=X;have t:=z k v m;have n:=I t;clear t;have go (h:UY _ _=true):Hid<|∀j,j<k+1->UY ((bl W).getD j 0) ((bl S).getD _ 0)=true:=I (λj q=>by
    by_cases e:j=k
    .subst e;rw[<-n];exact h
    .exact x j X);have f:=I go;clear go;rcases lU W[k] T[k]with⟨a,g⟩|⟨a,c,g⟩|⟨a,c,i,o,g⟩|⟨a,c,i,o,g⟩|⟨a,c,i,g⟩
    .have d:=f g;have d1:(((W[k].toNat):Int)==97)=true:=by rw[a];rfl
     clear g f;go_wp2;go_quiet (fail);go_wp2;go_roundw;case rel=>exact⟨k+1,X,by go_num,d,I<|(by have:=l.out;first|exact this|exact this.drew|exact Wn this _)⟩
     case measure=>simp[intOf];omega
    .have d:=f g;have d1:(((W[k].toNat):Int)==97)=false:=YB.2 λe=>a<|Q5.1 e;have d2:=XL.2<|Q5.2 c;clear g f a c;go_wp2;go_quiet (fail);go_wp2;go_roundw;case rel=>exact⟨k+1,X,by go_num,d,I<|(by have:=l.out;first|exact this|exact this.drew|exact Wn this _)⟩
     case measure=>simp[intOf];omega
    .have d:=f g;have d1:(((W[k].toNat):Int)==97)=false:=YB.2 λe=>a<|Q5.1 e;have d2:=YB.2 λe=>c<|Q5.1 e;have d3:(((W[k].toNat):Int)==110)=true:=by rw[i];rfl
     have d4:(((T[k].toNat):Int) !=114)=true:=Vg.2 λe=>o<|Q5.1 e;clear g f a c i o;go_wp2;go_quiet (fail);go_wp2;go_roundw;case rel=>exact⟨k+1,X,by go_num,d,I<|(by have:=l.out;first|exact this|exact this.drew|exact Wn this _)⟩
     case measure=>simp[intOf];omega
    .have d:=I<|Cg k m<|by rwa [<-n.out]
     have d1:(((W[k].toNat):Int)==97)=false:=YB.2 λe=>a<|Q5.1 e;have d2:=YB.2 λe=>c<|Q5.1 e;have d3:(((W[k].toNat):Int)==110)=true:=by rw[i];rfl
     have d4:(((T[k].toNat):Int) !=114)=false:=by rw[o];rfl
     clear g f a c i o;go_wp2;go_quiet (fail);go_wp2;go_ret;exact⟨VY d.symm,(by have:=l.out;first|exact this|exact this.drew|exact Wn this _)⟩
    .have d:=I<|Cg k m<|by rwa [<-n.out]
     have d1:(((W[k].toNat):Int)==97)=false:=YB.2 λe=>a<|Q5.1 e;have d2:=YB.2 λe=>c<|Q5.1 e;have d3:(((W[k].toNat):Int)==110)=false:=YB.2 λe=>i<|Q5.1 e;clear g f a c i;go_wp2;go_quiet (fail);go_wp2;go_ret;exact⟨VY d.symm,(by have:=l.out;first|exact this|exact this.drew|exact Wn this _)⟩
   .obtain rfl:k=W.size:=X;have d:=I<|sw r x;go_wp2;go_ret;exact⟨VY d.symm,l⟩
 .have d:Hid<|VU S W=false:=by unfold VU;rw[Wl r];rfl
  go_enter func65,ntmps65;go_wp2;go_ret;exact⟨VY d.symm,Yh⟩
theorem DD:∀(l:List PV)(i:Nat)(p:PV),l[i]?=some p->(TF l)[i*8]?=some (E p.k)
 |[],i,p,h=>by simp at h
 |q::l,0,p,h=>by simp at h;subst h;rfl
 |q::l,i+1,p,h=>by
  rw[J8]at h;have:=DD l i p h;show(q.cells++TF l)[(i+1)*8]?=_;rw[SJ<|by rw[Oy];omega,Oy,show(i+1)*8-8=i*8 by omega];exact this
def E7(w:World)(cb:Nat)(c:Yb)(op arg:Nat):Prop:=op=1->∃(ca pa ga:Option Addr)(iv:Value)(cn cc pc gn gc g:Nat),Ya w cb [.slice ca cn cc,.slice (some ⟨g,0,none⟩) c.jw.length pc,.slice ga gn gc,iv] 69/\arg<c.jw.length/\pa=none/\w.cell? ⟨g,arg*8,none⟩=some (E<|if(c.jw[arg]?.map VF).getD 0=3 then 2 else 1)
theorem X8.pickAt{cb:Nat}{c:Yb}{cv pv gv iv:Value}{l:List PV}{g:List<|Option Addr×Nat×Nat}(h:X8 w cb c cv pv gv iv l g){i op arg:Nat}(j:Zy c i (op,arg)=true):E7 w cb c op arg:=by
 rintro rfl;have a:arg<c.jw.length:=by simpa [Zy]using j
 obtain⟨ca,cc,rfl⟩:=Zd h.cs;obtain⟨gp,pc,rfl⟩:=Zm h.ps X;obtain⟨ga,gc,rfl⟩:=Zd h.gs;have e:arg<l.length:=by rw[h.pl];exact a
 have f:=h.pk arg c.jw[arg] l[arg] (List.getElem?_eq_getElem a)<|List.getElem?_eq_getElem e;have m:=Zc h.ps _ _<|DD l arg l[arg]<|List.getElem?_eq_getElem e;refine⟨ca,none,ga,iv,_,cc,pc,_,gc,gp,h.box,a,C,?_⟩;rw[m,f.k,List.getElem?_eq_getElem a];show some (Value.int .i64<|if 0<(c.jw[arg]).2 then 2 else 1)=some (E<|if VF c.jw[arg]=3 then 2 else 1);unfold VF;by_cases d:0<(c.jw[arg]).2
 .rw[Ye d,Ye d,Ye C]
 .rw[Yd d,Yd d,Yd N]
theorem G0{a b:BA}(h:a=b):Ending.returned (.string a)=.returned (.string b):=by rw[h]
theorem iy(w:World)(cb:Nat)(c:Yb)(op arg:Nat)(took sl:BA)(p:op<=13)(n:arg<65536)(h:E7 w cb c op arg)(f:op=13->arg<sl.size):
 CP 66 #[Vp cb,.agg #[E op,E arg],.string took,.string sl] w λe u=>e=.returned (.string<|Rs c op arg took sl)/\BW w u:=by
 rcases(X:op=1∨op=3∨op=13∨(op=0∨op=2∨op=4∨op=5∨op=6∨op=7∨op=8∨op=9∨op=10∨op=11∨op=12))with rfl|rfl|rfl|o
 .obtain⟨ca,pa,ga,iv,cn,cc,pc,gn,gc,g,d,v,_,j⟩:=h C;have x:=I d;have b1:=d.cell 1;simp only[Yf]at b1;have q:=d.lt;have l:=Xi _ _ j;simp only at l;have r:(arg:Int)<(c.jw.length:Int):=X;have a:Hid<|Rs c 1 arg took sl=if(c.jw[arg]?.map VF).getD 0=3 then⟨#[114]⟩else⟨#[118]⟩:=I C;generalize c.jw.length=np at*;by_cases i:(c.jw[arg]?.map VF).getD 0=3
  .rw[Ye i]at j a;clear i d h;go_enter func66,ntmps66;go_wp2;go_quiet (fail);go_wp2;go_ret;exact⟨G0 a.symm,Yh⟩
  .rw[Yd i]at j a;clear i d h;go_enter func66,ntmps66;go_wp2;go_quiet (fail);go_wp2;go_ret;exact⟨G0 a.symm,Yh⟩
 .clear h f;by_cases k:took=⟨#[115,115]⟩
  .subst k;go_enter func66,ntmps66;go_wp2;go_ret;exact⟨C,Yh⟩
  .have a:Hid<|Rs c 3 arg took sl=⟨#[118]⟩:=I<|Yd k;have s:(took.toList==[115,115])=false:=by
    have m:=(Ov took ⟨#[115,115]⟩).trans<|Wl k;rw[ZA ⟨#[115,115]⟩]at m;exact m
   go_enter func66,ntmps66;go_wp2;go_ret;exact⟨G0 a.symm,Yh⟩
 .have t:=f C;clear h f;go_enter func66,ntmps66;go_wp2;go_ret;exact⟨C,Yh⟩
 .clear h f;rcases o with rfl|rfl|rfl|rfl|rfl|rfl|rfl|rfl|rfl|rfl|rfl;all_goals
  go_enter func66,ntmps66;go_wp2;go_ret;exact⟨C,Yh⟩
theorem Dx (l:List<|BA×BA×Bool)(j:Nat):(TU l)[j*3]?=l[j]?.map (λc=>.string c.1)/\(TU l)[j*3+1]?=l[j]?.map (λc=>.string c.2.1)/\(TU l)[j*3+2]?=l[j]?.map λc=>.bool c.2.2:=by
 induction l generalizing j with
 |nil=>simp[TU]
 |cons r l ih=>
  obtain⟨x,y,z⟩:=r;cases j with
  |zero=>simp[TU]
  |succ j=>
   obtain⟨a,d,e⟩:=ih j;refine⟨?_,?_,?_⟩
   .rw[show(j+1)*3=j*3+1+1+1 by omega];simpa [TU]using a
   .rw[show(j+1)*3+1=j*3+1+1+1+1 by omega];simpa [TU]using d
   .rw[show(j+1)*3+2=j*3+2+1+1+1 by omega];simpa [TU]using e
def SR(qs:List<|BA×BA×Bool)(k:Nat):LB:=commas<|(qs.take k).map λc=>VT<|VL c
theorem um(k:Nat)(h:k<qs.length):SR qs (k+1)=(if k=0 then[]else SR qs k++[44])++VT (VL qs[k]):=by
 unfold SR;rw[List.take_succ_eq_append_getElem h,Y9,PE,GA];by_cases a:k=0
 .subst a;rfl
 .rw[Yd a,Yd];rw[Kq];intro e;have:=congrArg List.length e;rw[Yz,Xw,TP]at this;omega
theorem uK(l:List<|LB×LB×Bool)(k:Nat):cw (l.take k)<=cw l:=by
 induction l generalizing k with
 |nil=>simp
 |cons a l ih=>
  cases k with
  |zero=>simp[cw]
  |succ k=>have:=ih k;simp[cw];omega
theorem uk(k:Nat):(SR qs k).length<=cw (qs.map VL):=by
 unfold SR;have a:=Oz<|(qs.take k).map λc=>VT<|VL c;have d:=Ju<|(qs.take k).map VL;have f:=uK (qs.map VL) k;rw[VD]at d;rw[<-Q3]at f;have e:((qs.take k).map λc=>VT _)=(qs.take k).map (VT∘VL):=C;rw[e]at a⊢;omega
theorem uJ(l:List<|LB×LB×Bool)(k:Nat)(h:k<l.length):l[k].1.length+l[k].2.1.length<=cw l:=by
 induction l generalizing k with
 |nil=>simp at h
 |cons a l ih=>
  cases k with
  |zero=>simp[cw];omega
  |succ k=>have:=ih k (by simpa using h);simp[cw];omega
theorem iY(w:World)(p:PV)(nd:Nd)(B:bl p.nm=nd.name)(P:ZP w 0 p nd.kq)(a5:nd.name.length+cw nd.kq<=200000):
 CP 107 #[.agg #[E p.k,E p.n,E p.op,.string p.nm,.slice p.ca p.cn p.cc,.slice p.ba p.bn p.bc,E p.a,E p.b]] w λe u=>∃r:BA,e=.returned (.string r)/\r.size<=300000/\Hid (bl r=Xl nd)/\BW w u:=by
 obtain⟨qs,s,D⟩:=P;obtain⟨av,cp,Q⟩:=Zd s;injection Q with hv1 hv2 hv3;have K:=ZE B;have J:cw (qs.map VL)<=200000:=by rw[D];omega
 have R:Hid<|∀k (h:k<qs.length),(qs[k]).1.size+(qs[k]).2.1.size<=200000:=I λk h=>by
  have:=uJ (qs.map VL) k<|by simpa using h
  simp only[List.getElem_map,VL,Zb]at this;omega
 have S:=I λk=>Xb (uk k) J;have i:Hid<|bl _=nd.name/\qs.map _=nd.kq:=⟨B,D⟩;have z:Hid<|w.ownsRow 0 268 3 (.slice p.ca qs.length p.cc) qs.length<|TU qs:=by have:=s;rw[hv2]at this;exact this
 have a6:qs.length<=200000:=by
  have:∀l:List _,l.length<=cw l:=λl=>by
   induction l with
   |nil=>exact Yj _
   |cons a l ih=>simp[cw];omega
  have:=this<|qs.map VL;rw[Yz]at this;omega
 clear s hv3 D J B;obtain⟨pk,pn,pop,pnm,pca,pcn,pcc,pba,pbn,pbc,pa,pb⟩:=p;simp only at hv1 hv2 K i z;subst hv2;clear hv1;by_cases T:qs.length=0
 .have d:Hid<|bl pnm=Xl nd:=by
   unfold Xl;rw[<-i.2,Og.1 T];exact i.1
  have U:pnm.size<=300000:=X;go_enter func107,ntmps107;go_wp2;go_ret;exact⟨_,C,U,d,Yc⟩
 .have V:∃g,pca=some ⟨g,0,none⟩:=by
   obtain⟨g,cp',h⟩:=Zm z.out X;injection h with h1;exact⟨g,h1⟩
  obtain⟨g,rfl⟩:=V;have L:=ZN z;have a7:((qs.length:Int)==0)=false:=by rw[YB];omega
  go_enter func107,ntmps107;go_wp2;go_loopw [3,4] (λsv iv wr=>∃(k:Nat)(r:BA),k<=qs.length/\iv=E k/\sv=.string r/\Hid (bl r=SR qs k)/\Hid (Below (w.heap.size+1) (w.alloc<|.cells #[E pk,E pn,E pop,.string pnm,.slice (some ⟨g,0,none⟩) qs.length pcc,.slice pba pbn pbc,E pa,E pb] 59) wr)) (λ_ iv _=>qs.length-(intOf iv).toNat);case atStart=>exact⟨0,⟨#[]⟩,Yr _,C,C,C,Ym _ _⟩
  case round=>
   obtain⟨k,r,hk,rfl,rfl,A,H⟩:=hrel;have F:Yq _ _ ⟨pk,pn,pop,pnm,some _,qs.length,pcc,pba,pbn,pbc,pa,pb⟩:=(H.block _ X).trans<|Go.Deep.blk_alloc_new _ _;have M:w.heap.size+1<=wr.heap.size:=F.lt;obtain⟨k0,k1,k2,k3,k4,k5,k6,k7⟩:=F.all;have a8:r.size<=200000:=ZE A.out▸S.out k;by_cases G:k<qs.length
   .obtain⟨f1,f2,f3⟩:=Dx qs k;rw[List.getElem?_eq_getElem G]at f1 f2 f3;have f:=λj=>((H.cell (p:=⟨g,j,none⟩)<|by show g<w.heap.size+1;omega)).trans<|TN _ _ _ L;have d1:wr.cell? _=some (.string _):=(f _).trans<|Zc z _ _ f1;have d2:wr.cell? _=some (.string _):=(f _).trans<|Zc z _ _ f2;have d3:wr.cell? _=some (.bool _):=(f _).trans<|Zc z _ _ f3;have Y:=R k G;have m:=I<|um k G;generalize qs[k]=c at*;obtain⟨x,y,v⟩:=c;simp only at d1 d2 d3 Y;clear f1 f2 f3 f F;have add:∀(a b:BA),a.size+b.size<=2000000->∀W,(Op.stringOp _ a b).run prog W=.ok _ W:=λa b h W=>XV W a b X;have t:=I λo=>H.alloc M o;by_cases a9:0<(k:Int)
    .cases v
     .have d:Hid<|bl (((((r++⟨#[44]⟩)++x)++⟨#[61,34]⟩)++y)++⟨#[34]⟩)=SR _ _:=I<|by
       rw[m,Yd X,ZX,ZX,ZX,ZX,ZX,A];simp[VT,VL,SR,bl]
      have a0:=add r ⟨#[44]⟩<|by show r.size+1<=_;omega
      have z0:(r++⟨#[44]⟩).size=r.size+1:=(by rw[Xa];rfl);have z1:((r++⟨#[44]⟩)++x).size=r.size+1+x.size:=by rw[Xa,z0]
      have z2:(((r++⟨#[44]⟩)++x)++⟨#[61,34]⟩).size=r.size+1+x.size+2:=by rw[Xa,z1];rfl
      have z3:((((r++⟨#[44]⟩)++x)++⟨#[61,34]⟩)++y).size=r.size+1+x.size+2+y.size:=by rw[Xa,z2]
      have a1:=add (r++⟨#[44]⟩) x X;have a2:=add _ ⟨#[61,34]⟩<|by rw[z1];show _+2<=_;omega
      have a3:=add (((r++⟨#[44]⟩)++x)++⟨#[61,34]⟩) y X;have a4:=add _ ⟨#[34]⟩<|by rw[z3];show _+1<=_;omega
      clear z0 z1 z2 z3 m;go_wp2;go_roundw;case rel=>exact⟨k+1,_,X,by go_num,C,d,t _⟩
      case measure=>simp[intOf];omega
     .have d:Hid<|bl (((((r++⟨#[44]⟩)++x)++⟨#[33,61,34]⟩)++y)++⟨#[34]⟩)=SR _ _:=I<|by
       rw[m,Yd X,ZX,ZX,ZX,ZX,ZX,A];simp[VT,VL,SR,bl]
      have a0:=add r ⟨#[44]⟩<|by show r.size+1<=_;omega
      have z0:(r++⟨#[44]⟩).size=r.size+1:=(by rw[Xa];rfl);have z1:((r++⟨#[44]⟩)++x).size=r.size+1+x.size:=by rw[Xa,z0]
      have z2:(((r++⟨#[44]⟩)++x)++⟨#[33,61,34]⟩).size=r.size+1+x.size+3:=by rw[Xa,z1];rfl
      have z3:((((r++⟨#[44]⟩)++x)++⟨#[33,61,34]⟩)++y).size=r.size+1+x.size+3+y.size:=by rw[Xa,z2]
      have a1:=add (r++⟨#[44]⟩) x X;have a2:=add _ ⟨#[33,61,34]⟩<|by rw[z1];show _+3<=_;omega
      have a3:=add (((r++⟨#[44]⟩)++x)++⟨#[33,61,34]⟩) y X;have a4:=add _ ⟨#[34]⟩<|by rw[z3];show _+1<=_;omega
      clear z0 z1 z2 z3 m;go_wp2;go_roundw;case rel=>exact⟨k+1,_,X,by go_num,C,d,t _⟩
      case measure=>simp[intOf];omega
    .cases v
     .have d:Hid<|bl ((((r++x)++⟨#[61,34]⟩)++y)++⟨#[34]⟩)=SR _ _:=I<|by
       have q:k=0:=X;rw[m,Ye q,ZX,ZX,ZX,ZX,A,q];simp[VT,VL,SR,commas,bl]
      have z0:r.size=r.size:=C;have z1:(r++x).size=r.size+x.size:=by rw[Xa,z0]
      have z2:((r++x)++⟨#[61,34]⟩).size=r.size+x.size+2:=by rw[Xa,z1];rfl
      have z3:(((r++x)++⟨#[61,34]⟩)++y).size=r.size+x.size+2+y.size:=by rw[Xa,z2]
      have a1:=add r x X;have a2:=add _ ⟨#[61,34]⟩<|by rw[z1];show _+2<=_;omega
      have a3:=add ((r++x)++⟨#[61,34]⟩) y X;have a4:=add _ ⟨#[34]⟩<|by rw[z3];show _+1<=_;omega
      clear z0 z1 z2 z3 m;go_wp2;go_roundw;case rel=>exact⟨k+1,_,X,by go_num,C,d,t _⟩
      case measure=>simp[intOf];omega
     .have d:Hid<|bl ((((r++x)++⟨#[33,61,34]⟩)++y)++⟨#[34]⟩)=SR _ _:=I<|by
       have q:k=0:=X;rw[m,Ye q,ZX,ZX,ZX,ZX,A,q];simp[VT,VL,SR,commas,bl]
      have z0:r.size=r.size:=C;have z1:(r++x).size=r.size+x.size:=by rw[Xa,z0]
      have z2:((r++x)++⟨#[33,61,34]⟩).size=r.size+x.size+3:=by rw[Xa,z1];rfl
      have z3:(((r++x)++⟨#[33,61,34]⟩)++y).size=r.size+x.size+3+y.size:=by rw[Xa,z2]
      have a1:=add r x X;have a2:=add _ ⟨#[33,61,34]⟩<|by rw[z1];show _+3<=_;omega
      have a3:=add ((r++x)++⟨#[33,61,34]⟩) y X;have a4:=add _ ⟨#[34]⟩<|by rw[z3];show _+1<=_;omega
      clear z0 z1 z2 z3 m;go_wp2;go_roundw;case rel=>exact⟨k+1,_,X,by go_num,C,d,t _⟩
      case measure=>simp[intOf];omega
   .obtain rfl:k=qs.length:=X;have d:Hid<|bl (((pnm++⟨#[123]⟩)++r)++⟨#[125]⟩)=Xl nd:=by
     unfold Xl;rw[Yd<|by rw[<-i.2];intro e;have:=congrArg List.length e;rw[Yz,TP]at this;omega,ZX,ZX,ZX,A,i.1,<-i.2];unfold SR;rw[X1,VD];rfl
    have z1:(pnm++⟨#[123]⟩).size=pnm.size+1:=by rw[Xa];rfl
    have z2:((pnm++⟨#[123]⟩)++r).size=pnm.size+1+r.size:=by rw[Xa,z1]
    have z3:(((pnm++⟨#[123]⟩)++r)++⟨#[125]⟩).size=pnm.size+1+r.size+1:=by rw[Xa,z2];rfl
    have Z:Hid<|(((pnm++⟨#[123]⟩)++r)++⟨#[125]⟩).size<=300000:=I<|by
     have h2:=G6 nd;rw[<-d,Zb]at h2;omega
    have a1:∀W,(Op.stringOp _ _ ⟨#[123]⟩).run prog W=.ok _ W:=λW=>XV W _ _<|by show pnm.size+1<=_;omega
    have a2:∀W,(Op.stringOp _ (pnm++⟨#[123]⟩) r).run prog W=.ok _ W:=λW=>XV W _ _ X;have a3:∀W,(Op.stringOp _ _ ⟨#[125]⟩).run prog W=.ok _ W:=λW=>XV W _ _<|by rw[z2];show _+1<=_;omega
    have O:=I<|((Ym _ w).alloc (Yj _) _).trans<|H.mono X;clear z1 z2 z3;go_wp2;go_ret;exact⟨_,C,Z,d,O⟩
theorem iV{x:Nat×Nat}(h:Z5 l=.error x):Xg l=none:=by unfold Xg;rw[h]
theorem Bu{a:Nd}{p q:Tr}(h:Z5 l=.ok (.node x y a p q))(c:a.jj≠1):Xg l=none:=by
 unfold Xg;rw[h];simp only;rw[Yd λe=>c e.1]
theorem iX{a:Nd}{p q:Tr}(h:Z5 l=.ok (.node x y a p q))(c:a.jj=1)(d:Xl a=l):Xg l=some a:=by
 unfold Xg;rw[h];simp only;rw[Ye ⟨c,d⟩]
theorem iW{a:Nd}{p q:Tr}(h:Z5 l=.ok (.node x y a p q))(c:¬Xl a=l):Xg l=none:=by
 unfold Xg;rw[h];simp only;rw[Yd λe=>c e.2]
def RR(p:PV):Value:=.agg #[E p.k,E p.n,E p.op,.string p.nm,.slice p.ca p.cn p.cc,.slice p.ba p.bn p.bc,E p.a,E p.b]
def XM:PV:=⟨0,0,0,⟨#[]⟩,none,0,0,none,0,0,0,0⟩
def RJ(w:World)(r:Option<|Nd×Nat)(p:PV)(ok:Value):Prop:=match r with
 |none=>ok=.bool false
 |some x=>ok=.bool true/\Vq w x p
theorem RJ.mkNone(h:r=none):RJ w r p<|.bool false:=by subst h;rfl
theorem RJ.mkSome{x:Nd×Nat}(h:r=some x)(a:Vq w x p):RJ w r p<|.bool true:=by subst h;exact⟨C,a⟩
structure O0 (w:World)(b:Nat)(g cp:Nat)(a:Nd)(p:PV):Prop where
 at0:w.cell? ⟨b,0,none⟩=some (.slice (some ⟨g,0,none⟩) 1 cp)
 c:∀i,i<8->w.cell? ⟨g,i,none⟩=p.cells[i]?
 k:p.k=a.jj
 nm:bl p.nm=a.name
 cs:ZP w 0 p a.kq
 sz:a.name.length+cw a.kq<=200000
theorem gC{a:Nd}{l r:Tr}(h:E8 w b<|.node x y a l r):
 ∃(g cp n:Nat),w.cell? ⟨b,0,none⟩=some (.slice (some ⟨g,0,none⟩) (n+1) cp)/\n+1<=301/\(n≠0->a.jj≠1)/\(n=0->∃p,O0 w b g cp a p):=by
 obtain⟨pv,n,xs,c,m,o,q,_,s,t⟩:=h;obtain⟨g,cp,rfl⟩:=Zm c.own X;refine⟨g,cp,n,c.cell,m,λf A=>?_,λf=>?_⟩
 .obtain⟨u,j⟩:=q.2.2.2.2.2.2.2.2.1 X;cases l with
  |node _ _ _ _ _=>cases u
  |nil=>cases r with
   |node _ _ _ _ _=>cases j
   |nil=>
    have:n+1=0+0+1:=t;omega
 .subst f;obtain⟨p,_,_,k,d,_⟩:=o;refine⟨p,c.cell,λi v=>?_,d.1,d.2.2.2.1,d.2.2.2.2.1,?_⟩
  .rw[<-k,MZ,PF,Kj,Ye v];have e:i<xs.length:=by
    have:=congrArg List.length k;rw[MZ,PF,Xw,Oy]at this;omega
   rw[List.getElem?_eq_getElem e];exact Zc c.own _ _<|List.getElem?_eq_getElem _
  .have z:Xo a+wT l+wT r<=100000:=s;unfold Xo at z;omega
def Nf(w:World)(a:Nat)(p:PV):World:=(((((((w.setCell ⟨a,0,none⟩<|E p.k).setCell ⟨a,1,none⟩<|E p.n).setCell ⟨a,2,none⟩<|E p.op).setCell ⟨a,3,none⟩<|.string p.nm).setCell ⟨a,4,none⟩<|.slice p.ca p.cn p.cc).setCell ⟨a,5,none⟩<|.slice p.ba p.bn p.bc).setCell ⟨a,6,none⟩<|E p.a).setCell ⟨a,7,none⟩<|E p.b
theorem iD{t:TypeId}(h:Ya w a q.cells t):Ya (Nf w a p) a p.cells t:=
 (((((((h.setkM 0 _).setkM 1 _).setkM 2 _).setkM 3 _).setkM 4 _).setkM 5 _).setkM 6 _).setkM 7 _
theorem OM{P:Program}{fn:Func}{R:Ending->World->Prop}{a:Act}{t:TypeId}{r:Value}(c:∀W:World,(∀i,W.cell? ⟨b,i,none⟩=p.cells[i]?)->(results fn a.tmps).run P W=.ok r W)(hd:a.defers=[])(h:Ya v b q.cells t)(d:R (.returned r)<|Nf v b p):bodyPost P fn R .ret a<|Nf v b p:=YQ (c _ (iD h).cell) hd d
theorem OR(h:BW w0 w)(c:w0.heap.size<=a)(p:PV):BW w0<|Nf w a p:=
 (((((((h.setCell c _).setCell c _).setCell c _).setCell c _).setCell c _).setCell c _).setCell c _).setCell c _
theorem iE{k:Nat}(c:k≠a):(Nf w a p).heap[k]?=w.heap[k]?:=by
 unfold Nf;iterate 8 rw[Go.Deep.blk_setCell_other _ _ _ _ c]
theorem ZP.set8(h:ZP w 0 p cs)(d:Ya w a q.cells 59)(p':PV):ZP (Nf w a p') 0 p cs:=by
 obtain⟨qs,c,e⟩:=h;refine⟨qs,ZJ c λk f=>iE ?_,e⟩;rintro rfl;exact ZD c d N f.symm
theorem ZP.set1{i:Nat}{v:Value}(h:ZP w 0 p cs)(d:Ya w a q.cells 59):ZP (w.setCell ⟨a,i,none⟩ v) 0 p cs:=by
 obtain⟨qs,c,e⟩:=h;refine⟨qs,ZJ c λk f=>Go.Deep.blk_setCell_other _ _ _ _ ?_,e⟩;rintro rfl;exact ZD c d N f.symm
theorem pE (t:BA)(h:0<t.size):(bl t).getLast?=some (t[t.size-1]' X):=by
 rw[Kd,Zb,List.getElem?_eq_getElem<|by rw[Zb];omega,SP t _ _]
theorem nj(t:BA)(p:Nat):bl (t.extract (p+1)<|t.size-1)=((bl t).drop<|p+1).dropLast:=by
 rw[WL,Ej,Ur,Zb,Ri];congr 1;omega
theorem Ag(t:BA)(p:Nat):bl (t.extract 0 p)=(bl t).take p:=by rw[WL,PF]
theorem mL{t:BA}(w:World)(ht:t.size<=65535):
 CP 60 #[.string t] w λe u=>∃(p:PV)(ok:Value),e=.returned (.tuple #[RR p,ok])/\Hid (RJ u (ZL<|bl t) p ok)/\BW w u:=by
 go_enter func60,ntmps60;go_wp2_with fail;refine Zv λW hW=>?_;have b3:Below _ w W:=hW▸Yc;have A:Hid<|Ya W _ XM.cells 59:=hW▸(show Ya _ _ _ _ from Go.Deep.blk_alloc_new w _);have S:=I b3;clear hW b3;obtain⟨rb,a1⟩:∃rb,rb=w.heap.size:=⟨_,C⟩;rw[<-a1]at A⊢;have H:w.heap.size<=rb:=X;clear a1;refine(Bp t 91 W X).mono ?_;rintro e w1 ⟨rfl,rfl⟩;rename World=>w1;obtain⟨pI,a2⟩:∃pI,Pq 91 (bl t)=pI:=⟨_,C⟩;rw[a2];have b4:=I a2;clear a2;go_upto_if 15 with fail;go_cut [5,6] (λs5 s6 wx=>∃(sel:BA)(nz:Nat),s5=E nz/\s6=.string sel/\sel.size<=70000/\wx=w1/\Hid (ZL (bl t)=(Xg<|bl sel).map λa=>(a,nz))/\nz<=1000/\Hid ((pI=-1/\nz=0)∨(0<=pI/\pI<=70000/\0<nz)));case first=>
  cases hs:LS.seek 91 (bl t)with
  |none=>
   have hn:pI=-1:=by rw[<-b4,G3 hs]
   subst hn;go_wp2;go_meet;exact⟨t,0,C,C,X,C,I<|by unfold ZL;rw[hs],N,I Sm⟩
  |some p=>
   have hn:pI=(p):=by rw[<-b4,G4 hs]
   subst hn;have hp:p<t.size:=by
    have:=NI hs;rwa [Zb]at this
   have J:=pE t X;have d:Hid<|ZL (bl t)=if(bl t).getLast?=some 93 then(match ZC 1000 ((bl t).drop<|p+1).dropLast with
    |some n=>if n=0 then none else(Xg<|(bl t).take p).map λa=>(a,n)
    |none=>none)else none:=by unfold ZL;rw[hs];rfl
   by_cases B:(bl t).getLast?=some 93
   .have hc:t[t.size-1]' X=93:=by rw[J]at B;injection B
    have d93:(((t[t.size-1]' X).toNat:Int) !=93)=false:=by rw[hc];rfl
    have b5:¬p=t.size-1:=by
     intro e;obtain⟨a,b,h1,h2,_⟩:=Pr hs;have h3:(bl t)[p]?=some 91:=by rw[h1,<-h2];simp
     rw[Kd,Zb,<-e,h3]at B;exact absurd B N
    have d7:p+1<=t.size-1:=X;rw[Ye B]at d;clear hc J B b5;go_wp2_with fail;refine(An _ 1000 _ (by rw[V5];omega) N).mono ?_;rintro e w2 ⟨rfl,rfl⟩;rename World=>w1;rw[nj t p];obtain⟨l1,b6⟩:∃l1,l1=((bl t).drop<|p+1).dropLast:=⟨_,C⟩;rw[<-b6]at d⊢;clear b6;have c7:=Ny 1000 l1;obtain⟨nI,a3⟩:∃nI,YL 1000 l1=nI:=⟨_,C⟩;rw[a3]at c7⊢;have a4:=I a3;clear a3;by_cases h1:nI<1
    .have G:Hid<|ZL _=none:=I<|by
      rw[d];cases R:ZC 1000 l1 with
     |none=>rfl
     |some n=>
      have:=a4.out;rw[RB R]at this;simp only;rw[Ye X]
     clear d d93;have z:=A.cell;simp only[XM,PV.cells]at z;have f:=A.frozen;go_wp2;exact OM (p:=XM) (λW c=>by simp[results,results60,go_sem,RR,XM,c,PV.cells]) C A.out ⟨XM,_,C,I<|RJ.mkNone G.out,OR S.out H XM⟩
    .obtain⟨n,rfl⟩:∃n:Nat,nI=n:=⟨nI.toNat,X⟩;have c8:0<n:=X;have G:Hid<|ZL _=(Xg<|bl _).map _:=I<|by
      rw[d,Ag];cases R:ZC 1000 l1 with
     |none=>have:=a4.out;rw[P1 R]at this;omega
     |some m=>
      have:=a4.out;rw[RB R]at this;obtain rfl:m=n:=X;simp only;rw[Yd X]
     clear d d93;go_wp2;go_meet;exact⟨_,n,C,C,by rw[V5];omega,C,G,X,I<|.inr ⟨X,X,c8⟩⟩
   .have d93:(((t[t.size-1]' X).toNat:Int) !=93)=true:=by
      rw[Vg];intro e;exact B<|by rw[J];congr 1;exact TO.1<|by show _=93;omega
    have G:Hid<|ZL _=none:=I<|by rw[d,Yd B]
    clear J B d;have z:=A.cell;simp only[XM,PV.cells]at z;have f:=A.frozen;go_wp2;exact OM (p:=XM) (λW c=>by simp[results,results60,go_sem,RR,XM,c,PV.cells]) C A.out ⟨XM,_,C,I<|RJ.mkNone G.out,OR S.out H XM⟩
 case rest=>
 obtain⟨sel,nz,rfl,rfl,d5,rfl,d,d8,b7⟩:=hcut;rename World=>w1;go_wp2_with fail;refine(gB X).mono ?_;rintro e w2 ⟨⟨v,cn,pn,rfl,U⟩,a5⟩;have O:Hid<|BW w w2:=I<|S.trans<|a5.mono S.size;have j:=I<|A.below a5;clear a5 A S;cases D:Z5 (bl sel)with
 |error x=>
  obtain⟨h1,_,h3,h4⟩:=U.1 x D;subst h4;have G:Hid<|ZL (bl t)=none:=by rw[d,iV D];rfl
  have d9:((cn:Int) !=0)=true:=by rw[Vg];omega
  clear U h1 h3 D;have z:=j.cell;simp only[XM,PV.cells]at z;have f:=j.frozen;go_wp2;exact OM (p:=XM) (λW c=>by simp[results,results60,go_sem,RR,XM,c,PV.cells]) C j.out ⟨XM,_,C,I<|RJ.mkNone G.out,OR O.out H XM⟩
 |ok tr=>
  obtain⟨h1,_,b,h4,e0,V⟩:=U.2 _ D;subst h1 h4;cases tr with
  |nil=>
   obtain⟨_,_,_,_,_,_,_,c4,_⟩:=V;cases c4
  |node tx ty a l r=>
   obtain⟨g,cp,n,a6,e3,a7,a8⟩:=gC V;have c9:=I a8;have e4:=I V;clear U V a8;have Y:=Xi _ _ a6;simp only at Y;by_cases b8:n=0
   .subst b8;obtain⟨p,i⟩:=c9.out C;have i:=I i;have p0:=i.c 0 N;have p1:=i.c 1 N;have p2:=i.c 2 N;have p3:=i.c 3 N;have p4:=i.c 4 N;have p5:=i.c 5 N;have p6:=i.c 6 N;have p7:=i.c 7 N;simp only[PV.cells,Yf]at p0 p1 p2 p3 p4 p5 p6 p7;have o:=Xi _ _ p0;simp only at o;by_cases P:a.jj=1
    .have Z:p.k=1:=by rw[i.k,P];rfl
     have d0:=I Z;rw[Z]at p0;clear Z a7;go_wp2_with fail;rw[<-d0];refine(iY _ p a i.nm i.cs i.sz).mono ?_;rintro e w3 ⟨r3,rfl,e5,a9,K⟩;have T:=I<|O.trans<|K.mono O.size;have Q:=I<|j.below K;have s:Hid<|∀q:Addr,q.block<w2.heap.size->w3.cell? q=w2.cell? q:=I λq D=>K.cell D;have d1:=(s _ Y).trans a6;have b0:=I<|i.cs.below' K;have q0:=(s _ o).trans p0;have q1:=(s _ o).trans p1;have q2:=(s _ o).trans p2;have q3:=(s _ o).trans p3;have q4:=(s _ o).trans p4;have q5:=(s _ o).trans p5;have q6:=(s _ o).trans p6;have q7:=(s _ o).trans p7;have c5:=WH Y K.size;have c6:=WH o K.size;clear p0 p1 p2 p3 p4 p5 p6 p7 a6 K Y o s j O;by_cases L:Xl a=bl sel
     .have d2:=LS.ZbH<|a9.trans L;subst d2;have b9:Hid<|ZL (bl t)=some (a,nz):=by rw[d,iX D P L];rfl
      clear L D P d;go_upto_if 82 with fail;refine Zs λW4 b1=>?_;have a0:Below _ _ _:=b1▸Yc;have M:Hid<|Ya _ _ ({p with k:=1}).cells 59:=b1▸(show Ya _ _ _ _ from Go.Deep.blk_alloc_new w3 _);have F:=I<|Q.below a0;have c0:=I<|T.trans<|a0.mono T.size;have b2:=I<|b0.below' a0;have c1:¬w3.heap.size=rb:=by have:=Q.lt;omega
      have c2:=T.size;clear b1 a0 q0 q1 q2 q3 q4 q5 q6 q7 d1 c5 c6 b0 Q T;generalize w3.heap.size=xa at*;rcases b7.out with⟨e1,e2⟩|⟨e1,e1b,e2⟩
      .subst e1 e2;have z:=F.cell;simp only[XM,PV.cells]at z;have f:=F.frozen;have x:=M.cell;simp only[PV.cells]at x;have d3:=F.lt;have d4:=M.lt;go_wp2;exact OM (p:={p with k:=1}) (r:=.tuple #[RR {p with k:=1},.bool true]) (λW c=>by simp[results,results60,go_sem,RR,c,PV.cells]) C F.out ⟨_,_,C,I<|RJ.mkSome b9.out ⟨by rfl,λh=>absurd h<|Tu _,i.nm,b2.set8 F.out _⟩,OR c0.out H _⟩
      .clear b7;have z:=F.cell;simp only[XM,PV.cells]at z;have f:=F.frozen;have x:=M.cell;simp only[PV.cells]at x;have d3:=F.lt;have d4:=M.lt;have xf:=M.frozen;have c3:=I<|(F.other (p:=⟨xa,0,none⟩) (λe=>c1 e.symm)<|E 2).other (p:=⟨xa,1,none⟩) (λe=>c1 e.symm)<|E nz;go_wp2;exact OM (p:={p with k:=2,n:=nz}) (r:=.tuple #[RR {p with k:=2,n:=nz},.bool true]) (λW c=>by simp[results,results60,go_sem,RR,c,PV.cells]) C c3.out ⟨_,_,C,I<|RJ.mkSome b9.out ⟨by show(2:Int)=if 0<nz then 2 else 1;rw[Ye e2],λ_=>C,i.nm,((b2.set1 M.out).set1 (q:={p with k:=2})<|M.setkM 0 _).set8 c3.out _⟩,OR ((c0.setCell (p:=⟨xa,0,none⟩) c2<|E 2).setCell (p:=⟨xa,1,none⟩) c2<|E nz) H _⟩
     .have b5:(r3.toList !=sel.toList)=true:=by
       rw[Vg];intro e;exact L<|by rw[<-a9,<-ZA,<-ZA,e]
      have d6:(r3.toList==sel.toList)=false:=by
       rw[YB];intro e;exact L<|by rw[<-a9,<-ZA,<-ZA,e]
      have G:Hid<|ZL (bl t)=none:=by rw[d,iW D L];rfl
      clear L D P d;have z:=Q.cell;simp only[XM,PV.cells]at z;have f:=Q.frozen;go_wp2;exact OM (p:=XM) (λW c=>by simp[results,results60,go_sem,RR,XM,c,PV.cells]) C Q.out ⟨XM,_,C,I<|RJ.mkNone G.out,OR T.out H XM⟩
    .have Z:((p.k) !=1)=true:=by rw[Vg,i.k];omega
     have G:Hid<|ZL (bl t)=none:=by rw[d,Bu D P];rfl
     clear P D;have z:=j.cell;simp only[XM,PV.cells]at z;have f:=j.frozen;go_wp2;exact OM (p:=XM) (λW c=>by simp[results,results60,go_sem,RR,XM,c,PV.cells]) C j.out ⟨XM,_,C,I<|RJ.mkNone G.out,OR O.out H XM⟩
   .have e6:((IntKind.i64.wrap<|(n)+1) !=1)=true:=by rw[Vg,Us];omega
    have G:Hid<|ZL (bl t)=none:=by rw[d,Bu D<|a7 b8];rfl
    clear D a7;have z:=j.cell;simp only[XM,PV.cells]at z;have f:=j.frozen;go_wp2;exact OM (p:=XM) (λW c=>by simp[results,results60,go_sem,RR,XM,c,PV.cells]) C j.out ⟨XM,_,C,I<|RJ.mkNone G.out,OR O.out H XM⟩
