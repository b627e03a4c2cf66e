/- Parts. -/
import Derived.Test.YtmfnolgpaoldpaaGreatDoorX13
set_option linter.all false
set_option maxRecDepth 100000
set_option maxHeartbeats 16000000
namespace Go.Proofs.YtmfnolgpaoldpaaGreatDoor
open Go.RowKit LS Go.Proofs.Tryz
open Go renaming World->Y,Value->F
open Go.RowKit renaming Hid->U
variable {tmps:Array F}{nm tx:BA}{r:Except (Nat×Nat)<|Yb×Nat×Nat}{err v:F}{fn:Func}{m t:Int}{L:List El}{bs xs:List F}{sl st:List Nat}{qs:List<|BA×BA}{l:List<|Int×Int}{b1 b2 base cap cp i lc ln n o off size:Nat}{A:Nat->Addr}{fr x:Nat×Nat}{nd:Nd}{a av la:Option Addr}{P:Program}{c:UInt8}{p:Xc}{w w':Y}
def Eb(r:Except (Nat×Nat)<|Yb×Nat×Nat):Nat×Nat×Nat×Nat:=match r with
 |.ok x=>(x.2.1,x.2.2,0,0)
 |.error x=>(0,0,x.1,x.2)
def UK(w:Y)(err:F)(c p:Nat):Prop:=∀W,BW w W->CP 12 #[err] W (λe w'=>e=.returned (E c)/\w'=W)/\CP 13 #[err] W λe w'=>e=.returned (E p)/\BW W w'
theorem Vm.asks(h:Vm w A x err)(g:YD w A m):UK w err x.1 x.2:=by
 intro W f;obtain⟨x1,x2⟩:=x;have a:=g.below f;rcases h.below f with⟨c,fa,rfl,d,e⟩|⟨c,rfl⟩|⟨c,fa,rfl,d,e⟩|⟨c,fa,rfl,d,e⟩
 .simp only at c;subst c;exact⟨nL A m W a e,LG A m W a d⟩
 .injection c with hx1 hx2;subst hx1 hx2;exact⟨oO A m W a,LF A m W a⟩
 .simp only at c;subst c;exact⟨oL A m W a e,LG A m W a d⟩
 .simp only at c;subst c;exact⟨oM A m W a e,LG A m W a d⟩
theorem U7.asks{n:F}(h:U7 w A r v n err)(d:YD w A m):
 ∃a b c p:Nat,n=.agg #[E a,E b]/\U (Eb r=(a,b,c,p))/\U (UK w err c p):=by
 cases r with
 |ok x=>
  obtain⟨_,rfl,rfl⟩:=h;exact⟨_,_,0,0,C,I C,I λW e=>⟨Fz A m W<|d.below e,GU W⟩⟩
 |error x=>
  obtain⟨rfl,h⟩:=h;exact⟨0,0,x.1,x.2,C,I C,I<|h.asks d⟩
def Uv:List Ah->List F
 |[]=>[]
 |a::l=>SE a++Uv l
theorem PQ(a:Ah):(SE a).length=4:=rfl
theorem Dp:∀l:List Ah,(Uv l).length=4*l.length
 |[]=>C
 |a::l=>by
  show(SE a++Uv l).length=_;rw[Yx,PQ,Dp l,Y1];omega
theorem Rn:∀(l:List Ah)(i j:Nat),i<l.length->j<4->(Uv l)[i*4+j]?=(SE<|l.getD i Ys)[j]?
 |[],i,j,h,_=>absurd h<|Tu _
 |a::l,0,j,_,c=>by
  show(SE a++Uv l)[0*4+j]?=(SE a)[j]?;rw[MZ,SI,PA<|by rwa [PQ]]
 |a::l,i+1,j,h,c=>by
  have:=Rn l i j (by simpa using h) c;show(SE a++Uv l)[(i+1)*4+j]?=(SE<|l.getD i Ys)[j]?;rw[Rg<|by rw[PQ];omega,PQ,show(i+1)*4+j-4=i*4+j by omega];exact this
theorem Dq:∀(l:List Ah)(i:Nat)(b:Ah)(v0 v1 v2 v3:F),SE b=[v0,v1,v2,v3]->i<l.length->((((Uv l).set (i*4) v0).set (i*4+1) v1).set (i*4+2) v2).set (i*4+3) v3=Uv (l.set i b)
 |[],i,b,_,_,_,_,_,h=>absurd h<|Tu _
 |a::l,0,b,v0,v1,v2,v3,c,_=>by
  show((((SE a++Uv l).set 0 v0).set 1 v1).set 2 v2).set 3 v3=SE b++Uv l;rw[c];rfl
 |a::l,i+1,b,v0,v1,v2,v3,c,h=>by
  have ih:=Dq l i b _ _ _ _ c<|by simpa using h
  show((((SE a++Uv l).set ((i+1)*4) v0).set ((i+1)*4+1) v1).set ((i+1)*4+2) v2).set ((i+1)*4+3) v3=SE a++Uv (l.set i b);rw[Ve _ _<|by rw[PQ];omega,Ve _ _<|by rw[PQ];omega,Ve _ _<|by rw[PQ];omega,Ve _ _<|by rw[PQ];omega,PQ,
   show(i+1)*4-4=i*4 by omega,show(i+1)*4+1-4=i*4+1 by omega,show(i+1)*4+2-4=i*4+2 by omega,show(i+1)*4+3-4=i*4+3 by omega,ih]
def Pr(w:Y)(g o:Nat)(x y z u:F):Y:=(((w.setCell ⟨g,o,none⟩ x).setCell ⟨g,o+1,none⟩ y).setCell ⟨g,o+2,none⟩ z).setCell ⟨g,o+3,none⟩ u
theorem A2{g:Nat}{l:List Ah}{b:Ah}{v0 v1 v2 v3:F}{t:TypeId}(h:Ya w g (Uv l) t)(a:i<l.length)(c:SE b=[v0,v1,v2,v3]):Ya (Pr w g (i*4) v0 v1 v2 v3) g (Uv<|l.set i b) t:=by
 rw[<-Dq l i b _ _ _ _ c a];exact(((h.setk _ _).setk _ _).setk _ _).setk _ _
theorem hU{g a:Nat}{c:List F}{t:TypeId}{v0 v1 v2 v3:F}(h:Ya w a c t)(d:a≠g):Ya (Pr w g o v0 v1 v2 v3) a c t:=
 (((h.other d _).other d _).other d _).other d _
theorem G8{w0:Y}{g:Nat}(h:BW w0 w)(a:w0.heap.size<=g){x y z u:F}:BW w0<|Pr w g o x y z u:=
 (((h.setCell a _).setCell a _).setCell a _).setCell a _
theorem mw(n:Nat):(madeCells #[.bool false,.bool false,.string ⟨#[]⟩,.string ⟨#[]⟩]<|n*4).toList=Uv (List.replicate n Ys):=by
 apply PB;intro t;by_cases f:t<4*n
 .have c:(madeCells #[.bool false,.bool false,.string ⟨#[]⟩,.string ⟨#[]⟩]<|n*4).toList[t]?=some ((#[.bool false,.bool false,.string ⟨#[]⟩,.string ⟨#[]⟩])[t%4]!):=by
   unfold madeCells;rw[Array.toList_map,Vs,Array.toList_range,J4 X];rfl
  have a:=Rn (List.replicate n Ys) (t/4) (t%4) (by rw[Ic];omega) X;rw[show t/4*4+t%4=t by omega]at a;have d:(List.replicate n Ys).getD (t/4) Ys=Ys:=by
   rw[Y0,O4];split<;>rfl
  rw[d]at a;rw[c,a];rcases(X:t%4=0\/t%4=1\/t%4=2\/t%4=3)with e|e|e|e<;>rw[e]<;>rfl
 .rw[Rh<|by simp[madeCells];omega,Rh<|by rw[Dp,Ic];omega]
structure TL (a:Ah):Prop where
 ok:X4 a
 st:∀k∈a.jy,k<=3
 sl:∀k∈a.jx,k<=3
theorem L2:TL Ys:=⟨IT,(λk a=>(by cases a)),λk a=>by rw[(Kk.1 a).2];decide⟩
theorem vL:TL ⟨true,false,[],List.replicate 16 0⟩:=⟨E9,(λk a=>(by cases a)),λk a=>by rw[(Kk.1 a).2];decide⟩
theorem lA(n:Nat):∀a∈Pn n,TL a:=by
 intro a c;rcases X0.1 c with rfl|c
 .exact vL
 .rw[(Kk.1 c).2];exact L2
theorem EK:∀(x y:List Nat),(∀k∈x,k<=3)->∀k∈Xx x y,k<=3
 |[],y,_=>by intro k c;simp[Xx]at c
 |a::x,[],_=>by intro k c;simp[Xx]at c
 |a::x,b::y,d=>by
  intro k c;unfold Xx at c;rw[J8]at c;rcases X0.1 c with rfl|c
  · split
    .exact d a<|Sm
    .decide
  .exact EK x y (λk c=>d k<|by simp[c]) k c
theorem oX{a:Ah}(c:TL a)(d:st.length<=64)(e:∀k∈st,k≠0)(f:sl.length=16)(g:∀k∈st,k<=3)(h:∀k∈sl,k<=3):TL<|ZZ a st sl:=by
 refine⟨CA c.ok d e f,?_,?_⟩
 .unfold ZZ;split
  .exact c.st
  .exact g
 .unfold ZZ;split
  .exact EK _ _ c.sl
  .exact h
theorem iC {l:List Ah}{a:Ah}(c:∀x∈l,TL x)(d:TL a)(i:Nat):∀x∈l.set i a,TL x:=λx e=>by
 rcases NW e with h|h
 .exact c x h
 .rw[h];exact d
theorem H6{l:List Ah}(c:∀x∈l,TL x)(i:Nat):TL<|l.getD i Ys:=by
 rw[Y0];cases h:l[i]? with
 |none=>exact L2
 |some a=>exact c a<|QW h
theorem gI(a:Ah)(st sl:List Nat)(c:TL a)(d:sl.length=16)(g:∀k∈st,k<=3)(i:∀k∈sl,k<=3):
 ∃(cl:Bool)(S L:BA),U (SE (ZZ a st sl)=[.bool true,.bool cl,.string S,.string L])/\U (∀w:Y,CP 67 #[.agg #[.bool a.kj,.bool a.kw,.string<|Xp a.jy,.string<|if a.kj then WO a.jx else⟨#[]⟩],.string<|Xp st,.string<|WO sl] w λe u=>e=.returned (.agg #[.bool true,.bool cl,.string S,.string L])/\BW w u):=by
 cases f:a.kj with
 |true=>
  refine⟨a.kw||decide (Xp a.jy≠Xp st),Xp a.jy,Sp<|Sg (bl<|WO a.jx)<|bl<|WO sl,I ?_,I λw=>?_⟩
  .unfold ZZ;rw[Ye f];have j:Sp (Sg (bl<|WO a.jx)<|bl<|WO sl)=WO (Xx a.jx sl):=by
    rw[Mj,Mj,EI _ _ c.sl i];rfl
   have l:decide (Xp a.jy≠Xp st)=decide (a.jy≠st):=by
    rw[O8];exact not_congr<|GF c.st g
   rw[j,l];rfl
  .exact BG (WO _) w (λ_=>by rw[Nh,Nh,c.ok.sl,d])<|by rw[Nh,d];exact Yj _
 |false=>
  refine⟨false,Xp st,WO sl,I ?_,I λw=>?_⟩
  .unfold ZZ;rw[f];rfl
  .exact BG _ w (λh=>(by cases h))<|by rw[Nh,d];exact Yj _
theorem NH{t u v x:Tmp}(h:fn.results=#[.tmp t,.tmp u,.tmp v,.tmp x]):
 (results fn tmps).run P w=.ok (.tuple #[tmps.getD t undef,tmps.getD u undef,tmps.getD v undef,tmps.getD x undef]) w:=by
 simp[results,h]
theorem Tryz.infoAhead:(Tryz.prog.info? 163).map (λi=>(i.zero,i.size,i.bytes))=some (some<|.agg #[.bool false,.bool false,.string ⟨#[]⟩,.string ⟨#[]⟩],4,40):=Kr
def S9(r:Except (Nat×Nat)<|Nat×Nat):Nat×Nat×Nat×Nat:=match r with
 |.ok x=>(x.1,x.2,0,0)
 |.error x=>(0,0,x.1,x.2)
structure SH (w:Y)(cb:Nat)(c:Yb)(cv pv gv iv:F)(pl:List PV)(gl:List<|Option Addr×Nat×Nat):Prop where
 code:X8 w cb c cv pv gv iv pl gl
 ln:c.jz.length<=65535
 op:∀x∈c.jz,x.1<=13/\x.2<65536
theorem im(c:Yb)(op arg:Nat)(took sl:BA):(Rs c op arg took sl).size<=took.size+1:=by
 unfold Rs;split;all_goals first
  |(show(1:Nat)<=_;omega)
  |(show(0:Nat)<=_;omega)
  |(split<;>(show(1:Nat)<=_;omega))
  |omega
  |(rw[V5];omega)
theorem BB{c:Yb}:∀{n:Nat},Vj c n=.ok ()->∀i,i<n->Zy c i (c.jz.getD i (0,0))=true
 |0,_,i,d=>absurd d<|Tu _
 |n+1,h,i,d=>by
  unfold Vj at h;cases a:Vj c n with
  |error e=>rw[a]at h;cases h
  |ok u=>
   rw[a]at h;simp only at h;by_cases e:i=n
   .subst e;cases f:Zy c i<|c.jz.getD i (0,0)with
    |true=>rfl
    |false=>rw[f]at h;cases h
   .exact BB a i X
structure MM (l:List Ah)(i:Nat)(st sl:List Nat)(X H:BA)(bk bc:Bool)(bs bz:BA)(cl:Bool)(S1 L1:BA):Prop where
 at0:∀(W:Y)(g:Nat)(t:TypeId),Ya W g (Uv l) t->W.cell? ⟨g,i*4,none⟩=some (.bool bk)/\W.cell? ⟨g,i*4+1,none⟩=some (.bool bc)/\W.cell? ⟨g,i*4+2,none⟩=some (.string bs)/\W.cell? ⟨g,i*4+3,none⟩=some (.string bz)
 call:∀W:Y,CP 67 #[.agg #[.bool bk,.bool bc,.string bs,.string bz],.string X,.string H] W λe w'=>e=.returned (.agg #[.bool true,.bool cl,.string S1,.string L1])/\BW W w'
 put:∀(W:Y)(g:Nat)(t:TypeId),Ya W g (Uv l) t->Ya (Pr W g (i*4) (.bool true) (.bool cl) (.string S1)<|.string L1) g (Uv<|l.set i<|ZZ (l.getD i Ys) st sl) t
 ok:∀x∈l.set i<|ZZ (l.getD i Ys) st sl,TL x
theorem CB{l:List Ah}{X H:BA}(c:i<l.length)(e:∀x∈l,TL x)(o:st.length<=64)(p:∀k∈st,k≠0)(f:sl.length=16)(h:∀k∈st,k<=3)(j:∀k∈sl,k<=3)(q:X=Xp st)(r:H=WO sl):
 ∃bk bc bs bz cl S1 L1,U<|MM l i st sl X H bk bc bs bz cl S1 L1:=by
 have m:=H6 e i;obtain⟨cl,S1,L1,n,d⟩:=gI (l.getD i Ys) st sl m f h j;rw[<-q,<-r]at d;refine⟨_,_,_,_,cl,S1,L1,I ⟨λW g t a=>⟨?_,?_,?_,?_⟩,d.o,λW g t a=>A2 a c n.o,iC e (oX m o p f h j) i⟩⟩
 .rw[a.cell];exact Rn l i 0 c N
 .rw[a.cell];exact Rn l i 1 c N
 .rw[a.cell];exact Rn l i 2 c N
 .rw[a.cell];exact Rn l i 3 c N
theorem jB(w:Y)(cb:Nat)(c:Yb)(cv pv gv iv:F)(pl:List PV)(gl:List<|Option Addr×Nat×Nat)(h:SH w cb c cv pv gv iv pl gl):
 CP 29 #[Vp cb] w λe u=>∃a b d p:Nat,e=.returned (.tuple #[E a,E b,E d,E p])/\U (S9 (Vl c)=(a,b,d,p))/\BW w u:=by
 obtain⟨ia,ic,rfl⟩:=Zd h.code.is;have HP:=I h;have p5:=h.ln;obtain⟨i0,hi,p6,p7,p8⟩:=Xv Tryz.infoAhead;obtain⟨n,hn⟩:∃n,n=c.jz.length:=⟨_,C⟩;rw[<-hn]at p5;have Z:=I hn;clear h hn;go_enter func29,ntmps29;go_wp2;go_loopw [6,7] (λnv iv wr=>∃(k sn:Nat),k<=n/\iv=E k/\nv=E sn/\sn<=16/\U (Vj c k=.ok ())/\U (UT (c.jz.take k)=sn)/\U (BW w wr))
  (λ_ iv _=>n-(intOf iv).toNat);case atStart=>exact⟨0,0,Yr _,C,C,N,I C,I C,I<|Ym _ _⟩
 case round=>
  obtain⟨k,sn,hk,rfl,rfl,s0,c4,j2,q⟩:=hrel;have s:=I<|HP.code.below q.o;have d3:=s.box.cell 3;simp only[Yf]at d3;rw[<-Z.o]at d3;have a0:=s.box.lt;by_cases d8:k<n
  .as_aux_lemma=>
   have G:k<c.jz.length:=by rw[<-Z.o];exact d8
   obtain⟨gi,cpi,d9⟩:=Zm s.is Om;injection d9 with hgi1 hgi2 hgi3;subst hgi1;rcases hx0:c.jz[k]with⟨op,arg⟩;have j3:=HP.op (op,arg)<|by rw[<-hx0];exact List.getElem_mem G
   obtain⟨a6,d4⟩:=j3;simp only at a6 d4;have c5:=I<|gC wr cb c s.o k G HP.op;rw[hx0]at c5;have c6:U<|c.jz.getD k (0,0)=(op,arg):=I<|by rw[Y0,List.getElem?_eq_getElem G,hx0];rfl
   have n0:=I hx0;clear hx0 hgi2 hgi3;cases hr:Zy c k (op,arg)with
   |false=>
    rw[hr]at c5;have i1:U<|S9 (Vl c)=(0,0,11,k):=I<|by
     unfold Vl;rw[BC (k:=k+1) (e:=(11,k)) (by unfold Vj;rw[c4.o];simp only;rw[c6.o,hr];rfl) _<|by rw[<-Z.o];omega];rfl
    go_wp2_with fail;refine c5.m ?_;rintro e z ⟨rfl,c7⟩;have t:U<|BW w z:=I<|q.trans<|c7.mono q.size;clear c7 d3;go_wp2;(try simp only[Exit.inBlock,Exit.then]);refine YQ (NH C) C ?_;exact⟨0,0,11,k,C,i1,t.o⟩
   |true=>
    rw[hr]at c5;have b6:U<|Vj c (k+1)=.ok ():=I<|by unfold Vj;rw[c4.o];simp only;rw[c6.o,hr];rfl
    have e0:U<|UT (c.jz.take<|k+1)=if Pi op then max sn (arg+1)else sn:=I<|by
     rw[List.take_succ_eq_append_getElem G,n0.o,A8,j2.o]
    have a3:op=12\/op=13->arg<16:=by
     rintro(rfl|rfl)<;>simpa [Zy]using hr
    go_wp2_with fail;refine c5.m ?_;rintro e z ⟨rfl,c7⟩;have t:U<|BW w z:=I<|q.trans<|c7.mono q.size;have b7:=I<|s.below c7;clear c7 d3 s a0 c5;have d3:=b7.box.cell 3;simp only[Yf]at d3;rw[<-Z.o]at d3;have i0c:=Zc b7.is _ _ (Sz c.jz k G).1;have i1c:=Zc b7.is _ _ (Sz c.jz k G).2;rw[n0.o]at i0c i1c;simp only at i0c i1c;have a0:=b7.box.lt;have j4:=ZN b7.is;by_cases a7:op=12
    .subst a7;have r:=a3<|Or.inl C;clear a3;by_cases p9:sn<=arg
     .have a4:U<|UT (c.jz.take<|k+1)=arg+1:=I<|by rw[e0.o];show max sn (arg+1)=_;omega
      go_wp2;go_roundw;case rel=>exact⟨k+1,arg+1,Om,by go_num,by go_num,Om,b6,a4,I<|t.alloc t.size _⟩
      case measure=>simp[intOf];omega
     .have a4:U<|UT (c.jz.take<|k+1)=sn:=I<|by rw[e0.o];show max sn (arg+1)=_;omega
      go_wp2;go_roundw;case rel=>exact⟨k+1,sn,Om,by go_num,by go_num,Om,b6,a4,I<|t.alloc t.size _⟩
      case measure=>simp[intOf];omega
    .by_cases V:op=13
     .subst V;have r:=a3<|Or.inr C;clear a3;by_cases p9:sn<=arg
      .have a4:U<|UT (c.jz.take<|k+1)=arg+1:=I<|by rw[e0.o];show max sn (arg+1)=_;omega
       go_wp2;go_roundw;case rel=>exact⟨k+1,arg+1,Om,by go_num,by go_num,Om,b6,a4,I<|t.alloc t.size _⟩
       case measure=>simp[intOf];omega
      .have a4:U<|UT (c.jz.take<|k+1)=sn:=I<|by rw[e0.o];show max sn (arg+1)=_;omega
       go_wp2;go_roundw;case rel=>exact⟨k+1,sn,Om,by go_num,by go_num,Om,b6,a4,I<|t.alloc t.size _⟩
       case measure=>simp[intOf];omega
     .have a4:U<|UT (c.jz.take<|k+1)=sn:=I<|by
       rw[e0.o];have:Pi op=false:=by unfold Pi;simp[a7,V]
       rw[this];rfl
      have e12:((op:Int)==12)=false:=by rw[YB];omega
      have e13:((op:Int)==13)=false:=by rw[YB];omega
      clear a3;go_wp2;go_roundw;case rel=>exact⟨k+1,sn,Om,by go_num,by go_num,Om,b6,a4,I<|t.alloc t.size _⟩
      case measure=>simp[intOf];omega
  .obtain rfl:n=k:=Om;have n1:U<|UT c.jz=sn:=I<|by rw[<-j2.o,Wm<|by rw[<-Z.o];exact Yj _]
   have q0:U<|∀m,Tv c=.ok m->S9 (Vl c)=(m,sn,0,0):=I λm hm=>by
    unfold Vl;rw[<-Z.o,c4.o];simp only;rw[hm];simp only;rw[n1.o];rfl
   have i1:U<|∀p,Tv c=.error (12,p)->S9 (Vl c)=(0,0,12,p):=I λp hp=>by
    unfold Vl;rw[<-Z.o,c4.o];simp only;rw[hp];rfl
   have q8:=I<|BB c4.o;clear c4 j2 n1 hk d8;go_wp2_with(at_make;refine Is _ C _ _ 161 C wr.heap.size 163 i0 _ 4 underlying161 hi p6 p7 _ _ _ _ (n+1) C C ?e1 ?e2 ?b2 ?b3 ?b4 ?_);case e1=>go_num
   case e2=>go_num
   case b2=>rw[p8];omega
   case b3=>unfold maxLen;omega
   case b4=>simp
   intro w1 j5 R;have n2:BW wr w1:=⟨R.os,R.tape,R.output,R.size,λk hk=>R.block k hk<|Sm⟩;have J:U<|Ya w1 wr.heap.size (Uv<|List.replicate (n+1) Ys) 163:=I<|by have:=B3 j5;rwa [mw]at this
   have n3:U<|BW w w1:=I<|q.trans<|n2.mono q.size;have j6:w.heap.size<=wr.heap.size:=q.size;clear j5 R n2 d3 a0 s q;generalize wr.heap.size=g at*;have g0:w1.cell? ⟨g,0,none⟩=some (.bool false):=by rw[J.cell];rfl
   have g1:w1.cell? ⟨g,1,none⟩=some (.bool false):=by rw[J.cell];rfl
   have g2:w1.cell? ⟨g,2,none⟩=some (.string ⟨#[]⟩):=by rw[J.cell];rfl
   have g3:w1.cell? ⟨g,3,none⟩=some (.string ⟨#[]⟩):=by rw[J.cell];rfl
   have f0:=J.frozen 0;have f1:=J.frozen 1;have f2:=J.frozen 2;have f3:=J.frozen 3;have a8:=J.lt;have n4:U<|Ya (Pr w1 g 0 (.bool true) (.bool false) (.string ⟨#[]⟩)<|.string ⟨#[45,45,45,45,45,45,45,45,45,45,45,45,45,45,45,45]⟩) g (Uv<|Pn n) 163:=I<|by
    have:=A2 (i:=0) (b:=⟨true,false,[],List.replicate 16 0⟩) J.o (Sm)<|show SE _=[.bool true,.bool false,.string ⟨#[]⟩,.string ⟨#[45,45,45,45,45,45,45,45,45,45,45,45,45,45,45,45]⟩]from C;exact this
   have t:U<|BW w<|Pr w1 g 0 (.bool true) (.bool false) (.string ⟨#[]⟩)<|.string ⟨#[45,45,45,45,45,45,45,45,45,45,45,45,45,45,45,45]⟩:=I<|G8 n3.o j6;clear n3 J;go_wp2;clear g0 g1 g2 g3 f0 f1 f2 f3 a8;go_loopw [11,12] (λmv iv wr=>∃(k mo:Nat)(l:List Ah),k<=n/\iv=E k/\mv=E mo/\mo<=64/\U (l.length=n+1)/\U (Z3 c k=.ok (l,mo))/\U (∀x∈l,TL x)/\U (Ya wr g (Uv l) 163)/\U (BW w wr))
    (λ_ iv _=>n-(intOf iv).toNat);case atStart=>exact⟨0,0,Pn n,Yr _,C,C,N,I<|by simp[Pn],I<|by rw[Z.o];rfl,I<|lA n,n4,t⟩
   case round=>
    obtain⟨k,mo,l,hk,rfl,rfl,q9,e3,e4,e5,B,q⟩:=hrel;clear n4 t;have s:=I<|HP.code.below q.o;have d3:=s.box.cell 3;simp only[Yf]at d3;rw[<-Z.o]at d3;have a0:=s.box.lt;have a8:=B.lt;by_cases d8:k<n
    .have G:k<c.jz.length:=by rw[<-Z.o];exact d8
     obtain⟨gi,cpi,d9⟩:=Zm s.is Om;injection d9 with hgi1 hgi2 hgi3;subst hgi1;rcases hx0:c.jz[k]with⟨op,arg⟩;have j3:=HP.op (op,arg)<|by rw[<-hx0];exact List.getElem_mem G
     obtain⟨a6,d4⟩:=j3;simp only at a6 d4;have c6:U<|c.jz.getD k (0,0)=(op,arg):=I<|by rw[Y0,List.getElem?_eq_getElem G,hx0];rfl
     have i0c:=Zc s.is _ _ (Sz c.jz k G).1;have i1c:=Zc s.is _ _ (Sz c.jz k G).2;rw[hx0]at i0c i1c;simp only at i0c i1c;have j4:=ZN s.is;have hr:Zy c k (op,arg)=true:=by have:=q8.o k d8;rwa [c6.o]at this
     have HR:=I hr;clear hx0 hgi2 hgi3 hr;obtain⟨a,r⟩:∃a,a=l.getD k Ys:=⟨_,C⟩;have e6:=I r;have v:U<|TL a:=I<|by rw[r];exact H6 e5.o k
     have M:k<l.length:=by rw[e3.o];omega
     have c0:wr.cell? ⟨g,k*4,none⟩=some (.bool a.kj):=by rw[B.cell,r];exact Rn l k 0 M N
     have c1:wr.cell? ⟨g,k*4+1,none⟩=some (.bool a.kw):=by rw[B.cell,r];exact Rn l k 1 M N
     have c2:wr.cell? ⟨g,k*4+2,none⟩=some (.string<|Xp a.jy):=by rw[B.cell,r];exact Rn l k 2 M N
     have c3:wr.cell? ⟨g,k*4+3,none⟩=some (.string<|if a.kj then WO a.jx else⟨#[]⟩):=by rw[B.cell,r];exact Rn l k 3 M N
     have i2:U<|Z3 c (k+1)=SB c k l mo:=I<|by show(match Z3 c k with|.error e=>_|.ok x=>_)=_;rw[e4.o]
     clear r M;cases a1:a.kj with
     |false=>
      rw[a1]at c0 c3;have i3:U<|Z3 c (k+1)=.ok (l,mo):=I<|by rw[i2.o];unfold SB;simp only;rw[<-e6.o,a1];rfl
      go_wp2;go_roundw;case rel=>exact⟨k+1,mo,l,Om,by go_num,C,q9,e3,i3,e5,I<|B.below Yc,I<|q.alloc q.size _⟩
      case measure=>simp[intOf];omega
     |true=>
      rw[a1]at c0 c3;rw[Ye C]at c3;have j7:U<|SB c k l mo=.error (12,k)->S9 (Vl c)=(0,0,12,k):=I λhe=>i1.o k<|by
       unfold Tv;rw[GP (k:=k+1) (e:=(12,k)) (by rw[i2.o,he]) _<|by rw[<-Z.o];omega]
      have j8:U<|a.kw=true->SB c k l mo=.error (12,k):=I λhc=>by
       unfold SB;simp only;rw[<-e6.o,a1,hc];rfl
      have e7:U<|a.kw=false->Zr c (op,arg) a.jy a.jx=none->SB c k l mo=.error (12,k):=I λhc hs=>by
       unfold SB;simp only;rw[<-e6.o,a1,hc,c6.o];simp only[VE,Q0,O6];rw[hs]
      have j9:U<|a.kw=false->∀st sl,Zr c (op,arg) a.jy a.jx=some (st,sl)->Z3 c (k+1)=.ok (goOn (op,arg) k st sl l,max mo st.length):=I λhc st sl hs=>by
       rw[i2.o];unfold SB;simp only;rw[<-e6.o,a1,hc,c6.o];simp only[VE,Q0,O6];rw[hs]
      have HD:=I<|ua c k op arg a.jy a.jx a6 HR.o v.ok.ln (λx hx=>⟨v.ok.kd x hx,v.st x hx⟩) v.ok.sl v.sl;have r0:(Xp a.jy).size<=64:=by rw[SX];exact v.ok.ln
      have k4:(WO a.jx).size=16:=by rw[Nh];exact v.ok.sl
      have n5:=I k4;clear k4 a1 i2 e4 e6;obtain⟨S,hS⟩:∃S,Xp a.jy=S:=⟨_,C⟩;obtain⟨L,hL⟩:∃L,WO a.jx=L:=⟨_,C⟩;rw[hS]at c2 r0 HD;rw[hL]at c3 n5 HD;clear hS hL;obtain⟨acl,k5⟩:∃acl,a.kw=acl:=⟨_,C⟩;rw[k5]at c1 j8 e7 j9;clear k5;go_upto_region 20 with fail;refine Zs λW hW=>?_;have b8:BW wr W:=by rw[hW];exact Yc.alloc (Sm) _
      have a9:U<|Ya W wr.heap.size [.bool true,.bool acl,.string S,.string L] 163:=I<|by
       rw[hW];exact Ya.below (show Ya _ _ _ _ from Go.Deep.blk_alloc_new wr _) Yc
      have i4:U<|Ya W (wr.heap.size+1) [E op,E arg] 110:=I<|by
       rw[hW];have:=λo=>Go.Deep.blk_alloc_new (wr.alloc o)<|.cells #[E op,E arg] 110;simp only[Go.Deep.nblk_alloc]at this;exact this _
      have n6:=I<|B.below b8;have b0:U<|BW w W:=I<|q.trans<|b8.mono q.size;have s3:¬wr.heap.size=g:=Om;have d9:¬wr.heap.size+1=g:=Om;clear hW b8 c0 c1 c2 c3 i0c i1c d3 s B q a0 a8 j4;generalize wr.heap.size+1=xi at*;generalize wr.heap.size=xa at*;have x1:=a9.cell 1;have x2:=a9.cell 2;have x3:=a9.cell 3;have y0:=i4.cell 0;have y1:=i4.cell 1;simp only[Yf]at x1 x2 x3 y0 y1;go_wp2_with fail;refine(yo op a6).m ?_;rintro e W ⟨rfl,rfl⟩;obtain⟨Wd,n7⟩:∃Wd,Mf op=Wd:=⟨_,C⟩;rw[n7]at HD⊢;clear n7;have r1:=HD.wle;go_wp2_with fail;refine(sq S Wd Om r1).m ?_;rintro e w3 ⟨rfl,e8⟩;have f4:U<|BW w w3:=I<|b0.trans<|e8.mono b0.size;have b9:=I<|a9.below e8;have d5:=I<|i4.below e8;have n8:=I<|n6.below e8;clear e8 x1 x2 x3 y0 y1 a9 i4 n6 b0;have x1:=b9.cell 1;have x2:=b9.cell 2;have x3:=b9.cell 3;have y0:=d5.cell 0;have y1:=d5.cell 1;simp only[Yf]at x1 x2 x3 y0 y1;obtain⟨fb,k6⟩:∃fb,VU S Wd=fb:=⟨_,C⟩;rw[k6];have k7:=I k6;clear k6;obtain⟨bad,k8⟩:∃bad:Bool,bad=(acl||(!fb||(decide (op=13)&&decide ((bl L).getD arg 0=45)))):=⟨_,C⟩;have O:=I k8;clear k8;have o0:U<|op=13->arg<L.size:=I HD.ld;have k9:U<|∀h:arg<L.size,(bl L).getD arg 0=L[arg]:=I λh=>by
       rw[Y0,List.getElem?_eq_getElem<|by rw[Zb];exact h,SN L arg h];rfl
      go_upto_region 22 with fail;go_cut [16,119]from 71 to 204 (λs16 s119 wx=>s16=.bool fb/\s119=.bool bad/\wx=w3);case first=>as_aux_lemma=>
       cases j:acl with
       |true=>
        rw[j]at x1;have T:bad=true:=by rw[O.o,j];rfl
        subst T;go_wp2;go_meet;exact⟨C,C,C⟩
       |false=>
        rw[j]at x1;cases b1:fb with
        |false=>
         have T:bad=true:=by rw[O.o,j,b1];rfl
         subst T;go_wp2;go_meet;exact⟨by rw[b1],C,C⟩
        |true=>
         by_cases V:op=13
         · have o1:=o0.o V;have e13:((op:Int)==13)=true:=by rw[XM];omega
           by_cases c8:(bl L).getD arg 0=45
           · have T:bad=true:=by rw[O.o,j,b1,WI V,WI c8];rfl
             have d45:(((L[arg].toNat:Nat):Int)==45)=true:=by rw[<-k9.o o1,c8];rfl
             clear c8 V;subst T;go_wp2;go_meet;exact⟨by rw[b1],C,C⟩
           · have T:bad=false:=by rw[O.o,j,b1,WI V,Wl c8];rfl
             have d45:(((L[arg].toNat:Nat):Int)==45)=false:=by rw[YB];intro e;exact c8<|by rw[k9.o o1];exact TN.1<|by show _=45;omega
             clear c8 V;subst T;go_wp2;go_meet;exact⟨by rw[b1],C,C⟩
         · have T:bad=false:=by rw[O.o,j,b1,Wl V];rfl
           have e13:((op:Int)==13)=false:=by rw[YB];omega
           clear V;subst T;go_wp2;go_meet;exact⟨by rw[b1],C,C⟩
      case rest=>
      obtain⟨rfl,rfl,rfl⟩:=hcut;rename Y=>w3;cases T:bad with
      |true=>
       have HV:=I<|j7.o<|by
        have A:=O.o;rw[T]at A;cases r:acl with
        |true=>exact j8.o r
        |false=>
         cases hf:fb with
         |false=>exact e7.o r<|HD.no<|by rw[k7.o,hf]
         |true=>
          rw[r,hf]at A;have h2:(decide (op=13)&&decide ((bl L).getD arg 0=45))=true:=A.symm;rw[Vt]at h2;exact e7.o r<|HD.no2 (Rw h2.1)<|Rw h2.2
       go_wp2;(try simp only[Exit.inBlock,Exit.then]);refine YQ (NH C) C ?_;exact⟨0,0,12,k,C,HV,f4.o⟩
      |false=>
       have m9:acl=false/\fb=true/\(op=13->¬(bl L).getD arg 0=45):=by
        have A:=O.o;rw[T]at A;cases r:acl with
        |true=>rw[r]at A;cases A
        |false=>
         cases hf:fb with
         |false=>rw[r,hf]at A;cases A
         |true=>
          refine⟨C,C,λe1 e2=>?_⟩;rw[r,hf,WI e1,WI e2]at A;cases A
       obtain⟨j,o2,o3⟩:=m9;have l0:=I<|e7.o j;have l2:=I<|j9.o j;have HF:U<|VU S Wd=true:=I<|by rw[k7.o,o2]
       have l3:=I o3;have r2:Wd.size<=S.size:=HD.le HF.o;clear e7 j9 j8 O k7 k9 j o2 o3 T;go_upto_region 25 with fail;obtain⟨LO,f5⟩:∃LO,S.extract 0 (S.size-Wd.size)=LO:=⟨_,C⟩;rw[f5];have k4:LO.size<=S.size:=by rw[<-f5,V5];omega
       have f6:U<|S.size-Wd.size=LO.size:=I<|by rw[<-f5,V5];omega
       have i5:=I f5;clear f5;go_upto_region 26 with fail;obtain⟨TK,c9⟩:∃TK,S.extract LO.size S.size=TK:=⟨_,C⟩;rw[c9];have s4:TK.size<=2:=by rw[<-c9,V5,<-f6.o];omega
       have i6:U<|64<(LO++Rs c op arg TK L).size->Zr c (op,arg) a.jy a.jx=none:=I λh=>HD.big HF.o l3.o<|by rw[i5.o,f6.o,c9];exact h
       have f7:U<|¬64<(LO++Rs c op arg TK L).size->∃st' sl',Zr c (op,arg) a.jy a.jx=some (st',sl')/\LO++Rs c op arg TK L=Xp st'/\S6 op arg TK L=WO sl':=I λh=>by
        have:=HD.ok HF.o l3.o<|by rw[i5.o,f6.o,c9];exact h
        rwa [i5.o,f6.o,c9]at this
       have l4:U<|(Rs c op arg TK L).size<=3:=I<|by have:=im c op arg TK L;omega
       clear c9 i5 f6 r2 HD HF l3;go_wp2_with fail;refine(iq w3 cb c op arg TK L a6 d4 ((HP.code.below f4.o).pickAt HR.o) o0.o).m ?_;rintro e w4 ⟨rfl,f8⟩;have l5:U<|BW w w4:=I<|f4.trans<|f8.mono f4.size;have l6:=I<|b9.below f8;have d6:=I<|d5.below f8;have o4:=I<|n8.below f8;obtain⟨P,hP⟩:∃P,Rs c op arg TK L=P:=⟨_,C⟩;rw[hP]at i6 f7 l4⊢;have s5:=l4.o;clear f8 x1 x2 x3 y0 y1 b9 d5 n8 f4 l4 hP;have x3:=l6.cell 3;have y0:=d6.cell 0;have y1:=d6.cell 1;simp only[Yf]at x3 y0 y1;go_upto_if 147 with fail;obtain⟨X,hX⟩:∃X,LO++P=X:=⟨_,C⟩;rw[hX]at i6 f7⊢;obtain⟨H,hH⟩:∃H,S6 op arg TK L=H:=⟨_,C⟩;rw[hH]at f7;have HH:=I hH;clear hX hH;go_cut [20]from 71 to 204 (λs20 wx=>s20=.string H/\U (BW w4 wx));case first=>as_aux_lemma=>
        by_cases a7:op=12
        · have e12:((op:Int)==12)=true:=by rw[XM];omega
          have r7:arg<16:=by have:=HR.o;rw[a7]at this;simpa [Zy]using this
          have o9:=n5.o;have l7:U<|L.extract 0 arg++TK++L.extract (arg+1) L.size=H:=I<|by rw[<-HH.o];unfold S6;rw[Ye a7]
          have r8:arg+1<=L.size:=Om;have r9:L.size<=16:=Om;clear a7 o9;go_wp2;go_quiet (fail);go_wp2;go_meet;exact⟨by rw[l7.o],I Yh⟩
        · have e12:((op:Int)==12)=false:=by rw[YB];omega
          have l7:U<|L=H:=I<|by rw[<-HH.o];unfold S6;rw[Yd a7]
          clear a7;go_wp2;go_meet;exact⟨by rw[l7.o],I<|Ym _ _⟩
       case rest=>
       obtain⟨rfl,i7⟩:=hcut;rename Y=>w5;have f9:U<|BW w w5:=I<|l5.trans<|i7.mono l5.size;have a2:=I<|d6.below i7.o;have d0:=I<|o4.below i7.o;clear x3 y0 y1 l6 d6 o4 l5 i7 HH;by_cases l8:64<X.size
       .have HV:=I<|j7.o<|l0.o<|i6.o l8;go_wp2;(try simp only[Exit.inBlock,Exit.then]);refine YQ (NH C) C ?_;exact⟨0,0,12,k,C,HV,f9.o⟩
       .obtain⟨st',sl',i8,l9,o5⟩:=f7.o l8;obtain⟨z1,z2,z3⟩:=zd HR.o v.ok.ln v.ok.kd v.ok.sl i8;obtain⟨z4,z5⟩:=fx v.st v.sl i8;have o6:=I<|And.intro z1<|And.intro z2<|And.intro z3<|And.intro z4<|And.intro z5<|And.intro l9 o5;obtain⟨mo2,d7⟩:∃mo2,mo2=max mo X.size:=⟨_,C⟩;have i3:U<|Z3 c (k+1)=.ok (goOn (op,arg) k st' sl' l,mo2):=I<|by rw[l2.o st' sl' i8,d7,l9,SX]
        have i9:mo2<=64:=Om;clear i8 l9 o5 z1 z2 z3 z4 z5 i6 f7 l0 l2;go_upto_if 167 with fail;go_cut [11]from 71 to 204 (λs11 wx=>s11=E mo2/\wx=w5);case first=>as_aux_lemma=>
         by_cases s6:mo<X.size
         .have m0:mo2=X.size:=Om;clear d7;subst m0;go_wp2;go_meet;exact⟨C,C⟩
         .have m0:mo2=mo:=Om;clear d7;subst m0;go_wp2;go_meet;exact⟨C,C⟩
        case rest=>
        obtain⟨rfl,rfl⟩:=hcut;rename Y=>w5;clear d7;obtain⟨cj,o7⟩:∃cj,cj=TC op:=⟨_,C⟩;have d1:=I o7;clear o7;have y0:=a2.cell 0;have y1:=a2.cell 1;simp only[Yf]at y0 y1;go_upto_region 34 with fail;go_cut [177]from 71 to 204 (λs177 wx=>s177=.bool cj/\wx=w5);case first=>as_aux_lemma=>
         by_cases h9:op=9
         · have e9:((op:Int)==9)=true:=by rw[XM];omega
           have hj:cj=true:=by rw[d1.o,h9];rfl
           clear h9;subst hj;go_wp2;go_meet;exact⟨C,C⟩
         · have e9:((op:Int)==9)=false:=by rw[YB];omega
           by_cases j0:op=10
           · have e10:((op:Int)==10)=true:=by rw[XM];omega
             have hj:cj=true:=by rw[d1.o,j0];rfl
             clear h9 j0;subst hj;go_wp2;go_meet;exact⟨C,C⟩
           · have e10:((op:Int)==10)=false:=by rw[YB];omega
             have hj:cj=false:=by rw[d1.o];unfold TC;simp[h9,j0]
             clear h9 j0;subst hj;go_wp2;go_meet;exact⟨C,C⟩
        case rest=>
        obtain⟨rfl,rfl⟩:=hcut;rename Y=>w5;obtain⟨l1,j1⟩:∃l1,l1=if cj then l.set arg (ZZ (l.getD arg Ys) st' sl')else l:=⟨_,C⟩;have g4:=I j1;clear j1;go_upto_if 177 with fail;go_cut []from 71 to 204 (λwx=>U (Ya wx g (Uv l1) 163)/\U (∀x∈l1,TL x)/\U (Ya wx xi [E op,E arg] 110)/\U (BW w wx));case first=>as_aux_lemma=>
         cases hj:cj with
         |false=>
          have j1:l1=l:=by rw[g4.o,hj];rfl
          subst j1;go_wp2;go_meet;exact⟨d0,e5,a2,f9⟩
         |true=>
          have m1:k<arg/\arg<=n:=by
           have A:=HR.o;have h2:=d1.o;rw[hj]at h2;have h3:op=9\/op=10:=by
            have:=h2.symm;unfold TC at this;simpa using this
           rw[Z.o];rcases h3 with h3|h3<;>(rw[h3]at A;simpa [Zy]using A)
          have r6:=m1.2;clear m1;have g5:arg<l.length:=by rw[e3.o];omega
          obtain⟨q1,q2,q3,q4,q5,q6,q7⟩:=o6.o;obtain⟨bk,bc,bs,bz,cl,S1,L1,D⟩:=CB g5 e5.o q1 q2 q3 q4 q5 q6 q7;have m2:U<|l1=l.set arg (ZZ (l.getD arg Ys) st' sl'):=I<|by rw[g4.o,hj];rfl
          clear q1 q2 q3 q4 q5 q6 q7 g5 hj;obtain⟨k0,k1,k2,k3⟩:=D.at0 _ _ _ d0.o;have a8:=d0.lt;have s7:=a2.lt;have ab1:arg<n+1:=Om;have ab2:(arg:Int)<(n:Int)+1:=Om;have ab3:(arg:Int)<((n+1:Nat):Int):=Om;have o8:w5.drew.cell? ⟨xi,1,none⟩=some (E arg)/\w5.drew.cell? ⟨g,arg*4,none⟩=some (.bool bk)/\w5.drew.cell? ⟨g,arg*4+1,none⟩=some (.bool bc)/\w5.drew.cell? ⟨g,arg*4+2,none⟩=some (.string bs)/\w5.drew.cell? ⟨g,arg*4+3,none⟩=some (.string bz):=⟨y1,k0,k1,k2,k3⟩;have r3:U<|∀w6:Y,BW w5 w6->(w6.cell? ⟨xi,1,none⟩=some (E arg)/\w6.cell? ⟨g,arg*4,none⟩=some (.bool bk)/\w6.cell? ⟨g,arg*4+1,none⟩=some (.bool bc)/\w6.cell? ⟨g,arg*4+2,none⟩=some (.string bs)/\w6.cell? ⟨g,arg*4+3,none⟩=some (.string bz)):=I λw6 T=>by
           obtain⟨k0,k1,k2,k3⟩:=D.at0 _ _ _<|d0.below T;exact⟨(a2.below T).cell 1,k0,k1,k2,k3⟩
          go_wp2_with fail;clear k0 k1 k2 k3 y0 y1;refine ZW 12 (λu=>u.cell? ⟨xi,1,none⟩=some (E arg)/\u.cell? ⟨g,arg*4,none⟩=some (.bool bk)/\u.cell? ⟨g,arg*4+1,none⟩=some (.bool bc)/\u.cell? ⟨g,arg*4+2,none⟩=some (.string bs)/\u.cell? ⟨g,arg*4+3,none⟩=some (.string bz)) Kr (by exact o8) λf=>?_;clear o8;refine Za 0 f (h:=Za 1 f (h:=Za 2 f (h:=Za 3 f (h:=Za 4 f (h:=Za 5 f (h:=Za 6 f (h:=Za 7 f (h:=Za 8 f (h:=Za 9 f (h:=?_))))))))));refine Zz (i:=10) Kr C λK hK=>?_;go_simp;refine(D.call _).m ?_;rintro e w6 ⟨rfl,d2⟩;have b5:U<|BW w5 w6:=I ⟨d2.os,d2.tape,d2.output,d2.size,d2.block⟩;clear d2;go_simp;refine hK.out _ _ (r3.o _ b5.o) λf=>?_;clear hK K;try simp only[Act.put,Yt]
          refine Za 11 f (h:=?_);refine ZS Kr Kr C Kr λK hK=>?_;have Q:=I<|d0.below b5.o;obtain⟨k0,k1,k2,k3⟩:=D.at0 _ _ _ Q.o;have f0:=Q.frozen<|arg*4;have f1:=Q.frozen<|arg*4+1;have f2:=Q.frozen<|arg*4+2;have f3:=Q.frozen<|arg*4+3;have a5:U<|Ya (Pr w6 g (arg*4) (.bool true) (.bool cl) (.string S1)<|.string L1) g (Uv l1) 163:=I<|by rw[m2.o];exact D.put _ _ _ Q.o
          have p0:U<|∀x∈l1,TL x:=I<|by rw[m2.o];exact D.ok
          have p1:U<|Ya (Pr w6 g (arg*4) (.bool true) (.bool cl) (.string S1)<|.string L1) xi [E op,E arg] 110:=I<|hU (a2.below b5.o) d9;have m3:U<|BW w<|Pr w6 g (arg*4) (.bool true) (.bool cl) (.string S1)<|.string L1:=I<|G8 (f9.trans<|b5.mono f9.size) j6;clear f;go_simp;refine hK.out _ _ ?_;clear hK K k0 k1 k2 k3 f0 f1 f2 f3;go_wp2;go_meet;exact⟨a5,p0,p1,m3⟩
        case rest=>
        obtain⟨Q,m4,p2,b5⟩:=hcut;rename Y=>w6;clear y0 y1 d0 a2 f9;have y0:=p2.cell 0;simp only[Qo]at y0;have g7:U<|l1.length=n+1:=I<|by rw[g4.o];split<;>simp[e3.o]
        by_cases h9:op=9
        .as_aux_lemma=>
         have n9:((op:Int) !=9)=false:=by rw[bne_eq_false_iff_eq];omega
         have g8:U<|Z3 c (k+1)=.ok (l1,mo2):=I<|by rw[i3.o];unfold goOn;simp only;rw[Ye h9,g4.o,d1.o]
         clear h9;go_wp2;go_roundw;case rel=>exact⟨k+1,mo2,l1,Om,by go_num,C,i9,g7,g8,m4,Q,b5⟩
         case measure=>simp[intOf];omega
        .as_aux_lemma=>
         have n9:((op:Int) !=9)=true:=by rw[Vg];omega
         have g5:k+1<l1.length:=by rw[g7.o];omega
         obtain⟨q1,q2,q3,q4,q5,q6,q7⟩:=o6.o;obtain⟨bk,bc,bs,bz,cl,S1,L1,D⟩:=CB g5 m4.o q1 q2 q3 q4 q5 q6 q7;have g8:U<|Z3 c (k+1)=.ok (l1.set (k+1)<|ZZ (l1.getD (k+1) Ys) st' sl',mo2):=I<|by rw[i3.o];unfold goOn;simp only;rw[Yd h9,g4.o,d1.o]
         have p3:U<|(l1.set (k+1)<|ZZ (l1.getD (k+1) Ys) st' sl').length=n+1:=I<|by rw[Qv,g7.o]
         clear q1 q2 q3 q4 q5 q6 q7 g5 h9;obtain⟨k0,k1,k2,k3⟩:=D.at0 _ _ _ Q.o;have a8:=Q.lt;go_wp2_with fail;refine(D.call _).m ?_;rintro e w7 ⟨rfl,m5⟩;have a5:=I<|Q.below m5;have m3:U<|BW w w7:=I<|b5.trans<|m5.mono b5.size;clear m5 k0 k1 k2 k3 y0 a8;obtain⟨k0,k1,k2,k3⟩:=D.at0 _ _ _ a5.o;have f0:=a5.frozen<|(k+1)*4;have f1:=a5.frozen<|(k+1)*4+1;have f2:=a5.frozen<|(k+1)*4+2;have f3:=a5.frozen<|(k+1)*4+3;have a8:=a5.lt;have r4:=I<|D.put _ _ _ a5.o;have p4:=I D.ok;have r5:U<|BW w<|Pr w7 g ((k+1)*4) (.bool true) (.bool cl) (.string S1)<|.string L1:=I<|G8 m3.o j6;go_wp2;go_roundw;case rel=>exact⟨k+1,mo2,_,Om,by go_num,C,i9,p3,g8,p4,r4,r5⟩
         case measure=>simp[intOf];omega
    .as_aux_lemma=>
     obtain rfl:n=k:=Om;have M:n<l.length:=by rw[e3.o];omega
     obtain⟨a,r⟩:∃a,a=l.getD n Ys:=⟨_,C⟩;have v:U<|TL a:=I<|by rw[r];exact H6 e5.o n
     have c0:wr.cell? ⟨g,n*4,none⟩=some (.bool a.kj):=by rw[B.cell,r];exact Rn l n 0 M N
     have c1:wr.cell? ⟨g,n*4+1,none⟩=some (.bool a.kw):=by rw[B.cell,r];exact Rn l n 1 M N
     have c2:wr.cell? ⟨g,n*4+2,none⟩=some (.string<|Xp a.jy):=by rw[B.cell,r];exact Rn l n 2 M N
     have c3:wr.cell? ⟨g,n*4+3,none⟩=some (.string<|if a.kj then WO a.jx else⟨#[]⟩):=by rw[B.cell,r];exact Rn l n 3 M N
     have g9:U<|Ro a=true->S9 (Vl c)=(mo,sn,0,0):=I λh=>q0.o mo<|by
      unfold Tv;rw[<-Z.o,e4.o];simp only;rw[<-r,h];rfl
     have m6:U<|Ro a=false->S9 (Vl c)=(0,0,12,n):=I λh=>i1.o n<|by
      unfold Tv;rw[<-Z.o,e4.o];simp only;rw[<-r,h];rfl
     have g6:U<|Ro a=(!a.kw&&(decide (Xp a.jy=⟨#[115]⟩)||decide (Xp a.jy=⟨#[118]⟩))):=I<|by
      unfold Ro;have A:decide (Xp a.jy=⟨#[115]⟩)=decide (a.jy=[1]):=O8.2<|GF (y:=[1]) v.st N;have h2:decide (Xp a.jy=⟨#[118]⟩)=decide (a.jy=[2]):=O8.2<|GF (y:=[2]) v.st N;rw[A,h2]
     clear M e4 r;generalize Xp a.jy=S at*;generalize(if a.kj then WO a.jx else⟨#[]⟩)=L at*;generalize a.kj=kn at*;generalize j:a.kw=acl at*;obtain⟨ans,m7⟩:∃ans,Ro a=ans:=⟨_,C⟩;rw[m7]at g9 m6 g6;clear m7 j;go_upto_region 39 with fail;refine Zs λW hW=>?_;have b8:BW wr W:=by rw[hW];exact Yc
     have a9:U<|Ya W wr.heap.size [.bool kn,.bool acl,.string S,.string L] 163:=I<|by rw[hW];exact(show Ya _ _ _ _ from Go.Deep.blk_alloc_new wr _)
     have b0:U<|BW w W:=I<|q.trans<|b8.mono q.size;have m8:=I<|s.below b8;clear hW b8 c0 c1 c2 c3 d3 s B q a0 a8;generalize wr.heap.size=xa at*;have x1:=a9.cell 1;have x2:=a9.cell 2;have d3:=m8.box.cell 3;simp only[Yf]at x1 x2 d3;rw[<-Z.o]at d3;have a0:=m8.box.lt;cases j:acl with
     |true=>
      rw[j]at x1;have hA:ans=false:=by rw[g6.o,j];rfl
      have HV:=I<|m6.o hA;go_wp2;go_quiet (fail);go_wp2;(try simp only[Exit.inBlock,Exit.then]);refine YQ (NH C) C ?_;exact⟨0,0,12,n,C,HV,(by have:=b0.o;first|exact this|exact this.drew|exact Wn this _)⟩
     |false=>
      rw[j]at x1;by_cases hs:S=⟨#[115]⟩
      .have hA:ans=true:=by rw[g6.o,j,WI hs];rfl
       have HV:=I<|g9.o hA;subst hs;go_wp2;(try simp only[Exit.inBlock,Exit.then]);refine YQ (NH C) C ?_;exact⟨mo,sn,0,0,C,HV,b0.o⟩
      .have s1:(S.toList==[115])=false:=by
        have A:=(Ow S ⟨#[115]⟩).trans<|Wl hs;rw[ZA ⟨#[115]⟩]at A;exact A
       by_cases hv:S=⟨#[118]⟩
       .have hA:ans=true:=by rw[g6.o,j,WI hv,Bool.or_true];rfl
        have HV:=I<|g9.o hA;subst hv;clear s1;go_wp2;(try simp only[Exit.inBlock,Exit.then]);refine YQ (NH C) C ?_;exact⟨mo,sn,0,0,C,HV,b0.o⟩
       .have s2:(S.toList==[118])=false:=by
         have A:=(Ow S ⟨#[118]⟩).trans<|Wl hv;rw[ZA ⟨#[118]⟩]at A;exact A
        have hA:ans=false:=by rw[g6.o,j,Wl hs,Wl hv];rfl
        have HV:=I<|m6.o hA;clear hs hv;go_wp2;go_quiet (fail);go_wp2;(try simp only[Exit.inBlock,Exit.then]);refine YQ (NH C) C ?_;exact⟨0,0,12,n,C,HV,(by have:=b0.o;first|exact this|exact this.drew|exact Wn this _)⟩
theorem BD{c:Yb}{x:Nat×Nat}:∀{n:Nat},Vj c n=.error x->x.1=11
 |0,h=>by cases h
 |n+1,h=>by
  unfold Vj at h;cases a:Vj c n with
  |error e=>rw[a]at h;injection h with h;subst h;exact BD a
  |ok u=>
   rw[a]at h;simp only at h;split at h
   .cases h
   .injection h with h;subst h;rfl
theorem B6{c:Yb}{x:Nat×Nat}:∀{n:Nat},Z3 c n=.error x->x.1=12
 |0,h=>by cases h
 |n+1,h=>by
  unfold Z3 at h;cases a:Z3 c n with
  |error e=>rw[a]at h;injection h with h;subst h;exact B6 a
  |ok u=>
   rw[a]at h;simp only at h;unfold SB at h;simp only at h;split at h
   · split at h
     .injection h with h;subst h;rfl
     · split at h
       .injection h with h;subst h;rfl
       .cases h
   .cases h
theorem yd{c:Yb}(h:Vl c=.error x):x.1≠0:=by
 unfold Vl at h;split at h
 .rename_i e a;injection h with h;subst h;rw[BD a];decide
 .split at h
  .rename_i e a;injection h with h;subst h;unfold Tv at a;split at a
   .rename_i e2 d;injection a with a;subst a;rw[B6 d];decide
   .split at a
    .cases a
    .injection a with a;subst a;show(12:Nat)≠0;decide
  .cases h
theorem BF{t u v x y:Tmp}(h:fn.results=#[.tmp t,.tmp u,.tmp v,.tmp x,.tmp y]):
 (results fn tmps).run P w=.ok (.tuple #[tmps.getD t undef,tmps.getD u undef,tmps.getD v undef,tmps.getD x undef,tmps.getD y undef]) w:=by
 simp[results,h]
def QH(w:Y)(r:Except (Nat×Nat)<|Yb×Nat×Nat)(v:F)(a b c p:Nat):Prop:=match r with
 |.error x=>a=0/\b=0/\c=x.1/\p=x.2/\c≠0
 |.ok x=>a=x.2.1/\b=x.2.2/\c=0/\p=0/\∃(cb:Nat)(cv pv gv iv:F)(l:List PV)(g:List<|Option Addr×Nat×Nat),v=.pointer (some ⟨cb,0,none⟩)/\SH w cb x.1 cv pv gv iv l g
theorem QH.ku{c p:Nat}(h:r=.error (c,p))(a:c≠0):QH w r v 0 0 c p:=by subst h;exact⟨C,C,C,C,a⟩
theorem QH.mkOk{code:Yb}{a b cb:Nat}{cv pv gv iv:F}{l:List PV}{g:List<|Option Addr×Nat×Nat}(h:r=.ok (code,a,b))(c:SH w cb code cv pv gv iv l g):QH w r (Vp cb) a b 0 0:=by subst h;exact⟨C,C,C,C,cb,cv,pv,gv,iv,l,g,C,c⟩
theorem QH.zero{a b c p:Nat}(h:QH w r v a b c p)(d:c≠0):a=0/\b=0:=by
 cases r with
 |error x=>exact⟨h.1,h.2.1⟩
 |ok x=>exact absurd h.2.2.1 d
theorem mg(s:BA)(w:Y)(M:s.size<=maxLen):
 CP 14 #[.string s] w λe u=>∃(v:F)(a b c p:Nat),e=.returned (.tuple #[v,E a,E b,E c,E p])/\U (QH u (Ti<|bl s) v a b c p)/\BW w u:=by
 go_enter func14,ntmps14;go_wp2_with fail;refine(uH s w M).m ?_;rintro e H ⟨v,c,p,rfl,o,r⟩;have j:=I r;clear r;cases hd:Wt (bl s)with
 |error x=>
  have k:=o.o;rw[hd]at k;obtain⟨_,h,i,O⟩:=k;have P:U<|Ti (bl s)=.error (c,p):=I<|by unfold Ti;rw[hd,h,i]
  have R:((c:Int) !=0)=true:=by rw[Vg];omega
  clear hd o h i;go_wp2;(try simp only[Exit.inBlock,Exit.then]);refine YQ (BF C) C ?_;exact⟨_,0,0,c,p,C,I<|QH.ku P.o O,j.o⟩
 |ok code=>
  have k:=o.o;rw[hd]at k;obtain⟨rfl,rfl,cb,cv,pv,gv,iv,l,g,rfl,t,A,B⟩:=k;have m:=I<|show SH H cb code cv pv gv iv l g from⟨t,A,B⟩;have D:U<|Ti (bl s)=match Vl code with
   |.error e=>.error e
   |.ok x=>.ok (code,x):=I<|by unfold Ti;rw[hd];simp only;cases Vl code<;>rfl
  clear hd o t A B;go_wp2_with fail;refine(jB H cb code cv pv gv iv l g m.o).m ?_;rintro e z ⟨a,b,d,q,rfl,J,n⟩;have K:U<|BW w z:=I<|j.trans<|n.mono j.size;have L:U<|SH z cb code cv pv gv iv l g:=I ⟨m.code.below n,m.ln,m.op⟩;have Q:U<|QH z (Ti<|bl s) (Vp cb) a b d q:=I<|by
   have h:=J.o;have i:=D.o;cases G:Vl code with
   |error x=>
    rw[G]at h i;have f:((0:Nat),(0:Nat),x.1,x.2)=(a,b,d,q):=h;injection f with e1 f;injection f with e2 f;injection f with e3 e4;subst e1 e2 e3 e4;exact QH.ku i<|yd G
   |ok x=>
    rw[G]at h i;have f:(x.1,x.2,(0:Nat),(0:Nat))=(a,b,d,q):=h;injection f with e1 f;injection f with e2 f;injection f with e3 e4;subst e1 e2 e3 e4;exact QH.mkOk i L.o
  clear n J D m j;go_wp2;(try simp only[Exit.inBlock,Exit.then]);refine YQ (BF C) C ?_;exact⟨_,a,b,d,q,C,Q,K.o⟩
theorem yg {v:Int}:CP 9 #[E v] w λe u=>e=.returned (E v)/\u=w:=by
 go_enter func9,ntmps9;go_wp2;go_ret;exact⟨C,C⟩
theorem fS (w:Y):CP 5 #[] w λe u=>∃r:BA,e=.returned (.string r)/\r.size<=maxLen/\BW w u:=by
 go_enter func5,ntmps5;go_wp2_with fail;refine(Ak w N).m ?_;rintro e h ⟨r,rfl,a,c⟩;have d:r.size<=maxLen:=by
  have f:=congrArg List.length a.o;rw[Yx,Zb,Zb,Hm]at f;rw[f];decide
 have g:=I d;clear d a;go_wp2;go_ret;exact⟨r,C,g.o,c⟩
def Sk(p:BA×BA):LB:=bl p.1++61::bl p.2
def Wv:List (BA×BA)->LB
 |[]=>[]
 |[p]=>Sk p
 |p::l=>Sk p++44::Wv l
theorem ph(l:List<|BA×BA)(p:BA×BA):Wv (l++[p])=(if l.isEmpty then[]else Wv l++[44])++Sk p:=by
 induction l with
 |nil=>rfl
 |cons a l ih=>
  cases l with
  |nil=>simp[Wv]
  |cons c l=>
   have e:Wv (a::c::l++[p])=Sk a++44::Wv (c::l++[p]):=C;rw[e,ih];simp[Wv]
theorem pg(l:List<|BA×BA)(h:∀p∈l,p.1.size<=6000/\p.2.size<=6000):(Wv l).length<=12002*l.length:=by
 induction l with
 |nil=>simp[Wv]
 |cons a l ih=>
  have f:=h a<|Rd ..;have g:=ih λp d=>h p<|Vf _ d;have i:(Sk a).length<=12001:=by unfold Sk;rw[Yx,Y1,Zb,Zb];omega
  cases l with
  |nil=>simp[Wv];omega
  |cons c l=>
   have e:Wv (a::c::l)=Sk a++44::Wv _:=C;rw[e,Yx,Y1];simp at*;omega
theorem tD(l:List<|BA×BA):∀u∈UG l,u.oneCell'=true:=by
 induction l with
 |nil=>intro u c;cases c
 |cons a l ih=>
  intro u c;simp[UG]at c;rcases c with rfl|rfl|c
  .rfl
  .rfl
  .exact ih u c
theorem tk(h:TP w 0 (.slice a n cap) n qs):
 CP 171 #[.slice a n cap] w λe m=>∃(a':Option Addr)(cap':Nat),e=.returned (.slice a' n cap')/\TP m 0 (.slice a' n cap') n qs/\BW w m:=by
 obtain⟨i0,x,o,p,r⟩:=Xv Tryz.infoLabel;obtain⟨c,s,f⟩:=h;rcases c.2 with⟨k,H⟩|⟨g,cp,cur,k,_⟩
 .injection k with h1 h2 h3;subst h1;subst h2;subst h3;have l:U<|TP w 0 _ 0 _:=⟨c,s,f⟩;have z:∀W:Y,(binOp .eql 196 S0 S0).run prog W=.ok (.bool true) W:=λ_=>C;clear c f;go_enter func171,ntmps171;go_wp2;go_ret;exact⟨none,0,C,l,Ym _ _⟩
 .injection k with h1 h2 h3;subst h1;subst h3;have A:U<|∀j u,(UG _)[j]?=some u->w.cell? ((⟨g,0,none⟩:Addr).add j)=some u:=c.cells C;have B:=c.1;have z:∀W:Y,(binOp .eql 196 (.slice (some ⟨g,0,none⟩) n cap) S0).run prog W=.ok _ W:=λ_=>C;have l:=I f;clear c f;go_enter func171,ntmps171;go_wp2_with(at_builtin;refine XC _ C (.tmp 5) (.tmp 6) 196 C w.heap.size 340 i0 (.agg #[.string ByteArray.empty,.string ByteArray.empty]) 2 32 underlying196 x o p r C N _ 0 [] C (World.ownsRow_made w #[] 0 (Yj _) (by unfold maxLen;omega) C) ⟨g,0,none⟩ n _ (UG qs) C B ?c1 ?c2 ?c3 ?c4 ?c5 ?_)
  case c1 => intro j u D;have:=A j u D;rw[QI]at this;try rw[QI]
             rw[TM _ _ _<|Xi _ _ this];exact this
  case c2=>exact tD _
  case c3=>unfold maxLen;omega
  case c4=>omega
  intro v' J d i _;obtain⟨av,cp3,t⟩:=Zd d;subst t;have v:=Yc.grown i (Sm) λq G=>by simp[Value.ownBlock]at G;omega
  go_wp2;go_ret;exact⟨av,cp3,C,⟨GO d,s,l⟩,v⟩
theorem uP{T e:TypeId}{B b:Nat}(h:Lib.IsBuilderF T e B b bs w)(c:BW w w'):Lib.IsBuilderF T e B b bs w':=by
 have one:∀p,Lib.BuilderAtF T e B b p bs w->Lib.BuilderAtF T e B b p bs w':=by
  intro p d;have f:=d.lt;obtain⟨m,v,i,a,j⟩:=d;refine⟨m,v,(c.block b f).trans i,⟨a.1,?_⟩,j⟩;rcases a.2 with n|⟨g,cap,cur,fz,o,k,l,rest⟩
  .exact .inl n
  .exact .inr ⟨g,cap,cur,fz,o,k,(c.block g (Xr.1 l).1).trans l,rest⟩
 exact h.elim (λx=>.inl<|one _ x) λx=>.inr<|one _ x
theorem TP.below(h:TP w base v n qs)(a:BW w w'):TP w' base v n qs:=⟨Ze h.1 a,h.2⟩
theorem Lz{e:TypeId}(h:w.ownsRow base e size v n xs)(a:∀k,v.ownBlock=some k->w'.heap[k]?=w.heap[k]?):w'.ownsRow base e size v n xs:=by
 refine⟨h.1,?_⟩;rcases h.2 with c|⟨g,cap,cur,rfl,d,f,r⟩
 .exact .inl c
 .exact .inr ⟨g,cap,cur,C,d,(a g C).trans f,r⟩
theorem kE{e u:TypeId}{b:Nat}(h:w.ownsRow base e size v n xs)(a:Lib.OthersKept u (some b) w w')(d:e≠u)(f:v.ownBlock≠some b):w'.ownsRow base e size v n xs:=by
 refine⟨h.1,?_⟩;rcases h.2 with i|⟨g,cap,cur,rfl,j,k,r⟩
 .exact .inl i
 .exact .inr ⟨g,cap,cur,C,j,a g _ k (λx=>f x) λc fz x=>by injection x with _ x2;exact d x2,r⟩
theorem uQ{T e t:TypeId}{B b:Nat}(h:Lib.IsBuilderF T e B b bs w)(a:w.ownsRow base t size v n xs)(d:T≠t):v.ownBlock≠some b:=by
 rcases h with⟨_,_,c,_⟩|⟨_,_,c,_⟩<;>exact λx=>ZD a c d x.symm
theorem AL{a:Nat}{x y:F}{t:TypeId}(h:w.heap[a]?=some (.cells #[x,y] t fr)):w.cell? ⟨a,0,none⟩=some x/\w.cell? ⟨a,1,none⟩=some y:=by
 constructor<;>simp[World.cell?,h]
theorem Ov(a b:BA):bl (a++b)=bl a++bl b:=by simp[bl]
theorem BZ(h:TP w 0 (.slice a n cap) n qs):
 CP 133 #[.slice a n cap] w λe u=>∃(a':Option Addr)(cap':Nat),e=.returned (.agg #[.slice a' n cap',.string ⟨(Wv qs).toArray⟩])/\TP u 0 (.slice a' n cap') n qs/\BW w u:=by
 have b4:qs.length=n:=by have:=h.1.1;rw[Jc]at this;omega
 have v:=I h;have b5:=h.2.1;have a1:=I λk=>by
  have:=pg (qs.take k) λp hp=>h.2.2 p<|MX hp;rw[Xw]at this;have q:min k qs.length<=6001:=X;exact Xb this<|Nat.mul_le_mul_left _ q
 clear h;go_enter func133,ntmps133;go_wp2;go_loopw [8] (λi wr=>∃k:Nat,k<=n/\i=E k/\U (Lib.IsBuilderF 217 5 (w.heap.size+1) (w.heap.size+1) (Lib.byteCells<|Wv<|qs.take k) wr)/\U (Below (w.heap.size+1) (w.alloc<|.cells #[S0,.string ⟨#[]⟩] 198) wr)) (λi _=>n-(intOf i).toNat);case atStart=>
  refine⟨0,Yr _,C,?_,(Ym _ _).alloc (Sm) _⟩;have:=Lib.IsBuilderF.of<|Lib.fresh_isBuilder 217 5<|w.alloc<|.cells #[S0,.string ⟨#[]⟩] 198;rw[Go.Deep.nblk_alloc]at this;exact this
 case round=>
  obtain⟨k,hk,rfl,A,B⟩:=hrel;have s:w.heap.size+1<=wr.heap.size:=by have:=B.size;rw[Go.Deep.nblk_alloc]at this;exact this
  have D:=I<|((Ym _ w).alloc (Yj _) _).trans<|B.mono X;by_cases b6:k<n
  .have hg:∃g,a=some ⟨g,0,none⟩:=by
    obtain⟨g,cp,hv⟩:=Zm v.1 X;injection hv with hv1;exact⟨g,hv1⟩
   obtain⟨g,rfl⟩:=hg;have G:k<qs.length:=X;obtain⟨f1,f2⟩:=Jb qs k;rw[List.getElem?_eq_getElem G]at f1 f2;have O:=ZN v.1;have c1:wr.cell? _=some (.string _):=(D.cell O).trans<|Zc v.1 _ _ f1;have c2:wr.cell? _=some (.string _):=(D.cell O).trans<|Zc v.1 _ _ f2;have V:=v.2.2 _<|List.getElem_mem G;have M:U<|Wv _=(if(qs.take k).isEmpty then[]else Wv _++[44])++Sk _:=List.take_succ_eq_append_getElem G▸ph _ _;have b7:=a1 k;generalize qs[k]=p at*;obtain⟨x,y⟩:=p;clear f1 f2;have b8:x.size<=6000:=V.1;have b9:y.size<=6000:=V.2;clear V;have W:∀t,(wr.alloc<|.cells #[.string x,.string y] t).heap[wr.heap.size]?=some _:=λt=>YO;have a2:(Lib.byteCells<|Wv<|qs.take k).length+(⟨#[44]⟩:BA).size<=140737488355328:=by rw[Lib.byteCells_length];show _+1<=_;omega
   have a3:(Lib.byteCells<|Wv<|qs.take k).length+(x++⟨#[61]⟩++y).size<=140737488355328:=by
    rw[Lib.byteCells_length,Y9,Y9];show _+(_+1+_)<=_;omega
   have a4:(Lib.byteCells<|Wv (qs.take k)++[44]).length+(x++⟨#[61]⟩++y).size<=140737488355328:=by
    rw[Lib.byteCells_length,Yx,Y9,Y9];show _+1+(_+1+_)<=_;omega
   have f:w.heap.size+1<wr.heap.size:=by
    rcases A.o with h|h<;>exact h.lt
   have P:∀o,w.heap.size+1<=(wr.alloc o).heap.size:=λo=>by rw[Go.Deep.nblk_alloc];omega
   by_cases l:k=0
   .have H:U<|Wv (qs.take<|k+1)=Wv (qs.take k)++Sk (x,y):=by rw[M,l];rfl
    have r:decide (0<(k:Int))=false:=Wl X;clear M;have c1':wr.cell? ⟨g,0,none⟩=some (.string x):=by rw[l]at c1;simpa using c1
    have c2':wr.cell? ⟨g,1,none⟩=some (.string y):=by rw[l]at c2;simpa using c2
    go_wp2_with fail;clear r;refine(Ll _ _ _ _ (Lib.IsBuilderF.alloc A _) a3<|P _).m ?_;rintro e Z ⟨rfl,q,b2,k2⟩;have m:U<|Lib.IsBuilderF 217 5 (w.heap.size+1) (w.heap.size+1) (Lib.byteCells<|Wv<|qs.take<|k+1) Z:=by
     rw[H,Lib.byteCells_append];refine .inr ?_;have e:Lib.byteCells (Sk (x,y))=Lib.strCells (x++⟨#[61]⟩++y):=by
      rw[Lib.strCells_eq];show _=Lib.byteCells (bl _);rw[Ov,Ov,Vd];rfl
     rw[e];exact q
    have J:=I<|(B.alloc s _).trans b2;clear q b2 k2;go_wp2;go_roundw;case rel=>exact⟨k+1,X,by subst l;rfl,m,J⟩
    case measure=>simp[intOf];omega
   .have H:U<|Wv _=Wv (qs.take k)++[44]++Sk _:=I<|by
     rw[M,Yd<|by rw[Kp];intro e;have:=congrArg List.length e;rw[Xw,TO]at this;omega]
    have r:decide (0<(k:Int))=true:=WI X;have a5:0<k:=X;clear M;go_wp2_with fail;clear l r a5;refine(Ll _ _ _ _ (Lib.IsBuilderF.alloc A _) a2<|P _).m ?_;rintro e W1 ⟨rfl,h1,b1,k1⟩;obtain⟨o0,o1⟩:=AL<|k1 wr.heap.size _ (W _) (by simp;omega)<|by intro c fz h;simp at h
    have a6:w.heap.size+1<=W1.heap.size:=by have:=b1.size;rw[Go.Deep.nblk_alloc]at this;omega
    have a7:U<|Lib.IsBuilderF 217 5 (w.heap.size+1) (w.heap.size+1) (Lib.byteCells<|Wv (qs.take k)++[44]) W1:=by
     rw[Lib.byteCells_append];exact .inr h1
    have a8:=I<|(B.alloc s _).trans b1;clear h1 b1 k1;go_wp2_with fail;refine(Ll _ _ _ _ a7 a4 a6).m ?_;rintro e Z ⟨rfl,q,b2,k2⟩;have m:U<|Lib.IsBuilderF 217 5 (w.heap.size+1) (w.heap.size+1) (Lib.byteCells<|Wv<|qs.take<|k+1) Z:=by
     rw[H,Lib.byteCells_append];refine .inr ?_;have e:Lib.byteCells (Sk (x,y))=Lib.strCells (x++⟨#[61]⟩++y):=by
      rw[Lib.strCells_eq];show _=Lib.byteCells (bl _);rw[Ov,Ov,Vd];rfl
     rw[e];exact q
    have J:=I<|a8.trans b2;clear q b2 k2 o0 o1;go_wp2;go_roundw;case rel=>exact⟨k+1,X,by go_num,m,J⟩
    case measure=>simp[intOf];omega
  .obtain rfl:k=n:=X;have m:U<|Lib.IsBuilderF 217 5 (w.heap.size+1) (w.heap.size+1) (Lib.byteCells<|Wv qs) wr:=by
    have:=A.o;rwa [Wm X]at this
   clear A;go_wp2_with fail;refine(tk<|TP.below v D).m ?_;rintro e z ⟨a',cap',rfl,Q,f⟩;have K:=I Q;have R:=I<|uP m f;have S:=I<|B.trans<|f.mono s;have a9:=Xb s f.size;clear Q f;go_wp2_with fail;refine(Builder_String_any_k _ _ _ _ R a9).m ?_;rintro e w3 ⟨rfl,_,b3,k3⟩;have d:=((S.trans b3).block _ X).trans YO;obtain⟨k0,k1⟩:=AL d;have g0:w3.frozen? ⟨w.heap.size,0,none⟩=false:=by simp[World.frozen?,d]
   have g1:w3.frozen? ⟨w.heap.size,1,none⟩=false:=by simp[World.frozen?,d]
   have L:=kE K.1 k3 N<|uQ R K.1 N;have b0:U<|∀x y,((w3.setCell ⟨w.heap.size,0,none⟩ x).setCell ⟨w.heap.size,1,none⟩ y).ownsRow 0 _ 2 _ k _:=λx y=>Lz L λj hj=>by
    have T:j≠w.heap.size:=by rintro rfl;exact ZD L d N hj.symm
    rw[Go.Deep.blk_setCell_other _ _ _ _ T,Go.Deep.blk_setCell_other _ _ _ _ T]
   have a0:=I<|((Ym _ w).alloc (Yj _) _).trans<|(S.trans b3).mono X;clear L d b3 k3;go_wp2;exact YQ (by simp[results,results133,go_sem,k0,k1]) C ⟨a',cap',C,⟨b0 _ _,K.2⟩,(a0.setCell (Yj _) _).setCell (Yj _) _⟩
def Q9(p:Xc):Prop:=Zx p.1=true/\ZY p.2=true
def Rj(l:List Xc):Prop:=l.length<=6001/\∀p∈l,Q9 p
theorem CN(a:Zl c=false){n:LB}(h:Zx n=true):c∉n:=by
 intro d;unfold Zx at h;simp_all
theorem zN(d:(Zl c||Zt c)=false){n:LB}(h:ZY n=true):c∉n:=by
 intro a;unfold ZY at h;rw[Vt]at h;have:=Tt.1 h.1 _ a;simp_all
theorem C3(h:Q9 p):(44:UInt8)∉XY p:=by
 unfold XY;rw[Wk,Wk];rintro((a|a)|a)
 .exact CN N h.1 a
 .simp_all
 .exact zN N h.2 a
theorem C1(h:Q9 p):cut 61 (XY p)=some p:=by
 unfold XY;rw[Vd];exact Hh<|CN N h.1
theorem FR(p q:Xc)(l:List Xc):Yy (p::q::l)=XY p++44::Yy (q::l):=rfl
theorem FT(p:Xc):Yy [p]=XY p:=rfl
theorem Fc:∀l:List Xc,l≠[]->(∀p∈l,Q9 p)->split 44 (Yy l)=l.map XY
 |[],h,_=>absurd C h
 |[p],_,h=>by
  have a:=C3<|h p<|Sm;have e:=MD _ _ [] a;rw[Ud]at e;rw[FT,e];simp[split,pre]
 |p::q::l,_,h=>by
  have a:=C3<|h p<|Sm;rw[FR,MD _ _ _ a,Ni,Fc _ (Sm) λx c=>h x<|Vf _ c];simp[pre]
theorem Cw:∀l m:List Xc,(∀p∈l,Q9 p)->(∀p∈m,Q9 p)->l.map XY=m.map XY->l=m
 |[],[],_,_,_=>C
 |[],_::_,_,_,h=>by simp at h
 |_::_,[],_,_,h=>by simp at h
 |p::l,q::m,c,d,h=>by
  rw[Wb,Wb]at h;injection h with h1 h2;have e1:=C1<|c p<|Sm;rw[h1,C1<|d q<|Sm]at e1;rw[Ub e1,Cw l m (λx a=>c x<|Vf _ a) (λx a=>d x<|Vf _ a) h2]
theorem zx(l:List Xc):Yy l=[]↔l=[]:=by
 constructor
 .intro h;match l,h with
  |[],_=>rfl
  |[p],h=>rw[FT]at h;unfold XY at h;simp at h
  |p::q::l,h=>rw[FR]at h;simp at h
 .rintro rfl;rfl
theorem FSq{l m:List Xc}(c:Rj l)(d:Rj m)(h:Yy l=Yy m):l=m:=by
 by_cases a:l=[]
 .subst a;exact((zx m).1 h.symm).symm
 .have f:m≠[]:=λe=>a<|(zx l).1<|by rw[h,e];rfl
  have e1:=Fc l a c.2;rw[h,Fc m f d.2]at e1;exact Cw l m c.2 d.2 e1.symm
theorem C2(h:Q9 p):(XY p).length<=17:=by
 have a:=h.1;have c:=h.2;unfold Zx at a;unfold ZY at c;simp only[Vt,Kn]at a c;unfold XY;simp_all;omega
theorem zw:∀l:List Xc,(∀p∈l,Q9 p)->(Yy l).length<=18*l.length
 |[],_=>by decide
 |[p],h=>by rw[FT];have:=C2<|h p<|Sm;simp;omega
 |p::q::l,h=>by
  have c:=C2<|h p<|Sm;have d:=zw _ λx a=>h x<|Vf _ a;rw[FR,Yx,Y1];simp_all;omega
theorem Rj.len{l:List Xc}(h:Rj l):(Yy l).length<=108018:=by
 have:=zw l h.2;have:=h.1;omega
theorem Rj.kept{l:List Xc}(h:Rj l)(bs:List<|LB):Rj<|Zp l bs:=⟨Xb (Qp _ _) h.1,λp a=>h.2 p (Qu.1 a).1⟩
theorem Fg:∀qs:List<|BA×BA,Wv qs=Yy (qs.map Xt)
 |[]=>C
 |[p]=>by
  show Sk p=XY (Xt p);unfold Sk XY Xt;simp
 |p::q::l=>by
  have e:Wv (p::q::l)=Sk p++44::Wv _:=C;rw[e,Fg _];show Sk p++44::Yy ((q::l).map Xt)=XY (Xt p)++44::Yy ((q::l).map Xt);congr 1;unfold Sk XY Xt;simp
theorem C8:∀(xs:List<|LB)(last:LB)(acc r:List Xc),Wf last acc xs=some r->(∀p∈acc,Q9 p)->∀p∈r,Q9 p
 |[],_,_,_,h,d=>by
  rw[Wf]at h;simp_all
 |x::xs,last,acc,r,h,d=>by
  rw[Wf]at h;split at h
  .cases h
  · rename_i p a;refine C8 _ _ _ r h λq c=>?_;rcases Wk.1 c with c|c
    .simp_all
    · rw[Vr]at c;subst c;unfold Rq at a;split at a
      .cases a
      · split at a
        .rename_i e;cases a;constructor<;>simp_all
        simp_all
theorem pj{l:LB}{ps:List Xc}(h:Wp l=some ps)(a:ps.length<=6001):Rj ps:=by
 refine⟨a,?_⟩;unfold Wp at h;split at h
 .simp_all
 .exact C8 _ _ _ _ h<|Sm
theorem GD:∀(l m:List El),To l->To m->(∀z,z∈l↔z∈m)->l=m
 |[],[],_,_,_=>C
 |[],b::m,_,_,h=>by have:=(h b).2<|Sm;cases this
 |a::l,[],_,_,h=>by have:=(h a).1<|Sm;cases this
 |a::l,b::m,f,g,h=>by
  obtain⟨l1,l2⟩:=Re.1 f;obtain⟨m1,m2⟩:=Re.1 g;have d:a=b:=by
   rcases X0.1<|(h a).1 (Sm)with e|e
   .exact e
   · rcases X0.1<|(h b).2 (Sm)with e2|e2
     .simp_all
     .have i:Op.bytesLess (Yy b.1) (Yy a.1)=true:=m1 a e;have j:Op.bytesLess (Yy a.1) (Yy b.1)=true:=l1 b e2;have:=PU _ _ _ i j;rw[R5]at this;cases this
  subst d;have irr:∀z,NP a z->z≠a:=λz c e=>by
   subst e;unfold NP at c;rw[R5]at c;cases c
  rw[GD l m l2 m2 λz=>?_];constructor
  · intro c;rcases X0.1<|(h z).1 (Vf _ c)with e|e
    .exact absurd e<|irr z<|l1 z c
    omega
  · intro c;rcases X0.1<|(h z).2 (Vf _ c)with e|e
    .exact absurd e<|irr z<|m1 z c
    omega
def Tm(L:List El):Prop:=L.Pairwise λa b=>Yy a.1≠Yy b.1
theorem et {L':List El}(hd:Tm L)(d:L'.Perm L)(f:L'.Pairwise λa b=>Op.bytesLess (Yy b.1) (Yy a.1)=false):L'=L.foldl V7 []:=by
 obtain⟨g,j,i⟩:=Lt L [] List.Pairwise.nil hd<|Sm;have e:Tm _:=(En (λh=>Qw h) d).2 hd;refine GD _ _ ?_ g λz=>?_
 .unfold To;have:=f.and e;refine this.imp λ{a b} c=>?_;unfold NP;cases h:Op.bytesLess (Yy a.1)<|Yy b.1with
  |true=>rfl
  |false=>exact absurd (Pc _ _ h c.1) c.2
 .rw[i,d.mem_iff];simp
theorem jL{M:List El}(a:Tm L)(c:Tm M)(h:∀z,z∈L↔z∈M):L.foldl V7 []=M.foldl V7 []:=by
 obtain⟨d,_,e⟩:=Lt L [] List.Pairwise.nil a<|Sm;obtain⟨k1,_,k3⟩:=Lt M [] List.Pairwise.nil c<|Sm;refine GD _ _ d k1 λz=>?_;simp_all
def Ru(l:List<|Int×Int):Prop:=l.Pairwise λa b=>a.1<b.1
def Ws(l:List<|Int×Int)(t:Int):Nat:=l.countP λx=>decide<|x.1<=t
theorem ES(h:∀x∈l,t<x.1):Ws l t=0:=by
 unfold Ws;simp_all;omega
theorem zj (t:Int):∀l:List<|Int×Int,Ru l->l.take (Ws l t)=l.filter λx=>decide<|x.1<=t
 |[],_=>C
 |a::l,h=>by
  obtain⟨f,g⟩:=Re.1 h;by_cases i:a.1<=t
  · have e:Ws (a::l) t=Ws l t+1:=Em<|by simp_all
    rw[e,List.take_succ_cons,zj t l g,NY<|by simp_all]
  · have d:∀x∈a::l,t<x.1:=λx c=>by
      rcases X0.1 c with rfl|c
      .omega
      .have:=f x c;omega
    rw[ES d,List.take_zero];symm;rw[MW];intro x c;have:=d x c;simp_all
theorem DP (t:Int):∀l:List<|Int×Int,Ru l->l.drop (Ws l t)=l.filter λx=>decide<|t<x.1
 |[],_=>C
 |a::l,h=>by
  obtain⟨f,g⟩:=Re.1 h;by_cases i:a.1<=t
  · have e:Ws (a::l) t=Ws l t+1:=Em<|by simp_all
    rw[e,List.drop_succ_cons,DP t l g,N4<|by simp_all]
  · have d:∀x∈a::l,t<x.1:=λx c=>by
      rcases X0.1 c with rfl|c
      .omega
      .have:=f x c;omega
    rw[ES d,PF];symm;rw[J2];intro x c;have:=d x c;simp_all
theorem tA(l:List<|Int×Int){s:Int}(h:s<=t):Ws l s<=Ws l t:=by
 unfold Ws;refine List.countP_mono_left λx _ a=>?_;simp_all;omega
theorem Gy(l:List<|Int×Int)(t:Int):Ws l t<=l.length:=List.countP_le_length
theorem zK(h:Ru l){n:Int}(a:0<=n):(l.take<|Ws l t).drop (Ws l<|t-n)=ZM l n t:=by
 have e:Ws l (t-n)=Ws (l.filter λx=>decide<|x.1<=t) (t-n):=by
  unfold Ws;rw[List.countP_filter];refine List.countP_congr λx _=>?_;simp;omega
 rw[zj t l h,e,DP _ _<|h.filter _,List.filter_filter];rfl
theorem qg {α:Type}(l:List α)(d:α):(List.range l.length).map (λi=>l.getD i d)=l:=by
 refine List.ext_getElem (Sm) λi c a=>?_;simp[a]
abbrev Qk:=List Xc×List Int
def Ww(k:List Xc)(v:Int):List Qk->List Qk
 |[]=>[(k,[v])]
 |g::m=>if g.1=k then(k,g.2++[v])::m else g::Ww k v m
def Wg(bs:List<|LB)(l:List El):List Qk:=l.foldl (λm e=>Ww (Zp e.1 bs) e.2 m) []
def RE(bs:List<|LB)(l:List El)(k:List Xc):List Int:=(l.filter λf=>decide<|Zp f.1 bs=k).map (·.2)
theorem IS(k:List Xc)(v:Int):∀m:List Qk,(Ww k v m).map (·.1)=if k∈m.map (·.1)then m.map (·.1)else m.map (·.1)++[k]
 |[]=>by rfl
 |g::m=>by
  rw[Ww];by_cases h:g.1=k
  .simp_all
  · rw[Yd h,Wb,IS k v m];have a:(k∈(g::m).map (·.1))↔(k∈m.map (·.1)):=by
      rw[Wb,X0];constructor
      · rintro(e|e)
        .simp_all
        omega
      .simp_all
    split<;>simp_all
theorem E7(k:List Xc)(v:Int):∀m:List Qk,(m.map (·.1)).Nodup->∀g:Qk,g∈Ww k v m↔(g.1≠k/\g∈m)\/(g.1=k/\((∃h∈m,h.1=k/\g.2=h.2++[v])\/(k∉m.map (·.1)/\g.2=[v])))
 |[],_,g=>by
  rw[Ww];simp only[Vr,List.not_mem_nil,and_false,false_or,N8,not_false_eq_true,true_and,false_and,exists_false];constructor
  .simp_all
  .rintro⟨d,c⟩;exact Prod.ext d c
 |a::m,j,g=>by
  rw[Wb,List.nodup_cons]at j;rw[Ww];by_cases h:a.1=k
  · rw[Ye h];have l:k∉m.map (·.1):=by rw[<-h];exact j.1
    rw[X0];constructor
    · rintro(rfl|n)
      .simp_all
      .refine Or.inl ⟨λe=>l<|XK.2 ⟨g,n,e⟩,Vf _ n⟩
    · rintro(⟨d,c⟩|⟨d,(⟨x,c,f,i⟩|⟨c,_⟩)⟩)
      · rcases X0.1 c with rfl|c
        .simp_all
        simp_all
      · rcases X0.1 c with rfl|c
        .exact Or.inl<|Prod.ext d i
        .exact absurd (XK.2 ⟨x,c,f⟩) l
      simp_all
  · rw[Yd h,X0,E7 k v m j.2 g];constructor
    · rintro(rfl|⟨d,c⟩|⟨d,(⟨x,c,f,i⟩|⟨c,f⟩)⟩)
      .simp_all
      .simp_all
      .exact Or.inr ⟨d,Or.inl ⟨x,Vf _ c,f,i⟩⟩
      · refine Or.inr ⟨d,Or.inr ⟨?_,f⟩⟩;rw[Wb,X0];rintro(e|e)
        .simp_all
        simp_all
    · rintro(⟨d,c⟩|⟨d,(⟨x,c,f,i⟩|⟨c,f⟩)⟩)
      .simp_all
      · rcases X0.1 c with rfl|c
        .simp_all
        .exact Or.inr<|Or.inr ⟨d,Or.inl ⟨x,c,f,i⟩⟩
      simp_all
theorem DL(bs:List<|LB)(l:List El)(e:El):Wg bs (l++[e])=Ww (Zp e.1 bs) e.2 (Wg bs l):=by unfold Wg;simp
theorem zW(bs:List<|LB)(l:List El)(e:El)(k:List Xc):RE bs (l++[e]) k=if Zp e.1 bs=k then RE bs l k++[e.2]else RE bs l k:=by
 unfold RE;split<;>simp_all
theorem ef{α:Type}{P:List α->Prop}(h0:P [])(h1:∀l a,P l->P (l++[a]))(l:List α):P l:=by
 have h:∀m:List _,P m.reverse:=λm=>by
  induction m with
  |nil=>exact h0
  |cons a m ih=>simp_all
 have:=h l.reverse;simp_all
theorem rF(bs:List<|LB)(l:List El):((Wg bs l).map (·.1)).Nodup/\(∀k,k∈(Wg bs l).map (·.1)↔∃e∈l,Zp e.1 bs=k)/\(∀g:Qk,g∈Wg bs l↔(∃e∈l,Zp e.1 bs=g.1)/\g.2=RE bs l g.1):=by
 induction l using ef with
 |h0=>exact⟨Ih,by simp[Wg],by simp[Wg]⟩
 |h1 l e ih=>
  obtain⟨h1,d,o⟩:=ih;rw[DL];refine⟨?_,λk=>?_,λg=>?_⟩
  .rw[IS];split
   .exact h1
   .rename_i p;rw[List.nodup_append];exact⟨h1,Sm,λa q b m=>by rw[Vr]at m;subst m;intro e';subst e';simp_all⟩
  .rw[IS];split
   .rename_i h;rw[d];constructor
    .simp_all
    .rintro⟨x,c,e'⟩;rcases Wk.1 c with c|c
     .exact⟨x,c,e'⟩
     simp_all
   .rw[Wk,d,Vr];constructor
    .rintro(⟨x,c,e'⟩|rfl)
     .exact⟨x,L8 _ c,e'⟩
     simp
    .rintro⟨x,c,e'⟩;rcases Wk.1 c with c|c
     .exact Or.inl ⟨x,c,e'⟩
     simp_all
  .rw[E7 _ _ _ h1 g,zW];by_cases i:g.1=Zp e.1 bs
   .rw[Ye i.symm];constructor
    .rintro(⟨a1,_⟩|⟨_,(⟨x,a2,a3,a4⟩|⟨a2,a3⟩)⟩)
     .simp_all
     .simp_all
     .refine⟨⟨e,Sm,i.symm⟩,?_⟩;rw[a3];have:RE bs l g.1=[]:=by
       unfold RE;rw[L9,MW];intro f j n;exact a2<|(d _).2 ⟨f,j,by simp_all⟩
      simp_all
    .rintro⟨_,a2⟩;refine Or.inr ⟨i,?_⟩;by_cases h:Zp e.1 bs∈(Wg bs l).map (·.1)
     .simp_all
     .refine Or.inr ⟨h,?_⟩;have:RE bs l g.1=[]:=by
       unfold RE;rw[L9,MW];intro f j n;exact h<|(d _).2 ⟨f,j,by simp_all⟩
      simp_all
   split<;>simp_all
def M4(op:Nat)(g:Qk):El:=(g.1,YZ<|T1 op g.2)
theorem DE(op:Nat)(bs:List<|LB)(all:List El)(m:∀e∈all,Rj e.1):∀(l pre:List El),(∀e∈l,e∈all)->(∀e∈pre,e∈all)->∀x:El,x∈Vx op bs all pre l↔∃e∈l,(∀f∈pre,Zp f.1 bs≠Zp e.1 bs)/\x=M4 op (Zp e.1 bs,RE bs all<|Zp e.1 bs)
 |[],pre,_,_,x=>by simp[Vx]
 |e::l,pre,o,p,x=>by
  have ih:=DE op bs all m l (pre++[e]) (λf a=>o f<|Vf _ a) (λf a=>by
   rcases Wk.1 a with a|a
   .simp_all
   simp_all) x;have q:=o e<|Sm;have d:∀f∈all,(Yy (Zp f.1 bs)=Yy (Zp e.1 bs))↔Zp f.1 bs=Zp e.1 bs:=λf a=>⟨λh=>FSq ((m f a).kept bs) ((m e q).kept bs) h,λh=>by rw[h]⟩;have n:(all.filter λf=>decide<|Yy (Zp f.1 bs)=Yy (Zp e.1 bs)).map (·.2)=RE bs all (Zp e.1 bs):=by
   unfold RE;congr 1;refine List.filter_congr λf a=>?_;rw[O8];exact d f a
  have g:pre.any (λf=>decide<|Yy (Zp f.1 bs)=Yy (Zp e.1 bs))=true↔∃f∈pre,Zp f.1 bs=Zp e.1 bs:=by
   rw[List.any_eq_true];constructor
   .rintro⟨f,a,h⟩;exact⟨f,a,(d f<|p f a).1<|by simp_all⟩
   .rintro⟨f,a,h⟩;exact⟨f,a,by simp_all⟩
  rw[Vx,Wk,ih,n];constructor
  · rintro(h|⟨f,a,i,j⟩)
    · split at h
      .cases h
      .rename_i r;rw[Vr]at h;refine⟨e,Sm,λf a k=>r<|g.2 ⟨f,a,k⟩,h⟩
    .exact⟨f,Vf _ a,λz c=>i z<|L8 _ c,j⟩
  · rintro⟨f,a,i,j⟩;by_cases k:Zp e.1 bs=Zp f.1 bs
    .left;rw[Yd λs=>by obtain⟨z,c,ez⟩:=g.1 s;exact i z c<|ez.trans k,Vr];rw[j,<-k];rfl
    · right;rcases X0.1 a with rfl|a
      .simp_all
      · refine⟨f,a,λz c=>?_,j⟩;rcases Wk.1 c with c|c
        .exact i z c
        simp_all
theorem qN{op:Nat}{bs:List<|LB}(l:List El)(c:∀e∈l,Rj e.1)(i:L.Perm<|(Wg bs l).map<|M4 op):Tm L/\L.foldl V7 []=SA op bs l:=by
 obtain⟨s1,s2,s3⟩:=rF bs l;have j:Tm<|(Wg bs l).map<|M4 op:=by
  unfold Tm;rw[Rx];have k:(Wg bs l).Pairwise λa b=>a.1≠b.1:=by
   have:=s1;unfold List.Nodup at this;rwa [Rx]at this
  refine NX ?_ k;intro a b o p m d;obtain⟨⟨x,f,ex⟩,_⟩:=(s3 a).1 o;obtain⟨⟨y,q,ey⟩,_⟩:=(s3 b).1 p;refine m<|FSq ?_ ?_ d
  .show Rj a.1;rw[<-ex];exact(c x f).kept bs
  .show Rj b.1;rw[<-ey];exact(c y q).kept bs
 have hd:Tm L:=(En (λh=>Qw h) i).2 j;refine⟨hd,?_⟩;unfold SA;refine jL hd (H7 _ _ l l _).1 λz=>?_;rw[i.mem_iff,DE _ _ l c l _ (λ_ h=>h) (Sm) z,XK];constructor
 .rintro⟨g,r,rfl⟩;obtain⟨⟨x,f,ex⟩,n⟩:=(s3 g).1 r;refine⟨x,f,Sm,?_⟩;unfold M4;simp_all
 .rintro⟨e,d,_,n⟩;exact⟨(Zp _ _,RE _ l _),(s3 _).2 ⟨⟨e,d,C⟩,C⟩,n.symm⟩
structure YG where
 a:Option Addr
 n:Nat
 c:Nat
 tx:BA
 qs:List<|BA×BA
 v:Int
def YG.enc(i:YG):List F:=[.slice i.a i.n i.c,.string i.tx,E i.v]
def YG.labs(i:YG):List Xc:=i.qs.map Xt
def YG.el(i:YG):El:=(i.labs,i.v)
structure Xz (w:Y)(a:Option Addr)(n c:Nat)(tx:BA)(qs:List<|BA×BA):Prop where
 row:TP w 0 (.slice a n c) n qs
 txt:bl tx=Yy (qs.map Xt)
 wf:Rj<|qs.map Xt
structure YR (w:Y)(i:YG):Prop where
 lb:Xz w i.a i.n i.c i.tx i.qs
 vok:YC i.v
def Y5(l:List YG):List F:=(l.map YG.enc).flatten
theorem Hq(l:List YG):(Y5 l).length=l.length*3:=by
 induction l with
 |nil=>rfl
 |cons a l ih=>unfold Y5 at*;rw[Wb,List.flatten_cons,Yx,ih,Y1];simp[YG.enc];omega
theorem Lq(l m:List YG):Y5 (l++m)=Y5 l++Y5 m:=by unfold Y5;simp
theorem OB(l:List YG)(j:Nat)(d:j<l.length):(Y5 l)[j*3]?=some (.slice l[j].a l[j].n l[j].c)/\(Y5 l)[j*3+1]?=some (.string l[j].tx)/\(Y5 l)[j*3+2]?=some (E l[j].v):=by
 induction l generalizing j with
 |nil=>simp at d
 |cons a l ih=>
  have e:Y5 (a::l)=.slice a.a a.n a.c::.string a.tx::.int .i64 a.v::Y5 l:=C;cases j with
  |zero=>simp_all
  |succ j=>
   have h:=ih j<|by simp_all
   rw[e,show(j+1)*3=j*3+1+1+1 by omega];assumption
structure Y2 (w:Y)(v:F)(l:List El)(is:List YG):Prop where
 row:w.ownsRow 0 223 3 v is.length<|Y5 is
 els:is.map YG.el=l
 ok:∀i∈is,YR w i
 len:is.length<=1000
def Wc(e:TypeId)(w w':Y):Prop:=∀(b:Nat)(c:Array F)(T:TypeId)(fr:Nat×Nat),T≠e->w.heap[b]?=some (.cells c T fr)->w'.heap[b]?=some (.cells c T fr)
def Zu(w w':Y):Prop:=∀(b:Nat)(c:Array F)(T:TypeId)(fr:Nat×Nat),w.heap[b]?=some (.cells c T fr)->w'.heap[b]?=some (.cells c T fr)
theorem Zu.refl(w:Y):Zu w w:=λ_ _ _ _ h=>h
theorem Zu.trans{a b c:Y}(h:Zu a b)(k:Zu b c):Zu a c:=λx d T fr e=>k x d T _<|h x d T _ e
theorem Zu.below(h:BW w w'):Zu w w':=λb _ _ _ a=>(h.block b (Xr.1 a).1).trans a
theorem Zu.b(h:Zu w w')(e:TypeId):Wc e w w':=λb c T fr _ a=>h b c T _ a
theorem Wc.trans{e:TypeId}{a b c:Y}(h:Wc e a b)(k:Wc e b c):Wc e a c:=λx d T fr f g=>k x d T _ f<|h x d T _ f g
theorem Wc.below(h:BW w w')(e:TypeId):Wc e w w':=(Zu.below h).b e
theorem Wc.grown{b:Nat}{e:TypeId}{s:Nat}(c:w.grownBy w' v.ownBlock)(d:w.ownsRow b e s v n xs):Wc e w w':=λk _ _ _ f a=>(c.block k (Xr.1 a).1<|ZD d a f).trans a
theorem Wc.own{t:TypeId}(h:Wc t w w'){e:TypeId}(a:w.ownsRow base e size v n xs)(c:e≠t):w'.ownsRow base e size v n xs:=by
 refine⟨a.1,?_⟩;rcases a.2 with j|⟨g,cap,cur,d,f,i,r⟩
 .simp_all
 .exact .inr ⟨g,cap,cur,d,f,h _ _ _ _ c i,r⟩
theorem Zu.own(h:Zu w w'){e:TypeId}(a:w.ownsRow base e size v n xs):w'.ownsRow base e size v n xs:=by
 refine⟨a.1,?_⟩;rcases a.2 with i|⟨g,cap,cur,c,d,f,r⟩
 .simp_all
 .exact .inr ⟨g,cap,cur,c,d,h _ _ _ _ f,r⟩
theorem Zu.cell(h:Zu w w'){b o:Nat}{u:F}(a:w.cell? ⟨b,o,none⟩=some u):w'.cell? ⟨b,o,none⟩=some u:=by
 unfold World.cell? at a⊢;cases d:w.heap[b]? with
 |none=>simp_all
 |some ob=>
  cases ob with
  |cells c T fr=>simp only[h _ _ _ _ d,d]at a⊢;exact a
  |_=>simp[d]at a
theorem Xz.kb{t:TypeId}{c:Nat}(h:Xz w a n c tx qs)(d:Wc t w w')(e:340≠t):Xz w' a n c tx qs:=⟨⟨d.own h.row.1 e,h.row.2⟩,h.txt,h.wf⟩
theorem YR.kb{t:TypeId}{i:YG}(h:YR w i)(a:Wc t w w')(c:340≠t):YR w' i:=⟨h.lb.kb a c,h.vok⟩
theorem Xz.jk{c:Nat}(h:Xz w a n c tx qs)(d:Zu w w'):Xz w' a n c tx qs:=⟨⟨d.own h.row.1,h.row.2⟩,h.txt,h.wf⟩
theorem YR.jk{i:YG}(h:YR w i)(a:Zu w w'):YR w' i:=⟨h.lb.jk a,h.vok⟩
theorem YR.below{i:YG}(h:YR w i)(a:BW w w'):YR w' i:=h.jk<|Zu.below a
theorem Y2.jk{l:List El}{is:List YG}(h:Y2 w v l is)(a:Zu w w'):Y2 w' v l is:=⟨a.own h.row,h.els,λi c=>(h.ok i c).jk a,h.len⟩
theorem Y2.below{l:List El}{is:List YG}(h:Y2 w v l is)(a:BW w w'):Y2 w' v l is:=h.jk<|Zu.below a
theorem Y2.len'{l:List El}{is:List YG}(h:Y2 w v l is):l.length=is.length:=by rw[<-h.els,Yz]
def Vq(w:Y)(v:F):VV->Prop
 |.inl n=>v=.iface 219 (.int .i64 n)/\YC n
 |.inr l=>∃s is,v=.iface 221 s/\Y2 w s l is
theorem Vq.jk{V:VV}(h:Vq w v V)(a:Zu w w'):Vq w' v V:=by
 cases V with
 |inl n=>exact h
 |inr l=>obtain⟨s,is,c,d⟩:=h;exact⟨s,is,c,d.jk a⟩
theorem Tryz.infoItem:(Tryz.prog.info? 223).map (λi=>(i.zero,i.size,i.bytes))=some (some<|.agg #[S0,.string ByteArray.empty,E 0],3,48):=by rfl
def IQ(w:Y)(g off:Nat)(l:List<|Int×Int):Prop:=∃c fr,w.heap[g]?=some (.cells c 315 fr)/\∀j (h:j<l.length),c[off+j*2]?=some (E l[j].1)/\c[off+j*2+1]?=some (E l[j].2)
theorem IQ.cells{g:Nat}(h:IQ w g off l)(j:Nat)(a:j<l.length):w.cell? ⟨g,off+j*2,none⟩=some (E l[j].1)/\w.cell? ⟨g,off+j*2+1,none⟩=some (E l[j].2):=by
 obtain⟨c,fr,d,e⟩:=h;obtain⟨f,i⟩:=e j a;constructor<;>simp[World.cell?,d,f,i]
def XP(w:Y)(av:Option Addr)(l:List<|Int×Int):Prop:=l=[]\/∃g off,av=some ⟨g,off,none⟩/\IQ w g off l
theorem XP.kb{t:TypeId}(h:XP w av l)(a:Wc t w w')(d:315≠t):XP w' av l:=by
 rcases h with h|⟨g,off,e,c,fr,f,i⟩
 .exact .inl h
 .exact .inr ⟨g,off,e,c,fr,a _ _ _ _ d f,i⟩
theorem XP.jk(h:XP w av l)(a:Zu w w'):XP w' av l:=by
 rcases h with h|⟨g,off,d,c,fr,e,f⟩
 .exact .inl h
 .exact .inr ⟨g,off,d,c,fr,a _ _ _ _ e,f⟩
theorem XP.below(h:XP w av l)(a:BW w w'):XP w' av l:=h.jk<|Zu.below a
theorem xh(g:Nat)(n:Nat)(t:Int){x:Int}(c:i<n)(d:w.cell? ⟨b1,0,none⟩=some (.slice (some ⟨g,off,none⟩) n cp))(f:w.cell? ⟨b2,0,none⟩=some (E t))(h:w.cell? ⟨g,off+i*2,none⟩=some (E x)):
 CP 232 #[E i,Vp b1,Vp b2] w λe u=>e=.returned (.bool<|decide<|t<x)/\BW w u:=by
 have a:(i:Int)<(n):=X;go_enter func232,ntmps232;go_wp2;go_region;all_goals go_wp2
 all_goals go_ret
 all_goals exact⟨by first|rfl|simp,Yh⟩
theorem tu{k:Nat}(d:k<=l.length)(f:∀j (h:j<l.length),j<k->l[j].1<=t)(g:∀j (h:j<l.length),k<=j->t<l[j].1):Ws l t=k:=by
 have e:=(Oi k l).symm;unfold Ws;rw[e,List.countP_append];have a1:(l.take k).countP (λx=>decide<|x.1<=t)=k:=by
  rw[List.countP_eq_length.2 λx a=>?_,Xw,QR d];obtain⟨j,c,rfl⟩:=List.mem_iff_getElem.1 a;rw[Xw]at c;rw[List.getElem_take];simpa using f j _ X
 have a2:(l.drop k).countP (λx=>decide<|x.1<=t)=0:=by
  rw[List.countP_eq_zero];intro x a;obtain⟨j,c,rfl⟩:=List.mem_iff_getElem.1 a;rw[Ur]at c;rw[List.getElem_drop];have:=g (k+j) X X;simp;omega
 rw[a1,a2];rfl
theorem Ru.get(h:Ru l){j:Nat}(c:i<=j)(d:j<l.length):l[i].1<=l[j].1:=by
 rcases Sf i j with a|a
 .exact Int.le_of_lt<|List.pairwise_iff_getElem.1 h i j _ _ a
 .obtain rfl:i=j:=X;exact M0 _
theorem iN(cp:Nat)(l:List<|Int×Int)(t:Int)(z:Ru l)(p:l.length<=6001)(A:w.cell? ⟨b1,0,none⟩=some (.slice av l.length cp))(B:w.cell? ⟨b2,0,none⟩=some (E t))(D:XP w av l):
 CP 231 #[E l.length,.func (.func 232) #[] #[Vp b1,Vp b2]] w λe u=>e=.returned (E (Ws l t:Nat))/\BW w u:=by
 have G:=XI z;have M:=XI D;have O:=XI A;have P:=XI B;obtain⟨r,q⟩:∃r,r=Ws l t:=⟨_,C⟩;rw[<-q];have Q:=XI q;obtain⟨n,s⟩:∃n,n=l.length:=⟨_,C⟩;rw[<-s]at p⊢;have o:=XI s;clear z D A B q s;go_enter func231,ntmps231;go_wp2;go_loopg [5,6] n (λkx s5 s6 wr=>∃lo a:Nat,s5=E lo/\s6=E a/\lo<=a/\a<=n/\a-lo<=kx/\U (BW w wr)/\U ((∀j (h:j<l.length),j<lo->l[j].1<=t)/\(∀j (h:j<l.length),a<=j->t<l[j].1)));case atStart=>exact⟨0,n,C,C,Yr _,Yj _,X,XI<|Ym _ _,XI ⟨λj _ h=>absurd h<|Tu _,λj h d=>by have:=o.o;omega⟩⟩
 case round=>
  obtain⟨lo,a,rfl,rfl,S,H,V,c,I⟩:=hrel;by_cases T:lo<a
  .have f:(lo+a)/2<l.length:=by have:=o.o;omega
   have J:l≠[]:=by intro e;rw[e]at f;simp at f
   obtain⟨g,off,rfl,K⟩:=M.resolve_left J;have k1:=(Zu.below c).cell O;have k2:=(Zu.below c).cell P;have k3:=(Zu.below c).cell (K.cells _ f).1;rw[<-o]at k1;have k:=xh g n t X k1 k2 k3;have R:U<|∀i (h:i<l.length),i<=(lo+a)/2->l[i].1<=l[(lo+a)/2].1:=XI λi h d=>G.get d _;have L:U<|∀i (h:i<l.length),(lo+a)/2<=i->l[(lo+a)/2].1<=l[i].1:=XI λi h d=>G.get d h;rw[show(((lo+a)/2:Nat))=((lo:Int)+(a))/2 by omega]at k;clear k1 k2 k3 K;generalize(l[(lo+a)/2]).1=x at*;by_cases v:t<x
   .rw[WI v]at k;go_wp2_with(go_at_call 232;refine k.m ?_;rintro e u ⟨rfl,m⟩);go_roundg ((lo+a)/2-lo);case measure=>omega
    case rel=>
     exact⟨lo,(lo+a)/2,C,by rw[show((lo)+(a))/2=(((lo+a)/2:Nat):Int)by omega],X,X,Yj _,XI<|c.trans<|m.mono c.size,XI ⟨I.1,λj h d=>Int.lt_of_lt_of_le v<|L j h d⟩⟩
   .rw[Wl v]at k;go_wp2_with(go_at_call 232;refine k.m ?_;rintro e u ⟨rfl,m⟩);go_roundg (a-((lo+a)/2+1));case measure=>omega
    case rel=>
     exact⟨(lo+a)/2+1,a,by rw[show((lo)+(a))/2+1=(((lo+a)/2+1:Nat):Int)by omega],C,X,H,Yj _,XI<|c.trans<|m.mono c.size,XI ⟨λj h d=>Int.le_trans (R j h X) X,I.2⟩⟩
  .obtain rfl:a=lo:=X;have e:r=a:=Q.o▸tu (by have:=o.o;omega) I.1 I.2;subst e;have m:=c.o;go_wp2;go_ret;exact⟨C,m⟩
theorem AN(cp:Nat)(l:List<|Int×Int)(t:Int)(w:Y)(c:Ru l)(a:l.length<=6001)(d:XP w av l):
 CP 205 #[.slice av l.length cp,E t] w λe u=>e=.returned (E (Ws l t:Nat))/\BW w u:=by
 have g:U<|∀W,Below _ w W->XP W _ l:=I λW h=>d.below h;have i:=I c;clear d c;go_enter func205,ntmps205;go_wp2_with fail;refine(iN cp l t i a ?_ ?_<|g _ Yh).m ?_
 .simp
 .simp
 rintro e u ⟨rfl,j⟩;have f:BW w _:=Below.trans Yh<|j.mono<|by simp;omega
 go_wp2;go_ret;exact⟨C,f⟩
theorem zJ(h:Ru l){n:Int}(c:0<=n):(ZM l n t).length=Ws l t-Ws l (t-n)/\∀j (a:j<(ZM l n t).length),∃f:Ws l (t-n)+j<l.length,(ZM l n t)[j]=l[Ws l (t-n)+j]:=by
 have e:=zK h (t:=t) c;have d:(ZM l n t).length=Ws l t-Ws l (t-n):=by
  rw[<-e,Ur,Xw,QR<|Gy l t]
 refine⟨d,λj a=>?_⟩;have:=Gy l t;refine⟨X,?_⟩;have e2:(ZM l n t)[j]?=l[Ws l (t-n)+j]?:=by
  rw[<-e,Kj,Ek X]
 rw[List.getElem?_eq_getElem a,List.getElem?_eq_getElem X]at e2;exact Ub e2
theorem ir(n t:Int)(x:Ru l)(p:l.length<=6001)(H:l.length<=cp)(J:0<=n)(a1:n<=1000)(a2:-1000000<=t)(a3:t<=1000000)(K:XP w av l):
 CP 175 #[.slice av l.length cp,E n,E t] w λe u=>∃av' cp',e=.returned (.slice av' (ZM l n t).length cp')/\U (XP u av'<|ZM l n t)/\BW w u:=by
 have A:=zJ x (t:=t) J;have T:Ws l (t-n)<=Ws l t:=tA l X;have L:=Gy l t;have M:=I A;have O:=I x;have r:=I K;have B:=I p;have s:=A.1;clear A x K;have U1:=I λW D=>AN cp l (t-n) W O B<|r.below D;have U2:=I λW D=>AN cp l t W O B<|r.below D;obtain⟨lo,k⟩:∃lo,Ws l (t-n)=lo:=⟨_,C⟩;obtain⟨G,d⟩:∃G,Ws l t=G:=⟨_,C⟩;obtain⟨ln,f⟩:∃ln,l.length=ln:=⟨_,C⟩;obtain⟨P,m⟩:∃P,(ZM l n t).length=P:=⟨_,C⟩;rw[k,d]at M;rw[k,d,m]at s;rw[m];rw[f,k]at U1;rw[f,d]at U2;rw[k,d]at T;rw[d,f]at L;rw[f]at p H⊢;have Q:=I f;have v:=I m;clear k d f m B;subst s;have R:av=none->G=0/\lo=0:=by
  intro e;rcases r.o with h|⟨g,off,o,_⟩
  .have:=Q.o;rw[h]at this;simp at this;omega
  .rw[e]at o;cases o
 cases av with
 |none=>
  obtain⟨rfl,rfl⟩:=R C;have V:=I<|Qq<|by have:=v.o;omega
  go_enter func175,ntmps175;go_wp2_with fail;refine(U1 _<|Ym _ _).m ?_;rintro e Z ⟨rfl,a⟩;go_wp2_with fail;refine(U2 _ a).m ?_;rintro e z ⟨rfl,q⟩;have i:=a.trans<|q.mono a.size;go_wp2;go_ret;exact⟨_,_,C,I<|.inl V,i⟩
 |some a0=>
  go_enter func175,ntmps175;go_wp2_with fail;refine(U1 _<|Ym _ _).m ?_;rintro e Z ⟨rfl,a⟩;go_wp2_with fail;refine(U2 _ a).m ?_;rintro e z ⟨rfl,q⟩;have i:=a.trans<|q.mono a.size;go_wp2;go_ret
  .exact⟨_,⟨_,C⟩,I<|.inl<|Qq<|by have:=v.o;omega,i⟩
  .go_ret;rcases r.o with h|⟨g,off,o,c,fr,h2,h3⟩
   .exact⟨_,⟨_,C⟩,I<|.inl<|by rw[h];rfl,i⟩
   .injection o with o;subst o;refine⟨_,⟨_,C⟩,I<|.inr ⟨g,off+lo*2,?_,c,fr,Zu.below i _ _ _ _ h2,λj hj=>?_⟩,i⟩
    .simp[Addr.add]
    .obtain⟨S,e⟩:=M.2 j hj;have:=h3 _ S;rw[e,show off+lo*2+j*2=off+(lo+j)*2 by omega];exact this
theorem Av:∀(l:List Xc)(n:LB)(k:Nat)(d:k<l.length),(∀p∈l.take k,p.1≠n)->l[k].1=n->So l n=l[k].2
 |p::l,n,0,_,_,a=>by rw[So];exact Ye a
 |p::l,n,k+1,d,c,a=>by
  rw[So,Yd<|c p<|Sm];exact Av l n k _ (λq e=>c q<|List.take_succ_cons▸Vf _ e) a
theorem zq:∀(l:List Xc)(n:LB),(∀p∈l,p.1≠n)->So l n=[]
 |[],_,_=>C
 |p::l,n,h=>by rw[So,Yd<|h p<|Rd ..];exact zq l n λq a=>h q<|Vf _ a
theorem qR(tx nm:BA)(qs:List<|BA×BA)(h:TP w 0 (.slice av n cp) n qs):
 CP 204 #[.agg #[.slice av n cp,.string tx],.string nm] w λe u=>∃r:BA,e=.returned (.string r)/\U (bl r=So (qs.map Xt) (bl nm))/\BW w u:=by
 have m:qs.length=n:=by have:=h.1.1;rw[Jc]at this;omega
 subst m;have t:=I h;have D:=h.2.1;clear h;go_enter func204,ntmps204;go_wp2;go_loopw [10] (λi wr=>∃k:Nat,k<=qs.length/\i=E k/\U (∀q∈qs.take k,bl q.1≠bl nm)/\U (BW w wr)) (λi _=>qs.length-(intOf i).toNat);case atStart=>exact⟨0,Yr _,C,I<|by intro q d;simp at d,I Yc⟩
 case round=>
  obtain⟨k,G,rfl,o,j⟩:=hrel;by_cases f:k<qs.length
  .obtain⟨g,cpx,A⟩:=Zm t.1 X;injection A with hg1 _ hg2;subst hg1 hg2;have a:=Ze t.1 j;have c1:wr.cell? _=some (.string _):=Zc a _ _<|by rw[(Jb _ k).1,List.getElem?_eq_getElem f];rfl
   have c2:wr.cell? _=some (.string _):=Zc a _ _<|by rw[(Jb _ k).2,List.getElem?_eq_getElem f];rfl
   have v:=j.size;clear a;by_cases d:bl (qs[k]).1=bl nm
   .have s:U<|So (qs.map Xt) (bl nm)=bl (qs[k]).2:=by
     rw[Av _ _ k (by rwa [Yz]) (λp l=>by
      rw[<-Q1]at l;obtain⟨q,c,rfl⟩:=XK.1 l;exact o q c)<|by rwa [List.getElem_map],List.getElem_map];rfl
    have B:((qs[k]).1.toList==nm.toList)=true:=by rw[ZA,ZA,d];simp
    generalize(qs[k]).1=x at*;generalize(qs[k]).2=y at*;go_wp2;go_ret;exact⟨_,C,I s.symm,Yh⟩
   .have B:((qs[k]).1.toList==nm.toList)=false:=by rw[ZA,ZA];simp[d]
    have z:U<|∀q∈qs.take<|k+1,bl q.1≠bl nm:=by
     intro q c;rw[List.take_succ_eq_append_getElem f]at c;rcases Wk.mp c with h|h
     .exact o q h
     .rw[Vr]at h;subst h;exact d
    generalize(qs[k]).1=x at*;generalize(qs[k]).2=y at*;go_wp2;go_roundw;case rel=>exact⟨k+1,X,by go_num,z,I<|j.alloc v _⟩
    case measure=>simp[intOf];omega
  .obtain rfl:k=qs.length:=X;have s:U<|So (qs.map Xt) _=[]:=I<|zq _ _ λp l=>by
     obtain⟨q,d,rfl⟩:=XK.1 l;exact o q<|by rwa [X1]
   go_wp2;go_ret;exact⟨_,C,I s.symm,j⟩
structure YU where
 nm:BA
 a:Option Addr
 n:Nat
 c:Nat
 tx:BA
 qs:List<|BA×BA
 sa:Option Addr
 sc:Nat
 jm:List<|Int×Int
def YU.enc(s:YU):List F:=[.string s.nm,.slice s.a s.n s.c,.string s.tx,.slice s.sa s.jm.length s.sc]
def YU.ser(s:YU):YY:=⟨bl s.nm,s.qs.map Xt,s.jm⟩
structure T9 (w:Y)(s:YU):Prop where
 lb:Xz w s.a s.n s.c s.tx s.qs
 sam:XP w s.sa s.jm
 tm:Ru s.jm
 len:s.jm.length<=6001
 cap:s.jm.length<=s.sc
 ok:∀x∈s.jm,Vb x
theorem T9.jk{s:YU}(h:T9 w s)(a:Zu w w'):T9 w' s:=⟨h.lb.jk a,h.sam.jk a,h.tm,h.len,h.cap,h.ok⟩
theorem Z0.jk{ns:List<|LB×LB×Bool}(h:Z0 w v ns)(a:Zu w w'):Z0 w' v ns:=by
 obtain⟨bs,c,d⟩:=h;exact⟨bs,a.own c,d⟩
theorem Ue.jk{ns:List<|LB}(h:Ue w v ns)(a:Zu w w'):Ue w' v ns:=by
 obtain⟨bs,c,d⟩:=h;exact⟨bs,a.own c,d⟩
theorem sD(l:List<|BA×BA×Bool)(j:Nat)(c:j<l.length):(UF l)[j*3]?=some (.string l[j].1)/\(UF l)[j*3+1]?=some (.bool l[j].2.2)/\(UF l)[j*3+2]?=some (.string l[j].2.1):=by
 induction l generalizing j with
 |nil=>simp at c
 |cons a l ih=>
  cases j with
  |zero=>exact⟨C,C,C⟩
  |succ j=>
   have h:=ih j<|by simpa using c
   rw[show(j+1)*3=j*3+1+1+1 by omega];simpa [UF]using h
theorem jU{a:Nd}(s:YY){qs:List<|BA×BA×Bool}(h:qs.map Wo=a.kq)(k:Nat)(c:k<qs.length)(d:RM s (Wo qs[k])=false):UI a s=false:=by
 unfold UI;rw[<-h,show(qs.map _).all _=false from ?_];rfl;rw[Km];exact⟨Wo _,XK.mpr ⟨_,List.getElem_mem c,C⟩,by simp[d]⟩
theorem jV{a:Nd}(s:YY){qs:List<|BA×BA×Bool}(h:qs.map Wo=a.kq)(d:∀q∈qs,RM s (Wo q)=true):UI a s=decide (a.name=s.name):=by
 unfold UI;rw[<-h,show(qs.map _).all _=true from ?_];rfl;rw[Tt];intro c e;obtain⟨q,f,rfl⟩:=XK.mp e;exact d q f
theorem kp{e:TypeId}(h:w.ownsRow base e size v n xs):n<=9223372036854775807:=by
 rcases h.2 with⟨_,c⟩|⟨g,cap,cur,d,f,i,j,a,r⟩
 .omega
 .unfold maxLen at a;omega
theorem Gr(a b:BA):(a.toList==b.toList)=decide (bl a=bl b):=by
 rw[ZA,ZA,Uc,XM,Qr]
theorem jW(s:YU)(H:bl nm=nd.name)(hc:Z0 w (.slice la ln lc) nd.kq)(Z:Xz w s.a s.n s.c s.tx s.qs):
 CP 174 #[.agg #[.string nm,.slice la ln lc],.agg #[.string s.nm,.slice s.a s.n s.c,.string s.tx,.slice s.sa s.jm.length s.sc]] w λe u=>e=.returned (.bool<|UI nd s.ser)/\BW w u:=by
 obtain⟨cs,f,J⟩:=hc;have a4:=kp f;obtain⟨av,cp,hv⟩:=Zd f;injection hv with hv1 hv2 hv3;subst hv2;have HO:=I f;have m:U<|bl _=nd.name/\cs.map _=nd.kq:=⟨H,J⟩;obtain⟨snm,a,n,c,tx,qs,sa,sc,jm⟩:=s;have HL:U<|TP w 0 (.slice a n c) n qs:=Z.row;clear f hv1 hv3 J H Z;obtain⟨S,o⟩:∃S,S=YU.ser ⟨snm,a,n,c,tx,qs,sa,sc,jm⟩:=⟨_,C⟩;have K:U<|S.name=bl snm/\S.labs=qs.map Xt:=o▸⟨C,C⟩;rw[<-o];clear o;simp only;have HE:U<|(snm.toList==nm.toList)=decide (nd.name=S.name):=by
  rw[Gr,m.1,K.1,O8];exact⟨λh=>h.symm,λh=>h.symm⟩
 by_cases d:nd.name≠S.name
 .have Q:=HE.o;rw[Wl d]at Q;have i:U<|UI _ S=false:=I<|by unfold UI;rw[Wl d,Na]
  go_enter func174,ntmps174;go_wp2;go_ret;exact⟨by rw[i];rfl,Yh⟩
 replace d:=Classical.not_not.1 d;have Q:=HE.o;rw[WI d]at Q;have a0:=I d;clear d;go_enter func174,ntmps174;go_wp2;go_loopg [16] cs.length (λgk v16 wr=>∃k:Nat,k<=cs.length/\gk=cs.length-k/\v16=E k/\U (∀q∈cs.take k,RM S (Wo q)=true)/\U (BW w wr)/\U (Ya wr (w.heap.size+1) [.string snm,.slice a n c,.string tx,.slice sa jm.length sc] 201));case atStart=>exact⟨0,Yr _,C,C,I<|by intro q hq;simp at hq,I<|Yc.alloc (Sm) _,I<|by have:=Go.Deep.blk_alloc_new (w.alloc<|.cells #[.string nm,.slice la cs.length lc] 229)<|.cells #[.string snm,.slice a n c,.string tx,.slice sa jm.length sc] 201;rw[Go.Deep.nblk_alloc]at this;exact this⟩
 case round=>
  obtain⟨k,hk,a5,rfl,HR,p,R⟩:=hrel;by_cases t:k<cs.length
  .have hg:∃g,la=some ⟨g,0,none⟩:=by
    obtain⟨g,cp',h⟩:=Zm HO.o X;injection h with h1;exact⟨g,h1⟩
   obtain⟨g,rfl⟩:=hg;have j:=I<|Ze HO p;obtain⟨f1,f2,f3⟩:=sD _ k t;have d1:=Zc j _ _ f1;have d2:=Zc j _ _ f2;have d3:=Zc j _ _ f3;have HK:=I λh=>jU S m.2 k t h;have HN:U<|RM S (Wo cs[k])=true->∀q∈cs.take<|k+1,RM S (Wo q)=true:=by
    intro hh q L;rw[List.take_succ_eq_append_getElem t]at L;rcases Wk.mp L with h|h
    .exact HR q h
    .rw[Vr]at h;subst h;exact hh
   generalize cs[k]=q at*;obtain⟨x,y,v⟩:=q;simp only at d1 d2 d3;clear f1 f2 f3;have a6:(k:Int)<(cs.length):=X;go_upto_region 6 with fail;refine Zs λW T=>?_;have z:Below _ _ W:=T▸Yc;have A:U<|Ya W _ _ 374:=T▸YO;have B:=I<|p.trans<|z.mono p.size;have D:=I<|R.below z;have a7:=R.lt;have a8:=A.lt;have a1:=I<|HL.below B;clear T z p R d1 d2 d3 j;have b1:=D.cell 1;have b2:=D.cell 2;have c0:=A.cell 0;have c1:=A.cell 1;have c2:=A.cell 2;simp only[Yf]at b1 b2 c0 c1 c2;go_region_held3 (λu=>u.cell? ⟨w.heap.size+1,1,none⟩=some (.slice a n c)/\u.cell? ⟨w.heap.size+1,2,none⟩=some (.string tx)/\u.cell? ⟨wr.heap.size,0,none⟩=some (.string x)/\u.cell? ⟨wr.heap.size,2,none⟩=some (.string y)) (first|exact⟨b51,b52,c50,c52⟩|exact⟨b1,b2,c0,c2⟩|go_keep) (first
    | (go_at_call 204;refine(qR tx x qs<|by exact a1.below ⟨C,C,C,Yj _,λ_ _=>C⟩).m ?_;rintro e w5 ⟨r,rfl,a2,M⟩;have G:U<|BW W w5:=I<|Gn M;have a3:=I<|A.below G.o;have O:=I<|D.below G.o;have c50:=a3.cell;have b51:=O.cell;clear M));have HQ:U<|RM S (Wo (x,y,v))=!((r.toList==y.toList)==v):=by
    rw[Gr,a2,<-K.2];rfl
   have P:=I<|B.trans<|G.mono B.size;generalize(r.toList==y.toList)=b at*;by_cases l:b=v
   .have i:=I<|HK<|by rw[HQ,l];simp
    have V:(b==v)=true:=by rw[l];simp
    go_wp2;go_ret;exact⟨by rw[i];rfl,P⟩
   .have i:=I<|HN<|by rw[HQ];simp[l]
    have V:(b==v)=false:=by simp[l]
    go_wp2;go_roundg (cs.length-(k+1));case measure=>omega
    case rel=>exact⟨k+1,X,C,by go_num,i,P,O⟩
  .obtain rfl:k=cs.length:=X;have i:=I<|jV S m.2<|by have:=HR.o;rwa [X1]at this
   go_wp2;go_ret;exact⟨by rw[i,WI a0.o];rfl,p⟩
structure Wq where
 a:Option Addr
 n:Nat
 c:Nat
 tx:BA
 qs:List<|BA×BA
 sa:Option Addr
 sc:Nat
 jm:List<|Int×Int
def Wq.enc(s:Wq):List F:=[.slice s.a s.n s.c,.string s.tx,.slice s.sa s.jm.length s.sc]
def Wq.pr(s:Wq):List Xc×List (Int×Int):=(s.qs.map Xt,s.jm)
structure Y4 (w:Y)(s:Wq):Prop where
 lb:Xz w s.a s.n s.c s.tx s.qs
 sam:XP w s.sa s.jm
 ne:s.jm≠[]
 len:s.jm.length<=6001
 ok:∀x∈s.jm,Vb x
theorem Y4.kb{t:TypeId}{s:Wq}(h:Y4 w s)(a:Wc t w w')(c:340≠t)(d:315≠t):Y4 w' s:=⟨h.lb.kb a c,h.sam.kb a d,h.ne,h.len,h.ok⟩
theorem Y4.jk{s:Wq}(h:Y4 w s)(a:Zu w w'):Y4 w' s:=⟨h.lb.jk a,h.sam.jk a,h.ne,h.len,h.ok⟩
def V9(l:List Wq):List F:=(l.map Wq.enc).flatten
theorem sW(l m:List Wq):V9 (l++m)=V9 l++V9 m:=by unfold V9;rw[Xa,JZ]
theorem DU(l:List Wq)(j:Nat)(d:j<l.length):(V9 l)[j*3]?=some (.slice l[j].a l[j].n l[j].c)/\(V9 l)[j*3+1]?=some (.string l[j].tx)/\(V9 l)[j*3+2]?=some (.slice l[j].sa l[j].jm.length l[j].sc):=by
 induction l generalizing j with
 |nil=>simp at d
 |cons a l ih=>
  have e:V9 (a::l)=.slice _ _ _::.string _::.slice _ _ _::V9 l:=C;cases j with
  |zero=>rw[e];exact⟨C,C,C⟩
  |succ j=>
   have h:=ih j<|by simpa using d
   rw[e,show(j+1)*3=j*3+1+1+1 by omega];simpa using h
structure Wa (w:Y)(v:F)(rs:List Wq):Prop where
 row:w.ownsRow 0 311 3 v rs.length<|V9 rs
 ok:∀s∈rs,Y4 w s
theorem Wa.jk{rs:List Wq}(h:Wa w v rs)(a:Zu w w'):Wa w' v rs:=⟨a.own h.row,λs c=>(h.ok s c).jk a⟩
theorem Wa.below{rs:List Wq}(h:Wa w v rs)(a:BW w w'):Wa w' v rs:=h.jk<|Zu.below a
def VH(st:List YY)(a:Nd)(n t:Int):List<|List Xc×List (Int×Int):=(st.filter λs=>UI a s&&!(ZM s.jm n t).isEmpty).map λs=>(s.labs,ZM s.jm n t)
theorem jC{st:List YY}{s:YY}{a:Nd}{n:Int}:VH (st++[s]) a n t=if UI a s&&!(ZM s.jm n t).isEmpty then VH st a n t++[(s.labs,ZM s.jm n t)]else VH st a n t:=by
 unfold VH;rw[N7,Xa];split
 .rename_i h;rw[NY<|by simpa using h];rfl
 .rename_i h;rw[N4<|by simpa using h];simp
theorem Bu(st:List YY)(a:Nd)(n t:Int):(VH st a n t).length<=st.length:=by
 unfold VH;rw[Yz];exact Qp _ _
theorem mQ (st:List YY)(a:Nd)(op:Option Nat)(n t:Int):P2 st a op n t=(VH st a n t).map λp=>(p.1,X3 op p.2):=by
 unfold P2 VH;rw[VD];rfl
def Sq(l:List YU):List F:=(l.map YU.enc).flatten
theorem sX(l:List YU)(j:Nat)(d:j<l.length):(Sq l)[j*4]?=some (.string l[j].nm)/\(Sq l)[j*4+1]?=some (.slice l[j].a l[j].n l[j].c)/\(Sq l)[j*4+2]?=some (.string l[j].tx)/\(Sq l)[j*4+3]?=some (.slice l[j].sa l[j].jm.length l[j].sc):=by
 induction l generalizing j with
 |nil=>simp at d
 |cons a l ih=>
  have e:Sq (a::l)=.string _::.slice _ _ _::.string _::.slice _ _ _::Sq l:=C;cases j with
  |zero=>rw[e];exact⟨C,C,C,C⟩
  |succ j=>
   have h:=ih j<|by simpa using d
   rw[e,show(j+1)*4=j*4+1+1+1+1 by omega];simpa using h
structure Up (w:Y)(v:F)(ss:List YU):Prop where
 row:w.ownsRow 0 201 4 v ss.length<|Sq ss
 ok:∀s∈ss,T9 w s
 len:ss.length<=30
theorem Up.jk{ss:List YU}(h:Up w v ss)(a:Zu w w'):Up w' v ss:=⟨a.own h.row,λs c=>(h.ok s c).jk a,h.len⟩
theorem Up.below{ss:List YU}(h:Up w v ss)(a:BW w w'):Up w' v ss:=h.jk<|Zu.below a
theorem Tryz.infoStretch:(Tryz.prog.info? 311).map (λi=>(i.zero,i.size,i.bytes))=some (some<|.agg #[S0,.string ByteArray.empty,S0],3,64):=Kr
theorem Ab{sv:F}{ss:List YU}(n t:Int)(w:Y)(T:Up w sv ss)(b0:bl nm=nd.name)(hc:Z0 w (.slice la ln lc) nd.kq)(b8:0<=n)(b9:n<=1000)(c0:-1000000<=t)(c6:t<=1000000):
 CP 138 #[sv,.agg #[.string nm,.slice la ln lc],E n,E t] w λe w'=>∃v rs,e=.returned v/\U (Wa w' v rs/\rs.map Wq.pr=VH (ss.map YU.ser) nd n t)/\BW w w':=by
 obtain⟨i0,hi,c7,c8,c9⟩:=Xv Tryz.infoStretch;obtain⟨sa,scp,rfl⟩:=Zd T.row;have b1:=I T;have d9:=T.len;have d0:=I b0;have HC:=I hc;clear T b0 hc;go_enter func138,ntmps138;go_wp2;go_loopw [9,15] (λv i wr=>∃(k:Nat)(rs:List Wq),k<=ss.length/\i=E k/\rs.length<=k/\wr.ownsRow (w.heap.size+1) 311 3 v rs.length (V9 rs)/\U ((∀s∈rs,Y4 wr s)/\rs.map Wq.pr=VH ((ss.take k).map YU.ser) nd n t)/\U (Ya wr w.heap.size [.string nm,.slice la ln lc] 229)/\U (BW w wr))
  (λ_ i _=>ss.length-(intOf i).toNat);case atStart=>exact⟨0,[],Yr _,C,Yr _,Xm _ _ _ _,I ⟨(by intro s M;cases M),by simp[VH]⟩,I YO,I Yc⟩
 case round=>
  obtain⟨k,rs,hk,rfl,e0,O,HR,H,HB⟩:=hrel;by_cases a3:k<ss.length
  .have hg:∃g,sa=some ⟨g,0,none⟩:=by
    obtain⟨g,cp',h⟩:=Zm b1.row X;injection h with h1;exact⟨g,h1⟩
   obtain⟨g,rfl⟩:=hg;have r:=I<|b1.below HB;obtain⟨f1,f2,f3,f4⟩:=sX _ k a3;have d1:=Zc r.row _ _ f1;have d2:=Zc r.row _ _ f2;have d3:=Zc r.row _ _ f3;have d4:=Zc r.row _ _ f4;have b2:=I<|r.ok _<|List.getElem_mem a3;have J:U<|VH ((ss.take<|k+1).map YU.ser) nd n t=if UI nd (ss[k]).ser&&!(ZM (ss[k]).jm n t).isEmpty then VH ((ss.take k).map YU.ser) nd n t++[((ss[k]).qs.map Xt,ZM (ss[k]).jm n t)]else VH ((ss.take k).map YU.ser) nd n t:=List.take_succ_eq_append_getElem a3▸Xa▸jC;generalize ss[k]=s at*;clear f1 f2 f3 f4 r;have e1:(k:Int)<(ss.length):=X;have x0:=H.cell 0;have x1:=H.cell 1;simp only[Yf]at x0 x1;have e2:=H.lt;go_wp2_with fail;refine Zv λW hW=>?_;have A:Below _ _ W:=hW▸Yc;have V:=I<|HB.trans<|A.mono HB.size;have b3:U<|Ya W _ [.string _,.slice _ _ _,.string _,.slice _ _ _] 201:=hW▸YO;have a4:=I<|H.below A;have Z:=Ze O A;have a5:U<|(∀s∈rs,Y4 W s)/\rs.map _=VH _ _ n t:=I ⟨λs M=>(HR.1 s M).jk<|Zu.below A,HR.2⟩;have P:=I<|b2.jk<|Zu.below A;clear hW A O HR H x0 x1 d1 d2 d3 d4 b2 HB;refine(jW s d0 (HC.below V) P.lb).m ?_;rintro e w1 ⟨rfl,m⟩;have a0:=I<|V.trans<|m.mono V.size;have f:=I<|b3.below m;have Q:=I<|a4.below m;have B:=Ze Z m;have K:U<|(∀s∈rs,Y4 _ s)/\rs.map _=VH _ _ n t:=I ⟨λs M=>(a5.1 s M).jk<|Zu.below m,a5.2⟩;have j:=I<|P.jk<|Zu.below m;clear m V b3 a4 Z a5 P;cases hp:UI nd s.ser with
   |false=>
    have L:U<|(∀s∈rs,Y4 _ s)/\rs.map Wq.pr=VH ((ss.take<|k+1).map YU.ser) nd n t:=I ⟨K.1,J.o▸hp▸K.2⟩;clear hp;go_wp2;go_roundw;case rel=>exact⟨k+1,rs,X,by go_num,X,B,L,Q,a0⟩
    case measure=>simp[intOf];omega
   |true=>
    have HP:=I hp;clear hp;have x0:=f.cell 0;have x1:=f.cell 1;have x2:=f.cell 2;have x3:=f.cell 3;simp only[Yf]at x0 x1 x2 x3;go_wp2_with fail;refine(ir n t j.tm j.len j.cap b8 b9 c0 c6 j.sam).m ?_;rintro e w2 ⟨av',cp',rfl,a6,p⟩;have a7:=I<|a0.trans<|p.mono a0.size;have b6:=I<|f.below p;have R:=I<|Q.below p;have d:=Ze B p;have a1:U<|(∀s∈rs,Y4 _ s)/\rs.map _=VH _ _ n t:=I ⟨λs M=>(K.1 s M).jk<|Zu.below p,K.2⟩;have S:=I<|j.jk<|Zu.below p;clear p a0 f Q B K j x0 x1 x2 x3;obtain⟨l,a2⟩:∃l,ZM s.jm n t=l:=⟨_,C⟩;rw[a2]at a6 J⊢;by_cases he:l=[]
    .have L:U<|(∀s∈rs,Y4 _ s)/\rs.map _=VH _ _ n t:=I ⟨a1.1,by rw[J,he];simpa using a1.2⟩;subst he;go_wp2;go_roundw;case rel=>exact⟨k+1,rs,X,by go_num,X,d,L,R,a7⟩
     case measure=>simp[intOf];omega
    .have d8:=QX.2 he;have d5:U<|VH _ _ n t=VH ((ss.take k).map _) _ n t++[(s.qs.map Xt,l)]:=I<|by
      rw[J,HP,Ye];simpa using he
     have d6:U<|Y4 _ ⟨s.a,s.n,s.c,s.tx,s.qs,av',cp',l⟩:=I ⟨S.lb,a6,he,by
      have:l.length<=s.jm.length:=a2▸Qp _ _;have:=S.len;show l.length<=6001;omega,λx hx=>S.ok x<|by rw[<-a2]at hx;exact(Qu.1 hx).1⟩;have e3:(0:Int)<(l.length):=X;have x0:=b6.cell;have e4:=a7.size;have e5:=R.lt;clear a2 he J HP a6;go_wp2_with(at_builtin;refine XC _ C (.tmp 31) (.tmp 36) 233 C (w.heap.size+1) 311 i0 (.agg #[S0,.string ByteArray.empty,S0]) 3 64 underlying233 hi c7 c8 c9 C N _ _ _ C (d.alloc _) ⟨w2.heap.size,0,none⟩ 1 1 [.slice s.a s.n s.c,.string s.tx,.slice av' l.length cp'] C C ?c1 ?c2 ?c3 ?c4 ?c5 ?_);case c1=>exact EP (Sm) (Sm)<|Sm
     case c2=>intro u hu;simp at hu;rcases hu with rfl|rfl|rfl<;>rfl
     case c3=>unfold maxLen;omega
     case c4=>omega
     case c5=>simp;omega
     intro v' w3 a8 D _;have b4:=(a7.alloc X _).grown D (by simp;omega) λq hq=>by have:=(d.lt q hq).1;omega
     have b5:∀o,Wc 311 _<|w2.alloc o:=λo=>Wc.below Yc _;have G:=(b5 _).trans<|Wc.grown D<|d.alloc _;have a9:w3.ownsRow (w.heap.size+1) 311 3 v' (rs++[(⟨s.a,s.n,s.c,s.tx,s.qs,av',cp',l⟩:Wq)]).length<|V9<|rs++[(⟨s.a,s.n,s.c,s.tx,s.qs,av',cp',l⟩)]:=by rwa [sW,Yx]
     have L:U<|(∀z∈rs++[(⟨s.a,s.n,s.c,s.tx,s.qs,av',cp',l⟩)],Y4 _ z)/\(rs++[(⟨s.a,s.n,s.c,s.tx,s.qs,av',cp',l⟩:Wq)]).map _=VH _ _ n t:=I ⟨λz hz=>by
      rcases Wk.1 hz with hz|hz
      .exact(a1.1 z hz).kb G N N
      .rw[Vr]at hz;subst hz;exact d6.kb G N N,by rw[d5,Xa,a1.2];rfl⟩;have b7:U<|Ya _ _ _ _:=I<|G _ _ _ _ N R;clear d D a8 b5 G x0;have d7:=I b4;clear b4;go_wp2;go_roundw;case rel=>exact⟨k+1,_,X,by go_num,by simp;omega,a9,L,b7,d7⟩
     case measure=>simp[intOf];omega
  .obtain rfl:k=ss.length:=X;have L:U<|(∀s∈rs,Y4 _ s)/\rs.map _=VH _ _ n t:=I ⟨HR.1,by have:=HR.2;rwa [X1]at this⟩;go_wp2;go_ret;exact⟨_,rs,C,I ⟨⟨O.mono<|Yr _,L.1⟩,L.2⟩,HB⟩
