/- Parts. -/
import Derived.Test.YtmfnolgpaoldpaaGreatDoorW26
set_option linter.all false
set_option maxRecDepth 100000
set_option maxHeartbeats 16000000
namespace Go.Proofs.YtmfnolgpaoldpaaGreatDoor
open Go.RowKit LS Go.Proofs.Tryz
variable {a:Ah}{tmps:Array Value}{r:Except (Nat×Nat)<|Yb×Nat×Nat}{fn:Func}{l:List Ah}{sl st:List Nat}{i o:Nat}{P:Program}{v:Value}{w:World}
def Uv:List Ah->List Value
 |[]=>[]
 |a::l=>SF a++Uv l
theorem PQ(a:Ah):(SF a).length=4:=rfl
theorem Dt:∀l:List Ah,(Uv l).length=4*l.length
 |[]=>C
 |a::l=>by
  show(SF a++Uv l).length=_;rw[Yv,PQ,Dt l,Y1];omega
theorem Rn:∀(l:List Ah)(i j:Nat),i<l.length->j<4->(Uv l)[i*4+j]?=(SF<|l.getD i Ys)[j]?
 |[],i,j,h,_=>absurd h<|Tu _
 |a::l,0,j,_,c=>by
  show(SF a++Uv l)[0*4+j]?=(SF a)[j]?;rw[MZ,SK,QQ<|by rwa [PQ]]
 |a::l,i+1,j,h,c=>by
  have:=Rn l i j (by simpa using h) c;show(SF a++Uv l)[(i+1)*4+j]?=(SF<|l.getD i Ys)[j]?;rw[SJ<|by rw[PQ];omega,PQ,show(i+1)*4+j-4=i*4+j by omega];exact this
theorem Du:∀(l:List Ah)(i:Nat)(b:Ah)(v0 v1 v2 v3:Value),SF b=[v0,v1,v2,v3]->i<l.length->((((Uv l).set (i*4) v0).set (i*4+1) v1).set (i*4+2) v2).set (i*4+3) v3=Uv (l.set i b)
 |[],i,b,_,_,_,_,_,h=>absurd h<|Tu _
 |a::l,0,b,v0,v1,v2,v3,c,_=>by
  show((((SF a++Uv l).set 0 v0).set 1 v1).set 2 v2).set 3 v3=SF b++Uv l;rw[c];rfl
 |a::l,i+1,b,v0,v1,v2,v3,c,h=>by
  have ih:=Du l i b _ _ _ _ c<|by simpa using h
  show((((SF a++Uv l).set ((i+1)*4) v0).set ((i+1)*4+1) v1).set ((i+1)*4+2) v2).set ((i+1)*4+3) v3=SF a++Uv (l.set i b);rw[Ve _ _<|by rw[PQ];omega,Ve _ _<|by rw[PQ];omega,Ve _ _<|by rw[PQ];omega,Ve _ _<|by rw[PQ];omega,PQ,
   show(i+1)*4-4=i*4 by omega,show(i+1)*4+1-4=i*4+1 by omega,show(i+1)*4+2-4=i*4+2 by omega,show(i+1)*4+3-4=i*4+3 by omega,ih]
def Ps(w:World)(g o:Nat)(x y z u:Value):World:=(((w.setCell ⟨g,o,none⟩ x).setCell ⟨g,o+1,none⟩ y).setCell ⟨g,o+2,none⟩ z).setCell ⟨g,o+3,none⟩ u
theorem A6{g:Nat}{b:Ah}{v0 v1 v2 v3:Value}{t:TypeId}(h:Ya w g (Uv l) t)(a:i<l.length)(c:SF b=[v0,v1,v2,v3]):Ya (Ps w g (i*4) v0 v1 v2 v3) g (Uv<|l.set i b) t:=by
 rw[<-Du l i b _ _ _ _ c a];exact(((h.setk _ _).setk _ _).setk _ _).setk _ _
theorem gh{g a:Nat}{c:List Value}{t:TypeId}{v0 v1 v2 v3:Value}(h:Ya w a c t)(d:a≠g):Ya (Ps w g o v0 v1 v2 v3) a c t:=
 (((h.other d _).other d _).other d _).other d _
theorem G9{w0:World}{g:Nat}(h:BW w0 w)(a:w0.heap.size<=g){x y z u:Value}:BW w0<|Ps w g o x y z u:=
 (((h.setCell a _).setCell a _).setCell a _).setCell a _
theorem mD(n:Nat):(madeCells #[.bool false,.bool false,.string ⟨#[]⟩,.string ⟨#[]⟩]<|n*4).toList=Uv (List.replicate n Ys):=by
 apply PB;intro t;by_cases f:t<4*n
 .have c:(madeCells #[.bool false,.bool false,.string ⟨#[]⟩,.string ⟨#[]⟩]<|n*4).toList[t]?=some ((#[.bool false,.bool false,.string ⟨#[]⟩,.string ⟨#[]⟩])[t%4]!):=by
   unfold madeCells;rw[Array.toList_map,Vt,Array.toList_range,J5 X];rfl
  have a:=Rn (List.replicate n Ys) (t/4) (t%4) (by rw[Ie];omega) X;rw[show t/4*4+t%4=t by omega]at a;have d:(List.replicate n Ys).getD (t/4) Ys=Ys:=by
   rw[Y0,O3];split<;>rfl
  rw[d]at a;rw[c,a];rcases(X:t%4=0∨t%4=1∨t%4=2∨t%4=3)with e|e|e|e<;>rw[e]<;>rfl
 .rw[Rh<|by simp[madeCells];omega,Rh<|by rw[Dt,Ie];omega]
structure TM (a:Ah):Prop where
 ok:X4 a
 st:∀k∈a.jy,k<=3
 sl:∀k∈a.jx,k<=3
theorem L4:TM Ys:=⟨IU,(λk a=>(by cases a)),λk a=>by rw[(Kl.1 a).2];decide⟩
theorem vP:TM ⟨true,false,[],List.replicate 16 0⟩:=⟨De,(λk a=>(by cases a)),λk a=>by rw[(Kl.1 a).2];decide⟩
theorem lE(n:Nat):∀a∈Po n,TM a:=by
 intro a c;rcases X0.1 c with rfl|c
 .exact vP
 .rw[(Kl.1 c).2];exact L4
theorem EO:∀(x y:List Nat),(∀k∈x,k<=3)->∀k∈Xx x y,k<=3
 |[],y,_=>by intro k c;simp[Xx]at c
 |a::x,[],_=>by intro k c;simp[Xx]at c
 |a::x,b::y,d=>by
  intro k c;unfold Xx at c;rw[J9]at c;rcases X0.1 c with rfl|c
  · split
    .exact d a Sm
    .decide
  .exact EO x y (λk c=>d k<|by simp[c]) k c
theorem nh(c:TM a)(d:st.length<=64)(e:∀k∈st,k≠0)(f:sl.length=16)(g:∀k∈st,k<=3)(h:∀k∈sl,k<=3):TM<|ZZ a st sl:=by
 refine⟨CE c.ok d e f,?_,?_⟩
 .unfold ZZ;split
  .exact c.st
  .exact g
 .unfold ZZ;split
  .exact EO _ _ c.sl
  .exact h
theorem iG (c:∀x∈l,TM x)(d:TM a)(i:Nat):∀x∈l.set i a,TM x:=λx e=>by
 rcases NU e with h|h
 .exact c x h
 .rw[h];exact d
theorem H7(c:∀x∈l,TM x)(i:Nat):TM<|l.getD i Ys:=by
 rw[Y0];cases h:l[i]? with
 |none=>exact L4
 |some a=>exact c a<|QY h
theorem gM(a:Ah)(st sl:List Nat)(c:TM a)(d:sl.length=16)(g:∀k∈st,k<=3)(i:∀k∈sl,k<=3):
 ∃(cl:Bool)(S L:BA),Hid (SF (ZZ a st sl)=[.bool true,.bool cl,.string S,.string L])/\Hid (∀w:World,CP 67 #[.agg #[.bool a.kj,.bool a.kw,.string<|Xp a.jy,.string<|if a.kj then WO a.jx else⟨#[]⟩],.string<|Xp st,.string<|WO sl] w λe u=>e=.returned (.agg #[.bool true,.bool cl,.string S,.string L])/\BW w u):=by
 cases f:a.kj with
 |true=>
  refine⟨a.kw||decide (Xp a.jy≠Xp st),Xp a.jy,Sq<|Sh (bl<|WO a.jx)<|bl<|WO sl,I ?_,I λw=>?_⟩
  .unfold ZZ;rw[Ye f];have j:Sq (Sh (bl<|WO a.jx)<|bl<|WO sl)=WO (Xx a.jx sl):=by
    rw[Mj,Mj,EM _ _ c.sl i];rfl
   have l:decide (Xp a.jy≠Xp st)=decide (a.jy≠st):=by
    rw[O7];exact not_congr<|GG c.st g
   rw[j,l];rfl
  .exact BK (WO _) w (λ_=>by rw[Ng,Ng,c.ok.sl,d])<|by rw[Ng,d];exact Yj _
 |false=>
  refine⟨false,Xp st,WO sl,I ?_,I λw=>?_⟩
  .unfold ZZ;rw[f];rfl
  .exact BK _ w (λh=>(by cases h))<|by rw[Ng,d];exact Yj _
theorem NG{t u v x:Tmp}(h:fn.results=#[.tmp t,.tmp u,.tmp v,.tmp x]):
 (results fn tmps).run P w=.ok (.tuple #[tmps.getD t undef,tmps.getD u undef,tmps.getD v undef,tmps.getD x undef]) w:=by
 simp[results,h]
theorem Tryz.infoAhead:(Tryz.prog.info? 163).map (λi=>(i.zero,i.size,i.bytes))=some (some<|.agg #[.bool false,.bool false,.string ⟨#[]⟩,.string ⟨#[]⟩],4,40):=Kr
def Rb(r:Except (Nat×Nat)<|Nat×Nat):Nat×Nat×Nat×Nat:=match r with
 |.ok x=>(x.1,x.2,0,0)
 |.error x=>(0,0,x.1,x.2)
structure SI (w:World)(cb:Nat)(c:Yb)(cv pv gv iv:Value)(pl:List PV)(gl:List<|Option Addr×Nat×Nat):Prop where
 code:X8 w cb c cv pv gv iv pl gl
 ln:c.jz.length<=65535
 op:∀x∈c.jz,x.1<=13/\x.2<65536
theorem iw(c:Yb)(op arg:Nat)(took sl:BA):(Rs c op arg took sl).size<=took.size+1:=by
 unfold Rs;split;all_goals first
  |(show(1:Nat)<=_;omega)
  |(show(0:Nat)<=_;omega)
  |(split<;>(show(1:Nat)<=_;omega))
  |omega
  |(rw[V5];omega)
theorem BF{c:Yb}:∀{n:Nat},Vj c n=.ok ()->∀i,i<n->Zy c i (c.jz.getD i (0,0))=true
 |0,_,i,d=>absurd d<|Tu _
 |n+1,h,i,d=>by
  unfold Vj at h;cases a:Vj c n with
  |error e=>rw[a]at h;cases h
  |ok u=>
   rw[a]at h;simp only at h;by_cases e:i=n
   .subst e;cases f:Zy c i<|c.jz.getD i (0,0)with
    |true=>rfl
    |false=>rw[f]at h;cases h
   .exact BF a i X
structure MM (l:List Ah)(i:Nat)(st sl:List Nat)(X H:BA)(bk bc:Bool)(bs bz:BA)(cl:Bool)(S1 L1:BA):Prop where
 at0:∀(W:World)(g:Nat)(t:TypeId),Ya W g (Uv l) t->W.cell? ⟨g,i*4,none⟩=some (.bool bk)/\W.cell? ⟨g,i*4+1,none⟩=some (.bool bc)/\W.cell? ⟨g,i*4+2,none⟩=some (.string bs)/\W.cell? ⟨g,i*4+3,none⟩=some (.string bz)
 call:∀W:World,CP 67 #[.agg #[.bool bk,.bool bc,.string bs,.string bz],.string X,.string H] W λe w'=>e=.returned (.agg #[.bool true,.bool cl,.string S1,.string L1])/\BW W w'
 put:∀(W:World)(g:Nat)(t:TypeId),Ya W g (Uv l) t->Ya (Ps W g (i*4) (.bool true) (.bool cl) (.string S1)<|.string L1) g (Uv<|l.set i<|ZZ (l.getD i Ys) st sl) t
 ok:∀x∈l.set i<|ZZ (l.getD i Ys) st sl,TM x
theorem CF{X H:BA}(c:i<l.length)(e:∀x∈l,TM x)(o:st.length<=64)(p:∀k∈st,k≠0)(f:sl.length=16)(h:∀k∈st,k<=3)(j:∀k∈sl,k<=3)(q:X=Xp st)(r:H=WO sl):
 ∃bk bc bs bz cl S1 L1,Hid<|MM l i st sl X H bk bc bs bz cl S1 L1:=by
 have m:=H7 e i;obtain⟨cl,S1,L1,n,d⟩:=gM (l.getD i Ys) st sl m f h j;rw[<-q,<-r]at d;refine⟨_,_,_,_,cl,S1,L1,I ⟨λW g t a=>⟨?_,?_,?_,?_⟩,d.out,λW g t a=>A6 a c n.out,iG e (nh m o p f h j) i⟩⟩
 .rw[a.cell];exact Rn l i 0 c N
 .rw[a.cell];exact Rn l i 1 c N
 .rw[a.cell];exact Rn l i 2 c N
 .rw[a.cell];exact Rn l i 3 c N
theorem jF(w:World)(cb:Nat)(c:Yb)(cv pv gv iv:Value)(pl:List PV)(gl:List<|Option Addr×Nat×Nat)(h:SI w cb c cv pv gv iv pl gl):
 CP 29 #[Vp cb] w λe u=>∃a b d p:Nat,e=.returned (.tuple #[E a,E b,E d,E p])/\Hid (Rb (Vl c)=(a,b,d,p))/\BW w u:=by
 obtain⟨ia,ic,rfl⟩:=Zd h.code.is;have HP:=I h;have p2:=h.ln;obtain⟨i0,hi,p3,p4,p5⟩:=Xv Tryz.infoAhead;obtain⟨n,hn⟩:∃n,n=c.jz.length:=⟨_,C⟩;rw[<-hn]at p2;have U:=I hn;clear h hn;go_enter func29,ntmps29;go_wp2;go_loopw [6,7] (λnv iv wr=>∃(k sn:Nat),k<=n/\iv=E k/\nv=E sn/\sn<=16/\Hid (Vj c k=.ok ())/\Hid (UT (c.jz.take k)=sn)/\Hid (BW w wr))
  (λ_ iv _=>n-(intOf iv).toNat);case atStart=>exact⟨0,0,Yr _,C,C,N,I C,I C,I<|Ym _ _⟩
 case round=>
  obtain⟨k,sn,hk,rfl,rfl,r7,b7,i9,q⟩:=hrel;have s:=I<|HP.code.below q.out;have d3:=s.box.cell 3;simp only[Yf]at d3;rw[<-U.out]at d3;have V:=s.box.lt;by_cases d5:k<n
  .as_aux_lemma=>
   have F:k<c.jz.length:=by rw[<-U.out];exact d5
   obtain⟨gi,cpi,d6⟩:=Zm s.is Om;injection d6 with hgi1 hgi2 hgi3;subst hgi1;rcases hx0:c.jz[k]with⟨op,arg⟩;have j0:=HP.op (op,arg)<|by rw[<-hx0];exact List.getElem_mem F
   obtain⟨a3,d0⟩:=j0;simp only at a3 d0;have b8:=I<|gG wr cb c s.out k F HP.op;rw[hx0]at b8;have b9:Hid<|c.jz.getD k (0,0)=(op,arg):=I<|by rw[Y0,List.getElem?_eq_getElem F,hx0];rfl
   have m7:=I hx0;clear hx0 hgi2 hgi3;cases hr:Zy c k (op,arg)with
   |false=>
    rw[hr]at b8;have g7:Hid<|Rb (Vl c)=(0,0,11,k):=I<|by
     unfold Vl;rw[BG (k:=k+1) (e:=(11,k)) (by unfold Vj;rw[b7.out];simp only;rw[b9.out,hr];rfl) _<|by rw[<-U.out];omega];rfl
    go_wp2_with fail;refine b8.mono ?_;rintro e z ⟨rfl,c4⟩;have t:Hid<|BW w z:=I<|q.trans<|c4.mono q.size;clear c4 d3;go_wp2;(try simp only[Exit.inBlock,Exit.then]);refine YQ (NG C) C ?_;exact⟨0,0,11,k,C,g7,t.out⟩
   |true=>
    rw[hr]at b8;have b0:Hid<|Vj c (k+1)=.ok ():=I<|by unfold Vj;rw[b7.out];simp only;rw[b9.out,hr];rfl
    have d7:Hid<|UT (c.jz.take<|k+1)=if Pj op then max sn (arg+1)else sn:=I<|by
     rw[List.take_succ_eq_append_getElem F,m7.out,zd,i9.out]
    have a0:op=12∨op=13->arg<16:=by
     rintro(rfl|rfl)<;>simpa [Zy]using hr
    go_wp2_with fail;refine b8.mono ?_;rintro e z ⟨rfl,c4⟩;have t:Hid<|BW w z:=I<|q.trans<|c4.mono q.size;have b1:=I<|s.below c4;clear c4 d3 s V b8;have d3:=b1.box.cell 3;simp only[Yf]at d3;rw[<-U.out]at d3;have i0c:=Zc b1.is _ _ (SA c.jz k F).1;have i1c:=Zc b1.is _ _ (SA c.jz k F).2;rw[m7.out]at i0c i1c;simp only at i0c i1c;have V:=b1.box.lt;have j1:=ZN b1.is;by_cases a4:op=12
    .subst a4;have r:=a0<|Or.inl C;clear a0;by_cases p6:sn<=arg
     .have a1:Hid<|UT (c.jz.take<|k+1)=arg+1:=I<|by rw[d7.out];show max sn (arg+1)=_;omega
      go_wp2;go_roundw;case rel=>exact⟨k+1,arg+1,Om,by go_num,by go_num,Om,b0,a1,I<|t.alloc t.size _⟩
      case measure=>simp[intOf];omega
     .have a1:Hid<|UT (c.jz.take<|k+1)=sn:=I<|by rw[d7.out];show max sn (arg+1)=_;omega
      go_wp2;go_roundw;case rel=>exact⟨k+1,sn,Om,by go_num,by go_num,Om,b0,a1,I<|t.alloc t.size _⟩
      case measure=>simp[intOf];omega
    .by_cases T:op=13
     .subst T;have r:=a0<|Or.inr C;clear a0;by_cases p6:sn<=arg
      .have a1:Hid<|UT (c.jz.take<|k+1)=arg+1:=I<|by rw[d7.out];show max sn (arg+1)=_;omega
       go_wp2;go_roundw;case rel=>exact⟨k+1,arg+1,Om,by go_num,by go_num,Om,b0,a1,I<|t.alloc t.size _⟩
       case measure=>simp[intOf];omega
      .have a1:Hid<|UT (c.jz.take<|k+1)=sn:=I<|by rw[d7.out];show max sn (arg+1)=_;omega
       go_wp2;go_roundw;case rel=>exact⟨k+1,sn,Om,by go_num,by go_num,Om,b0,a1,I<|t.alloc t.size _⟩
       case measure=>simp[intOf];omega
     .have a1:Hid<|UT (c.jz.take<|k+1)=sn:=I<|by
       rw[d7.out];have:Pj op=false:=by unfold Pj;simp[a4,T]
       rw[this];rfl
      have e12:((op:Int)==12)=false:=by rw[YB];omega
      have e13:((op:Int)==13)=false:=by rw[YB];omega
      clear a0;go_wp2;go_roundw;case rel=>exact⟨k+1,sn,Om,by go_num,by go_num,Om,b0,a1,I<|t.alloc t.size _⟩
      case measure=>simp[intOf];omega
  .obtain rfl:n=k:=Om;have m8:Hid<|UT c.jz=sn:=I<|by rw[<-i9.out,Wm<|by rw[<-U.out];exact Yj _]
   have p7:Hid<|∀m,Tv c=.ok m->Rb (Vl c)=(m,sn,0,0):=I λm hm=>by
    unfold Vl;rw[<-U.out,b7.out];simp only;rw[hm];simp only;rw[m8.out];rfl
   have g7:Hid<|∀p,Tv c=.error (12,p)->Rb (Vl c)=(0,0,12,p):=I λp hp=>by
    unfold Vl;rw[<-U.out,b7.out];simp only;rw[hp];rfl
   have p8:=I<|BF b7.out;clear b7 i9 m8 hk d5;go_wp2_with(at_make;refine It _ C _ _ 161 C wr.heap.size 163 i0 _ 4 underlying161 hi p3 p4 _ _ _ _ (n+1) C C ?e1 ?e2 ?b2 ?b3 ?b4 ?_);case e1=>go_num
   case e2=>go_num
   case b2=>rw[p5];omega
   case b3=>unfold maxLen;omega
   case b4=>simp
   intro w1 j2 Q;have m9:BW wr w1:=⟨Q.os,Q.tape,Q.output,Q.size,λk hk=>Q.block k hk Sm⟩;have G:Hid<|Ya w1 wr.heap.size (Uv<|List.replicate (n+1) Ys) 163:=I<|by have:=B7 j2;rwa [mD]at this
   have n0:Hid<|BW w w1:=I<|q.trans<|m9.mono q.size;have j3:w.heap.size<=wr.heap.size:=q.size;clear j2 Q m9 d3 V s q;generalize wr.heap.size=g at*;have g0:w1.cell? ⟨g,0,none⟩=some (.bool false):=by rw[G.cell];rfl
   have g1:w1.cell? ⟨g,1,none⟩=some (.bool false):=by rw[G.cell];rfl
   have g2:w1.cell? ⟨g,2,none⟩=some (.string ⟨#[]⟩):=by rw[G.cell];rfl
   have g3:w1.cell? ⟨g,3,none⟩=some (.string ⟨#[]⟩):=by rw[G.cell];rfl
   have f0:=G.frozen 0;have f1:=G.frozen 1;have f2:=G.frozen 2;have f3:=G.frozen 3;have a5:=G.lt;have n1:Hid<|Ya (Ps w1 g 0 (.bool true) (.bool false) (.string ⟨#[]⟩)<|.string ⟨#[45,45,45,45,45,45,45,45,45,45,45,45,45,45,45,45]⟩) g (Uv<|Po n) 163:=I<|by
    have:=A6 (i:=0) (b:=⟨true,false,[],List.replicate 16 0⟩) G.out Sm<|show SF _=[.bool true,.bool false,.string ⟨#[]⟩,.string ⟨#[45,45,45,45,45,45,45,45,45,45,45,45,45,45,45,45]⟩]from C;exact this
   have t:Hid<|BW w<|Ps w1 g 0 (.bool true) (.bool false) (.string ⟨#[]⟩)<|.string ⟨#[45,45,45,45,45,45,45,45,45,45,45,45,45,45,45,45]⟩:=I<|G9 n0.out j3;clear n0 G;go_wp2;clear g0 g1 g2 g3 f0 f1 f2 f3 a5;go_loopw [11,12] (λmv iv wr=>∃(k mo:Nat)(l:List Ah),k<=n/\iv=E k/\mv=E mo/\mo<=64/\Hid (l.length=n+1)/\Hid (Z3 c k=.ok (l,mo))/\Hid (∀x∈l,TM x)/\Hid (Ya wr g (Uv l) 163)/\Hid (BW w wr))
    (λ_ iv _=>n-(intOf iv).toNat);case atStart=>exact⟨0,0,Po n,Yr _,C,C,N,I<|by simp[Po],I<|by rw[U.out];rfl,I<|lE n,n1,t⟩
   case round=>
    obtain⟨k,mo,l,hk,rfl,rfl,p9,d8,d9,e0,B,q⟩:=hrel;clear n1 t;have s:=I<|HP.code.below q.out;have d3:=s.box.cell 3;simp only[Yf]at d3;rw[<-U.out]at d3;have V:=s.box.lt;have a5:=B.lt;by_cases d5:k<n
    .have F:k<c.jz.length:=by rw[<-U.out];exact d5
     obtain⟨gi,cpi,d6⟩:=Zm s.is Om;injection d6 with hgi1 hgi2 hgi3;subst hgi1;rcases hx0:c.jz[k]with⟨op,arg⟩;have j0:=HP.op (op,arg)<|by rw[<-hx0];exact List.getElem_mem F
     obtain⟨a3,d0⟩:=j0;simp only at a3 d0;have b9:Hid<|c.jz.getD k (0,0)=(op,arg):=I<|by rw[Y0,List.getElem?_eq_getElem F,hx0];rfl
     have i0c:=Zc s.is _ _ (SA c.jz k F).1;have i1c:=Zc s.is _ _ (SA c.jz k F).2;rw[hx0]at i0c i1c;simp only at i0c i1c;have j1:=ZN s.is;have hr:Zy c k (op,arg)=true:=by have:=p8.out k d5;rwa [b9.out]at this
     have HR:=I hr;clear hx0 hgi2 hgi3 hr;obtain⟨a,r⟩:∃a,a=l.getD k Ys:=⟨_,C⟩;have e3:=I r;have v:Hid<|TM a:=I<|by rw[r];exact H7 e0.out k
     have J:k<l.length:=by rw[d8.out];omega
     have c0:wr.cell? ⟨g,k*4,none⟩=some (.bool a.kj):=by rw[B.cell,r];exact Rn l k 0 J N
     have c1:wr.cell? ⟨g,k*4+1,none⟩=some (.bool a.kw):=by rw[B.cell,r];exact Rn l k 1 J N
     have c2:wr.cell? ⟨g,k*4+2,none⟩=some (.string<|Xp a.jy):=by rw[B.cell,r];exact Rn l k 2 J N
     have c3:wr.cell? ⟨g,k*4+3,none⟩=some (.string<|if a.kj then WO a.jx else⟨#[]⟩):=by rw[B.cell,r];exact Rn l k 3 J N
     have g8:Hid<|Z3 c (k+1)=SC c k l mo:=I<|by show(match Z3 c k with|.error e=>_|.ok x=>_)=_;rw[d9.out]
     clear r J;cases Y:a.kj with
     |false=>
      rw[Y]at c0 c3;have g9:Hid<|Z3 c (k+1)=.ok (l,mo):=I<|by rw[g8.out];unfold SC;simp only;rw[<-e3.out,Y];rfl
      go_wp2;go_roundw;case rel=>exact⟨k+1,mo,l,Om,by go_num,C,p9,d8,g9,e0,I<|B.below Yc,I<|q.alloc q.size _⟩
      case measure=>simp[intOf];omega
     |true=>
      rw[Y]at c0 c3;rw[Ye C]at c3;have j4:Hid<|SC c k l mo=.error (12,k)->Rb (Vl c)=(0,0,12,k):=I λhe=>g7.out k<|by
       unfold Tv;rw[GQ (k:=k+1) (e:=(12,k)) (by rw[g8.out,he]) _<|by rw[<-U.out];omega]
      have j5:Hid<|a.kw=true->SC c k l mo=.error (12,k):=I λhc=>by
       unfold SC;simp only;rw[<-e3.out,Y,hc];rfl
      have e4:Hid<|a.kw=false->Zr c (op,arg) a.jy a.jx=none->SC c k l mo=.error (12,k):=I λhc hs=>by
       unfold SC;simp only;rw[<-e3.out,Y,hc,b9.out];simp only[VE,Q2,O5];rw[hs]
      have j6:Hid<|a.kw=false->∀st sl,Zr c (op,arg) a.jy a.jx=some (st,sl)->Z3 c (k+1)=.ok (goOn (op,arg) k st sl l,max mo st.length):=I λhc st sl hs=>by
       rw[g8.out];unfold SC;simp only;rw[<-e3.out,Y,hc,b9.out];simp only[VE,Q2,O5];rw[hs]
      have HD:=I<|ue c k op arg a.jy a.jx a3 HR.out v.ok.ln (λx hx=>⟨v.ok.kd x hx,v.st x hx⟩) v.ok.sl v.sl;have q0:(Xp a.jy).size<=64:=by rw[S2];exact v.ok.ln
      have j7:(WO a.jx).size=16:=by rw[Ng];exact v.ok.sl
      have n2:=I j7;clear j7 Y g8 d9 e3;obtain⟨S,hS⟩:∃S,Xp a.jy=S:=⟨_,C⟩;obtain⟨L,hL⟩:∃L,WO a.jx=L:=⟨_,C⟩;rw[hS]at c2 q0 HD;rw[hL]at c3 n2 HD;clear hS hL;obtain⟨acl,j8⟩:∃acl,a.kw=acl:=⟨_,C⟩;rw[j8]at c1 j5 e4 j6;clear j8;go_upto_region 20 with fail;refine Zs λW hW=>?_;have b5:BW wr W:=by rw[hW];exact Yc.alloc Sm _
      have a6:Hid<|Ya W wr.heap.size [.bool true,.bool acl,.string S,.string L] 163:=I<|by
       rw[hW];exact Ya.below (show Ya _ _ _ _ from Go.Deep.blk_alloc_new wr _) Yc
      have i1:Hid<|Ya W (wr.heap.size+1) [E op,E arg] 110:=I<|by
       rw[hW];have:=λo=>Go.Deep.blk_alloc_new (wr.alloc o)<|.cells #[E op,E arg] 110;simp only[Go.Deep.nblk_alloc]at this;exact this _
      have n3:=I<|B.below b5;have a7:Hid<|BW w W:=I<|q.trans<|b5.mono q.size;have r8:¬wr.heap.size=g:=Om;have d6:¬wr.heap.size+1=g:=Om;clear hW b5 c0 c1 c2 c3 i0c i1c d3 s B q V a5 j1;generalize wr.heap.size+1=xi at*;generalize wr.heap.size=xa at*;have x1:=a6.cell 1;have x2:=a6.cell 2;have x3:=a6.cell 3;have y0:=i1.cell 0;have y1:=i1.cell 1;simp only[Yf]at x1 x2 x3 y0 y1;go_wp2_with fail;refine(yw op a3).mono ?_;rintro e W ⟨rfl,rfl⟩;obtain⟨Wd,n4⟩:∃Wd,Mf op=Wd:=⟨_,C⟩;rw[n4]at HD⊢;clear n4;have q8:=HD.wle;go_wp2_with fail;refine(sA S Wd Om q8).mono ?_;rintro e w3 ⟨rfl,e5⟩;have e6:Hid<|BW w w3:=I<|a7.trans<|e5.mono a7.size;have b6:=I<|a6.below e5;have d1:=I<|i1.below e5;have n5:=I<|n3.below e5;clear e5 x1 x2 x3 y0 y1 a6 i1 n3 a7;have x1:=b6.cell 1;have x2:=b6.cell 2;have x3:=b6.cell 3;have y0:=d1.cell 0;have y1:=d1.cell 1;simp only[Yf]at x1 x2 x3 y0 y1;obtain⟨fb,j9⟩:∃fb,VU S Wd=fb:=⟨_,C⟩;rw[j9];have k4:=I j9;clear j9;obtain⟨bad,k5⟩:∃bad:Bool,bad=(acl||(!fb||(decide (op=13)&&decide ((bl L).getD arg 0=45)))):=⟨_,C⟩;have M:=I k5;clear k5;have n6:Hid<|op=13->arg<L.size:=I HD.ld;have k6:Hid<|∀h:arg<L.size,(bl L).getD arg 0=L[arg]:=I λh=>by
       rw[Y0,List.getElem?_eq_getElem<|by rw[Zb];exact h,SP L arg h];rfl
      go_upto_region 22 with fail;go_cut [16,119]from 71 to 204 (λs16 s119 wx=>s16=.bool fb/\s119=.bool bad/\wx=w3);case first=>as_aux_lemma=>
       cases j:acl with
       |true=>
        rw[j]at x1;have R:bad=true:=by rw[M.out,j];rfl
        subst R;go_wp2;go_meet;exact⟨C,C,C⟩
       |false=>
        rw[j]at x1;cases a8:fb with
        |false=>
         have R:bad=true:=by rw[M.out,j,a8];rfl
         subst R;go_wp2;go_meet;exact⟨by rw[a8],C,C⟩
        |true=>
         by_cases T:op=13
         · have n7:=n6.out T;have e13:((op:Int)==13)=true:=by rw[XL];omega
           by_cases c5:(bl L).getD arg 0=45
           · have R:bad=true:=by rw[M.out,j,a8,WI T,WI c5];rfl
             have d45:(((L[arg].toNat:Nat):Int)==45)=true:=by rw[<-k6.out n7,c5];rfl
             clear c5 T;subst R;go_wp2;go_meet;exact⟨by rw[a8],C,C⟩
           · have R:bad=false:=by rw[M.out,j,a8,WI T,Wl c5];rfl
             have d45:(((L[arg].toNat:Nat):Int)==45)=false:=by rw[YB];intro e;exact c5<|by rw[k6.out n7];exact TO.1<|by show _=45;omega
             clear c5 T;subst R;go_wp2;go_meet;exact⟨by rw[a8],C,C⟩
         · have R:bad=false:=by rw[M.out,j,a8,Wl T];rfl
           have e13:((op:Int)==13)=false:=by rw[YB];omega
           clear T;subst R;go_wp2;go_meet;exact⟨by rw[a8],C,C⟩
      case rest=>
      obtain⟨rfl,rfl,rfl⟩:=hcut;rename World=>w3;cases R:bad with
      |true=>
       have HV:=I<|j4.out<|by
        have A:=M.out;rw[R]at A;cases r:acl with
        |true=>exact j5.out r
        |false=>
         cases hf:fb with
         |false=>exact e4.out r<|HD.no<|by rw[k4.out,hf]
         |true=>
          rw[r,hf]at A;have h2:(decide (op=13)&&decide ((bl L).getD arg 0=45))=true:=A.symm;rw[Vu]at h2;exact e4.out r<|HD.no2 (Rw h2.1)<|Rw h2.2
       go_wp2;(try simp only[Exit.inBlock,Exit.then]);refine YQ (NG C) C ?_;exact⟨0,0,12,k,C,HV,e6.out⟩
      |false=>
       have m6:acl=false/\fb=true/\(op=13->¬(bl L).getD arg 0=45):=by
        have A:=M.out;rw[R]at A;cases r:acl with
        |true=>rw[r]at A;cases A
        |false=>
         cases hf:fb with
         |false=>rw[r,hf]at A;cases A
         |true=>
          refine⟨C,C,λe1 e2=>?_⟩;rw[r,hf,WI e1,WI e2]at A;cases A
       obtain⟨j,n8,o0⟩:=m6;have k7:=I<|e4.out j;have k8:=I<|j6.out j;have HF:Hid<|VU S Wd=true:=I<|by rw[k4.out,n8]
       have k9:=I o0;have q9:Wd.size<=S.size:=HD.le HF.out;clear e4 j6 j5 M k4 k6 j n8 o0 R;go_upto_region 25 with fail;obtain⟨LO,e7⟩:∃LO,S.extract 0 (S.size-Wd.size)=LO:=⟨_,C⟩;rw[e7];have j7:LO.size<=S.size:=by rw[<-e7,V5];omega
       have e8:Hid<|S.size-Wd.size=LO.size:=I<|by rw[<-e7,V5];omega
       have i2:=I e7;clear e7;go_upto_region 26 with fail;obtain⟨TK,c6⟩:∃TK,S.extract LO.size S.size=TK:=⟨_,C⟩;rw[c6];have r9:TK.size<=2:=by rw[<-c6,V5,<-e8.out];omega
       have i3:Hid<|64<(LO++Rs c op arg TK L).size->Zr c (op,arg) a.jy a.jx=none:=I λh=>HD.big HF.out k9.out<|by rw[i2.out,e8.out,c6];exact h
       have f4:Hid<|¬64<(LO++Rs c op arg TK L).size->∃st' sl',Zr c (op,arg) a.jy a.jx=some (st',sl')/\LO++Rs c op arg TK L=Xp st'/\S8 op arg TK L=WO sl':=I λh=>by
        have:=HD.ok HF.out k9.out<|by rw[i2.out,e8.out,c6];exact h
        rwa [i2.out,e8.out,c6]at this
       have l0:Hid<|(Rs c op arg TK L).size<=3:=I<|by have:=iw c op arg TK L;omega
       clear c6 i2 e8 q9 HD HF k9;go_wp2_with fail;refine(iy w3 cb c op arg TK L a3 d0 ((HP.code.below e6.out).pickAt HR.out) n6.out).mono ?_;rintro e w4 ⟨rfl,f5⟩;have l2:Hid<|BW w w4:=I<|e6.trans<|f5.mono e6.size;have l3:=I<|b6.below f5;have d2:=I<|d1.below f5;have o1:=I<|n5.below f5;obtain⟨P,hP⟩:∃P,Rs c op arg TK L=P:=⟨_,C⟩;rw[hP]at i3 f4 l0⊢;have s0:=l0.out;clear f5 x1 x2 x3 y0 y1 b6 d1 n5 e6 l0 hP;have x3:=l3.cell 3;have y0:=d2.cell 0;have y1:=d2.cell 1;simp only[Yf]at x3 y0 y1;go_upto_if 147 with fail;obtain⟨X,hX⟩:∃X,LO++P=X:=⟨_,C⟩;rw[hX]at i3 f4⊢;obtain⟨H,hH⟩:∃H,S8 op arg TK L=H:=⟨_,C⟩;rw[hH]at f4;have HH:=I hH;clear hX hH;go_cut [20]from 71 to 204 (λs20 wx=>s20=.string H/\Hid (BW w4 wx));case first=>as_aux_lemma=>
        by_cases a4:op=12
        · have e12:((op:Int)==12)=true:=by rw[XL];omega
          have r4:arg<16:=by have:=HR.out;rw[a4]at this;simpa [Zy]using this
          have o6:=n2.out;have l4:Hid<|L.extract 0 arg++TK++L.extract (arg+1) L.size=H:=I<|by rw[<-HH.out];unfold S8;rw[Ye a4]
          have r5:arg+1<=L.size:=Om;have r6:L.size<=16:=Om;clear a4 o6;go_wp2;go_quiet (fail);go_wp2;go_meet;exact⟨by rw[l4.out],I Yh⟩
        · have e12:((op:Int)==12)=false:=by rw[YB];omega
          have l4:Hid<|L=H:=I<|by rw[<-HH.out];unfold S8;rw[Yd a4]
          clear a4;go_wp2;go_meet;exact⟨by rw[l4.out],I<|Ym _ _⟩
       case rest=>
       obtain⟨rfl,i4⟩:=hcut;rename World=>w5;have f6:Hid<|BW w w5:=I<|l2.trans<|i4.mono l2.size;have Z:=I<|d2.below i4.out;have c7:=I<|o1.below i4.out;clear x3 y0 y1 l3 d2 o1 l2 i4 HH;by_cases l5:64<X.size
       .have HV:=I<|j4.out<|k7.out<|i3.out l5;go_wp2;(try simp only[Exit.inBlock,Exit.then]);refine YQ (NG C) C ?_;exact⟨0,0,12,k,C,HV,f6.out⟩
       .obtain⟨st',sl',i5,l6,o2⟩:=f4.out l5;obtain⟨z1,z2,z3⟩:=zh HR.out v.ok.ln v.ok.kd v.ok.sl i5;obtain⟨z4,z5⟩:=fC v.st v.sl i5;have o3:=I<|And.intro z1<|And.intro z2<|And.intro z3<|And.intro z4<|And.intro z5<|And.intro l6 o2;obtain⟨mo2,d4⟩:∃mo2,mo2=max mo X.size:=⟨_,C⟩;have g9:Hid<|Z3 c (k+1)=.ok (goOn (op,arg) k st' sl' l,mo2):=I<|by rw[k8.out st' sl' i5,d4,l6,S2]
        have i6:mo2<=64:=Om;clear i5 l6 o2 z1 z2 z3 z4 z5 i3 f4 k7 k8;go_upto_if 167 with fail;go_cut [11]from 71 to 204 (λs11 wx=>s11=E mo2/\wx=w5);case first=>as_aux_lemma=>
         by_cases s3:mo<X.size
         .have l7:mo2=X.size:=Om;clear d4;subst l7;go_wp2;go_meet;exact⟨C,C⟩
         .have l7:mo2=mo:=Om;clear d4;subst l7;go_wp2;go_meet;exact⟨C,C⟩
        case rest=>
        obtain⟨rfl,rfl⟩:=hcut;rename World=>w5;clear d4;obtain⟨cj,o4⟩:∃cj,cj=TC op:=⟨_,C⟩;have c8:=I o4;clear o4;have y0:=Z.cell 0;have y1:=Z.cell 1;simp only[Yf]at y0 y1;go_upto_region 34 with fail;go_cut [177]from 71 to 204 (λs177 wx=>s177=.bool cj/\wx=w5);case first=>as_aux_lemma=>
         by_cases h9:op=9
         · have e9:((op:Int)==9)=true:=by rw[XL];omega
           have hj:cj=true:=by rw[c8.out,h9];rfl
           clear h9;subst hj;go_wp2;go_meet;exact⟨C,C⟩
         · have e9:((op:Int)==9)=false:=by rw[YB];omega
           by_cases i7:op=10
           · have e10:((op:Int)==10)=true:=by rw[XL];omega
             have hj:cj=true:=by rw[c8.out,i7];rfl
             clear h9 i7;subst hj;go_wp2;go_meet;exact⟨C,C⟩
           · have e10:((op:Int)==10)=false:=by rw[YB];omega
             have hj:cj=false:=by rw[c8.out];unfold TC;simp[h9,i7]
             clear h9 i7;subst hj;go_wp2;go_meet;exact⟨C,C⟩
        case rest=>
        obtain⟨rfl,rfl⟩:=hcut;rename World=>w5;obtain⟨l1,i8⟩:∃l1,l1=if cj then l.set arg (ZZ (l.getD arg Ys) st' sl')else l:=⟨_,C⟩;have f7:=I i8;clear i8;go_upto_if 177 with fail;go_cut []from 71 to 204 (λwx=>Hid (Ya wx g (Uv l1) 163)/\Hid (∀x∈l1,TM x)/\Hid (Ya wx xi [E op,E arg] 110)/\Hid (BW w wx));case first=>as_aux_lemma=>
         cases hj:cj with
         |false=>
          have i8:l1=l:=by rw[f7.out,hj];rfl
          subst i8;go_wp2;go_meet;exact⟨c7,e0,Z,f6⟩
         |true=>
          have l8:k<arg/\arg<=n:=by
           have A:=HR.out;have h2:=c8.out;rw[hj]at h2;have h3:op=9∨op=10:=by
            have:=h2.symm;unfold TC at this;simpa using this
           rw[U.out];rcases h3 with h3|h3<;>(rw[h3]at A;simpa [Zy]using A)
          have r3:=l8.2;clear l8;have f8:arg<l.length:=by rw[d8.out];omega
          obtain⟨q1,q2,q3,q4,q5,q6,q7⟩:=o3.out;obtain⟨bk,bc,bs,bz,cl,S1,L1,D⟩:=CF f8 e0.out q1 q2 q3 q4 q5 q6 q7;have l9:Hid<|l1=l.set arg (ZZ (l.getD arg Ys) st' sl'):=I<|by rw[f7.out,hj];rfl
          clear q1 q2 q3 q4 q5 q6 q7 f8 hj;obtain⟨k0,k1,k2,k3⟩:=D.at0 _ _ _ c7.out;have a5:=c7.lt;have s4:=Z.lt;have ab1:arg<n+1:=Om;have ab2:(arg:Int)<(n:Int)+1:=Om;have ab3:(arg:Int)<((n+1:Nat):Int):=Om;have o5:w5.drew.cell? ⟨xi,1,none⟩=some (E arg)/\w5.drew.cell? ⟨g,arg*4,none⟩=some (.bool bk)/\w5.drew.cell? ⟨g,arg*4+1,none⟩=some (.bool bc)/\w5.drew.cell? ⟨g,arg*4+2,none⟩=some (.string bs)/\w5.drew.cell? ⟨g,arg*4+3,none⟩=some (.string bz):=⟨y1,k0,k1,k2,k3⟩;have r0:Hid<|∀w6:World,BW w5 w6->(w6.cell? ⟨xi,1,none⟩=some (E arg)/\w6.cell? ⟨g,arg*4,none⟩=some (.bool bk)/\w6.cell? ⟨g,arg*4+1,none⟩=some (.bool bc)/\w6.cell? ⟨g,arg*4+2,none⟩=some (.string bs)/\w6.cell? ⟨g,arg*4+3,none⟩=some (.string bz)):=I λw6 R=>by
           obtain⟨k0,k1,k2,k3⟩:=D.at0 _ _ _<|c7.below R;exact⟨(Z.below R).cell 1,k0,k1,k2,k3⟩
          go_wp2_with fail;clear k0 k1 k2 k3 y0 y1;refine ZW 12 (λu=>u.cell? ⟨xi,1,none⟩=some (E arg)/\u.cell? ⟨g,arg*4,none⟩=some (.bool bk)/\u.cell? ⟨g,arg*4+1,none⟩=some (.bool bc)/\u.cell? ⟨g,arg*4+2,none⟩=some (.string bs)/\u.cell? ⟨g,arg*4+3,none⟩=some (.string bz)) Kr (by exact o5) λf=>?_;clear o5;refine Za 0 f (h:=Za 1 f (h:=Za 2 f (h:=Za 3 f (h:=Za 4 f (h:=Za 5 f (h:=Za 6 f (h:=Za 7 f (h:=Za 8 f (h:=Za 9 f (h:=?_))))))))));refine Zz (i:=10) Kr C λK hK=>?_;go_simp;refine(D.call _).mono ?_;rintro e w6 ⟨rfl,c9⟩;have a9:Hid<|BW w5 w6:=I ⟨c9.os,c9.tape,c9.output,c9.size,c9.block⟩;clear c9;go_simp;refine hK.out _ _ (r0.out _ a9.out) λf=>?_;clear hK K;try simp only[Act.put,Yt]
          refine Za 11 f (h:=?_);refine ZS Kr Kr C Kr λK hK=>?_;have O:=I<|c7.below a9.out;obtain⟨k0,k1,k2,k3⟩:=D.at0 _ _ _ O.out;have f0:=O.frozen<|arg*4;have f1:=O.frozen<|arg*4+1;have f2:=O.frozen<|arg*4+2;have f3:=O.frozen<|arg*4+3;have a2:Hid<|Ya (Ps w6 g (arg*4) (.bool true) (.bool cl) (.string S1)<|.string L1) g (Uv l1) 163:=I<|by rw[l9.out];exact D.put _ _ _ O.out
          have o7:Hid<|∀x∈l1,TM x:=I<|by rw[l9.out];exact D.ok
          have o8:Hid<|Ya (Ps w6 g (arg*4) (.bool true) (.bool cl) (.string S1)<|.string L1) xi [E op,E arg] 110:=I<|gh (Z.below a9.out) d6;have m0:Hid<|BW w<|Ps w6 g (arg*4) (.bool true) (.bool cl) (.string S1)<|.string L1:=I<|G9 (f6.trans<|a9.mono f6.size) j3;clear f;go_simp;refine hK.out _ _ ?_;clear hK K k0 k1 k2 k3 f0 f1 f2 f3;go_wp2;go_meet;exact⟨a2,o7,o8,m0⟩
        case rest=>
        obtain⟨O,m1,o9,a9⟩:=hcut;rename World=>w6;clear y0 y1 c7 Z f6;have y0:=o9.cell 0;simp only[Qp]at y0;have g4:Hid<|l1.length=n+1:=I<|by rw[f7.out];split<;>simp[d8.out]
        by_cases h9:op=9
        .as_aux_lemma=>
         have n9:((op:Int) !=9)=false:=by rw[bne_eq_false_iff_eq];omega
         have g5:Hid<|Z3 c (k+1)=.ok (l1,mo2):=I<|by rw[g9.out];unfold goOn;simp only;rw[Ye h9,f7.out,c8.out]
         clear h9;go_wp2;go_roundw;case rel=>exact⟨k+1,mo2,l1,Om,by go_num,C,i6,g4,g5,m1,O,a9⟩
         case measure=>simp[intOf];omega
        .as_aux_lemma=>
         have n9:((op:Int) !=9)=true:=by rw[Vg];omega
         have f8:k+1<l1.length:=by rw[g4.out];omega
         obtain⟨q1,q2,q3,q4,q5,q6,q7⟩:=o3.out;obtain⟨bk,bc,bs,bz,cl,S1,L1,D⟩:=CF f8 m1.out q1 q2 q3 q4 q5 q6 q7;have g5:Hid<|Z3 c (k+1)=.ok (l1.set (k+1)<|ZZ (l1.getD (k+1) Ys) st' sl',mo2):=I<|by rw[g9.out];unfold goOn;simp only;rw[Yd h9,f7.out,c8.out]
         have p0:Hid<|(l1.set (k+1)<|ZZ (l1.getD (k+1) Ys) st' sl').length=n+1:=I<|by rw[Qw,g4.out]
         clear q1 q2 q3 q4 q5 q6 q7 f8 h9;obtain⟨k0,k1,k2,k3⟩:=D.at0 _ _ _ O.out;have a5:=O.lt;go_wp2_with fail;refine(D.call _).mono ?_;rintro e w7 ⟨rfl,m2⟩;have a2:=I<|O.below m2;have m0:Hid<|BW w w7:=I<|a9.trans<|m2.mono a9.size;clear m2 k0 k1 k2 k3 y0 a5;obtain⟨k0,k1,k2,k3⟩:=D.at0 _ _ _ a2.out;have f0:=a2.frozen<|(k+1)*4;have f1:=a2.frozen<|(k+1)*4+1;have f2:=a2.frozen<|(k+1)*4+2;have f3:=a2.frozen<|(k+1)*4+3;have a5:=a2.lt;have r1:=I<|D.put _ _ _ a2.out;have p1:=I D.ok;have r2:Hid<|BW w<|Ps w7 g ((k+1)*4) (.bool true) (.bool cl) (.string S1)<|.string L1:=I<|G9 m0.out j3;go_wp2;go_roundw;case rel=>exact⟨k+1,mo2,_,Om,by go_num,C,i6,p0,g5,p1,r1,r2⟩
         case measure=>simp[intOf];omega
    .as_aux_lemma=>
     obtain rfl:n=k:=Om;have J:n<l.length:=by rw[d8.out];omega
     obtain⟨a,r⟩:∃a,a=l.getD n Ys:=⟨_,C⟩;have v:Hid<|TM a:=I<|by rw[r];exact H7 e0.out n
     have c0:wr.cell? ⟨g,n*4,none⟩=some (.bool a.kj):=by rw[B.cell,r];exact Rn l n 0 J N
     have c1:wr.cell? ⟨g,n*4+1,none⟩=some (.bool a.kw):=by rw[B.cell,r];exact Rn l n 1 J N
     have c2:wr.cell? ⟨g,n*4+2,none⟩=some (.string<|Xp a.jy):=by rw[B.cell,r];exact Rn l n 2 J N
     have c3:wr.cell? ⟨g,n*4+3,none⟩=some (.string<|if a.kj then WO a.jx else⟨#[]⟩):=by rw[B.cell,r];exact Rn l n 3 J N
     have g6:Hid<|Ro a=true->Rb (Vl c)=(mo,sn,0,0):=I λh=>p7.out mo<|by
      unfold Tv;rw[<-U.out,d9.out];simp only;rw[<-r,h];rfl
     have m3:Hid<|Ro a=false->Rb (Vl c)=(0,0,12,n):=I λh=>g7.out n<|by
      unfold Tv;rw[<-U.out,d9.out];simp only;rw[<-r,h];rfl
     have f9:Hid<|Ro a=(!a.kw&&(decide (Xp a.jy=⟨#[115]⟩)||decide (Xp a.jy=⟨#[118]⟩))):=I<|by
      unfold Ro;have A:decide (Xp a.jy=⟨#[115]⟩)=decide (a.jy=[1]):=O7.2<|GG (y:=[1]) v.st N;have h2:decide (Xp a.jy=⟨#[118]⟩)=decide (a.jy=[2]):=O7.2<|GG (y:=[2]) v.st N;rw[A,h2]
     clear J d9 r;generalize Xp a.jy=S at*;generalize(if a.kj then WO a.jx else⟨#[]⟩)=L at*;generalize a.kj=kn at*;generalize j:a.kw=acl at*;obtain⟨ans,m4⟩:∃ans,Ro a=ans:=⟨_,C⟩;rw[m4]at g6 m3 f9;clear m4 j;go_upto_region 39 with fail;refine Zs λW hW=>?_;have b5:BW wr W:=by rw[hW];exact Yc
     have a6:Hid<|Ya W wr.heap.size [.bool kn,.bool acl,.string S,.string L] 163:=I<|by rw[hW];exact(show Ya _ _ _ _ from Go.Deep.blk_alloc_new wr _)
     have a7:Hid<|BW w W:=I<|q.trans<|b5.mono q.size;have m5:=I<|s.below b5;clear hW b5 c0 c1 c2 c3 d3 s B q V a5;generalize wr.heap.size=xa at*;have x1:=a6.cell 1;have x2:=a6.cell 2;have d3:=m5.box.cell 3;simp only[Yf]at x1 x2 d3;rw[<-U.out]at d3;have V:=m5.box.lt;cases j:acl with
     |true=>
      rw[j]at x1;have hA:ans=false:=by rw[f9.out,j];rfl
      have HV:=I<|m3.out hA;go_wp2;go_quiet (fail);go_wp2;(try simp only[Exit.inBlock,Exit.then]);refine YQ (NG C) C ?_;exact⟨0,0,12,n,C,HV,(by have:=a7.out;first|exact this|exact this.drew|exact Wn this _)⟩
     |false=>
      rw[j]at x1;by_cases hs:S=⟨#[115]⟩
      .have hA:ans=true:=by rw[f9.out,j,WI hs];rfl
       have HV:=I<|g6.out hA;subst hs;go_wp2;(try simp only[Exit.inBlock,Exit.then]);refine YQ (NG C) C ?_;exact⟨mo,sn,0,0,C,HV,a7.out⟩
      .have s1:(S.toList==[115])=false:=by
        have A:=(Ov S ⟨#[115]⟩).trans<|Wl hs;rw[ZA ⟨#[115]⟩]at A;exact A
       by_cases hv:S=⟨#[118]⟩
       .have hA:ans=true:=by rw[f9.out,j,WI hv,Bool.or_true];rfl
        have HV:=I<|g6.out hA;subst hv;clear s1;go_wp2;(try simp only[Exit.inBlock,Exit.then]);refine YQ (NG C) C ?_;exact⟨mo,sn,0,0,C,HV,a7.out⟩
       .have s2:(S.toList==[118])=false:=by
         have A:=(Ov S ⟨#[118]⟩).trans<|Wl hv;rw[ZA ⟨#[118]⟩]at A;exact A
        have hA:ans=false:=by rw[f9.out,j,Wl hs,Wl hv];rfl
        have HV:=I<|m3.out hA;clear hs hv;go_wp2;go_quiet (fail);go_wp2;(try simp only[Exit.inBlock,Exit.then]);refine YQ (NG C) C ?_;exact⟨0,0,12,n,C,HV,(by have:=a7.out;first|exact this|exact this.drew|exact Wn this _)⟩
theorem BH{c:Yb}{x:Nat×Nat}:∀{n:Nat},Vj c n=.error x->x.1=11
 |0,h=>by cases h
 |n+1,h=>by
  unfold Vj at h;cases a:Vj c n with
  |error e=>rw[a]at h;injection h with h;subst h;exact BH a
  |ok u=>
   rw[a]at h;simp only at h;split at h
   .cases h
   .injection h with h;subst h;rfl
theorem Aa{c:Yb}{x:Nat×Nat}:∀{n:Nat},Z3 c n=.error x->x.1=12
 |0,h=>by cases h
 |n+1,h=>by
  unfold Z3 at h;cases a:Z3 c n with
  |error e=>rw[a]at h;injection h with h;subst h;exact Aa a
  |ok u=>
   rw[a]at h;simp only at h;unfold SC at h;simp only at h;split at h
   · split at h
     .injection h with h;subst h;rfl
     · split at h
       .injection h with h;subst h;rfl
       .cases h
   .cases h
theorem yi{c:Yb}{x:Nat×Nat}(h:Vl c=.error x):x.1≠0:=by
 unfold Vl at h;split at h
 .rename_i e a;injection h with h;subst h;rw[BH a];decide
 .split at h
  .rename_i e a;injection h with h;subst h;unfold Tv at a;split at a
   .rename_i e2 d;injection a with a;subst a;rw[Aa d];decide
   .split at a
    .cases a
    .injection a with a;subst a;show(12:Nat)≠0;decide
  .cases h
theorem BJ{t u v x y:Tmp}(h:fn.results=#[.tmp t,.tmp u,.tmp v,.tmp x,.tmp y]):
 (results fn tmps).run P w=.ok (.tuple #[tmps.getD t undef,tmps.getD u undef,tmps.getD v undef,tmps.getD x undef,tmps.getD y undef]) w:=by
 simp[results,h]
def QI(w:World)(r:Except (Nat×Nat)<|Yb×Nat×Nat)(v:Value)(a b c p:Nat):Prop:=match r with
 |.error x=>a=0/\b=0/\c=x.1/\p=x.2/\c≠0
 |.ok x=>a=x.2.1/\b=x.2.2/\c=0/\p=0/\∃(cb:Nat)(cv pv gv iv:Value)(l:List PV)(g:List<|Option Addr×Nat×Nat),v=.pointer (some ⟨cb,0,none⟩)/\SI w cb x.1 cv pv gv iv l g
theorem QI.ku{c p:Nat}(h:r=.error (c,p))(a:c≠0):QI w r v 0 0 c p:=by subst h;exact⟨C,C,C,C,a⟩
theorem QI.mkOk{code:Yb}{a b cb:Nat}{cv pv gv iv:Value}{l:List PV}{g:List<|Option Addr×Nat×Nat}(h:r=.ok (code,a,b))(c:SI w cb code cv pv gv iv l g):QI w r (Vp cb) a b 0 0:=by subst h;exact⟨C,C,C,C,cb,cv,pv,gv,iv,l,g,C,c⟩
theorem QI.zero{a b c p:Nat}(h:QI w r v a b c p)(d:c≠0):a=0/\b=0:=by
 cases r with
 |error x=>exact⟨h.1,h.2.1⟩
 |ok x=>exact absurd h.2.2.1 d
theorem mq(s:BA)(w:World)(L:s.size<=maxLen):
 CP 14 #[.string s] w λe u=>∃(v:Value)(a b c p:Nat),e=.returned (.tuple #[v,E a,E b,E c,E p])/\Hid (QI u (Tj<|bl s) v a b c p)/\BW w u:=by
 go_enter func14,ntmps14;go_wp2_with fail;refine(uL s w L).mono ?_;rintro e G ⟨v,c,p,rfl,o,r⟩;have j:=I r;clear r;cases hd:Wt (bl s)with
 |error x=>
  have k:=o.out;rw[hd]at k;obtain⟨_,h,i,M⟩:=k;have O:Hid<|Tj (bl s)=.error (c,p):=I<|by unfold Tj;rw[hd,h,i]
  have Q:((c:Int) !=0)=true:=by rw[Vg];omega
  clear hd o h i;go_wp2;(try simp only[Exit.inBlock,Exit.then]);refine YQ (BJ C) C ?_;exact⟨_,0,0,c,p,C,I<|QI.ku O.out M,j.out⟩
 |ok code=>
  have k:=o.out;rw[hd]at k;obtain⟨rfl,rfl,cb,cv,pv,gv,iv,l,g,rfl,t,A,B⟩:=k;have m:=I<|show SI G cb code cv pv gv iv l g from⟨t,A,B⟩;have D:Hid<|Tj (bl s)=match Vl code with
   |.error e=>.error e
   |.ok x=>.ok (code,x):=I<|by unfold Tj;rw[hd];simp only;cases Vl code<;>rfl
  clear hd o t A B;go_wp2_with fail;refine(jF G cb code cv pv gv iv l g m.out).mono ?_;rintro e z ⟨a,b,d,q,rfl,H,n⟩;have J:Hid<|BW w z:=I<|j.trans<|n.mono j.size;have K:Hid<|SI z cb code cv pv gv iv l g:=I ⟨m.code.below n,m.ln,m.op⟩;have P:Hid<|QI z (Tj<|bl s) (Vp cb) a b d q:=I<|by
   have h:=H.out;have i:=D.out;cases F:Vl code with
   |error x=>
    rw[F]at h i;have f:((0:Nat),(0:Nat),x.1,x.2)=(a,b,d,q):=h;injection f with e1 f;injection f with e2 f;injection f with e3 e4;subst e1 e2 e3 e4;exact QI.ku i<|yi F
   |ok x=>
    rw[F]at h i;have f:(x.1,x.2,(0:Nat),(0:Nat))=(a,b,d,q):=h;injection f with e1 f;injection f with e2 f;injection f with e3 e4;subst e1 e2 e3 e4;exact QI.mkOk i K.out
  clear n H D m j;go_wp2;(try simp only[Exit.inBlock,Exit.then]);refine YQ (BJ C) C ?_;exact⟨_,a,b,d,q,C,P,J.out⟩
theorem yk {v:Int}:CP 9 #[E v] w λe u=>e=.returned (E v)/\u=w:=by
 go_enter func9,ntmps9;go_wp2;go_ret;exact⟨C,C⟩
theorem fW (w:World):CP 5 #[] w λe u=>∃r:BA,e=.returned (.string r)/\r.size<=maxLen/\BW w u:=by
 go_enter func5,ntmps5;go_wp2_with fail;refine(Ao w N).mono ?_;rintro e h ⟨r,rfl,a,c⟩;have d:r.size<=maxLen:=by
  have f:=congrArg List.length a.out;rw[Yv,Zb,Zb,Hn]at f;rw[f];decide
 have g:=I d;clear d a;go_wp2;go_ret;exact⟨r,C,g.out,c⟩
