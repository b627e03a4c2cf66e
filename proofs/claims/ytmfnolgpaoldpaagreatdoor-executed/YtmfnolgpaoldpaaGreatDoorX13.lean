/- Parts. -/
import Derived.Test.YtmfnolgpaoldpaaGreatDoorX12
import Derived.Deep.WholeRow
set_option linter.all false
set_option maxRecDepth 100000
set_option maxHeartbeats 16000000
namespace Go.Proofs.YtmfnolgpaoldpaaGreatDoor
open Go.RowKit LS Go.Proofs.Tryz
open Go renaming World->Y,Value->F
open Go.RowKit renaming Hid->U
variable {a:Ah}{r:Except (Nat×Nat)<|Yb×Nat×Nat}{err v:F}{m p:Int}{l:List Ah}{c xs:List F}{sl sl' st st' y:List Nat}{arg b e0 e1 e2 e3 g i k n0 n1 n2 n3 nb op:Nat}{A:Nat->Addr}{x:Nat×Nat}{a0 a1 a2 a3 la:Option Addr}{w w' w0:Y}
def UL(w:Y)(A:Nat->Addr)(r:Except (Nat×Nat) Yb)(v err:F):Prop:=match r with
 |.ok c=>err=.nilIface/\Xy w c v
 |.error x=>v=.agg #[.slice none 0 0,.slice none 0 0,.slice none 0 0,.slice none 0 0]/\((x.1=9/\ZF w err x.2 (A 8))\/(x=(10,0)/\err=.iface 469 (.pointer<|some<|A 9)))
theorem UL.mkOk{r:Except (Nat×Nat) Yb}{c:Yb}(a:r=.ok c)(h:err=.nilIface/\Xy w c v):UL w A r v err:=by subst a;exact h
theorem UL.ku{r:Except (Nat×Nat) Yb}(a:r=.error x)(h:v=.agg #[S0,S0,S0,S0]/\((x.1=9/\ZF w err x.2 (A 8))\/(x=(10,0)/\err=.iface 469 (.pointer<|some<|A 9)))):UL w A r v err:=by subst a;exact h
theorem Nf{a:Nat}(h:BW w0 w)(c:w0.heap.size<=a)(x y z u:F):BW w0<|Wj w a x y z u:=
 (((h.setCell (p:=⟨a,0,none⟩) c _).setCell (p:=⟨a,1,none⟩) c _).setCell (p:=⟨a,2,none⟩) c _).setCell (p:=⟨a,3,none⟩) c _
theorem Xy.shape{c:Yb}(h:Xy w c v):∃(a0 a1 a2 a3:Option Addr)(n0 n1 n2 n3 c0 c1 c2 c3:Nat),v=.agg #[.slice a0 n0 c0,.slice a1 n1 c1,.slice a2 n2 c2,.slice a3 n3 c3]:=by
 obtain⟨cv,pv,gv,iv,rfl,h⟩:=h;obtain⟨a0,c0,rfl⟩:=h.cs.shape;obtain⟨a1,c1,rfl⟩:=h.ps.shape;obtain⟨a2,c2,rfl⟩:=h.gs.shape;obtain⟨a3,c3,rfl⟩:=h.is.shape;exact⟨_,_,_,_,_,_,_,_,_,_,_,_,C⟩
theorem Xy.below{l:Yb}(h:Xy w l v)(a:BW w w'):Xy w' l v:=by
 obtain⟨cv,pv,gv,iv,e,h⟩:=h;refine⟨cv,pv,gv,iv,e,Ze h.cs a,?_,?_,Ze h.is a⟩
 .obtain⟨xs,c,d,f⟩:=h.ps;exact⟨xs,Ze c a,d,λx g=>(f x g).below a⟩
 .obtain⟨xs,c,d,f⟩:=h.gs;exact⟨xs,Ze c a,d,λx g=>(f x g).below a⟩
theorem ZF.ju{a:Addr}(h:ZF w v p a){t:TypeId}(d:Ya w b c t)(e:w.grownBy w'<|some b)(f:t≠96):ZF w' v p a:=h.grown e d f
theorem wP{l:LB}{x:Yb×Nat}(h:TQ l=.ok x):x.2<=l.length:=by
 unfold TQ at h;cases a:US l with
 |error e=>rw[a]at h;cases h
 |ok n=>
  rw[a]at h;have i:9<=l.length:=by
   unfold US at a;split at a
   .cases a
   .split at a
    .cases a
    .omega
  simp only at h;cases c:Yo (Vw l) 9 n.1 with
  |error e=>rw[c]at h;cases h
  |ok cs=>
   rw[c]at h;simp only at h;have g1:=Ny (n:=l.length) (λp x h=>GB h) i c;cases d:Yo (pickAt l) cs.2 n.2.1 with
   |error e=>rw[d]at h;cases h
   |ok ps=>
    rw[d]at h;simp only at h;have g2:=Ny (n:=l.length) (λp x h=>GS h) g1 d;cases f:Yo (groupAt l) ps.2 n.2.2.1 with
    |error e=>rw[f]at h;cases h
    |ok gs=>
     rw[f]at h;simp only at h;have g3:=Ny (n:=l.length) (λp x h=>H8 h) g2 f;cases g:Yo (WM l) gs.2 n.2.2.2 with
     |error e=>rw[g]at h;cases h
     |ok is=>
      rw[g]at h;injection h with h;subst h;exact Ny (n:=l.length) (λp x h=>(I8 h).1) g3 g
theorem jZ(s:BA)(A:Nat->Addr)(m:Int)(w:Y)(R:YD w A m)(g:Vv w)(hB:20<=w.heap.size)(hs:s.size<=maxLen):
 CP 39 #[.string s] w λe w'=>∃v err,e=.returned (.tuple #[v,err])/\U (UL w' A (Wt<|bl s) v err)/\BW w w':=by
 have h:U<|Ground w A m<|w.heap.size+1:=I ⟨R,g,hB,X⟩;have b7:=I hs;have d6:=hs;unfold maxLen at d6;clear R g hB hs;go_enter func39,ntmps39;go_wp2_with fail;refine Zv λW hW=>?_;have b8:BW w W:=by rw[hW];exact Yc.alloc (Sm) _
 have b9:U<|Ya W w.heap.size [S0,S0,S0,S0] 80:=I<|by
  rw[hW];exact(Yc.block _<|Sm).trans YO
 have c4:U<|YH W (w.heap.size+1) s 0:=I<|by
  rw[hW];have:=Go.Deep.blk_alloc_new (w.alloc<|.cells #[S0,S0,S0,S0] 80)<|.cells #[.string s,E 0] 186;rwa [Go.Deep.nblk_alloc]at this
 have T:=I b8;clear hW b8;refine(kM s (w.heap.size+1) A m w W h.o b7.o T.o c4.o).m ?_;rintro e K ⟨v,err,rfl,i,V⟩;have p:U<|BW w K:=I<|Uz T.o V h.b;have f:=I<|b9.grown V<|by intro e;injection e with e;omega
 clear V b9 c4 T;cases t:TQ (bl s)with
 |error x=>
  obtain⟨fa,rfl⟩:=i.jn t;obtain⟨B,D,⟨a0,a1,a2,a3,n0,n1,n2,n3,e0,e1,e2,e3,rfl⟩,_⟩:=i.err t;have o:U<|Wt (bl s)=.error x:=I<|by rw[DN,t]
  have Z:=I D;have a4:=I B;have d4:=f.lt;clear i t B D;have f0:=f.frozen;have c0:=f.cell;go_wp2;change bodyPost _ _ _ _ _<|(Wj K w.heap.size S0 S0 S0 S0).alloc<|.cells #[.slice a0 n0 e0,.slice a1 n1 e1,.slice a2 n2 e2,.slice a3 n3 e3] 80;have st:=(LP f.o (x:=S0) (y:=S0) (z:=S0) (u:=S0)).below<|(Ym _ _).alloc (Yj _)<|.cells #[.slice a0 n0 e0,.slice a1 n1 e1,.slice a2 n2 e2,.slice a3 n3 e3] 80;have s0:=st.cell 0;have s1:=st.cell 1;have s2:=st.cell 2;have s3:=st.cell 3;simp only[Yf]at s0 s1 s2 s3;have a5:=I<|(Nf p.o (Yj _) S0 S0 S0 S0).alloc (Nf p.o (Yj _) S0 S0 S0 S0).size<|.cells #[.slice a0 n0 e0,.slice a1 n1 e1,.slice a2 n2 e2,.slice a3 n3 e3] 80;have d7:=I<|(Z.ju f.o (MC K w.heap.size S0 S0 S0 S0) N).below<|(Ym _ _).alloc (Yj _)<|.cells #[.slice a0 n0 e0,.slice a1 n1 e1,.slice a2 n2 e2,.slice a3 n3 e3] 80;generalize(Wj K w.heap.size S0 S0 S0 S0).alloc (.cells #[.slice a0 n0 e0,.slice a1 n1 e1,.slice a2 n2 e2,.slice a3 n3 e3] 80)=WX at*;exact YQ (v:=.tuple #[.agg #[S0,S0,S0,S0],.iface 92<|Vp fa]) (by simp[results,results39,go_sem,s0,s1,s2,s3]) C ⟨_,_,C,I<|UL.ku o.o ⟨C,Or.inl ⟨a4.o,d7.o⟩⟩,a5.o⟩
 |ok x=>
  obtain⟨c,q⟩:=x;obtain⟨rfl,L,G⟩:=i.ok t;obtain⟨a0,a1,a2,a3,n0,n1,n2,n3,e0,e1,e2,e3,rfl⟩:=L.shape;have hq:=wP t;simp only at hq G L;rw[Zb]at hq;have c5:=I G;have c6:=I L;have l:U<|Wt (bl s)=if(bl s).length<q+4 then .error (9,(bl s).length)else if q+4<(bl s).length then .error (9,q+4)else
   if Yp ((bl s).drop q)≠XL ((bl s).take q)then .error (10,0)else .ok c:=I<|by rw[DN,t]
  have rc:=G.cell 1;simp only[Yf]at rc;have d4:=f.lt;have f1:=G.lt;clear i t G L;go_wp2_with fail;refine Zv λW2 a6=>?_;have H:BW K W2:=by rw[a6];exact Yc
  have a7:U<|BW w W2:=I<|p.trans<|H.mono p.size;have c7:=I<|f.below H;have a8:=I<|c5.below H;have c8:U<|Ya W2 K.heap.size [.slice a0 n0 e0,.slice a1 n1 e1,.slice a2 n2 e2,.slice a3 n3 e3] 80:=I<|by rw[a6];exact YO
  have a9:=I<|c6.below H;clear a6 H rc f p c5 c6;refine(LL s q 4 (w.heap.size+1) _ W2 a8.o (h.code a7.o) hq b7.o X).m ?_;rintro e w3 ⟨v,err,rfl,i,J⟩;have j:U<|BW w w3:=I<|Uz a7.o J h.b;have a:=I<|c7.grown J<|by intro e;injection e with e;omega
  have c9:=I<|c8.grown J<|by intro e;injection e with e;omega
  have d5:=I<|a9.ju a8.o J N N N N N N;have e8:=a.lt;have e9:=c9.lt;clear J c7 c8 a9 a8 a7;have f0:=a.frozen;have c0:=a.cell 0;have c1:=a.cell 1;have c2:=a.cell 2;have c3:=a.cell 3;simp only[Yf]at c0 c1 c2 c3;cases d:Z8 (bl s) q 4 with
  |error x=>
   obtain⟨fa,rfl⟩:=i.jn d;obtain⟨B,D,rfl,_⟩:=i.err d;have b0:x=(9,(bl s).length)/\(bl s).length<q+4:=by
    unfold Z8 at d;cases g:VJ (bl s) q 4 with
    |ok y=>rw[g]at d;cases d
    |error y=>
     rw[g]at d;injection d with d;unfold VJ at g;split at g
     .injection g with g;exact⟨by rw[<-d,<-g],by assumption⟩
     .cases g
   have o:U<|Wt (bl s)=.error x:=I<|by rw[l.o,Ye b0.2,b0.1]
   have Z:=I D;have a4:=I B;clear i d B D b0 l;go_wp2;exact NR (r:=.tuple #[.agg #[S0,S0,S0,S0],.iface 92<|Vp fa]) (λW s0 s1 s2 s3=>by simp[results,results39,go_sem,s0,s1,s2,s3]) C a.o ⟨_,_,C,I<|UL.ku o.o ⟨C,Or.inl ⟨a4.o,Z.ju a.o (MC w3 w.heap.size S0 S0 S0 S0) N⟩⟩,Nf j.o (Yj _) S0 S0 S0 S0⟩
  |ok x=>
   obtain⟨n,q2⟩:=x;obtain⟨rfl,rfl,M⟩:=i.ok d;obtain⟨d0,b1,O,b2⟩:=LS.Zdd d;simp only at d0 b1 O b2 M;have b2:n<4294967296:=b2;rw[Zb]at d0;have f2:=I M;have d1:=I b1;have rc:=M.cell;have f3:=I O;have b3:q2=q+4:=O;clear i d b1 O M;by_cases f4:q2<s.size
   .have o:U<|Wt (bl s)=.error (9,q2):=I<|by rw[l.o,Yd<|by rw[Zb];omega,Ye<|by rw[Zb];omega,b3]
    have d8:(q2:Int)<s.size:=X;clear l b3;go_wp2_with fail;refine(Np _<|h.code j.o).m ?_;rintro e w4 ⟨v,rfl,R,b4⟩;have Z:=R;have d9:U<|BW w w4:=I<|j.trans<|b4.mono j.size;have P:=I<|a.below b4;obtain⟨fa,rfl⟩:=ZF.shape R.o;clear b4 a f0 c0 c1 c2 c3 rc R;have f0:=P.frozen;have c0:=P.cell;go_wp2;exact NR (r:=.tuple #[.agg #[S0,S0,S0,S0],.iface 92<|Vp fa]) (λW s0 s1 s2 s3=>by simp[results,results39,go_sem,s0,s1,s2,s3]) C P.o ⟨_,_,C,I<|UL.ku o.o ⟨C,Or.inl ⟨C,Z.ju P.o (MC w4 w.heap.size S0 S0 S0 S0) N⟩⟩,Nf d9.o (Yj _) S0 S0 S0 S0⟩
   .have d8:¬(q2:Int)<s.size:=X;have f5:q+4=s.size:=X;have Q:bl (s.extract 0 q)=(bl s).take q:=by rw[WL];rfl
    have b5:Y6 (bl s) q 4=(bl s).drop q:=by unfold Y6;exact Wm<|by rw[Ur,Zb];omega
    have hQ:=FG<|(bl s).take q;have k:U<|Wt (bl s)=if n≠XL ((bl s).take q)then .error (10,0)else .ok c:=I<|by rw[l.o,Yd<|by rw[Zb];omega,Yd<|by rw[Zb];omega,d1.o,b5]
    have d2:(s.extract 0 q).size<=maxLen:=by unfold maxLen;rw[V5];omega
    obtain⟨SQ,b6⟩:∃SQ,SQ=XL ((bl s).take q):=⟨_,C⟩;have d3:U<|∀W',CP 82 #[.string<|s.extract 0 q] W' λe w'=>e=.returned (.int .u32 SQ)/\w'=W':=I λW'=>by rw[b6,<-Q];exact kG (s.extract 0 q) W' d2
    rw[<-b6]at k hQ;have e4:=I<|h.v.below j.o;have gs:w3.cell? ⟨9,0,none⟩=some (.iface 469<|.pointer<|some<|A 9):=e4.sent _ N;clear l b5 Q b6 d1 d2 b3;by_cases he:n=SQ
    .subst he;have o:U<|Wt (bl s)=.ok c:=I<|by rw[k.o,Yd<|Sm]
     have e5:(((n:Int)%4294967296) !=(n:Int))=false:=by rw[Int.emod_eq_of_lt X X];simp
     have y0:=c9.cell;clear k gs;go_wp2_with(go_at_call 82;refine(d3.o _).m ?_;rintro e S ⟨rfl,rfl⟩);exact NR (r:=.tuple #[.agg #[.slice a0 n0 e0,.slice a1 n1 e1,.slice a2 n2 e2,.slice a3 n3 e3],.nilIface]) (λW s0 s1 s2 s3=>by simp[results,results39,go_sem,s0,s1,s2,s3]) C a.o ⟨_,_,C,I<|UL.mkOk o.o ⟨C,d5.ju a.o (MC S w.heap.size (.slice a0 n0 e0) (.slice a1 n1 e1) (.slice a2 n2 e2)<|.slice a3 n3 e3) N N N N N N⟩,Nf j.o (Yj _) (.slice a0 n0 e0) (.slice a1 n1 e1) (.slice a2 n2 e2)<|.slice a3 n3 e3⟩
    .have o:U<|Wt (bl s)=.error (10,0):=I<|by rw[k.o,Ye he]
     have e5:(((n:Int)%4294967296) !=(SQ:Int))=true:=by rw[Int.emod_eq_of_lt X X,Vg];omega
     clear k;go_wp2_with(go_at_call 82;refine(d3.o _).m ?_;rintro e S ⟨rfl,rfl⟩);have f6:=h.n;have e6:U<|Ya S.drew w.heap.size [S0,S0,S0,S0] 80:=I<|a.below<|(Ym _ _).drew;have e7:U<|BW w S.drew:=I<|j.drew;have h9:¬w.heap.size=9:=X;have f7:¬9=w.heap.size:=X;go_region;all_goals
      go_wp2;change bodyPost _ _ _ _ _<|Wj S.drew w.heap.size S0 S0 S0 S0;have st:=LP e6.o (x:=S0) (y:=S0) (z:=S0) (u:=S0);have s0:=st.cell 0;have s1:=st.cell 1;have s2:=st.cell 2;have s3:=st.cell 3;simp only[Yf]at s0 s1 s2 s3;have a5:=I<|Nf e7.o (Yj _) S0 S0 S0 S0;generalize Wj S.drew w.heap.size S0 S0 S0 S0=WX at*;exact YQ (v:=.tuple #[.agg #[S0,S0,S0,S0],.iface 469<|.pointer<|some<|A 9]) (by simp[results,results39,go_sem,s0,s1,s2,s3]) C ⟨_,_,C,I<|UL.ku o.o ⟨C,Or.inr ⟨C,C⟩⟩,a5.o⟩
abbrev YW (w:Y)(nb:Nat)(a:Ah):Prop:=Ya w nb (Xn a) 294
theorem YW.cells(h:YW w nb a):w.cell? ⟨nb,0,none⟩=some (.bool a.kj)/\w.cell? ⟨nb,1,none⟩=some (.bool a.kw)/\w.cell? ⟨nb,2,none⟩=some (E a.jy.length):=
 ⟨(h.cell 0).trans<|Tx a 0 N,(h.cell 1).trans<|Tx a 1 N,(h.cell 2).trans<|Tx a 2 N⟩
theorem YW.jy(h:YW w nb a)(j:Nat)(c:j<64):w.cell? ⟨nb,3+j,none⟩=some (.int .u8 ((a.jy.reverse.getD j 0:Nat):Int)):=(h.cell _).trans<|GI a j c
theorem YW.slot(h:YW w nb a)(j:Nat)(c:j<16):w.cell? ⟨nb,67+j,none⟩=some (.int .u8 ((a.jx.getD j 0:Nat):Int)):=(h.cell _).trans<|GH a j c
def UB(k:Nat)(a:Ah):Option Ah:=if k=0\/a.jy.length=64 then none else some {a with jy:=k::a.jy}
theorem OD (k:Nat)(w:Y):CP 162 #[.int .u8 k] w λe u=>e=.returned (.bool<|ZO k)/\u=w:=by
 by_cases a:k=1
 .subst a;go_enter func162,ntmps162;go_wp2;go_ret;exact⟨C,C⟩
 · by_cases c:k=2
   .subst c;go_enter func162,ntmps162;go_wp2;go_ret;exact⟨C,C⟩
   · have d:U<|ZO k=false:=I<|by unfold ZO;simp[a,c]
     have e1:((k:Int)==1)=false:=by rw[YB];omega
     have e2:((k:Int)==2)=false:=by rw[YB];omega
     go_enter func162,ntmps162;go_wp2;go_ret;exact⟨VY d.symm,C⟩
theorem ME(nb:Nat)(a:Ah)(k:Nat)(w:Y)(h:YW w nb a)(o:a.jy.length<=64):
 CP 159 #[Vp nb,.int .u8 k] w λe u=>e=.returned (.bool (UB k a).isSome)/\U (∀a',UB k a=some a'->YW u nb a')/\w.grownBy u (some nb):=by
 obtain⟨c0,c1,c2⟩:=h.cells;have H:=I h;by_cases j:k=0
 .subst j;have c:U<|UB 0 a=none:=I<|Ye<|.inl C;clear h c0 c1;go_enter func159,ntmps159;go_wp2;go_ret;exact⟨by rw[c];rfl,I (λa' e=>by rw[c]at e;cases e),Z2 _ _⟩
 .have m:((k:Int)==0)=false:=by rw[YB];omega
  by_cases d:a.jy.length=64
  .have c:U<|UB k a=none:=I<|Ye<|.inr d;rw[d]at c2;clear h c0 c1;go_enter func159,ntmps159;go_wp2;go_ret;exact⟨by rw[c];rfl,I (λa' e=>by rw[c]at e;cases e),Z2 _ _⟩
  .have g:U<|UB k a=some _:=I<|Yd X;have f:a.jy.length<64:=X;have q:((a.jy.length:Int)==64)=false:=by rw[YB];omega
   have d0:=h.jy _ f;have f0:=h.frozen<|3+a.jy.length;have f2:=h.frozen 2;have i:U<|YW ((w.drew.setCell ⟨nb,3+a.jy.length,none⟩<|.int .u8 k).setCell ⟨nb,2,none⟩<|E<|(a.jy.length+1:Nat)) nb {a with jy:=k::a.jy}:=by
    have:=((h.below<|(Ym _ _).drew).setk (3+a.jy.length)<|.int .u8 k).setk 2<|E<|(a.jy.length+1:Nat);rw[fi a k f]at this;exact this
   have l:U<|w.grownBy ((w.drew.setCell ⟨nb,3+a.jy.length,none⟩<|.int .u8 k).setCell ⟨nb,2,none⟩<|E ((a.jy.length+1:Nat):Int))<|some nb:=I<|Zn (p:=⟨nb,2,none⟩) (Zn (p:=⟨nb,3+a.jy.length,none⟩) (TU<|Z2 _ _) (Or.inl C) _) (Or.inl C) _;generalize r:a.jy.length=n at*;clear h c0 c1;go_enter func159,ntmps159;go_wp2;go_region;all_goals
    go_wp2;go_ret;exact⟨by rw[g];rfl,I λa' e=>by rw[g]at e;injection e with e;subst e;exact i,l⟩
theorem MG(nb:Nat)(a:Ah)(w:Y)(h:YW w nb a)(l:a.jy.length<=64):
 CP 161 #[Vp nb] w λe u=>e=.returned (.int .u8 ((a.jy.headD 0:Nat):Int))/\U (YW u nb {a with jy:=a.jy.tail})/\w.grownBy u (some nb):=by
 obtain⟨c0,c1,c2⟩:=h.cells;have H:=I h;cases c:a.jy with
 |nil=>
  rw[c]at c2;have m:U<|YW w nb {a with jy:=([]).tail}:=by
   have:{a with jy:=([]).tail}=a:=by rw[<-show a.jy=([]).tail from c]
   rw[this];exact h
  clear h c0 c1 c;go_enter func161,ntmps161;go_wp2;go_ret;exact⟨C,m,Z2 _ _⟩
 |cons k r=>
  have d:a.jy.length=r.length+1:=by rw[c];rfl
  have o:r.length<64:=X;have d0:w.cell? ⟨nb,3+r.length,none⟩=some (.int .u8<|k):=by
   have:=h.jy _ o;rw[c]at this;rw[this];simp
  have f0:=h.frozen<|3+r.length;have f2:=h.frozen 2;rw[d]at c2;have t:(((r.length:Int)+1)==0)=false:=by rw[YB];omega
  have f:U<|∀W:Y,(∀j,W.heap[j]?=w.heap[j]?)->YW _ _ _:=I λW q=>by
   have s:YW W _ a:=(q _).trans h;have g:=(s.setk 2<|E<|r.length).setk (3+r.length)<|.int .u8 0;have i:=fh a l X;rw[d,Io]at i;rw[i,show a.jy.tail=r by rw[c];rfl]at g;exact g
  rw[show(k::r).headD 0=k from C,show(k::r).tail=r from C];generalize r.length=n at*;clear h c0 c1 c d H;go_enter func161,ntmps161;go_wp2;go_region;all_goals
   go_wp2;go_region;all_goals
    go_wp2;go_ret;exact⟨C,I<|f.o w λ_=>C,Zn (p:=⟨nb,3+n,none⟩) (TU<|TU<|Zn (p:=⟨nb,2,none⟩) (Z2 _ _) (Or.inl C) _) (Or.inl C) _⟩
theorem uT :CP 123 #[.agg #[E op,E arg]] w λe u=>e=.returned (.bool<|TC op)/\BW w u:=by
 by_cases a:op=9
 .subst a;go_enter func123,ntmps123;go_wp2;go_ret;exact⟨C,Yh⟩
 · by_cases c:op=10
   .subst c;go_enter func123,ntmps123;go_wp2;go_ret;exact⟨C,Yh⟩
   · have d:U<|TC op=false:=I<|by unfold TC;simp[a,c]
     have e1:((op:Int)==9)=false:=by rw[YB];omega
     have e2:((op:Int)==10)=false:=by rw[YB];omega
     go_enter func123,ntmps123;go_wp2;go_ret;exact⟨VY d.symm,Yh⟩
theorem rI (op arg:Nat)(w:Y):CP 126 #[.agg #[E op,E arg]] w λe u=>e=.returned (.bool<|Pi op)/\BW w u:=by
 by_cases a:op=12
 .subst a;go_enter func126,ntmps126;go_wp2;go_ret;exact⟨C,Yh⟩
 · by_cases c:op=13
   .subst c;go_enter func126,ntmps126;go_wp2;go_ret;exact⟨C,Yh⟩
   · have d:U<|Pi op=false:=I<|by unfold Pi;simp[a,c]
     have e1:((op:Int)==12)=false:=by rw[YB];omega
     have e2:((op:Int)==13)=false:=by rw[YB];omega
     go_enter func126,ntmps126;go_wp2;go_ret;exact⟨VY d.symm,Yh⟩
theorem Dj (nm:BA)(la:Option Addr)(ln lc n:Nat)(w:Y):CP 137 #[.agg #[.string nm,.slice la ln lc,E n]] w λe u=>e=.returned (.bool<|decide<|0<n)/\BW w u:=by
 by_cases h:0<n
 .have a:(0:Int)<n:=X;go_enter func137,ntmps137;go_wp2;go_ret;exact⟨VY<|by simp[h],Yh⟩
 .have a:¬(0:Int)<n:=X;go_enter func137,ntmps137;go_wp2;go_ret;exact⟨VY C,Yh⟩
theorem oE {nm:BA}{ln lc n:Nat}(nd:Nd)(w:Y):CP 160 #[.agg #[.string nm,.slice la ln lc,E n]] w λe u=>e=.returned (.int .u8 (VF (nd,n):Nat))/\BW w u:=by
 go_enter func160,ntmps160;go_wp2_with fail;refine Zv λW i=>?_;have a:Below _ w W:=i▸Yc;have c:=I a;clear i a;refine(Dj _ _ _ _ n W).m ?_;rintro e j ⟨rfl,d⟩;have f:=I<|c.trans<|d.mono c.size;clear d;by_cases h:0<n
 · have hd:decide (0<n)=true:=by simp[h]
   have g:U<|VF (nd,n)=3:=I<|Ye h;rw[hd];clear hd h;go_wp2;go_ret;exact⟨by rw[g];rfl,f⟩
 · have hd:decide (0<n)=false:=by simp[h]
   have g:U<|VF (nd,n)=2:=I<|Yd h;rw[hd];clear hd h;go_wp2;go_ret;exact⟨by rw[g];rfl,f⟩
theorem ik(c:k≠0)(a:Ah):(UB k a).isSome=(Z4 k a.jy a.jx).isSome/\∀st sl,Z4 k a.jy a.jx=some (st,sl)->UB k a=some {a with jy:=st,jx:=sl}:=by
 unfold UB Z4;by_cases h:a.jy.length=64
 .rw[Ye<|.inr h,Ye h];exact⟨C,λ_ _ e=>by cases e⟩
 .rw[Yd<|by rintro(e|e)<;>contradiction,Yd h];exact⟨C,λst sl e=>by injection e with e;injection e with e1 e2;subst e1;subst e2;rfl⟩
theorem il(a:Ah):UB 0 a=none:=Ye<|.inl C
def Vu(w w':Y)(nb:Nat)(a:Ah)(r:Option<|List Nat×List Nat)(ok:Bool):Prop:=ok=r.isSome/\(∀st sl,r=some (st,sl)->YW w' nb {a with jy:=st,jx:=sl})/\w.grownBy w' (some nb)
theorem Vu.put{a1:Ah}{r:Option<|List Nat×List Nat}(f:k≠0)(g:r=Z4 k a1.jy a1.jx)(c:a1.kj=a.kj/\a1.kw=a.kw)(h:∀a',UB k a1=some a'->YW w' nb a')(i:w.grownBy w'<|some nb):Vu w w' nb a r (UB k a1).isSome:=by
 have d:=ik f a1;subst g;refine⟨d.1,λst sl e=>?_,i⟩;have:=h _<|d.2 _ _ e;rw[c.1,c.2]at this;exact this
theorem Vu.no{r:Option<|List Nat×List Nat}(c:r=none)(d:w.grownBy w'<|some nb):Vu w w' nb a r false:=by
 subst c;exact⟨C,(λ_ _ e=>(by cases e)),d⟩
structure Qj (w:Y)(nb:Nat)(a:Ah)(c:Yb)(op arg:Nat)(a0 a1 a2 a3:Option Addr)(n0 n1 n2 n3 e0 e1 e2 e3:Nat):Prop where
 st:YW w nb a
 cv:X6 w c (.slice a0 n0 e0) (.slice a1 n1 e1) (.slice a2 n2 e2)<|.slice a3 n3 e3
 rf:∃i,Zy c i (op,arg)=true
 ln:a.jy.length<=64
 sl:a.jx.length=16
 kd:∀k∈a.jy,k≠0
theorem FX(w:Y)(a:Ah)(c:Yb)(h:Qj w nb a c 0 arg a0 a1 a2 a3 n0 n1 n2 n3 e0 e1 e2 e3):
 CP 122 #[Vp nb,.agg #[.slice a0 n0 e0,.slice a1 n1 e1,.slice a2 n2 e2,.slice a3 n3 e3],.agg #[E (0:Nat),E arg]] w λe u=>∃ok,e=.returned (.bool ok)/\U (Vu w u nb a (Zr c (0,arg) a.jy a.jx) ok):=by
 have f:=I h;have n:=h.st.lt;go_enter func122,ntmps122;go_wp2_with fail;refine Zv λW m=>?_;have d:Below _ w W:=m▸Yc.alloc (Sm) _;have g:=I<|f.st.below d;have i:U<|w.grownBy W<|some nb:=I<|ZB d;refine(ME _ a 1 W g f.ln).m ?_;rintro e o ⟨rfl,j,k⟩;have l:=I<|Zi i k;go_wp2;go_ret;exact⟨_,C,I<|Vu.put N C ⟨C,C⟩ j l⟩
theorem Mn{K:Nat}{KI:Int}(w:Y)(a:Ah)(c:Yb)(h:Qj w nb a c op arg a0 a1 a2 a3 n0 n1 n2 n3 e0 e1 e2 e3)(f:(K=3/\KI=3)/\op=2\/(K=2/\KI=2)/\(op=5\/op=6\/op=7\/op=8\/op=10)):
 CP 122 #[Vp nb,.agg #[.slice a0 n0 e0,.slice a1 n1 e1,.slice a2 n2 e2,.slice a3 n3 e3],.agg #[E op,E arg]] w λe u=>∃ok,e=.returned (.bool ok)/\U (Vu w u nb a (Zr c (op,arg) a.jy a.jx) ok):=by
 have o:(a.jy.headD 0=K/\U (Zr c (op,arg) a.jy a.jx=Z4 2 {a with jy:=a.jy.tail}.jy {a with jy:=a.jy.tail}.jx))\/(((a.jy.headD 0:Int)==KI)=false/\U (Zr c (op,arg) a.jy a.jx=none)):=by
  by_cases d:a.jy.headD 0=K
  .refine Or.inl ⟨d,?_⟩;cases i:a.jy with
   |nil=>rw[i]at d;rcases f with⟨⟨rfl,_⟩,_⟩|⟨⟨rfl,_⟩,_⟩<;>cases d
   |cons k r=>rw[i]at d;obtain rfl:=d;rcases f with⟨⟨e,_⟩,rfl⟩|⟨⟨e,_⟩,rfl|rfl|rfl|rfl|rfl⟩<;>(obtain rfl:k=_:=e;rfl)
  .refine Or.inr ⟨by rw[YB];omega,?_⟩;cases i:a.jy with
   |nil=>rcases f with⟨_,rfl⟩|⟨_,rfl|rfl|rfl|rfl|rfl⟩<;>rfl
   |cons k r=>rw[i]at d;rcases f with⟨⟨rfl,_⟩,rfl⟩|⟨⟨rfl,_⟩,rfl|rfl|rfl|rfl|rfl⟩<;>exact Yd d
 have m:=I h;have A:=h.st.lt;rcases f with⟨⟨rfl,rfl⟩,rfl⟩|⟨⟨rfl,rfl⟩,rfl|rfl|rfl|rfl|rfl⟩;all_goals
  go_enter func122,ntmps122;go_wp2_with fail;refine Zv λW x=>?_;have j:Below _ w W:=x▸Yc.alloc (Sm) _;have p:=I<|m.st.below j;have q:U<|w.grownBy W<|some nb:=I<|ZB j;refine(MG _ a W p m.ln).m ?_;rintro e B ⟨rfl,s,g⟩;have l:=I<|Zi q g;rcases o with⟨d,n⟩|⟨d,n⟩
  .rw[d];go_wp2_with fail;refine(ME _ _ 2 _ s<|by have:=m.ln;simp;omega).m ?_;rintro e z ⟨rfl,t,g⟩;have v:=I<|Zi l g;go_wp2;go_ret;exact⟨_,C,I<|Vu.put N n ⟨C,C⟩ t v⟩
  .generalize a.jy.headD 0=k0 at*;go_wp2;go_ret;exact⟨_,C,I<|Vu.no n l⟩
theorem F0(w:Y)(a:Ah)(c:Yb)(h:Qj w nb a c 4 arg a0 a1 a2 a3 n0 n1 n2 n3 e0 e1 e2 e3):
 CP 122 #[Vp nb,.agg #[.slice a0 n0 e0,.slice a1 n1 e1,.slice a2 n2 e2,.slice a3 n3 e3],.agg #[E (4:Nat),E arg]] w λe u=>∃ok,e=.returned (.bool ok)/\U (Vu w u nb a (Zr c (4,arg) a.jy a.jx) ok):=by
 have n:=I h;have G:=h.st.lt;go_enter func122,ntmps122;go_wp2_with fail;refine Zv λW D=>?_;have l:Below _ w W:=D▸Yc.alloc (Sm) _;have p:=I<|n.st.below l;have q:U<|w.grownBy W<|some nb:=I<|ZB l;refine(MG _ a W p n.ln).m ?_;rintro e H ⟨rfl,s,f⟩;have m:=I<|Zi q f;cases d:ZO<|a.jy.headD 0with
 |true=>
  have o:U<|Zr c (4,arg) a.jy a.jx=Z4 (a.jy.headD 0) {a with jy:=a.jy.tail}.jy {a with jy:=a.jy.tail}.jx:=by
   cases j:a.jy with
   |nil=>rw[j]at d;cases d
   |cons k r=>rw[j]at d;exact Ye d
  have t:a.jy.headD 0≠0:=by intro e;rw[e]at d;cases d
  have v:=I t;have g:=I λi=>by have:=OD (a.jy.headD 0) i;rwa [d]at this
  have x:=I λi h=>ME nb {a with jy:=a.jy.tail} (a.jy.headD 0) i h<|by have:=n.ln;simp;omega
  generalize a.jy.headD 0=k0 at*;go_wp2_with(go_at_call 162;refine YK (g.o _) ?_);refine(x _ s).m ?_;rintro e z ⟨rfl,A,f⟩;have B:=I<|Zi m f;go_wp2;go_ret;exact⟨_,C,I<|Vu.put v o ⟨C,C⟩ A B⟩
 |false=>
  have o:U<|Zr c (4,arg) a.jy a.jx=none:=by
   cases j:a.jy with
   |nil=>rfl
   |cons k r=>rw[j]at d;exact Yd<|by show¬ZO k=true;rw[show ZO k=false from d];simp
  have g:=I λi=>by have:=OD (a.jy.headD 0) i;rwa [d]at this
  generalize a.jy.headD 0=k0 at*;go_wp2_with(go_at_call 162;refine YK (g.o _) ?_);go_ret;exact⟨_,C,I<|Vu.no o m⟩
theorem F4(w:Y)(a:Ah)(c:Yb)(h:Qj w nb a c 9 arg a0 a1 a2 a3 n0 n1 n2 n3 e0 e1 e2 e3):
 CP 122 #[Vp nb,.agg #[.slice a0 n0 e0,.slice a1 n1 e1,.slice a2 n2 e2,.slice a3 n3 e3],.agg #[E (9:Nat),E arg]] w λe u=>∃ok,e=.returned (.bool ok)/\U (Vu w u nb a (Zr c (9,arg) a.jy a.jx) ok):=by
 have d:=I h;have g:=h.st.lt;go_enter func122,ntmps122;have f:U<|∀o1 o2,YW ((w.alloc o1).alloc o2) _ a:=I λo1 o2=>d.st.below<|Yc.alloc (Sm) _;go_wp2;go_ret;exact⟨_,C,I ⟨C,λst sl e=>by injection e with e;cases e;exact f _ _,Vh (Vh (Z2 _ _) _) _⟩⟩
theorem vV(w:Y)(a:Ah)(c:Yb)(h:Qj w nb a c 11 arg a0 a1 a2 a3 n0 n1 n2 n3 e0 e1 e2 e3):
 CP 122 #[Vp nb,.agg #[.slice a0 n0 e0,.slice a1 n1 e1,.slice a2 n2 e2,.slice a3 n3 e3],.agg #[E (11:Nat),E arg]] w λe u=>∃ok,e=.returned (.bool ok)/\U (Vu w u nb a (Zr c (11,arg) a.jy a.jx) ok):=by
 have g:=I h;have s:=h.st.lt;go_enter func122,ntmps122;go_wp2_with fail;refine Zv λW o=>?_;have d:Below _ w W:=o▸Yc.alloc (Sm) _;have i:=I<|g.st.below d;have j:U<|w.grownBy W<|some nb:=I<|ZB d;refine(MG _ a W i g.ln).m ?_;rintro e p ⟨rfl,l,m⟩;have f:=I<|Zi j m;have t:U<|Vu w p nb a (Zr c (11,arg) a.jy a.jx)<|decide<|a.jy.headD 0≠0:=by
  cases n:a.jy with
  |nil=>exact Vu.no C f
  |cons k r=>
   have q:=g.kd k<|by rw[n];simp
   refine⟨by show decide (k≠0)=true;simp[q],λst sl e=>?_,f⟩;injection e with e;cases e;have:=l.o;rw[n]at this;exact this
 generalize a.jy.headD 0=k0 at*;go_wp2;go_ret;exact⟨_,C,I<|by rwa [show(((k0:Nat):Int) !=0)=decide (k0≠0)from by rw[Uc,Vg,Qr];omega]⟩
theorem FY(w:Y)(a:Ah)(c:Yb)(h:Qj w nb a c 1 arg a0 a1 a2 a3 n0 n1 n2 n3 e0 e1 e2 e3):
 CP 122 #[Vp nb,.agg #[.slice a0 n0 e0,.slice a1 n1 e1,.slice a2 n2 e2,.slice a3 n3 e3],.agg #[E (1:Nat),E arg]] w λe u=>∃ok,e=.returned (.bool ok)/\U (Vu w u nb a (Zr c (1,arg) a.jy a.jx) ok):=by
 have l:=I h;have O:=h.st.lt;clear h;obtain⟨i,m⟩:=l.rf;obtain⟨xs,d,f,r⟩:=l.cv.ps;have q:arg<c.jw.length:=by simpa [Zy]using m
 have s:xs.length=c.jw.length:=by rw[<-f,Yz]
 have t:n1=xs.length:=by
  obtain⟨av,cp,e⟩:=Zd d;injection e
 subst t;obtain⟨g,cp,L⟩:=Zm d X;injection L with hg1 hg2 hg3;subst hg1;have o:arg<xs.length:=X;obtain⟨g0,g1,g2⟩:=DT _ _ o;have x0:=Zc d _ _ g0;have x1:=Zc d _ _ g1;have x2:=Zc d _ _ g2;have P:=ZN d;have M:U<|Zr c (1,arg) a.jy a.jx=Z4 (VF (xs[arg].nd,xs[arg].n)) a.jy a.jx:=by
  show Z4 ((c.jw[arg]?.map VF).getD 0) _ _=_;rw[<-f,Vs,List.getElem?_eq_getElem o];rfl
 generalize xs[arg]=x at*;have v:U<|VF (x.nd,x.n)≠0:=I<|by unfold VF;split<;>decide
 have Q:(arg:Int)<xs.length:=X;clear m d f r g0 g1 g2 s q hg2 hg3;go_enter func122,ntmps122;go_wp2_with fail;refine Zv λW A=>?_;have j:Below _ w W:=A▸Yc.alloc (Sm) _;have B:=I<|l.st.below j;have D:U<|w.grownBy W<|some nb:=I<|ZB j;clear A j x0 x1 x2;refine(oE x.nd W).m ?_;rintro e R ⟨rfl,k⟩;have G:=I<|B.below k;have H:=I<|Qy D k;clear k;generalize VF (x.nd,x.n)=kk at*;go_wp2_with fail;refine(ME _ a _ _ G l.ln).m ?_;rintro e z ⟨rfl,J,p⟩;have K:=I<|Zi H p;clear p;go_wp2;go_ret;exact⟨_,C,I<|Vu.put v M ⟨C,C⟩ J K⟩
theorem FZ(w:Y)(a:Ah)(c:Yb)(h:Qj w nb a c 3 arg a0 a1 a2 a3 n0 n1 n2 n3 e0 e1 e2 e3):
 CP 122 #[Vp nb,.agg #[.slice a0 n0 e0,.slice a1 n1 e1,.slice a2 n2 e2,.slice a3 n3 e3],.agg #[E (3:Nat),E arg]] w λe u=>∃ok,e=.returned (.bool ok)/\U (Vu w u nb a (Zr c (3,arg) a.jy a.jx) ok):=by
 have H:=I h;have a7:=h.st.lt;clear h;go_enter func122,ntmps122;go_wp2_with fail;refine Zv λW Q=>?_;have q:Below _ w W:=Q▸Yc.alloc (Sm) _;have R:=I<|H.st.below q;have S:U<|w.grownBy W<|some nb:=I<|ZB q;clear Q q;obtain⟨y,f⟩:∃y,y=a.jy.headD 0:=⟨_,C⟩;obtain⟨x,g⟩:∃x,x=a.jy.tail.headD 0:=⟨_,C⟩;have l:=MG _ a W R H.ln;rw[<-f]at l;refine l.m ?_;clear l;rintro e w1 ⟨rfl,L,i⟩;have T:=I<|Zi S i;have V:=I f;have M:=I g;clear i f g;go_wp2_with fail;have g:=M.o;have f:=V.o;have l:=MG _ _ _ L<|by have:=H.ln;simp;omega
 rw[g.symm]at l;refine l.m ?_;clear l;rintro e z ⟨rfl,s,i⟩;have t:=I<|Zi T i;clear i;have Z:U<|YW _ _ {a with jy:=a.jy.tail.tail}:=I s;have v:U<|(ZO x&&ZO y)=false->Zr c (3,arg) a.jy a.jx=none:=I λhp=>by
  cases A:a.jy with
  |nil=>rfl
  |cons k r=>
   cases J:r with
   |nil=>rfl
   |cons k2 r2=>
    rw[A,J]at g f;have g:x=k2:=g;have f:y=k:=f;rw[g,f]at hp;show(if(ZO k2&&ZO k)=true then _ else none)=none;rw[hp];rfl
 have B:U<|ZO x=true->ZO y=true->Zr c (3,arg) a.jy a.jx=Z4 (max x y) {a with jy:=a.jy.tail.tail}.jy {a with jy:=a.jy.tail.tail}.jx:=I λo p=>by
  cases A:a.jy with
  |nil=>rw[A]at f;rw[f]at p;cases p
  |cons k r=>
   cases J:r with
   |nil=>rw[A,J]at g;rw[g]at o;cases o
   |cons k2 r2=>
    rw[A,J]at g f;have g:x=k2:=g;have f:y=k:=f;rw[g]at o⊢;rw[f]at p⊢;show(if(ZO k2&&ZO k)=true then _ else none)=_;rw[o,p];rfl
 clear g f L s M V;cases d:ZO x with
 |false=>
  have D:=I<|v<|by rw[d];rfl
  have n:=I λm=>by have:=OD x m;rwa [d]at this
  clear d;go_wp2_with(go_at_call 162;refine(n.o _).m ?_;rintro e K ⟨rfl,rfl⟩);go_ret;exact⟨_,C,I<|Vu.no D t⟩
 |true=>
  cases j:ZO y with
  |false=>
   have D:=I<|v<|by rw[d,j];rfl
   have n:=I λm=>by have:=OD x m;rwa [d]at this
   have G:=I λm=>by have:=OD y m;rwa [j]at this
   clear d j;go_wp2_with fail;refine(n _).m ?_;rintro e K ⟨rfl,rfl⟩;go_wp2_with fail;refine(G _).m ?_;rintro e K ⟨rfl,rfl⟩;go_wp2;go_ret;exact⟨_,C,I<|Vu.no D t⟩
  |true=>
   have D:=I<|B d j;have n:=I λm=>by have:=OD x m;rwa [d]at this
   have G:=I λm=>by have:=OD y m;rwa [j]at this
   have O:x=1\/x=2:=by unfold ZO at d;simpa using d
   have P:y=1\/y=2:=by unfold ZO at j;simpa using j
   have a4:U<|max x y≠0:=I X;clear d j v B;go_wp2_with fail;refine(n _).m ?_;rintro e K ⟨rfl,rfl⟩;go_wp2_with fail;refine(G _).m ?_;rintro e K ⟨rfl,rfl⟩;rcases O with rfl|rfl<;>rcases P with rfl|rfl;all_goals
    go_wp2_with fail;refine(ME _ _ _ _ Z<|by have:=H.ln;simp;omega).m ?_;rintro e w3 ⟨rfl,a5,i⟩;have a6:=I<|Zi t i;clear i;go_wp2;go_ret;exact⟨_,C,I<|Vu.put a4 D ⟨C,C⟩ a5 a6⟩
theorem vX(w:Y)(a:Ah)(c:Yb)(h:Qj w nb a c 13 arg a0 a1 a2 a3 n0 n1 n2 n3 e0 e1 e2 e3):
 CP 122 #[Vp nb,.agg #[.slice a0 n0 e0,.slice a1 n1 e1,.slice a2 n2 e2,.slice a3 n3 e3],.agg #[E (13:Nat),E arg]] w λe u=>∃ok,e=.returned (.bool ok)/\U (Vu w u nb a (Zr c (13,arg) a.jy a.jx) ok):=by
 have q:=I h;have D:=h.st.lt;obtain⟨i,f⟩:=h.rf;have m:arg<16:=by simpa [Zy]using f
 have G:(arg:Int)<16:=X;clear h f;go_enter func122,ntmps122;go_upto_region 26 with fail;refine Zs λW n=>?_;have d:Below _ w W:=n▸Yc.alloc (Sm) _;have g:=I<|q.st.below d;have r:U<|w.grownBy W<|some nb:=I<|ZB d;have s:U<|Ya W (w.heap.size+1) [E (13:Nat),E arg] 137:=by
  rw[n];have:=Go.Deep.blk_alloc_new (w.alloc<|.cells #[.slice a0 n0 e0,.slice a1 n1 e1,.slice a2 n2 e2,.slice a3 n3 e3] 80)<|.cells #[E (13:Nat),E arg] 137;rwa [Go.Deep.nblk_alloc]at this
 clear n d;have o1:=s.cell;have s1:=YW.slot g _ m;obtain⟨k,o⟩:∃k,k=a.jx.getD arg 0:=⟨_,C⟩;rw[<-o]at s1;have t:=I o;have v:=I λA h=>ME nb a k A h q.ln;have x:U<|YW _ _ a:=I<|g.below<|(Ym _ _).drew;clear o;go_region_with (first
  | (go_at_call 159;refine(v.o _ x.o).m ?_;rintro e B ⟨rfl,z,j⟩;have l:U<|w.grownBy B<|some nb:=I<|Zi (TU r.o) j;clear j));all_goals
  go_wp2;go_ret;refine⟨_,C,I ?_⟩;by_cases p:k=0
  .subst p;rw[il];refine Vu.no ?_ l;show(if a.jx.getD arg 0=0 then none else _)=none;rw[<-t];rfl
  .refine Vu.put p ?_ ⟨C,C⟩ z l;show(if a.jx.getD arg 0=0 then none else Z4 (a.jx.getD arg 0) a.jy a.jx)=_;rw[<-t,Yd p]
theorem vW(w:Y)(a:Ah)(c:Yb)(h:Qj w nb a c 12 arg a0 a1 a2 a3 n0 n1 n2 n3 e0 e1 e2 e3):
 CP 122 #[Vp nb,.agg #[.slice a0 n0 e0,.slice a1 n1 e1,.slice a2 n2 e2,.slice a3 n3 e3],.agg #[E (12:Nat),E arg]] w λe u=>∃ok,e=.returned (.bool ok)/\U (Vu w u nb a (Zr c (12,arg) a.jy a.jx) ok):=by
 have p:=I h;have R:=h.st.lt;obtain⟨i,q⟩:=h.rf;have l:arg<16:=by simpa [Zy]using q
 have S:(arg:Int)<16:=X;clear h q;go_enter func122,ntmps122;go_upto_region 23 with fail;refine Zs λW z=>?_;have m:Below _ w W:=z▸Yc.alloc (Sm) _;have B:=I<|p.st.below m;have D:U<|w.grownBy W<|some nb:=I<|ZB m;have n:U<|Ya W (w.heap.size+1) [E (12:Nat),E arg] 137:=by
  rw[z];have:=Go.Deep.blk_alloc_new (w.alloc<|.cells #[.slice a0 n0 e0,.slice a1 n1 e1,.slice a2 n2 e2,.slice a3 n3 e3] 80)<|.cells #[E (12:Nat),E arg] 137;rwa [Go.Deep.nblk_alloc]at this
 clear z m;have o1:=n.cell;obtain⟨y,d⟩:∃y,y=a.jy.headD 0:=⟨_,C⟩;have M:=I d;have s:U<|∀f,YW f _ a->Calls _ _ _ _ λe u=>e=.returned _/\U _/\f.grownBy _ _:=I λf h=>d▸MG nb a f h p.ln;have t:U<|YW _ _ a:=I<|B.below<|(Ym _ _).drew;clear d;have T:¬nb=w.heap.size+1:=X;have O:¬w.heap.size+1=nb:=X;go_region_with (first
  | (go_at_call 161;refine(s.o _ t.o).m ?_;rintro e G ⟨rfl,g,o⟩;have H:U<|w.grownBy G<|some nb:=I<|Zi (TU D.o) o;have v:=I<|(n.below<|(Ym _ _).drew).grown o<|by intro e;injection e with e;omega
     have p1:=v.cell;have s5:=YW.slot g.o arg l;have fz5:=g.frozen<|67+arg;clear o));all_goals
  have J:U<|∀f:Y,(∀j,f.heap[j]?=(G.setCell _ _).heap[j]?)->w.grownBy f _->Vu w f nb a (Zr c (12,arg) a.jy _) (((y):Int) !=0):=I λf P K=>by
   have x:YW _ _ {a with jy:=a.jy.tail,jx:=a.jx.set _ y}:=(P _).trans<|by
    have L:=g.setk (67+arg)<|.int .u8<|y;rw[GJ {a with jy:=a.jy.tail} _ y l p.sl]at L;exact L
   rw[show(((y):Int) !=0)=decide (y≠0)from by rw[Uc,Vg,Qr];omega];have d:=M.o;cases A:a.jy with
   |nil=>rw[A]at d;subst d;exact Vu.no C K
   |cons k r=>
    rw[A]at d x;have d:y=k:=d;subst d;have Q:=p.kd y<|by rw[A];simp
    refine⟨by show decide (y≠0)=true;simp[Q],λst sl e=>?_,K⟩;injection e with e;injection e with e1 e2;subst e1;subst e2;exact x
  clear s t n v g;go_wp2;go_region;all_goals
   go_wp2;go_ret;exact⟨_,C,I<|J _ (λ_=>C)<|TU<|Zn H (.inl C) _⟩
theorem iL(w:Y)(a:Ah)(c:Yb)(n3:Nat)(h:Qj w nb a c op arg a0 a1 a2 a3 n0 n1 n2 n3 e0 e1 e2 e3)(d:op<=13):
 CP 122 #[Vp nb,.agg #[.slice a0 n0 e0,.slice a1 n1 e1,.slice a2 n2 e2,.slice a3 n3 e3],.agg #[E op,E arg]] w λe u=>∃ok,e=.returned (.bool ok)/\U (Vu w u nb a (Zr c (op,arg) a.jy a.jx) ok):=by
 rcases(X:op=0\/op=1\/op=2\/op=3\/op=4\/op=5\/op=6\/op=7\/op=8\/op=9\/op=10\/op=11\/op=12\/op=13)with rfl|rfl|rfl|rfl|rfl|rfl|rfl|rfl|rfl|rfl|rfl|rfl|rfl|rfl
 .exact FX w a c h
 .exact FY w a c h
 .exact Mn w a c h<|.inl ⟨⟨C,C⟩,C⟩
 .exact FZ w a c h
 .exact F0 w a c h
 .exact Mn w a c h<|.inr ⟨⟨C,C⟩,N⟩
 .exact Mn w a c h<|.inr ⟨⟨C,C⟩,N⟩
 .exact Mn w a c h<|.inr ⟨⟨C,C⟩,N⟩
 .exact Mn w a c h<|.inr ⟨⟨C,C⟩,N⟩
 .exact F4 w a c h
 .exact Mn w a c h<|.inr ⟨⟨C,C⟩,N⟩
 .exact vV w a c h
 .exact vW w a c h
 .exact vX w a c h
def YT(l:List Ah):List F:=(List.range<|83*l.length).map λt=>Ta (l.getD (t/83) Ys)<|t%83
theorem MF(l:List Ah):(YT l).length=83*l.length:=by simp[YT]
theorem LU(l:List Ah)(i j:Nat)(a:i<l.length)(c:j<83):(YT l)[i*83+j]?=some (Ta (l.getD i Ys) j):=by
 unfold YT;rw[Vs,J4 X];simp only[Wr];rw[show(i*83+j)/83=i by omega,show(i*83+j)%83=j by omega]
theorem GK(l:List Ah)(t:Nat)(a:t<83*l.length):(YT l)[t]?=some (Ta (l.getD (t/83) Ys)<|t%83):=by
 unfold YT;simp_all
theorem Nt(l:List Ah)(i:Nat)(c:i<l.length):(l.set i a).getD i Ys=a:=by
 simp_all
theorem getD_set_ne(l:List Ah)(i j:Nat)(a:Ah)(h:i≠j):(l.set i a).getD j Ys=l.getD j Ys:=by
 simp_all
theorem GL(d:c.length=83*l.length)(h:∀t,t<83*l.length->c[t]?=some (Ta (l.getD (t/83) Ys)<|t%83)):c=YT l:=by
 apply PB;intro t;by_cases a:t<83*l.length
 .rw[h t a,GK l t a]
 .rw[Rh X,Rh<|by rw[MF];omega]
theorem JO{j:Nat}{a2:Ah}(a:i<l.length)(f:j<83)(h:(Xn<|l.getD i Ys).set j v=Xn a2):(YT l).set (i*83+j) v=YT (l.set i a2):=by
 refine GL (by simp[MF]) λt c=>?_;rw[Qv]at c;have d:∀k,k<83->((Xn _).set j v)[k]?=some _:=λk g=>by rw[h,Tx _ k g]
 rw[Sc];by_cases e:i*83+j=t
 .subst e;rw[Ye C,Ye<|by rwa [MF],show(i*83+j)/83=i by omega,show(i*83+j)%83=j by omega,Nt l i a];have:=d j f;rw[List.getElem?_set_self<|by assumption]at this;omega
 .rw[Yd e,GK l t c];by_cases ei:i=t/83
  .rw[<-ei,Nt l i a];have:=d (t%83) X;rw[List.getElem?_set_ne X,Tx _ _ X]at this;omega
  simp_all
def OT:List F->Nat->List F->List F
 |c,_,[]=>c
 |c,o,v::r=>OT (c.set o v) (o+1) r
theorem A4(vs:List F):∀(c:List F)(o t:Nat),o+vs.length<=c.length->(OT c o vs)[t]?=if o<=t/\t<o+vs.length then vs[t-o]? else c[t]?:=by
 induction vs with
 |nil=>intro c o t h;rw[Yd<|Sm];rfl
 |cons v r ih=>
  intro c o t h;rw[Y1]at h;show(OT (c.set o v) (o+1) r)[t]?=_;rw[ih _ _ _<|by simp_all;omega];by_cases a:o+1<=t/\t<o+1+r.length
  .rw[Ye a,Ye<|by simp_all;omega,show t-o=(t-(o+1))+1 by omega,J7]
  .rw[Yd a,Sc];by_cases d:o=t
   .simp_all;omega
   simp_all;omega
theorem A5(vs:List F):∀(c:List F)(o:Nat),(OT c o vs).length=c.length:=by
 induction vs with
 |nil=>intro c o;rfl
 |cons v r ih=>intro c o;show(OT (c.set o v) (o+1) r).length=_;simp_all
theorem fj{a2:Ah}(c:i<l.length):OT (YT l) (i*83) (Xn a2)=YT (l.set i a2):=by
 refine GL (by rw[A5];simp[MF]) λt a=>?_;rw[Qv]at a;rw[A4 _ _ _ _<|by rw[Ux,MF];omega,Ux];by_cases e:i*83<=t/\t<i*83+83
 .rw[Ye e,show t/83=i by omega,Nt l i c,Tx _ _ X,show t-i*83=t%83 by omega]
 .rw[Yd e,GK l t a,getD_set_ne l i _ _ X]
theorem Ya.setCells{g:Nat}{t:TypeId}:∀(vs:List F){w:Y}{c:List F}(o:Nat),Ya w g c t->Ya (w.setCells g o vs) g (OT c o vs) t
 |[],_,_,_,h=>h
 |v::r,w,c,o,h=>by
  rw[World.setCells];exact Ya.setCells r _<|h.setk o v
theorem DK{g:Nat}:∀(vs:List F){w0 w:Y}(o:Nat),w0.grownBy w (some g)->w0.grownBy (w.setCells g o vs) (some g)
 |[],_,_,_,h=>h
 |v::r,w0,w,o,h=>by
  rw[World.setCells];exact DK r _<|Zn h (.inl C) _
theorem Ya.range {t:TypeId}(h:Ya w g c t)(o:Nat)(cs:List F)(d:∀j,j<cs.length->c[o+j]?=cs[j]?):w.rangeAt g o cs:=λj v a=>by
 have e:=(Og.1 a).1;rw[h.cell _,d j e,a]
theorem Ya.there {t:TypeId}(h:Ya w g c t)(o n:Nat)(a:o+n<=c.length):w.there g o n:=λj d=>by
 refine⟨?_,h.frozen _⟩;rw[h.cell _,List.getElem?_eq_getElem X];rfl
def VO(a:Ah):List F:=(List.range 64).map λj=>.int .u8 ((a.jy.reverse.getD j 0:Nat):Int)
theorem MH(a:Ah):(VO a).length=64:=by rfl
theorem JP(a:Ah)(j:Nat)(c:j<64):(VO a)[j]?=some (.int .u8 ((a.jy.reverse.getD j 0:Nat):Int)):=by
 unfold VO;simp_all
theorem fo{x:List Nat}(c:x.length<=64)(d:y.length<=64)(kx:∀k∈x,k≠0)(ky:∀k∈y,k≠0)(h:∀j,j<64->x.getD j 0=y.getD j 0):x=y:=by
 have a:∀(x y:List _),x.length<=64->y.length<=64->(∀k∈y,k≠0)->(∀j,j<64->x.getD j 0=y.getD j 0)->¬x.length<y.length:=λx y c d ky h e=>by
  have:=h x.length X;rw[Y0,Rh<|Yj _,Y0,List.getElem?_eq_getElem e]at this;exact ky _ (List.getElem_mem _) this.symm
 have f:x.length=y.length:=by
  have g:=a x y c d ky h;have i:=a y x d c kx λj l=>(h j l).symm;omega
 refine List.ext_getElem f λj g i=>?_;have:=h j X;simp_all
theorem fy{b:Ah}(d:a.jy.length<=64)(e:b.jy.length<=64)(kx:∀k∈a.jy,k≠0)(ky:∀k∈b.jy,k≠0):(∀j,j<64->a.jy.reverse.getD j 0=b.jy.reverse.getD j 0)↔a.jy=b.jy:=by
 constructor
 .intro h;have:=fo (by simp_all) (by simp_all) (λk c=>kx k<|by simp_all) (λk c=>ky k<|by simp_all) h;simp_all
 simp_all
theorem BN{X:Array F}(i:Nat)(a:X[i]?=some v)(w:Y):(part 290 X<|i*1).run prog w=.ok v w:=by
 have c:prog.underlying 290=some _:=underlying290;unfold part;simp_all
theorem BM (a b:Ah)(d:Nat)(w:Y):∀is:List Nat,(∀i∈is,i<64)->(Op.eqItems (d+1) 290 1 (VO a).toArray (VO b).toArray is).run prog w=.ok (is.all λi=>a.jy.reverse.getD i 0==b.jy.reverse.getD i 0) w
 |[],_=>C
 |i::is,h=>by
  have c:=h i<|Sm;have ih:=BM a b d w is λj f=>h j<|by simp[f]
  have g:prog.underlying 290=some _:=underlying290;simp only[Op.eqItems,KA];rw[BN i<|Ie▸JP a i c];simp only[Ko];rw[BN i<|Ie▸JP b i c];simp only[Ko];rw[run_equalIn_int w d _ _ _ _ _ g];simp only[Ko,Il];by_cases e:a.jy.reverse.getD i 0=b.jy.reverse.getD i 0
  .simp_all
  · have e1:((((a.jy.reverse.getD i 0)))==(((b.jy.reverse.getD i 0):Int)))=false:=by rw[YB];omega
    simp_all
structure X4 (a:Ah):Prop where
 ln:a.jy.length<=64
 kd:∀k∈a.jy,k≠0
 sl:a.jx.length=16
theorem Tryz.infoSt:(Tryz.prog.info? 294).map (·.size)=some 83:=Kr
theorem Tryz.infoSk:(Tryz.prog.info? 291).map (·.size)=some 64:=Kr
theorem Tryz.infoKd:(Tryz.prog.info? 290).isSome=true:=Kr
theorem eC(a:Ah):(Xn a).set 1 (.bool true)=Xn {a with kw:=true}:=by
 refine LR (by simp[Ux]) λi f=>?_;rw[Sc];by_cases d:1=i
 .subst d;rw[Ye C,Ye<|by simp[Ux]];rfl
 .have c:¬i=1:=λe=>d e.symm;rw[Yd d,Tx a i f];unfold Ta;rw[Yd c,Yd c]
def WV(x y:List Nat)(k:Nat):List Nat:=(Xx x y).take k++x.drop k
theorem Mk{x:List Nat}(a:x.length=16)(c:y.length=16):(Xx x y).length=16:=by simp[Xx,a,c]
theorem KO{x:List Nat}(a:x.length=16)(c:y.length=16)(k:Nat)(d:k<=16):(WV x y k).length=16:=by
 unfold WV;rw[Yx,Xw,Ur,Mk a c,a];omega
theorem CG(x y:List Nat):WV x y 0=x:=by simp[WV]
theorem CC{x:List Nat}(a:x.length=16)(c:y.length=16):WV x y 16=Xx x y:=by
 unfold WV;rw[Wm<|Mk a c▸Yj _,Ts X,Ud]
theorem Fx{x:List Nat}(a:x.length=16)(c:y.length=16)(k:Nat)(d:k<16):(WV x y k).getD k 0=x.getD k 0:=by
 unfold WV;rw[Y0,Rg<|by rw[Xw,Mk a c];omega,Xw,Mk a c,Kj,Y0];congr 2;omega
theorem CF{x:List Nat}(a:x.length=16)(c:y.length=16)(k:Nat)(f:k<16):WV x y (k+1)=(WV x y k).set k (if x.getD k 0=y.getD k 0 then x.getD k 0 else 0):=by
 have d:=Mk a c;have e:(Xx x y)[k]' X=if x.getD k 0=y.getD k 0 then x.getD k 0 else 0:=by
  unfold Xx;rw[List.getElem_zipWith];simp[Y0,List.getElem?_eq_getElem<|show k<x.length by omega,List.getElem?_eq_getElem<|show k<y.length by omega]
 unfold WV;rw[List.take_succ_eq_append_getElem X,e,Ve _ _<|by rw[Xw];omega,Xw,d,show k-min k _=0 by omega,Vd];congr 1;rw[List.drop_eq_getElem_cons<|show k<x.length by omega];rfl
theorem CE{x:List Nat}(a:x.length=16)(c:y.length=16)(k:Nat)(d:k<16)(h:x.getD k 0=y.getD k 0):WV x y (k+1)=WV x y k:=by
 rw[CF a c k d,Ye h,<-Fx a c k d];apply PB;intro j;rw[Sc];by_cases e:k=j
 .subst e;rw[Ye C,Ye<|KO a c k X▸d,Y0,List.getElem?_eq_getElem<|by rwa [KO a c k X]];rfl
 .rw[Yd e]
theorem CD{x:List Nat}(a:x.length=16)(c:y.length=16)(k:Nat)(d:k<16)(h:x.getD k 0≠y.getD k 0):WV x y (k+1)=(WV x y k).set k 0:=by
 rw[CF a c k d,Yd h]
theorem JL(l:List Ah)(b:Ah)(t:i<l.length)(hg:Ya w g (YT l) 294)(ha:X4<|l.getD i Ys)(hb:X4 b)(hk:b.kj=true)(hc:b.kw=false):
 CP 124 #[.pointer<|some ⟨g,i*83,none⟩,.agg (Xn b).toArray] w λe u=>e=.returned (.tuple #[])/\U (Ya u g (YT<|l.set i<|ZZ (l.getD i Ys) b.jy b.jx) 294)/\w.grownBy u (some g):=by
 obtain⟨a,a1⟩:∃a,a=l.getD i Ys:=⟨_,C⟩;rw[<-a1]at ha⊢;obtain⟨o,ho⟩:∃o,o=i*83:=⟨_,C⟩;rw[<-ho];have z:=I ho;have HA:=I ha;have HB:=I hb;have HG:=I hg;have d2:=hg.lt;have J:=I a1;have cells:∀(W:Y)(l':List Ah),l'.length=l.length->Ya W g (YT l') 294->∀j,j<83->W.cell? ⟨g,o+j,none⟩=some (Ta (l'.getD i Ys) j):=λW l' H q j v=>by
  rw[q.cell,z.o,LU l' i j X v]
 have L:=I cells;clear ha hb hg a1 ho cells;go_enter func124,ntmps124;go_upto_region 1 with fail;refine Zs λW hW=>?_;have a2:Below _ w W:=hW▸Yc;have r:=I<|HG.below a2;have HW:U<|w.grownBy W<|some g:=I<|ZB a2;have Z:U<|Ya W _ _ 294:=hW▸YO;clear hW a2 HG;have c0:W.cell? ⟨g,o,none⟩=some (.bool a.kj):=by
  have:=L W l C r 0 N;rw[<-J]at this;exact this
 have a3:¬w.heap.size=g:=X;cases M:a.kj with
 |false=>
  rw[M]at c0;have HL:=I<|Z.range 0 _ λj _=>by rw[SI]
  have b9:U<|W.there g o (Xn b).toArray.size:=I<|r.there o _<|by rw[Oj,Ux,MF,z];omega
  have c2:U ((prog.info? 294).map (·.size)=some (Xn b).length):=by rw[Ux];exact Tryz.infoSt
  have c3:U ((prog.info? 294).map (·.size)=some (Xn b).toArray.size):=by rwa [Oj,Ux]
  have c4:=I<|all_oneCell_toArray<|za b;have HF:U<|Ya (W.setCells g o<|Xn b) g (YT<|l.set i<|ZZ a b.jy b.jx) 294:=by
   have H:=Ya.setCells (Xn b) o r;rw[z,fj t]at H;rw[z];have q:ZZ a b.jy b.jx=b:=by
    unfold ZZ;rw[M];cases b with
    |mk k c st sl=>simp only at hk hc;subst hk;subst hc;rfl
   rw[q];exact H
  have c5:=I<|DK (Xn b) o HW;clear L;go_wp2_with(first
   |refine wpList_load_mid C 294 (.tmp 3) C w.heap.size 0 C (Xn b) _ HL.o underlying294 C c2.o ?_
   |refine wpList_store_mid C 294 (.tmp 12) (.tmp 11) C g o (Xn b).toArray C C b9.o c3.o c4.o ?_);exact YQ (Tq C _ _ _) C ⟨C,HF,c5⟩
 |true=>
  rw[M]at c0;have c6:=underlying291;have a8:(prog.info? 291).map (·.size)=some (VO a).length:=by rw[MH];exact Tryz.infoSk
  have a9:(prog.info? 291).map (·.size)=some (VO b).length:=by rwa [MH]
  have c7:=MH a;have c8:=MH b;have b0:=r.range (o+3) _ λj v=>by
   rw[MH]at v;rw[JP a j v,z,show i*83+3+j=i*83+(3+j)by omega,LU l i _ t X,<-J];have:=GI a j v;rw[Tx a _ X]at this;exact this
  have b1:=Z.range 3 _ λj v=>by
   rw[MH]at v;rw[JP b j v,GI b j v]
  have d3:prog.eqGuardType prog.depth 291=false:=Kr;have a0:U<|∀f:Y,(binOp .neq 291 (.agg (VO a).toArray)<|.agg (VO b).toArray).run prog f=.ok (.bool<|decide<|a.jy≠b.jy) f:=I (λf=>by
   obtain⟨i9,c9⟩:=MV.1 Tryz.infoKd;rw[run_neq_struct,run_equalIn_array f 9999 _ _ underlying291 c9,show prog.cellsOf 290=1 by kernel_rfl,BM a b 9998 f _ λi t=>RX.1 t];simp only[Ko];congr 2;have H:((List.range 64).all λi=>a.jy.reverse.getD i 0==b.jy.reverse.getD i 0)=decide (a.jy=b.jy):=by
    rw[Uc,Tt,Qr,<-fy HA.ln HB.ln HA.kd HB.kd];constructor
    .intro h j v;simpa using h j<|RX.2 v
    .intro h j v;simpa using h j<|RX.1 v
   rw[H];simp);have m:=I HB.sl;have n:=I HA.sl;have d0:U<|l.set i a=l:=by
   apply PB;intro j;rw[Sc];by_cases e:i=j
   .subst e;rw[Ye C,Ye t,J,Y0,List.getElem?_eq_getElem t];rfl
   .rw[Yd e]
  have d4:=r.lt;have ff:=λj=>r.frozen j;have c1:W.cell? ⟨g,o+1,none⟩=some (.bool a.kw):=by
   have:=L W l C r 1 N;rw[<-J]at this;exact this
  obtain⟨cl,O⟩:∃cl,cl=(a.kw||decide (a.jy≠b.jy)):=⟨_,C⟩;have b2:U<|ZZ a b.jy b.jx=⟨true,cl,a.jy,Xx a.jx b.jx⟩:=by unfold ZZ;rw[M,O];rfl
  have b3:U<|a=⟨true,a.kw,a.jy,a.jx⟩:=I<|by rw[<-M]
  have b4:=I b0;have b5:=I b1;have b6:=I a8;have b7:=I a9;clear b0 b1 a8 a9 c7 c8 c6;by_cases G:a.jy=b.jy
  .have b8:∀f:Y,(binOp .neq 291 (.agg (VO a).toArray)<|.agg (VO b).toArray).run prog f=.ok (.bool false) f:=λf=>by rw[a0.o f];simp[G]
   have a4:U<|cl=a.kw:=I<|by rw[O];simp[G]
   have P:U<|Ya W.drew g (YT<|l.set i ⟨true,cl,a.jy,WV a.jx b.jx 0⟩) 294:=by
    rw[CG,a4,<-b3,d0];exact r.below<|(Ym _ _).drew
   have Q:=I<|Z.below<|(Ym _ _).drew;have R:=I<|TU HW;clear O G a0;go_upto_region 3 with fail;refine ZW 6 (λu=>u.rangeAt g _ _/\u.rangeAt _ 3 _) Kr ⟨by simpa using b4.o,by simpa using b5.o⟩ λd=>?_;refine Za 0 d (h:=Za 1 d (h:=Za 2 d (h:=?_)));refine Tj (i:=3) C C Kr (λ_ _ _ h=>h) (yieldsIf_load_mid (by rfl) _ _ C g _ C _ _ (λw S=>S.1) underlying291 C b6) d ?rsp3;case rsp3=>
   try simp only[Yt]
   refine Za 4 d (h:=?_);refine Tj (i:=5) C C Kr (λ_ _ _ h=>h) (yieldsIf_load_mid (by rfl) _ _ C _ 3 C _ _ (λw S=>S.2) underlying291 C b7) d ?rsp5;case rsp5=>
   try simp only[Yt]
   refine ZS Kr Kr C Kr λK hK=>?_;go_simp;refine hK _ _ ?_;clear hK K d;go_wp2;go_loopw [23] (λiv wr=>∃k:Nat,k<=16/\iv=E k/\U (Ya wr g (YT<|l.set i ⟨true,cl,a.jy,WV a.jx b.jx k⟩) 294)/\U (Ya wr w.heap.size (Xn b) 294)/\U (w.grownBy wr<|some g))
    (λiv _=>16-(intOf iv).toNat);case atStart=>exact⟨0,Yr _,C,P,Q,R⟩
   case round=>
    obtain⟨k,hk,rfl,s,A,B⟩:=hrel;clear P Q R;by_cases p:k<16
    .have d1:(k:Int)<16:=X;have s1:wr.cell? ⟨g,o+67+k,none⟩=some (.int .u8<|(a.jx.getD k 0)):=by
      have:=L _ _ (Sm) s (67+k) X;rw[Nt l i t]at this;rw[show o+67+k=o+(67+k)by omega,this];have q:=GH ⟨true,cl,a.jy,WV a.jx b.jx k⟩ k p;rw[Tx _ _ X]at q;rw[q,show(⟨true,cl,a.jy,WV _ _ k⟩:Ah).jx=WV _ _ k from C,Fx n m k p]
     have s2:=YW.slot A k p;have fz:=s.frozen<|o+67+k;by_cases D:a.jx.getD k 0=b.jx.getD k 0
     .have T:=I<|CE n m k p D;have a5:((((a.jx.getD k 0))) !=(((b.jx.getD k 0):Int)))=false:=by rw[D];simp
      generalize a.jx.getD k 0=x at*;generalize b.jx.getD k 0=y at*;clear D;go_wp2;go_region;all_goals
       go_wp2;go_roundw;case rel=>exact⟨k+1,X,by go_num,I<|T.o▸s.below ((Ym _ _).drew),I<|A.below<|(Ym _ _).drew,I<|TU B⟩
       case measure=>simp[intOf];omega
     .have T:=I<|CD n m k p D;have a5:((((a.jx.getD k 0))) !=(((b.jx.getD k 0):Int)))=true:=by rw[Vg];omega
      have a6:U<|∀f:Y,(∀j,f.heap[j]?=wr.heap[j]?)->Ya (f.setCell ⟨g,o+67+k,none⟩ _) g _ _:=I λf a7=>by
       have H:Ya _ g _ _:=(a7 g).trans s;have q:=H.setk (o+67+k)<|.int .u8 0;have V:(YT _).set (i*83+(67+k)) (.int .u8 0)=YT ((l.set i ⟨true,cl,a.jy,WV a.jx b.jx k⟩).set i ⟨true,cl,a.jy,WV a.jx b.jx<|k+1⟩):=
        JO (by simpa using t) X<|Nt l i t▸T.o▸GJ ⟨true,cl,a.jy,WV a.jx b.jx k⟩ k 0 p (KO n.o m.o k X);rw[List.set_set]at V;rw[show o+67+k=i*83+(67+k)by rw[z];omega,V]at q;rw[show o+67+k=i*83+(67+k)by rw[z];omega];exact q
      generalize a.jx.getD k 0=x at*;generalize b.jx.getD k 0=y at*;clear D;go_wp2;go_region;all_goals
       go_wp2;go_roundw;case rel=>exact⟨k+1,X,by go_num,I<|a6 _ λ_=>C,I<|(A.below<|(Ym _ _).drew).other a3 _,I<|Zn (TU B) (.inl C) _⟩
       case measure=>simp[intOf];omega
    .obtain rfl:k=16:=X;have HF:U<|Ya wr g (YT<|l.set i<|ZZ a b.jy b.jx) 294:=by rwa [b2.o,<-CC n.o m.o]
     go_wp2;go_end0;exact⟨C,HF,B⟩
  .have b8:∀f:Y,(binOp .neq 291 (.agg (VO a).toArray)<|.agg (VO b).toArray).run prog f=.ok (.bool true) f:=λf=>by rw[a0.o f];simp[G]
   have a4:U<|cl=true:=I<|by rw[O];simp[G]
   have P:U<|Ya (W.drew.setCell ⟨g,o+1,none⟩<|.bool true) g (YT<|l.set i ⟨true,cl,a.jy,WV a.jx b.jx 0⟩) 294:=by
    have q:=(r.below<|(Ym _ _).drew).setk (o+1)<|.bool true;have V:(YT l).set (i*83+1) (.bool true)=YT (l.set i {a with kw:=true}):=JO t N<|J.o▸eC a;rw[show o+1=i*83+1 by rw[z],V]at q;rw[CG,a4,show o+1=i*83+1 by rw[z]];rw[b3]at q;exact q
   have Q:U<|Ya (W.drew.setCell ⟨g,o+1,none⟩<|.bool true) _ _ _:=I<|(Z.below<|(Ym _ _).drew).other a3 _;have R:U<|w.grownBy (W.drew.setCell ⟨g,o+1,none⟩<|.bool true) _:=I<|Zn (TU HW) (.inl C) _;clear O G a0;go_upto_region 3 with fail;refine ZW 6 (λu=>u.rangeAt g _ _/\u.rangeAt _ 3 _) Kr ⟨by simpa using b4.o,by simpa using b5.o⟩ λd=>?_;refine Za 0 d (h:=Za 1 d (h:=Za 2 d (h:=?_)));refine Tj (i:=3) C C Kr (λ_ _ _ h=>h) (yieldsIf_load_mid (by rfl) _ _ C g _ C _ _ (λw S=>S.1) underlying291 C b6) d ?rsq3;case rsq3=>
   try simp only[Yt]
   refine Za 4 d (h:=?_);refine Tj (i:=5) C C Kr (λ_ _ _ h=>h) (yieldsIf_load_mid (by rfl) _ _ C _ 3 C _ _ (λw S=>S.2) underlying291 C b7) d ?rsq5;case rsq5=>
   try simp only[Yt]
   refine ZS Kr Kr C Kr λK hK=>?_;go_simp;refine hK _ _ ?_;clear hK K d;go_wp2;go_loopw [23] (λiv wr=>∃k:Nat,k<=16/\iv=E k/\U (Ya wr g (YT<|l.set i ⟨true,cl,a.jy,WV a.jx b.jx k⟩) 294)/\U (Ya wr w.heap.size (Xn b) 294)/\U (w.grownBy wr<|some g))
    (λiv _=>16-(intOf iv).toNat);case atStart=>exact⟨0,Yr _,C,P,Q,R⟩
   case round=>
    obtain⟨k,hk,rfl,s,A,B⟩:=hrel;clear P Q R;by_cases p:k<16
    .have d1:(k:Int)<16:=X;have s1:wr.cell? ⟨g,o+67+k,none⟩=some (.int .u8<|(a.jx.getD k 0)):=by
      have:=L _ _ (Sm) s (67+k) X;rw[Nt l i t]at this;rw[show o+67+k=o+(67+k)by omega,this];have q:=GH ⟨true,cl,a.jy,WV a.jx b.jx k⟩ k p;rw[Tx _ _ X]at q;rw[q,show(⟨true,cl,a.jy,WV _ _ k⟩:Ah).jx=WV _ _ k from C,Fx n m k p]
     have s2:=YW.slot A k p;have fz:=s.frozen<|o+67+k;by_cases D:a.jx.getD k 0=b.jx.getD k 0
     .have T:=I<|CE n m k p D;have a5:((((a.jx.getD k 0))) !=(((b.jx.getD k 0):Int)))=false:=by rw[D];simp
      generalize a.jx.getD k 0=x at*;generalize b.jx.getD k 0=y at*;clear D;go_wp2;go_region;all_goals
       go_wp2;go_roundw;case rel=>exact⟨k+1,X,by go_num,I<|T.o▸s.below ((Ym _ _).drew),I<|A.below<|(Ym _ _).drew,I<|TU B⟩
       case measure=>simp[intOf];omega
     .have T:=I<|CD n m k p D;have a5:((((a.jx.getD k 0))) !=(((b.jx.getD k 0):Int)))=true:=by rw[Vg];omega
      have a6:U<|∀f:Y,(∀j,f.heap[j]?=wr.heap[j]?)->Ya (f.setCell ⟨g,o+67+k,none⟩ _) g _ _:=I λf a7=>by
       have H:Ya _ g _ _:=(a7 g).trans s;have q:=H.setk (o+67+k)<|.int .u8 0;have V:(YT _).set (i*83+(67+k)) (.int .u8 0)=YT ((l.set i ⟨true,cl,a.jy,WV a.jx b.jx k⟩).set i ⟨true,cl,a.jy,WV a.jx b.jx<|k+1⟩):=
        JO (by simpa using t) X<|Nt l i t▸T.o▸GJ ⟨true,cl,a.jy,WV a.jx b.jx k⟩ k 0 p (KO n.o m.o k X);rw[List.set_set]at V;rw[show o+67+k=i*83+(67+k)by rw[z];omega,V]at q;rw[show o+67+k=i*83+(67+k)by rw[z];omega];exact q
      generalize a.jx.getD k 0=x at*;generalize b.jx.getD k 0=y at*;clear D;go_wp2;go_region;all_goals
       go_wp2;go_roundw;case rel=>exact⟨k+1,X,by go_num,I<|a6 _ λ_=>C,I<|(A.below<|(Ym _ _).drew).other a3 _,I<|Zn (TU B) (.inl C) _⟩
       case measure=>simp[intOf];omega
    .obtain rfl:k=16:=X;have HF:U<|Ya wr g (YT<|l.set i<|ZZ a b.jy b.jx) 294:=by rwa [b2.o,<-CC n.o m.o]
     go_wp2;go_end0;exact⟨C,HF,B⟩
theorem mu(n:Nat):(madeCells (Xn Ys).toArray<|n*83).toList=YT (List.replicate n Ys):=by
 refine GL (by simp[madeCells];omega) λt a=>?_;rw[Ic]at a;have c:(madeCells (Xn Ys).toArray<|n*83).toList[t]?=some ((Xn Ys).toArray[t%(Xn Ys).toArray.size]!):=by
  unfold madeCells;rw[Array.toList_map,Vs,Array.toList_range,J4 X];rfl
 rw[c,Oj,Ux];have d:=Tx Ys (t%83) X;have e:(List.replicate n Ys).getD (t/83) Ys=Ys:=by
  rw[Y0,O4];split<;>rfl
 rw[e];congr 1;rw[getElem!_def];have:(Xn _).toArray[t%83]?=some _:=Ie▸d;rw[this]
theorem iB(a b:Ah):OT (Xn a) 0 (Xn b)=Xn b:=by
 refine LR (by rw[A5,Ux]) λi c=>?_;rw[A4 _ _ _ _<|by rw[Ux,Ux];omega,Ye<|by rw[Ux];omega,Nat.sub_zero,Tx b i c]
theorem IT:X4 Ys:=⟨N,(λk a=>(by cases a)),C⟩
theorem E9:X4 ⟨true,false,[],List.replicate 16 0⟩:=⟨N,(λk a=>(by cases a)),C⟩
theorem lB(n:Nat):∀a∈Pn n,X4 a:=by
 intro a c;rcases X0.1 c with rfl|c
 .exact E9
 .rw[(Kk.1 c).2];exact IT
theorem NF(c:k≠0)(f:st.length<=64)(d:∀k∈st,k≠0)(e:sl.length=16)(h:Z4 k st sl=some (st',sl')):st'.length<=64/\(∀k∈st',k≠0)/\sl'.length=16:=by
 unfold Z4 at h;split at h
 .cases h
 .injection h with h;injection h with e1 e2;subst e1;subst e2;exact⟨by rw[Y1];omega,λx a=>by
  rcases X0.1 a with rfl|a
  .exact c
  .exact d x a,e⟩
theorem zd{c:Yb}(m:Zy c i x=true)(f:st.length<=64)(d:∀k∈st,k≠0)(a:sl.length=16)(h:Zr c x st sl=some (st',sl')):st'.length<=64/\(∀k∈st',k≠0)/\sl'.length=16:=by
 obtain⟨op,arg⟩:=x;have tl:∀{k:Nat}{r:List _},st=k::r->r.length<=64/\(∀k∈r,k≠0):=λ{k r} e=>by
  subst e;exact⟨by rw[Y1]at f;omega,λy n=>d y<|Vf _ n⟩
 unfold Zr at h;simp only at h;split at h
 .exact NF N f d a h
 .have g:arg<c.jw.length:=by simpa [Zy]using m
  refine NF ?_ f d a h;rw[List.getElem?_eq_getElem g];show VF _≠0;unfold VF;split<;>decide
 .split at h
  .rename_i k r;obtain⟨t1,t2⟩:=tl C;split at h
   .exact NF N t1 t2 a h
   .cases h
  .cases h
 .split at h
  .rename_i y k r;split at h
   .rename_i j;have j:=j;rw[Vt]at j;have l:=d k<|Sm;exact NF X (by simp only[Y1]at f;omega) (λz o=>d z<|by simp[o]) a h
   .cases h
  .cases h
 .split at h
  .rename_i k r;obtain⟨t1,t2⟩:=tl C;split at h
   .exact NF (d k<|Sm) t1 t2 a h
   .cases h
  .cases h
 .injection h with h;injection h with e1 e2;subst e1;subst e2;exact⟨f,d,a⟩
 .split at h
  .rename_i k r;obtain⟨t1,t2⟩:=tl C;injection h with h;injection h with e1 e2;subst e1;subst e2;exact⟨t1,t2,a⟩
  .cases h
 .split at h
  .rename_i k r;obtain⟨t1,t2⟩:=tl C;injection h with h;injection h with e1 e2;subst e1;subst e2;exact⟨t1,t2,by rwa [Qv]⟩
  .cases h
 .split at h
  .cases h
  .rename_i l;exact NF l f d a h
 .split at h
  .rename_i k r;obtain⟨t1,t2⟩:=tl C;split at h
   .exact NF N t1 t2 a h
   .cases h
  .cases h
theorem CA(c:X4 a)(e:st.length<=64)(f:∀k∈st,k≠0)(d:sl.length=16):X4<|ZZ a st sl:=by
 unfold ZZ;split
 .exact⟨c.ln,c.kd,Mk c.sl d⟩
 .exact⟨e,f,d⟩
theorem iE (c:∀x∈l,X4 x)(d:X4 a)(i:Nat):∀x∈l.set i a,X4 x:=λx e=>by
 rcases NW e with h|h
 .exact c x h
 .rw[h];exact d
theorem Mo(c:∀x∈l,X4 x)(i:Nat):X4<|l.getD i Ys:=by
 rw[Y0];cases h:l[i]? with
 |none=>exact IT
 |some a=>exact c a<|QW h
theorem pR(a:Ah):Ro a=(!a.kw&&(decide (a.jy.length=1)&&ZO (a.jy.reverse.getD 0 0))):=by
 unfold Ro;congr 1;cases e:a.jy with
 |nil=>rfl
 |cons k r=>
  cases r with
  |nil=>
   unfold ZO;by_cases c:k=1
   .subst c;rfl
   .by_cases d:k=2
    .subst d;rfl
    .simp[c,d]
  |cons k2 r2=>simp
theorem pS(i:Nat)(l:List Ah)(f:i<l.length)(h:Ya w g (YT l) 294):
 CP 125 #[.pointer<|some ⟨g,i*83,none⟩] w λe u=>e=.returned (.bool<|Ro<|l.getD i Ys)/\u=w:=by
 have c:∀j,j<83->w.cell? _=some _:=λj p=>by rw[h.cell,LU l i j f p]
 generalize l.getD i Ys=a at*;have c1:w.cell? _=some (.bool _):=c 1 N;have c2:w.cell? _=some (.int _ _):=c 2 N;have c3:w.cell? _=some (.int _<|(a.jy.reverse.getD 0 0)):=c 3 N;have q:=I<|pR a;generalize i*83=o at*;generalize a.jy.reverse.getD 0 0=k at*;generalize a.jy.length=n at*;rw[q];clear c h f;cases d:a.kw with
 |true=>
  rw[d]at c1;go_enter func125,ntmps125;go_wp2;go_ret;exact⟨C,C⟩
 |false=>
  rw[d]at c1;by_cases m:n=1
  .subst m;go_enter func125,ntmps125;go_wp2_with(go_at_call 162;refine(OD k _).m ?_;rintro e r ⟨rfl,rfl⟩);go_ret;exact⟨VY<|Sm,C⟩
  .have s:((n:Int)==1)=false:=by rw[YB];omega
   go_enter func125,ntmps125;go_wp2;go_ret;exact⟨VY<|by simp[m],C⟩
theorem Tryz.infoState:(Tryz.prog.info? 294).map (λi=>(i.zero,i.size,i.bytes))=some (some<|.agg (Xn Ys).toArray,83,96):=Kr
theorem B3{base:Nat}{e:TypeId}{sz n:Nat}(h:w.ownsRow base e sz (.slice (some ⟨g,0,none⟩) n n) n xs):Ya w g xs e:=by
 rcases h.2 with⟨a,_⟩|⟨g',cap,cur,a,_,c,_,_,d,f⟩
 .cases a
 .injection a with e1 e2 e3;injection e1 with e1;injection e1 with e1;subst e1 e3;unfold Ya;rw[c];congr 2;apply Array.toList_inj.1;rw[<-f,Wm<|Sx▸d▸Yj _]
def Tz(w:Y)(v:F)(p:Int)(a:Addr):Prop:=∃fa:Nat,v=.iface 92 (Vp fa)/\w.cell? ⟨fa,1,none⟩=some (E p)/\w.cell? ⟨fa,2,none⟩=some (.iface 469<|.pointer<|some a)
theorem Tz.below{a:Addr}(h:Tz w v p a)(c:BW w w'):Tz w' v p a:=by
 obtain⟨fa,f,d,e⟩:=h;exact⟨fa,f,(c.cell<|Xi _ _ d).trans d,(c.cell<|Xi _ _ e).trans e⟩
theorem K0{i:Int}{a:Addr}:
 CP 84 #[E i,.iface 469<|.pointer<|some a] w λe u=>∃v,e=.returned v/\U (Tz u v i a)/\BW w u:=by
 go_enter func84,ntmps84;go_wp2;go_ret;exact⟨_,C,I ⟨_,C,Sm,Sm⟩,Yh⟩
def PI(w:Y)(A:Nat->Addr)(r:Except (Nat×Nat) Nat)(v:Int)(err:F):Prop:=match r with
 |.ok m=>v=m/\err=.nilIface
 |.error x=>v=0/\x.1=12/\Tz w err x.2 (A 11)
theorem PI.mkOk{r:Except (Nat×Nat) Nat}{v:Int}{m:Nat}(a:r=.ok m)(h:v=m/\err=.nilIface):PI w A r v err:=by subst a;exact h
theorem PI.ku{r:Except (Nat×Nat) Nat}{v:Int}(a:r=.error x)(h:v=0/\x.1=12/\Tz w err x.2 (A 11)):PI w A r v err:=by subst a;exact h
theorem X6.below{c:Yb}{cv pv gv iv:F}(h:X6 w c cv pv gv iv)(a:BW w w'):X6 w' c cv pv gv iv:=by
 refine⟨Ze h.cs a,?_,?_,Ze h.is a⟩
 .obtain⟨xs,d,e,f⟩:=h.ps;exact⟨xs,Ze d a,e,λx g=>(f x g).below a⟩
 .obtain⟨xs,d,e,f⟩:=h.gs;exact⟨xs,Ze d a,e,λx g=>(f x g).below a⟩
theorem ED{B:Nat}{w:Y}{b:Nat}:∀(vs:List F)(o:Nat){W:Y},Below B w W->B<=b->Below B w (W.setCells b o vs)
 |[],_,_,h,_=>h
 |v::r,o,W,h,a=>by
  rw[World.setCells];exact ED r _ (h.setCell a v) a
theorem A3{b j:Nat}:∀(vs:List F)(o:Nat){W:Y},j≠b->(W.setCells b o vs).heap[j]?=W.heap[j]?
 |[],_,_,_=>C
 |v::r,o,W,h=>by
  rw[World.setCells];exact(A3 r _ h).trans<|Go.Deep.blk_setCell_other _ _ _ _ h
structure Ql (w:Y)(A:Nat->Addr)(m:Int)(c:Yb)(a0 a1 a2 a3:Option Addr)(n0 n1 n2 e0 e1 e2 e3:Nat):Prop where
 v:YD w A m
 n:20<=w.heap.size
 cv:X6 w c (.slice a0 n0 e0) (.slice a1 n1 e1) (.slice a2 n2 e2)<|.slice a3 c.jz.length e3
 ln:c.jz.length<=65535
 rf:∀i,i<c.jz.length->Zy c i (c.jz.getD i (0,0))=true
 op:∀x∈c.jz,x.1<=13/\x.2<65536
theorem rQ(w:Y)(A:Nat->Addr)(m:Int)(c:Yb)(a0 a1 a2 a3:Option Addr)(e0 e1 e2 e3:Nat)(h:Ql w A m c a0 a1 a2 a3 n0 n1 n2 e0 e1 e2 e3):
 CP 85 #[.agg #[.slice a0 n0 e0,.slice a1 n1 e1,.slice a2 n2 e2,.slice a3 c.jz.length e3]] w λe u=>∃v err,e=.returned (.tuple #[E v,err])/\U (PI u A (Tv c) v err)/\BW w u:=by
 have HP:=I h;have j1:=h.ln;obtain⟨i0,hi,j2,j3,j4⟩:=Xv Tryz.infoState;obtain⟨n,hn⟩:∃n,n=c.jz.length:=⟨_,C⟩;rw[<-hn]at j1⊢;have HN:=I hn;clear h hn;go_enter func85,ntmps85;go_wp2_with(at_make;refine Is _ C _ _ 289 C (w.heap.size+1) 294 i0 _ 83 underlying289 hi j2 j3 _ _ _ _ (n+1) C C ?e1 ?e2 ?b2 ?b3 ?b4 ?_);case e1=>go_num
 case e2=>go_num
 case b2=>rw[j4];omega
 case b3=>unfold maxLen;omega
 case b4=>simp
 intro w1 e8 q;have g5:=Yc.trans ⟨q.os,q.tape,q.output,q.size,λk hk=>q.block k (by rw[Go.Deep.nblk_alloc];omega)<|Sm⟩;have g6:=I g5;have a7:U<|Ya w1 (w.heap.size+1) (YT<|List.replicate (n+1) Ys) 294:=by have:=B3 e8;rwa [mu]at this
 have e9:U<|Ya _ _ _ 80:=I<|(q.block _ (by rw[Go.Deep.nblk_alloc];omega)<|Sm).trans YO;have g0:w1.cell? ⟨w.heap.size+1,0,none⟩=some (.bool false):=by
  have:=LU (List.replicate (n+1) Ys) 0 0 (Sm) N;rw[a7.cell 0,show(0)=0*83+0 from C,this];simp[Ta,Ys,Y0]
 have f0:=a7.frozen 0;have d3:=e9.cell;have i8:=a7.lt;have a8:U<|Ya (w1.setCell ⟨w.heap.size+1,0,none⟩<|.bool true) (w.heap.size+1) (YT<|Pn n) 294:=I<|by
  have h2:=a7.setk 0<|.bool true;have h3:(YT<|List.replicate (n+1) Ys).set (0*83+0) (.bool true)=YT ((List.replicate (n+1) Ys).set 0 ⟨true,false,[],List.replicate 16 0⟩):=JO (Sm) N<|by
   rw[show(List.replicate (n+1) Ys).getD 0 Ys=Ys from C];rfl
  rw[show(0*83+0:Nat)=0 from C]at h3;rw[h3]at h2;exact h2
 have a9:=I<|e9.other (p:=⟨w.heap.size+1,0,none⟩) (by show w.heap.size≠w.heap.size+1;omega)<|.bool true;have D:U<|Below _ w<|w1.setCell ⟨w.heap.size+1,0,none⟩<|.bool true:=I<|g6.setCell (by show w.heap.size<=w.heap.size+1;omega) _;clear e8 q g5 g6 a7 e9;go_wp2;go_loopw [5,20] (λmv iv wr=>∃(k mo:Nat)(l:List Ah),k<=n/\iv=E k/\mv=E mo/\mo<=64/\l.length=n+1/\U (Z3 c k=.ok (l,mo))/\U (∀x∈l,X4 x)/\U (Ya wr (w.heap.size+1) (YT l) 294)/\U (Ya wr w.heap.size [.slice a0 n0 e0,.slice a1 n1 e1,.slice a2 n2 e2,.slice a3 n e3] 80)/\U (BW w wr))
  (λ_ iv _=>n-(intOf iv).toNat);case atStart=>exact⟨0,0,Pn n,Yr _,C,C,N,by simp[Pn],I<|by rw[HN];rfl,I<|lB n,a8,a9,D⟩
 case round=>
  obtain⟨k,mo,l,hk,rfl,rfl,j5,g7,g8,G,c8,c9,H⟩:=hrel;clear a8 a9 D g0 f0 d3 i8;have S:=I g7;clear g7;by_cases l5:k<n
  .have l6:(k:Int)<n:=X;obtain⟨x,hx⟩:∃x,x=c.jz.getD k (0,0):=⟨_,C⟩;have HX:=I hx;obtain⟨op,arg⟩:=x;have b0:k<c.jz.length:=by rwa [<-HN.o]
   have f1:c.jz[k]=(op,arg):=by rw[hx,Y0,List.getElem?_eq_getElem b0];rfl
   have d0:=I (HP.cv.below H.o).is;obtain⟨gi,cpi,j6⟩:=Zm d0.o X;injection j6 with hgi1 hgi2 hgi3;subst hgi1;have i0c:=Zc d0 _ _ (Sz _ k b0).1;have i1c:=Zc d0 _ _ (Sz _ k b0).2;rw[f1]at i0c i1c;simp only at i0c i1c;have l2:=ZN d0;have j7:=HP.op _<|f1▸List.getElem_mem b0;obtain⟨f2,i9⟩:=j7;simp only at f2 i9;have d1:U<|Zy c k (op,arg)=true:=by have:=HP.rf k b0;rwa [<-hx]at this
   obtain⟨a,ha⟩:∃a,a=l.getD k Ys:=⟨_,C⟩;have d2:=I ha;have T:U _:=ha▸Mo G.o k;have g9:=I λo=>World.rangeAt_alloc (c8.range _ _ λj hj=>by
    rw[Ux]at hj;rw[LU l k j (by rw[S];omega) hj,Tx a j hj,<-d2]) o;have i1:U ((prog.info? 294).map (·.size)=some (Xn a).length):=by rw[Ux];exact Tryz.infoSt
   have i2:U ((prog.info? 294).map (·.size)=some (Xn a).toArray.size):=by rwa [Oj,Ux]
   have i3:=I<|all_oneCell_toArray<|za a;have i4:U<|∀o1,((wr.alloc _).alloc _).there _ 0 (Xn a).toArray.size:=I λo1=>by
    have h1:Ya ((wr.alloc o1).alloc<|.cells (Xn Ys).toArray 294) (wr.heap.size+1) (Xn Ys) 294:=by
     have:=Go.Deep.blk_alloc_new (wr.alloc o1)<|.cells (Xn Ys).toArray 294;rwa [Go.Deep.nblk_alloc]at this
    exact h1.there 0 _<|by rw[Oj,Ux,Ux];omega
   have j8:=(zero_of_info<|by have:=Tryz.infoState;simp only[RV]at this⊢;obtain⟨j,j9,k0⟩:=this;exact⟨j,j9,by injection k0 with e1 e2;injection e2 with e2 e3;rw[e1,e2]⟩).1;have r3:=c9.cell;have l3:=c8.lt;have l4:=c9.lt;clear hx ha f1 hgi2 hgi3;go_upto_region 8 with(first
    |refine wpList_load_mid C 294 (.tmp 27) C (w.heap.size+1) (k*83) C (Xn a) _ (g9.o _) underlying294 C i1.o ?_
    |refine wpList_store_mid C 294 (.tmp 8) (.tmp 28) C (wr.heap.size+1) 0 (Xn a).toArray C C (i4.o _) i2.o i3.o ?_);refine Zs λW hW=>?_;have d4:Below _ _ W:=hW▸ED (Xn a) 0 (Yc.alloc (Sm) _) X;have f3:U<|YW W (wr.heap.size+1) a:=by
    rw[hW];have h1:Ya ((wr.alloc<|Obj.cells #[E op,E arg] 137).alloc<|.cells (Xn Ys).toArray 294) (wr.heap.size+1) (Xn Ys) 294:=by
     have:=Go.Deep.blk_alloc_new (wr.alloc<|Obj.cells #[E op,E arg] 137)<|.cells (Xn Ys).toArray 294;rwa [Go.Deep.nblk_alloc]at this
    have h2:=Ya.setCells (Xn a) 0 h1;rw[iB]at h2;exact h2
   have d5:U<|Ya W wr.heap.size [E op,E arg] 137:=by
    rw[hW];refine(A3 _ 0 X).trans ?_;exact(Yc.block _<|Sm).trans YO
   have f4:=I<|c8.below d4;have d6:=I<|c9.below d4;have P:=I<|H.trans<|d4.mono H.size;clear hW d4 i0c i1c r3 g9 i4 j8 i1 i2 i3;obtain⟨c0,c1,c2⟩:=YW.cells f3;have o0:=d5.cell 0;have o1:=d5.cell 1;have q0:=d6.cell;simp only[Yf]at o0 o1;have d7:U<|Z3 c (k+1)=SB c k l mo:=by show(match Z3 c k with|.error e=>_|.ok x=>_)=_;rw[g8]
   cases B:a.kj with
   |false=>
    rw[B]at c0;have r:U<|Z3 c (k+1)=.ok (l,mo):=by rw[d7];unfold SB;simp only;rw[<-d2,B];rfl
    go_wp2;go_roundw;case rel=>exact⟨k+1,mo,l,X,by go_num,C,j5,S,r,G,f4,d6,P⟩
    case measure=>simp[intOf];omega
   |true=>
    rw[B]at c0;cases V:a.kw with
    |true=>
     rw[V]at c1;have b1:U<|Tv c=.error _:=I<|by
      unfold Tv;rw[GP (by rw[d7];unfold SB;simp only;rw[<-d2,B,V];rfl) _ X]
     have gs:W.cell? ⟨11,0,none⟩=some _:=(HP.v.below P).sent _ N;go_wp2_with fail;refine(K0).m ?_;rintro e w9 ⟨v,rfl,HE,J⟩;have b5:=I<|P.trans<|J.mono P.size;obtain⟨fa,rfl,b6,b7⟩:=HE.o;clear J b6 b7;go_wp2;go_ret2;exact⟨_,_,C,I<|PI.ku b1 ⟨C,C,HE⟩,b5⟩
    |false=>
     rw[V]at c1;have i5:U<|Qj W _ a c _ _ _ _ _ _ _ _ _ n _ _ _ _:=I ⟨f3,by have:=HP.cv.below P;rwa [<-HN]at this,⟨k,d1⟩,T.ln,T.sl,T.kd⟩;have f5:U<|Z3 c (k+1)=match Zr c (op,arg) a.jy a.jx with
      |none=>.error (12,k)
      |some s=>.ok (goOn (op,arg) k s.1 s.2 l,max mo s.1.length):=by rw[d7];unfold SB;simp only;rw[<-d2,B,V,<-HX];rfl
     go_wp2_with fail;refine(iL W a c n i5 f2).m ?_;rintro e z ⟨ok,rfl,HD⟩;have b8:=HD.2.2;have a8:=I<|f4.grown b8<|by intro e;injection e with e;omega
     have a9:=I<|d6.grown b8<|by intro e;injection e with e;omega
     have d8:=I<|d5.grown b8<|by intro e;injection e with e;omega
     have D:=I<|Uz P b8<|by have:=H.size;omega
     clear b8 f4 d6 d5 P i5 f3 c0 c1 c2 o0 o1 q0;cases L:Zr c (op,arg) a.jy a.jx with
     |none=>
      have f6:ok=false:=by have:=HD.1;rw[L]at this;exact this
      subst f6;have b1:U<|Tv c=.error _:=I<|by
       unfold Tv;rw[GP (by rw[f5,L]) _ X]
      clear HD L;have gs:z.cell? ⟨11,0,none⟩=some _:=(HP.v.below D).sent _ N;go_wp2_with fail;refine(K0).m ?_;rintro e w9 ⟨v,rfl,HE,J⟩;have b5:=I<|D.trans<|J.mono D.size;obtain⟨fa,rfl,b6,b7⟩:=HE.o;clear J b6 b7;go_wp2;go_ret2;exact⟨_,_,C,I<|PI.ku b1 ⟨C,C,HE⟩,b5⟩
     |some s=>
      obtain⟨st,sl⟩:=s;have f6:ok=true:=by have:=HD.1;rw[L]at this;exact this
      subst f6;obtain⟨b,b9⟩:∃b:Ah,b=⟨true,false,st,sl⟩:=⟨_,C⟩;have f7:U<|YW z (wr.heap.size+1) b:=by
       have:=HD.2.1 _ _ L;rw[B,V]at this;rw[b9];exact this
      obtain⟨t1,t2,t3⟩:=zd d1.o T.ln T.kd T.sl L;have Q:U<|X4 b:=b9▸⟨t1,t2,t3⟩;have r:U<|Z3 c _=.ok (goOn _ k st sl l,max _ st.length):=I<|by rw[f5,L]
      have g:=I b9;have f8:b.jy=st:=by rw[b9]
      have d9:U ((prog.info? 294).map (·.size)=some (Xn b).length):=by rw[Ux];exact Tryz.infoSt
      have c2:=(YW.cells f7).2.2;rw[f8]at c2;have o0:=d8.cell 0;have o1:=d8.cell 1;simp only[Yf]at o0 o1;obtain⟨sn,i6⟩:∃sn,sn=st.length:=⟨_,C⟩;rw[<-i6]at c2 t1 r;clear HD L f5 d7 b9 f8 t2 t3 i6 B V;go_wp2_with fail;refine(uT).m ?_;rintro e w3 ⟨rfl,Z⟩;have f9:=I<|a8.below Z;have g1:=I<|a9.below Z;have M:=I<|d8.below Z;have a4:U<|YW _ _ b:=I<|f7.below Z;have g2:=I<|D.trans<|Z.mono D.size;clear Z a8 a9 d8 f7 D o0 o1 c2;have o0:=M.cell 0;have o1:=M.cell 1;simp only[Yf]at o0 o1;have e4:U<|∀(l':List _)(j:Nat),(∀x∈l',X4 x)->∀x∈l'.set j<|ZZ _ st sl,X4 x:=I λl' j h=>iE h (CA (Mo h j) (by have:=Q.ln;rw[g]at this;exact this) (by have:=Q.kd;rw[g]at this;exact this)<|by have:=Q.sl;rw[g]at this;exact this) j;by_cases h9:op=9
      .subst h9;rw[show TC 9=true from C];have k1:k<arg/\arg<=n:=by have:=d1.o;rw[HN];simpa [Zy]using this
       have j0:(arg:Int)<(n)+1:=X;go_upto_region 13 with fail;refine ZW 5 (λu=>u.cell? _=some _/\u.rangeAt _ 0 _) Kr ⟨by simpa using M.cell 1,by simpa using a4.range 0 _ λj _=>by rw[SI]⟩ λd=>?_;refine Za 0 d (h:=Za 1 d (h:=Za 2 d (h:=Za 3 d (h:=?_))));refine Tj (i:=4) C C Kr (λ_ _ _ h=>h) (yieldsIf_load_mid (by rfl) _ _ C _ 0 C _ _ (λw hw=>hw.2) underlying294 C d9) d ?rsp4;case rsp4=>
       try simp only[Yt]
       refine ZS Kr Kr C Kr λK R=>?_;go_simp;refine(JL l b (by rw[S];omega) (f9.below<|(Ym _ _).drew) (Mo G _) Q (by rw[g])<|by rw[g]).m ?_;rintro e w5 ⟨rfl,t,f⟩;refine R _ _ ?_;have a5:U<|Ya w5 (w.heap.size+1) (YT<|l.set arg<|ZZ (l.getD arg Ys) st sl) 294:=by have:=t.o;rw[g]at this;exact this
       have O:=I<|(M.below<|(Ym _ _).drew).grown f<|by intro e;injection e with e;omega
       have c3:=I<|(g1.below<|(Ym _ _).drew).grown f<|by intro e;injection e with e;omega
       have e5:U<|YW _ _ b:=I<|(a4.below<|(Ym _ _).drew).grown f<|by intro e;injection e with e;omega
       have c4:=I<|Uz g2.drew f X;clear R K d f t o0 o1;have o0:=O.cell;go_wp2;go_roundw;case rel=>exact⟨k+1,max _ _,l.set _ _,X,by go_num,by first|rfl|go_num|(congr 1;omega),X,by rwa [Qv],r,I<|e4 l _ G,a5,c3,c4⟩
       case measure=>simp[intOf];omega
      .by_cases i7:op=10
       .subst i7;rw[show TC _=true from C];have k1:k<arg/\arg<=n:=by have:=d1.o;rw[HN];simpa [Zy]using this
        have j0:(arg:Int)<(n)+1:=X;go_upto_region 13 with fail;refine ZW 5 (λu=>u.cell? _=some _/\u.rangeAt _ 0 _) Kr ⟨by simpa using M.cell 1,by simpa using a4.range 0 _ λj _=>by rw[SI]⟩ λd=>?_;refine Za 0 d (h:=Za 1 d (h:=Za 2 d (h:=Za 3 d (h:=?_))));refine Tj (i:=4) C C Kr (λ_ _ _ h=>h) (yieldsIf_load_mid (by rfl) _ _ C _ 0 C _ _ (λw hw=>hw.2) underlying294 C d9) d ?rsq4;case rsq4=>
        try simp only[Yt]
        refine ZS Kr Kr C Kr λK R=>?_;go_simp;refine(JL l b (by rw[S];omega) (f9.below<|(Ym _ _).drew) (Mo G _) Q (by rw[g])<|by rw[g]).m ?_;rintro e w5 ⟨rfl,t,f⟩;refine R _ _ ?_;have a5:U<|Ya w5 (w.heap.size+1) (YT<|l.set arg<|ZZ (l.getD arg Ys) st sl) 294:=by have:=t.o;rw[g]at this;exact this
        have O:=I<|(M.below<|(Ym _ _).drew).grown f<|by intro e;injection e with e;omega
        have c3:=I<|(g1.below<|(Ym _ _).drew).grown f<|by intro e;injection e with e;omega
        have e5:U<|YW _ _ b:=I<|(a4.below<|(Ym _ _).drew).grown f<|by intro e;injection e with e;omega
        have c4:=I<|Uz g2.drew f X;clear R K d f t o0 o1;have o0:=O.cell 0;have o1:=O.cell 1;simp only[Yf]at o0 o1;obtain⟨l1,c5⟩:∃l1,l1=l.set arg (ZZ (l.getD arg Ys) st sl):=⟨_,C⟩;have k2:U<|l1.length=n+1:=by rwa [c5,Qv]
        have g3:U _:=c5▸e4.o l arg G.o;rw[<-c5]at a5;have c7:U<|Z3 c (k+1)=.ok (l1.set (k+1)<|ZZ (l1.getD (k+1) Ys) st sl,max mo sn):=by rw[r,c5];rfl
        clear c5 r;have r:=c7;have k3:(k:Int)+1<(n)+1:=X;have k4:IntKind.i64.wrap ((k)+1)=(k)+1:=by rw[Us];omega
        have k5:0<=(k:Int)+1:=X;go_upto_region 15 with fail;refine ZW 5 (λu=>u.cell? _=some _/\u.rangeAt _ 0 _) Kr ⟨by simpa using O.cell 1,by simpa using e5.range 0 _ λj _=>by rw[SI]⟩ λd=>?_;refine Za 0 d (h:=Za 1 d (h:=Za 2 d (h:=Za 3 d (h:=?_))));refine Tj (i:=4) C C Kr (λ_ _ _ h=>h) (yieldsIf_load_mid (by rfl) _ _ C _ 0 C _ _ (λw hw=>hw.2) underlying294 C d9) d ?rsr4;case rsr4=>
        try simp only[Yt]
        refine ZS Kr Kr C Kr λK R=>?_;go_simp;refine(JL _ b (by rw[k2];omega) (a5.below<|(Ym _ _).drew) (Mo g3 _) Q (by rw[g])<|by rw[g]).m ?_;rintro e w7 ⟨rfl,t,c6⟩;refine R _ _ ?_;have k6:U<|Ya w7 (w.heap.size+1) (YT<|l1.set (k+1)<|ZZ (l1.getD (k+1) Ys) st sl) 294:=by have:=t.o;rw[g]at this;exact this
        have k7:=I<|(O.below<|(Ym _ _).drew).grown c6<|by intro e;injection e with e;omega
        have k8:=I<|(c3.below<|(Ym _ _).drew).grown c6<|by intro e;injection e with e;omega
        have l7:U<|YW _ _ b:=I<|(e5.below<|(Ym _ _).drew).grown c6<|by intro e;injection e with e;omega
        have k9:=I<|Uz c4.drew c6 X;clear R K d c6 t o0 o1;have o0:=k7.cell;go_wp2;go_roundw;case rel=>exact⟨k+1,max _ _,l1.set _ _,X,by go_num,by first|rfl|go_num|(congr 1;omega),X,by rwa [Qv],r,I<|e4 _ _ g3,k6,k8,k9⟩
        case measure=>simp[intOf];omega
       .have g4:TC op=false:=by unfold TC;simp[h9,i7]
        rw[g4];have l8:((op:Int) !=9)=true:=by rw[Vg];omega
        have c7:U<|Z3 c (k+1)=.ok (l.set (k+1)<|ZZ (l.getD (k+1) Ys) st sl,max mo sn):=by
         rw[r];unfold goOn;simp only[g4,Yd h9];rfl
        clear r g4;have r:=c7;have k3:(k:Int)+1<(n)+1:=X;have k4:IntKind.i64.wrap ((k)+1)=(k)+1:=by rw[Us];omega
        have k5:0<=(k:Int)+1:=X;go_upto_region 15 with fail;refine ZW 5 (λu=>u.cell? _=some _/\u.rangeAt _ 0 _) Kr ⟨by simpa using M.cell 1,by simpa using a4.range 0 _ λj _=>by rw[SI]⟩ λd=>?_;refine Za 0 d (h:=Za 1 d (h:=Za 2 d (h:=Za 3 d (h:=?_))));refine Tj (i:=4) C C Kr (λ_ _ _ h=>h) (yieldsIf_load_mid (by rfl) _ _ C _ 0 C _ _ (λw hw=>hw.2) underlying294 C d9) d ?rss4;case rss4=>
        try simp only[Yt]
        refine ZS Kr Kr C Kr λK R=>?_;go_simp;refine(JL l b (by rw[S];omega) (f9.below<|(Ym _ _).drew) (Mo G _) Q (by rw[g])<|by rw[g]).m ?_;rintro e w5 ⟨rfl,t,f⟩;refine R _ _ ?_;have a5:U<|Ya w5 (w.heap.size+1) (YT<|l.set (k+1)<|ZZ (l.getD (k+1) Ys) st sl) 294:=by have:=t.o;rw[g]at this;exact this
        have O:=I<|(M.below<|(Ym _ _).drew).grown f<|by intro e;injection e with e;omega
        have c3:=I<|(g1.below<|(Ym _ _).drew).grown f<|by intro e;injection e with e;omega
        have e5:U<|YW _ _ b:=I<|(a4.below<|(Ym _ _).drew).grown f<|by intro e;injection e with e;omega
        have c4:=I<|Uz g2.drew f X;clear R K d f t o0 o1;have o0:=O.cell;go_wp2;go_roundw;case rel=>exact⟨k+1,max _ _,l.set _ _,X,by go_num,by first|rfl|go_num|(congr 1;omega),X,by rwa [Qv],r,I<|e4 l _ G,a5,c3,c4⟩
        case measure=>simp[intOf];omega
  .obtain rfl:k=n:=X;have r3:=c9.cell;have e6:U<|Tv c=if Ro (l.getD k _)then .ok mo else .error _:=I<|by
    unfold Tv;rw[<-HN,g8]
   have l9:(k:Int)<(k)+1:=X;have e7:=I<|pS k l (by rw[S];omega) c8;cases a6:Ro (l.getD k Ys)with
   |true=>
    rw[a6]at e7;have l0:U<|Tv c=.ok mo:=by rw[e6,a6];rfl
    clear a6 e6;go_wp2_with fail;refine e7.m ?_;rintro e wq ⟨rfl,rfl⟩;go_wp2;go_ret2;exact⟨_,_,C,I<|PI.mkOk l0 ⟨C,C⟩,H⟩
   |false=>
    rw[a6]at e7;have b1:U<|Tv c=.error (12,k):=by rw[e6,a6];rfl
    clear a6 e6;go_wp2_with fail;refine e7.m ?_;rintro e wq ⟨rfl,rfl⟩;have gs:wq.cell? ⟨11,0,none⟩=some _:=(HP.v.below H).sent _ N;go_wp2_with fail;refine(K0).m ?_;rintro e w9 ⟨v,rfl,HE,J⟩;have b5:=I<|H.trans<|J.mono H.size;obtain⟨fa,rfl,b6,b7⟩:=HE.o;clear J b6 b7;go_wp2;go_ret2;exact⟨_,_,C,I<|PI.ku b1 ⟨C,C,HE⟩,b5⟩
theorem uS(w:Y)(c:Yb)(i op arg:Nat)(a0 a1 a2 a3:Option Addr)(e0 e1 e2 e3:Nat)(k:op<=13)(j:arg<65536):
 CP 83 #[.agg #[.slice a0 c.jq.length e0,.slice a1 c.jw.length e1,.slice a2 c.jv.length e2,.slice a3 c.jz.length e3],E i,.agg #[E op,E arg]] w λe u=>e=.returned (.bool<|Zy c i (op,arg))/\BW w u:=by
 obtain⟨nc,d⟩:∃nc,nc=c.jq.length:=⟨_,C⟩;obtain⟨np,f⟩:∃np,np=c.jw.length:=⟨_,C⟩;obtain⟨ng,g⟩:∃ng,ng=c.jv.length:=⟨_,C⟩;obtain⟨ni,h⟩:∃ni,ni=c.jz.length:=⟨_,C⟩;rw[<-d,<-f,<-g,<-h];have a:U<|nc=c.jq.length/\np=c.jw.length/\ng=c.jv.length/\ni=c.jz.length:=I ⟨d,f,g,h⟩;clear d f g h;rcases(X:op=0\/op=1\/op=2\/op=3\/op=4\/op=5\/op=6\/op=7\/op=8\/op=9\/op=10\/op=11\/op=12\/op=13)with rfl|rfl|rfl|rfl|rfl|rfl|rfl|rfl|rfl|rfl|rfl|rfl|rfl|rfl;all_goals
  go_enter func83,ntmps83;go_wp2;all_goals
   go_ret;refine⟨VY ?_,Yh⟩;first
    |(simp only[Zy,<-a.1,<-a.2.1,<-a.2.2.1,<-a.2.2.2];done)
    |(simp only[Zy,<-a.1,<-a.2.1,<-a.2.2.1,<-a.2.2.2];rw[Uc];simp;done)
    |(simp only[Zy,<-a.1,<-a.2.1,<-a.2.2.1,<-a.2.2.2];rw[Uc];simp;omega)
theorem fZ(w:Y)(A:Nat->Addr)(m:Int)(c:Yb)(a0 a1 a2 a3:Option Addr)(e0 e1 e2 e3:Nat)(h:Ql w A m c a0 a1 a2 a3 n0 n1 n2 e0 e1 e2 e3):
 CP 86 #[.agg #[.slice a0 n0 e0,.slice a1 n1 e1,.slice a2 n2 e2,.slice a3 c.jz.length e3]] w λe u=>e=.returned (E (UT c.jz:Nat))/\BW w u:=by
 have B:=I h;have D:=h.ln;obtain⟨n,t⟩:∃n,n=c.jz.length:=⟨_,C⟩;rw[<-t]at D⊢;have G:=I t;clear h t;go_enter func86,ntmps86;go_wp2;go_loopw [3,9] (λsv iv wr=>∃(k s:Nat),k<=n/\iv=E k/\sv=E s/\s<=65536/\U (s=UT (c.jz.take k))/\U (BW w wr))
  (λ_ iv _=>n-(intOf iv).toNat);case atStart=>exact⟨0,0,Yr _,C,C,N,I C,I Yh⟩
 case round=>
  obtain⟨k,s,S,rfl,rfl,O,H,f⟩:=hrel;by_cases J:k<n
  .have R:(k:Int)<n:=X;have g:k<c.jz.length:=by rw[<-G.o];exact J
   have a:=I (B.cv.below f.o).is;obtain⟨gi,cpi,K⟩:=Zm a.o X;injection K with hgi1 hgi2 hgi3;subst hgi1;have i0c:=Zc a.o _ _ (Sz c.jz k g).1;have i1c:=Zc a.o _ _ (Sz c.jz k g).2;have P:=ZN a.o;have L:=B.op c.jz[k]<|List.getElem_mem g;have d:U<|UT (c.jz.take<|k+1)=if Pi c.jz[k].1 then max s (c.jz[k].2+1)else s:=I<|by rw[List.take_succ_eq_append_getElem g,A8,<-H.o]
   generalize c.jz[k]=x at*;obtain⟨op,arg⟩:=x;simp only at i0c i1c d L;clear hgi2 hgi3 a;go_wp2_with fail;refine Zv λW v=>?_;have p:BW wr W:=by rw[v];exact Yc
   have i:U<|BW w W:=I<|f.trans<|p.mono f.size;have q:U<|Ya W wr.heap.size [E op,E arg] 137:=I<|by rw[v];exact YO
   clear v p i0c i1c;refine(rI op arg W).m ?_;rintro e z ⟨rfl,j⟩;have r:U<|BW w z:=I<|i.trans<|j.mono i.size;have M:=I<|q.below j;clear j q i;have o1:=M.cell;cases o:Pi op with
   |true=>
    have l:U<|UT (c.jz.take<|k+1)=max s (arg+1):=I<|by rw[d.o,o];rfl
    clear o d;go_wp2;go_roundw;case rel=>exact⟨k+1,max s<|arg+1,X,by go_num,by first|rfl|go_num|(congr 1;omega),X,I l.symm,r⟩
    case measure=>simp[intOf];omega
   |false=>
    have l:U<|UT (c.jz.take<|k+1)=s:=I<|by rw[d.o,o];rfl
    clear o d;go_wp2;go_roundw;case rel=>exact⟨k+1,s,X,by go_num,C,O,I l.symm,r⟩
    case measure=>simp[intOf];omega
  .obtain rfl:k=n:=X;have Q:U<|s=UT c.jz:=I<|by rw[H.o,G.o,X1]
   go_wp2;go_ret;exact⟨JB<|by rw[Q.o],f.o⟩
def PJ(w:Y)(A:Nat->Addr)(r:Except (Nat×Nat)<|Nat×Nat)(v err:F):Prop:=match r with
 |.ok x=>v=.agg #[.int .i64 x.1,.int .i64 x.2]/\err=.nilIface
 |.error x=>v=.agg #[.int .i64 0,.int .i64 0]/\((x.1=11/\Tz w err x.2 (A 10))\/(x.1=12/\Tz w err x.2 (A 11)))
theorem PJ.mkOk{r:Except (Nat×Nat)<|Nat×Nat}(a:r=.ok x)(h:v=.agg #[E x.1,E x.2]/\err=.nilIface):PJ w A r v err:=by subst a;exact h
theorem PJ.ku{r:Except (Nat×Nat)<|Nat×Nat}(a:r=.error x)(h:v=.agg #[E 0,E 0]/\((x.1=11/\Tz w err x.2 (A 10))\/(x.1=12/\Tz w err x.2 (A 11)))):PJ w A r v err:=by subst a;exact h
theorem JI{a:Nat}(h:BW w0 w)(c:w0.heap.size<=a)(x y:F):BW w0<|set2 w a x y:=
 (h.setCell (p:=⟨a,0,none⟩) c _).setCell (p:=⟨a,1,none⟩) c _
theorem D0{a:Addr}(h:Tz w v p a)(i:∀fa:Nat,v=.iface 92 (Vp fa)->fa≠b)(x y:F):Tz (set2 w b x y) v p a:=by
 obtain⟨fa,f,c,d⟩:=h;have g:=i fa f;have e:(set2 w b x y).heap[fa]?=w.heap[fa]?:=G6 w b x y g;refine⟨fa,f,?_,?_⟩
 .unfold World.cell? at c⊢;simp only at c⊢;rw[e];exact c
 .unfold World.cell? at d⊢;simp only at d⊢;rw[e];exact d
theorem Bz{c:Yb}:∀(k:Nat),Vj c k=.ok ()->∀i,i<k->Zy c i (c.jz.getD i (0,0))=true
 |0,_,i,d=>by omega
 |k+1,h,i,d=>by
  unfold Vj at h;cases a:Vj c k with
  |error e=>rw[a]at h;cases h
  |ok u=>
   rw[a]at h;simp only at h;by_cases e:i=k
   .subst e;cases f:Zy c i<|c.jz.getD i (0,0)with
    |true=>rfl
    |false=>rw[f]at h;cases h
   .exact Bz k a i X
structure U3 (w:Y)(A:Nat->Addr)(m:Int)(c:Yb)(a0 a1 a2 a3:Option Addr)(e0 e1 e2 e3:Nat):Prop where
 v:YD w A m
 n:20<=w.heap.size
 cv:X6 w c (.slice a0 c.jq.length e0) (.slice a1 c.jw.length e1) (.slice a2 c.jv.length e2)<|.slice a3 c.jz.length e3
 ln:c.jz.length<=65535
 op:∀x∈c.jz,x.1<=13/\x.2<65536
theorem U3.high{c:Yb}(h:U3 w A m c a0 a1 a2 a3 e0 e1 e2 e3)(a:BW w w')(d:Vj c c.jz.length=.ok ()):Ql w' A m c a0 a1 a2 a3 c.jq.length c.jw.length c.jv.length e0 e1 e2 e3:=
 ⟨h.v.below a,Xb h.n a.size,h.cv.below a,h.ln,λi e=>Bz _ d i e,h.op⟩
theorem nZ(w:Y)(A:Nat->Addr)(m:Int)(c:Yb)(a0 a1 a2 a3:Option Addr)(e0 e1 e2 e3:Nat)(h:U3 w A m c a0 a1 a2 a3 e0 e1 e2 e3):
 CP 40 #[.agg #[.slice a0 c.jq.length e0,.slice a1 c.jw.length e1,.slice a2 c.jv.length e2,.slice a3 c.jz.length e3]] w λe u=>∃v err,e=.returned (.tuple #[v,err])/\U (PJ u A (Vl c) v err)/\BW w u:=by
 have HP:=I h;have b4:=h.ln;have a7:U<|∀(W:Y)(i op arg:Nat),op<=13->arg<65536->CP 83 #[.agg #[.slice a0 c.jq.length e0,.slice a1 c.jw.length e1,.slice a2 c.jv.length e2,.slice a3 c.jz.length e3],E i,.agg #[E op,E arg]] W _:=I λW i op arg P Q=>uS W c i op arg a0 a1 a2 a3 e0 e1 e2 e3 P Q;have a8:U<|∀W,BW w W->Vj c c.jz.length=.ok ()->CP 85 #[.agg #[.slice a0 c.jq.length e0,.slice a1 c.jw.length e1,.slice a2 c.jv.length e2,.slice a3 c.jz.length e3]] W _:=I λW P Q=>rQ W A m c a0 a1 a2 a3 e0 e1 e2 e3<|h.high P Q;have a9:U<|∀W,BW w W->Vj c c.jz.length=.ok ()->CP 86 #[.agg #[.slice a0 c.jq.length e0,.slice a1 c.jw.length e1,.slice a2 c.jv.length e2,.slice a3 c.jz.length e3]] W _:=I λW P Q=>fZ W A m c a0 a1 a2 a3 e0 e1 e2 e3<|h.high P Q;obtain⟨n,hn⟩:∃n,n=c.jz.length:=⟨_,C⟩;rw[<-hn]at b4 a7 a8 a9⊢;generalize c.jq.length=n0 at*;generalize c.jw.length=n1 at*;generalize c.jv.length=n2 at*;have HN:=I hn;clear h hn;go_enter func40,ntmps40;go_wp2;go_loopw [11] (λiv wr=>∃k:Nat,k<=n/\iv=E k/\U (Vj c k=.ok ())/\U (Ya wr w.heap.size [.slice a0 n0 e0,.slice a1 n1 e1,.slice a2 n2 e2,.slice a3 n e3] 80)/\U (Ya wr (w.heap.size+1) [E 0,E 0] 82)/\U (BW w wr))
  (λiv _=>n-(intOf iv).toNat);case atStart=>
  refine⟨0,Yr _,C,I C,I<|(Yc.block _<|Sm).trans YO,I ?_,I Yh⟩;have:=Go.Deep.blk_alloc_new (w.alloc<|.cells #[.slice a0 n0 e0,.slice a1 n1 e1,.slice a2 n2 e2,.slice a3 n e3] 80)<|.cells #[E 0,E 0] 82;rwa [Go.Deep.nblk_alloc]at this
 case round=>
  obtain⟨k,hk,rfl,B,d,l,f⟩:=hrel;have q0:=d.cell 0;have q1:=d.cell 1;have q2:=d.cell 2;have q3:=d.cell 3;simp only[Yf]at q0 q1 q2 q3;have c4:=d.lt;have c5:=l.lt;by_cases b5:k<n
  .have c6:(k:Int)<n:=X;have D:k<c.jz.length:=by rw[<-HN.o];exact b5
   have p:=I (HP.cv.below f.o).is;obtain⟨gi,cpi,b6⟩:=Zm p.o X;injection b6 with hgi1 hgi2 hgi3;subst hgi1;have i0c:=Zc p.o _ _ (Sz c.jz k D).1;have i1c:=Zc p.o _ _ (Sz c.jz k D).2;have c3:=ZN p.o;have R:=HP.op c.jz[k]<|List.getElem_mem D;have q:U<|Vj c (k+1)=if Zy c k c.jz[k]then .ok ()else .error (11,k):=I<|by
    show(match Vj c k with|.error e=>_|.ok _=>_)=_;rw[B.o];simp only;rw[Y0,List.getElem?_eq_getElem D];rfl
   generalize c.jz[k]=x at*;obtain⟨op,arg⟩:=x;simp only at i0c i1c q R;clear hgi2 hgi3 p;go_wp2_with fail;refine Zv λW hW=>?_;have G:BW wr W:=by rw[hW];exact Yc
   have S:U<|BW w W:=I<|f.trans<|G.mono f.size;have b0:=I<|d.below G;have b1:=I<|l.below G;clear hW G i0c i1c d l f q0 q1 q2 q3;refine(a7.o W k op arg R.1 R.2).m ?_;rintro e z ⟨rfl,H⟩;have J:U<|BW w z:=I<|S.trans<|H.mono S.size;have b7:=I<|b0.below H;have b2:=I<|b1.below H;clear H b0 b1 S;cases hh:Zy c k (op,arg)with
   |true=>
    have b8:U<|Vj c (k+1)=.ok ():=I<|by rw[q.o,hh];rfl
    clear hh q;go_wp2;go_roundw;case rel=>exact⟨k+1,X,by go_num,b8,b7,b2,J⟩
    case measure=>simp[intOf];omega
   |false=>
    have s:U<|Vl c=.error (11,k):=I<|by
     unfold Vl;rw[BC (k:=k+1) (e:=(11,k)) (by rw[q.o,hh];rfl) _ X]
    have gs:z.cell? ⟨10,0,none⟩=some (.iface 469<|.pointer<|some<|A 10):=(HP.v.below J.o).sent _ N;clear hh q;go_wp2_with fail;refine(K0).m ?_;rintro e w9 ⟨v,rfl,T,V⟩;have b9:U<|BW w w9:=I<|J.trans<|V.mono J.size;have K:=I<|b2.below V;clear V;obtain⟨fa,rfl,Z,g⟩:=T.o;have a4:U<|∀fb:Nat,Value.iface 92 (Vp fa)=.iface 92 (Vp fb)->fb≠w.heap.size+1:=I λfb e1 e2=>by
     injection e1 with _ e1;injection e1 with e1;injection e1 with e1;injection e1 with e1;subst e1;subst e2;rw[K.cell 2]at g;cases g
    clear Z g;have f0:=K.frozen;have z0:=K.cell;go_wp2;exact Sr (r:=.tuple #[.agg #[E 0,E 0],.iface 92<|Vp fa]) (λW s0 s1=>by simp[results,results40,go_sem,s0,s1]) C K.o ⟨_,_,C,I<|PJ.ku s.o ⟨C,Or.inl ⟨C,D0 T.o a4.o (E 0)<|E 0⟩⟩,JI (w0:=w) (a:=w.heap.size+1) b9.o (KD _) (E 0)<|E 0⟩
  .obtain rfl:k=n:=X;have b3:U<|Vj c c.jz.length=.ok ():=I<|by rw[<-HN.o];exact B.o
   go_wp2_with fail;refine(a8.o wr f.o B.o).m ?_;rintro e w5 ⟨v,err,rfl,j,L⟩;have M:U<|BW w w5:=I<|f.trans<|L.mono f.size;have c0:=I<|d.below L;have t:=I<|l.below L;clear L d l q0 q1 q2 q3;cases O:Tv c with
   |error x=>
    rw[O]at j;obtain⟨rfl,hx,he⟩:=j.o;have s:U<|Vl c=.error x:=I<|by unfold Vl;rw[b3.o];simp only;rw[O]
    have T:=I he;have c1:=I hx;clear j O he hx;obtain⟨fa,rfl,Z,g⟩:=T.o;have a4:U<|∀fb:Nat,Value.iface 92 (Vp fa)=.iface 92 (Vp fb)->fb≠w.heap.size+1:=I λfb e1 e2=>by
     injection e1 with _ e1;injection e1 with e1;injection e1 with e1;injection e1 with e1;subst e1;subst e2;rw[t.cell 2]at g;cases g
    clear Z g;have f0:=t.frozen;have z0:=t.cell;go_wp2;exact Sr (r:=.tuple #[.agg #[E 0,E 0],.iface 92<|Vp fa]) (λW s0 s1=>by simp[results,results40,go_sem,s0,s1]) C t.o ⟨_,_,C,I<|PJ.ku s.o ⟨C,Or.inr ⟨c1.o,D0 T.o a4.o (E 0)<|E 0⟩⟩,JI (w0:=w) (a:=w.heap.size+1) M.o (KD _) (E 0)<|E 0⟩
   |ok mm=>
    rw[O]at j;obtain⟨rfl,rfl⟩:=j.o;have s:U<|Vl c=.ok (mm,UT c.jz):=I<|by unfold Vl;rw[b3.o];simp only;rw[O]
    clear j O;have q0:=c0.cell;go_wp2_with fail;refine(a9.o w5 M.o B.o).m ?_;rintro e w6 ⟨rfl,a5⟩;have c2:U<|BW w w6:=I<|M.trans<|a5.mono M.size;have a6:=I<|t.below a5;clear a5 q0;generalize UT c.jz=sn at*;have f0:=a6.frozen;have z0:=a6.cell;go_wp2;exact Sr (r:=.tuple #[.agg #[E mm,E sn],.nilIface]) (λW s0 s1=>by simp[results,results40,go_sem,s0,s1]) C a6.o ⟨_,_,C,I<|PJ.mkOk s.o ⟨C,C⟩,JI (w0:=w) (a:=w.heap.size+1) c2.o (KD _) (E mm)<|E sn⟩
theorem ZfN{α:Type}{one:Nat->X9 α}{p:Nat}{P:α->Prop}(c:∀p x,one p=.ok x->P x.1):∀{k:Nat}{xs:List α}{q:Nat},Yo one p k=.ok (xs,q)->∀x∈xs,P x
 |0,xs,q,h=>by injection h with h;simp_all
 |k+1,xs,q,h=>by
  unfold Yo at h;cases d:Yo one p k with
  |error e=>simp_all
  |ok x=>
   rw[d]at h;simp only at h;cases f:one x.2 with
   |error e=>simp_all
   |ok y=>
    rw[f]at h;injection h with h;injection h with h2 h3;subst h2;intro z a;rcases Wk.1 a with a|a
    .exact ZfN c (d) z a
    .rw[Vr]at a;subst a;exact c _ _ f
theorem rN{l:LB}{n:Nat×Nat×Nat×Nat}(h:US l=.ok n):n.2.2.2<=65535:=by
 unfold US at h;split at h
 .cases h
 .split at h
  .cases h
  .injection h with h;subst h;have:Yp (Y6 l 7 2)<256^2:=PS<|by unfold Y6;simp;omega
   simp_all;omega
theorem Hl{l:LB}{c:Yb}(h:Wt l=.ok c):c.jz.length<=65535/\∀x∈c.jz,x.1<=13/\x.2<65536:=by
 unfold Wt at h;cases d:US l with
 |error e=>simp_all
 |ok n=>
  rw[d]at h;simp only at h;cases f:Yo (Vw l) 9 n.1 with
  |error e=>simp_all
  |ok cs=>
   rw[f]at h;simp only at h;cases g:Yo (pickAt l) cs.2 n.2.1 with
   |error e=>simp_all
   |ok ps=>
    rw[g]at h;simp only at h;cases i:Yo (groupAt l) ps.2 n.2.2.1 with
    |error e=>simp_all
    |ok gs=>
     rw[i]at h;simp only at h;cases a:Yo (WM l) gs.2 n.2.2.2 with
     |error e=>simp_all
     |ok is=>
      rw[a]at h;simp only at h;split at h
      .cases h
      .split at h
       .cases h
       .split at h
        .cases h
        .injection h with h;subst h;refine⟨?_,?_⟩
         .have:=KN<|a;have:=rN d;simp_all
         .exact ZfN (λp x h=>(I8 h).2)<|a
def Vm(w:Y)(A:Nat->Addr)(x:Nat×Nat)(err:F):Prop:=
 (x.1=9/\Tz w err x.2 (A 8))\/(x=(10,0)/\err=.iface 469 (.pointer<|some<|A 9))\/(x.1=11/\Tz w err x.2 (A 10))\/(x.1=12/\Tz w err x.2 (A 11))
def U7(w:Y)(A:Nat->Addr)(r:Except (Nat×Nat)<|Yb×Nat×Nat)(v n err:F):Prop:=match r with
 |.ok x=>Xy w x.1 v/\n=.agg #[.int .i64 x.2.1,.int .i64 x.2.2]/\err=.nilIface
 |.error x=>n=.agg #[.int .i64 0,.int .i64 0]/\Vm w A x err
theorem U7.mkOk{n:F}{x:Yb×Nat×Nat}(a:r=.ok x)(h:Xy w x.1 v/\n=.agg #[E x.2.1,E x.2.2]/\err=.nilIface):U7 w A r v n err:=by subst a;exact h
theorem U7.ku{n:F}(a:r=.error x)(h:n=.agg #[E 0,E 0]/\Vm w A x err):U7 w A r v n err:=by subst a;exact h
theorem ZF.pl{a:Addr}(h:ZF w v p a):Tz w v p a:=by
 obtain⟨fa,d,c⟩:=h;exact⟨fa,d,by simp[World.cell?,c],by simp[World.cell?,c]⟩
theorem Vm.below(h:Vm w A x err)(a:BW w w'):Vm w' A x err:=by
 rcases h with h|h|h|h
 .exact .inl ⟨h.1,h.2.below a⟩
 .exact .inr<|.inl h
 .exact .inr<|.inr<|.inl ⟨h.1,h.2.below a⟩
 .exact .inr<|.inr<|.inr ⟨h.1,h.2.below a⟩
theorem U7.below{n:F}(h:U7 w A r v n err)(a:BW w w'):U7 w' A r v n err:=by
 cases r with
 |ok x=>exact⟨h.1.below a,h.2⟩
 |error x=>exact⟨h.1,h.2.below a⟩
theorem Tz.kept2{a:Addr}(h:Tz w v p a){t:TypeId}(g:Ya w b c t)(i:w.grownBy w'<|some b)(j:∀t v,c[2]?≠some (.iface t v)):Tz w' v p a:=by
 obtain⟨fa,k,l,d⟩:=h;have f:some fa≠some b:=by
  intro e;injection e with e;subst e;rw[g.cell 2]at d;exact j _ _ d
 have m:fa<w.heap.size:=Xi _ _ d;have e:=i.block _ m f;refine⟨fa,k,?_,?_⟩
 .unfold World.cell? at l⊢;simp_all
 .unfold World.cell? at d⊢;simp_all
theorem Vm.kept2(h:Vm w A x err){t:TypeId}(a:Ya w b c t)(d:w.grownBy w'<|some b)(e:∀t v,c[2]?≠some (.iface t v)):Vm w' A x err:=by
 rcases h with h|h|h|h
 .exact .inl ⟨h.1,h.2.kept2 a d e⟩
 .exact .inr<|.inl h
 .exact .inr<|.inr<|.inl ⟨h.1,h.2.kept2 a d e⟩
 .exact .inr<|.inr<|.inr ⟨h.1,h.2.kept2 a d e⟩
theorem U7.kept2{n:F}(h:U7 w A r v n err){t:TypeId}(a:Ya w b c t)(d:w.grownBy w'<|some b)(e:∀t v,c[2]?≠some (.iface t v))
 (f:t≠3)(g:t≠231)(i:t≠374)(j:t≠57)(k:t≠9)(l:t≠137):U7 w' A r v n err:=by
 cases r with
 |ok x=>exact⟨h.1.ju a d f g i j k l,h.2⟩
 |error x=>exact⟨h.1,h.2.kept2 a d e⟩
theorem Vm.shape(h:Vm w A x err):(∃fa:Nat,err=.iface 92 (Vp fa))\/err=.iface 469 (.pointer<|some<|A 9):=by
 rcases h with⟨_,fa,h,_⟩|h|⟨_,fa,h,_⟩|⟨_,fa,h,_⟩
 .simp_all
 .simp_all
 .simp_all
 simp_all
structure MN (w0 w W:Y)(A:Nat->Addr)(r:Except (Nat×Nat)<|Yb×Nat×Nat)(v n err:F)(b d:Nat)(x0 x1 x2 x3 y0 y1:F):Prop where
 oc:U7 W A r v n err
 ob:BW w0 W
 ox:Ya W b [x0,x1,x2,x3] 80
 oy:Ya W d [y0,y1] 82
theorem B2{n:F}{d:Nat}(h:U7 w A r v n err)(c:BW w0 w)(e:w0.heap.size<=b)(hd:w0.heap.size<=d)(g:b≠d)
 (a:Ya w b [S0,S0,S0,S0] 80)(f:Ya w d [E 0,E 0] 82)(x0 x1 x2 x3 y0 y1:F):
 MN w0 w (set2 (Wj w b x0 x1 x2 x3) d y0 y1) A r v n err b d x0 x1 x2 x3 y0 y1:=by
 have g1:=MC w b x0 x1 x2 x3;have z1:=f.grown g1<|by simp_all;omega
 have g2:=JJ (Wj w b x0 x1 x2 x3) d y0 y1;exact⟨(h.kept2 a g1 (Sm) N N N N N N).kept2 z1 g2 (Sm) N N N N N N,
  JI (Nf c e _ _ _ _) hd _ _,(LP a).grown g2<|by simp_all,JH z1⟩
theorem U3.mk'{c:Yb}{l:LB}(j:YD w A m)(k:20<=w.heap.size)(n:Xy w c<|.agg #[.slice a0 n0 e0,.slice a1 n1 e1,.slice a2 n2 e2,.slice a3 n3 e3])(i:Wt l=.ok c):
 (n0=c.jq.length/\n1=c.jw.length/\n2=c.jv.length/\n3=c.jz.length)/\U3 w A m c a0 a1 a2 a3 e0 e1 e2 e3:=by
 obtain⟨cv,pv,gv,iv,e,h⟩:=n;injection e with e;injection e with e;simp only[List.cons.injEq,and_true]at e;obtain⟨rfl,rfl,rfl,rfl⟩:=e;obtain⟨b0,f0,a⟩:=h.cs.shape;obtain⟨b1,f1,d⟩:=h.ps.shape;obtain⟨b2,f2,f⟩:=h.gs.shape;obtain⟨b3,f3,g⟩:=h.is.shape;injection a with _ a _;injection d with _ d _;injection f with _ f _;injection g with _ g _;subst a d f g;exact⟨⟨C,C,C,C⟩,j,k,h,(Hl i).1,(Hl i).2⟩
theorem nY(s:BA)(A:Nat->Addr)(m:Int)(w:Y)(hv:YD w A m)(ht:Vv w)(P:20<=w.heap.size)(hs:s.size<=maxLen):
 CP 22 #[.string s] w λe u=>∃v n err,e=.returned (.tuple #[v,n,err])/\U (U7 u A (Ti<|bl s) v n err)/\X5 v/\BW w u:=by
 have S:=I λW t=>jZ s A m W (hv.below t) (ht.low t P) (Xb P t.size) hs;have HV:=I hv;have b4:=I P;clear hv ht P hs;go_enter func22,ntmps22;go_wp2_with fail;refine Zv λW Q=>?_;have T:Below _ w W:=Q▸Yc.alloc (Sm) _;have V:U<|Ya W _ _ 80:=Q▸(Yc.block _<|Sm).trans YO;have Z:U<|Ya W (w.heap.size+1) [E 0,E 0] 82:=by
  rw[Q];have:=Go.Deep.blk_alloc_new (w.alloc<|.cells #[S0,S0,S0,S0] 80)<|.cells #[E 0,E 0] 82;rwa [Go.Deep.nblk_alloc]at this
 have z:=I T;clear Q T;refine(S W z).m ?_;rintro e o ⟨v,err,rfl,J,B⟩;have f:=I<|z.trans<|B.mono z.size;have g:=I<|V.below B;have i:=I<|Z.below B;clear B V Z z;cases hd:Wt (bl s)with
 |error x=>
  have j:U<|Ti _=.error x:=I<|by unfold Ti;rw[hd]
  have K:U<|Vm o A x err:=by
   have h:=J.o;rw[hd]at h;rcases h.2 with h|h
   .exact .inl ⟨h.1,h.2.pl⟩
   .exact .inr<|.inl h
  obtain rfl:=by
   have h:=J.o;rw[hd]at h;exact h.1
  have p:U<|U7 _ A _ (.agg #[S0,S0,S0,S0]) _ _:=I<|U7.ku j ⟨C,K⟩;have a:=I<|B2 p f (Yj _) (It _ _) X g i S0 S0 S0 S0 (E 0)<|E 0;have b2:=g.lt;have b3:=i.lt;have f0:=g.frozen;have c0:=g.cell;have i0:=i.frozen;have j0:=i.cell;have b5:=K.shape;clear J hd K j p;rcases b5 with⟨fa,rfl⟩|rfl;all_goals
   go_wp2;change bodyPost _ _ _ _ _<|(set2 (Wj o w.heap.size S0 S0 S0 S0) (w.heap.size+1) (E 0)<|E 0).alloc<|.cells #[S0,S0,S0,S0] 80;clear f0 c0 i0 j0;generalize set2 (Wj o w.heap.size S0 S0 S0 S0) (w.heap.size+1) (E 0) (E 0)=WY at*;have d:Below _ _<|WY.alloc<|.cells #[S0,S0,S0,S0] 80:=Yc;have D:=I<|a.ob.trans<|d.mono a.ob.size;have G:=I<|a.oc.below d;have sx:=a.ox.below d;have sy:=a.oy.below d;have s0:=sx.cell 0;have s1:=sx.cell 1;have s2:=sx.cell 2;have s3:=sx.cell 3;have t0:=sy.cell 0;have t1:=sy.cell 1;simp only[Yf]at s0 s1 s2 s3 t0 t1;generalize WY.alloc (.cells #[S0,S0,S0,S0] 80)=WX at*
  .exact YQ (by simp[results,results22,go_sem,s0,s1,s2,s3,t0,t1]) C ⟨_,_,_,C,G,⟨_,_,_,_,_,_,_,_,_,_,_,_,C⟩,D⟩
  .exact YQ (by simp[results,results22,go_sem,s0,s1,s2,s3,t0,t1]) C ⟨_,_,_,C,G,⟨_,_,_,_,_,_,_,_,_,_,_,_,C⟩,D⟩
 |ok c=>
  obtain⟨rfl,H⟩:=by
   have h:=J.o;rw[hd]at h;exact h
  obtain⟨a0,a1,a2,a3,n0,n1,n2,n3,e0,e1,e2,e3,rfl⟩:=H.shape;have a4:=I H;have a5:U<|∀W,BW o W->CP 40 #[.agg #[.slice a0 n0 e0,.slice a1 n1 e1,.slice a2 n2 e2,.slice a3 n3 e3]] W λe u=>∃v err,e=.returned (.tuple #[v,err])/\U (PJ u A (Vl c) v err)/\BW W u:=I λW t=>by
   obtain⟨⟨rfl,rfl,rfl,rfl⟩,hp⟩:=U3.mk' (HV.below<|(f.trans<|t.mono f.size)) (Xb b4.o<|Xb f.size t.size) (H.below t) hd;exact nZ W A m c a0 a1 a2 a3 e0 e1 e2 e3 hp
  have j:U<|Ti (bl s)=match Vl c with|.error e=>.error e|.ok x=>.ok (c,x):=by unfold Ti;rw[hd];rfl
  have b2:=g.lt;have b3:=i.lt;clear J hd H;go_wp2_with fail;refine Zv λW2 L=>?_;have k:Below _ _ _:=L▸Yc;have a6:U<|Ya _ _ [.slice _ _ _,.slice _ _ _,.slice _ _ _,.slice _ _ _] 80:=L▸YO;have M:=I<|f.trans<|k.mono f.size;have a7:=I<|g.below k;have a8:=I<|i.below k;have a9:=I<|a4.below k;clear L g i a4 f;refine(a5 _ k).m ?_;rintro e w3 ⟨nv,er,rfl,b0,l⟩;have b6:=I<|M.trans<|l.mono M.size;have q:=I<|a7.below l;have r:=I<|a8.below l;have O:=I<|a6.below l;have b1:=I<|a9.below l;clear k l a7 a8 a6 a9 M a5 S;obtain⟨mm,sn,rfl,p⟩:∃(mm sn:Nat),nv=.agg #[.int _ mm,.int _ sn]/\U (U7 _ A (Ti _) _ (.agg #[.int _ mm,.int _ sn]) er):=by
   have h:=b0.o;cases R:Vl c with
   |ok x=>
    rw[R]at h;obtain⟨rfl,rfl⟩:=h;exact⟨_,_,C,I<|U7.mkOk (by rw[j,R]) ⟨b1.o,C,C⟩⟩
   |error x=>
    rw[R]at h;obtain⟨rfl,h⟩:=h;refine⟨0,0,C,I<|U7.ku (by rw[j,R]) ⟨C,?_⟩⟩;rcases h with h|h
    .exact .inr<|.inr<|.inl h
    .exact .inr<|.inr<|.inr h
  clear b0 j b1;have b7:=q.lt;have b8:=r.lt;have b9:=O.lt;have f0:=q.frozen;have c0:=q.cell;have i0:=r.frozen;have j0:=r.cell;have q0:=O.cell;go_wp2_with fail;have c3:o.heap.size≠w.heap.size:=X;have c1:w.heap.size≠o.heap.size:=X;have c4:o.heap.size≠w.heap.size+1:=X;have c2:w.heap.size+1≠o.heap.size:=X;have a:=I<|B2 p b6 (Yj _) (It _ _) X q r (.slice a0 n0 e0) (.slice a1 n1 e1) (.slice a2 n2 e2) (.slice a3 n3 e3) (E mm)<|E sn;clear p q r O;go_region;all_goals
   go_wp2;change bodyPost _ _ _ _ _ ((set2 (Wj w3 w.heap.size (.slice a0 n0 e0) (.slice a1 n1 e1) (.slice a2 n2 e2)<|.slice a3 n3 e3) (w.heap.size+1) (E mm)<|E sn).alloc<|.cells #[E mm,E sn] 82).drew;clear f0 c0 i0 j0 q0;generalize set2 (Wj w3 w.heap.size (.slice a0 n0 e0) (.slice a1 n1 e1) (.slice a2 n2 e2)<|.slice a3 n3 e3) (w.heap.size+1) (E mm) (E sn)=WY at*;have d:Below _ _ (WY.alloc<|.cells #[E mm,E sn] 82).drew:=Yc.drew;have D:=I<|a.ob.trans<|d.mono a.ob.size;have G:=I<|a.oc.below d;have sx:=a.ox.below d;have sy:=a.oy.below d;have s0:=sx.cell 0;have s1:=sx.cell 1;have s2:=sx.cell 2;have s3:=sx.cell 3;have t0:=sy.cell 0;have t1:=sy.cell 1;simp only[Yf]at s0 s1 s2 s3 t0 t1;generalize(WY.alloc<|.cells #[E mm,E sn] 82).drew=WX at*;exact YQ (by simp[results,results22,go_sem,s0,s1,s2,s3,t0,t1]) C ⟨_,_,_,C,G,⟨_,_,_,_,_,_,_,_,_,_,_,_,C⟩,D⟩
