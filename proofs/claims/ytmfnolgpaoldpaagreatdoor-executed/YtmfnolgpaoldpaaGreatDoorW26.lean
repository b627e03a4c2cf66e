/- Parts. -/
import Derived.Test.YtmfnolgpaoldpaaGreatDoorW25
set_option linter.all false
set_option maxRecDepth 100000
set_option maxHeartbeats 16000000
namespace Go.Proofs.YtmfnolgpaoldpaaGreatDoor
open Go.RowKit LS Go.Proofs.Tryz
variable {a:Addr}{r:Except (Nat×Nat)<|Yb×Nat×Nat}{m p:Int}{l:LB}{c xs:List Value}{b n0 n1 n2:Nat}{A:Nat->Addr}{x:Nat×Nat}{a0 a1 a2 a3:Option Addr}{err v:Value}{w w' w0:World}
theorem B7{base:Nat}{e:TypeId}{sz g n:Nat}(h:w.ownsRow base e sz (.slice (some ⟨g,0,none⟩) n n) n xs):Ya w g xs e:=by
 rcases h.2 with⟨a,_⟩|⟨g',cap,cur,a,_,c,_,_,d,f⟩
 .cases a
 .injection a with e1 e2 e3;injection e1 with e1;injection e1 with e1;subst e1 e3;unfold Ya;rw[c];congr 2;apply Array.toList_inj.1;rw[<-f,Wm<|Sy▸d▸Yj _]
def Tz(w:World)(v:Value)(p:Int)(a:Addr):Prop:=∃fa:Nat,v=.iface 92 (Vp fa)/\w.cell? ⟨fa,1,none⟩=some (E p)/\w.cell? ⟨fa,2,none⟩=some (.iface 469<|.pointer<|some a)
theorem Tz.below(h:Tz w v p a)(c:BW w w'):Tz w' v p a:=by
 obtain⟨fa,f,d,e⟩:=h;exact⟨fa,f,(c.cell<|Xi _ _ d).trans d,(c.cell<|Xi _ _ e).trans e⟩
theorem K1{i:Int}:
 CP 84 #[E i,.iface 469<|.pointer<|some a] w λe u=>∃v,e=.returned v/\Hid (Tz u v i a)/\BW w u:=by
 go_enter func84,ntmps84;go_wp2;go_ret;exact⟨_,C,I ⟨_,C,Sm,Sm⟩,Yh⟩
def PI(w:World)(A:Nat->Addr)(r:Except (Nat×Nat) Nat)(v:Int)(err:Value):Prop:=match r with
 |.ok m=>v=m/\err=.nilIface
 |.error x=>v=0/\x.1=12/\Tz w err x.2 (A 11)
theorem PI.mkOk{r:Except (Nat×Nat) Nat}{v:Int}{m:Nat}(a:r=.ok m)(h:v=m/\err=.nilIface):PI w A r v err:=by subst a;exact h
theorem PI.ku{r:Except (Nat×Nat) Nat}{v:Int}(a:r=.error x)(h:v=0/\x.1=12/\Tz w err x.2 (A 11)):PI w A r v err:=by subst a;exact h
theorem X6.below{c:Yb}{cv pv gv iv:Value}(h:X6 w c cv pv gv iv)(a:BW w w'):X6 w' c cv pv gv iv:=by
 refine⟨Ze h.cs a,?_,?_,Ze h.is a⟩
 .obtain⟨xs,d,e,f⟩:=h.ps;exact⟨xs,Ze d a,e,λx g=>(f x g).below a⟩
 .obtain⟨xs,d,e,f⟩:=h.gs;exact⟨xs,Ze d a,e,λx g=>(f x g).below a⟩
theorem EH{B:Nat}{w:World}{b:Nat}:∀(vs:List Value)(o:Nat){W:World},Below B w W->B<=b->Below B w (W.setCells b o vs)
 |[],_,_,h,_=>h
 |v::r,o,W,h,a=>by
  rw[World.setCells];exact EH r _ (h.setCell a v) a
theorem A7{b j:Nat}:∀(vs:List Value)(o:Nat){W:World},j≠b->(W.setCells b o vs).heap[j]?=W.heap[j]?
 |[],_,_,_=>C
 |v::r,o,W,h=>by
  rw[World.setCells];exact(A7 r _ h).trans<|Go.Deep.blk_setCell_other _ _ _ _ h
structure Qm (w:World)(A:Nat->Addr)(m:Int)(c:Yb)(a0 a1 a2 a3:Option Addr)(n0 n1 n2 e0 e1 e2 e3:Nat):Prop where
 v:YC w A m
 n:20<=w.heap.size
 cv:X6 w c (.slice a0 n0 e0) (.slice a1 n1 e1) (.slice a2 n2 e2)<|.slice a3 c.jz.length e3
 ln:c.jz.length<=65535
 rf:∀i,i<c.jz.length->Zy c i (c.jz.getD i (0,0))=true
 op:∀x∈c.jz,x.1<=13/\x.2<65536
theorem rU(w:World)(A:Nat->Addr)(m:Int)(c:Yb)(a0 a1 a2 a3:Option Addr)(e0 e1 e2 e3:Nat)(h:Qm w A m c a0 a1 a2 a3 n0 n1 n2 e0 e1 e2 e3):
 CP 85 #[.agg #[.slice a0 n0 e0,.slice a1 n1 e1,.slice a2 n2 e2,.slice a3 c.jz.length e3]] w λe u=>∃v err,e=.returned (.tuple #[E v,err])/\Hid (PI u A (Tv c) v err)/\BW w u:=by
 have HP:=I h;have i8:=h.ln;obtain⟨i0,hi,i9,j0,j1⟩:=Xv Tryz.infoState;obtain⟨n,hn⟩:∃n,n=c.jz.length:=⟨_,C⟩;rw[<-hn]at i8⊢;have HN:=I hn;clear h hn;go_enter func85,ntmps85;go_wp2_with(at_make;refine It _ C _ _ 289 C (w.heap.size+1) 294 i0 _ 83 underlying289 hi i9 j0 _ _ _ _ (n+1) C C ?e1 ?e2 ?b2 ?b3 ?b4 ?_);case e1=>go_num
 case e2=>go_num
 case b2=>rw[j1];omega
 case b3=>unfold maxLen;omega
 case b4=>simp
 intro w1 e5 q;have g2:=Yc.trans ⟨q.os,q.tape,q.output,q.size,λk hk=>q.block k (by rw[Go.Deep.nblk_alloc];omega) Sm⟩;have g3:=I g2;have a4:Hid<|Ya w1 (w.heap.size+1) (YT<|List.replicate (n+1) Ys) 294:=by have:=B7 e5;rwa [mB]at this
 have e6:Hid<|Ya _ _ _ 80:=I<|(q.block _ (by rw[Go.Deep.nblk_alloc];omega) Sm).trans YO;have g0:w1.cell? ⟨w.heap.size+1,0,none⟩=some (.bool false):=by
  have:=LV (List.replicate (n+1) Ys) 0 0 Sm N;rw[a4.cell 0,show(0)=0*83+0 from C,this];simp[Tb,Ys,Y0]
 have f0:=a4.frozen 0;have d3:=e6.cell;have i5:=a4.lt;have a5:Hid<|Ya (w1.setCell ⟨w.heap.size+1,0,none⟩<|.bool true) (w.heap.size+1) (YT<|Po n) 294:=I<|by
  have h2:=a4.setk 0<|.bool true;have h3:(YT<|List.replicate (n+1) Ys).set (0*83+0) (.bool true)=YT ((List.replicate (n+1) Ys).set 0 ⟨true,false,[],List.replicate 16 0⟩):=JP Sm N<|by
   rw[show(List.replicate (n+1) Ys).getD 0 Ys=Ys from C];rfl
  rw[show(0*83+0:Nat)=0 from C]at h3;rw[h3]at h2;exact h2
 have a6:=I<|e6.other (p:=⟨w.heap.size+1,0,none⟩) (by show w.heap.size≠w.heap.size+1;omega)<|.bool true;have D:Hid<|Below _ w<|w1.setCell ⟨w.heap.size+1,0,none⟩<|.bool true:=I<|g3.setCell (by show w.heap.size<=w.heap.size+1;omega) _;clear e5 q g2 g3 a4 e6;go_wp2;go_loopw [5,20] (λmv iv wr=>∃(k mo:Nat)(l:List Ah),k<=n/\iv=E k/\mv=E mo/\mo<=64/\l.length=n+1/\Hid (Z3 c k=.ok (l,mo))/\Hid (∀x∈l,X4 x)/\Hid (Ya wr (w.heap.size+1) (YT l) 294)/\Hid (Ya wr w.heap.size [.slice a0 n0 e0,.slice a1 n1 e1,.slice a2 n2 e2,.slice a3 n e3] 80)/\Hid (BW w wr))
  (λ_ iv _=>n-(intOf iv).toNat);case atStart=>exact⟨0,0,Po n,Yr _,C,C,N,by simp[Po],I<|by rw[HN];rfl,I<|lF n,a5,a6,D⟩
 case round=>
  obtain⟨k,mo,l,hk,rfl,rfl,j2,g4,g5,F,c5,c6,G⟩:=hrel;clear a5 a6 D g0 f0 d3 i5;have R:=I g4;clear g4;by_cases l2:k<n
  .have l3:(k:Int)<n:=X;obtain⟨x,hx⟩:∃x,x=c.jz.getD k (0,0):=⟨_,C⟩;have HX:=I hx;obtain⟨op,arg⟩:=x;have a7:k<c.jz.length:=by rwa [<-HN.out]
   have e7:c.jz[k]=(op,arg):=by rw[hx,Y0,List.getElem?_eq_getElem a7];rfl
   have c7:=I (HP.cv.below G.out).is;obtain⟨gi,cpi,j3⟩:=Zm c7.out X;injection j3 with hgi1 hgi2 hgi3;subst hgi1;have i0c:=Zc c7 _ _ (SA _ k a7).1;have i1c:=Zc c7 _ _ (SA _ k a7).2;rw[e7]at i0c i1c;simp only at i0c i1c;have k8:=ZN c7;have j4:=HP.op _<|e7▸List.getElem_mem a7;obtain⟨e8,i6⟩:=j4;simp only at e8 i6;have c8:Hid<|Zy c k (op,arg)=true:=by have:=HP.rf k a7;rwa [<-hx]at this
   obtain⟨a,ha⟩:∃a,a=l.getD k Ys:=⟨_,C⟩;have c9:=I ha;have S:Hid _:=ha▸Mo F.out k;have g6:=I λo=>World.rangeAt_alloc (c5.range _ _ λj hj=>by
    rw[Ux]at hj;rw[LV l k j (by rw[R];omega) hj,Tx a j hj,<-c9]) o;have g7:Hid ((prog.info? 294).map (·.size)=some (Xn a).length):=by rw[Ux];exact Tryz.infoSt
   have g8:Hid ((prog.info? 294).map (·.size)=some (Xn a).toArray.size):=by rwa [Oi,Ux]
   have g9:=I<|all_oneCell_toArray<|zf a;have i1:Hid<|∀o1,((wr.alloc _).alloc _).there _ 0 (Xn a).toArray.size:=I λo1=>by
    have h1:Ya ((wr.alloc o1).alloc<|.cells (Xn Ys).toArray 294) (wr.heap.size+1) (Xn Ys) 294:=by
     have:=Go.Deep.blk_alloc_new (wr.alloc o1)<|.cells (Xn Ys).toArray 294;rwa [Go.Deep.nblk_alloc]at this
    exact h1.there 0 _<|by rw[Oi,Ux,Ux];omega
   have j5:=(zero_of_info<|by have:=Tryz.infoState;simp only[RV]at this⊢;obtain⟨j,j6,j7⟩:=this;exact⟨j,j6,by injection j7 with e1 e2;injection e2 with e2 e3;rw[e1,e2]⟩).1;have r3:=c6.cell;have k9:=c5.lt;have l0:=c6.lt;clear hx ha e7 hgi2 hgi3;go_upto_region 8 with(first
    |refine wpList_load_mid C 294 (.tmp 27) C (w.heap.size+1) (k*83) C (Xn a) _ (g6.out _) underlying294 C g7.out ?_
    |refine wpList_store_mid C 294 (.tmp 8) (.tmp 28) C (wr.heap.size+1) 0 (Xn a).toArray C C (i1.out _) g8.out g9.out ?_);refine Zs λW hW=>?_;have d0:Below _ _ W:=hW▸EH (Xn a) 0 (Yc.alloc Sm _) X;have e9:Hid<|YW W (wr.heap.size+1) a:=by
    rw[hW];have h1:Ya ((wr.alloc<|Obj.cells #[E op,E arg] 137).alloc<|.cells (Xn Ys).toArray 294) (wr.heap.size+1) (Xn Ys) 294:=by
     have:=Go.Deep.blk_alloc_new (wr.alloc<|Obj.cells #[E op,E arg] 137)<|.cells (Xn Ys).toArray 294;rwa [Go.Deep.nblk_alloc]at this
    have h2:=Ya.setCells (Xn a) 0 h1;rw[iF]at h2;exact h2
   have d1:Hid<|Ya W wr.heap.size [E op,E arg] 137:=by
    rw[hW];refine(A7 _ 0 X).trans ?_;exact(Yc.block _ Sm).trans YO
   have f1:=I<|c5.below d0;have d2:=I<|c6.below d0;have O:=I<|G.trans<|d0.mono G.size;clear hW d0 i0c i1c r3 g6 i1 j5 g7 g8 g9;obtain⟨c0,c1,c2⟩:=YW.cells e9;have o0:=d1.cell 0;have o1:=d1.cell 1;have q0:=d2.cell;simp only[Yf]at o0 o1;have d4:Hid<|Z3 c (k+1)=SC c k l mo:=by show(match Z3 c k with|.error e=>_|.ok x=>_)=_;rw[g5]
   cases B:a.kj with
   |false=>
    rw[B]at c0;have r:Hid<|Z3 c (k+1)=.ok (l,mo):=by rw[d4];unfold SC;simp only;rw[<-c9,B];rfl
    go_wp2;go_roundw;case rel=>exact⟨k+1,mo,l,X,by go_num,C,j2,R,r,F,f1,d2,O⟩
    case measure=>simp[intOf];omega
   |true=>
    rw[B]at c0;cases T:a.kw with
    |true=>
     rw[T]at c1;have a8:Hid<|Tv c=.error _:=I<|by
      unfold Tv;rw[GQ (by rw[d4];unfold SC;simp only;rw[<-c9,B,T];rfl) _ X]
     have gs:W.cell? ⟨11,0,none⟩=some _:=(HP.v.below O).sent _ N;go_wp2_with fail;refine(K1).mono ?_;rintro e w9 ⟨v,rfl,HE,H⟩;have a9:=I<|O.trans<|H.mono O.size;obtain⟨fa,rfl,b0,b1⟩:=HE.out;clear H b0 b1;go_wp2;go_ret2;exact⟨_,_,C,I<|PI.ku a8 ⟨C,C,HE⟩,a9⟩
    |false=>
     rw[T]at c1;have i2:Hid<|Qk W _ a c _ _ _ _ _ _ _ _ _ n _ _ _ _:=I ⟨e9,by have:=HP.cv.below O;rwa [<-HN]at this,⟨k,c8⟩,S.ln,S.sl,S.kd⟩;have f2:Hid<|Z3 c (k+1)=match Zr c (op,arg) a.jy a.jx with
      |none=>.error (12,k)
      |some s=>.ok (goOn (op,arg) k s.1 s.2 l,max mo s.1.length):=by rw[d4];unfold SC;simp only;rw[<-c9,B,T,<-HX];rfl
     go_wp2_with fail;refine(iP W a c n i2 e8).mono ?_;rintro e z ⟨ok,rfl,HD⟩;have b5:=HD.2.2;have a5:=I<|f1.grown b5<|by intro e;injection e with e;omega
     have a6:=I<|d2.grown b5<|by intro e;injection e with e;omega
     have d5:=I<|d1.grown b5<|by intro e;injection e with e;omega
     have D:=I<|Uz O b5<|by have:=G.size;omega
     clear b5 f1 d2 d1 O i2 e9 c0 c1 c2 o0 o1 q0;cases J:Zr c (op,arg) a.jy a.jx with
     |none=>
      have f3:ok=false:=by have:=HD.1;rw[J]at this;exact this
      subst f3;have a8:Hid<|Tv c=.error _:=I<|by
       unfold Tv;rw[GQ (by rw[f2,J]) _ X]
      clear HD J;have gs:z.cell? ⟨11,0,none⟩=some _:=(HP.v.below D).sent _ N;go_wp2_with fail;refine(K1).mono ?_;rintro e w9 ⟨v,rfl,HE,H⟩;have a9:=I<|D.trans<|H.mono D.size;obtain⟨fa,rfl,b0,b1⟩:=HE.out;clear H b0 b1;go_wp2;go_ret2;exact⟨_,_,C,I<|PI.ku a8 ⟨C,C,HE⟩,a9⟩
     |some s=>
      obtain⟨st,sl⟩:=s;have f3:ok=true:=by have:=HD.1;rw[J]at this;exact this
      subst f3;obtain⟨b,b6⟩:∃b:Ah,b=⟨true,false,st,sl⟩:=⟨_,C⟩;have f4:Hid<|YW z (wr.heap.size+1) b:=by
       have:=HD.2.1 _ _ J;rw[B,T]at this;rw[b6];exact this
      obtain⟨t1,t2,t3⟩:=zh c8.out S.ln S.kd S.sl J;have P:Hid<|X4 b:=b6▸⟨t1,t2,t3⟩;have r:Hid<|Z3 c _=.ok (goOn _ k st sl l,max _ st.length):=I<|by rw[f2,J]
      have g:=I b6;have f5:b.jy=st:=by rw[b6]
      have d6:Hid ((prog.info? 294).map (·.size)=some (Xn b).length):=by rw[Ux];exact Tryz.infoSt
      have c2:=(YW.cells f4).2.2;rw[f5]at c2;have o0:=d5.cell 0;have o1:=d5.cell 1;simp only[Yf]at o0 o1;obtain⟨sn,i3⟩:∃sn,sn=st.length:=⟨_,C⟩;rw[<-i3]at c2 t1 r;clear HD J f2 d4 b6 f5 t2 t3 i3 B T;go_wp2_with fail;refine(uY).mono ?_;rintro e w3 ⟨rfl,U⟩;have f6:=I<|a5.below U;have f7:=I<|a6.below U;have L:=I<|d5.below U;have V:Hid<|YW _ _ b:=I<|f4.below U;have f8:=I<|D.trans<|U.mono D.size;clear U a5 a6 d5 f4 D o0 o1 c2;have o0:=L.cell 0;have o1:=L.cell 1;simp only[Yf]at o0 o1;have d7:Hid<|∀(l':List _)(j:Nat),(∀x∈l',X4 x)->∀x∈l'.set j<|ZZ _ st sl,X4 x:=I λl' j h=>iI h (CE (Mo h j) (by have:=P.ln;rw[g]at this;exact this) (by have:=P.kd;rw[g]at this;exact this)<|by have:=P.sl;rw[g]at this;exact this) j;by_cases h9:op=9
      .subst h9;rw[show TC 9=true from C];have j8:k<arg/\arg<=n:=by have:=c8.out;rw[HN];simpa [Zy]using this
       have i7:(arg:Int)<(n)+1:=X;go_upto_region 13 with fail;refine ZW 5 (λu=>u.cell? _=some _/\u.rangeAt _ 0 _) Kr ⟨by simpa using L.cell 1,by simpa using V.range 0 _ λj _=>by rw[SK]⟩ λd=>?_;refine Za 0 d (h:=Za 1 d (h:=Za 2 d (h:=Za 3 d (h:=?_))));refine Tk (i:=4) C C Kr (λ_ _ _ h=>h) (yieldsIf_load_mid (by rfl) _ _ C _ 0 C _ _ (λw hw=>hw.2) underlying294 C d6) d ?rsp4;case rsp4=>
       try simp only[Yt]
       refine ZS Kr Kr C Kr λK Q=>?_;go_simp;refine(JM l b (by rw[R];omega) (f6.below<|(Ym _ _).drew) (Mo F _) P (by rw[g])<|by rw[g]).mono ?_;rintro e w5 ⟨rfl,t,f⟩;refine Q _ _ ?_;have Y:Hid<|Ya w5 (w.heap.size+1) (YT<|l.set arg<|ZZ (l.getD arg Ys) st sl) 294:=by have:=t.out;rw[g]at this;exact this
       have M:=I<|(L.below<|(Ym _ _).drew).grown f<|by intro e;injection e with e;omega
       have b7:=I<|(f7.below<|(Ym _ _).drew).grown f<|by intro e;injection e with e;omega
       have d8:Hid<|YW _ _ b:=I<|(V.below<|(Ym _ _).drew).grown f<|by intro e;injection e with e;omega
       have b8:=I<|Uz f8.drew f X;clear Q K d f t o0 o1;have o0:=M.cell;go_wp2;go_roundw;case rel=>exact⟨k+1,max _ _,l.set _ _,X,by go_num,by first|rfl|go_num|(congr 1;omega),X,by rwa [Qw],r,I<|d7 l _ F,Y,b7,b8⟩
       case measure=>simp[intOf];omega
      .by_cases i4:op=10
       .subst i4;rw[show TC _=true from C];have j8:k<arg/\arg<=n:=by have:=c8.out;rw[HN];simpa [Zy]using this
        have i7:(arg:Int)<(n)+1:=X;go_upto_region 13 with fail;refine ZW 5 (λu=>u.cell? _=some _/\u.rangeAt _ 0 _) Kr ⟨by simpa using L.cell 1,by simpa using V.range 0 _ λj _=>by rw[SK]⟩ λd=>?_;refine Za 0 d (h:=Za 1 d (h:=Za 2 d (h:=Za 3 d (h:=?_))));refine Tk (i:=4) C C Kr (λ_ _ _ h=>h) (yieldsIf_load_mid (by rfl) _ _ C _ 0 C _ _ (λw hw=>hw.2) underlying294 C d6) d ?rsq4;case rsq4=>
        try simp only[Yt]
        refine ZS Kr Kr C Kr λK Q=>?_;go_simp;refine(JM l b (by rw[R];omega) (f6.below<|(Ym _ _).drew) (Mo F _) P (by rw[g])<|by rw[g]).mono ?_;rintro e w5 ⟨rfl,t,f⟩;refine Q _ _ ?_;have Y:Hid<|Ya w5 (w.heap.size+1) (YT<|l.set arg<|ZZ (l.getD arg Ys) st sl) 294:=by have:=t.out;rw[g]at this;exact this
        have M:=I<|(L.below<|(Ym _ _).drew).grown f<|by intro e;injection e with e;omega
        have b7:=I<|(f7.below<|(Ym _ _).drew).grown f<|by intro e;injection e with e;omega
        have d8:Hid<|YW _ _ b:=I<|(V.below<|(Ym _ _).drew).grown f<|by intro e;injection e with e;omega
        have b8:=I<|Uz f8.drew f X;clear Q K d f t o0 o1;have o0:=M.cell 0;have o1:=M.cell 1;simp only[Yf]at o0 o1;obtain⟨l1,b9⟩:∃l1,l1=l.set arg (ZZ (l.getD arg Ys) st sl):=⟨_,C⟩;have j9:Hid<|l1.length=n+1:=by rwa [b9,Qw]
        have f9:Hid _:=b9▸d7.out l arg F.out;rw[<-b9]at Y;have c4:Hid<|Z3 c (k+1)=.ok (l1.set (k+1)<|ZZ (l1.getD (k+1) Ys) st sl,max mo sn):=by rw[r,b9];rfl
        clear b9 r;have r:=c4;have k0:(k:Int)+1<(n)+1:=X;have k1:IntKind.i64.wrap ((k)+1)=(k)+1:=by rw[Us];omega
        have k2:0<=(k:Int)+1:=X;go_upto_region 15 with fail;refine ZW 5 (λu=>u.cell? _=some _/\u.rangeAt _ 0 _) Kr ⟨by simpa using M.cell 1,by simpa using d8.range 0 _ λj _=>by rw[SK]⟩ λd=>?_;refine Za 0 d (h:=Za 1 d (h:=Za 2 d (h:=Za 3 d (h:=?_))));refine Tk (i:=4) C C Kr (λ_ _ _ h=>h) (yieldsIf_load_mid (by rfl) _ _ C _ 0 C _ _ (λw hw=>hw.2) underlying294 C d6) d ?rsr4;case rsr4=>
        try simp only[Yt]
        refine ZS Kr Kr C Kr λK Q=>?_;go_simp;refine(JM _ b (by rw[j9];omega) (Y.below<|(Ym _ _).drew) (Mo f9 _) P (by rw[g])<|by rw[g]).mono ?_;rintro e w7 ⟨rfl,t,c3⟩;refine Q _ _ ?_;have k3:Hid<|Ya w7 (w.heap.size+1) (YT<|l1.set (k+1)<|ZZ (l1.getD (k+1) Ys) st sl) 294:=by have:=t.out;rw[g]at this;exact this
        have k4:=I<|(M.below<|(Ym _ _).drew).grown c3<|by intro e;injection e with e;omega
        have k5:=I<|(b7.below<|(Ym _ _).drew).grown c3<|by intro e;injection e with e;omega
        have l4:Hid<|YW _ _ b:=I<|(d8.below<|(Ym _ _).drew).grown c3<|by intro e;injection e with e;omega
        have k6:=I<|Uz b8.drew c3 X;clear Q K d c3 t o0 o1;have o0:=k4.cell;go_wp2;go_roundw;case rel=>exact⟨k+1,max _ _,l1.set _ _,X,by go_num,by first|rfl|go_num|(congr 1;omega),X,by rwa [Qw],r,I<|d7 _ _ f9,k3,k5,k6⟩
        case measure=>simp[intOf];omega
       .have g1:TC op=false:=by unfold TC;simp[h9,i4]
        rw[g1];have l5:((op:Int) !=9)=true:=by rw[Vg];omega
        have c4:Hid<|Z3 c (k+1)=.ok (l.set (k+1)<|ZZ (l.getD (k+1) Ys) st sl,max mo sn):=by
         rw[r];unfold goOn;simp only[g1,Yd h9];rfl
        clear r g1;have r:=c4;have k0:(k:Int)+1<(n)+1:=X;have k1:IntKind.i64.wrap ((k)+1)=(k)+1:=by rw[Us];omega
        have k2:0<=(k:Int)+1:=X;go_upto_region 15 with fail;refine ZW 5 (λu=>u.cell? _=some _/\u.rangeAt _ 0 _) Kr ⟨by simpa using L.cell 1,by simpa using V.range 0 _ λj _=>by rw[SK]⟩ λd=>?_;refine Za 0 d (h:=Za 1 d (h:=Za 2 d (h:=Za 3 d (h:=?_))));refine Tk (i:=4) C C Kr (λ_ _ _ h=>h) (yieldsIf_load_mid (by rfl) _ _ C _ 0 C _ _ (λw hw=>hw.2) underlying294 C d6) d ?rss4;case rss4=>
        try simp only[Yt]
        refine ZS Kr Kr C Kr λK Q=>?_;go_simp;refine(JM l b (by rw[R];omega) (f6.below<|(Ym _ _).drew) (Mo F _) P (by rw[g])<|by rw[g]).mono ?_;rintro e w5 ⟨rfl,t,f⟩;refine Q _ _ ?_;have Y:Hid<|Ya w5 (w.heap.size+1) (YT<|l.set (k+1)<|ZZ (l.getD (k+1) Ys) st sl) 294:=by have:=t.out;rw[g]at this;exact this
        have M:=I<|(L.below<|(Ym _ _).drew).grown f<|by intro e;injection e with e;omega
        have b7:=I<|(f7.below<|(Ym _ _).drew).grown f<|by intro e;injection e with e;omega
        have d8:Hid<|YW _ _ b:=I<|(V.below<|(Ym _ _).drew).grown f<|by intro e;injection e with e;omega
        have b8:=I<|Uz f8.drew f X;clear Q K d f t o0 o1;have o0:=M.cell;go_wp2;go_roundw;case rel=>exact⟨k+1,max _ _,l.set _ _,X,by go_num,by first|rfl|go_num|(congr 1;omega),X,by rwa [Qw],r,I<|d7 l _ F,Y,b7,b8⟩
        case measure=>simp[intOf];omega
  .obtain rfl:k=n:=X;have r3:=c6.cell;have d9:Hid<|Tv c=if Ro (l.getD k _)then .ok mo else .error _:=I<|by
    unfold Tv;rw[<-HN,g5]
   have l6:(k:Int)<(k)+1:=X;have e4:=I<|pW k l (by rw[R];omega) c5;cases Z:Ro (l.getD k Ys)with
   |true=>
    rw[Z]at e4;have k7:Hid<|Tv c=.ok mo:=by rw[d9,Z];rfl
    clear Z d9;go_wp2_with fail;refine e4.mono ?_;rintro e wq ⟨rfl,rfl⟩;go_wp2;go_ret2;exact⟨_,_,C,I<|PI.mkOk k7 ⟨C,C⟩,G⟩
   |false=>
    rw[Z]at e4;have a8:Hid<|Tv c=.error (12,k):=by rw[d9,Z];rfl
    clear Z d9;go_wp2_with fail;refine e4.mono ?_;rintro e wq ⟨rfl,rfl⟩;have gs:wq.cell? ⟨11,0,none⟩=some _:=(HP.v.below G).sent _ N;go_wp2_with fail;refine(K1).mono ?_;rintro e w9 ⟨v,rfl,HE,H⟩;have a9:=I<|G.trans<|H.mono G.size;obtain⟨fa,rfl,b0,b1⟩:=HE.out;clear H b0 b1;go_wp2;go_ret2;exact⟨_,_,C,I<|PI.ku a8 ⟨C,C,HE⟩,a9⟩
theorem uX(w:World)(c:Yb)(i op arg:Nat)(a0 a1 a2 a3:Option Addr)(e0 e1 e2 e3:Nat)(k:op<=13)(j:arg<65536):
 CP 83 #[.agg #[.slice a0 c.jq.length e0,.slice a1 c.jw.length e1,.slice a2 c.jv.length e2,.slice a3 c.jz.length e3],E i,.agg #[E op,E arg]] w λe u=>e=.returned (.bool<|Zy c i (op,arg))/\BW w u:=by
 obtain⟨nc,d⟩:∃nc,nc=c.jq.length:=⟨_,C⟩;obtain⟨np,f⟩:∃np,np=c.jw.length:=⟨_,C⟩;obtain⟨ng,g⟩:∃ng,ng=c.jv.length:=⟨_,C⟩;obtain⟨ni,h⟩:∃ni,ni=c.jz.length:=⟨_,C⟩;rw[<-d,<-f,<-g,<-h];have a:Hid<|nc=c.jq.length/\np=c.jw.length/\ng=c.jv.length/\ni=c.jz.length:=I ⟨d,f,g,h⟩;clear d f g h;rcases(X:op=0∨op=1∨op=2∨op=3∨op=4∨op=5∨op=6∨op=7∨op=8∨op=9∨op=10∨op=11∨op=12∨op=13)with rfl|rfl|rfl|rfl|rfl|rfl|rfl|rfl|rfl|rfl|rfl|rfl|rfl|rfl;all_goals
  go_enter func83,ntmps83;go_wp2;all_goals
   go_ret;refine⟨VY ?_,Yh⟩;first
    |(simp only[Zy,<-a.1,<-a.2.1,<-a.2.2.1,<-a.2.2.2];done)
    |(simp only[Zy,<-a.1,<-a.2.1,<-a.2.2.1,<-a.2.2.2];rw[Ud];simp;done)
    |(simp only[Zy,<-a.1,<-a.2.1,<-a.2.2.1,<-a.2.2.2];rw[Ud];simp;omega)
theorem eh(w:World)(A:Nat->Addr)(m:Int)(c:Yb)(a0 a1 a2 a3:Option Addr)(e0 e1 e2 e3:Nat)(h:Qm w A m c a0 a1 a2 a3 n0 n1 n2 e0 e1 e2 e3):
 CP 86 #[.agg #[.slice a0 n0 e0,.slice a1 n1 e1,.slice a2 n2 e2,.slice a3 c.jz.length e3]] w λe u=>e=.returned (E (UT c.jz:Nat))/\BW w u:=by
 have B:=I h;have D:=h.ln;obtain⟨n,t⟩:∃n,n=c.jz.length:=⟨_,C⟩;rw[<-t]at D⊢;have F:=I t;clear h t;go_enter func86,ntmps86;go_wp2;go_loopw [3,9] (λsv iv wr=>∃(k s:Nat),k<=n/\iv=E k/\sv=E s/\s<=65536/\Hid (s=UT (c.jz.take k))/\Hid (BW w wr))
  (λ_ iv _=>n-(intOf iv).toNat);case atStart=>exact⟨0,0,Yr _,C,C,N,I C,I Yh⟩
 case round=>
  obtain⟨k,s,R,rfl,rfl,M,G,f⟩:=hrel;by_cases H:k<n
  .have Q:(k:Int)<n:=X;have g:k<c.jz.length:=by rw[<-F.out];exact H
   have a:=I (B.cv.below f.out).is;obtain⟨gi,cpi,J⟩:=Zm a.out X;injection J with hgi1 hgi2 hgi3;subst hgi1;have i0c:=Zc a.out _ _ (SA c.jz k g).1;have i1c:=Zc a.out _ _ (SA c.jz k g).2;have O:=ZN a.out;have K:=B.op c.jz[k]<|List.getElem_mem g;have d:Hid<|UT (c.jz.take<|k+1)=if Pj c.jz[k].1 then max s (c.jz[k].2+1)else s:=I<|by rw[List.take_succ_eq_append_getElem g,zd,<-G.out]
   generalize c.jz[k]=x at*;obtain⟨op,arg⟩:=x;simp only at i0c i1c d K;clear hgi2 hgi3 a;go_wp2_with fail;refine Zv λW v=>?_;have p:BW wr W:=by rw[v];exact Yc
   have i:Hid<|BW w W:=I<|f.trans<|p.mono f.size;have q:Hid<|Ya W wr.heap.size [E op,E arg] 137:=I<|by rw[v];exact YO
   clear v p i0c i1c;refine(rM op arg W).mono ?_;rintro e z ⟨rfl,j⟩;have r:Hid<|BW w z:=I<|i.trans<|j.mono i.size;have L:=I<|q.below j;clear j q i;have o1:=L.cell;cases o:Pj op with
   |true=>
    have l:Hid<|UT (c.jz.take<|k+1)=max s (arg+1):=I<|by rw[d.out,o];rfl
    clear o d;go_wp2;go_roundw;case rel=>exact⟨k+1,max s<|arg+1,X,by go_num,by first|rfl|go_num|(congr 1;omega),X,I l.symm,r⟩
    case measure=>simp[intOf];omega
   |false=>
    have l:Hid<|UT (c.jz.take<|k+1)=s:=I<|by rw[d.out,o];rfl
    clear o d;go_wp2;go_roundw;case rel=>exact⟨k+1,s,X,by go_num,C,M,I l.symm,r⟩
    case measure=>simp[intOf];omega
  .obtain rfl:k=n:=X;have P:Hid<|s=UT c.jz:=I<|by rw[G.out,F.out,X1]
   go_wp2;go_ret;exact⟨JC<|by rw[P.out],f.out⟩
def PJ(w:World)(A:Nat->Addr)(r:Except (Nat×Nat)<|Nat×Nat)(v err:Value):Prop:=match r with
 |.ok x=>v=.agg #[.int .i64 x.1,.int .i64 x.2]/\err=.nilIface
 |.error x=>v=.agg #[.int .i64 0,.int .i64 0]/\((x.1=11/\Tz w err x.2 (A 10))∨(x.1=12/\Tz w err x.2 (A 11)))
theorem PJ.mkOk{r:Except (Nat×Nat)<|Nat×Nat}(a:r=.ok x)(h:v=.agg #[E x.1,E x.2]/\err=.nilIface):PJ w A r v err:=by subst a;exact h
theorem PJ.ku{r:Except (Nat×Nat)<|Nat×Nat}(a:r=.error x)(h:v=.agg #[E 0,E 0]/\((x.1=11/\Tz w err x.2 (A 10))∨(x.1=12/\Tz w err x.2 (A 11)))):PJ w A r v err:=by subst a;exact h
theorem JJ{a:Nat}(h:BW w0 w)(c:w0.heap.size<=a)(x y:Value):BW w0<|set2 w a x y:=
 (h.setCell (p:=⟨a,0,none⟩) c _).setCell (p:=⟨a,1,none⟩) c _
theorem D4(h:Tz w v p a)(i:∀fa:Nat,v=.iface 92 (Vp fa)->fa≠b)(x y:Value):Tz (set2 w b x y) v p a:=by
 obtain⟨fa,f,c,d⟩:=h;have g:=i fa f;have e:(set2 w b x y).heap[fa]?=w.heap[fa]?:=G7 w b x y g;refine⟨fa,f,?_,?_⟩
 .unfold World.cell? at c⊢;simp only at c⊢;rw[e];exact c
 .unfold World.cell? at d⊢;simp only at d⊢;rw[e];exact d
theorem BE{c:Yb}:∀(k:Nat),Vj c k=.ok ()->∀i,i<k->Zy c i (c.jz.getD i (0,0))=true
 |0,_,i,d=>by omega
 |k+1,h,i,d=>by
  unfold Vj at h;cases a:Vj c k with
  |error e=>rw[a]at h;cases h
  |ok u=>
   rw[a]at h;simp only at h;by_cases e:i=k
   .subst e;cases f:Zy c i<|c.jz.getD i (0,0)with
    |true=>rfl
    |false=>rw[f]at h;cases h
   .exact BE k a i X
structure U3 (w:World)(A:Nat->Addr)(m:Int)(c:Yb)(a0 a1 a2 a3:Option Addr)(e0 e1 e2 e3:Nat):Prop where
 v:YC w A m
 n:20<=w.heap.size
 cv:X6 w c (.slice a0 c.jq.length e0) (.slice a1 c.jw.length e1) (.slice a2 c.jv.length e2)<|.slice a3 c.jz.length e3
 ln:c.jz.length<=65535
 op:∀x∈c.jz,x.1<=13/\x.2<65536
theorem U3.high{c:Yb}{e0 e1 e2 e3:Nat}(h:U3 w A m c a0 a1 a2 a3 e0 e1 e2 e3)(a:BW w w')(d:Vj c c.jz.length=.ok ()):Qm w' A m c a0 a1 a2 a3 c.jq.length c.jw.length c.jv.length e0 e1 e2 e3:=
 ⟨h.v.below a,Xb h.n a.size,h.cv.below a,h.ln,λi e=>BE _ d i e,h.op⟩
theorem mg(w:World)(A:Nat->Addr)(m:Int)(c:Yb)(a0 a1 a2 a3:Option Addr)(e0 e1 e2 e3:Nat)(h:U3 w A m c a0 a1 a2 a3 e0 e1 e2 e3):
 CP 40 #[.agg #[.slice a0 c.jq.length e0,.slice a1 c.jw.length e1,.slice a2 c.jv.length e2,.slice a3 c.jz.length e3]] w λe u=>∃v err,e=.returned (.tuple #[v,err])/\Hid (PJ u A (Vl c) v err)/\BW w u:=by
 have HP:=I h;have b1:=h.ln;have a4:Hid<|∀(W:World)(i op arg:Nat),op<=13->arg<65536->CP 83 #[.agg #[.slice a0 c.jq.length e0,.slice a1 c.jw.length e1,.slice a2 c.jv.length e2,.slice a3 c.jz.length e3],E i,.agg #[E op,E arg]] W _:=I λW i op arg O P=>uX W c i op arg a0 a1 a2 a3 e0 e1 e2 e3 O P;have a5:Hid<|∀W,BW w W->Vj c c.jz.length=.ok ()->CP 85 #[.agg #[.slice a0 c.jq.length e0,.slice a1 c.jw.length e1,.slice a2 c.jv.length e2,.slice a3 c.jz.length e3]] W _:=I λW O P=>rU W A m c a0 a1 a2 a3 e0 e1 e2 e3<|h.high O P;have a6:Hid<|∀W,BW w W->Vj c c.jz.length=.ok ()->CP 86 #[.agg #[.slice a0 c.jq.length e0,.slice a1 c.jw.length e1,.slice a2 c.jv.length e2,.slice a3 c.jz.length e3]] W _:=I λW O P=>eh W A m c a0 a1 a2 a3 e0 e1 e2 e3<|h.high O P;obtain⟨n,hn⟩:∃n,n=c.jz.length:=⟨_,C⟩;rw[<-hn]at b1 a4 a5 a6⊢;generalize c.jq.length=n0 at*;generalize c.jw.length=n1 at*;generalize c.jv.length=n2 at*;have HN:=I hn;clear h hn;go_enter func40,ntmps40;go_wp2;go_loopw [11] (λiv wr=>∃k:Nat,k<=n/\iv=E k/\Hid (Vj c k=.ok ())/\Hid (Ya wr w.heap.size [.slice a0 n0 e0,.slice a1 n1 e1,.slice a2 n2 e2,.slice a3 n e3] 80)/\Hid (Ya wr (w.heap.size+1) [E 0,E 0] 82)/\Hid (BW w wr))
  (λiv _=>n-(intOf iv).toNat);case atStart=>
  refine⟨0,Yr _,C,I C,I<|(Yc.block _ Sm).trans YO,I ?_,I Yh⟩;have:=Go.Deep.blk_alloc_new (w.alloc<|.cells #[.slice a0 n0 e0,.slice a1 n1 e1,.slice a2 n2 e2,.slice a3 n e3] 80)<|.cells #[E 0,E 0] 82;rwa [Go.Deep.nblk_alloc]at this
 case round=>
  obtain⟨k,hk,rfl,B,d,l,f⟩:=hrel;have q0:=d.cell 0;have q1:=d.cell 1;have q2:=d.cell 2;have q3:=d.cell 3;simp only[Yf]at q0 q1 q2 q3;have c1:=d.lt;have c2:=l.lt;by_cases b2:k<n
  .have c3:(k:Int)<n:=X;have D:k<c.jz.length:=by rw[<-HN.out];exact b2
   have p:=I (HP.cv.below f.out).is;obtain⟨gi,cpi,b3⟩:=Zm p.out X;injection b3 with hgi1 hgi2 hgi3;subst hgi1;have i0c:=Zc p.out _ _ (SA c.jz k D).1;have i1c:=Zc p.out _ _ (SA c.jz k D).2;have c0:=ZN p.out;have Q:=HP.op c.jz[k]<|List.getElem_mem D;have q:Hid<|Vj c (k+1)=if Zy c k c.jz[k]then .ok ()else .error (11,k):=I<|by
    show(match Vj c k with|.error e=>_|.ok _=>_)=_;rw[B.out];simp only;rw[Y0,List.getElem?_eq_getElem D];rfl
   generalize c.jz[k]=x at*;obtain⟨op,arg⟩:=x;simp only at i0c i1c q Q;clear hgi2 hgi3 p;go_wp2_with fail;refine Zv λW hW=>?_;have F:BW wr W:=by rw[hW];exact Yc
   have R:Hid<|BW w W:=I<|f.trans<|F.mono f.size;have a7:=I<|d.below F;have a8:=I<|l.below F;clear hW F i0c i1c d l f q0 q1 q2 q3;refine(a4.out W k op arg Q.1 Q.2).mono ?_;rintro e z ⟨rfl,G⟩;have H:Hid<|BW w z:=I<|R.trans<|G.mono R.size;have b4:=I<|a7.below G;have a9:=I<|a8.below G;clear G a7 a8 R;cases hh:Zy c k (op,arg)with
   |true=>
    have b5:Hid<|Vj c (k+1)=.ok ():=I<|by rw[q.out,hh];rfl
    clear hh q;go_wp2;go_roundw;case rel=>exact⟨k+1,X,by go_num,b5,b4,a9,H⟩
    case measure=>simp[intOf];omega
   |false=>
    have s:Hid<|Vl c=.error (11,k):=I<|by
     unfold Vl;rw[BG (k:=k+1) (e:=(11,k)) (by rw[q.out,hh];rfl) _ X]
    have gs:z.cell? ⟨10,0,none⟩=some (.iface 469<|.pointer<|some<|A 10):=(HP.v.below H.out).sent _ N;clear hh q;go_wp2_with fail;refine(K1).mono ?_;rintro e w9 ⟨v,rfl,S,T⟩;have b6:Hid<|BW w w9:=I<|H.trans<|T.mono H.size;have J:=I<|a9.below T;clear T;obtain⟨fa,rfl,U,g⟩:=S.out;have V:Hid<|∀fb:Nat,Value.iface 92 (Vp fa)=.iface 92 (Vp fb)->fb≠w.heap.size+1:=I λfb e1 e2=>by
     injection e1 with _ e1;injection e1 with e1;injection e1 with e1;injection e1 with e1;subst e1;subst e2;rw[J.cell 2]at g;cases g
    clear U g;have f0:=J.frozen;have z0:=J.cell;go_wp2;exact Ss (r:=.tuple #[.agg #[E 0,E 0],.iface 92<|Vp fa]) (λW s0 s1=>by simp[results,results40,go_sem,s0,s1]) C J.out ⟨_,_,C,I<|PJ.ku s.out ⟨C,Or.inl ⟨C,D4 S.out V.out (E 0)<|E 0⟩⟩,JJ (w0:=w) (a:=w.heap.size+1) b6.out (KE _) (E 0)<|E 0⟩
  .obtain rfl:k=n:=X;have b0:Hid<|Vj c c.jz.length=.ok ():=I<|by rw[<-HN.out];exact B.out
   go_wp2_with fail;refine(a5.out wr f.out B.out).mono ?_;rintro e w5 ⟨v,err,rfl,j,K⟩;have L:Hid<|BW w w5:=I<|f.trans<|K.mono f.size;have b7:=I<|d.below K;have t:=I<|l.below K;clear K d l q0 q1 q2 q3;cases M:Tv c with
   |error x=>
    rw[M]at j;obtain⟨rfl,hx,he⟩:=j.out;have s:Hid<|Vl c=.error x:=I<|by unfold Vl;rw[b0.out];simp only;rw[M]
    have S:=I he;have b8:=I hx;clear j M he hx;obtain⟨fa,rfl,U,g⟩:=S.out;have V:Hid<|∀fb:Nat,Value.iface 92 (Vp fa)=.iface 92 (Vp fb)->fb≠w.heap.size+1:=I λfb e1 e2=>by
     injection e1 with _ e1;injection e1 with e1;injection e1 with e1;injection e1 with e1;subst e1;subst e2;rw[t.cell 2]at g;cases g
    clear U g;have f0:=t.frozen;have z0:=t.cell;go_wp2;exact Ss (r:=.tuple #[.agg #[E 0,E 0],.iface 92<|Vp fa]) (λW s0 s1=>by simp[results,results40,go_sem,s0,s1]) C t.out ⟨_,_,C,I<|PJ.ku s.out ⟨C,Or.inr ⟨b8.out,D4 S.out V.out (E 0)<|E 0⟩⟩,JJ (w0:=w) (a:=w.heap.size+1) L.out (KE _) (E 0)<|E 0⟩
   |ok mm=>
    rw[M]at j;obtain⟨rfl,rfl⟩:=j.out;have s:Hid<|Vl c=.ok (mm,UT c.jz):=I<|by unfold Vl;rw[b0.out];simp only;rw[M]
    clear j M;have q0:=b7.cell;go_wp2_with fail;refine(a6.out w5 L.out B.out).mono ?_;rintro e w6 ⟨rfl,Y⟩;have b9:Hid<|BW w w6:=I<|L.trans<|Y.mono L.size;have Z:=I<|t.below Y;clear Y q0;generalize UT c.jz=sn at*;have f0:=Z.frozen;have z0:=Z.cell;go_wp2;exact Ss (r:=.tuple #[.agg #[E mm,E sn],.nilIface]) (λW s0 s1=>by simp[results,results40,go_sem,s0,s1]) C Z.out ⟨_,_,C,I<|PJ.mkOk s.out ⟨C,C⟩,JJ (w0:=w) (a:=w.heap.size+1) b9.out (KE _) (E mm)<|E sn⟩
theorem ZfN{α:Type}{one:Nat->X9 α}{p:Nat}{P:α->Prop}(c:∀p x,one p=.ok x->P x.1):∀{k:Nat}{xs:List α}{q:Nat},Yo one p k=.ok (xs,q)->∀x∈xs,P x
 |0,xs,q,h=>by injection h with h;simp_all
 |k+1,xs,q,h=>by
  unfold Yo at h;cases d:Yo one p k with
  |error e=>simp_all
  |ok x=>
   rw[d]at h;simp only at h;cases f:one x.2 with
   |error e=>simp_all
   |ok y=>
    rw[f]at h;injection h with h;injection h with h2 h3;subst h2;intro z a;rcases Wk.1 a with a|a
    .exact ZfN c (d) z a
    .rw[Vs]at a;subst a;exact c _ _ f
theorem rR{n:Nat×Nat×Nat×Nat}(h:US l=.ok n):n.2.2.2<=65535:=by
 unfold US at h;split at h
 .cases h
 .split at h
  .cases h
  .injection h with h;subst h;have:Yp (Y6 l 7 2)<256^2:=PS<|by unfold Y6;simp;omega
   simp_all;omega
theorem Hm{c:Yb}(h:Wt l=.ok c):c.jz.length<=65535/\∀x∈c.jz,x.1<=13/\x.2<65536:=by
 unfold Wt at h;cases d:US l with
 |error e=>simp_all
 |ok n=>
  rw[d]at h;simp only at h;cases f:Yo (Vx l) 9 n.1 with
  |error e=>simp_all
  |ok cs=>
   rw[f]at h;simp only at h;cases g:Yo (pickAt l) cs.2 n.2.1 with
   |error e=>simp_all
   |ok ps=>
    rw[g]at h;simp only at h;cases i:Yo (groupAt l) ps.2 n.2.2.1 with
    |error e=>simp_all
    |ok gs=>
     rw[i]at h;simp only at h;cases a:Yo (WM l) gs.2 n.2.2.2 with
     |error e=>simp_all
     |ok is=>
      rw[a]at h;simp only at h;split at h
      .cases h
      .split at h
       .cases h
       .split at h
        .cases h
        .injection h with h;subst h;refine⟨?_,?_⟩
         .have:=KO<|a;have:=rR d;simp_all
         .exact ZfN (λp x h=>(I9 h).2)<|a
def Vm(w:World)(A:Nat->Addr)(x:Nat×Nat)(err:Value):Prop:=
 (x.1=9/\Tz w err x.2 (A 8))∨(x=(10,0)/\err=.iface 469 (.pointer<|some<|A 9))∨(x.1=11/\Tz w err x.2 (A 10))∨(x.1=12/\Tz w err x.2 (A 11))
def U8(w:World)(A:Nat->Addr)(r:Except (Nat×Nat)<|Yb×Nat×Nat)(v n err:Value):Prop:=match r with
 |.ok x=>Xy w x.1 v/\n=.agg #[.int .i64 x.2.1,.int .i64 x.2.2]/\err=.nilIface
 |.error x=>n=.agg #[.int .i64 0,.int .i64 0]/\Vm w A x err
theorem U8.mkOk{n:Value}{x:Yb×Nat×Nat}(a:r=.ok x)(h:Xy w x.1 v/\n=.agg #[E x.2.1,E x.2.2]/\err=.nilIface):U8 w A r v n err:=by subst a;exact h
theorem U8.ku{n:Value}(a:r=.error x)(h:n=.agg #[E 0,E 0]/\Vm w A x err):U8 w A r v n err:=by subst a;exact h
theorem ZF.pl(h:ZF w v p a):Tz w v p a:=by
 obtain⟨fa,d,c⟩:=h;exact⟨fa,d,by simp[World.cell?,c],by simp[World.cell?,c]⟩
theorem Vm.below(h:Vm w A x err)(a:BW w w'):Vm w' A x err:=by
 rcases h with h|h|h|h
 .exact .inl ⟨h.1,h.2.below a⟩
 .exact .inr<|.inl h
 .exact .inr<|.inr<|.inl ⟨h.1,h.2.below a⟩
 .exact .inr<|.inr<|.inr ⟨h.1,h.2.below a⟩
theorem U8.below{n:Value}(h:U8 w A r v n err)(a:BW w w'):U8 w' A r v n err:=by
 cases r with
 |ok x=>exact⟨h.1.below a,h.2⟩
 |error x=>exact⟨h.1,h.2.below a⟩
theorem Tz.kept2(h:Tz w v p a){t:TypeId}(g:Ya w b c t)(i:w.grownBy w'<|some b)(j:∀t v,c[2]?≠some (.iface t v)):Tz w' v p a:=by
 obtain⟨fa,k,l,d⟩:=h;have f:some fa≠some b:=by
  intro e;injection e with e;subst e;rw[g.cell 2]at d;exact j _ _ d
 have m:fa<w.heap.size:=Xi _ _ d;have e:=i.block _ m f;refine⟨fa,k,?_,?_⟩
 .unfold World.cell? at l⊢;simp_all
 .unfold World.cell? at d⊢;simp_all
theorem Vm.kept2(h:Vm w A x err){t:TypeId}(a:Ya w b c t)(d:w.grownBy w'<|some b)(e:∀t v,c[2]?≠some (.iface t v)):Vm w' A x err:=by
 rcases h with h|h|h|h
 .exact .inl ⟨h.1,h.2.kept2 a d e⟩
 .exact .inr<|.inl h
 .exact .inr<|.inr<|.inl ⟨h.1,h.2.kept2 a d e⟩
 .exact .inr<|.inr<|.inr ⟨h.1,h.2.kept2 a d e⟩
theorem U8.kept2{n:Value}(h:U8 w A r v n err){t:TypeId}(a:Ya w b c t)(d:w.grownBy w'<|some b)(e:∀t v,c[2]?≠some (.iface t v))
 (f:t≠3)(g:t≠231)(i:t≠374)(j:t≠57)(k:t≠9)(l:t≠137):U8 w' A r v n err:=by
 cases r with
 |ok x=>exact⟨h.1.ju a d f g i j k l,h.2⟩
 |error x=>exact⟨h.1,h.2.kept2 a d e⟩
theorem Vm.shape(h:Vm w A x err):(∃fa:Nat,err=.iface 92 (Vp fa))∨err=.iface 469 (.pointer<|some<|A 9):=by
 rcases h with⟨_,fa,h,_⟩|h|⟨_,fa,h,_⟩|⟨_,fa,h,_⟩
 .simp_all
 .simp_all
 .simp_all
 simp_all
structure MN (w0 w W:World)(A:Nat->Addr)(r:Except (Nat×Nat)<|Yb×Nat×Nat)(v n err:Value)(b d:Nat)(x0 x1 x2 x3 y0 y1:Value):Prop where
 oc:U8 W A r v n err
 ob:BW w0 W
 ox:Ya W b [x0,x1,x2,x3] 80
 oy:Ya W d [y0,y1] 82
theorem B6{n:Value}{d:Nat}(h:U8 w A r v n err)(c:BW w0 w)(e:w0.heap.size<=b)(hd:w0.heap.size<=d)(g:b≠d)
 (a:Ya w b [S0,S0,S0,S0] 80)(f:Ya w d [E 0,E 0] 82)(x0 x1 x2 x3 y0 y1:Value):
 MN w0 w (set2 (Wj w b x0 x1 x2 x3) d y0 y1) A r v n err b d x0 x1 x2 x3 y0 y1:=by
 have g1:=MC w b x0 x1 x2 x3;have z1:=f.grown g1<|by simp_all;omega
 have g2:=JK (Wj w b x0 x1 x2 x3) d y0 y1;exact⟨(h.kept2 a g1 Sm N N N N N N).kept2 z1 g2 Sm N N N N N N,
  JJ (Nc c e _ _ _ _) hd _ _,(LQ a).grown g2<|by simp_all,JI z1⟩
theorem U3.mk'{c:Yb}{n3 e0 e1 e2 e3:Nat}(j:YC w A m)(k:20<=w.heap.size)(n:Xy w c<|.agg #[.slice a0 n0 e0,.slice a1 n1 e1,.slice a2 n2 e2,.slice a3 n3 e3])(i:Wt l=.ok c):
 (n0=c.jq.length/\n1=c.jw.length/\n2=c.jv.length/\n3=c.jz.length)/\U3 w A m c a0 a1 a2 a3 e0 e1 e2 e3:=by
 obtain⟨cv,pv,gv,iv,e,h⟩:=n;injection e with e;injection e with e;simp only[List.cons.injEq,and_true]at e;obtain⟨rfl,rfl,rfl,rfl⟩:=e;obtain⟨b0,f0,a⟩:=h.cs.shape;obtain⟨b1,f1,d⟩:=h.ps.shape;obtain⟨b2,f2,f⟩:=h.gs.shape;obtain⟨b3,f3,g⟩:=h.is.shape;injection a with _ a _;injection d with _ d _;injection f with _ f _;injection g with _ g _;subst a d f g;exact⟨⟨C,C,C,C⟩,j,k,h,(Hm i).1,(Hm i).2⟩
theorem me(s:BA)(A:Nat->Addr)(m:Int)(w:World)(hv:YC w A m)(ht:Vw w)(O:20<=w.heap.size)(hs:s.size<=maxLen):
 CP 22 #[.string s] w λe u=>∃v n err,e=.returned (.tuple #[v,n,err])/\Hid (U8 u A (Tj<|bl s) v n err)/\X5 v/\BW w u:=by
 have R:=I λW t=>ik s A m W (hv.below t) (ht.low t O) (Xb O t.size) hs;have HV:=I hv;have b1:=I O;clear hv ht O hs;go_enter func22,ntmps22;go_wp2_with fail;refine Zv λW P=>?_;have S:Below _ w W:=P▸Yc.alloc Sm _;have T:Hid<|Ya W _ _ 80:=P▸(Yc.block _ Sm).trans YO;have U:Hid<|Ya W (w.heap.size+1) [E 0,E 0] 82:=by
  rw[P];have:=Go.Deep.blk_alloc_new (w.alloc<|.cells #[S0,S0,S0,S0] 80)<|.cells #[E 0,E 0] 82;rwa [Go.Deep.nblk_alloc]at this
 have z:=I S;clear P S;refine(R W z).mono ?_;rintro e o ⟨v,err,rfl,H,B⟩;have f:=I<|z.trans<|B.mono z.size;have g:=I<|T.below B;have i:=I<|U.below B;clear B T U z;cases hd:Wt (bl s)with
 |error x=>
  have j:Hid<|Tj _=.error x:=I<|by unfold Tj;rw[hd]
  have J:Hid<|Vm o A x err:=by
   have h:=H.out;rw[hd]at h;rcases h.2 with h|h
   .exact .inl ⟨h.1,h.2.pl⟩
   .exact .inr<|.inl h
  obtain rfl:=by
   have h:=H.out;rw[hd]at h;exact h.1
  have p:Hid<|U8 _ A _ (.agg #[S0,S0,S0,S0]) _ _:=I<|U8.ku j ⟨C,J⟩;have a:=I<|B6 p f (Yj _) (Iu _ _) X g i S0 S0 S0 S0 (E 0)<|E 0;have a9:=g.lt;have b0:=i.lt;have f0:=g.frozen;have c0:=g.cell;have i0:=i.frozen;have j0:=i.cell;have b2:=J.shape;clear H hd J j p;rcases b2 with⟨fa,rfl⟩|rfl;all_goals
   go_wp2;change bodyPost _ _ _ _ _<|(set2 (Wj o w.heap.size S0 S0 S0 S0) (w.heap.size+1) (E 0)<|E 0).alloc<|.cells #[S0,S0,S0,S0] 80;clear f0 c0 i0 j0;generalize set2 (Wj o w.heap.size S0 S0 S0 S0) (w.heap.size+1) (E 0) (E 0)=WY at*;have d:Below _ _<|WY.alloc<|.cells #[S0,S0,S0,S0] 80:=Yc;have D:=I<|a.ob.trans<|d.mono a.ob.size;have F:=I<|a.oc.below d;have sx:=a.ox.below d;have sy:=a.oy.below d;have s0:=sx.cell 0;have s1:=sx.cell 1;have s2:=sx.cell 2;have s3:=sx.cell 3;have t0:=sy.cell 0;have t1:=sy.cell 1;simp only[Yf]at s0 s1 s2 s3 t0 t1;generalize WY.alloc (.cells #[S0,S0,S0,S0] 80)=WX at*
  .exact YQ (by simp[results,results22,go_sem,s0,s1,s2,s3,t0,t1]) C ⟨_,_,_,C,F,⟨_,_,_,_,_,_,_,_,_,_,_,_,C⟩,D⟩
  .exact YQ (by simp[results,results22,go_sem,s0,s1,s2,s3,t0,t1]) C ⟨_,_,_,C,F,⟨_,_,_,_,_,_,_,_,_,_,_,_,C⟩,D⟩
 |ok c=>
  obtain⟨rfl,G⟩:=by
   have h:=H.out;rw[hd]at h;exact h
  obtain⟨a0,a1,a2,a3,n0,n1,n2,n3,e0,e1,e2,e3,rfl⟩:=G.shape;have V:=I G;have Y:Hid<|∀W,BW o W->CP 40 #[.agg #[.slice a0 n0 e0,.slice a1 n1 e1,.slice a2 n2 e2,.slice a3 n3 e3]] W λe u=>∃v err,e=.returned (.tuple #[v,err])/\Hid (PJ u A (Vl c) v err)/\BW W u:=I λW t=>by
   obtain⟨⟨rfl,rfl,rfl,rfl⟩,hp⟩:=U3.mk' (HV.below<|(f.trans<|t.mono f.size)) (Xb b1.out<|Xb f.size t.size) (G.below t) hd;exact mg W A m c a0 a1 a2 a3 e0 e1 e2 e3 hp
  have j:Hid<|Tj (bl s)=match Vl c with|.error e=>.error e|.ok x=>.ok (c,x):=by unfold Tj;rw[hd];rfl
  have a9:=g.lt;have b0:=i.lt;clear H hd G;go_wp2_with fail;refine Zv λW2 K=>?_;have k:Below _ _ _:=K▸Yc;have Z:Hid<|Ya _ _ [.slice _ _ _,.slice _ _ _,.slice _ _ _,.slice _ _ _] 80:=K▸YO;have L:=I<|f.trans<|k.mono f.size;have a4:=I<|g.below k;have a5:=I<|i.below k;have a6:=I<|V.below k;clear K g i V f;refine(Y _ k).mono ?_;rintro e w3 ⟨nv,er,rfl,a7,l⟩;have b3:=I<|L.trans<|l.mono L.size;have q:=I<|a4.below l;have r:=I<|a5.below l;have M:=I<|Z.below l;have a8:=I<|a6.below l;clear k l a4 a5 Z a6 L Y R;obtain⟨mm,sn,rfl,p⟩:∃(mm sn:Nat),nv=.agg #[.int _ mm,.int _ sn]/\Hid (U8 _ A (Tj _) _ (.agg #[.int _ mm,.int _ sn]) er):=by
   have h:=a7.out;cases Q:Vl c with
   |ok x=>
    rw[Q]at h;obtain⟨rfl,rfl⟩:=h;exact⟨_,_,C,I<|U8.mkOk (by rw[j,Q]) ⟨a8.out,C,C⟩⟩
   |error x=>
    rw[Q]at h;obtain⟨rfl,h⟩:=h;refine⟨0,0,C,I<|U8.ku (by rw[j,Q]) ⟨C,?_⟩⟩;rcases h with h|h
    .exact .inr<|.inr<|.inl h
    .exact .inr<|.inr<|.inr h
  clear a7 j a8;have b4:=q.lt;have b5:=r.lt;have b6:=M.lt;have f0:=q.frozen;have c0:=q.cell;have i0:=r.frozen;have j0:=r.cell;have q0:=M.cell;go_wp2_with fail;have b9:o.heap.size≠w.heap.size:=X;have b7:w.heap.size≠o.heap.size:=X;have c1:o.heap.size≠w.heap.size+1:=X;have b8:w.heap.size+1≠o.heap.size:=X;have a:=I<|B6 p b3 (Yj _) (Iu _ _) X q r (.slice a0 n0 e0) (.slice a1 n1 e1) (.slice a2 n2 e2) (.slice a3 n3 e3) (E mm)<|E sn;clear p q r M;go_region;all_goals
   go_wp2;change bodyPost _ _ _ _ _ ((set2 (Wj w3 w.heap.size (.slice a0 n0 e0) (.slice a1 n1 e1) (.slice a2 n2 e2)<|.slice a3 n3 e3) (w.heap.size+1) (E mm)<|E sn).alloc<|.cells #[E mm,E sn] 82).drew;clear f0 c0 i0 j0 q0;generalize set2 (Wj w3 w.heap.size (.slice a0 n0 e0) (.slice a1 n1 e1) (.slice a2 n2 e2)<|.slice a3 n3 e3) (w.heap.size+1) (E mm) (E sn)=WY at*;have d:Below _ _ (WY.alloc<|.cells #[E mm,E sn] 82).drew:=Yc.drew;have D:=I<|a.ob.trans<|d.mono a.ob.size;have F:=I<|a.oc.below d;have sx:=a.ox.below d;have sy:=a.oy.below d;have s0:=sx.cell 0;have s1:=sx.cell 1;have s2:=sx.cell 2;have s3:=sx.cell 3;have t0:=sy.cell 0;have t1:=sy.cell 1;simp only[Yf]at s0 s1 s2 s3 t0 t1;generalize(WY.alloc<|.cells #[E mm,E sn] 82).drew=WX at*;exact YQ (by simp[results,results22,go_sem,s0,s1,s2,s3,t0,t1]) C ⟨_,_,_,C,F,⟨_,_,_,_,_,_,_,_,_,_,_,_,C⟩,D⟩
def Ee(r:Except (Nat×Nat)<|Yb×Nat×Nat):Nat×Nat×Nat×Nat:=match r with
 |.ok x=>(x.2.1,x.2.2,0,0)
 |.error x=>(0,0,x.1,x.2)
def UK(w:World)(err:Value)(c p:Nat):Prop:=∀W,BW w W->CP 12 #[err] W (λe w'=>e=.returned (E c)/\w'=W)/\CP 13 #[err] W λe w'=>e=.returned (E p)/\BW W w'
theorem Vm.asks(h:Vm w A x err)(g:YC w A m):UK w err x.1 x.2:=by
 intro W f;obtain⟨x1,x2⟩:=x;have a:=g.below f;rcases h.below f with⟨c,fa,rfl,d,e⟩|⟨c,rfl⟩|⟨c,fa,rfl,d,e⟩|⟨c,fa,rfl,d,e⟩
 .simp only at c;subst c;exact⟨nP A m W a e,LH A m W a d⟩
 .injection c with hx1 hx2;subst hx1 hx2;exact⟨oS A m W a,LG A m W a⟩
 .simp only at c;subst c;exact⟨oP A m W a e,LH A m W a d⟩
 .simp only at c;subst c;exact⟨oQ A m W a e,LH A m W a d⟩
theorem U8.asks{n:Value}(h:U8 w A r v n err)(d:YC w A m):
 ∃a b c p:Nat,n=.agg #[E a,E b]/\Hid (Ee r=(a,b,c,p))/\Hid (UK w err c p):=by
 cases r with
 |ok x=>
  obtain⟨_,rfl,rfl⟩:=h;exact⟨_,_,0,0,C,I C,I λW e=>⟨FA A m W<|d.below e,GV W⟩⟩
 |error x=>
  obtain⟨rfl,h⟩:=h;exact⟨0,0,x.1,x.2,C,I C,I<|h.asks d⟩
