/- Parts. -/
import Derived.Test.YtmfnolgpaoldpaaGreatDoorX22
import Derived.Test.YtmfnolgpaoldpaaGreatDoorX18
set_option linter.all false
set_option maxRecDepth 100000
set_option maxHeartbeats 16000000
namespace Go.Proofs.YtmfnolgpaoldpaaGreatDoor
open Go.RowKit LS Go.Proofs.Tryz
open Go renaming World->Y,Value->F
open Go.RowKit renaming Hid->U
variable {v:F}{A:Nat->Addr}{r:Nat×Nat}{w:Y}
theorem Q8.asks{m:Int}(h:Q8 w A v r)(f:YD w A m):UK w v r.1 r.2:=by
 intro W e;have a:=f.below e;have mv:∀{fa i:Nat}{u:F},w.cell? _=some u->W.cell? ⟨fa,i,none⟩=some u:=λ{fa i u} h=>(e.cell<|Xi _ _ h).trans h;rcases h with⟨rfl,rfl⟩|⟨rfl,rfl⟩|⟨rfl,rfl⟩|⟨i,fa,rfl,rfl,c,d⟩|⟨i,fa,rfl,rfl,c,d⟩
 .exact⟨Fz A m W a,GU W⟩
 .exact⟨oI A m W a,LF A m W a⟩
 .exact⟨oJ A m W a,LF A m W a⟩
 .exact⟨oN A m W a<|mv d,LG A m W a<|mv c⟩
 .exact⟨oQ A m W a<|mv d,LG A m W a<|mv c⟩
theorem Q8.shape(h:Q8 w A v r)(a:r.1≠0):∃ty u,v=.iface ty u:=by
 rcases h with⟨rfl,rfl⟩|⟨rfl,rfl⟩|⟨rfl,rfl⟩|⟨i,fa,rfl,rfl,c,d⟩|⟨i,fa,rfl,rfl,c,d⟩
 .exact absurd C a
 .exact⟨_,_,C⟩
 .exact⟨_,_,C⟩
 .exact⟨_,_,C⟩
 .exact⟨_,_,C⟩
theorem UK.below{w':Y}{err:F}{c p:Nat}(h:UK w err c p)(a:BW w w'):UK w' err c p:=λW d=>h W<|a.trans<|d.mono a.size
theorem mh{l:LB}{y:Yb×Nat×Nat}(h:Ti l=.ok y):y.1.jz.length<=65535/\∀x∈y.1.jz,x.1<=13/\x.2<65536:=by
 unfold Ti at h;cases hd:Wt l with
 |error e=>rw[hd]at h;cases h
 |ok c=>
  rw[hd]at h;simp only at h;cases a:Vl c with
  |error e=>rw[a]at h;cases h
  |ok x=>
   rw[a]at h;injection h with h;subst h;exact Hl hd
theorem rl(q s:BA)(f l st fuel:Int)(A:Nat->Addr)(m:Int)(w:Y)(hv:YD w A m)(ht:Vv w)(hB:20<=w.heap.size)(hq:q.size<=maxLen)(hs:s.size<=maxLen):
 CP 11 #[.string q,.string s,.agg #[E f,E l,E st],E fuel] w λe w'=>∃(r:BA)(err:F)(c p:Nat),e=.returned (.tuple #[.string r,err])/\U (UK w' err c p)/\U (UE (bl q) (bl s) f l st fuel=(bl r,c,p))/\BW w w':=by
 have c3:=I λW g=>nY q A m W (hv.below g) (ht.low g hB) (Xb hB g.size) hq;have c4:=I λW g=>eB s A m W (hv.below g) hs;have c5:=I λW g=>ij f l st W<|(hv.below g).sent _ N;have Z:=I hv;have HT:=I ht;have c6:=I hB;clear hv ht hB hq hs;go_enter func11,ntmps11;go_wp2_with fail;refine Zv λW hW=>?_;have T:Below _ w W:=hW▸Yc;have c7:U<|Ya W _ _ 23:=hW▸YO;refine(c3 W T).m ?_;rintro e w1 ⟨v,n,err,rfl,HC,⟨a0,a1,a2,a3,n0,n1,n2,n3,e0,e1,e2,e3,rfl⟩,a4⟩;have a5:=I<|T.trans<|a4.mono T.size;have a6:=I<|c7.below a4;clear a4 c3 T hW c7;obtain⟨a,b,c,p,rfl,HR,HA⟩:=HC.asks<|Z.below a5.o;go_upto_region 2 with fail;refine Zs λW2 a7=>?_;have d:Below _ _ _:=a7▸Yc.alloc (Sm) _;have a8:U<|Ya _ _ _ 80:=a7▸(Yc.block _<|Sm).trans YO;have B:=I<|a5.trans<|d.mono a5.size;have R:=I<|a6.below d;have a9:=I<|HA.below d;have J:=I<|HC.below d;clear d a7 HA HC a6;generalize w1.heap.size=xb at a8⊢;generalize w.heap.size=sb at R⊢;cases D:Ti (bl q)with
 |error x=>
  have i:U<|UE _ (bl s) f l st fuel=([],x.1,x.2):=I<|by unfold UE;rw[D]
  have k:=J.o;rw[D]at k HR;have K:(0,0,x.1,x.2)=(a,b,c,p):=HR;injection K with _ K;injection K with _ K;injection K with hr3 hr4;subst hr3 hr4;rcases Vm.shape k.2 with⟨fa,rfl⟩|rfl
  .clear k J HR;go_wp2;go_ret2;exact⟨_,_,_,_,C,a9,i,B⟩
  .clear k J HR;go_wp2;go_ret2;exact⟨_,_,_,_,C,a9,i,B⟩
 |ok y=>
  have k:=J.o;rw[D]at k;obtain⟨b0,_,rfl⟩:=k;have b1:=I b0;have b2:=I D;have c8:U<|∀z,(if(ZG _).1≠0 then([],(ZG _).1,(ZG _).2)else match Tk f l _ with
   |none=>([],8,0)
   |some _=>if fuel<0\/1000000<fuel then([],13,0)else match VK _ _ _ _ with
    |none=>([],13,0)
    |some z=>(VX _,0,0))=z->UE _ (bl s) f l st _=z:=I λz hz=>by unfold UE;rw[D];exact hz
  clear b0 D J HR a9;go_wp2_with fail;refine(c4 _ B).m ?_;rintro e w2 ⟨sv,err,rfl,M,d,b3⟩;have G:=I<|B.trans<|d.mono B.size;have t:=I<|R.below d;have c9:=I<|a8.below d;have V:U<|Xy w2 y.1<|.agg #[.slice a0 n0 e0,.slice a1 n1 e1,.slice a2 n2 e2,.slice a3 n3 e3]:=by obtain⟨cv,pv,gv,iv,H,h2⟩:=b1.o;exact⟨cv,pv,gv,iv,H,h2.below d⟩
  have d0:=I<|M.asks<|Z.below G;clear d c4 R a8 b1 B;by_cases O:(ZG<|bl s).1=0
  .have d6:err=.nilIface:=by
    rcases Lc.ld M.o with⟨_,h⟩|⟨h,_⟩
    .exact h
    .exact absurd O h
   subst d6;obtain⟨ss,S,b4,b5,d7⟩:=(b3.o O).sto O;obtain⟨sa,scp,rfl⟩:=Zd S.row;have d1:=I S;have e4:=I b4;have e5:=I b5;have H0:=I O;clear M b3 S b4 b5 d7 O d0;have x0:=t.cell 0;have x1:=t.cell 1;have x2:=t.cell 2;simp only[Yf]at x0 x1 x2;have b6:=t.lt;go_wp2_with fail;clear x0 x1 x2 b6;refine(c5 _ G).m ?_;rintro e w3 ⟨tv,ev,rfl,b7,P⟩;have j:=I<|G.trans<|P.mono G.size;have d8:=I<|d1.below P;have d2:=I<|c9.below P;have c2:U<|Xy w3 y.1<|.agg #[.slice a0 n0 e0,.slice a1 n1 e1,.slice a2 n2 e2,.slice a3 n3 e3]:=by obtain⟨cv,pv,gv,iv,H,h2⟩:=V.o;exact⟨cv,pv,gv,iv,H,h2.below P⟩
   clear P c5 d1 t G c9 V;rcases b7.o with⟨H,rfl,rfl⟩|⟨ts,H,h2,h3,rfl,h4⟩
   .have i:U<|UE _ _ f l _ _=([],8,0):=I<|c8 _<|by rw[Yd<|by rw[H0];simp,H]
    have Q:U<|UK _ _ 8 0:=I λW g=>⟨oP A m W<|(Z.below j).below g,LF A m W<|(Z.below j).below g⟩;clear b7 H;go_wp2;go_ret2;exact⟨_,_,8,0,C,Q,i,j⟩
   .obtain⟨ta,tcp,rfl⟩:=Zd h4;obtain⟨o,ho⟩:∃o,o=(if fuel<0\/1000000<fuel then none else VK (ss.map YU.ser) y.1 fuel.toNat ts):=⟨_,C⟩;have i:U _:=ho▸e4.o▸ri fuel b2.o H0.o H;have b8:U<|CP 25 #[.agg #[.slice a0 n0 e0,.slice a1 n1 e1,.slice a2 n2 e2,.slice a3 n3 e3],.slice sa ss.length scp,.slice ta ts.length tcp,E fuel] w3 λe w'=>∃r err,e=.returned (.tuple #[.string r,err])/\U (MO A o r err)/\BW w3 w':=by
      obtain⟨cv,pv,gv,iv,b9,e6⟩:=c2.o;injection b9 with b9;have h5:=congrArg Array.toList b9;simp only[List.cons.injEq,and_true]at h5;obtain⟨rfl,rfl,rfl,rfl⟩:=h5;obtain⟨e7,L,e8⟩:=Cp b2;have d3:=mh b2;rw[ho];exact ig L A m (Z.below j) ⟨e6,d8,e5⟩ e7 e8 d3.1 d3.2 h2 h3 h4 (HT.low j c6)<|Xb c6 j.size
    have e9:=I<|Z.below j;have x0:=d2.cell;have b6:=d2.lt;clear b7 H h2 h3 h4 ho;go_wp2_with fail;clear x0 b6;refine b8.m ?_;rintro e w4 ⟨r4,err4,rfl,d4,c0⟩;have d5:=I<|j.trans<|c0.mono j.size;have c1:=I<|e9.below c0;clear c0 b8;cases o with
    |none=>
     obtain⟨rfl,rfl⟩:=d4.o;have Q:U<|UK _ _ 13 0:=I λW g=>⟨nM A m W<|c1.below g,LF A m W<|c1.below g⟩;go_wp2;go_ret2;exact⟨_,_,13,0,C,Q,i,d5⟩
    |some z=>
     obtain⟨h6,rfl⟩:=d4.o;have Q:U<|UK _ _ 0 0:=I λW g=>⟨Fz A m W<|c1.below g,GU W⟩;have d9:U<|UE (bl q) (bl s) f l st fuel=(bl r4,0,0):=by rw[i,h6];rfl
     clear h6;go_wp2;go_ret2;exact⟨_,_,0,0,C,Q,d9,d5⟩
  .have i:=I<|c8 _<|by rw[Ye O]
   obtain⟨ty,u,rfl⟩:=M.shape O;clear M b3 O;go_wp2;go_ret2;exact⟨_,_,_,_,C,d0,i,G⟩
theorem tL(q s:BA)(f l st fuel:Int)(A:Nat->Addr)(m:Int)(w:Y)(n:YD w A m)(o:Vv w)(j:20<=w.heap.size)(t:q.size<=maxLen)(v:s.size<=maxLen):
 CP 6 #[.string q,.string s,.agg #[E f,E l,E st],E fuel] w λe u=>∃(r:BA)(c p:Nat),e=.returned (.tuple #[.string r,E c,E p])/\U (UE (bl q) (bl s) f l st fuel=(bl r,c,p))/\BW w u:=by
 have x:=I λW d=>rl q s f l st fuel A m W (n.below d) (o.low d j) (Xb j d.size) t v;clear n o j t v;go_enter func6,ntmps6;go_wp2_with fail;refine Zv λW B=>?_;have a:Below _ w W:=B▸Yc;refine(x W a).m ?_;rintro e K ⟨r,err,c,p,rfl,k,G,g⟩;have h:=I<|a.trans<|g.mono a.size;clear g a B x;have H:=I (k _<|Ym _ _).1;have J:=I λW d=>(k W d).2;clear k;go_wp2_with fail;refine H.m ?_;rintro e L ⟨rfl,rfl⟩;go_wp2_with fail;refine(J _<|Ym _ _).m ?_;rintro e z ⟨rfl,i⟩;have D:=I<|h.trans<|i.mono h.size;clear i;go_wp2;go_ret3;exact⟨r,_,_,C,G,D⟩
theorem xN (f l st:Int):CP 8 #[.agg #[E f,E l,E st]] w λe u=>e=.returned (.agg #[E f,E l,E st])/\BW w u:=by
 go_enter func8,ntmps8;go_wp2;exact YQ (v:=.agg #[E f,E l,E st]) (by simp[results,results8,go_sem]) C ⟨C,Yc.alloc (Sm) _⟩
theorem rj(q s:BA)(f l st fuel:Int)(A:Nat->Addr)(m:Int)(w:Y)(G:YD w A m)(H:Vv w)(t:20<=w.heap.size)(v:q.size<=maxLen)(x:s.size<=maxLen):
 CP 4 #[.string q,.string s,.agg #[E f,E l,E st],E fuel] w λe u=>e=.returned (.bool true)/\BW w u:=by
 have J:U<|∀W,BW w W->CP 6 #[.string q,.string s,.agg #[E f,E l,E st],E fuel] W _:=I λW B=>tL q s f l st fuel A m W (G.below B) (H.low B t) (Xb t B.size) v x;have K:U<|∀W,CP 7 #[.string q,.string s,.agg #[E f,E l,E st],E fuel] W _:=I λW=>rh q s f l st fuel W v x;clear G H t v x;go_enter func4,ntmps4;go_wp2_with fail;refine Zv λW D=>?_;have d:BW w W:=by rw[D];exact Yc
 have h:U<|Ya W w.heap.size [E f,E l,E st] 23:=I<|by rw[D];exact Go.Deep.blk_alloc_new _ _
 refine(J.o W d).m ?_;rintro e O ⟨r,c,p,rfl,L,g⟩;have i:U<|BW w O:=I<|d.trans<|g.mono d.size;have a:=I<|h.below g;clear g d D J h;have x0:=a.cell 0;have x1:=a.cell 1;have x2:=a.cell 2;simp only[Yf]at x0 x1 x2;go_wp2_with fail;clear x0 x1 x2;refine(xN f l st).m ?_;rintro e z ⟨rfl,j⟩;have k:U<|BW w z:=I<|i.trans<|j.mono i.size;clear j a;go_wp2_with fail;refine(K.o z).m ?_;rintro e P ⟨r3,c3,p3,rfl,n,o⟩;have M:U<|BW w P:=I<|k.trans<|o.mono k.size;have Q:=L.symm.trans n.o;injection Q with h1 h2;injection h2 with h2 h3;obtain rfl:r=r3:=ZbH h1;subst h2 h3;clear L n o h1 K;go_wp2_with(go_at_call 9;refine(yg).m ?_;rintro e u ⟨rfl,rfl⟩);go_ret;exact⟨Sm,M.o⟩
theorem tP(q s:BA)(f l st fuel:Int)(q' s':BA)(f' l' st' less:Int)(A:Nat->Addr)(m:Int)(w:Y)(hv:YD w A m)(M:Vv w)(V:20<=w.heap.size)(hq:q.size<=maxLen)(hs:s.size<=maxLen)(O:q'.size<=maxLen)(P:s'.size<=maxLen):
 CP 3 #[.string q,.string s,.agg #[E f,E l,E st],E fuel,.string q',.string s',.agg #[E f',E l',E st'],E less] w λe u=>e=.returned (.bool true)/\BW w u:=by
 have c:U<|∀(q s:BA)(f l st fuel:Int)(u:Y),BW w u->q.size<=maxLen->s.size<=maxLen->CP 4 #[.string q,.string s,.agg #[E f,E l,E st],E fuel] u λe a0=>e=.returned (.bool true)/\BW u a0:=I λq s f l st fuel u Z h1 h2=>rj q s f l st fuel A m u (hv.below Z) (M.low Z V) (Xb V Z.size) h1 h2;have t:=I hq;have v:=I hs;have a1:=I O;have a2:=I P;clear hv M V hq hs O P;go_enter func3,ntmps3;go_wp2_with fail;refine Zv λW L=>?_;have a:BW w<|w.alloc<|.cells #[E f,E l,E st] 23:=Yc;have x:U<|BW w W:=I<|by rw[L];exact a.alloc (Sm) _
 have HX:U<|Ya W w.heap.size [E f,E l,E st] 23:=I<|by rw[L];exact Ya.alloc (Go.Deep.blk_alloc_new _ _) _
 have HY:U<|Ya W (w.heap.size+1) [E f',E l',E st'] 23:=I<|by
  rw[L];have:=Go.Deep.blk_alloc_new (w.alloc<|.cells #[E f,E l,E st] 23)<|.cells #[E f',E l',E st'] 23;rw[Go.Deep.nblk_alloc]at this;exact this
 clear L a;refine(c.o q s f l st fuel W x.o t.o v.o).m ?_;rintro e w1 ⟨rfl,a⟩;have B:U<|BW w w1:=I<|x.trans<|a.mono x.size;have d:=I<|HX.below a;have a3:=I<|HY.below a;clear a;have x0:=d.cell 0;have x1:=d.cell 1;have x2:=d.cell 2;simp only[Yf]at x0 x1 x2;go_wp2_with fail;clear x0 x1 x2;refine(c.o q' s f l st fuel w1 B.o a1.o v.o).m ?_;rintro e z ⟨rfl,g⟩;have D:U<|BW w z:=I<|B.trans<|g.mono B.size;have h:=I<|d.below g;have a4:=I<|a3.below g;clear g;have x0:=h.cell 0;have x1:=h.cell 1;have x2:=h.cell 2;simp only[Yf]at x0 x1 x2;go_wp2_with fail;clear x0 x1 x2;refine(c.o q s' f l st fuel z D.o t.o a2.o).m ?_;rintro e w3 ⟨rfl,i⟩;have G:U<|BW w w3:=I<|D.trans<|i.mono D.size;have a5:=I<|h.below i;have j:=I<|a4.below i;clear i;have x0:=j.cell 0;have x1:=j.cell 1;have x2:=j.cell 2;simp only[Yf]at x0 x1 x2;go_wp2_with fail;clear x0 x1 x2;refine(c.o q s f' l' st' fuel w3 G.o t.o v.o).m ?_;rintro e w4 ⟨rfl,k⟩;have H:U<|BW w w4:=I<|G.trans<|k.mono G.size;have n:=I<|a5.below k;have a6:=I<|j.below k;clear k;have x0:=n.cell 0;have x1:=n.cell 1;have x2:=n.cell 2;simp only[Yf]at x0 x1 x2;go_wp2_with fail;clear x0 x1 x2;refine(c.o q s f l st less w4 H.o t.o v.o).m ?_;rintro e w5 ⟨rfl,o⟩;have J:U<|BW w w5:=I<|H.trans<|o.mono H.size;have p:=I<|n.below o;have a7:=I<|a6.below o;clear o;have x0:=p.cell 0;have x1:=p.cell 1;have x2:=p.cell 2;simp only[Yf]at x0 x1 x2;go_wp2_with fail;clear x0 x1 x2;refine(c.o q s f l st fuel w5 J.o t.o v.o).m ?_;rintro e w6 ⟨rfl,r⟩;have Q:U<|BW w w6:=I<|J.trans<|r.mono J.size;have b0:=I<|p.below r;have b1:=I<|a7.below r;clear r;go_wp2_with fail;refine(fS w6).m ?_;rintro e w7 ⟨rz,rfl,R,S⟩;have K:U<|BW w w7:=I<|Q.trans<|S.mono Q.size;have a8:=I R;clear S R;go_wp2_with fail;refine(c.o rz _ _ _ _ _ w7 K.o a8.o N).m ?_;rintro e w8 ⟨rfl,T⟩;have a9:U<|BW w w8:=I<|K.trans<|T.mono K.size;clear T;go_wp2;go_ret;exact⟨C,a9.o⟩
