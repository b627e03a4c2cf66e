/- Parts. -/
import Derived.Test.YtmfnolgpaoldpaaGreatDoorW16
import Derived.Test.YtmfnolgpaoldpaaGreatDoorW33
set_option linter.all false
set_option maxRecDepth 100000
set_option maxHeartbeats 16000000
namespace Go.Proofs.YtmfnolgpaoldpaaGreatDoor
open Go.RowKit LS Go.Proofs.Tryz
variable {x:CV}{y:Cl}{t:Int}{sl xs:List CV}{ys:List Cl}{l:List PV}{ss:List SZ}{g:List<|Option Addr×Nat×Nat}{m:MQ}{arg cap cb i mb sc sn:Nat}{sa:Option Addr}{cv gv iv pv sv v:Value}{w w' w0 wr:World}{c:Yb}
theorem YX.keepR{bad:List TypeId}{l:List Xc}{qs:List<|BA×BA}(h:YX w v l qs)(a:XX bad w w')(c:175∉bad):YX w' v l qs:=⟨a _ _ _ _ _ _ h.own c,h.say,h.len,h.ok⟩
theorem YM.keepR{bad:List TypeId}{zs:List<|Value×El}(h:YM w v zs)(a:XX bad w w')(d:175∉bad)(e:118∉bad):YM w' v zs:=
 ⟨a _ _ _ _ _ _ h.own e,h.len,λz c=>⟨(h.ok z c).1.elim λqs f=>⟨qs,f.keepR a d⟩,(h.ok z c).2⟩⟩
theorem Xh.keepR{bad:List TypeId}(e:XX bad w w')(f:175∉bad)(g:118∉bad):∀{V:VV},Xh w v V->Xh w' v V
 |.inl _,⟨⟨ea,ec,a,c⟩,d⟩=>⟨⟨ea,ec,a,c.keepR e f g⟩,d⟩
 |.inr _,⟨ea,ec,zs,a,c,d⟩=>⟨ea,ec,zs,a,c.keepR e f g,d⟩
def Ey(x:CV):Value:=.agg #[.bool x.sc,E x.n,.slice x.ea x.en x.ec]
def XZ(w:World)(x:CV):Cl->Prop
 |.inl v=>x.rg=false/\Xh w (Ey x) v
 |.inr (a,n)=>x.rg=true/\0<n/\n<=1000/\Vq w (a,n) x.p/\a.kq.length<=100000
theorem XZ.keepR{bad:List TypeId}(d:XX bad w w')(e:175∉bad)(f:118∉bad)(g:268∉bad):∀{y:Cl},XZ w x y->XZ w' x y
 |.inl _,⟨a,c⟩=>⟨a,c.keepR d e f⟩
 |.inr _,⟨a,c,h,i,j⟩=>⟨a,c,h,i.keep d g,j⟩
def Tp(w:World):List CV->List Cl->Prop
 |[],[]=>True
 |x::xs,y::ys=>XZ w x y/\Tp w xs ys
 |_,_=>False
theorem Tp.keepR{bad:List TypeId}{w w':World}(a:XX bad w w')(c:175∉bad)(d:118∉bad)(e:268∉bad):∀{xs:List CV}{ys:List Cl},Tp w xs ys->Tp w' xs ys
 |[],[],h=>h
 |_::_,_::_,⟨f,g⟩=>⟨f.keepR a c d e,Tp.keepR a c d e g⟩
theorem Tp.len{w:World}:∀{xs:List CV}{ys:List Cl},Tp w xs ys->xs.length=ys.length
 |[],[],_=>C
 |_::xs,_::ys,⟨_,h⟩=>by rw[Y1,Y1,Tp.len h]
structure Xd (w0 wr:World)(mb cb:Nat)(sv:Value)(t:Int)(m:MQ)(sa:Option Addr)(sn sc:Nat)(sl xs:List CV):Prop where
 st:Qn wr w0.heap.size mb cb sv t sa sn sc sl xs.reverse
 stk:Tp wr xs m.jy
 ls:sl.length=16
 slot:∀j y,m.jx.getD j none=some y->XZ wr (sl.getD j T4) y
 bel:BW w0 wr
 lo:w0.heap.size<=mb
theorem Xd.below(h:Xd w0 wr mb cb sv t m sa sn sc sl xs)(a:BW wr w'):Xd w0 w' mb cb sv t m sa sn sc sl xs:=
 ⟨h.st.below a,h.stk.keepR (XX.below [] a) Sm Sm Sm,h.ls,λj y c=>(h.slot j y c).keepR (XX.below [] a) Sm Sm Sm,h.bel.trans<|a.mono h.bel.size,h.lo⟩
theorem Xd.num(h:Xd w0 wr mb cb sv t m sa sn sc sl xs):sn=m.jy.length:=by
 rw[<-h.stk.len,<-h.st.len,Q0]
theorem Xd.qx{ss:List<|Option Cl}{g n:Nat}(h:Xd w0 wr mb cb sv t ⟨y::ys,ss⟩ (some ⟨g,0,none⟩) (n+1) cap sl<|x::xs)(o:Ya w' mb (mC cb sv t (.slice (some ⟨g,0,none⟩) n cap) sl) 64)(f:YS wr w' mb<|.pointer none):Xd w0 w' mb cb sv t ⟨ys,ss⟩ (some ⟨g,0,none⟩) n cap sl xs/\XZ w' x y:=by
 have c:xs.length=n:=by
  have:=h.st.len;rw[Q0,Y1]at this;omega
 have l:some g≠some mb:=λe=>by
  injection e with e;have:=ZD h.st.own h.st.box N;exact this<|by rw[<-e];rfl
 have d:XX [61,64] _ _:=λb e sz v m ys i p=>ZJ i λk a=>f.block k (i.lt k a).2 (by
  rintro rfl;exact ZD i h.st.box (λe2=>p<|by rw[<-e2];decide) a.symm) λe2=>by cases e2
 have q:=ZJ h.st.own λk a=>f.block k (h.st.own.lt k a).2 (λe=>by
  have:some g=some k:=a;rw[e]at this;exact l this) λe2=>by cases e2
 refine⟨⟨⟨o,?_,by rw[Q0,c]⟩,h.stk.2.keepR d N N N,h.ls,λj z r=>(h.slot j z r).keepR d N N N,f.below h.bel h.lo (λk e=>by cases e),h.lo⟩,h.stk.1.keepR d N N N⟩;have:=kE q n X;rw[Sf,Dv,JY<|by rw[H3,Q0,c];omega,Wm<|by rw[H3,Q0,c];omega]at this;exact this
theorem Xd.pushed{g:Nat}(h:Xd w0 wr mb cb sv t m sa sn sc sl xs)(d:XZ wr x y)(i:Qn w' w0.heap.size mb cb sv t (some ⟨g,0,none⟩) (sn+1) cap sl<|xs.reverse++[x])(c:YS wr w' mb<|.slice sa sn sc):Xd w0 w' mb cb sv t ⟨y::m.jy,m.jx⟩ (some ⟨g,0,none⟩) (sn+1) cap sl<|x::xs:=by
 have a:=c.rows h.st.box h.st.own;exact⟨by rwa [Sf],⟨d.keepR a N N N,h.stk.keepR a N N N⟩,h.ls,λj z f=>(h.slot j z f).keepR a N N N,c.below h.bel h.lo λk e=>(h.st.own.lt k e).1,h.lo⟩
theorem Xd.top(h:Xd w0 wr mb cb sv t m sa sn sc sl xs)(i:m.jy=y::ys):∃x xs' g n,xs=x::xs'/\sa=some ⟨g,0,none⟩/\sn=n+1/\n+1<=sc/\XZ wr x y/\∀j,j<12->wr.cell? ⟨g,n*12+j,none⟩=x.cells[j]?:=by
 have a:=h.stk;rw[i]at a;cases xs with
 |nil=>exact absurd a id
 |cons x xs=>
  have c:=h.num;rw[i,Y1]at c;subst c;obtain⟨g,cap,d⟩:=Zm h.st.own X;injection d with hv1 hv2 hv3;subst hv1;have k:=a.2.len;refine⟨x,xs,g,ys.length,C,C,C,?_,a.1,λj l=>?_⟩
  .rcases h.st.own.2 with⟨e,_⟩|⟨g',cap',cur,d,_,_,c,_⟩
   .cases e
   .injection d with _ _ hv3;omega
  .have f:=HJ (x::xs).reverse ys.length j (by rw[Q0,Y1];omega) l;have e:(x::xs).reverse.getD ys.length T4=x:=by
    rw[Sf,Y0,SJ<|by rw[Q0];omega,Q0,k];simp
   rw[e]at f;have o:j<x.cells.length:=l;rw[List.getElem?_eq_getElem o]at f⊢;exact Zc h.st.own _ _ f
theorem XZ.below(h:XZ w x y)(a:BW w w'):XZ w' x y:=h.keepR (XX.below [] a) Sm Sm Sm
theorem Xh.shape:∀{V:VV},Xh w v V->∃sc n ea en ec,v=.agg #[.bool sc,E n,.slice ea en ec]/\XZ w ⟨sc,n,ea,en,ec,false,XM⟩ (.inl V)
 |.inl _,⟨⟨ea,ec,a,c⟩,d⟩=>⟨true,_,ea,0,ec,a,C,⟨ea,ec,C,c⟩,d⟩
 |.inr _,⟨ea,ec,zs,a,c,d⟩=>⟨false,0,ea,zs.length,ec,a,C,ea,ec,zs,C,c,d⟩
structure Rc (w0 wr:World)(c:Yb)(cb mb i op arg:Nat)(sv:Value)(t:Int)(m:MQ)(cv pv gv iv:Value)(l:List PV)(g:List<|Option Addr×Nat×Nat)(sa:Option Addr)(sn sc:Nat)(sl xs:List CV):Prop where
 rc:X8 w0 cb c cv pv gv iv l g
 inv:Xd w0 wr mb cb sv t m sa sn sc sl xs
 ii:c.jz[i]?=some (op,arg)
 ln:c.jz.length<=65535
def RI(w0 w':World)(mb cb:Nat)(sv:Value)(t:Int)(m':MQ):Prop:=∃sa sn sc sl xs,Xd w0 w' mb cb sv t m' sa sn sc sl xs
structure JV (wr:World)(mb cb i op arg gi n ic:Nat):Prop where
 m0:wr.cell? ⟨mb,0,none⟩=some (Vp cb)
 c3:wr.cell? ⟨cb,3,none⟩=some (.slice (some ⟨gi,0,none⟩) n ic)
 i0:wr.cell? ⟨gi,i*2,none⟩=some (E op)
 i1:wr.cell? ⟨gi,i*2+1,none⟩=some (E arg)
 lt:i<n
 mbl:mb<wr.heap.size
 cbl:cb<wr.heap.size
 gil:gi<wr.heap.size
theorem Rc.at{op:Nat}(h:Rc w0 wr c cb mb i op arg sv t m cv pv gv iv l g sa sn sc sl xs):∃gi n ic,JV wr mb cb i op arg gi n ic/\n<=65535:=by
 have a:=h.rc.below h.inv.bel;have d:i<c.jz.length:=(RX.1 h.ii).1;have e:c.jz[i]=(op,arg):=(RX.1 h.ii).2;obtain⟨gi,ic,f⟩:=Zm a.is X;subst f;have i0:=Zc a.is _ _ (SA c.jz i d).1;have i1:=Zc a.is _ _ (SA c.jz i d).2;rw[e]at i0 i1;exact⟨gi,c.jz.length,ic,⟨h.inv.st.box.cell 0,a.box.cell 3,i0,i1,d,h.inv.st.box.lt,a.box.lt,ZN a.is⟩,h.ln⟩
theorem sN(h:Rc w0 wr c cb mb i 9 arg sv t m cv pv gv iv l g sa sn sc sl xs):
 CP 17 #[Vp mb,E i] wr λe u=>e=.returned (E arg)/\Hid (RI w0 u mb cb sv t m):=by
 obtain⟨gi,n,ic,⟨m0,c3,i0,i1,d,mbl,cbl,gil⟩,f⟩:=h.at;have a:Hid<|∀o,RI w0 (wr.alloc o) mb cb sv t m:=I λo=>⟨_,_,_,_,_,h.inv.below Yc⟩;clear h;go_enter func17,ntmps17;go_wp2;go_ret;exact⟨C,I<|a.out _⟩
theorem sK(h:Rc w0 wr c cb mb i 11 arg sv t m cv pv gv iv l g sa sn sc sl xs)(o:m.jy=y::ys)(q:m.jy.length<=64):
 CP 17 #[Vp mb,E i] wr λe u=>e=.returned (E (i+1:Nat))/\Hid (RI w0 u mb cb sv t ⟨ys,m.jx⟩):=by
 obtain⟨gi,n,ic,⟨m0,c3,i0,i1,B,mbl,cbl,gil⟩,D⟩:=h.at;obtain⟨x,xs',gs,k,rfl,rfl,rfl,p,_,_⟩:=h.inv.top o;have A:k<=64:=by have:=h.inv.num;omega
 have r:Hid<|Xd w0 wr mb cb sv t ⟨y::ys,m.jx⟩ (some ⟨gs,0,none⟩) (k+1) sc sl<|x::xs':=I<|by have:=h.inv;rw[show m=⟨y::ys,m.jx⟩by rw[<-o]]at this;exact this
 clear h o q;go_enter func17,ntmps17;go_wp2_with fail;refine Zv λW s=>?_;have d:BW wr W:=by rw[s];exact Yc
 have a:=I<|r.below d;clear s d m0 c3 i0 i1 mbl cbl gil r;obtain⟨_,_,_,_,e1,e2,e3,_,_,v⟩:=a.top C;injection e1 with e1 e1';injection e2 with e2;injection e2 with e2 _ _;injection e3 with e3;subst e1 e1' e2 e3;refine(OJ W mb cb gs k sc sv t sl x a.st.box v A p).mono ?_;rintro e z ⟨rfl,f,j⟩;have w:=I (a.qx f.out j.out).1;clear a f j v;unfold Pw;go_wp2;go_ret;exact⟨by go_num,I ⟨_,_,_,_,_,w.out⟩⟩
theorem Ya.mkeep{a:Nat}{c d:List Value}{t:TypeId}(h:Ya w a c t)(g:Ya w mb d 64)(i:YS w w' mb<|.pointer none)(j:t≠64):Ya w' a c t:=
 (i.block a h.lt (by
  rintro rfl;have f:=h.symm.trans g;injection f with f;injection f with _ h3;exact j h3) λe=>by cases e).trans h
theorem YS.rowsP {c:List Value}(h:YS w w' mb<|.pointer none)(f:Ya w mb c 64):XX [64] w w':=λb e sz v m ys a g=>ZJ a λk d=>h.block k (a.lt k d).2 (by
 rintro rfl;exact ZD a f (λe2=>g<|by rw[<-e2];decide) d.symm) λe2=>by cases e2
theorem sP(h:Rc w0 wr c cb mb i 4 arg sv t m cv pv gv iv l g sa sn sc sl xs){v:VV}(P:m.jy=.inl v::ys)(R:m.jy.length<=64)(Z:WG 1000 v):
 CP 17 #[Vp mb,E i] wr λe u=>e=.returned (E (i+1:Nat))/\Hid (RI w0 u mb cb sv t ⟨.inl (TI v)::ys,m.jx⟩):=by
 obtain⟨gi,n,ic,⟨m0,c3,i0,i1,a0,mbl,cbl,gil⟩,hn⟩:=h.at;obtain⟨x,xs',gs,k,rfl,rfl,rfl,Q,_,_⟩:=h.inv.top P;have S:k<=64:=by have:=h.inv.num;omega
 have T:Hid<|Xd w0 wr mb cb sv t ⟨.inl v::ys,m.jx⟩ (some ⟨gs,0,none⟩) (k+1) sc sl<|x::xs':=by have:=h.inv;rw[show m=⟨.inl v::ys,m.jx⟩by rw[<-P]]at this;exact this
 clear h P R;go_enter func17,ntmps17;go_wp2_with fail;refine Zv λW U=>?_;have q:Below _ _ W:=U▸Yc;have d:=I<|T.below q;clear U q m0 c3 i0 i1 mbl cbl gil T;obtain⟨_,_,_,_,e1,e2,e3,_,_,r⟩:=d.top C;injection e1 with e1 e1';injection e2 with e2;injection e2 with e2 _ _;injection e3 with e3;subst e1 e1' e2 e3;refine(OJ _ _ _ _ k _ _ t _ x d.st.box r S Q).mono ?_;rintro e s ⟨rfl,w,z⟩;have j:=I<|d.qx w z;have A:=I j.1;have B:=I j.2;clear d w z r j;unfold Pw;go_upto_region 21 with fail;refine Zs λW3 o=>?_;have p:Below _ _ _:=o▸Yc;have a:Hid<|Ya _ _ x.cells 61:=o▸(show Ya _ _ _ _ from Go.Deep.blk_alloc_new s _);have D:=I<|A.below p;have F:=I<|B.below p;clear o p A B;generalize s.heap.size=xb at*;have x0:=a.cell 0;have x1:=a.cell 1;have x2:=a.cell 2;simp only[CV.cells,Yf]at x0 x1 x2;have V:=a.lt;go_wp2_with fail;refine(nJ v F.2 Z).mono ?_;rintro e w4 ⟨v',rfl,G,H⟩;have f:=I<|D.below H;obtain⟨sc',n',ea',en',ec',rfl,J⟩:=G.shape;have K:=I J;clear H D F a x0 x1 x2 V J G;go_wp2_with fail;refine(MA _ _ _ _ t k _ _ _ _ _ _ _ f.st S f.bel.size).mono ?_;rintro e w5 ⟨rfl,L,M⟩;obtain⟨g5,c5,O⟩:=L.out;have Y:=I<|f.pushed K O M;clear O L M f K;go_wp2;go_ret;exact⟨by go_num,I ⟨_,_,_,_,_,Y⟩⟩
theorem sI(h:Rc w0 wr c cb mb i 3 arg sv t m cv pv gv iv l g sa sn sc sl xs)(ha:arg<=3){v u:VV}(hs:m.jy=.inl u::.inl v::ys)(b5:m.jy.length<=64)(hv:WG 1000 v)(hu:WG 1000 u):
 CP 17 #[Vp mb,E i] wr λe w'=>e=.returned (E (i+1:Nat))/\Hid (RI w0 w' mb cb sv t ⟨.inl (QK arg v u)::ys,m.jx⟩):=by
 obtain⟨gi,n,ic,⟨m0,c3,i0,i1,c1,mbl,cbl,gil⟩,hn⟩:=h.at;obtain⟨x,xs',gs,k1,rfl,rfl,rfl,b4,_,_⟩:=h.inv.top hs;have b6:k1<=64:=by have:=h.inv.num;omega
 have HI:Hid<|Xd w0 wr mb cb sv t ⟨.inl u::.inl v::ys,m.jx⟩ (some ⟨gs,0,none⟩) (k1+1) sc sl<|x::xs':=by have:=h.inv;rw[show m=⟨.inl u::.inl v::ys,m.jx⟩by rw[<-hs]]at this;exact this
 clear h hs b5;go_enter func17,ntmps17;go_wp2_with fail;refine Zv λW hW=>?_;have H:Below _ _ W:=hW▸Yc;have f:=I<|HI.below H;have J:Hid<|Ya W _ _ 110:=hW▸(show Ya _ _ _ _ from Go.Deep.blk_alloc_new wr _);clear hW H m0 c3 i0 i1 mbl cbl gil HI;generalize wr.heap.size=ab at*;obtain⟨_,_,_,_,e1,e2,e3,_,_,K⟩:=f.top C;injection e1 with e1 e1';injection e2 with e2;injection e2 with e2 _ _;injection e3 with e3;subst e1 e1' e2 e3;refine(OJ _ _ _ _ _ _ _ t _ x f.st.box K b6 b4).mono ?_;rintro e L ⟨rfl,M,s⟩;have w:=I<|f.qx M s;have z:=I w.1;have O:=I w.2;have P:=I<|J.mkeep f.st.box s N;clear f M s K w J;unfold Pw;obtain⟨x2,xs2,gs2,k,rfl,e2,e3,G,_,_⟩:=z.top C;injection e2 with e2;injection e2 with e2 _ _;subst e2 e3;have hk:k<=64:=X;go_wp2_with fail;refine Zv λW3 A=>?_;have q:Below _ _ _:=A▸Yc;have Q:Hid<|Ya _ _ x.cells 61:=A▸(show Ya _ _ _ _ from Go.Deep.blk_alloc_new L _);have a:=I<|z.below q;have R:=I<|O.below q;have S:=I<|P.below q;clear A q z O P;generalize L.heap.size=xb at*;obtain⟨_,_,_,_,e1,e2,e3,_,_,T⟩:=a.top C;injection e1 with e1 e1';injection e2 with e2;injection e2 with e2 _ _;injection e3 with e3;subst e1 e1' e2 e3;refine(OJ _ _ _ _ k _ _ t _ _ a.st.box T hk G).mono ?_;rintro e U ⟨rfl,V,j⟩;have B:=I<|a.qx V j;have Y:=I B.1;have Z:=I B.2;have a0:=I<|S.mkeep a.st.box j N;have a2:=I<|Q.mkeep a.st.box j N;have a3:=I<|R.keepR (j.rowsP a.st.box) N N N;clear a V j T B S Q R;unfold Pw;go_upto_region 18 with fail;refine Zs λW5 D=>?_;have d:Below _ _ _:=D▸Yc;have o:Hid<|Ya _ _ x2.cells 61:=D▸(show Ya _ _ _ _ from Go.Deep.blk_alloc_new U _);have p:=I<|a2.below d;have F:=I<|a0.below d;have a4:=I<|Y.below d;have a5:=I<|a3.below d;have a6:=I<|Z.below d;clear D d Y Z a3 a2 a0;generalize U.heap.size=zb at*;have x0:=p.cell 0;have x1:=p.cell 1;have x2':=p.cell 2;have z0:=o.cell 0;have z1:=o.cell 1;have z2:=o.cell 2;have a1:=F.cell 1;simp only[CV.cells,Yf]at x0 x1 x2' z0 z1 z2 a1;have b7:=p.lt;have b8:=o.lt;have b9:=F.lt;go_wp2_with fail;refine(ve ha v u a6.2 a5.2 hv hu).mono ?_;rintro e w6 ⟨v',rfl,a7,a8⟩;have r:=I<|a4.below a8;obtain⟨sc',n',ea',en',ec',rfl,a9⟩:=a7.shape;have b0:=I a9;clear a8 a4 a5 a6 p o F x0 x1 x2' z0 z1 z2 a1 b7 b8 b9 a9 a7;go_wp2_with fail;refine(MA _ _ _ _ t k _ _ _ _ _ _ _ r.st hk r.bel.size).mono ?_;rintro e w7 ⟨rfl,b1,b2⟩;obtain⟨g7,c7,b3⟩:=b1.out;have c0:=I<|r.pushed b0 b3 b2;clear b3 b1 b2 r b0;go_wp2;go_ret;exact⟨by go_num,I ⟨_,_,_,_,_,c0⟩⟩
theorem sJ(h:Rc w0 wr c cb mb i 0 arg sv t m cv pv gv iv l g sa sn sc sl xs)(F:arg<c.jq.length)(M:YD<|c.jq.getD arg 0)(G:m.jy.length<64):
 CP 17 #[Vp mb,E i] wr λe u=>e=.returned (E (i+1:Nat))/\Hid (RI w0 u mb cb sv t ⟨.inl (.inl<|c.jq.getD arg 0)::m.jy,m.jx⟩):=by
 obtain⟨gi,n,ic,⟨m0,c3,i0,i1,P,mbl,cbl,gil⟩,S⟩:=h.at;have o:=h.rc.below h.inv.bel;obtain⟨gc,cc,f⟩:=Zm o.cs X;have k0:=Zc (by have:=o.cs;rw[f]at this;exact this) arg (E<|c.jq.getD arg 0)<|by rw[Vt,List.getElem?_eq_getElem F,Y0,List.getElem?_eq_getElem F];rfl
 have b0:wr.cell? ⟨cb,0,none⟩=some cv:=o.box.cell 0;rw[f]at b0;have gcl:=Xi _ _ k0;simp only at gcl;have Q:sn<64:=by have:=h.inv.num;omega
 have H:=I h.inv;generalize c.jq.getD arg 0=v at*;generalize c.jq.length=nc at*;have R:(arg:Int)<(nc:Int):=X;have q:Hid<|∀j:World,BW wr j->j.cell? ⟨mb,0,none⟩=some (Vp cb)/\j.cell? ⟨cb,0,none⟩=some (.slice (some ⟨gc,0,none⟩) nc cc)/\j.cell? ⟨gc,arg,none⟩=some (E v):=I λj B=>⟨(B.cell (p:=⟨mb,0,none⟩) mbl).trans m0,(B.cell (p:=⟨cb,0,none⟩) cbl).trans b0,(B.cell (p:=⟨gc,arg,none⟩) gcl).trans k0⟩;clear h o f k0 b0 G;go_enter func17,ntmps17;go_upto_region 6 with fail;refine Zs λW D=>?_;have d:BW wr W:=by rw[D];exact Yc
 have r:Hid<|Ya W wr.heap.size [E 0,E arg] 110:=I<|by rw[D];exact(show Ya _ _ _ _ from Go.Deep.blk_alloc_new wr _)
 have k:=I<|H.below<|d.drew;obtain⟨q0,q1,q2⟩:=q.out W d;have mbW:mb<W.heap.size:=WH mbl d.size;have cbW:cb<W.heap.size:=WH cbl d.size;have gcW:gc<W.heap.size:=WH gcl d.size;clear D d m0 c3 i0 i1 mbl cbl gil H q gcl;generalize wr.heap.size=ab at*;have abW:=r.lt;refine ZW 13 (λu=>u.cell? ⟨mb,0,none⟩=some (Vp cb)/\u.cell? ⟨cb,0,none⟩=some (.slice (some ⟨gc,0,none⟩) nc cc)/\u.cell? ⟨ab,1,none⟩=some (E arg)/\u.cell? ⟨gc,arg,none⟩=some (E v)) Kr (by exact⟨q0,q1,r.cell 1,q2⟩) λa=>?_;clear q0 q1 q2;refine Za 0 a (h:=Za 1 a (h:=Za 2 a (h:=Za 3 a (h:=Za 4 a (h:=Za 5 a (h:=Za 6 a (h:=Za 7 a (h:=Za 8 a (h:=Za 9 a (h:=Za 10 a (h:=Za 11 a (h:=Za 12 a (h:=?_)))))))))))));refine ZS Kr Kr C Kr λK J=>?_;go_simp;refine(MA w0.heap.size mb cb sv t sn sl xs.reverse true v none 0 0 k.st X k.bel.size).mono ?_;rintro e T ⟨rfl,s,w⟩;obtain⟨g9,c9,A⟩:=s.out;have L:=I<|k.pushed (x:=⟨true,v,none,0,0,false,XM⟩) (y:=.inl<|.inl v) ⟨C,⟨none,0,C,Xm _ _ _ _,Yr _,λz O=>(by cases O)⟩,M⟩ A w.out;clear A s w a;go_simp;refine J.out _ _ ?_;clear J K;go_wp2;go_ret;exact⟨by go_num,I ⟨_,_,_,_,_,L.out⟩⟩
theorem sM{op:Nat}(h:Rc w0 wr c cb mb i op arg sv t m cv pv gv iv l g sa sn sc sl xs)(c0:5<=op)(c1:op<=8)(ha:arg<c.jv.length)(b3:(c.jv.getD arg []).length<=70000){v:List El}(hs:m.jy=.inl (.inr v)::ys)(b4:m.jy.length<=64)(hv:v.length<=1000):
 CP 17 #[Vp mb,E i] wr λe u=>e=.returned (E (i+1:Nat))/\Hid (RI w0 u mb cb sv t ⟨.inl (.inr<|SB (op-5) (c.jv.getD arg []) v)::ys,m.jx⟩):=by
 have o:=h.rc;obtain⟨gg,gcc,s⟩:=Zm o.gs X;have w:arg<g.length:=by rwa [o.gl]
 have A:c.jv.getD arg []=c.jv[arg]:=by rw[Y0,List.getElem?_eq_getElem ha];rfl
 obtain⟨bs,Q,B⟩:=o.gk _ _ _ (List.getElem?_eq_getElem ha)<|List.getElem?_eq_getElem w;have k0:=Zc (by have:=o.gs;rw[s]at this;exact this) _ (.slice _ _ _)<|by rw[Vt,List.getElem?_eq_getElem w];rfl
 have b2:w0.cell? _=some _:=o.box.cell 2;rw[s]at b2;have gl0:=Xi _ _ k0;have cl0:=o.box.lt;simp only at gl0;generalize g[arg].1=na at*;generalize g[arg].2.1=nn at*;generalize g[arg].2.2=nc at*;have b5:Hid<|Ul _ _ _:=I ⟨Q,by
  have:=congrArg List.length B;rw[Yz]at this;rw[A]at b3;omega⟩;have b6:Hid<|bs.map _=c.jv.getD _ _:=I<|by rw[A,B]
 clear A B;generalize c.jv.length=ngr at*;have c5:(arg:Int)<(ngr):=X;have R:Hid<|∀D:World,Below _ _ _->D.cell? _=some _/\D.cell? _=some _/\cb<D.heap.size/\gg<D.heap.size:=I λD P=>⟨(P.cell cl0).trans b2,(P.cell gl0).trans k0,WH cl0 P.size,WH gl0 P.size⟩;clear o s Q k0 b2 gl0 cl0 w;obtain⟨gi,n,ic,⟨m0,c3,i0,i1,c6,mbl,cbl,gil⟩,hn⟩:=h.at;obtain⟨x,xs',gs,k,rfl,rfl,rfl,b1,_,_⟩:=h.inv.top hs;have hk:k<=64:=by have:=h.inv.num;omega
 have HI:Hid<|Xd w0 wr mb cb sv t ⟨.inl (.inr v)::ys,m.jx⟩ (some ⟨gs,0,none⟩) (k+1) sc sl<|x::xs':=by have:=h.inv;rw[show m=⟨.inl _::ys,m.jx⟩by rw[<-hs]]at this;exact this
 clear h hs b4;have e0:((op:Int)==0)=false:=by rw[YB];omega
 have e1:((op:Int)==1)=false:=by rw[YB];omega
 have e2:((op:Int)==2)=false:=by rw[YB];omega
 have e3:((op:Int)==3)=false:=by rw[YB];omega
 have e4:((op:Int)==4)=false:=by rw[YB];omega
 have e9:((op:Int)==9)=false:=by rw[YB];omega
 have e10:((op:Int)==10)=false:=by rw[YB];omega
 have e11:((op:Int)==11)=false:=by rw[YB];omega
 have e12:((op:Int)==12)=false:=by rw[YB];omega
 have e13:((op:Int)==13)=false:=by rw[YB];omega
 have ws:IntKind.i64.wrap ((op)-5)=((op-5:Nat)):=by rw[Us];omega
 go_enter func17,ntmps17;go_wp2_with fail;refine Zv λW hW=>?_;have S:Below _ _ W:=hW▸Yc;have d:=I<|HI.below S;have T:Hid<|Ya W _ _ 110:=hW▸(show Ya _ _ _ _ from Go.Deep.blk_alloc_new wr _);clear hW S m0 c3 i0 i1 mbl cbl gil HI;generalize wr.heap.size=ab at*;obtain⟨_,_,_,_,e1,e2,e3,_,_,U⟩:=d.top C;injection e1 with e1 e1';injection e2 with e2;injection e2 with e2 _ _;injection e3 with e3;subst e1 e1' e2 e3;refine(OJ _ _ _ _ k _ _ t _ x d.st.box U hk b1).mono ?_;rintro e V ⟨rfl,Y,F⟩;have G:=I<|d.qx Y F;have Z:=I G.1;have a0:=I G.2;have a1:=I<|T.mkeep d.st.box F N;clear d Y F U G T;unfold Pw;go_upto_region 4 with fail;refine Zs λW3 H=>?_;have p:Below _ _ _:=H▸Yc;have a2:Hid<|Ya _ _ x.cells 61:=H▸(show Ya _ _ _ _ from Go.Deep.blk_alloc_new V _);have a3:=I<|Z.below p;have a4:=I<|a0.below p;have a5:=I<|a1.below p;clear H p Z a0 a1;generalize V.heap.size=xb at*;have f:=I<|a3.below<|(Ym _ _).drew;have b7:=I<|a4.below<|(Ym _ _).drew;have J:=I<|a5.below<|(Ym _ _).drew;have q:=I<|a2.below<|(Ym _ _).drew;clear a3 a4;have c7:=a2.lt;have c2:=a5.lt;have c4:=f.st.box.lt;clear e0 e1 e2 e3 e4 e9 e10 e11 e12 e13;obtain⟨w1,z,w3,w4⟩:=R _ f.bel;have c8:cb<W3.heap.size:=w3;have d0:gg<W3.heap.size:=w4;refine ZW 18 (λu=>u.cell? _=some _/\u.cell? _=some _/\u.cell? _=some _/\u.cell? _=some _/\u.cell? _=some _/\u.cell? _=some _/\u.cell? _=some _/\u.cell? _=some _) Kr (⟨J.cell 0,J.cell 1,f.st.box.cell 0,w1,z,q.cell 0,q.cell 1,q.cell 2⟩) λa=>?_;clear w1 z w3 w4;refine Za 0 a (h:=Za 1 a (h:=Za 2 a (h:=Za 3 a (h:=Za 4 a (h:=Za 5 a (h:=Za 6 a (h:=Za 7 a (h:=Za 8 a (h:=Za 9 a (h:=Za 10 a (h:=Za 11 a (h:=Za 12 a (h:=Za 13 a (h:=Za 14 a (h:=Za 15 a (h:=Za 16 a (h:=?_)))))))))))))))));refine Zz (i:=17) Kr C λK L=>?_;go_simp;refine(qE X v (b5.below f.bel) b7.2 hv).mono ?_;rintro e w4 ⟨v',rfl,a6,r⟩;have j:=I<|f.below r;have a7:=I<|J.below r;have M:=I<|q.below r;obtain⟨sc',n',ea',en',ec',rfl,O⟩:=a6.shape;rw[b6]at O;have b8:=I O;obtain⟨q1,q2,_,_⟩:=R _ j.bel;clear r O a6;go_simp;refine L _ _ ⟨a7.cell 0,a7.cell 1,j.st.box.cell 0,q1,q2,M.cell 0,M.cell 1,M.cell 2⟩ λa=>?_;clear L K q1 q2;try simp only[Act.put,Yt]
 refine ZS Kr Kr C Kr λK L=>?_;clear a;go_simp;refine(MA _ _ _ _ t k _ _ _ _ _ _ _ j.st X j.bel.size).mono ?_;rintro e w9 ⟨rfl,a8,a9⟩;obtain⟨g9,c9,b0⟩:=a8.out;have b9:=I<|j.pushed b8 b0 a9;clear b0 a8 a9;go_simp;refine L _ _ ?_;clear L K;go_wp2;go_ret;exact⟨by go_num,I ⟨_,_,_,_,_,b9⟩⟩
theorem sQ(h:Rc w0 wr c cb mb i 2 arg sv t m cv pv gv iv l g sa sn sc sl xs)(J:UP w0 sv ss)(ha:arg<=4){a:Nd}{nr:Nat}(hs:m.jy=.inr (a,nr)::ys)(a6:m.jy.length<=64)(a7:-1000000<=t)(a8:t<=1000000):
 CP 17 #[Vp mb,E i] wr λe u=>e=.returned (E (i+1:Nat))/\Hid (RI w0 u mb cb sv t ⟨.inl (.inr<|Uk (ZH ss) a (some arg) nr t)::ys,m.jx⟩):=by
 have a9:=I J;clear J;obtain⟨gi,n,ic,⟨m0,c3,i0,i1,b6,mbl,cbl,gil⟩,hn⟩:=h.at;obtain⟨x,xs',gs,k,rfl,rfl,rfl,a5,_,_⟩:=h.inv.top hs;have hk:k<=64:=by have:=h.inv.num;omega
 have HI:Hid<|Xd w0 wr mb cb sv t ⟨.inr (a,nr)::ys,m.jx⟩ (some ⟨gs,0,none⟩) (k+1) sc sl<|x::xs':=I<|by have:=h.inv;rw[show m=⟨.inr (a,nr)::ys,m.jx⟩by rw[<-hs]]at this;exact this
 clear h hs a6;go_enter func17,ntmps17;go_wp2_with fail;refine Zv λW hW=>?_;have L:BW wr W:=by rw[hW];exact Yc
 have r:=I<|HI.below L;have M:Hid<|Ya W wr.heap.size [E 2,E arg] 110:=I<|by rw[hW];exact(show Ya _ _ _ _ from Go.Deep.blk_alloc_new wr _)
 clear hW L m0 c3 i0 i1 mbl cbl gil HI;generalize wr.heap.size=ab at*;obtain⟨_,_,_,_,e1,e2,e3,_,_,O⟩:=r.top C;injection e1 with e1 e1';injection e2 with e2;injection e2 with e2 _ _;injection e3 with e3;subst e1 e1' e2 e3;refine(OJ _ mb cb gs k sc sv t sl x r.st.box O hk a5).mono ?_;rintro e o ⟨rfl,P,A⟩;have B:=I<|r.qx P.out A.out;have Q:=I B.1;have R:=I B.2;have S:Hid<|Ya o ab [E 2,E arg] 110:=I<|M.mkeep r.st.box A.out N;clear r P A O B M;unfold Pw;go_upto_region 14 with fail;refine Zs λW3 D=>?_;have w:BW o W3:=by rw[D];exact Yc
 have T:Hid<|Ya W3 o.heap.size x.cells 61:=I<|by rw[D];exact(show Ya _ _ _ _ from Go.Deep.blk_alloc_new o _)
 have U:=I<|Q.below w;have V:=I<|R.below w;have Y:=I<|S.below w;clear D w Q R S;generalize o.heap.size=xb at*;have s:=I<|U.below<|(Ym _ _).drew;have q:=I<|V.below<|(Ym _ _).drew;have Z:=I<|Y.below<|(Ym _ _).drew;have f:=I<|T.below<|(Ym _ _).drew;clear U V;have b7:=T.lt;have b4:=Y.lt;have b5:=s.st.box.lt;have a0:x.p.n=(nr:Int):=q.2.2.2.1.n q.2.1;have F:=I a0;clear a0;refine ZW 17 (λu=>u.cell? ⟨ab,1,none⟩=some (E arg)/\u.cell? ⟨mb,1,none⟩=some sv/\u.cell? ⟨mb,2,none⟩=some (E t)/\u.cell? ⟨xb,4,none⟩=some (E x.p.k)/\u.cell? ⟨xb,5,none⟩=some (E x.p.n)/\u.cell? ⟨xb,6,none⟩=some (E x.p.op)/\u.cell? ⟨xb,7,none⟩=some (.string x.p.nm)/\u.cell? ⟨xb,8,none⟩=some (.slice x.p.ca x.p.cn x.p.cc)/\u.cell? ⟨xb,9,none⟩=some (.slice x.p.ba x.p.bn x.p.bc)/\u.cell? ⟨xb,10,none⟩=some (E x.p.a)/\u.cell? ⟨xb,11,none⟩=some (E x.p.b)) Kr (by exact⟨Z.cell 1,s.st.box.cell 1,s.st.box.cell 2,f.cell 4,f.cell 5,f.cell 6,f.cell 7,f.cell 8,f.cell 9,f.cell 10,f.cell 11⟩) λd=>?_;refine Za 0 d (h:=Za 1 d (h:=Za 2 d (h:=Za 3 d (h:=Za 4 d (h:=Za 5 d (h:=Za 6 d (h:=Za 7 d (h:=Za 8 d (h:=Za 9 d (h:=Za 10 d (h:=Za 11 d (h:=Za 12 d (h:=Za 13 d (h:=Za 14 d (h:=Za 15 d (h:=?_))))))))))))))));refine Zz (i:=16) Kr C λK G=>?_;go_simp;refine(Au sv ss x.p a q.2.2.2.1.nm q.2.2.2.1.cs q.2.2.2.2 (some arg) arg (Or.inr ⟨arg,ha,C,C⟩) x.p.n t (by rw[F.out];omega) (by rw[F.out];have:=q.2.2.1;omega) a7 a8<|a9.below s.bel).mono ?_;rintro e w4 ⟨vv,zs,rfl,H,a1,b0,z⟩;have v:=I<|s.below z;have b1:=I<|Z.below z;have j:=I<|f.below z;obtain⟨ea',ec',rfl⟩:=Zd H.own;have b2:Hid<|XZ w4 ⟨false,0,ea',zs.length,ec',false,XM⟩<|.inl<|.inr<|Uk (ZH ss) a (some arg) nr t:=I ⟨C,ea',ec',zs,C,H.out,by rw[a1.out,F.out]⟩;clear z H a1 b0;generalize zs.length=en' at*;go_simp;refine G.out _ _ ⟨b1.cell 1,v.st.box.cell 1,v.st.box.cell 2,j.cell 4,j.cell 5,j.cell 6,j.cell 7,j.cell 8,j.cell 9,j.cell 10,j.cell 11⟩ λd=>?_;clear G K;try simp only[Act.put,Yt]
 refine ZS Kr Kr C Kr λK G=>?_;clear d;go_simp;refine(MA w0.heap.size mb cb sv t k sl xs'.reverse false 0 ea' en' ec' v.st X v.bel.size).mono ?_;rintro e w9 ⟨rfl,a2,a3⟩;obtain⟨g9,c9,a4⟩:=a2.out;have b3:=I<|v.pushed b2.out a4 a3.out;clear a4 a2 a3;go_simp;refine G.out _ _ ?_;clear G K;go_wp2;go_ret;exact⟨by go_num,I ⟨_,_,_,_,_,b3.out⟩⟩
theorem sL(h:Rc w0 wr c cb mb i 10 arg sv t m cv pv gv iv l g sa sn sc sl xs){v:List El}(U:m.jy=.inl (.inr v)::ys)(a3:m.jy.length<=64):
 CP 17 #[Vp mb,E i] wr λe u=>e=.returned (E (if v.isEmpty then i+1 else arg:Nat))/\Hid (RI w0 u mb cb sv t m):=by
 obtain⟨gi,n,ic,⟨m0,c3,i0,i1,a4,mbl,cbl,gil⟩,hn⟩:=h.at;obtain⟨x,xs',gs,k,rfl,rfl,rfl,Z,z,_⟩:=h.inv.top U;have hk:k<=64:=by have:=h.inv.num;omega
 have J:x.en=v.length:=by
  obtain⟨ea,ec,zs,H,_,h3⟩:=z.2;unfold Ey at H;injection H with H;have r:=congrArg Array.toList H;simp only at r;injection r with _ r;injection r with _ r;injection r with r _;injection r with _ r _;rw[r,<-h3,Yz]
 have L:=I J;clear J;have V:=I h.inv;have w:Hid<|∀j,BW wr j->j.cell? ⟨mb,3,none⟩=some (.slice (some ⟨gs,0,none⟩) (k+1) sc)/\j.cell? ⟨gs,k*12,none⟩=some (.bool x.sc)/\j.cell? ⟨gs,k*12+1,none⟩=some (E x.n)/\j.cell? ⟨gs,k*12+2,none⟩=some (.slice x.ea x.en x.ec)/\j.cell? ⟨gs,k*12+3,none⟩=some (.bool x.rg)/\j.cell? ⟨gs,k*12+4,none⟩=some (E x.p.k)/\j.cell? ⟨gs,k*12+5,none⟩=some (E x.p.n)/\j.cell? ⟨gs,k*12+6,none⟩=some (E x.p.op)/\j.cell? ⟨gs,k*12+7,none⟩=some (.string x.p.nm)/\j.cell? ⟨gs,k*12+8,none⟩=some (.slice x.p.ca x.p.cn x.p.cc)/\j.cell? ⟨gs,k*12+9,none⟩=some (.slice x.p.ba x.p.bn x.p.bc)/\j.cell? ⟨gs,k*12+10,none⟩=some (E x.p.a)/\j.cell? ⟨gs,k*12+11,none⟩=some (E x.p.b):=I λj hb=>by
  have Y:=h.inv.below hb;obtain⟨_,_,_,_,e1,e2,e3,_,_,q⟩:=Y.top U;injection e1 with e1 e1';injection e2 with e2;injection e2 with e2 _ _;injection e3 with e3;subst e1 e1' e2 e3;exact⟨Y.st.box.cell 3,q 0 N,q 1 N,q 2 N,q 3 N,q 4 N,q 5 N,q 6 N,q 7 N,q 8 N,q 9 N,q 10 N,q 11 N⟩
 clear h z;have a5:IntKind.i64.wrap (k)=(k):=by rw[Us];omega
 have a6:(k:Int)<(k)+1:=X;go_enter func17,ntmps17;go_upto_region 25 with fail;refine Zs λW S=>?_;have s:Below _ _ W:=S▸Yc;have M:Hid<|Ya W _ _ 110:=S▸(show Ya _ _ _ _ from Go.Deep.blk_alloc_new wr _);have A:=I<|V.below s;have B:=w _<|s.drew;have O:Hid<|∀o,(W.drew.alloc o).cell? _=some _/\(W.drew.alloc o).cell? _=some _/\(W.drew.alloc o).cell? _=some _/\(W.drew.alloc o).cell? _=some _/\(W.drew.alloc o).cell? _=some _/\(W.drew.alloc o).cell? _=some _/\(W.drew.alloc o).cell? _=some _/\(W.drew.alloc o).cell? _=some _/\(W.drew.alloc o).cell? _=some _/\(W.drew.alloc o).cell? _=some _/\(W.drew.alloc o).cell? _=some _/\(W.drew.alloc o).cell? _=some _/\(W.drew.alloc o).cell? _=some _:=I λo=>w _<|(s.drew).alloc (s.size) _;have mbW:=A.st.box.lt;have gsW:gs<W.heap.size:=by have:=B.2.1;exact Xi _ _ this
 clear S s m0 c3 i0 i1 mbl cbl gil V w;generalize wr.heap.size=ab at*;have d:Hid<|Ya ((W.alloc<|.cells #[.bool false,.int _ 0,S0,.bool false,.int _ 0,.int _ 0,.int _ 0,.string ⟨#[]⟩,S0,S0,.int _ 0,.int _ 0] _).drew) _ T4.cells 61:=I<|Go.Deep.blk_alloc_new W _;refine ZW 13 (λu=>u.cell? _=some _/\u.cell? _=some _/\u.cell? _=some _/\u.cell? _=some _/\u.cell? _=some _/\u.cell? _=some _/\u.cell? _=some _/\u.cell? _=some _/\u.cell? _=some _/\u.cell? _=some _/\u.cell? _=some _/\u.cell? _=some _/\u.cell? _=some _) Kr (B) λf=>?_;clear B;refine Za 0 f (h:=Za 1 f (h:=Za 2 f (h:=Za 3 f (h:=Za 4 f (h:=Za 5 f (h:=Za 6 f (h:=Za 7 f (h:=Za 8 f (h:=Za 9 f (h:=Za 10 f (h:=Za 11 f (h:=?_))))))))))));refine Zz (i:=12) Kr C λK D=>?_;go_simp;refine D _ _ (O _) λf=>?_;clear D K;try simp only[Act.put,Yt]
 refine ZS Kr Kr C Kr λK D=>?_;have z0:=d.cell 0;have f0:=d.frozen 0;have z1:=d.cell 1;have f1:=d.frozen 1;have z2:=d.cell 2;have f2:=d.frozen 2;have z3:=d.cell 3;have f3:=d.frozen 3;have z4:=d.cell 4;have f4:=d.frozen 4;have z5:=d.cell 5;have f5:=d.frozen 5;have z6:=d.cell 6;have f6:=d.frozen 6;have z7:=d.cell 7;have f7:=d.frozen 7;have z8:=d.cell 8;have f8:=d.frozen 8;have z9:=d.cell 9;have f9:=d.frozen 9;have z10:=d.cell 10;have f10:=d.frozen 10;have z11:=d.cell 11;have f11:=d.frozen 11;simp only[T4,XM,CV.cells,Yf]at z0 z1 z2 z3 z4 z5 z6 z7 z8 z9 z10 z11;clear f;go_simp;refine D _ _ ?_;clear D K z0 f0 z1 f1 z2 f2 z3 f3 z4 f4 z5 f5 z6 f6 z7 f7 z8 f8 z9 f9 z10 f10 z11 f11;go_upto_region 26 with fail;refine Zs λW4 F=>?_;have P:Hid<|Ya W4 W.heap.size x.cells 61:=F▸(show Ya _ _ _ _ from Go.Deep.blk_alloc_new W _);have G:Below _ W _:=F▸Yc.drew;have Q:=I<|A.below G;have R:=I<|M.below G;clear G A M d O F;generalize W.heap.size=tb at*;have t2:=P.cell 2;have a1:=R.cell 1;simp only[CV.cells,Yf]at t2 a1;have a7:=P.lt;have a8:=R.lt;cases v with
 |nil=>
  have T:x.en=0:=L;rw[T]at t2;go_wp2;go_ret;exact⟨by first|rfl|go_num,I ⟨_,_,_,_,_,Q⟩⟩
 |cons e0 v0=>
  have a0:0<x.en:=by rw[L];simp
  have a2:(0:Int)<(x.en):=X;go_wp2;go_ret;exact⟨C,I ⟨_,_,_,_,_,Q⟩⟩
theorem DC:∀(l:List PV)(i j:Nat)(p:PV),l[i]?=some p->j<8->(TF l)[i*8+j]?=p.cells[j]?
 |[],i,j,p,h,_=>by simp at h
 |q::l,0,j,p,h,a=>by
  simp at h;subst h;show(q.cells++TF l)[0*8+j]?=_;rw[MZ,SK,QQ<|by rwa [Oy]]
 |q::l,i+1,j,p,h,a=>by
  rw[J8]at h;have:=DC l i j p h a;show(q.cells++TF l)[(i+1)*8+j]?=_;rw[SJ<|by rw[Oy];omega,Oy,show(i+1)*8+j-8=i*8+j by omega];exact this
theorem Tryz.infoCellP:(Tryz.prog.info? 61).map (λi=>(i.zero,i.size,i.bytes))=some (some<|.agg #[.bool false,E 0,S0,.bool false,E 0,E 0,E 0,.string ⟨#[]⟩,S0,S0,E 0,E 0],12,152):=Tryz.infoCell
theorem sR(h:Rc w0 wr c cb mb i 1 arg sv t m cv pv gv iv l g sa sn sc sl xs)(a8:UP w0 sv ss)(ha:arg<c.jw.length)(c2:(c.jw.getD arg VN).2<=1000)(a9:(c.jw.getD arg VN).1.kq.length<=100000)(c4:m.jy.length<64)(c5:-1000000<=t)(c6:t<=1000000):
 CP 17 #[Vp mb,E i] wr λe q=>e=.returned (E (i+1:Nat))/\Hid (RI w0 q mb cb sv t ⟨SD (ZH ss) t (c.jw.getD arg VN)::m.jy,m.jx⟩):=by
 have c7:=I a8;clear a8;obtain⟨i0',hi,c8,d0,d1⟩:=Xv Tryz.infoCellP;obtain⟨gi,n,ic,⟨m0,c3,i0,i1,d8,mbl,cbl,gil⟩,hn⟩:=h.at;have Q:=h.rc;obtain⟨gp,pc,U⟩:=Zm Q.ps X;have V:arg<l.length:=by rwa [Q.pl]
 have b0:c.jw.getD arg VN=c.jw[arg]:=by rw[Y0,List.getElem?_eq_getElem ha];rfl
 have A:=Q.pk _ _ _ (List.getElem?_eq_getElem ha)<|List.getElem?_eq_getElem V;have kk:∀j,j<8->w0.cell? _=l[arg].cells[j]?:=λj hj=>by
  have h1:=DC l _ j _ (List.getElem?_eq_getElem V) hj;have d2:j<l[arg].cells.length:=hj;rw[List.getElem?_eq_getElem d2]at h1⊢;exact Zc (by have:=Q.ps;rw[U]at this;exact this) _ _ h1
 rw[<-b0]at A;generalize c.jw.getD arg VN=nx at*;generalize l[arg]=p at*;have b1:w0.cell? _=some _:=Q.box.cell 1;rw[U]at b1;have gl0:gp<w0.heap.size:=by have:=kk 0 N;exact Xi _ _ this
 have cl0:=Q.box.lt;have Y:=I A;clear b0 A V;generalize c.jw.length=np at*;have d9:(arg:Int)<(np):=X;have Z:Hid<|∀s:World,Below _ _ _->s.cell? _=some _/\cb<s.heap.size/\gp<s.heap.size/\∀j,j<8->s.cell? _=p.cells[j]?:=I λs R=>⟨(R.cell cl0).trans b1,WH cl0 R.size,WH gl0 R.size,λj hj=>(R.cell gl0).trans<|kk j hj⟩;clear Q U kk b1 gl0 cl0;have e0:sn<64:=by have:=h.inv.num;omega
 have HI:=I h.inv;clear h c4;go_enter func17,ntmps17;go_upto_region 8 with fail;refine Zs λW hW=>?_;have b2:Below _ _ W:=hW▸Yc;have a0:Hid<|Ya W _ _ 110:=hW▸(show Ya _ _ _ _ from Go.Deep.blk_alloc_new wr _);have L:=I<|HI.below b2;clear hW b2 m0 c3 i0 i1 mbl cbl gil HI;generalize wr.heap.size=ab at*;have a1:Hid<|∀s,BW W s->s.cell? ⟨mb,0,none⟩=some (Vp cb)/\s.cell? ⟨cb,1,none⟩=some (.slice (some ⟨gp,0,none⟩) np pc)/\s.cell? ⟨ab,1,none⟩=some (E arg)/\s.cell? ⟨gp,arg*8,none⟩=some (E p.k)/\s.cell? ⟨gp,arg*8+1,none⟩=some (E p.n)/\s.cell? ⟨gp,arg*8+2,none⟩=some (E p.op)/\s.cell? ⟨gp,arg*8+3,none⟩=some (.string p.nm)/\s.cell? ⟨gp,arg*8+4,none⟩=some (.slice p.ca p.cn p.cc)/\s.cell? ⟨gp,arg*8+5,none⟩=some (.slice p.ba p.bn p.bc)/\s.cell? ⟨gp,arg*8+6,none⟩=some (E p.a)/\s.cell? ⟨gp,arg*8+7,none⟩=some (E p.b):=I λs R=>by
  have hi:=L.below R;obtain⟨q1,_,_,q4⟩:=Z.out s hi.bel;exact⟨hi.st.box.cell 0,q1,(a0.below R).cell 1,q4 0 N,q4 1 N,q4 2 N,q4 3 N,q4 4 N,q4 5 N,q4 6 N,q4 7 N⟩
 obtain⟨_,cbW,gpW,_⟩:=Z.out W L.bel;have mbW:=L.st.box.lt;have abW:=a0.lt;refine ZW 12 (λq=>q.cell? _=some _/\q.cell? _=some _/\q.cell? _=some _/\q.cell? _=some _/\q.cell? _=some _/\q.cell? _=some _/\q.cell? _=some _/\q.cell? _=some _/\q.cell? _=some _/\q.cell? _=some _/\q.cell? _=some _) Kr (a1.out _<|(Ym _ _).drew) λf=>?_;refine Za 0 f (h:=Za 1 f (h:=Za 2 f (h:=Za 3 f (h:=Za 4 f (h:=Za 5 f (h:=Za 6 f (h:=Za 7 f (h:=Za 8 f (h:=Za 9 f (h:=Za 10 f (h:=?_)))))))))));refine Zz (i:=11) Kr C λK z=>?_;go_simp;refine z _ _ (a1 _<|Yc.drew) λf=>?_;clear z K;try simp only[Act.put,Yt]
 refine ZS Kr Kr C Kr λK z=>?_;clear f;go_simp;refine z _ _ ?_;clear z K;go_upto_region 9 with fail;refine Zs λW4 a2=>?_;have T:Hid<|Ya W4 W.heap.size p.cells 59:=a2▸(show Ya _ _ _ _ from Go.Deep.blk_alloc_new W _);have b3:Below _ W _:=a2▸Yc.drew;have H:=I<|L.below b3;clear a2 b3 L a0 a1 Z cbW gpW mbW abW;generalize W.heap.size=tb at*;have t0:=T.cell 0;simp only[PV.cells,Qp]at t0;have e1:=T.lt;have e2:=H.st.box.lt;have S:=I<|Y.below H.bel;have M:=I<|H.below<|(Ym _ _).drew;have r:=I<|T.below<|(Ym _ _).drew;by_cases hw:0<nx.2
 .have A:p.k=2:=by rw[Y.k,Ye hw]
  have c0:=I A;rw[A]at t0;clear A;have a3:Hid<|SD (ZH ss) t _=.inr _:=I<|by unfold SD;rw[Ye hw]
  go_upto_region 10 with fail;clear t0;have b4:=I λo=>H.st.own.drew.alloc o;have a4:Hid<|∀o,Xd _ (W4.drew.alloc o) _ _ _ t m _ _ _ _ _:=I λo=>H.below<|((Ym _ _).drew).alloc (Yj _) _;have B:Hid<|∀o,Ya (W4.drew.alloc o) _ _ _:=I λo=>T.below<|((Ym _ _).drew).alloc (Yj _) _;have e3:=H.bel.size;refine ZW 11 (λq=>q.cell? _=some _/\q.cell? _=some _/\q.cell? _=some _/\q.cell? _=some _/\q.cell? _=some _/\q.cell? _=some _/\q.cell? _=some _/\q.cell? _=some _/\q.cell? _=some _) Kr (⟨M.st.box.cell 3,r.cell 0,r.cell 1,r.cell 2,r.cell 3,r.cell 4,r.cell 5,r.cell 6,r.cell 7⟩) λf=>?_;refine Za 0 f (h:=Za 1 f (h:=Za 2 f (h:=Za 3 f (h:=Za 4 f (h:=Za 5 f (h:=Za 6 f (h:=?_)))))));refine Zz (i:=7) Kr C λK z=>?_;go_simp;refine z _ _ ⟨(a4 _).st.box.cell 3,(B _).cell 0,(B _).cell 1,(B _).cell 2,(B _).cell 3,(B _).cell 4,(B _).cell 5,(B _).cell 6,(B _).cell 7⟩ λf=>?_;clear z K;try simp only[Act.put,Yt]
  refine Zz (i:=8) Kr C λK z=>?_;refine S3 C _ _ 52 C _ 61 i0' _ 12 152 underlying52 hi c8 d0 d1 C N _ sn _ (by simp[Act.eval]) (b4.out _) ⟨W4.heap.size,0,none⟩ 1 1 [.bool false,E 0,S0,.bool true,E p.k,E p.n,E p.op,.string p.nm,.slice p.ca p.cn p.cc,.slice p.ba p.bn p.bc,E p.a,E p.b] (by simp[Act.eval]) C ?h2 ?h3 ?h4 ?h5 ?h6 ?_;case h2=>exact Z1 C
  case h3=>intro u hu;simp at hu;rcases hu with rfl|rfl|rfl|rfl|rfl|rfl|rfl|rfl|rfl|rfl|rfl|rfl<;>rfl
  case h4=>unfold maxLen;omega
  case h5=>omega
  case h6=>simp;omega
  intro v1 w1 J G _;obtain⟨g1,cp1,d3⟩:=Zm J X;subst d3;obtain⟨a5,O,b5⟩:=(a4 _).st.app (Ym _ _) (x:=⟨false,0,none,0,0,true,p⟩) (G) J;have b6:=I a5;have d4:Hid<|∀o,XZ (W4.drew.alloc o) ⟨false,0,none,0,0,true,p⟩<|.inr (nx.1,nx.2):=I λo=>⟨C,hw,c2,S.below<|((Ym _ _).drew).alloc (Yj _) _,a9⟩;have d5:=I<|(a4 _).pushed (d4 _) O b5;have D:=(B _).ownGrownR (b4 _) G N;refine z _ _ ⟨a5.cell 3,D.cell 0,D.cell 1,D.cell 2,D.cell 3,D.cell 4,D.cell 5,D.cell 6,D.cell 7⟩ λf=>?_;clear z K a5 O b5 D J G;try simp only[Act.put,Of]
  refine Tk (i:=9) (d:=87) (v:=?qv9) C C Kr (λ_ _ _ h=>h) (Or.inl ⟨by rfl,?qhy9⟩) f ?qrs9;case qhy9=>(intro w hSw;go_simp;try with_reducible rfl)
  case qrs9=>
  refine Tk (i:=10) (d:=88) (v:=?qv10) C C Kr (λ_ _ _ h=>h) (Or.inl ⟨by rfl,?qhy10⟩) f ?qrs10;case qhy10=>(intro w hSw;go_simp;try with_reducible rfl)
  case qrs10=>
  refine ZS Kr Kr C Kr λK z=>?_;have yc:w1.cell? _=some _:=b6.cell 3;have yf:=b6.frozen 3;clear f;go_simp;refine z _ _ ?_;clear z K yc yf;go_wp2;go_ret;exact⟨by go_num,I ⟨_,_,_,_,_,by rwa [a3.out]⟩⟩
 .have A:p.k=1:=by rw[Y.k,Yd hw]
  have c1:((p.k)==2)=false:=by rw[A];rfl
  have c0:=I A;clear A;have a3:Hid<|SD (ZH ss) t _=.inl _:=I<|by unfold SD;rw[Yd hw]
  go_upto_region 11 with fail;clear t0 c1;refine ZW 11 (λq=>q.cell? _=some _/\q.cell? _=some _/\q.cell? _=some _/\q.cell? _=some _/\q.cell? _=some _/\q.cell? _=some _/\q.cell? _=some _/\q.cell? _=some _/\q.cell? _=some _/\q.cell? _=some _) Kr (⟨M.st.box.cell 1,M.st.box.cell 2,r.cell 0,r.cell 1,r.cell 2,r.cell 3,r.cell 4,r.cell 5,r.cell 6,r.cell 7⟩) λf=>?_;refine Za 0 f (h:=Za 1 f (h:=Za 2 f (h:=Za 3 f (h:=Za 4 f (h:=Za 5 f (h:=Za 6 f (h:=Za 7 f (h:=Za 8 f (h:=Za 9 f (h:=?_))))))))));refine Zz (i:=10) Kr C λK z=>?_;go_simp;refine(Au _ _ p _ S.nm (S.below<|(Ym _ _).drew).cs a9 _ _ (.inl ⟨C,C⟩) _ t N N c5 c6<|c7.below M.bel).mono ?_;rintro e w5 ⟨vv,zs,rfl,a6,b7,d6,a7⟩;have P:=I<|M.below a7;have F:=I<|r.below a7;obtain⟨ea',ec',rfl⟩:=Zd a6.own;have d7:Hid<|XZ _ ⟨false,0,ea',zs.length,ec',false,XM⟩<|.inl<|.inr _:=I ⟨C,ea',ec',zs,C,a6,b7⟩;clear a7 a6 b7 d6;generalize zs.length=en' at*;go_simp;refine z _ _ ⟨P.st.box.cell 1,P.st.box.cell 2,F.cell 0,F.cell 1,F.cell 2,F.cell 3,F.cell 4,F.cell 5,F.cell 6,F.cell 7⟩ λf=>?_;clear z K;try simp only[Act.put,Yt]
  refine ZS Kr Kr C Kr λK z=>?_;clear f;go_simp;refine(MA _ _ _ _ t _ _ _ _ 0 _ _ _ P.st X P.bel.size).mono ?_;rintro e w9 ⟨rfl,b8,b9⟩;obtain⟨g9,c9,O⟩:=b8.out;have d5:=I<|P.pushed d7 O b9;clear O b8 b9;go_simp;refine z _ _ ?_;clear z K;go_wp2;go_ret;exact⟨by go_num,I ⟨_,_,_,_,_,by rwa [a3.out]⟩⟩
