/- Parts. -/
import Derived.Test.YtmfnolgpaoldpaaGreatDoorW41
set_option linter.all false
set_option maxRecDepth 100000
set_option maxHeartbeats 16000000
namespace Go.Proofs.YtmfnolgpaoldpaaGreatDoor
open Go.RowKit LS Go.Proofs.Tryz
variable {y:Cl}{t:Int}{ys:List Cl}{vs:List Value}{ss:List YU}{ser:List YY}{m:MQ}{B arg gb gx mb op sc sn x:Nat}{a sa:Option Addr}{al c0 c1 c2 c3 v:Value}{w w' w0 wk:World}{s:YG}{c:Yb}
theorem lO{J:World}(h:YE w0 J w mb x gb gx c0 c1 c2 c3 al t ser m sa sn sc vs)(hd:Sx ser)(Z:ser.length<=30)(T:arg<=4){a:Nd}{k:Nat}(g:m.jy=.inr (a,k)::ys)(j:m.jy.length<=64):
 TB w0 J w mb x gb gx 2 arg c0 c1 c2 c3 al t ser ⟨.inl (.inr<|Uk ser a (some arg) k t)::ys,m.jx⟩:=by
 unfold TB;obtain⟨v,vs',n,rfl,rfl,_,U⟩:=h.top g;have hk:n<=64:=by rw[g,Y1]at j;omega
 have K:Hid<|YE _ _ w _ x _ _ _ _ _ _ _ t _ ⟨.inr (a,k)::ys,m.jx⟩ _ _ _ _:=I<|by rwa [<-g]
 clear h g j U;have L:=I hd;clear hd;go_enter func51,ntmps51;go_wp2_with fail;refine Zv λW F=>?_;have l:Below _ w W:=F▸Yc;have o:Hid<|Ya W _ _ 137:=F▸(show Ya _ _ _ _ from YO);have c:=I<|K.below l;clear F l K;generalize w.heap.size=ab at*;refine(OK W t n v (by have:=c.st;rwa [Sf]at this) X).mono ?_;rintro e z ⟨rfl,G,i⟩;have p:=I (c.qx G i).1;have q:=I (c.qx G i).2;have f:=I<|Lk o i c.st.box N;clear c G i o;obtain⟨rv,rs,rfl,M,H⟩:=q.out;have O:=I M;have P:=I H;have Q:rs.length<=30:=by
  have V:=congrArg List.length H;rw[Yz]at V;have h2:=By ser a k t;omega
 clear M H q;have Y:∀W:World,(Instr.typeAssert (.iface 233 rv) 134 233 true).run prog W=.ok (.tuple #[rv,.bool true]) W:=λW=>by kernel_rfl
 have a1:=f.cell 1;have R:=f.lt;simp only[Yf]at a1;go_wp2_with fail;refine(jU T a k t O P L Q).mono ?_;rintro e w3 ⟨v3,is3,rfl,r,s⟩;have d:=I<|p.below s;have u:Hid<|WS _ ser t _<|.inl<|.inr _:=I ⟨_,_,C,r⟩;clear p r s f O P L a1 R;go_wp2_with fail;refine(NB t n 221 _ d.st X d.bel.size).mono ?_;rintro e w9 ⟨rfl,A,B⟩;obtain⟨g9,n9,D⟩:=A.out;have S:=I<|d.pushed u D B;clear D A B;clear d u;go_wp2;exact RW (Tq C _ _ _) C ⟨C,I ⟨_,_,_,_,S⟩⟩
theorem lI{K:World}(h:YE w0 K w mb x gb gx c0 c1 c2 c3 al t ser m sa sn sc vs)(S:arg<=3){X Y:VV}(k:m.jy=.inl Y::.inl X::ys)(l:m.jy.length<=64)(M:WG 1000 Y):
 TB w0 K w mb x gb gx 3 arg c0 c1 c2 c3 al t ser ⟨.inl (QK arg X Y)::ys,m.jx⟩:=by
 unfold TB;obtain⟨v,vs',n,rfl,rfl,_,T⟩:=h.top k;have U:n<=64:=by rw[k,Y1]at l;omega
 have O:Hid<|YE w0 K w mb x gb gx c0 c1 c2 c3 al t ser ⟨.inl Y::.inl X::ys,m.jx⟩ sa (n+1) sc<|v::vs':=by rwa [<-k]
 have P:=I M;clear h k l T M;go_enter func51,ntmps51;go_wp2_with fail;refine Zv λW L=>?_;have o:Below _ w W:=L▸Yc;have p:Hid<|Ya W _ _ 137:=L▸(show Ya _ _ _ _ from YO);have d:=I<|O.below o;clear L o O;generalize w.heap.size=ab at*;refine(OK W t n v (by have:=d.st;rwa [Sf]at this) Om).mono ?_;rintro e z ⟨rfl,f,c⟩;have a:=I (d.qx f c).1;have q:=I (d.qx f c).2;have r:=I<|Lk p c d.st.box N;clear d f c p;obtain⟨v1,vs1,n1,rfl,rfl,_,_⟩:=a.top C;go_wp2_with fail;refine(OK _ t _ _ (by have:=a.st;rwa [Sf]at this) Om).mono ?_;rintro e V ⟨rfl,f,c⟩;have s:=I (a.qx f c).1;have A:=I (a.qx f c).2;have B:=I<|q.y<|(YS.ofG c _).y a.st.box a.st.own;have i:=I<|Lk r c a.st.box N;clear a q f c r;have a1:=i.cell 1;have Q:=i.lt;simp only[Yf]at a1;have Z:IntKind.i64.wrap (1+(arg))=((arg+1:Nat)):=by rw[Us];omega
 go_wp2_with fail;refine(lj S v X Y A B P).mono ?_;rintro e w4 ⟨v4,rfl,D,F⟩;have g:=I<|s.below F;have j:Hid<|WS _ ser t _<|.inl _:=D;clear s A B P i a1 Q D F;obtain⟨ty,u,rfl⟩:=j.shape;go_wp2_with fail;refine(NB t _ _ u g.st Om g.bel.size).mono ?_;rintro e w9 ⟨rfl,G,H⟩;obtain⟨g9,n9,J⟩:=G.out;have R:=I<|g.pushed j J H;clear J G H;clear g j;go_wp2;exact RW (Tq C _ _ _) C ⟨C,I ⟨_,_,_,_,R⟩⟩
open Go.ChangeMaps (setBlock)
theorem lM{F:World}(h:YE w0 F w mb x gb gx c0 c1 c2 c3 al t ser m sa sn sc vs)(R:arg<16)(G:m.jx.getD arg none=some y)(H:m.jy.length<64):
 TB w0 F w mb x gb gx 13 arg c0 c1 c2 c3 al t ser ⟨y::m.jy,m.jx⟩:=by
 unfold TB;have T:sn<64:=by have:=h.num;omega
 have J:=I h;clear h H;go_enter func51,ntmps51;go_upto_region 25 with fail;refine Zs λW A=>?_;have o:Below _ w W:=A▸Yc;have j:Hid<|Ya W _ _ 137:=A▸(show Ya _ _ _ _ from YO);have c:=I<|J.below<|o.drew;clear A o J;generalize w.heap.size=ab at*;have abW:=j.lt;have mbW:mb<W.heap.size:=c.st.box.lt;obtain⟨gs,es,cl,f,p⟩:=c.slo;obtain⟨v,L,B⟩:=p _ y G;obtain⟨ty,u,rfl⟩:=B.shape;have M:=I B;have q:=λn k=>mj f R L n k;have g:=f.heap;generalize O:Obj.map es cl=ob at g;have l:∀n:World,n.heap[x]?=some _->(Instr.lookup _ _ _ _).run _ _=.ok _ _:=λn k=>q _<|k.trans g.symm;clear q O f p L B G;refine ZW 8 (λD=>D.cell? _=some _/\D.cell? _=some _/\D.heap[x]?=some _) Kr (⟨c.st.box.cell 7,j.cell 1,g⟩) λa=>?_;clear g;refine Za 0 a (h:=Za 1 a (h:=Za 2 a (h:=Za 3 a (h:=Za 4 a (h:=Za 5 a (h:=Za 6 a (h:=?_)))))));refine Tk (i:=7) (d:=132) (v:=?v7) C C Kr (λ_ _ _ h=>h) (Or.inl ⟨by rfl,?hy7⟩) a ?rs7;case hy7=>(intro w hSw;have S:=l w hSw.2.2;go_simp;try with_reducible rfl)
 case rs7=>
 try simp only[Yt]
 refine ZS Kr Kr C Kr λK P=>?_;go_simp;refine(NB t _ _ u c.st X c.bel.size).mono ?_;rintro e U ⟨rfl,r,s⟩;obtain⟨g9,n9,z⟩:=r.out;have Q:=I<|c.pushed M z s;clear z r s;clear a j c M l;go_simp;refine P _ _ ?_;clear P K;go_wp2;exact RW (Tq C _ _ _) C ⟨C,I ⟨_,_,_,_,Q⟩⟩
theorem lQ{M:World}(h:YE w0 M w mb x gb gx c0 c1 c2 c3 al t ser m sa sn sc vs)(R:arg<16)(V:m.jx.length=16)(r:m.jy=y::ys)(A:m.jy.length<=64):
 TB w0 M w mb x gb gx 12 arg c0 c1 c2 c3 al t ser ⟨ys,m.jx.set arg<|some y⟩:=by
 unfold TB;obtain⟨v,vs',n,rfl,rfl,_,Y⟩:=h.top r;have hk:n<=64:=by rw[r,Y1]at A;omega
 have S:Hid<|YE _ _ w _ x _ _ _ _ _ _ _ t _ ⟨y::ys,m.jx⟩ _ _ _ _:=I<|by rwa [<-r]
 clear h r A Y;go_enter func51,ntmps51;go_upto_region 23 with fail;refine Zs λW O=>?_;have B:Below _ w W:=O▸Yc;have g:Hid<|Ya W _ _ 137:=O▸(show Ya _ _ _ _ from YO);have c:=I<|S.below<|B.drew;have D:=I<|g.below (Ym _ _).drew;clear O B S;generalize w.heap.size=ab at*;have abW:=g.lt;have mbW:mb<W.heap.size:=c.st.box.lt;refine ZW 8 (λT=>T.cell? _=some _/\T.cell? _=some _) Kr (⟨c.st.box.cell 7,g.cell 1⟩) λa=>?_;refine Za 0 a (h:=Za 1 a (h:=Za 2 a (h:=Za 3 a (h:=Za 4 a (h:=Za 5 a (h:=Za 6 a (h:=?_)))))));refine Zz (i:=7) Kr C λK p=>?_;go_simp;refine(OK _ t n v (by have:=c.st;rwa [Sf]at this) X).mono ?_;rintro e o ⟨rfl,P,s⟩;have k:=I (c.qx P s).1;have F:=I (c.qx P s).2;have G:=I<|Lk D s c.st.box N;clear P s c g D;go_simp;refine p _ _ ⟨k.st.box.cell 7,G.cell 1⟩ λa=>?_;clear p K;try simp only[Act.put,Yt]
 obtain⟨gs,es,cl,d,H⟩:=k.slo;obtain⟨es2,cl2,gs2,J,l,q⟩:=xp d R v;have Q:=J _ C;have U:Hid<|YE w0 M (setBlock o x<|.map es2 cl2) mb x gb gx c0 c1 c2 c3 al t ser ⟨ys,m.jx.set arg<|some y⟩ sa n sc vs':=I (k.stored C ⟨gs2,es2,cl2,l o (Xr.1 d.heap).1,λj z f=>by
  have L:V7 o<|setBlock o x<|.map es2 cl2:=(Zu.belX (YJ.set x o.heap.size o _) ⟨es,cl,d.heap⟩).y;rw[q];rw[Y0,Se]at f;by_cases e:arg=j
  .rw[Ye e,Ye<|by rw[V];exact R]at f;injection f with f;subst f;exact⟨v,Ye e,F.y L⟩
  .rw[Yd e]at f;rw[<-Y0]at f;obtain⟨u,Z,h2⟩:=H j z f;exact⟨u,by rw[Yd e];exact Z,h2.y L⟩⟩);clear J l q d H k G F;refine ZS Kr Kr C Kr λK p=>?_;go_simp;refine p _ _ ?_;clear p K a Q;go_wp2;exact RW (Tq C _ _ _) C ⟨C,I ⟨_,_,_,_,U⟩⟩
theorem X6.below{cv pv gv iv:Value}(h:X6 w c cv pv gv iv)(a:BW w w'):X6 w' c cv pv gv iv:=
 ⟨Ze h.cs a,(by obtain⟨xs,d,e,f⟩:=h.ps;exact⟨xs,Ze d a,e,λx g=>(f x g).below a⟩),(by obtain⟨xs,d,e,f⟩:=h.gs;exact⟨xs,Ze d a,e,λx g=>(f x g).below a⟩),Ze h.is a⟩
theorem Vo.below(h:Vo w c ss c0 c1 c2 c3 al)(a:BW w w'):Vo w' c ss c0 c1 c2 c3 al:=⟨h.cod.below a,h.sto.below a,h.dst⟩
theorem lJ{o:World}(h:YE w0 o w mb x gb gx c0 c1 c2 c3 al t ser m sa sn sc vs)(p:Vo w0 c ss c0 c1 c2 c3 al)(q:arg<c.jq.length)(r:YD<|c.jq.getD arg 0)(s:m.jy.length<64):
 TB w0 o w mb x gb gx 0 arg c0 c1 c2 c3 al t ser ⟨.inl (.inl<|c.jq.getD arg 0)::m.jy,m.jx⟩:=by
 unfold TB;have f:=(p.cod.below h.bel).cs;obtain⟨gc,cc,z⟩:=Zm f X;subst z;have k0:=Zc f _ (.int _<|c.jq.getD _ 0)<|by rw[Vt,List.getElem?_eq_getElem q,Y0,List.getElem?_eq_getElem q];rfl
 have gcl:=ZN f;have L:sn<64:=by have:=h.num;omega
 have A:=I h;have H:=I r;generalize c.jq.getD arg 0=v at*;generalize c.jq.length=nc at*;have M:(arg:Int)<(nc):=X;have B:Hid<|∀D:World,Below _ w _->D.cell? _=some _:=I λD J=>(J.cell gcl).trans k0;clear h p f k0 s r;go_enter func51,ntmps51;go_upto_region 3 with fail;refine Zs λW n=>?_;have g:Below _ w W:=n▸Yc;have i:Hid<|Ya W _ _ 137:=n▸(show Ya _ _ _ _ from YO);have d:=I<|A.below<|g.drew;have q2:=B W g;have gcW:=WH gcl g.size;clear n g A B gcl;generalize w.heap.size=ab at*;have abW:=i.lt;have mbW:mb<W.heap.size:=d.st.box.lt;refine ZW 11 (λu=>u.cell? _=some _/\u.cell? _=some _/\u.cell? _=some _) Kr (⟨d.st.box.cell 0,i.cell 1,q2⟩) λa=>?_;clear q2;refine Za 0 a (h:=Za 1 a (h:=Za 2 a (h:=Za 3 a (h:=Za 4 a (h:=Za 5 a (h:=Za 6 a (h:=Za 7 a (h:=Za 8 a (h:=Za 9 a (h:=Za 10 a (h:=?_)))))))))));refine ZS Kr Kr C Kr λK F=>?_;go_simp;refine(NB t _ 219 _ d.st X d.bel.size).mono ?_;rintro e O ⟨rfl,j,k⟩;obtain⟨g9,n9,l⟩:=j.out;have G:=I<|d.pushed (y:=.inl<|.inl v) ⟨C,H⟩ l k;clear l j k;clear a i d;go_simp;refine F _ _ ?_;clear F K;go_wp2;exact RW (Tq C _ _ _) C ⟨C,I ⟨_,_,_,_,G⟩⟩
theorem lP(h:YE w0 wk w mb x gb gx c0 c1 c2 c3 al t ser m sa sn sc vs)(hc:Vo w0 c ss c0 c1 c2 c3 al)(he:ser=ss.map YU.ser)(ha:arg<c.jw.length)(V:(c.jw.getD arg VN).2<=1000)(a0:m.jy.length<64)(a1:-1000000<=t)(a2:t<=1000000):
 TB w0 wk w mb x gb gx 1 arg c0 c1 c2 c3 al t ser ⟨SD ser t (c.jw.getD arg VN)::m.jy,m.jx⟩:=by
 unfold TB;have l:=hc.below h.bel;obtain⟨xs,d,r,J⟩:=l.cod.ps;have L:xs.length=c.jw.length:=by rw[<-r,Yz]
 have o:arg<xs.length:=X;obtain⟨gp,pc,a3⟩:=Zm d X;subst a3;obtain⟨e0,e1,e2⟩:=DX _ _ o;have k0:=Zc d _ _ e0;have k1:=Zc d _ _ e1;have k2:=Zc d _ _ e2;have gpl:=ZN d;have M:=J _<|List.getElem_mem o;have O:c.jw.getD arg VN=xs[arg].pr:=by rw[<-r,Y0,Vt,List.getElem?_eq_getElem o];rfl
 rw[O]at V⊢;rw[L]at d;generalize xs[arg]=p at*;have a6:sn<64:=by have:=h.num;omega
 have HI:=I h;have P:=I M;have s:=I l.sto;have v:=I l.dst;have a4:p.n<=1000:=V;have a7:=o;generalize xs.length=np at*;have a8:(arg:Int)<(np):=X;have HK:Hid<|∀G:World,Below _ w _->G.cell? _=some _/\G.cell? _=some _/\G.cell? _=some _:=I λG Y=>⟨(Y.cell gpl).trans k0,(Y.cell gpl).trans k1,(Y.cell gpl).trans k2⟩;clear h hc l d k0 k1 k2 e0 e1 e2 a0 J M r O V ha L;subst he;go_enter func51,ntmps51;go_upto_region 5 with fail;refine Zs λW Z=>?_;have f:Below _ w W:=Z▸Yc;have q:Hid<|Ya W _ _ 137:=Z▸(show Ya _ _ _ _ from YO);have j:=I<|HI.below<|f.drew;obtain⟨q0,q1,q2⟩:=HK.out W f;have A:=I<|P.below f.drew;have Q:=I<|s.below f.drew;have gpW:=WH gpl f.size;clear Z f HI HK gpl P s;generalize w.heap.size=ab at*;have abW:=q.lt;have mbW:mb<W.heap.size:=j.st.box.lt;have H:Hid<|W.cell? _=some _/\W.cell? _=some _/\W.cell? _=some _:=I ⟨q0,q1,q2⟩;refine ZW 12 (λB=>B.cell? _=some _/\B.cell? _=some _/\B.cell? _=some _/\B.cell? _=some _/\B.cell? _=some _) Kr (⟨j.st.box.cell 1,q.cell 1,q0,q1,q2⟩) λa=>?_;clear q0 q1 q2;refine Za 0 a (h:=Za 1 a (h:=Za 2 a (h:=Za 3 a (h:=Za 4 a (h:=Za 5 a (h:=Za 6 a (h:=Za 7 a (h:=Za 8 a (h:=Za 9 a (h:=Za 10 a (h:=?_)))))))))));refine Zz (i:=11) Kr C λK D=>?_;go_simp;refine(nl t j.st.box Q v A.nm A.cs a4 a1 a2).mono ?_;rintro e z ⟨v2,rfl,F,g⟩;obtain⟨ty,u,rfl⟩:=F.shape;go_simp;have k:=I<|j.below g;have R:=I<|(q.below (Ym _ _).drew).below g;refine D _ _ ⟨k.st.box.cell 1,R.cell 1,(g.cell gpW).trans H.1,(g.cell gpW).trans H.2.1,(g.cell gpW).trans H.2.2⟩ λa=>?_;clear D K g j q H A Q v;try simp only[Act.put,Yt]
 refine ZS Kr Kr C Kr λK D=>?_;go_simp;refine(NB t _ _ u k.st X k.bel.size).mono ?_;rintro e w9 ⟨rfl,S,T⟩;obtain⟨g9,n9,U⟩:=S.out;have a5:=I<|k.pushed F U T;clear U S T;clear a R k F;go_simp;refine D _ _ ?_;clear D K;go_wp2;exact RW (Tq C _ _ _) C ⟨C,I ⟨_,_,_,_,a5⟩⟩
theorem lL(h:YE w0 wk w mb x gb gx c0 c1 c2 c3 al t ser m sa sn sc vs)(h5:5<=op)(h8:op<=8)(hc:Vo w0 c ss c0 c1 c2 c3 al)(ha:arg<c.jv.length){l:List El}(O:m.jy=.inl (.inr l)::ys)(R:m.jy.length<=64):
 TB w0 wk w mb x gb gx op arg c0 c1 c2 c3 al t ser ⟨.inl (.inr<|SB (op-5) (c.jv.getD arg []) l)::ys,m.jx⟩:=by
 unfold TB;have S:=hc;obtain⟨xs,j,r,T⟩:=S.cod.gs;have a8:xs.length=c.jv.length:=by rw[<-r,Yz]
 have s:arg<xs.length:=X;obtain⟨gp,pc,a9⟩:=Zm j X;subst a9;have k0:=Zc j _ (.slice _ _ _)<|by unfold Nr;rw[Vt,List.getElem?_eq_getElem s];rfl
 have gpl:=ZN j;obtain⟨bs,A,k,B,b3⟩:=T _<|List.getElem_mem s;have U:c.jv.getD arg []=xs[arg].ns:=by rw[<-r,Y0,Vt,List.getElem?_eq_getElem s];rfl
 rw[U,<-qF B];generalize xs[arg]=p at*;have D:=I A;have V:Hid<|O1 _:=I<|Rx.1 k;have HK:Hid<|∀W':World,Below _ _ _->W'.cell? _=some _:=I λW' hb=>(hb.cell gpl).trans k0;generalize xs.length=np at*;have b4:(arg:Int)<(np):=X;clear hc S j k0 T r U A k B ha a8;obtain⟨v,vs',n,rfl,rfl,_,hn⟩:=h.top O;have hk:n<=64:=by rw[O,Y1]at R;omega
 have HI:Hid<|YE _ _ w _ x _ _ _ _ _ _ _ t _ ⟨.inl _::ys,m.jx⟩ _ _ _ _:=I<|by rwa [<-O]
 clear h O R hn;have b2:IntKind.i64.wrap ((op)-5)=((op-5:Nat)):=by rw[Us];omega
 have b0:op-5<=3:=X;have o0:¬((op:Int)=0):=X;have o1:¬((op:Int)=1):=X;have o2:¬((op:Int)=2):=X;have o3:¬((op:Int)=3):=X;have o4:¬((op:Int)=4):=X;go_enter func51,ntmps51;go_upto_region 14 with fail;refine Zs λW hW=>?_;have Y:Below _ w W:=hW▸Yc;have Z:Hid<|Ya W _ _ 137:=hW▸(show Ya _ _ _ _ from YO);have g:=I<|HI.below Y;clear hW Y HI o0 o1 o2 o3 o4;generalize w.heap.size=ab at*;go_upto_if 77 with fail;go_cut [77] (λs77 wx=>s77=.bool true/\wx=W);case first=>
  rcases(X:op=5∨op=6∨op=7∨op=8)with rfl|rfl|rfl|rfl<;>(go_wp2;go_meet;exact⟨C,C⟩)
 case rest=>
 obtain⟨rfl,rfl⟩:=hcut;go_wp2_with fail;refine(OK _ t n v (by have:=g.st;rwa [Sf]at this) X).mono ?_;rintro e z ⟨rfl,HP,P⟩;have o:=I (g.qx HP P).1;have a0:=I (g.qx HP P).2;have F:=I<|Lk Z P g.st.box N;clear g HP P Z;obtain⟨s2,is2,rfl,G⟩:=a0.out;obtain⟨ra,rc,rfl⟩:=Zd G.row;have a1:=I G;clear G a0;have b5:=RO<|.slice ra is2.length rc;go_upto_region 19 with fail;have Q:Hid<|BW z _:=I (Ym _ _).drew;have d:=I<|o.below Q;have q:=I<|F.below Q;have q2:=HK _ d.bel;have a2:=I d.bel;have abW:=F.lt;have mbW:=o.st.box.lt;have gpW:=WH gpl o.bel.size;have a3:=I<|a1.below Q;clear o F a1 Q;refine ZW 20 (λu=>u.cell? _=some _/\u.cell? _=some _/\u.cell? _=some _/\u.cell? _=some _/\u.cell? _=some _) Kr (⟨d.st.box.cell 8,q.cell 0,d.st.box.cell 2,q.cell 1,q2⟩) λa=>?_;clear q2;refine Za 0 a (h:=Za 1 a (h:=Za 2 a (h:=Za 3 a (h:=Za 4 a (h:=Za 5 a (h:=Za 6 a (h:=Za 7 a (h:=Za 8 a (h:=Za 9 a (h:=Za 10 a (h:=Za 11 a (h:=Za 12 a (h:=Za 13 a (h:=Za 14 a (h:=Za 15 a (h:=Za 16 a (h:=Za 17 a (h:=?_))))))))))))))))));refine Zz (i:=18) Kr C λK H=>?_;go_simp;refine(nf b0 l d.gr d.gm (Ze D a2) X V a3).mono ?_;rintro e w3 ⟨v3,is3,rfl,J,L⟩;go_simp;have f:=I<|d.belX L J.2;have M:Hid<|Ya _ _ _ _:=I<|Zu.belX L d.gm _ _ _ _ q;refine H _ _ ⟨f.st.box.cell 8,M.cell 0,f.st.box.cell 2,M.cell 1,HK _ f.bel⟩ λa=>?_;have a4:Hid<|WS _ ser t _<|.inl<|.inr _:=I ⟨_,_,C,J.1⟩;clear H K L J d q a3 a2 HK D V M;try simp only[Act.put,Yt]
 refine Za 19 a (h:=?_);refine ZS Kr Kr C Kr λK H=>?_;go_simp;refine(NB t n 221 _ f.st X f.bel.size).mono ?_;rintro e w9 ⟨rfl,a5,a6⟩;obtain⟨g9,n9,a7⟩:=a5.out;have b1:=I<|f.pushed a4 a7 a6;clear a7 a5 a6;clear a f a4;go_simp;refine H _ _ ?_;clear H K;go_wp2;exact RW (Tq C _ _ _) C ⟨C,I ⟨_,_,_,_,b1⟩⟩
theorem lH{G:World}{i:Nat}{st tl st' tl':List Nat}(h:YE w0 G w mb x gb gx c0 c1 c2 c3 al t (ss.map YU.ser) m sa sn sc vs)(A:Vo w0 c ss c0 c1 c2 c3 al)(H:T7 c)(J:-1000000<=t)(K:t<=1000000)(R:op<=13)(Y:op≠9)(S:op≠10)(q:Zy c i (op,arg)=true)(p:YV (ss.map YU.ser).length st tl m)(T:st.length<=64)(f:Zr c (op,arg) st tl=some (st',tl')):
 TB w0 G w mb x gb gx op arg c0 c1 c2 c3 al t (ss.map YU.ser)<|XG (ss.map YU.ser) t c (op,arg) m:=by
 have L:m.jy.length=st.length:=by rw[<-p.jy,Yz]
 have F:(ss.map YU.ser).length<=30:=by rw[Yz];exact A.sto.len
 have M:(ss.map YU.ser).length<=1000:=X;rcases(X:op=0∨op=1∨op=2∨op=3∨op=4∨op=11∨op=12∨op=13∨(op=5∨op=6∨op=7∨op=8))with rfl|rfl|rfl|rfl|rfl|rfl|rfl|rfl|D
 .have j:arg<c.jq.length:=by simpa [Zy]using q
  exact lJ h A j (H.cs _<|M3 j)<|by have:=MB<|f;omega
 .have j:arg<c.jw.length:=by simpa [Zy]using q
  have O:=H.ps _<|M3 (d:=VN) j;exact lP h A C j O.1 (by have:=MB<|f;omega) J K
 .have j:arg<=4:=by
   have:arg<5:=by simpa [Zy]using q
   omega
  cases st with
  |nil=>cases f
  |cons k r=>
   simp only[Zr]at f;split at f
   .rename_i s;subst s;obtain⟨y,rs,g,l,o,u⟩:=p.pop;obtain⟨a,n,rfl⟩:=Ff l;have e:XG (ss.map YU.ser) t c (2,arg) m=⟨.inl (.inr<|Uk (ss.map YU.ser) a (some arg) n t)::rs,m.jx⟩:=by simp only[XG,g]
    rw[e];exact lO h A.dst F j g X
   simp_all
 .have j:arg<=3:=by
   have:arg<4:=by simpa [Zy]using q
   omega
  cases st with
  |nil=>cases f
  |cons ky r=>
   cases r with
   |nil=>cases f
   |cons kz r=>
    simp only[Zr]at f;split at f
    .rename_i s;rw[Vu]at s;obtain⟨y,rs,g,l,o,u⟩:=p.pop;obtain⟨z,qs,B,P,U,V⟩:=u.pop;have B:rs=z::qs:=B;subst B;obtain⟨vy,rfl⟩:=Pp<|l▸s.2;obtain⟨vz,rfl⟩:=Pp<|P▸s.1;have e:XG (ss.map YU.ser) t c (3,arg) m=⟨.inl (QK arg vz vy)::qs,m.jx⟩:=by simp only[XG,g];rfl
     rw[e];exact lI h j g X<|WG.more M o
    simp_all
 .cases st with
  |nil=>cases f
  |cons ky r=>
   simp only[Zr]at f;split at f
   .rename_i s;obtain⟨y,rs,g,l,o,u⟩:=p.pop;obtain⟨vy,rfl⟩:=Pp<|by rwa [l]
    have e:XG (ss.map YU.ser) t c (4,arg) m=⟨.inl (TI vy)::rs,m.jx⟩:=by simp only[XG,g];rfl
    rw[e];exact lN h g X
   simp_all
 .cases st with
  |nil=>cases f
  |cons k r=>
   obtain⟨y,rs,g,l,o,u⟩:=p.pop;have e:XG (ss.map YU.ser) t c (11,arg) m=⟨rs,m.jx⟩:=by simp only[XG,g];rfl
   rw[e];exact lK h g X
 .cases st with
  |nil=>cases f
  |cons k r=>
   have j:arg<16:=by simpa [Zy]using q
   obtain⟨y,rs,g,l,o,u⟩:=p.pop;have e:XG (ss.map YU.ser) t c (12,arg) m=⟨rs,m.jx.set arg<|some y⟩:=by simp only[XG,g]
   rw[e];exact lQ h j p.len g X
 .have j:arg<16:=by simpa [Zy]using q
  simp only[Zr]at f;split at f
  .cases f
  .rename_i Q;obtain⟨y,l,s⟩:=p.jx _ Q;have e:XG (ss.map YU.ser) t c (13,arg) m=⟨y::m.jy,m.jx⟩:=by simp only[XG,l]
   rw[e];exact lM h j l<|by have:=MB f;omega
 .have key:∃r,st=2::r:=by
   cases st with
  |nil=>rcases D with rfl|rfl|rfl|rfl<;>cases f
  |cons k r=>
   have W:(if k=2 then Z4 2 r tl else none)=some (st',tl'):=by rcases D with rfl|rfl|rfl|rfl<;>exact f
   simp_all
  obtain⟨r,rfl⟩:=key;obtain⟨y,rs,g,l,o,u⟩:=p.pop;obtain⟨v,rfl⟩:=Lb l;have j:arg<c.jv.length:=by rcases D with rfl|rfl|rfl|rfl<;>simpa [Zy]using q
  have e:XG (ss.map YU.ser) t c (op,arg) m=⟨.inl (.inr<|SB (op-5) (c.jv.getD arg []) v)::rs,m.jx⟩:=by
   rcases D with rfl|rfl|rfl|rfl<;>(simp only[XG,g];rfl)
  rw[e];exact lL h X X A j g X
theorem Jy{b:Nat}{l:LB}(h:WB w B b l)(s:BA)(f:l.length+s.size<=140737488355328):
 CP 92 #[Vp b,.string s] w λe u=>e=.returned (.tuple #[E s.size,.nilIface])/\Hid (WB u B b<|l++bl s)/\Hid (WK B b w u):=by
 refine(Lm B b s w h.bd (by rw[Lib.byteCells_length];omega) h.le).mono ?_;rintro e u ⟨rfl,a,c,d⟩;rw[ER]at a;exact⟨C,⟨.inr a,Xb h.le c.size⟩,⟨c,d⟩⟩
theorem Jh(h:Vw w)(n:Int)(c:YD n):
 CP 93 #[E n] w λe u=>∃s:BA,e=.returned (.string s)/\Hid (bl s=Xs n)/\s.size<=1000000002/\BW w u:=by
 have d:=Nq n c;unfold YD at c;refine(strconv_Itoa n X X w h).mono ?_;rintro e u ⟨rfl,k,os,rfl⟩;have g:Lib.itoa n=Xs n:=by
  unfold Lib.itoa Xs;by_cases a:n<0
  .rw[Ye a,Ye a,Hk];rfl
  .rw[Yd a,Yd a,Hk]
 refine⟨_,C,I ?_,?_,?_⟩
 .assumption
 .show(Lib.itoa n).toArray.size<=_;simp_all
 .exact⟨C,C,C,Sm,λk f=>by simp[Go.Sort.grow,World.drewN,Ia,f]⟩
theorem Xz.size{n c:Nat}{tx:BA}{qs:List<|BA×BA}(h:Xz w a n c tx qs):tx.size<=108018:=by
 rw[<-Zb,h.txt];exact h.wf.len
def So(t:Int)(is:List YG):LB:=Xs t++((is.map YG.el).map QP).flatten
theorem qZ{l:List YG}:So t (l++[s])=So t l++QP s.el:=by
 unfold So;simp
theorem sX(c:(Yy s.labs).length<=108018)(a:YD s.v):(QP s.el).length<=1000108030:=by
 have:=Nq _ a;show([32,123]++Yy s.labs++[125]++Xs s.v).length<=_;simp_all;omega
theorem Bg{t:Int}(a:YD t):∀is:List YG,(∀i∈is,(Yy i.labs).length<=108018/\YD i.v)->(So t is).length<=1000000002+1000108030*is.length
 |[],_=>by have:=Nq t a;simpa [So]using this
 |s::is,h=>by
  have d:=Bg a _ λi c=>h i<|Vf _ c;have f:=sX (h s Sm).1 (h s Sm).2;have e:(So t<|s::is).length=(So t is).length+(QP s.el).length:=by
   unfold So;simp only[Wb,List.flatten_cons,Yv];omega
  simp_all;omega
theorem pd(t:Int)(K:YD t)(v:Value)(n:Int)(w:World)(Y:Vr w v<|.inl n)(L:Vw w)(M:20<=w.heap.size):
 CP 48 #[E t,v] w λe u=>∃r:BA,e=.returned (.string r)/\Hid (bl r=U9 t (.inl n))/\r.size<=40000000000/\BW w u:=by
 have Z:=I L;have g:=I M;have HT:=I K;clear L M K;obtain⟨rfl,o⟩:=Y;have HN:=I o;have h1:=QN<|E n;clear o;go_enter func48,ntmps48;go_wp2_with fail;refine Zv λW J=>?_;have c:Below _ w W:=J▸Yc;have p:Hid<|WB W _ _ []:=I ⟨.inl ⟨Yj _,.slice _ 0 0,J▸YO,⟨C,.inl ⟨C,C⟩⟩,by simp[Value.ownBlock]⟩,c.size⟩;have d:=I c;have h:=I<|Z.low c g;clear J c;refine(Jh h t HT).mono ?_;rintro e w1 ⟨s1,rfl,O,a0,f⟩;have q:=I<|p.below f;have s:=I<|d.trans<|f.mono d.size;have A:=I<|h.low f<|by have:=g.out;have:=d.size;omega
 clear f p d h;go_wp2_with fail;refine(Jy q _<|by simp;omega).mono ?_;rintro e w2 ⟨rfl,B,D⟩;have i:=I<|s.trans D.low;have P:=I<|A.low D.low g;clear q s A;go_wp2_with fail;refine(Jh P n HN).mono ?_;rintro e w3 ⟨s3,rfl,Q,a1,j⟩;have R:=I<|B.below j;have S:=I<|i.trans<|j.mono i.size;clear j B i;have k:Hid<|(⟨#[32]⟩++s3).size=1+s3.size:=by rw[Xa];rfl
 have F:Hid<|bl (⟨#[32]⟩++s3)=[32]++Xs n:=by rw[Ou,Q];rfl
 go_wp2_with fail;generalize(⟨#[32]⟩++s3:BA)=x at k F⊢;have a2:x.size<=1000000003:=by have:=k.out;omega
 clear k;refine(Jy R x<|by have b:([]++bl _).length=s1.size:=(by rw[O8,Zb]);omega).mono ?_;rintro e w4 ⟨rfl,l,G⟩;have T:=I<|S.trans G.low;have U:Hid<|[]++bl s1++bl x=U9 t (.inl n):=by rw[F,O];show[]++Xs t++([32]++Xs n)=Xs t++[32]++Xs n;simp
 have m:Hid<|([]++bl s1++bl x).length<=40000000000:=I<|by have b:([]++bl s1++bl x).length=s1.size+x.size:=(by rw[O8,Yv,Zb,Zb]);omega
 generalize[]++bl s1++bl x=z at l U m;go_wp2_with fail;refine(Builder_String_any_f _ _ _ _ l.bd l.le).mono ?_;rintro e w5 ⟨rfl,_,H⟩;have V:=I<|T.trans H;clear H G;go_wp2;go_ret;exact⟨_,C,I<|by rw[Ta,U],by have a:=m.out;rw[<-Oi]at a;exact a,V⟩
theorem pe(t:Int)(ht:YD t)(v:Value)(l:List El)(w:World)(hv:Vr w v<|.inr l)(hn:WG 30<|.inr l)(hp:Vw w)(hB:20<=w.heap.size):
 CP 48 #[E t,v] w λe u=>∃r:BA,e=.returned (.string r)/\Hid (bl r=U9 t (.inr l))/\r.size<=40000000000/\BW w u:=by
 have HP:=I hp;have O:=I hB;have HT:=I ht;clear hp hB ht;obtain⟨s,is,rfl,j⟩:=hv;have b3:is.length<=30:=j.len'▸hn.2;obtain⟨ra,rcp,rfl⟩:=Zd j.row;have M:=I j;have P:Hid<|∀k,(So t<|is.take k).length<=40000000000-2000000000:=I λk=>by
  have:=Bg HT (is.take k) λi hi=>⟨(j.ok i<|MX hi).lb.wf.len,(j.ok i<|MX hi).vok⟩;rw[Xw]at this;omega
 have h1:=QO<|.slice ra is.length rcp;have h2:=RO<|.slice ra is.length rcp;clear hn j;go_enter func48,ntmps48;go_wp2_with fail;refine Zv λW q=>?_;have d:Below _ w W:=q▸Yc;have o:Hid<|WB W _ _ []:=I ⟨.inl ⟨Yj _,.slice _ 0 0,q▸YO,⟨C,.inl ⟨C,C⟩⟩,by simp[Value.ownBlock]⟩,d.size⟩;have f:=I d;have Q:=I<|HP.low d O;clear q d;refine(Jh Q t HT).mono ?_;rintro e w1 ⟨s1,rfl,a4,b4,D⟩;have R:=I<|o.below D;have S:=I<|f.trans<|D.mono f.size;clear D o f Q;go_wp2_with fail;refine(Jy R _<|by simp;omega).mono ?_;rintro e z ⟨rfl,T,U⟩;have a5:=I<|S.trans U.low;have a3:Hid<|WB _ _ _<|So t []:=I<|by have:=T.out;rw[a4]at this;simpa [So]using this
 clear R S T U;go_wp2;go_loopw [26] (λi wr=>∃k:Nat,k<=is.length/\i=E k/\Hid (WB wr w.heap.size w.heap.size<|So t<|is.take k)/\Hid (BW w wr)) (λi _=>is.length-(intOf i).toNat);case atStart=>exact⟨0,Yr _,C,a3,a5⟩
 case round=>
  rename World=>wo;obtain⟨k,hk,rfl,p,F⟩:=hrel;have a6:=F.size;by_cases G:k<is.length
  .have hg:∃g,ra=some ⟨g,0,none⟩:=by
    obtain⟨g,cp',h⟩:=Zm M.row X;injection h with h1;exact⟨g,h1⟩
   obtain⟨vg,rfl⟩:=hg;have A:=I<|Ze M.row F;obtain⟨f1,f2,f3⟩:=OA _ k G;have d1:=Zc A _ _ f1;have d2:=Zc A _ _ f2;have d3:=Zc A _ _ f3;have H:=I<|M.ok _<|List.getElem_mem G;have a7:Hid<|So t _=So t _++QP _:=List.take_succ_eq_append_getElem G▸qZ;generalize is[k]=s at*;have b5:=H.lb.size;have q1:¬9223372036854775807<2+s.tx.size:=X;have q2:¬9223372036854775807<2+s.tx.size+1:=X;clear f1 f2 f3 A;have b6:(k:Int)<(is.length):=X;go_upto_region 12 with fail;refine Zs λW q=>?_;have d:Below _ _ W:=q▸Yc;have J:Hid<|Ya W _ [.slice _ _ _,.string _,.int _ _] 223:=q▸YO;have o:=I<|p.below d;have f:=I<|F.trans<|d.mono a6;clear q d d1 d2 d3 p F;have V:=f.size;have x0:=J.cell 0;have x1:=J.cell 1;have x2:=J.cell 2;simp only[Yf]at x0 x1 x2;have K:Hid<|∀u,Ya u wo.heap.size [.slice s.a s.n s.c,.string s.tx,E s.v] 223->u.cell? _=some _/\u.cell? _=some _/\u.cell? _=some _:=I λu h=>⟨h.cell 0,h.cell 1,h.cell 2⟩;go_region_held3 (λu=>u.cell? ⟨wo.heap.size,0,none⟩=some (.slice s.a s.n s.c)/\u.cell? ⟨wo.heap.size,1,none⟩=some (.string s.tx)/\u.cell? ⟨wo.heap.size,2,none⟩=some (E s.v)) (first|exact⟨x0,x1,x2⟩|exact K.out _ a8.out|exact K.out _ Y.out|exact K.out _ a9.out|go_keep) (first
    | (go_at_call 94;refine(Mt).mono ?_;rintro e w5 ⟨rfl,o5,Z⟩;have m:Hid<|BW W w5:=I<|by rw[Z];exact((Ym _ _).drew).alloc (Yj _) _
       have a9:=I<|J.below m.out;clear Z)
    | (go_at_call 93;refine(Jh (HP.low (f.trans<|m.mono V) O.out) s.v H.vok).mono ?_;rintro e w6 ⟨s6,rfl,b0,b7,a0⟩;have B:Hid<|BW W w6:=I<|m.trans<|a0.mono m.size;have Y:=I<|J.below B.out;have x:Hid<|(⟨#[32,123]⟩++s.tx++⟨#[125]⟩++s6:BA).size=2+s.tx.size+1+s6.size:=I<|by rw[Xa,Xa,Xa];rfl
       have L:Hid<|bl (⟨#[32,123]⟩++s.tx++⟨#[125]⟩++s6:BA)=QP s.el:=I<|by
        rw[Ou,Ou,Ou,b0.out,H.lb.txt];rfl
       have q3:¬9223372036854775807<2+s.tx.size+1+s6.size:=X;clear a0)
    | (go_at_call 92;generalize(⟨#[32,123]⟩++s.tx++⟨#[125]⟩++s6:BA)=x6 at x L⊢;have b8:x6.size<=1000108030:=(by have:=x.out;omega);clear x;refine(Jy (o.below B.out) x6<|by have:=P.out k;omega).mono ?_;rintro e w7 ⟨rfl,b9,a1⟩;have a8:Hid<|Ya w7 wo.heap.size [.slice s.a s.n s.c,.string s.tx,E s.v] 223:=I<|WK.bat (o.below B.out) a1.out Y.out N N));have b1:Hid<|WB w7 w.heap.size w.heap.size<|So t<|is.take<|k+1:=by rwa [a7.out,<-L.out]
   have b2:=I<|(f.trans<|B.mono V).trans a1.low;go_wp2;go_roundw;case rel=>exact⟨k+1,X,by go_num,b1,b2⟩
   case measure=>simp[intOf];omega
  .obtain rfl:k=is.length:=X;rw[X1]at p;have HE:Hid<|So t is=U9 t (.inr l):=by unfold So;rw[M.els];rfl
   go_wp2_with fail;refine(Builder_String_any_f _ _ _ _ p.bd p.le).mono ?_;rintro e w5 ⟨rfl,_,a2⟩;have m:=I<|F.trans a2;clear a2;go_wp2;go_ret;exact⟨_,C,I<|by rw[Ta,HE],by have a:=P is.length;rw[X1,<-Oi]at a;exact Xb a X,m⟩
theorem nR(a:YD t)(V:VV)(c:Vr w v V)(g:WG 30 V)(d:Vw w)(f:20<=w.heap.size):
 CP 48 #[E t,v] w λe u=>∃r:BA,e=.returned (.string r)/\Hid (bl r=U9 t V)/\r.size<=40000000000/\BW w u:=by
 cases V with
 |inl n=>exact pd t a v n w c d f
 |inr l=>exact pe t a v l w c g d f
theorem oA{bs:List BA}(h:w.ownsRow B 9 1 v bs.length<|TE bs)(m:bs.length<=50)(o:∀b∈bs,b.size<=40000000000):
 CP 52 #[v,.string ⟨#[10]⟩] w λe u=>∃s:BA,e=.returned (.string s)/\Hid (bl s=VX (bs.map bl))/\BW w u:=by
 by_cases d:bs.length=0
 .obtain⟨la,lc,rfl⟩:=Zd h;rw[d];refine(strings_Join_none la lc ⟨#[10]⟩ w).mono ?_;rintro e u ⟨rfl,rfl⟩;have:bs=[]:=Qr d;subst this;exact⟨_,C,I C,Ym _ _⟩
 .obtain⟨g,lc,rfl⟩:=Zm h X;have f:Lib.join (bs.map (·.data.toList)) [10]=VX (bs.map bl):=C0 _;have i:=C1 (n:=40000000000) (bs.map bl) λx l=>by obtain⟨b,k,rfl⟩:=XJ.1 l;rw[Zb];simp_all
  rw[Yz]at i;have a:(VX<|bs.map bl).length<=140737488355328:=X;have c:bs.length<=lc:=by
   rcases h.2 with⟨e,_⟩|⟨g',cap,cur,e,_,_,p,_⟩
   .cases e
   .simp_all
  rw[<-f]at a;refine(strings_Join g 0 lc bs ⟨#[10]⟩ w ?_ (ZN h) X c a).mono ?_
  .intro j x f;rw[SK];exact Zc h j _<|by show(bs.map Value.string)[j]?=_;simp_all
  .rintro e u ⟨rfl,k⟩;exact⟨_,C,I<|by assumption,k⟩
