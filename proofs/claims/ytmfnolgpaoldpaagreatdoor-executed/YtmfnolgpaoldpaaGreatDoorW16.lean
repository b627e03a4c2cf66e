/- Parts. -/
import Derived.Test.YtmfnolgpaoldpaaGreatDoorW15
set_option linter.all false
set_option maxRecDepth 100000
set_option maxHeartbeats 16000000
namespace Go.Proofs.YtmfnolgpaoldpaaGreatDoor
open Go.RowKit LS Go.Proofs.Tryz
theorem C3{ns ms:List<|LB}(h:∀z,z∈ns↔z∈ms)(l:List Xc):Zp l ns=Zp l ms:=by
 unfold Zp;simp_all
theorem DJ{ns ms:List<|LB}(h:∀z,z∈ns↔z∈ms)(op:Nat)(all:List El):∀(l pre:List El),Vy op ns all pre l=Vy op ms all pre l
 |[],_=>C
 |e::l,pre=>by
  rw[Vy,Vy,DJ h _ _ l _];have a:(λf:El=>Zp _ _)=λf=>Zp f.1 _:=funext λf=>C3 h _;simp only[C3 h]
theorem qF{ns ms:List<|LB}(h:∀z,z∈ns↔z∈ms)(op:Nat)(l:List El):SB op ns l=SB op ms l:=by unfold SB;rw[DJ h]
end Go.Proofs.YtmfnolgpaoldpaaGreatDoor
namespace Go.Proofs.YtmfnolgpaoldpaaGreatDoor.LS
open Go Go.RowKit
theorem kY{l:LB}{t:Tr}(h:Z5 l=.ok t):V1 t/\isNil t=false/\wT t<=100000:=by
 unfold Z5 at h;by_cases c:300<l.length
 .simp_all
 .rw[Yd c]at h;have f:=Lc l (l.length+1) 0<|Yr _;have g:=KM l X (l.length+1) 0;cases a:Zh (10*(Z7 l (l.length+1) 0).length+5) false 0 .nil (Z7 l (l.length+1) 0) 0 with
  |error e=>simp_all
  |ok z=>
   obtain⟨t',r⟩:=z;rw[a]at h;have i:=NA _ _ _ _ _ _ _ (λe=>by cases e) a;simp only at h;by_cases d:(hd r).jj=0
   .rw[Ye d]at h;by_cases j:Zq t'=0
    .simp_all
    simp_all;omega
   simp_all
structure T7 (c:Yb):Prop where
 cs:∀x∈c.jq,YD x
 ps:∀x∈c.jw,x.2<=1000/\x.1.kq.length<=100000
 gs:∀x∈c.jv,x.length<=70000
theorem ZfN{α:Type}{one:Nat->X9 α}{p:Nat}:∀{k:Nat}{xs:List α}{q:Nat},Yo one p k=.ok (xs,q)->∀x∈xs,∃a b,one a=.ok (x,b)
 |0,xs,q,h,x,c=>by injection h with h;simp_all
 |k+1,xs,q,h,x,c=>by
  unfold Yo at h;cases d:Yo one p k with
  |error e=>simp_all
  |ok y=>
   rw[d]at h;simp only at h;cases f:one y.2 with
   |error e=>simp_all
   |ok z=>
    rw[f]at h;injection h with h;injection h with h1 h2;subst h1;rcases Wk.1 c with c|c
    .exact ZfN (d) x c
    .rw[Vs]at c;subst c;exact⟨_,_,f⟩
theorem uu{l:LB}{a b:Nat}{x:Int}(h:Vx l a=.ok (x,b)):YD x:=by
 unfold Vx at h;split at h
 .cases h
 .split at h
  .cases h
  constructor<;>simp_all
theorem fg{l:LB}{p q:Nat}{t:LB}(h:VA l p=.ok (t,q)):t.length<=65535:=by
 unfold VA at h;split at h
 .cases h
 .rename_i y a;have d:y.1<65536:=by
   unfold Z8 at a;split at a
   .cases a
   .rename_i z c;cases a;have:=(Mb c).2.1;exact PS (n:=2)<|by rw[this];unfold Y6;simp_all;omega
  have:=(Mb h).2.1;simp only at this;rw[this];unfold Y6;simp_all;omega
theorem EA:∀l:List<|LB×LB×Bool,l.length<=cw l
 |[]=>Yj _
 |c::l=>by have:=EA l;simp only[cw,Y1];omega
theorem A1{l:LB}{a:Nd}(h:Xg l=some a):a.kq.length<=100000:=by
 unfold Xg at h;split at h
 .rename_i x y b p q c;split at h
  .injection h with h;subst h;have d:=(kY c).2.2;have e:=EA b.kq;simp only[wT,Xo]at d;omega
  .cases h
 .cases h
theorem mM{t:LB}{x:Nd×Nat}(h:ZL t=some x):x.2<=1000/\x.1.kq.length<=100000:=by
 unfold ZL at h;split at h
 .cases c:Xg t with
  |none=>simp_all
  |some a=>rw[c]at h;cases h;exact⟨Sm,A1 c⟩
 .rename_i p _;split at h
  .split at h
   .rename_i n d;split at h
    .cases h
    .cases c:Xg (t.take p)with
     |none=>simp_all
     |some a=>rw[c]at h;cases h;exact⟨Mw d,A1 c⟩
   .cases h
  .cases h
theorem qI{t:LB}{x:List<|LB}(h:VW t=some x)(a:t.length<=65535):x.length<=70000:=by
 unfold VW at h;split at h
 .simp_all
 .split at h
  .cases h;have:=Qf 44 t;omega
  .cases h
theorem uM{l:LB}{c:Yb}(h:Wt l=.ok c):T7 c:=by
 unfold Wt at h;split at h
 .cases h
 .split at h
  .cases h
  .rename_i cs g;split at h
   .cases h
   .rename_i ps i;split at h
    .cases h
    .rename_i gs j;split at h
     .cases h
     .split at h
      .cases h
      .split at h
       .cases h
       .split at h
        .cases h
        .cases h;refine⟨λx e=>?_,λx e=>?_,λx e=>?_⟩
         .obtain⟨a,b,d⟩:=ZfN (xs:=cs.1) (q:=cs.2) g x e;exact uu d
         .obtain⟨a,b,d⟩:=ZfN (xs:=ps.1) (q:=ps.2) i x e;unfold pickAt at d;split at d
          .cases d
          .split at d
           .cases d
           .rename_i y f;injection d with d;injection d with h2 h3;subst h2;exact mM f
         .obtain⟨a,b,d⟩:=ZfN (xs:=gs.1) (q:=gs.2) j x e;unfold groupAt at d;split at d
          .cases d
          .rename_i z k;split at d
           .cases d
           .rename_i y f;injection d with d;injection d with h2 h3;subst h2;exact qI f<|fg k
theorem NC{k:Nat}{st sl:List Nat}{x:List Nat×List Nat}(h:Z4 k st sl=some x)(a:st.length<=64):x.1.length<=64:=by
 unfold Z4 at h;split at h
 .cases h
 .cases h;simp_all;omega
theorem fB{c:Yb}{x:Nat×Nat}{st sl:List Nat}{y:List Nat×List Nat}(h:Zr c x st sl=some y)(a:st.length<=64):y.1.length<=64:=by
 unfold Zr at h;split at h
 .exact NC h a
 .exact NC h a
 .split at h
  .split at h
   .exact NC h<|by simp_all;omega
   .cases h
  .cases h
 .split at h
  .split at h
   .exact NC h<|by simp_all;omega
   .cases h
  .cases h
 .split at h
  .split at h
   .exact NC h<|by simp_all;omega
   .cases h
  .cases h
 .cases h;exact a
 .split at h
  .cases h;simp_all;omega
  .cases h
 .split at h
  .cases h;simp_all;omega
  .cases h
 .split at h
  .cases h
  .exact NC h a
 .split at h
  .split at h
   .exact NC h<|by simp_all;omega
   .cases h
  .cases h
theorem VC.len{c:Yb}{L:List Ah}{ser:List YY}(h:VC c L)(hd:Sx ser)(t:Int){i:Nat}{m:MQ}(d:i<c.jz.length)(e:(c.jz.getD i (0,0)).1<=13)(j:(L.getD i Ys).kj=true)(f:YV ser.length (L.getD i Ys).jy (L.getD i Ys).jx m)(o:m.jy.length<=64):
 (XG ser t c (c.jz.getD i (0,0)) m).jy.length<=64:=by
 obtain⟨_,st,sl,g,_,_⟩:=h.step i d j;have k:=h.fwd i d;generalize c.jz.getD i (0,0)=x at*;obtain⟨op,arg⟩:=x;have l:=(f.step hd t e k g).jy;have n:(L.getD i Ys).jy.length<=64:=by rwa [<-f.jy,Yz]
 have a:=fB g n;simp only at a;rw[<-l,Yz]at a;exact a
def VK(st:List YY)(c:Yb):Nat->List Int->Option (List (LB)×Nat)
 |f,[]=>some ([],f)
 |f,t::ts=>match Xf st t c f 0 UW with
  |none=>none
  |some x=>match VK st c x.1 ts with
   |none=>none
   |some y=>some (U9 t (TL x.2)::y.1,y.2)
theorem Jj{st:List YY}(c:Yb)(t:Int):∀(ts:List Int)(f:Nat),VK st c f (ts++[t])=match VK st c f ts with
  |none=>none
  |some y=>match Xf st t c y.2 0 UW with
   |none=>none
   |some x=>some (y.1++[U9 t<|TL x.2],x.1)
 |[],f=>by
  rfl
 |u::ts,f=>by
  simp only[Oj,VK];cases Xf st u c f 0 UW with
  |none=>rfl
  |some x=>
   simp only;rw[Jj c t _ _];cases VK st c x.1 ts with
   |none=>rfl
   |some y=>
    simp only;cases Xf st t c y.2 0 UW<;>rfl
theorem zt{st:List YY}(c:Yb){f:Nat}:∀(us ts:List Int),VK st c f ts=none->VK st c f (ts++us)=none
 |[],ts,h=>by simp_all
 |u::us,ts,h=>by
  have a:VK st c f (ts++[u])=none:=by rw[Jj,h]
  have:=zt c us _ a;simp_all
theorem zu{st:List YY}{c:Yb}{f k:Nat}{ts:List Int}(h:VK st c f (ts.take k)=none):VK st c f ts=none:=by
 have:=zt c (ts.drop k) _ h;simp_all
theorem BM{st:List YY}{t:Int}{c:Yb}{f i:Nat}{m:MQ}(h:c.jz.length<=i):Xf st t c f i m=some (f,m):=by
 unfold Xf;simp_all
theorem BO{st:List YY}{t:Int}{c:Yb}{i:Nat}{m:MQ}(h:i<c.jz.length):Xf st t c 0 i m=none:=by
 unfold Xf;simp_all
theorem BN(st:List YY)(t:Int)(c:Yb)(f i:Nat)(m:MQ)(h:i<c.jz.length):Xf st t c (f+1) i m=Xf st t c f (UH i (c.jz.getD i (0,0)) m) (XG st t c (c.jz.getD i (0,0)) m):=by
 conv=>lhs;unfold Xf
 simp_all;omega
theorem MB{k:Nat}{st sl:List Nat}{x:List Nat×List Nat}(h:Z4 k st sl=some x):st.length≠64:=by
 unfold Z4 at h;simp_all
theorem M3{α:Type}{l:List α}{i:Nat}{d:α}(h:i<l.length):l.getD i d∈l:=by
 simp_all
theorem WG.more{n k:Nat}(a:n<=k):∀{V:VV},WG n V->WG k V
 |.inl _,_=>trivial
 |.inr _,h=>⟨h.1,Xb h.2 a⟩
end Go.Proofs.YtmfnolgpaoldpaaGreatDoor.LS
namespace Go.Proofs.YtmfnolgpaoldpaaGreatDoor
open Go.RowKit LS Go.Proofs.Tryz
theorem kJ{w:World}{base:Nat}{e:TypeId}{g n cap:Nat}{xs:List Value}(h:w.ownsRow base e 1 (.slice (some ⟨g,0,none⟩) n cap) n xs)(i:Nat)(u:Value):(w.setCell ⟨g,i,none⟩ u).ownsRow base e 1 (.slice (some ⟨g,0,none⟩) n cap) n<|xs.set i u:=by
 obtain⟨m,h⟩:=h;refine⟨by rwa [Qw],?_⟩;rcases h with⟨h,_⟩|⟨g',cap',cur,c,d,f,j,k,l,a⟩
 .cases h
 .injection c with h1 _ h3;injection h1 with h1;injection h1 with h1;subst h1 h3;refine .inr ⟨g,cap,cur.setIfInBounds i u,C,d,?_,j,k,by simpa using l,?_⟩
  .simp[World.setCell,V4,f]
  .rw[Nat.mul_one]at a⊢;rw[<-a,Array.toList_setIfInBounds,List.take_set]
theorem iH{c:Nat}(k:Nat){f:Nat->Value}{z:Value}(a:k<c):((List.range k).map f++List.replicate (c-k) z).set k (f k)=(List.range<|k+1).map f++List.replicate (c-(k+1)) z:=by
 have e:c-k=(c-(k+1))+1:=X;rw[e,List.replicate_succ,Ve _ _ Sm,List.range_succ,Y9,WV];simp
theorem Tryz.infoInt3:(Tryz.prog.info? 3).map (λi=>(i.zero,i.size,i.bytes))=some (some<|E 0,1,8):=Kr
theorem Nu {t:Int}{w:World}:CP 45 #[E t] w λe u=>e=.returned (.bool<|decide (-1000000<=t)&&decide (t<=1000000))/\u=w:=by
 by_cases a:-1000000<=t
 · by_cases c:t<=1000000
   .rw[show(decide _&&decide _)=true by simp;omega];go_enter func45,ntmps45;go_wp2;go_ret;exact⟨C,C⟩
   .rw[show(decide _&&decide _)=false by simp;omega];go_enter func45,ntmps45;go_wp2;go_ret;exact⟨C,C⟩
 .rw[show(decide _&&decide _)=false by simp;omega];go_enter func45,ntmps45;go_wp2;go_ret;exact⟨C,C⟩
theorem Tryz.infoCell:(Tryz.prog.info? 61).map (λi=>(i.zero,i.size,i.bytes))=some (some<|.agg #[.bool false,E 0,S0,.bool false,E 0,E 0,E 0,.string ⟨#[]⟩,S0,S0,E 0,E 0],12,152):=Kr
structure Qn (w:World)(base mb cb:Nat)(sv:Value)(t:Int)(sa:Option Addr)(sn sc:Nat)(sl cs:List CV):Prop where
 box:Ya w mb (mC cb sv t (.slice sa sn sc) sl) 64
 own:w.ownsRow base 61 12 (.slice sa sn sc) sn<|Ui cs
 len:cs.length=sn
theorem Qn.below{w w':World}{base mb cb:Nat}{sv:Value}{t:Int}{sa:Option Addr}{sn sc:Nat}{sl cs:List CV}(h:Qn w base mb cb sv t sa sn sc sl cs)(a:BW w w'):Qn w' base mb cb sv t sa sn sc sl cs:=⟨h.box.below a,Ze h.own a,h.len⟩
theorem Qn.app{w wr a:World}{base mb cb:Nat}{sv:Value}{t:Int}{sa:Option Addr}{sn sc:Nat}{sl cs:List CV}(h:Qn wr base mb cb sv t sa sn sc sl cs)(c:BW w wr){x:CV}{ga nc:Nat}
 (d:wr.grownBy a (Value.slice sa sn sc).ownBlock)(g:a.ownsRow base 61 12 (.slice (some ⟨ga,0,none⟩) (sn+1) nc) (sn+1)<|Ui cs++x.cells):
 Ya a mb (mC cb sv t (.slice sa sn sc) sl) 64/\Qn (a.setCell ⟨mb,3,none⟩<|.slice (some ⟨ga,0,none⟩) (sn+1) nc) base mb cb sv t (some ⟨ga,0,none⟩) (sn+1) nc sl (cs++[x])/\YS w (a.setCell ⟨mb,3,none⟩<|.slice (some ⟨ga,0,none⟩) (sn+1) nc) mb (.slice sa sn sc):=by
 have e:=h.box.ownGrownR h.own d N;refine⟨e,⟨e.setkM 3 _,?_,by rw[Yv,h.len];rfl⟩,?_⟩
 .rw[Dv,show Ui [x]=x.cells from V6 _];exact ZJ g λk j=>Go.Deep.blk_setCell_other _ _ _ _<|by
    rintro rfl;exact ZD g e N j.symm
 .have f:a.grownBy (a.setCell ⟨mb,3,none⟩<|.slice (some ⟨ga,0,none⟩) (sn+1) nc)<|some mb:=Zn (Z2 _ _) (.inl C) _;refine⟨f.os.trans<|d.os.trans c.os,f.tape.trans<|d.tape.trans c.tape,f.output.trans<|d.output.trans c.output,Xb c.size<|Xb d.size f.size,λk i l m=>?_⟩;rw[Go.Deep.blk_setCell_other _ _ _ _ l,d.block k (WH i c.size) m];exact c.block k i
theorem MA{w:World}(base mb cb:Nat)(sv:Value)(t:Int){sa:Option Addr}(sn:Nat){sc0:Nat}(sl cs:List CV)(sc:Bool)(nn:Int)(ea:Option Addr)(en ec:Nat)(h:Qn w base mb cb sv t sa sn sc0 sl cs)(hn:sn<=64)(r:base<=w.heap.size):
 CP 33 #[Vp mb,.agg #[.bool sc,E nn,.slice ea en ec]] w λe k=>e=.returned (.tuple #[])/\Hid (∃ga nc,Qn k base mb cb sv t (some ⟨ga,0,none⟩) (sn+1) nc sl<|cs++[⟨sc,nn,ea,en,ec,false,XM⟩])/\Hid (YS w k mb<|.slice sa sn sc0):=by
 have U:=I h;clear h;obtain⟨i0,V,L,M,O⟩:=Xv Tryz.infoCell;go_enter func33,ntmps33;go_upto_region 1 with fail;refine Zs λW J=>?_;have l:Below _ w W:=J▸Yc;have f:Hid<|Ya W _ _ 55:=J▸(show Ya _ _ _ _ from Go.Deep.blk_alloc_new w _);have m:=I<|U.below l;have s:=I l;have Y:=Xb r l.size;clear J l r;obtain⟨vb,z⟩:∃vb,vb=w.heap.size:=⟨_,C⟩;rw[<-z]at f⊢;clear z;have A:W.drew.cell? _=some _/\W.drew.cell? _=some _/\W.drew.cell? _=some _/\W.drew.cell? _=some _:=⟨m.box.cell 3,f.cell 0,f.cell 1,f.cell 2⟩;have a0:=m.box.lt;have a1:=f.lt;have B:=I λo=>m.own.drew.alloc o;have D:Hid<|∀o,Qn (W.drew.alloc o) _ _ _ _ t _ _ _ _ _:=I λo=>m.below<|((Ym _ _).drew).alloc (Yj _) _;have n:Hid<|∀o,Ya (W.drew.alloc o) _ _ _:=I λo=>f.below<|((Ym _ _).drew).alloc (Yj _) _;have P:Hid<|∀o,Below _ w<|W.drew.alloc o:=I λo=>(s.drew).alloc (s.size) _;refine ZW 11 (λk=>k.cell? _=some _/\k.cell? _=some _/\k.cell? _=some _/\k.cell? _=some _) Kr (A) λa=>?_;clear A;refine Za 0 a (h:=Za 1 a (h:=Za 2 a (h:=Za 3 a (h:=Za 4 a (h:=Za 5 a (h:=Za 6 a (h:=?_)))))));refine Zz (i:=7) Kr C λK j=>?_;go_simp;refine j _ _ ⟨(D _).box.cell 3,(n _).cell 0,(n _).cell 1,(n _).cell 2⟩ λa=>?_;clear j K;try simp only[Act.put,Yt]
 refine Zz (i:=8) Kr C λK j=>?_;refine S3 C _ _ _ C _ 61 _ _ _ _ underlying52 V L M O C N (.slice _ _ _) _ _ (by simp[Act.eval]) (B.out _) ⟨W.heap.size,0,none⟩ 1 1 [.bool sc,E nn,.slice ea en ec,.bool false,E 0,E 0,E 0,.string ⟨#[]⟩,S0,S0,E 0,E 0] (by simp[Act.eval]) C ?h2 ?h3 ?h4 ?h5 ?h6 ?_;case h2=>exact Z1 C
 case h3=>intro u Q;simp at Q;rcases Q with rfl|rfl|rfl|rfl|rfl|rfl|rfl|rfl|rfl|rfl|rfl|rfl<;>rfl
 case h4=>unfold maxLen;omega
 case h5=>omega
 case h6=>simp;omega
 intro v1 Z g c _;obtain⟨g1,cp1,R⟩:=Zm g X;subst R;obtain⟨q,F,G⟩:=(D.out _).app (P.out _) (x:=⟨sc,nn,ea,en,ec,false,XM⟩) (by exact c) g;have H:=I q;have S:=I F;have T:=I G;have p:=(n _).ownGrownR (B _) c N;refine j _ _ ⟨q.cell 3,p.cell 0,p.cell 1,p.cell 2⟩ λa=>?_;clear j K q F G p g c;try simp only[Act.put,Of]
 refine Tk (i:=9) (d:=13) (v:=?v9) C C Kr (λ_ _ _ h=>h) (Or.inl ⟨by rfl,?hy9⟩) a ?rs9;case hy9=>(intro w hSw;go_simp;try with_reducible rfl)
 case rs9=>
 refine Tk (i:=10) (d:=14) (v:=?v10) C C Kr (λ_ _ _ h=>h) (Or.inl ⟨by rfl,?hy10⟩) a ?rs10;case hy10=>(intro w hSw;go_simp;try with_reducible rfl)
 case rs10=>
 refine ZS Kr Kr C Kr λK j=>?_;have yc:Z.cell? _=some _:=H.cell 3;have yf:=H.frozen 3;clear a;go_simp;refine j _ _ ?_;clear j K yc yf;go_wp2;exact RW (Tq C _ _ _) C ⟨C,I ⟨_,_,S⟩,T⟩
end Go.Proofs.YtmfnolgpaoldpaaGreatDoor
