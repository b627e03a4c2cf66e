/- Parts. -/
import Derived.Test.YtmfnolgpaoldpaaGreatDoorW31
import Derived.Deep.AppendLies
set_option linter.all false
set_option maxRecDepth 100000
set_option maxHeartbeats 16000000
namespace Go.Proofs.YtmfnolgpaoldpaaGreatDoor
open Go.RowKit LS Go.Proofs.Tryz
variable {p:Addr}{c xa ya:List Value}{os xs ys zs zs':List<|Value×El}{v vv:Value}{W w wr:World}
structure VR (w wr:World)(xa ya:List Value)(vv:Value)(zs:List<|Value×El):Prop where
 bel:BW w wr
 xb:Ya wr w.heap.size xa 55
 yb:Ya wr (w.heap.size+1) ya 55
 rb:Ya wr (w.heap.size+2) [.bool false,E 0,S0] 55
 vb:Ya wr (w.heap.size+3) [.bool false,E 0,vv] 55
 own:wr.ownsRow (w.heap.size+4) 118 2 vv zs.length<|UR zs
theorem VR.below{w':World}(h:VR w wr xa ya vv zs)(a:BW wr w'):VR w w' xa ya vv zs:=
 ⟨h.bel.trans<|a.mono h.bel.size,h.xb.below a,h.yb.below a,h.rb.below a,h.vb.below a,Ze h.own a⟩
theorem VR.app{c:World}{v':Value}(h:VR w wr xa ya vv zs)(d:wr.grownBy c vv.ownBlock)(i:c.ownsRow (w.heap.size+4) 118 2 v' zs'.length<|UR zs'):
 VR w (c.setCell ⟨w.heap.size+3,2,none⟩ v') xa ya v' zs':=by
 have k:=h.xb.ownGrown h.own d N;have l:=h.yb.ownGrown h.own d N;have m:=h.rb.ownGrown h.own d N;have f:=h.vb.ownGrown h.own d N;have a:∀j,j≠w.heap.size+3->(c.setCell ⟨w.heap.size+3,2,none⟩ v').heap[j]?=c.heap[j]?:=λj g=>Go.Deep.blk_setCell_other _ _ _ _ g;refine⟨(QL h.bel d λq n=>by have:=(h.own.lt q n).1;omega).setCell (by show w.heap.size<=w.heap.size+3;omega) _,(a _ X).trans k,(a _ X).trans l,(a _ X).trans m,?_,ZJ i λj g=>a j λe=>ZD i f N<|by rw[g,e]⟩;unfold Ya at f⊢;simp only[World.setCell,V4,f,VE,Wr];rfl
theorem Ya.alloc{a:Nat}{t:TypeId}(h:Ya w a c t)(o:Obj):Ya (w.alloc o) a c t:=h.below Yc
theorem VR.start(w:World)(x0 x1 x2 y0 y1 y2:Value):VR w ((((w.alloc<|.cells #[x0,x1,x2] 55).alloc<|.cells #[y0,y1,y2] 55).alloc<|.cells #[.bool false,E 0,S0] 55).alloc<|.cells #[.bool false,E 0,S0] 55) [x0,x1,x2] [y0,y1,y2] S0 []:=by
 have g3:Ya (w.alloc<|.cells #[x0,x1,x2] _) _ _ 55:=Go.Deep.blk_alloc_new w _;have g2:Ya ((w.alloc<|.cells #[x0,x1,x2] 55).alloc<|.cells #[y0,y1,y2] 55) (w.heap.size+1) [y0,y1,y2] 55:=by
  have:=Go.Deep.blk_alloc_new (w.alloc<|.cells #[x0,x1,x2] 55)<|.cells #[y0,y1,y2] 55;rwa [Sz]at this
 have g1:Ya (((w.alloc<|.cells #[x0,x1,x2] 55).alloc<|.cells #[y0,y1,y2] 55).alloc<|.cells #[.bool false,E 0,S0] 55) (w.heap.size+2) [.bool false,E 0,S0] 55:=by
  have:=Go.Deep.blk_alloc_new ((w.alloc<|.cells #[x0,x1,x2] 55).alloc<|.cells #[y0,y1,y2] 55)<|.cells #[.bool false,E 0,S0] 55;rwa [Sz,Sz]at this
 have g0:=Go.Deep.blk_alloc_new (((w.alloc<|.cells #[x0,x1,x2] 55).alloc<|.cells #[y0,y1,y2] 55).alloc<|.cells #[.bool false,E 0,S0] 55)<|.cells #[.bool false,E 0,S0] 55;rw[Sz,Sz,Sz]at g0;exact⟨Yh,((g3.alloc _).alloc _).alloc _,(g2.alloc _).alloc _,g1.alloc _,g0,Xm _ _ _ _⟩
theorem Tc(h:W.cell? p=some v)(o:Obj):(W.alloc o).cell? p=some v:=by rw[World.cell?_alloc_some _ _ _<|by rw[h];rfl];exact h
theorem Td{a:World}{r:Option Nat}(d:W.grownBy a r)(h:W.cell? p=some v)(c:some p.block≠r):a.cell? p=some v:=(d.cell_far p (Xi W p h) c).trans h
theorem VR.done{va:Option Addr}{vn vc:Nat}(h:VR w wr xa ya (.slice va vn vc) os)(f:os.length<=1000000)(d:∀z∈os,V3 wr z):
 Ya (set3 wr (w.heap.size+2) (.bool false) (E 0)<|.slice va vn vc) (w.heap.size+2) [.bool false,E 0,.slice va vn vc] 55/\YM (set3 wr (w.heap.size+2) (.bool false) (E 0)<|.slice va vn vc) (.slice va vn vc) os/\BW w (set3 wr (w.heap.size+2) (.bool false) (E 0)<|.slice va vn vc):=by
 have g:Below _ w<|set3 _ _ (.bool false) (E 0)<|.slice va vn vc:=(((h.bel.setCell (by show w.heap.size<=w.heap.size+2;omega) _).setCell (by show w.heap.size<=w.heap.size+2;omega) _).setCell (by show w.heap.size<=w.heap.size+2;omega) _);refine⟨P5 h.rb,⟨ZJ (U6 h.own) λj c=>OQ λe=>ZD h.own h.rb N<|by rw[c,e],f,λz i=>?_⟩,g⟩;obtain⟨⟨qs,a⟩,k⟩:=d z i;exact⟨⟨qs,ZJ a.own λj c=>OQ λe=>ZD a.own h.rb N<|by rw[c,e],a.say,a.len,a.ok⟩,k⟩
def NR(op:Nat)(n:Int)(z:Value×El):Value×El:=(z.1,z.2.1,YI op n z.2.2)
def NT(op:Nat)(n:Int)(z:Value×El):Value×El:=(z.1,z.2.1,YI op z.2.2 n)
theorem vj(op:Nat)(a2:op<=3)(n:Int)(hn:YD n)(ea:Option Addr)(ec:Nat)(zs:List<|Value×El)(w:World)(h:YM w v zs)(c1:zs.length<=1000):
 CP 35 #[E op,.agg #[.bool true,E n,.slice ea 0 ec],.agg #[.bool false,E 0,v]] w λe r=>∃v',e=.returned (.agg #[.bool false,E 0,v'])/\Hid (YM r v'<|zs.map<|NR op n)/\BW w r:=by
 obtain⟨sa,sl,rfl⟩:=Zd h.own;have R:=I h;have S:=I hn;obtain⟨i0,hi,a3,a4,a5⟩:=Xv Tryz.infoREl;clear h hn;go_enter func35,ntmps35;go_upto_region 2 with fail;refine Zs λW0 T=>?_;have B:Hid<|VR w _ _ [.bool _,.int _ 0,.slice _ _ _] _ _:=T▸VR.start w _ _ _ _ _ _;clear T;have x0:=B.xb.cell 0;have y0:=B.yb.cell 0;simp only[Yf]at x0 y0;go_wp2;clear x0 y0;go_loopg [8] zs.length (λgk v8 wr=>∃(k:Nat)(vv:Value),k<=zs.length/\gk=zs.length-k/\v8=E k/\Hid (VR w wr [.bool true,E n,.slice ea 0 ec] [.bool false,E 0,.slice sa zs.length sl] vv<|(zs.take k).map<|NR op n));case atStart=>exact⟨0,_,Yr _,C,C,B⟩
 case round=>
  clear B;obtain⟨k,vv,hk,c2,rfl,l⟩:=hrel;obtain⟨va,vc,U⟩:=Zd l.own;have s:((zs.take k).map<|NR op n).length=k:=by rw[Yz,Xw];omega
  rw[s]at U;subst U;have y2:=l.yb.cell 2;simp only[Yf]at y2;by_cases D:k<zs.length
  .obtain⟨g,cpx,A⟩:=Zm R.own X;injection A with hg1 _ hg2;subst hg1 hg2;have G:=I<|R.below l.bel;have r0:=Zc G.own _ _<|by rw[(Tf _ k).1,List.getElem?_eq_getElem D];rfl
   have r1:=Zc G.own _ _<|by rw[(Tf _ k).2,List.getElem?_eq_getElem D];rfl
   have a6:=G.ok _<|List.getElem_mem D;have HT:Hid<|(zs.take<|k+1).map (NR op n)=(zs.take k).map (NR op n)++[NR op n zs[k]]:=by rw[List.take_succ_eq_append_getElem D,Y9];rfl
   have H:=ZN R.own;generalize zs[k]=z at*;obtain⟨zv,zl,zn⟩:=z;obtain⟨⟨qz,J⟩,V⟩:=a6;have a7:Hid<|YD zn:=V;simp only at r0 r1 J;obtain⟨lz,cz,rfl⟩:=Zd J.own;clear J V;obtain⟨os,L⟩:∃os,os=(zs.take k).map (NR op n):=⟨_,C⟩;rw[<-L]at l s HT;obtain⟨n1,M⟩:∃n1,n1=k:=⟨_,C⟩;rw[<-M]at l s;have c0:n1<=1000:=X;have Y:=I s;obtain⟨XA,O⟩:∃XA:List Value,XA=[.bool true,E n,.slice ea 0 ec]:=⟨_,C⟩;obtain⟨YA,P⟩:∃YA:List Value,YA=[.bool false,E 0,.slice (some ⟨g,0,none⟩) zs.length sl]:=⟨_,C⟩;have x1:=l.xb.cell 1;simp only[Yf]at x1;rw[<-O,<-P]at l;have v2:=l.vb.cell 2;simp only[Yf]at v2;have a8:=I<|And.intro O P;have c3:=I<|And.intro M L;have a9:=I H;have Z:=I λo=>by have:=l.own;rw[Y]at this;exact this.drew.alloc o
   have a0:Hid<|∀o,VR w (wr.drew.alloc o) _ _ _ _:=I λo=>l.below<|((Ym _ _).drew).alloc (Yj _) _;have b3:Hid<|∀o,(wr.drew.alloc o).heap[wr.heap.size]?=some o:=I λo=>Go.Deep.blk_alloc_new _ o;have c4:=l.vb.lt;clear O P M L s H;have a1:wr.drew.cell? _=some _/\wr.drew.cell? _=some _/\wr.drew.cell? _=some _/\wr.drew.cell? _=some _/\wr.drew.cell? _=some _:=⟨y2,r0,r1,x1,v2⟩;have b4:Hid<|∀o,(wr.drew.cell? _=some (.slice (some ⟨g,0,none⟩) zs.length sl)/\wr.drew.cell? ⟨g,k*2,none⟩=some _/\wr.drew.cell? ⟨g,k*2+1,none⟩=some (E zn)/\wr.drew.cell? ⟨w.heap.size,1,none⟩=some (E n)/\wr.drew.cell? _=some _)->((wr.drew.alloc o).cell? ⟨w.heap.size+1,2,none⟩=some _/\(wr.drew.alloc o).cell? _=some (.slice lz qz.length cz)/\(wr.drew.alloc o).cell? _=some _/\(wr.drew.alloc o).cell? _=some _/\(wr.drew.alloc o).cell? ⟨w.heap.size+3,2,none⟩=some (.slice va n1 vc)):=I λo ⟨a,b,c,d,e⟩=>⟨Tc a o,Tc b o,Tc c o,Tc d o,Tc e o⟩;have b5:Hid<|∀W t:World,(W.cell? ⟨w.heap.size+1,2,none⟩=some (.slice (some ⟨g,0,none⟩) zs.length sl)/\W.cell? ⟨g,k*2,none⟩=some (.slice lz qz.length cz)/\W.cell? ⟨g,k*2+1,none⟩=some (E zn)/\W.cell? ⟨w.heap.size,1,none⟩=some (E n)/\W.cell? ⟨w.heap.size+3,2,none⟩=some (.slice va n1 vc))->W.grownBy _ _->(t.cell? _=some _/\t.cell? _=some _/\t.cell? _=some _/\t.cell? _=some _/\t.cell? _=some _):=I λW t ⟨a,b,c,d,e⟩ A=>by
    have x:∀j,j<w.heap.size+4->some j≠(Value.slice _ _ _).ownBlock:=λj hj he=>by have:=(l.own.lt j he.symm).1;omega
    have:=a9.out;exact⟨Td A a<|x _<|by show w.heap.size+1<_;omega,Td A b<|x _<|by show g<_;omega,Td A c<|x _<|by show g<_;omega,Td A d<|x _<|by show w.heap.size<_;omega,Td A e<|x _<|by show w.heap.size+3<_;omega⟩
   clear r0 r1 x1 v2;go_upto_region 10 with fail;clear y2;refine ZW 22 (λr=>r.cell? _=some _/\r.cell? _=some _/\r.cell? _=some _/\r.cell? _=some _/\r.cell? _=some _) Kr (a1) λf=>?_;clear a1;refine Za 0 f (h:=Za 1 f (h:=Za 2 f (h:=Za 3 f (h:=Za 4 f (h:=Za 5 f (h:=Za 6 f (h:=Za 7 f (h:=Za 8 f (h:=Za 9 f (h:=Za 10 f (h:=Za 11 f (h:=Za 12 f (h:=Za 13 f (h:=Za 14 f (h:=Za 15 f (h:=Za 16 f (h:=?_)))))))))))))))));refine Zz (i:=17) Kr C λK p=>?_;go_simp;refine(Jl a2 n _ S a7 _).mono ?_;rintro e t ⟨rfl,rfl⟩;go_simp;refine p _ _ f λf=>?_;clear p K;try simp only[Act.put,Yt]
   refine Za 18 f (h:=?_);refine Zz (i:=19) Kr C λK p=>?_;go_simp;refine p _ _ (b4 _ f) λf=>?_;clear p K;try simp only[Act.put,Yt]
   refine Zz (i:=20) Kr C λK p=>?_;refine S3 C _ _ _ C _ 118 _ _ 2 _ underlying53 hi a3 a4 a5 C N _ _ _ (by simp[Act.eval]) (Z.out _) ⟨wr.heap.size,0,none⟩ 1 1 [.slice lz qz.length cz,E<|YI op n zn] (by simp[Act.eval]) C ?h2 ?h3 ?h4 ?h5 ?h6 ?_;case h2=>first|exact Z1<|b3.out _|exact Z1 C|exact PW (by first|simp|exact(Ry _ _ _ _ Sm).trans C)<|by first|simp|exact(Ry _ _ _ _ Sm).trans C
   case h3=>intro u hu;simp at hu;rcases hu with rfl|rfl<;>rfl
   case h4=>unfold maxLen;omega
   case h5=>omega
   case h6=>simp;omega
   intro v1 t q m _;obtain⟨g1,cp1,b6⟩:=Zm q X;subst b6;have HN:Hid<|VR w _ XA YA (.slice (some ⟨g1,0,none⟩) (n1+1) cp1)<|os++[(.slice lz qz.length cz,zl,YI op n zn)]:=I<|(a0.out _).app (by exact m)<|by rw[PX,Yv,Y];exact q
   have Q:=(a0 _).vb.ownGrown (Z _) m N;have b7:=b5 _ _ (f)<|m;refine p _ _ b7 λf=>?_;clear p K;try simp only[Act.put,Yt]
   refine Za 21 f (h:=?_);refine ZS Kr Kr C Kr λK p=>?_;have y2:=Q.cell 2;have yf:=Q.frozen 2;simp only[Yf]at y2;clear Q q m;go_simp;refine p _ _ ?_;clear p K;go_wp2;go_roundg (zs.length-(k+1));case measure=>omega
   case rel=>exact⟨k+1,_,X,C,by go_num,I<|by rw[HT];obtain⟨hX,hY⟩:=a8.out;rw[<-hX,<-hY];exact HN⟩
  .obtain rfl:k=zs.length:=X;rw[X1]at l;have b0:=l.vb.cell 0;have b1:=l.vb.cell 1;have b2:=l.vb.cell 2;have z0:=l.rb.frozen 0;have z1:=l.rb.frozen 1;have z2:=l.rb.frozen 2;have t0:=l.rb.cell 0;have t1:=l.rb.cell 1;have t2:=l.rb.cell 2;simp only[Yf]at b0 b1 b2 t0 t1 t2;have F:=I<|l.done (by rw[Yz];omega) λz hz=>by
     obtain⟨y,hy,rfl⟩:=XJ.mp hz;have:=(R.ok y hy).below l.bel;exact⟨this.1,OV _ _ _ S⟩
   go_wp2;change bodyPost _ _ _ _ _<|set3 wr (w.heap.size+2) (.bool false) (E 0)<|.slice va zs.length vc;have s0:=F.1.cell 0;have s1:=F.1.cell 1;have s2:=F.1.cell 2;simp only[Yf]at s0 s1 s2;have b8:=I F.2.1;have b9:=I F.2.2;clear F;generalize set3 wr (w.heap.size+2) (.bool false) (E 0) (.slice va zs.length vc)=WX at*;exact YQ (by simp[results,results35,go_sem,s0,s1,s2]) C ⟨.slice _ _ _,C,b8,b9⟩
theorem vk(op:Nat)(a1:op<=3)(n:Int)(hn:YD n)(ea:Option Addr)(ec:Nat)(zs:List<|Value×El)(w:World)(h:YM w v zs)(c1:zs.length<=1000):
 CP 35 #[E op,.agg #[.bool false,E 0,v],.agg #[.bool true,E n,.slice ea 0 ec]] w λe r=>∃v',e=.returned (.agg #[.bool false,E 0,v'])/\Hid (YM r v'<|zs.map<|NT op n)/\BW w r:=by
 obtain⟨sa,sl,rfl⟩:=Zd h.own;have R:=I h;have a2:=I hn;obtain⟨i0,hi,a3,a4,a5⟩:=Xv Tryz.infoREl;clear h hn;go_enter func35,ntmps35;go_upto_region 2 with fail;refine Zs λW0 S=>?_;have B:Hid<|VR w _ [.bool _,.int _ 0,.slice _ _ _] _ _ _:=S▸VR.start w _ _ _ _ _ _;clear S;have x0:=B.xb.cell 0;have y0:=B.yb.cell 0;simp only[Yf]at x0 y0;go_wp2;clear x0 y0;go_loopg [9] zs.length (λgk v8 wr=>∃(k:Nat)(vv:Value),k<=zs.length/\gk=zs.length-k/\v8=E k/\Hid (VR w wr [.bool false,E 0,.slice sa zs.length sl] [.bool true,E n,.slice ea 0 ec] vv<|(zs.take k).map<|NT op n));case atStart=>exact⟨0,_,Yr _,C,C,B⟩
 case round=>
  clear B;obtain⟨k,vv,hk,c2,rfl,l⟩:=hrel;obtain⟨va,vc,T⟩:=Zd l.own;have s:((zs.take k).map<|NT op n).length=k:=by rw[Yz,Xw];omega
  rw[s]at T;subst T;have y2:=l.xb.cell 2;have y0:=l.yb.cell 0;simp only[Yf]at y2 y0;by_cases D:k<zs.length
  .obtain⟨g,cpx,A⟩:=Zm R.own X;injection A with hg1 _ hg2;subst hg1 hg2;have G:=I<|R.below l.bel;have r0:=Zc G.own _ _<|by rw[(Tf _ k).1,List.getElem?_eq_getElem D];rfl
   have r1:=Zc G.own _ _<|by rw[(Tf _ k).2,List.getElem?_eq_getElem D];rfl
   have a6:=G.ok _<|List.getElem_mem D;have HT:Hid<|(zs.take<|k+1).map (NT op n)=(zs.take k).map (NT op n)++[NT op n zs[k]]:=by rw[List.take_succ_eq_append_getElem D,Y9];rfl
   have H:=ZN R.own;generalize zs[k]=z at*;obtain⟨zv,zl,zn⟩:=z;obtain⟨⟨qz,J⟩,U⟩:=a6;have a7:Hid<|YD zn:=U;simp only at r0 r1 J;obtain⟨lz,cz,rfl⟩:=Zd J.own;clear J U;obtain⟨os,L⟩:∃os,os=(zs.take k).map (NT op n):=⟨_,C⟩;rw[<-L]at l s HT;obtain⟨n1,M⟩:∃n1,n1=k:=⟨_,C⟩;rw[<-M]at l s;have c0:n1<=1000:=X;have V:=I s;obtain⟨XA,O⟩:∃XA:List Value,XA=[.bool false,E 0,.slice (some ⟨g,0,none⟩) zs.length sl]:=⟨_,C⟩;obtain⟨YA,P⟩:∃YA:List Value,YA=[.bool true,E n,.slice ea 0 ec]:=⟨_,C⟩;have x1:=l.yb.cell 1;simp only[Yf]at x1;rw[<-O,<-P]at l;have v2:=l.vb.cell 2;simp only[Yf]at v2;have a8:=I<|And.intro O P;have c3:=I<|And.intro M L;have a9:=I H;have Y:=I λo=>by have:=l.own;rw[V]at this;exact this.drew.alloc o
   have Z:Hid<|∀o,VR w (wr.drew.alloc o) _ _ _ _:=I λo=>l.below<|((Ym _ _).drew).alloc (Yj _) _;have b3:Hid<|∀o,(wr.drew.alloc o).heap[wr.heap.size]?=some o:=I λo=>Go.Deep.blk_alloc_new _ o;have c4:=l.vb.lt;clear O P M L s H;have a0:wr.drew.cell? _=some _/\wr.drew.cell? _=some _/\wr.drew.cell? _=some _/\wr.drew.cell? _=some _/\wr.drew.cell? _=some _:=⟨y2,r0,r1,x1,v2⟩;have b4:Hid<|∀o,(wr.drew.cell? _=some (.slice (some ⟨g,0,none⟩) zs.length sl)/\wr.drew.cell? ⟨g,k*2,none⟩=some _/\wr.drew.cell? _=some (E zn)/\wr.drew.cell? _=some (E n)/\wr.drew.cell? _=some _)->((wr.drew.alloc o).cell? ⟨w.heap.size,2,none⟩=some _/\(wr.drew.alloc o).cell? _=some (.slice lz qz.length cz)/\(wr.drew.alloc o).cell? ⟨g,k*2+1,none⟩=some _/\(wr.drew.alloc o).cell? ⟨w.heap.size+1,1,none⟩=some _/\(wr.drew.alloc o).cell? ⟨w.heap.size+3,2,none⟩=some (.slice va n1 vc)):=I λo ⟨a,b,c,d,e⟩=>⟨Tc a o,Tc b o,Tc c o,Tc d o,Tc e o⟩;have b5:Hid<|∀W t:World,(W.cell? ⟨w.heap.size,2,none⟩=some (.slice (some ⟨g,0,none⟩) zs.length sl)/\W.cell? ⟨g,k*2,none⟩=some (.slice lz qz.length cz)/\W.cell? ⟨g,k*2+1,none⟩=some (E zn)/\W.cell? ⟨w.heap.size+1,1,none⟩=some (E n)/\W.cell? ⟨w.heap.size+3,2,none⟩=some (.slice va n1 vc))->W.grownBy _ _->(t.cell? _=some _/\t.cell? _=some _/\t.cell? _=some _/\t.cell? _=some _/\t.cell? _=some _):=I λW t ⟨a,b,c,d,e⟩ A=>by
    have x:∀j,j<w.heap.size+4->some j≠(Value.slice _ _ _).ownBlock:=λj hj he=>by have:=(l.own.lt j he.symm).1;omega
    have:=a9.out;exact⟨Td A a<|x _<|by show w.heap.size<_;omega,Td A b<|x _<|by show g<_;omega,Td A c<|x _<|by show g<_;omega,Td A d<|x _<|by show w.heap.size+1<_;omega,Td A e<|x _<|by show w.heap.size+3<_;omega⟩
   clear r0 r1 x1 v2;go_upto_region 16 with fail;clear y2 y0;refine ZW 22 (λr=>r.cell? _=some _/\r.cell? _=some _/\r.cell? _=some _/\r.cell? _=some _/\r.cell? _=some _) Kr (a0) λf=>?_;clear a0;refine Za 0 f (h:=Za 1 f (h:=Za 2 f (h:=Za 3 f (h:=Za 4 f (h:=Za 5 f (h:=Za 6 f (h:=Za 7 f (h:=Za 8 f (h:=Za 9 f (h:=Za 10 f (h:=Za 11 f (h:=Za 12 f (h:=Za 13 f (h:=Za 14 f (h:=Za 15 f (h:=Za 16 f (h:=?_)))))))))))))))));refine Zz (i:=17) Kr C λK p=>?_;go_simp;refine(Jl a1 _ n a7 a2 _).mono ?_;rintro e t ⟨rfl,rfl⟩;go_simp;refine p _ _ f λf=>?_;clear p K;try simp only[Act.put,Yt]
   refine Za 18 f (h:=?_);refine Zz (i:=19) Kr C λK p=>?_;go_simp;refine p _ _ (b4 _ f) λf=>?_;clear p K;try simp only[Act.put,Yt]
   refine Zz (i:=20) Kr C λK p=>?_;refine S3 C _ _ 53 C _ 118 _ _ 2 _ underlying53 hi a3 a4 a5 C N _ _ _ (by simp[Act.eval]) (Y.out _) ⟨wr.heap.size,0,none⟩ 1 1 [.slice lz qz.length cz,E<|YI op zn n] (by simp[Act.eval]) C ?h2 ?h3 ?h4 ?h5 ?h6 ?_;case h2=>first|exact Z1<|b3.out _|exact Z1 C|exact PW (by first|simp|exact(Ry _ _ _ _ Sm).trans C)<|by first|simp|exact(Ry _ _ _ _ Sm).trans C
   case h3=>intro u hu;simp at hu;rcases hu with rfl|rfl<;>rfl
   case h4=>unfold maxLen;omega
   case h5=>omega
   case h6=>simp;omega
   intro v1 t q m _;obtain⟨g1,cp1,b6⟩:=Zm q X;subst b6;have HN:Hid<|VR w _ XA YA (.slice (some ⟨g1,0,none⟩) (n1+1) cp1)<|os++[(.slice lz qz.length cz,zl,YI op zn n)]:=I<|(Z.out _).app (by exact m)<|by rw[PX,Yv,V];exact q
   have Q:=(Z _).vb.ownGrown (Y _) m N;have b7:=b5 _ _ (f)<|m;refine p _ _ b7 λf=>?_;clear p K;try simp only[Act.put,Yt]
   refine Za 21 f (h:=?_);refine ZS Kr Kr C Kr λK p=>?_;have y2:=Q.cell 2;have yf:=Q.frozen 2;simp only[Yf]at y2;clear Q q m;go_simp;refine p _ _ ?_;clear p K;go_wp2;go_roundg (zs.length-(k+1));case measure=>omega
   case rel=>exact⟨k+1,_,X,C,by go_num,I<|by rw[HT];obtain⟨hX,hY⟩:=a8.out;rw[<-hX,<-hY];exact HN⟩
  .obtain rfl:k=zs.length:=X;rw[X1]at l;have b0:=l.vb.cell 0;have b1:=l.vb.cell 1;have b2:=l.vb.cell 2;have z0:=l.rb.frozen 0;have z1:=l.rb.frozen 1;have z2:=l.rb.frozen 2;have t0:=l.rb.cell 0;have t1:=l.rb.cell 1;have t2:=l.rb.cell 2;simp only[Yf]at b0 b1 b2 t0 t1 t2;have F:=I<|l.done (by rw[Yz];omega) λz hz=>by
     obtain⟨y,hy,rfl⟩:=XJ.mp hz;have:=(R.ok y hy).below l.bel;exact⟨this.1,OV _ _ _ this.2⟩
   go_wp2;change bodyPost _ _ _ _ _<|set3 wr (w.heap.size+2) (.bool false) (E 0)<|.slice va zs.length vc;have s0:=F.1.cell 0;have s1:=F.1.cell 1;have s2:=F.1.cell 2;simp only[Yf]at s0 s1 s2;have b8:=I F.2.1;have b9:=I F.2.2;clear F;generalize set3 wr (w.heap.size+2) (.bool false) (E 0) (.slice va zs.length vc)=WX at*;exact YQ (by simp[results,results35,go_sem,s0,s1,s2]) C ⟨.slice _ _ _,C,b8,b9⟩
def OX(zl:List Xc)(f:Value×El):Bool:=decide<|Yy zl=Yy f.2.1
def FV(op:Nat)(ys:List<|Value×El)(z:Value×El):List<|Value×El:=(ys.filter<|OX z.2.1).map λf=>(z.1,z.2.1,YI op z.2.2 f.2.2)
theorem IQ(op:Nat)(ys:List<|Value×El):∀l:List<|Value×El,(l.flatMap<|FV op ys).length<=l.length*ys.length
 |[]=>by simp
 |z::l=>by
  rw[Km,Yv,Y1,Nat.succ_mul];have a:=IQ op ys l;have c:(FV op ys z).length<=ys.length:=by unfold FV;rw[Yz];exact Qq _ _
  omega
theorem tN{α β:Type}(f:α->List β){l:List α}(k:Nat)(h:k<l.length):(l.take<|k+1).flatMap f=(l.take k).flatMap f++f l[k]:=by
 rw[List.take_succ_eq_append_getElem h,List.flatMap_append];simp
theorem sp{α:Type}(p:α->Bool){l:List α}(k:Nat)(h:k<l.length):(l.take<|k+1).filter p=(l.take k).filter p++(if p l[k]then[l[k]]else[]):=by
 rw[List.take_succ_eq_append_getElem h,N6];congr 1;by_cases a:p l[k]=true
 .rw[Ye a,NX a];rfl
 .rw[Yd a,NY a];rfl
theorem vM{op:Nat}(d:∀z∈xs,V3 w z):∀z∈xs.flatMap<|FV op ys,V3 w z:=by
 intro z e;obtain⟨x,c,a⟩:=List.mem_flatMap.1 e;unfold FV at a;obtain⟨f,_,rfl⟩:=XJ.1 a;have:=d x c;exact⟨this.1,OV _ _ _ this.2⟩
def SV(w:World)(g gy i j xl sl yl tl:Nat)(zv:Value)(zn yn:Int)(vv:Value)(w':World):Prop:=w'.cell? ⟨w.heap.size,2,none⟩=some (.slice (some ⟨g,0,none⟩) xl sl)/\w'.cell? ⟨g,i*2,none⟩=some zv/\w'.cell? ⟨g,i*2+1,none⟩=some (E zn)/\w'.cell? ⟨w.heap.size+1,2,none⟩=some (.slice (some ⟨gy,0,none⟩) yl tl)/\w'.cell? ⟨gy,j*2+1,none⟩=some (E yn)/\w'.cell? ⟨w.heap.size+3,2,none⟩=some vv
theorem vi(op:Nat)(a:op<=3)(m n:Int)(c:YD m)(d:YD n)(ea fa:Option Addr)(ec fc:Nat)(w:World):
 CP 35 #[E op,.agg #[.bool true,E m,.slice ea 0 ec],.agg #[.bool true,E n,.slice fa 0 fc]] w λe u=>e=.returned (.agg #[.bool true,E<|YI op m n,S0])/\BW w u:=by
 have f:=I λW=>Jl a m n c d W;clear c d;generalize YI op m n=tw at*;go_enter func35,ntmps35;go_wp2_with fail;refine(f _).mono ?_;rintro e g ⟨rfl,rfl⟩;go_wp2;exact YQ (by simp[results,results35,go_sem]) C ⟨C,Yh⟩
theorem vm(op:Nat)(c5:op<=3){u:Value}(xs ys:List<|Value×El)(w:World)(h:YM w v xs)(h2:YM w u ys)(c6:xs.length<=1000)(a7:ys.length<=1000):
 CP 35 #[E op,.agg #[.bool false,E 0,v],.agg #[.bool false,E 0,u]] w λe s=>∃v',e=.returned (.agg #[.bool false,E 0,v'])/\Hid (YM s v'<|xs.flatMap<|FV op ys)/\BW w s:=by
 obtain⟨sa,sl,rfl⟩:=Zd h.own;obtain⟨ta,tl,rfl⟩:=Zd h2.own;have S:=I h;have HY:=I h2;obtain⟨i0,hi,c7,c8,c9⟩:=Xv Tryz.infoREl;clear h h2;go_enter func35,ntmps35;go_upto_region 2 with fail;refine Zs λW0 a8=>?_;have G:Hid<|VR w _ [.bool _,.int _ 0,.slice _ _ _] [.bool _,.int _ 0,.slice _ _ _] _ _:=a8▸VR.start w _ _ _ _ _ _;clear a8;have x0:=G.xb.cell 0;have y0:=G.yb.cell 0;simp only[Yf]at x0 y0;go_wp2;clear x0 y0;go_loopg [9] xs.length (λgk v9 wr=>∃(i:Nat)(vv:Value),i<=xs.length/\gk=xs.length-i/\v9=E i/\Hid (VR w wr [.bool false,E 0,.slice sa xs.length sl] [.bool false,E 0,.slice ta ys.length tl] vv<|(xs.take i).flatMap<|FV op ys));case atStart=>exact⟨0,_,Yr _,C,C,G⟩
 case round=>
  clear G;obtain⟨i,vv,e6,e7,rfl,l⟩:=hrel;obtain⟨va,vc,H⟩:=Zd l.own;subst H;have x2:=l.xb.cell 2;have y0:=l.yb.cell 0;simp only[Yf]at x2 y0;by_cases A:i<xs.length
  .obtain⟨g,cpx,B⟩:=Zm S.own X;injection B with hg1 _ hg2;subst hg1 hg2;have T:=I<|S.below l.bel;have r0:=Zc T.own _ _<|by rw[(Tf _ i).1,List.getElem?_eq_getElem A];rfl
   have HR:Hid<|∀W:World,W.ownsRow 0 118 2 (.slice _ _ sl) xs.length _->W.cell? ⟨g,i*2,none⟩=some (xs[i]).1/\W.cell? _=some (.int _ _):=I λW h=>⟨Zc h _ _<|by rw[(Tf _ i).1,List.getElem?_eq_getElem A];rfl,Zc h _ _<|by rw[(Tf _ i).2,List.getElem?_eq_getElem A];rfl⟩;have U:=T.ok _<|List.getElem_mem A;have HT:=I<|tN (FV op ys) i A;have V:=ZN S.own;generalize xs[i]=z at*;obtain⟨zv,zl,zn⟩:=z;obtain⟨⟨qz,J⟩,a9⟩:=U;have d0:Hid<|YD zn:=a9;simp only at r0 J HR;obtain⟨lz,cz,rfl⟩:=Zd J.own;have b3:=I J;have d1:=I V;clear J a9 V T;go_wp2_with fail;refine(Nj _ _<|b3.out).mono ?_;rintro e w2 ⟨kx,rfl,d2,n2,b4⟩;have Y:=I<|l.below<|b4▸Wn (Ym _ _) _;clear b4 x2 y0 r0 l b3;obtain⟨pre,t⟩:∃pre,pre=(xs.take i).flatMap (FV op ys):=⟨_,C⟩;have a6:pre.length<=i*ys.length:=by
    rw[t];have Z:=IQ op ys<|xs.take i;rw[Xw,QT X]at Z;exact Z
   have d3:Hid<|pre.length<=1000000-1000:=I<|by
    have:i*ys.length<=999*1000:=Ih X a7;omega
   rw[<-t]at Y HT;have e5:=I t;clear t a6;obtain⟨XA,a0⟩:∃XA:List Value,XA=[.bool false,E 0,.slice (some ⟨g,0,none⟩) xs.length sl]:=⟨_,C⟩;obtain⟨YA,a1⟩:∃YA:List Value,YA=[.bool false,E 0,.slice ta ys.length tl]:=⟨_,C⟩;rw[<-a0,<-a1]at Y;have L:=I<|And.intro a0 a1;clear a0 a1;go_wp2;go_loopg [11] ys.length (λgj v11 wr=>∃(j:Nat)(vv:Value),j<=ys.length/\gj=ys.length-j/\v11=E j/\Hid (VR w wr XA YA vv<|pre++((ys.take j).filter<|OX zl).map λf=>(.slice lz qz.length cz,zl,YI op zn f.2.2)));case atStart=>exact⟨0,_,Yr _,C,C,I<|by rwa [List.take_zero,Iy,N7,V6]⟩
   case round=>
    clear Y;obtain⟨j,vv,hj,e8,rfl,l⟩:=hrel;have y2:=l.yb.cell 2;rw[L.2]at y2;simp only[Yf]at y2;by_cases M:j<ys.length
    .obtain⟨gy,cpy,d4⟩:=Zm HY.own X;injection d4 with hgy1 _ hgy2;subst hgy1 hgy2;have D:=I<|HY.below l.bel;have q0:=Zc D.own _ _<|by rw[(Tf _ j).1,List.getElem?_eq_getElem M];rfl
     have q1:=Zc D.own _ _<|by rw[(Tf _ j).2,List.getElem?_eq_getElem M];rfl
     have U:=D.ok _<|List.getElem_mem M;have p:=I<|sp (OX zl) j M;have a2:=ZN D.own;have a3:=ZN HY.own;generalize ys[j]=y at*;obtain⟨yv,yl,yn⟩:=y;obtain⟨⟨qy,O⟩,b5⟩:=U;have d5:Hid<|YD yn:=b5;simp only at q0 q1 O p;obtain⟨ly,cy,rfl⟩:=Zd O.own;have b6:=I O;have d6:=I a3;clear O b5 a3 D;obtain⟨os,P⟩:∃os,os=pre++((ys.take j).filter<|OX zl).map λf=>((.slice lz qz.length cz,zl,YI op zn f.2.2):Value×El):=⟨_,C⟩;have c4:os.length<=1000000:=by
      rw[P,Yv,Yz];have Z:=Qq (OX zl)<|ys.take j;rw[Xw]at Z;have:=d3.out;omega
     rw[<-P]at l;have b7:=I P;clear P;go_wp2_with fail;refine(Nj _ _<|b6.out).mono ?_;rintro e F ⟨ux,rfl,d7,n4,b8⟩;have a4:Below wr.heap.size _ _:=b8▸Wn (Ym _ _) _;have m:=I<|l.below a4;have q14:=(a4.cell a2).trans q1;clear b8 a4 y2 q0 q1 l b6 a2;have b9:Hid<|(kx.toList==ux.toList)=OX zl (.slice ly qy.length cy,yl,yn):=by rw[Nl,d7,d2];unfold OX;rfl
     cases hm:OX zl (.slice ly qy.length cy,yl,yn)with
     |false=>
      have he:(kx.toList==ux.toList)=false:=by rw[b9,hm]
      rw[hm]at p;rw[Yd N,V6]at p;go_wp2;go_roundg (ys.length-(j+1));case measure=>omega
      case rel=>exact⟨j+1,vv,X,C,by go_num,I<|by rwa [p.out,<-b7.out]⟩
     |true=>
      have he:(kx.toList==ux.toList)=true:=by rw[b9,hm]
      rw[hm]at p;rw[Ye C]at p;obtain⟨n1,Q⟩:∃n1,n1=os.length:=⟨_,C⟩;rw[<-Q]at c4;obtain⟨va,vc,H⟩:=Zd m.own;rw[<-Q]at H;subst H;have c0:Hid<|os.length=n1:=I Q.symm;clear Q;obtain⟨R0,R1⟩:=HR.out F (S.below m.bel).own;have x2:=m.xb.cell 2;have y2:=m.yb.cell 2;have v2:=m.vb.cell 2;rw[L.1]at x2;rw[L.2]at y2;simp only[Yf]at x2 y2 v2;have c1:=I λo=>by have:=m.own;rw[c0]at this;exact this.drew.alloc o
      have c2:Hid<|∀o,VR w (F.drew.alloc o) _ _ _ _:=I λo=>m.below<|((Ym _ _).drew).alloc (Yj _) _;have d8:Hid<|∀o,(F.drew.alloc o).heap[F.heap.size]?=some o:=I λo=>Go.Deep.blk_alloc_new _ o;have e9:=m.vb.lt;have c3:SV w g _ i j _ _ _ _ _ _ _ _ F.drew:=⟨x2,R0,R1,y2,q14,v2⟩;have d9:Hid<|∀o,SV w g _ i j xs.length sl _ _ (.slice lz qz.length cz) zn _ _ F.drew->SV w g gy i j _ _ ys.length tl _ _ yn (.slice va n1 vc) _:=I λo ⟨a,b,c,d,e,f⟩=>⟨Tc a o,Tc b o,Tc c o,Tc d o,Tc e o,Tc f o⟩;have e0:Hid<|∀W w1:World,SV w g gy i j xs.length sl ys.length tl (.slice lz qz.length cz) zn yn (.slice va n1 vc) W->W.grownBy _ _->SV w g _ i j _ _ _ _ _ _ _ _ w1:=I λW w1 ⟨a,b,c,d,e,f⟩ B=>by
       have r:∀j,j<w.heap.size+4->some j≠(Value.slice _ _ _).ownBlock:=λj hj he=>by have:=(m.own.lt j he.symm).1;omega
       have:=d1.out;have:=d6.out;exact⟨Td B a<|r _<|by show w.heap.size<_;omega,Td B b<|r _<|by show g<_;omega,Td B c<|r _<|by show g<_;omega,Td B d<|r _<|by show w.heap.size+1<_;omega,Td B e<|r _<|by show gy<_;omega,Td B f<|r _<|by show w.heap.size+3<_;omega⟩
      clear R0 R1 x2 y2 v2 q14;go_upto_region 23 with fail;refine ZW 26 (λs=>s.cell? _=some _/\s.cell? _=some _/\s.cell? _=some _/\s.cell? _=some _/\s.cell? _=some _/\s.cell? _=some _) Kr (c3) λk=>?_;clear c3;refine Za 0 k (h:=Za 1 k (h:=Za 2 k (h:=Za 3 k (h:=Za 4 k (h:=Za 5 k (h:=Za 6 k (h:=Za 7 k (h:=Za 8 k (h:=Za 9 k (h:=Za 10 k (h:=Za 11 k (h:=Za 12 k (h:=Za 13 k (h:=Za 14 k (h:=Za 15 k (h:=Za 16 k (h:=Za 17 k (h:=Za 18 k (h:=Za 19 k (h:=Za 20 k (h:=?_)))))))))))))))))))));refine Zz (i:=21) Kr C λK q=>?_;go_simp;refine(Jl c5 _ _ d0 d5 _).mono ?_;rintro e w1 ⟨rfl,rfl⟩;go_simp;refine q _ _ k λk=>?_;clear q K;try simp only[Act.put,Yt]
      refine Za 22 k (h:=?_);refine Zz (i:=23) Kr C λK q=>?_;go_simp;refine q _ _ (d9 _ k) λk=>?_;clear q K;try simp only[Act.put,Yt]
      refine Zz (i:=24) Kr C λK q=>?_;refine S3 C _ _ 53 C _ 118 i0 _ 2 32 underlying53 hi c7 c8 c9 C N _ _ _ (by simp[Act.eval]) (c1.out _) ⟨F.heap.size,0,none⟩ 1 1 [.slice lz qz.length cz,E<|YI op zn yn] (by simp[Act.eval]) C ?h2 ?h3 ?h4 ?h5 ?h6 ?_;case h2=>first|exact Z1<|d8.out _|exact Z1 C|exact PW (by first|simp|exact(Ry _ _ _ _ Sm).trans C)<|by first|simp|exact(Ry _ _ _ _ Sm).trans C
      case h3=>intro u hu;simp at hu;rcases hu with rfl|rfl<;>rfl
      case h4=>unfold maxLen;omega
      case h5=>omega
      case h6=>simp;omega
      intro v1 w1 x n _;obtain⟨g1,cp1,e1⟩:=Zm x X;subst e1;have HN:Hid<|VR w _ XA YA (.slice (some ⟨g1,0,none⟩) (n1+1) cp1)<|os++[(.slice lz qz.length cz,zl,YI op zn yn)]:=I<|(c2.out _).app (by exact n)<|by rw[PX,Yv,c0];exact x
      have a5:=(c2 _).vb.ownGrown (c1 _) n N;have e2:=e0 _ _ (k)<|n;refine q _ _ e2 λk=>?_;clear q K;try simp only[Act.put,Yt]
      refine Za 25 k (h:=?_);refine ZS Kr Kr C Kr λK q=>?_;have y2:=a5.cell 2;have yf:=a5.frozen 2;simp only[Yf]at y2;clear a5 x n;go_simp;refine q _ _ ?_;clear q K;go_wp2;go_roundg (ys.length-(j+1));case measure=>omega
      case rel=>exact⟨j+1,_,X,C,by go_num,I<|by rwa [p.out,Y9,<-WV,<-b7.out]⟩
    .obtain rfl:j=ys.length:=X;rw[X1]at l;go_wp2;go_roundg (xs.length-(i+1));case measure=>omega
     case rel=>exact⟨i+1,vv,X,C,by go_num,I<|by rw[HT];obtain⟨hX,hY⟩:=L.out;rw[<-hX,<-hY];exact l⟩
  .obtain rfl:i=xs.length:=X;rw[X1]at l;have b0:=l.vb.cell 0;have b1:=l.vb.cell 1;have b2:=l.vb.cell 2;have z0:=l.rb.frozen 0;have z1:=l.rb.frozen 1;have z2:=l.rb.frozen 2;have t0:=l.rb.cell 0;have t1:=l.rb.cell 1;have t2:=l.rb.cell 2;simp only[Yf]at b0 b1 b2 t0 t1 t2;have R:=I<|l.done (by
   have Z:=IQ op ys xs;have:=Ih c6 a7;omega)<|vM λz hz=>(S.ok z hz).below l.bel;generalize(xs.flatMap<|FV op ys).length=nn at*;go_wp2;change bodyPost _ _ _ _ _<|set3 wr (w.heap.size+2) (.bool false) (E 0)<|.slice va nn vc;have s0:=R.1.cell 0;have s1:=R.1.cell 1;have s2:=R.1.cell 2;simp only[Yf]at s0 s1 s2;have e3:=I R.2.1;have e4:=I R.2.2;clear R;generalize set3 wr (w.heap.size+2) (.bool false) (E 0) (.slice va nn vc)=WX at*;exact YQ (by simp[results,results35,go_sem,s0,s1,s2]) C ⟨.slice _ _ _,C,e3,e4⟩
