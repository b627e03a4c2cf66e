/- Parts. -/
import Derived.Test.YtmfnolgpaoldpaaGreatDoorW32
set_option linter.all false
set_option maxRecDepth 100000
set_option maxHeartbeats 16000000
namespace Go.Proofs.YtmfnolgpaoldpaaGreatDoor
open Go.RowKit LS Go.Proofs.Tryz
variable {sc:Bool}{l:LB}{c xa:List Value}{ps seen:List<|LB}{rs rs' zs zs':List<|Value×El}{a i k n op:Nat}{v v' vv xv:Value}{W w w' wr:World}
theorem YM.set(h:YM W v zs)(k:Ya W a c 55)(i:Nat)(u:Value):YM (W.setCell ⟨a,i,none⟩ u) v zs:=by
 have g:∀j,j≠a->(W.setCell ⟨a,i,none⟩ u).heap[j]?=W.heap[j]?:=λj d=>Go.Deep.blk_setCell_other _ _ _ _ d;refine⟨ZJ h.own λj d=>g j λe=>ZD h.own k N<|by rw[d,e],h.len,λz l=>?_⟩;obtain⟨⟨qs,f⟩,m⟩:=h.ok z l;exact⟨⟨qs,ZJ f.own λj d=>g j λe=>ZD f.own k N<|by rw[d,e],f.say,f.len,f.ok⟩,m⟩
structure SH (w wr:World)(xa:List Value)(vv:Value)(rs:List<|Value×El):Prop where
 bel:BW w wr
 xb:Ya wr w.heap.size xa 55
 rb:Ya wr (w.heap.size+1) [.bool false,E 0,S0] 55
 vb:Ya wr (w.heap.size+2) [.bool false,E 0,vv] 55
 els:YM wr vv rs
theorem SH.below(h:SH w wr xa vv rs)(a:BW wr w'):SH w w' xa vv rs:=
 ⟨h.bel.trans<|a.mono h.bel.size,h.xb.below a,h.rb.below a,h.vb.below a,h.els.below a⟩
theorem SH.put(h:SH w wr xa vv rs)(d:YM wr v' rs'):SH w (wr.setCell ⟨w.heap.size+2,2,none⟩ v') xa v' rs':=by
 have a:∀j,j≠w.heap.size+2->(wr.setCell ⟨w.heap.size+2,2,none⟩ v').heap[j]?=wr.heap[j]?:=λj e=>Go.Deep.blk_setCell_other _ _ _ _ e;refine⟨h.bel.setCell (by show w.heap.size<=w.heap.size+2;omega) _,(a _ X).trans h.xb,(a _ X).trans h.rb,?_,d.set h.vb 2 _⟩;have c:=h.vb;unfold Ya at c⊢;simp only[World.setCell,V4,c,VE,Wr];rfl
theorem SH.done{va:Option Addr}{vn vc:Nat}(h:SH w wr xa (.slice va vn vc) rs):
 Ya (set3 wr (w.heap.size+1) (.bool false) (E 0)<|.slice va vn vc) (w.heap.size+1) [.bool false,E 0,.slice va vn vc] 55/\YM (set3 wr (w.heap.size+1) (.bool false) (E 0)<|.slice va vn vc) (.slice va vn vc) rs/\BW w (set3 wr (w.heap.size+1) (.bool false) (E 0)<|.slice va vn vc):=by
 refine⟨P5 h.rb,?_,(((h.bel.setCell (by show w.heap.size<=w.heap.size+1;omega) _).setCell (by show w.heap.size<=w.heap.size+1;omega) _).setCell (by show w.heap.size<=w.heap.size+1;omega) _)⟩;have e:=h.els;refine⟨ZJ e.own λj c=>OQ λe'=>ZD e.own h.rb N<|by rw[c,e'],e.len,λz d=>?_⟩;obtain⟨⟨qs,a⟩,f⟩:=e.ok z d;exact⟨⟨qs,ZJ a.own λj c=>OQ λe'=>ZD a.own h.rb N<|by rw[c,e'],a.say,a.len,a.ok⟩,f⟩
theorem SH.start(w:World)(x0 x1 x2:Value):SH w (((w.alloc<|.cells #[x0,x1,x2] 55).alloc<|.cells #[.bool false,E 0,S0] 55).alloc<|.cells #[.bool false,E 0,S0] 55) [x0,x1,x2] S0 []:=by
 have g3:Ya (w.alloc<|.cells #[x0,x1,x2] _) _ _ 55:=Go.Deep.blk_alloc_new w _;have g2:Ya ((w.alloc<|.cells #[x0,x1,x2] 55).alloc<|.cells #[.bool false,E 0,S0] 55) (w.heap.size+1) [.bool false,E 0,S0] 55:=by
  have:=Go.Deep.blk_alloc_new (w.alloc<|.cells #[x0,x1,x2] 55)<|.cells #[.bool false,E 0,S0] 55;rwa [Sz]at this
 have g0:=Go.Deep.blk_alloc_new ((w.alloc<|.cells #[x0,x1,x2] 55).alloc<|.cells #[.bool false,E 0,S0] 55)<|.cells #[.bool false,E 0,S0] 55;rw[Sz,Sz]at g0;exact⟨Yh,(g3.alloc _).alloc _,g2.alloc _,g0,⟨Xm _ _ _ _,Sm,Sm⟩⟩
theorem DK {op:Nat}{bs:List<|LB}{all:List El}(e:El):∀(l pre:List El),Vy op bs all pre (l++[e])=Vy op bs all pre l++(if(pre++l).any λf=>decide<|Yy (Zp f.1 bs)=Yy (Zp e.1 bs)then[]else[(Zp e.1 bs,YZ (T1 op ((all.filter λf=>decide<|Yy (Zp f.1 bs)=Yy (Zp e.1 bs)).map (·.2))))])
 |[],pre=>by simp only[O8,Vy,V6]
 |x::l,pre=>by
  rw[Oj,Vy,Vy,DK e l _,WV,WV];rfl
def T5(bs:List<|LB)(zl:List Xc)(z:Value×El):Bool:=decide<|Yy (Zp z.2.1 bs)=Yy (Zp zl bs)
theorem fQ{α:Type}{p:α->Bool}{l:List α}(h:k<l.length):(l.take<|k+1).any p=((l.take k).any p||p l[k]):=by
 rw[List.take_succ_eq_append_getElem h,List.any_append];simp
theorem fR{α:Type}(p:α->Bool){l:List α}(k:Nat)(h:k<l.length):(l.take<|k+1).filter p=(l.take k).filter p++(if p l[k]then[l[k]]else[]):=by
 rw[List.take_succ_eq_append_getElem h,N6];congr 1;by_cases a:p l[k]=true
 .rw[Ye a,NX a];rfl
 .rw[Yd a,NY a];rfl
theorem qQ(op:Nat)(i7:op<=3)(bv:Value)(ns:List BA)(zs:List<|Value×El)(w:World)(p:Ul w bv ns)(h:YM w v zs)(f4:zs.length<=1000):
 CP 37 #[E op,bv,.agg #[.bool false,E 0,v]] w λe r=>∃(v':Value)(rs:List<|Value×El),e=.returned (.agg #[.bool false,E 0,v'])/\Hid (YM r v' rs)/\Hid (rs.map (·.2)=SB op (ns.map bl) (zs.map (·.2)))/\BW w r:=by
 obtain⟨sa,sl,rfl⟩:=Zd h.own;obtain⟨ba,bc,rfl⟩:=Zd p.own;have HS:=I h;have HN:=I p;obtain⟨i0,hi,f5,f6,f7⟩:=Xv Tryz.infoRSample;clear h p;go_enter func37,ntmps37;go_upto_region 2 with fail;refine Zs λW0 d1=>?_;have d2:Hid<|SH w _ [.bool _,.int _ 0,.slice _ _ _] _ _:=d1▸SH.start w _ _ _;clear d1;go_wp2;go_loopg [8] zs.length (λgk v8 wr=>∃(i:Nat)(vv:Value)(rs:List<|Value×El),i<=zs.length/\gk=zs.length-i/\v8=E i/\Hid (SH w wr [.bool false,E 0,.slice sa zs.length sl] vv rs)/\Hid (rs.map (·.2)=(Vy op (ns.map bl) (zs.map (·.2)) [] ((zs.map (·.2)).take i)).foldl V8 [])/\Hid (rs.length<=i));case atStart=>exact⟨0,_,[],Yr _,C,C,d2,I C,I<|Yj _⟩
 case round=>
  clear d2;obtain⟨i,vv,rs,i8,i9,rfl,d,HG,a0⟩:=hrel;have x2:=d.xb.cell 2;simp only[Yf]at x2;by_cases a1:i<zs.length
  .obtain⟨g,cpx,hg⟩:=Zm HS.own X;injection hg with hg1 _ hg2;subst hg1 hg2;have l:=I<|HS.below d.bel;have r0:=Zc l.own _ _<|by rw[(Tf _ i).1,List.getElem?_eq_getElem a1];rfl
   have a2:=l.ok _<|List.getElem_mem a1;have a4:Hid (Vy op (ns.map bl) (zs.map (·.2)) [] ((zs.map (·.2)).take<|i+1)=Vy op (ns.map bl) (zs.map (·.2)) [] ((zs.map (·.2)).take i)++(if(zs.take i).any<|T5 (ns.map bl) (zs[i]).2.1then[]else[(Zp (zs[i]).2.1<|ns.map bl,YZ (T1 op ((zs.filter<|T5 (ns.map bl) (zs[i]).2.1).map (·.2.2))))])):=by
    have f8:i<(zs.map (·.2)).length:=by rwa [Yz]
    have e1:(zs.map _)[i]=(zs[i]).2:=List.getElem_map _;rw[List.take_succ_eq_append_getElem f8,DK,O8,e1,<-Q3,List.any_map,List.filter_map,VD];rfl
   have d3:Hid<|T5 (ns.map bl) (zs[i]).2.1 zs[i]=true:=I<|by unfold T5;simp
   have f0:=I<|List.getElem_mem a1;generalize zs[i]=z at*;obtain⟨zv,zl,zn⟩:=z;obtain⟨⟨qz,L⟩,f9⟩:=a2;simp only at r0 L a4 d3;obtain⟨lz,cz,rfl⟩:=Zd L.own;have d4:=I L;have D:=I<|HN.below d.bel;clear L f9 l;go_wp2_with fail;refine(C4 d4 D).mono ?_;rintro e w1 ⟨lv,ql,rfl,M,B⟩;have d5:=I<|d.below B;clear B x2 r0 d d4 D;obtain⟨la1,lc1,g0⟩:=Zd M.own;subst g0;go_wp2_with fail;refine(Nj _ _ M).mono ?_;rintro e Z ⟨kx,rfl,g1,n2,d6⟩;have a5:Below w1.heap.size _ _:=d6▸Wn (Ym _ _) _;have O:=I<|d5.below a5;have g2:=I<|M.below a5;clear a5 d6 d5 M;obtain⟨XA,a6⟩:∃XA:List Value,XA=[.bool false,E 0,.slice (some ⟨g,0,none⟩) zs.length sl]:=⟨_,C⟩;have P:=I a6;rw[<-a6]at O;clear a6;have g3:Hid<|∀W,Below _ _ W->SH w W _ _ _:=I λW p=>O.below p;go_wp2;go_loopg [11,12,13] zs.length (λgj v11 v12 v13 wr=>∃(j:Nat)(ss:List<|Int×Int)(f:Bool),j<=zs.length/\gj=zs.length-j/\v13=E j/\v12=.bool f/\Hid (wr.ownsRow Z.heap.size 179 2 v11 ss.length<|ZQ ss)/\Hid (ss=((zs.take j).filter<|T5 (ns.map bl) zl).map λz=>(0,z.2.2))/\Hid (f=!((zs.take<|min j i).any<|T5 (ns.map bl) zl))/\Hid (SH w wr XA vv rs)/\Hid (BW Z wr));case atStart=>exact⟨0,[],true,Yr _,C,C,C,Xm _ _ _ _,I C,I Sm,O,Ym _ _⟩
   case round=>
    clear O;obtain⟨j,ss,f,hj,j0,rfl,rfl,HO,k,HF,c,Q⟩:=hrel;obtain⟨s1,c1,g4⟩:=Zd HO;subst g4;have x2:=c.xb.cell 2;rw[P]at x2;simp only[Yf]at x2;by_cases F:j<zs.length
    .have l:=I<|HS.below c.bel;have r0:=Zc l.own _ _<|by rw[(Tf _ j).1,List.getElem?_eq_getElem F];rfl
     have r1:=Zc l.own _ _<|by rw[(Tf _ j).2,List.getElem?_eq_getElem F];rfl
     have a7:=ZN l.own;have a2:=l.ok _<|List.getElem_mem F;have m:=I<|fR (T5 (ns.map bl) zl) j F;have n:Hid<|(zs.take<|min (j+1) i).any (T5 (ns.map bl) zl)=((zs.take<|min j i).any (T5 (ns.map bl) zl)||(decide (j<i)&&T5 (ns.map bl) zl zs[j])):=I (by
      by_cases G:j<i
      .rw[show min (j+1) i=j+1 by omega,show min j i=j by omega,fQ F];simp[G]
      .rw[show min (j+1) i=i by omega,show min j i=i by omega];simp[G]);generalize zs[j]=y at*;obtain⟨yv,yl,yn⟩:=y;obtain⟨⟨qy,R⟩,d7⟩:=a2;have j1:Hid<|YD yn:=d7;simp only at r0 r1 R m n;obtain⟨ly,cy,rfl⟩:=Zd R.own;have d8:=I R;have D:=I<|HN.below c.bel;clear R d7 l;go_wp2_with fail;refine(C4 d8 D).mono ?_;rintro e w3 ⟨uv,qu,rfl,a8,o⟩;have d9:=I<|c.below o;have s:=I<|Q.trans<|o.mono Q.size;have e0:=I<|Ze HO o;have r13:=(o.cell a7).trans r1;have a9:=WH a7 o.size;clear o x2 r0 r1 a7 c Q HO d8 D;obtain⟨la3,lc3,f1⟩:=Zd a8.own;subst f1;go_wp2_with fail;refine(Nj _ _ a8).mono ?_;rintro e w4 ⟨ux,rfl,g5,n4,e2⟩;have H:Below w3.heap.size _ _:=e2▸Wn (Ym _ _) _;have e3:=I<|d9.below H;have S:=I<|s.trans<|H.mono s.size;have b3:=I<|Ze e0 H;have r14:=(H.cell a9).trans r13;clear H e2 r13 d9 s e0 a8 a9;have x2:=e3.xb.cell 2;rw[P]at x2;simp only[Yf]at x2;have e4:Hid<|(ux.toList==kx.toList)=T5 (ns.map bl) zl (.slice ly qy.length cy,yl,yn):=by rw[Nl,g5,g1];unfold T5;rfl
     have b4:ss.length<=1000:=by
      rw[k,Yz];have:=Qq (T5 (ns.map bl) zl)<|zs.take j;rw[Xw]at this;omega
     have i6:=S.size;cases hm:T5 (ns.map bl) zl (.slice ly qy.length cy,yl,yn)with
     |false=>
      have he:(ux.toList==kx.toList)=false:=by rw[e4,hm]
      rw[hm]at m n;rw[O9,Bool.or_false]at n;rw[Yd N,V6]at m;go_wp2;go_roundg (zs.length-(j+1));case measure=>omega
      case rel=>exact⟨j+1,ss,f,X,C,by go_num,C,b3,I<|by rwa [m.out],I<|by rwa [n.out],e3,S⟩
     |true=>
      have he:(ux.toList==kx.toList)=true:=by rw[e4,hm]
      rw[hm]at m n;rw[Ol]at n;rw[Ye C]at m;have b5:Hid<|ss++[((0),yn)]=((zs.take<|j+1).filter<|T5 (ns.map bl) zl).map λz=>((0),z.2.2):=by rw[m,Y9,<-k];rfl
      have t:Hid<|(f&&decide (i<=j))=!((zs.take<|min (j+1) i).any<|T5 (ns.map bl) zl):=by
       rw[n,HF,Bool.not_or];congr 1;by_cases G:j<i
       .simp[G,Nat.not_le.2 _]
       .simp[G,Nat.le_of_not_lt _]
      clear m n;go_wp2_with(at_builtin;refine XC _ C (.tmp 51) (.tmp 59) 103 C Z.heap.size 179 i0 (.agg #[E 0,E 0]) 2 16 underlying103 hi f5 f6 f7 C N _ _ _ C (b3.alloc _) ⟨w4.heap.size,0,none⟩ 1 1 [E 0,E yn] C C (Z1 C) ?c2 ?c3 ?c4 ?c5 ?_);case c2=>intro u hu;simp at hu;rcases hu with rfl|rfl<;>rfl
      case c3=>unfold maxLen;first|omega|(simp;omega)
      case c4=>first|omega|(simp;omega)
      case c5=>first|omega|(simp;omega)
      intro v' w6 c9 T _;have U:=I<|QL (S.alloc S.size _) T λq hq=>by have:=(b3.lt q hq).1;omega
      have b6:=I<|g3 _ U;have b7:Hid<|w6.ownsRow Z.heap.size 179 2 v' (ss++[((0),yn)]).length<|ZQ<|ss++[((0),yn)]:=by rwa [H4,Yv]
      clear c9 T;cases f with
      |false=>
       rw[Bool.false_and]at t;go_wp2;go_roundg (zs.length-(j+1));case measure=>omega
       case rel=>exact⟨j+1,_,false,X,C,by go_num,C,b7,b5,t,b6,U⟩
      |true=>
       rw[Il]at t;by_cases e5:i<=j
       .rw[show decide _=true by simp[e5]]at t;go_wp2;go_roundg (zs.length-(j+1));case measure=>omega
        case rel=>exact⟨j+1,_,true,X,C,by go_num,C,b7,b5,t,b6,U⟩
       .rw[show decide _=false by simp[e5]]at t;go_wp2;go_roundg (zs.length-(j+1));case measure=>omega
        case rel=>exact⟨j+1,_,false,X,C,by go_num,C,b7,b5,t,b6,U⟩
    .obtain rfl:j=zs.length:=X;rw[show min _ i=i by omega]at HF;rw[X1]at k;cases f with
     |false=>
      have b8:Hid<|Vy _ _ _ _ _=Vy _ _ _ _ ((zs.map _).take i):=I<|by
       rw[a4,Ye<|by have:=HF.out;revert this;cases(zs.take i).any<|T5 (ns.map bl) zl<;>simp,V6]
      go_wp2;go_roundg (zs.length-(i+1));case measure=>omega
      case rel=>exact⟨i+1,vv,rs,X,C,by go_num,I<|by rwa [<-P.out],I<|b8.out▸HG.out,I<|Nat.le_succ_of_le a0⟩
     |true=>
      have b8:Hid (Vy op (ns.map bl) (zs.map (·.2)) [] ((zs.map (·.2)).take<|i+1)=Vy op (ns.map bl) (zs.map (·.2)) [] ((zs.map (·.2)).take i)++[(Zp zl<|ns.map bl,YZ (T1 op (ss.map (·.2))))]):=by
       rw[a4,Yd<|by have:=HF.out;revert this;cases(zs.take i).any<|T5 (ns.map bl) zl<;>simp,k,VD];rfl
      have g6:Hid<|0<ss.length:=by
       rw[k,Yz];exact List.length_pos_of_mem<|Qv.2 ⟨f0,d3⟩
      have b4:ss.length<=1000:=by
       rw[k,Yz];exact Xb (Qq _ _) f4
      have g7:Hid<|∀W,W=wr.drew->VS W _ _:=I λW hW=>by
       rw[hW];refine⟨(U6 HO).drew,X,λx hx=>?_⟩;rw[k,XJ]at hx;obtain⟨y,hy,rfl⟩:=hx;have:=(HS.ok y (Qv.1 hy).1).2;unfold YD at this;unfold Vc;simp only;omega
      have g8:=I<|g2.below Q;have g9:Hid<|rs.length<=1000:=I<|by have:=a0.out;omega
      have v2:=c.vb.cell 2;simp only[Yf]at v2;obtain⟨va,vc,b9⟩:=Zd c.els.own;subst b9;have e6:Hid<|∀W,Below _ _ W->W.cell? _=some _:=I λW p=>(p.cell c.vb.lt).trans v2;obtain⟨tn,c0⟩:∃tn,tn=T1 op (ss.map (·.2)):=⟨_,C⟩;obtain⟨cn,V⟩:∃cn,cn=YZ tn:=⟨_,C⟩;have i1:Hid<|cn=YZ _:=I<|by rw[V,c0]
      have d0:Hid<|∀W,W=wr.drew->CP 75 #[E op,.slice s1 ss.length c1] W λe r=>e=.returned (E tn)/\BW wr r:=I λW hW=>by
       refine(AD op X ss (g7.out W hW) g6.out).mono ?_;rintro e w1 ⟨rfl,nt,rfl⟩;rw[c0,hW];exact⟨C,Wn ((Ym _ _).drew) _⟩
      have f2:Hid<|∀W,Calls _ _ _ W λe r=>e=.returned _/\r=W:=I λW=>V▸LL tn W;have i2:Hid<|∀W,Below _ _ W->Calls _ _ #[.slice _ _ _,.agg #[.slice _ _ _,.int _ cn]] W λe r=>∃a3 n3 c3,e=.returned (.slice a3 n3 c3)/\Hid (YM r (.slice a3 n3 c3) _)/\Hid (Below _ _ r):=I λW p=>by
       refine(GX rs (.slice la1 ql.length lc1,Zp zl<|ns.map bl,cn) W (c.els.below p) ⟨⟨ql,g8.below p⟩,by rw[V];exact Np _⟩ g9.out).mono ?_;rintro e w3 ⟨v3,rfl,Y,o⟩;obtain⟨va3,vc3,i3⟩:=Zd Y.own;subst i3;exact⟨va3,_,vc3,C,Y,p.trans<|o.mono p.size⟩
      have f3:Hid<|Vy _ _ _ _ _=Vy _ _ _ _ ((zs.map _).take i)++[(Zp _ _,cn)]:=I<|by rw[b8,i1]
      clear c0 V;have e7:wr.drew.cell? _=some _:=v2;clear v2 b4;go_upto_region 17 with fail;clear x2;refine ZW 10 (λr=>r.cell? _=some _) Kr (e7) λa=>?_;clear e7;refine Za 0 a (h:=Za 1 a (h:=Za 2 a (h:=Za 3 a (h:=Za 4 a (h:=?_)))));refine Zz (i:=5) Kr C λK A=>?_;go_simp;refine(d0 _ C).mono ?_;rintro e w1 ⟨rfl,B⟩;have J:=e6 _ B;have i4:=I B;clear B;go_simp;refine A _ _ J λa=>?_;clear A K;try simp only[Act.put,Yt]
      refine Zz (i:=6) Kr C λK A=>?_;go_simp;refine(f2 _).mono ?_;rintro e Z ⟨rfl,rfl⟩;go_simp;refine A _ _ J λa=>?_;clear A K;try simp only[Act.put,Yt]
      refine Za 7 a (h:=?_);refine Zz (i:=8) Kr C λK A=>?_;go_simp;refine(i2 _ i4).mono ?_;rintro e w3 ⟨a3,n3,c3,rfl,Y,s⟩;have c6:=e6 _ s;have i5:=I<|(c.below s).put Y;have c7:=(c.below s).vb;go_simp;refine A _ _ c6 λa=>?_;clear A K;try simp only[Act.put,Yt]
      refine Za 9 a (h:=?_);refine ZS Kr Kr C Kr λK A=>?_;have q2:=c7.cell 2;have qf:=c7.frozen 2;simp only[Yf]at q2;clear c7;go_simp;refine A _ _ ?_;clear A K;go_wp2;go_roundg (zs.length-(i+1));case measure=>omega
      case rel=>exact⟨i+1,_,_,X,C,by go_num,I<|P.out▸i5.out,I<|by rw[f3,Ir,<-HG,Ad];rfl,I<|by rw[LI];exact Nat.succ_le_succ a0⟩
  .obtain rfl:i=zs.length:=X;obtain⟨va,vc,b9⟩:=Zd d.els.own;subst b9;have b0:=d.vb.cell 0;have b1:=d.vb.cell 1;have b2:=d.vb.cell 2;have z0:=d.rb.frozen 0;have z1:=d.rb.frozen 1;have z2:=d.rb.frozen 2;have t0:=d.rb.cell 0;have t1:=d.rb.cell 1;have t2:=d.rb.cell 2;simp only[Yf]at b0 b1 b2 t0 t1 t2;have HD:=I d.done;have c8:Hid (rs.map (·.2)=SB op (ns.map bl) (zs.map (·.2))):=by rw[HG,Wm<|by rw[Yz];exact Yj _];rfl
   go_wp2;change bodyPost _ _ _ _ _<|set3 wr (w.heap.size+1) (.bool false) (E 0)<|.slice va rs.length vc;have s0:=HD.1.cell 0;have s1:=HD.1.cell 1;have s2:=HD.1.cell 2;simp only[Yf]at s0 s1 s2;have e8:=I HD.2.1;have e9:=I HD.2.2;clear HD;generalize set3 wr (w.heap.size+1) (.bool false) (E 0) (.slice va rs.length vc)=WX at*;exact YQ (v:=.agg #[.bool false,E 0,.slice va rs.length vc]) (by simp[results,results37,go_sem,s0,s1,s2]) C<|by first|exact⟨.slice va rs.length vc,rs,C,e8,c8,e9.out⟩|exact⟨.slice va rs.length vc,C,rs,e8,c8,e9.out⟩
def UX(z:Value×El):Value×El:=(z.1,z.2.1,-z.2.2)
structure Um (w wr:World)(sc:Bool)(n m:Int)(xv vv:Value)(zs:List<|Value×El):Prop where
 bel:BW w wr
 xb:Ya wr w.heap.size [.bool sc,E n,xv] 55
 rb:Ya wr (w.heap.size+1) [.bool false,E 0,S0] 55
 vb:Ya wr (w.heap.size+2) [.bool sc,E m,vv] 55
 own:wr.ownsRow (w.heap.size+3) 118 2 vv zs.length<|UR zs
theorem Um.below{n m:Int}(h:Um w wr sc n m xv vv zs)(a:BW wr w'):Um w w' sc n m xv vv zs:=
 ⟨h.bel.trans<|a.mono h.bel.size,h.xb.below a,h.rb.below a,h.vb.below a,Ze h.own a⟩
theorem Um.app{a:World}{n m:Int}(h:Um w wr sc n m xv vv zs)(d:wr.grownBy a vv.ownBlock)(i:a.ownsRow (w.heap.size+3) 118 2 v' zs'.length<|UR zs'):
 Um w (a.setCell ⟨w.heap.size+2,2,none⟩ v') sc n m xv v' zs':=by
 have k:=h.xb.ownGrown h.own d N;have l:=h.rb.ownGrown h.own d N;have f:=h.vb.ownGrown h.own d N;have c:∀j,j≠w.heap.size+2->(a.setCell ⟨w.heap.size+2,2,none⟩ v').heap[j]?=a.heap[j]?:=λj g=>Go.Deep.blk_setCell_other _ _ _ _ g;refine⟨(QL h.bel d λq o=>by have:=(h.own.lt q o).1;omega).setCell (by show w.heap.size<=w.heap.size+2;omega) _,(c _ X).trans k,(c _ X).trans l,?_,ZJ i λj g=>c j λe=>ZD i f N<|by rw[g,e]⟩;unfold Ya at f⊢;simp only[World.setCell,V4,f,VE,Wr];rfl
theorem Ci(sc:Bool)(n:Int)(hn:YD n)(v:Value)(zs:List<|Value×El)(w:World)(h:YM w v zs)(c2:zs.length<=1000):
 CP 36 #[.agg #[.bool sc,E n,v]] w λe r=>∃v',e=.returned (.agg #[.bool sc,E<|-n,v'])/\Hid (YM r v'<|zs.map UX)/\BW w r:=by
 obtain⟨sa,sl,rfl⟩:=Zd h.own;have S:=I h;obtain⟨c3,c4⟩:=hn;obtain⟨m,F⟩:∃m,m=-n:=⟨_,C⟩;have a7:IntKind.i64.wrap (-n)=m:=by rw[F,Us];omega
 obtain⟨i0,hi,a8,a9,b2⟩:=Xv Tryz.infoREl;rw[<-F];clear h;go_enter func36,ntmps36;go_upto_region 2 with fail;refine Zs λW0 G=>?_;rw[<-F]at G;have T:Hid<|Um w W0 sc n m (.slice sa zs.length sl) S0 []:=by
  rw[G];have g1:=Go.Deep.blk_alloc_new ((w.alloc<|.cells #[.bool sc,E n,.slice sa zs.length sl] 55).alloc<|.cells #[.bool false,E 0,S0] 55)<|.cells #[.bool sc,E m,S0] 55;have g2:=Go.Deep.blk_alloc_new (w.alloc<|.cells #[.bool sc,E n,.slice sa zs.length sl] 55)<|.cells #[.bool false,E 0,S0] 55;have g3:=Go.Deep.blk_alloc_new w<|.cells #[.bool sc,E n,.slice sa zs.length sl] 55;rw[Sz,Sz]at g1;rw[Sz]at g2;refine⟨?_,?_,?_,g1,Xm _ _ _ _⟩
  .exact Yh
  .exact((((Ym (w.heap.size+1) _).alloc Sm _).alloc Sm _).block _ X).trans g3
  .exact(((Ym (w.heap.size+2) _).alloc Sm _).block _ X).trans g2
 have b3:=I F;clear G a7 F;generalize U:-n=mn;have b4:m=mn:=by rw[b3,U]
 clear U;subst b4;go_wp2;go_loopg [4] zs.length (λgk v4 wr=>∃(k:Nat)(vv:Value),k<=zs.length/\gk=zs.length-k/\v4=E k/\Hid (Um w wr sc n m (.slice sa zs.length sl) vv<|(zs.take k).map UX));case atStart=>exact⟨0,_,Yr _,C,C,T⟩
 case round=>
  clear T;obtain⟨k,vv,hk,c5,rfl,l⟩:=hrel;obtain⟨va,vc,V⟩:=Zd l.own;have H:((zs.take k).map UX).length=k:=by rw[Yz,Xw];omega
  rw[H]at V;subst V;have x2:=l.xb.cell 2;have v2:=l.vb.cell 2;have vf:=l.vb.frozen 2;simp only[Yf]at x2 v2;have J:=I H;clear H;by_cases s:k<zs.length
  .obtain⟨g,cpx,B⟩:=Zm S.own X;injection B with hg1 _ hg2;subst hg1 hg2;have L:=I<|S.below l.bel;have r0:=Zc L.own _ _<|by rw[(Tf _ k).1,List.getElem?_eq_getElem s];rfl
   have r1:=Zc L.own _ _<|by rw[(Tf _ k).2,List.getElem?_eq_getElem s];rfl
   have b5:=L.ok _<|List.getElem_mem s;have HT:Hid<|(zs.take<|k+1).map UX=(zs.take k).map UX++[UX zs[k]]:=by rw[List.take_succ_eq_append_getElem s,Y9];rfl
   generalize zs[k]=z at*;obtain⟨zv,zl,zn⟩:=z;obtain⟨⟨qz,M⟩,a3,a4⟩:=b5;simp only at r0 r1 M a3 a4;obtain⟨lz,cz,rfl⟩:=Zd M.own;clear M;obtain⟨zm,O⟩:∃zm,zm=-zn:=⟨_,C⟩;have c6:IntKind.i64.wrap (-zn)=zm:=by rw[O,Us];omega
   have b6:Hid<|(zs.take<|k+1).map UX=(zs.take k).map UX++[(.slice lz qz.length cz,zl,zm)]:=by rw[HT,O];rfl
   have Y:=I λo=>by have:=l.own;rw[J]at this;exact(this.alloc o).drew
   have Z:Hid<|∀o,Um w (wr.alloc o).drew _ n m _ _ _:=I λo=>l.below<|Below.drew Yc;have a0:Hid<|∀o,(wr.alloc o).drew.heap[wr.heap.size]?=some o:=I λo=>Go.Deep.blk_alloc_new _ o;have c7:=l.vb.lt;clear O;have a5:=ZN S.own;have a1:wr.drew.cell? _=some _/\wr.drew.cell? _=some _/\wr.drew.cell? _=some _/\wr.drew.cell? _=some _:=⟨x2,r0,r1,v2⟩;have b7:Hid<|∀o,(wr.drew.cell? _=some (.slice (some ⟨g,0,none⟩) zs.length sl)/\wr.drew.cell? _=some _/\wr.drew.cell? _=some _/\wr.drew.cell? _=some _)->((wr.drew.alloc o).cell? ⟨w.heap.size,2,none⟩=some _/\(wr.drew.alloc o).cell? ⟨g,k*2,none⟩=some (.slice lz qz.length cz)/\(wr.drew.alloc o).cell? ⟨g,k*2+1,none⟩=some (E zn)/\(wr.drew.alloc o).cell? ⟨w.heap.size+2,2,none⟩=some (.slice va k vc)):=I λo ⟨a,b,c,d⟩=>⟨Tc a o,Tc b o,Tc c o,Tc d o⟩;have b8:Hid<|∀W D:World,(W.cell? ⟨w.heap.size,2,none⟩=some (.slice (some ⟨g,0,none⟩) zs.length sl)/\W.cell? ⟨g,k*2,none⟩=some (.slice lz qz.length cz)/\W.cell? ⟨g,k*2+1,none⟩=some (E zn)/\W.cell? ⟨w.heap.size+2,2,none⟩=some (.slice va k vc))->W.grownBy _ _->(D.cell? _=some _/\D.cell? _=some _/\D.cell? _=some _/\D.cell? _=some _):=I λW D ⟨a,b,c,d⟩ B=>by
    have t:∀j,j<w.heap.size+3->some j≠(Value.slice _ k _).ownBlock:=λj hj he=>by have:=(l.own.lt j he.symm).1;omega
    exact⟨Td B a<|t _<|by show w.heap.size<_;omega,Td B b<|t _<|by show g<_;omega,Td B c<|t _<|by show g<_;omega,Td B d<|t _<|by show w.heap.size+2<_;omega⟩
   have P:Hid<|∀o,(wr.drew.alloc o).ownsRow _ _ 2 _ k _:=Y;have Q:Hid<|∀o,Um w (wr.drew.alloc o) _ n m _ _ _:=Z;have a6:Hid<|∀o,(wr.drew.alloc o).heap[wr.heap.size]?=some o:=a0;clear Y Z a0 a5 r0 r1 v2 vf;go_upto_region 5 with fail;clear x2;refine ZW 19 (λr=>r.cell? _=some _/\r.cell? _=some _/\r.cell? _=some _/\r.cell? _=some _) Kr (a1) λf=>?_;clear a1;refine Za 0 f (h:=Za 1 f (h:=Za 2 f (h:=Za 3 f (h:=Za 4 f (h:=Za 5 f (h:=Za 6 f (h:=Za 7 f (h:=Za 8 f (h:=Za 9 f (h:=Za 10 f (h:=Za 11 f (h:=Za 12 f (h:=Za 13 f (h:=Za 14 f (h:=Za 15 f (h:=?_))))))))))))))));refine Zz (i:=16) Kr C λK q=>?_;go_simp;refine q _ _ (b7 _ f) λf=>?_;clear q K;try simp only[Act.put,Yt]
   refine Zz (i:=17) Kr C λK q=>?_;refine S3 C _ _ _ C _ 118 _ _ 2 _ underlying53 hi a8 a9 b2 C N _ k _ (by simp[Act.eval]) (P.out _) ⟨wr.heap.size,0,none⟩ 1 1 [.slice lz qz.length cz,E zm] (by simp[Act.eval]) C ?h2 ?h3 ?h4 ?h5 ?h6 ?_;case h2=>first|exact Z1<|a6.out _|exact Z1 C|exact PW (by first|simp|exact(Ry _ _ _ _ Sm).trans C)<|by first|simp|exact(Ry _ _ _ _ Sm).trans C
   case h3=>intro u hu;simp at hu;rcases hu with rfl|rfl<;>rfl
   case h4=>unfold maxLen;omega
   case h5=>omega
   case h6=>simp;omega
   intro v1 D A p _;obtain⟨g1,cp1,b9⟩:=Zm A X;subst b9;have HN:Hid<|Um w _ _ n m _ _<|(zs.take _).map _:=I<|(Q _).app (p)<|by rwa [b6.out,PX,Yv,J.out]
   have R:=(Q _).vb.ownGrown (P _) p N;have c0:=b8 _ _ (f)<|p;refine q _ _ c0 λf=>?_;clear q K;try simp only[Act.put,Yt]
   refine Za 18 f (h:=?_);refine ZS Kr Kr C Kr λK q=>?_;have y2:=R.cell 2;have yf:=R.frozen 2;simp only[Yf]at y2;clear R A p;go_simp;refine q _ _ ?_;clear q K;go_wp2;go_roundg (zs.length-(k+1));case measure=>omega
   case rel=>exact⟨k+1,_,X,C,by go_num,HN⟩
  .obtain rfl:k=zs.length:=X;rw[X1]at l;rw[X1]at J;have b0:=l.vb.cell 0;have b1:=l.vb.cell 1;have y0:=l.rb.frozen 0;have y1:=l.rb.frozen 1;have y2:=l.rb.frozen 2;have t0:=l.rb.cell 0;have t1:=l.rb.cell 1;have t2:=l.rb.cell 2;simp only[Yf]at b0 b1 t0 t1 t2;go_wp2;change bodyPost _ _ _ _ _<|set3 wr (w.heap.size+1) (.bool sc) (E m)<|.slice va zs.length vc;have s9:=P5 l.rb (x:=.bool sc) (y:=E m) (z:=.slice va zs.length vc);have s0:=s9.cell 0;have s1:=s9.cell 1;have s2:=s9.cell 2;simp only[Yf]at s0 s1 s2;have a2:Hid<|Below _ w<|set3 _ _ (.bool sc) (E m)<|.slice va zs.length vc:=I<|((l.bel.setCell (by show w.heap.size<=w.heap.size+1;omega) _).setCell (by show w.heap.size<=w.heap.size+1;omega) _).setCell (by show w.heap.size<=w.heap.size+1;omega) _;have c1:Hid<|YM (set3 wr (w.heap.size+1) (.bool sc) (E m)<|.slice va zs.length vc) (.slice va zs.length vc)<|zs.map UX:=by
    refine⟨ZJ (U6 l.own) λj hj=>OQ λe=>ZD l.own l.rb N<|by rw[hj,e],by rw[Yz];omega,λz hz=>?_⟩;obtain⟨y,hy,rfl⟩:=XJ.mp hz;have:=(S.ok y hy).below a2;exact⟨this.1,by have:=this.2;unfold YD at*;unfold UX;simp only;omega⟩
   generalize set3 wr (w.heap.size+1) (.bool sc) (E m) (.slice va zs.length vc)=WX at*;exact YQ (by simp[results,results36,go_sem,s0,s1,s2]) C ⟨.slice _ _ _,C,c1,a2⟩
def Xh(w:World)(v:Value):VV->Prop
 |.inl n=>(∃(ea:Option Addr)(ec:Nat),v=.agg #[.bool true,.int .i64 n,.slice ea 0 ec]/\YM w (.slice ea 0 ec) [])/\YD n
 |.inr l=>∃(ea:Option Addr)(ec:Nat)(zs:List<|Value×El),v=.agg #[.bool false,.int .i64 0,.slice ea zs.length ec]/\YM w (.slice ea zs.length ec) zs/\zs.map (·.2)=l
theorem Xh.below:∀{V:VV},Xh w v V->BW w w'->Xh w' v V
 |.inl _,⟨⟨ea,ec,a,c⟩,d⟩,e=>⟨⟨ea,ec,a,c.below e⟩,d⟩
 |.inr _,⟨ea,ec,zs,a,c,d⟩,e=>⟨ea,ec,zs,a,c.below e,d⟩
theorem Xh.other(g:Ya w a c 55)(h:∀j,j≠a->w'.heap[j]?=w.heap[j]?):∀{V:VV},Xh w v V->Xh w' v V
 |.inl _,⟨⟨ea,ec,d,e⟩,f⟩=>⟨⟨ea,ec,d,e.other g h⟩,f⟩
 |.inr _,⟨ea,ec,zs,d,e,f⟩=>⟨ea,ec,zs,d,e.other g h,f⟩
theorem Xh.of_els{l:List El}(h:YM w v zs)(a:zs.map (·.2)=l):Xh w (.agg #[.bool false,E 0,v])<|.inr l:=by
 obtain⟨ea,ec,rfl⟩:=Zd h.own;exact⟨ea,ec,zs,C,h,a⟩
theorem nJ (V:VV)(h:Xh w v V)(g:WG 1000 V):CP 36 #[v] w λe u=>∃v',e=.returned v'/\Hid (Xh u v'<|TI V)/\BW w u:=by
 cases V with
 |inl n=>
  obtain⟨⟨fa,fc,rfl,i⟩,j⟩:=h;refine(Ci true n j (.slice fa 0 fc) [] w i Sm).mono ?_;rintro e k ⟨v',rfl,a,c⟩;obtain⟨ea,ec,rfl⟩:=Zd a.own;exact⟨_,C,I ⟨⟨ea,ec,C,a.out⟩,by unfold YD at*;omega⟩,c⟩
 |inr l=>
  obtain⟨ea,ec,zs,rfl,m,f⟩:=h;have d:zs.length<=1000:=by have:=g.2;rw[<-f,Yz]at this;exact this
  refine(Ci false 0 (by unfold YD;omega) _ zs w m d).mono ?_;rintro e k ⟨v',rfl,a,c⟩;exact⟨_,C,I<|Xh.of_els a.out<|by rw[VD,<-f,VD];rfl,c⟩
theorem qE (d:op<=3){bv:Value}{ns:List BA}(l:List El)(a:Ul w bv ns)(h:Xh w v<|.inr l)(f:l.length<=1000):CP 37 #[E op,bv,v] w λe u=>∃v',e=.returned v'/\Hid (Xh u v'<|.inr<|SB op (ns.map bl) l)/\BW w u:=by
 obtain⟨ea,ec,zs,rfl,i,g⟩:=h;have c:zs.length<=1000:=by rw[<-g,Yz]at f;exact f
 refine(qQ op d bv ns zs w a i c).mono ?_;rintro e m ⟨v',rs,rfl,j,k,a⟩;exact⟨_,C,I<|Xh.of_els j.out<|by rw[k.out,g],a⟩
theorem oX (op:Nat)(xs ys:List<|Value×El):(xs.flatMap<|FV op ys).map (·.2)=(xs.map (·.2)).flatMap λe=>((ys.map (·.2)).filter λf=>decide<|Yy e.1=Yy f.1).map λf=>(e.1,YI op e.2 f.2):=by
 induction xs with
 |nil=>rfl
 |cons x xs ih=>
  rw[Km,Y9,ih,Wb,Km];congr 1;unfold FV;rw[VD,List.filter_map,VD];rfl
theorem ve (d:op<=3){u:Value}(V U:VV)(h:Xh w v V)(j:Xh w u U)(A:WG 1000 V)(o:WG 1000 U):CP 35 #[E op,v,u] w λe x=>∃v',e=.returned v'/\Hid (Xh x v'<|QK op V U)/\BW w x:=by
 cases V with
 |inl m=>
  obtain⟨⟨fa,fc,rfl,D⟩,p⟩:=h;cases U with
  |inl n=>
   obtain⟨⟨ga,gc,rfl,B⟩,q⟩:=j;refine(vi op d m n p q fa ga fc gc w).mono ?_;rintro e r ⟨rfl,a⟩;exact⟨_,C,I ⟨⟨none,0,C,⟨Xm _ _ _ _,Sm,Sm⟩⟩,OV _ _ _ p⟩,a⟩
  |inr l=>
   obtain⟨ea,ec,zs,rfl,s,g⟩:=j;have c:zs.length<=1000:=by have:=o.2;rw[<-g,Yz]at this;exact this
   refine(vj op d m p fa fc zs w s c).mono ?_;rintro e r ⟨v',rfl,i,a⟩;exact⟨_,C,I<|Xh.of_els i.out<|by rw[VD,<-g,VD];rfl,a⟩
 |inr k=>
  obtain⟨da,dc,xs,rfl,z,t⟩:=h;have f:xs.length<=1000:=by have:=A.2;rw[<-t,Yz]at this;exact this
  cases U with
  |inl n=>
   obtain⟨⟨ga,gc,rfl,B⟩,q⟩:=j;refine(vk op d n q ga gc xs w z f).mono ?_;rintro e r ⟨v',rfl,i,a⟩;exact⟨_,C,I<|Xh.of_els i.out<|by rw[VD,<-t,VD];rfl,a⟩
  |inr l=>
   obtain⟨ea,ec,zs,rfl,s,g⟩:=j;have c:zs.length<=1000:=by have:=o.2;rw[<-g,Yz]at this;exact this
   refine(vm op d xs zs w z s f c).mono ?_;rintro e r ⟨v',rfl,i,a⟩;exact⟨_,C,I<|Xh.of_els i.out<|by rw[oX,t,g],a⟩
open Go.Proofs.Tryz
open Go.RowKit Go.Maps Go.WideMaps LS
def SU(l:LB):LB:=match cut 125 l with|some p=>p.1|none=>l
def Uj:Nat->List (LB)->List (LB)->Option Nat
 |_,_,[]=>none
 |i,seen,x::xs=>if x=[]then Uj (i+1) seen xs else if seen.contains (SU x)then some i else Uj (i+1) (seen++[SU x]) xs
theorem yU(a:i<ps.length)(h:ps.getD i []=[]):Uj i seen (ps.drop i)=Uj (i+1) seen (ps.drop<|i+1):=by
 have e:ps.getD i []=ps[i]:=by simp[a]
 rw[List.drop_eq_getElem_cons a,Uj,<-e,Ye h]
theorem yW(a:i<ps.length)(h:ps.getD i []≠[])(c:seen.contains (SU<|ps.getD i [])=true):Uj i seen (ps.drop i)=some i:=by
 have e:ps.getD i []=ps[i]:=by simp[a]
 rw[List.drop_eq_getElem_cons a,Uj,<-e,Yd h,Ye c]
theorem yX(a:i<ps.length)(h:ps.getD i []≠[])(c:seen.contains (SU<|ps.getD i [])=false):Uj i seen (ps.drop i)=Uj (i+1) (seen++[SU<|ps.getD i []]) (ps.drop<|i+1):=by
 have e:ps.getD i []=ps[i]:=by simp[a]
 rw[List.drop_eq_getElem_cons a,Uj,<-e,Yd h,Yd<|c▸Bool.false_ne_true]
theorem yV(a:¬i<ps.length):Uj i seen (ps.drop i)=none:=by
 rw[Ts X];rfl
theorem NN:Keyed prog 9:=string_keyed underlying9
theorem zM:(zeroValue 207).run prog w=.ok (.agg #[]) w:=Kr
def Sd(seen:List<|LB):DataW Unit:=setOf (.agg [])<|seen.map Lit.string
theorem vO(seen:List<|LB)(x:LB):Sd (seen++[x])=(Sd seen).put (.string x) (.agg []):=by
 unfold Sd;rw[Y9,Wb,N7,setOf_snoc]
theorem pX:∀x∈seen.map Lit.string,WideAt.IsKeyLit x:=by
 intro x a;obtain⟨y,_,rfl⟩:=XJ.1 a;trivial
theorem rN(seen:List<|LB)(x:LB):Maps.has (Sd seen) (.string x)=seen.contains x:=by
 unfold Sd;rw[has_setOf _ _ _<|pX];induction seen with
 |nil=>rfl
 |cons a l ih=>
  rw[Wb,Ik,ih,List.contains_cons];congr 1;show(a==x)=(x==a);exact BEq.comm
theorem uI{s:BA}(m:Int)(h:s.size<=6000)(i:w.cell? ⟨14,0,none⟩=some (E m)):
 CP 90 #[.string s,.string ⟨#[125]⟩] w λe u=>∃(a b:BA)(f:Bool),e=.returned (.tuple #[.string a,.string b,.bool f])/\Hid (bl a=SU (bl s))/\a.size<=6000/\∃n,u=w.drewN n:=by
 cases d:cut 125 (bl s)with
 |none=>
  refine(Mm m w h i d).mono ?_;rintro e u ⟨a,b,rfl,c,g⟩;exact⟨a,b,_,rfl,I<|by unfold SU;rw[d];exact c.1,by rwa [ZE c.1,Zb],g⟩
 |some p=>
  obtain⟨x,y⟩:=p;refine(Pg m w h i d).mono ?_;rintro e u ⟨a,b,rfl,c,g⟩;refine⟨a,b,_,rfl,I<|by unfold SU;rw[d];exact c.1,?_,g⟩;have:(bl s).length=x.length+(y.length+1):=by rw[(Rm d).1];simp
  rw[ZE c.1];rw[Zb]at this;omega
theorem mc{g:Nat}(n:Nat)(A:Nat->Addr)(m:Int)(O:Hid<|n=ps.length)(a0:n<=6001)(P:Hid<|∀i,i<ps.length->(ps.getD i []).length<=6000)(v:Nk w g ps)(V:YC w A m):
 CP 43 #[.slice (some ⟨g,0,none⟩) n n] w λe u=>BW w u/\
  ((∃(i:Nat)(fa:Nat),e=.returned (.iface 92<|Vp fa)/\u.heap[fa]?=some (.cells #[.string ⟨#[108,105,110,101]⟩,E i,.iface 469<|.pointer<|some<|A 5] 96 (0,0))/\Hid (Uj 0 [] ps=some i))∨
   (e=.returned .nilIface/\Hid (Uj 0 [] ps=none))):=by
 have a1:=@run_makeMap prog;have Q:=v.1;go_enter func43,ntmps43;go_wp2;go_loopw [14] (λi wr=>∃(k:Nat)(seen:List<|LB),k<=n/\i=E k/\wr.ownsMap prog 9 unitElem w.heap.size k (Sd seen)/\Hid (Uj 0 [] ps=Uj k seen (ps.drop k))/\BW w wr/\w.heap.size+1<=wr.heap.size)
  (λi _=>n-(intOf i).toNat);case atStart=>exact⟨0,[],Yr _,rfl,World.ownsMap_made _ _ _ _,rfl,Yc,Sm⟩
 case round=>
  obtain⟨k,seen,hk,rfl,x,F,d,R⟩:=hrel;have h:=V.below d;by_cases S:k<n
  .have l:k<ps.length:=by rwa [<-O.out]
   obtain⟨sk,a2,B⟩:=(v.below d Q).2 k l;have M:sk.size<=6000:=ZE B▸P.out k l;have G:=I B;clear B;cases T:sk.toList.isEmpty
   .have K:Hid<|ps.getD k _≠[]:=G.out▸OH T;have L:=h.max;go_wp2_with fail;refine(uI m M L).mono ?_;rintro e z ⟨a,b,f,rfl,U,a3,j,rfl⟩;have W:∀o,((wr.alloc o).drewN j).cell? ⟨5,0,none⟩=some _:=λo=>(h.alloc o).sent _ N;have Y:∀o,(wr.alloc o).cell? ⟨5,0,none⟩=some _:=λo=>(h.alloc o).sent _ N;have Z:∀o,((wr.drewN j).alloc o).cell? ⟨5,0,none⟩=some _:=λo=>((h.drewN j).alloc o).sent _ N;have r:keyOf _ 9 (.string a)=some _:=keyOf_string_mk underlying9<|by unfold maxLen;omega
    have D:Maps.has (Sd seen) (.string a.data.toList)=seen.contains (SU<|ps.getD k []):=by
     rw[rN];show seen.contains (bl a)=_;rw[U,G]
    have c:(wr.drewN j).ownsMap _ 9 _ _ k _:=x;clear L h;cases t:seen.contains<|SU<|ps.getD k []
    .have s:Hid<|Uj 0 _ _=Uj _ _ _:=F.out▸yX l K.out t;rw[t]at D;clear t;go_wp2_with(first
     |(at_lookup;refine wpList_lookup_own_unit _ rfl _ _ 204 rfl 9 207 NN underlying204 (zM) w.heap.size k _ rfl c _ _ rfl r ?_)
     |(at_mapUpdate;refine wpList_mapUpdate_own _ rfl _ _ _ 204 rfl 9 207 NN underlying204 (unitElem (H:=Unit)) w.heap.size k _ rfl (c.alloc _) (by unfold maxLen;omega) _ _ _ rfl rfl r _ [] unitElem_mk ?_;intro w1 J p));have s1:=p.size;simp at s1;go_roundw;case rel=>
      refine⟨k+1,_,X,by go_num,?_,s,?_,X⟩
      .rw[vO,<-G,<-U];exact J
      .exact((Wn d j).alloc (by simp;omega) _).grown p (by simp;omega) λq hq=>by cases hq;exact Yj _
     case measure=>simp[intOf];omega
    .have s:Hid _:=F.out▸yW l K.out t;rw[t]at D;clear t;go_wp2_with(first
     |(at_lookup;refine wpList_lookup_own_unit _ rfl _ _ 204 rfl 9 207 NN underlying204 (zM) w.heap.size k _ rfl c _ _ rfl r ?_)
     |(go_at_call 89;refine(EE).mono ?_;rintro e u ⟨rfl,rfl⟩));go_ret;refine⟨Yh,.inl ⟨k,wr.heap.size+1,rfl,?_,s⟩⟩;rw[show wr.heap.size+1=(wr.alloc<|.cells #[] 207).heap.size by simp];exact J7
   .have s:Hid _:=F.out▸yU l (by rw[<-G.out];exact Pn T);go_wp2;go_roundw;case rel=>exact⟨k+1,seen,X,by go_num,x.mono<|KE _,s,d,R⟩
    case measure=>simp[intOf];omega
  .have s:Hid<|Uj 0 [] ps=none:=F.out▸yV (by rw[<-O.out];exact S);go_wp2;go_ret;exact⟨d,.inr ⟨rfl,s⟩⟩
def ZG(l:LB):Nat×Nat:=
 if 6000<l.length then(1,0)else match ZT 0 [] (split 10 l)with
  |.inl i=>(5,i)
  |.inr es=>match Uj 0 []<|split 10 l with
   |some i=>(6,i)
   |none=>if 30<es.length∨200<Vz es es.length then(7,0)else(0,0)
def Pa(w:World)(A:Nat->Addr)(err:Value)(r:Nat×Nat):Prop:=
 (err=.nilIface/\r=(0,0))∨
 (err=.iface 469 (.pointer<|some<|A 0)/\r=(1,0))∨
 (err=.iface 469 (.pointer<|some<|A 6)/\r=(7,0))∨
 (∃i fa:Nat,err=.iface 92 (Vp fa)/\r=(5,i)/\w.cell? ⟨fa,1,none⟩=some (E i)/\w.cell? ⟨fa,2,none⟩=some (.iface 469<|.pointer<|some<|A 4))∨
 (∃i fa:Nat,err=.iface 92 (Vp fa)/\r=(6,i)/\w.cell? ⟨fa,1,none⟩=some (E i)/\w.cell? ⟨fa,2,none⟩=some (.iface 469<|.pointer<|some<|A 5))
theorem Gx{fa:Nat}{x y z:Value}{t:TypeId}(h:w.heap[fa]?=some (.cells #[x,y,z] t (0,0))):w.cell? ⟨fa,1,none⟩=some y/\w.cell? ⟨fa,2,none⟩=some z:=by
 simp[World.cell?,h]
theorem gV{last:Int}(h:Vk last n ps=some k):k<=n+ps.length:=by
 induction ps generalizing last n with
 |nil=>simp[Vk]at h;omega
 |cons x xs ih=>
  unfold Vk at h;cases a:Tw x with
  |none=>rw[a]at h;cases h
  |some t=>
   rw[a]at h;simp only at h;split at h
   .cases h
   .have:=ih h;simp;omega
theorem iL(h:VI l=some n):n<=l.length+1:=by
 unfold VI at h;have a:=GN 32 l;generalize Z6 32 l=st at h a;obtain⟨r,f⟩:=st;simp only at h a;split at h
 .have:=Uc h;omega
 .split at h
  .have c:=gV h;have d:=Qf 32 r;omega
  .cases h
theorem Bh{a b:LB}(h:Y3 l=some (a,b,n)):n<=l.length+1:=by
 cases d:cut 123 l with
 |none=>rw[Lz d]at h;cases h
 |some p=>
  obtain⟨x,r⟩:=p;cases c:cut 125 r with
  |none=>rw[Mq d c]at h;cases h
  |some q=>
   obtain⟨y,z⟩:=q;rw[Mr d c]at h;have f:z.length<=l.length:=by
    rw[(Rm d).1,(Rm c).1];simp;omega
   split at h
   .cases e:VI z with
    |none=>rw[e]at h;cases h
    |some k=>
     rw[e]at h;simp at h;have:=iL e;omega
   .cases h
theorem Fp{acc es:List Yn}(h:ZT i acc ps=.inr es)(f:∀e∈acc,e.count<=6001)(g:∀p∈ps,p.length<=6000):
 es.length<=acc.length+ps.length/\∀e∈es,e.count<=6001:=by
 induction ps generalizing i acc with
 |nil=>
  simp only[ZT,Sum.inr.injEq]at h;subst h;exact⟨Sm,f⟩
 |cons x xs ih=>
  unfold ZT at h;split at h
  .have:=ih h f λp d=>g p (by simp[d]);exact⟨by simp;omega,this.2⟩
  .cases j:Y3 x with
   |none=>rw[j]at h;cases h
   |some t=>
    obtain⟨a,b,n⟩:=t;rw[j]at h;simp only at h;have k:=g x Sm;have l:=Bh j;have:=ih h (λe c=>by
     rcases Wk.1 c with c|c
     .exact f e c
     .simp at c;subst c;show n<=6001;omega) λp d=>g p<|by simp[d]
    exact⟨by have:=this.1;simp at this⊢;omega,this.2⟩
theorem gD(s:BA)(A:Nat->Addr)(m:Int)(w:World)(c:YC w A m)(d:6000<s.size)(a:s.size<=maxLen):
 CP 23 #[.string s] w λe u=>∃sv err,e=.returned (.tuple #[sv,err])/\Hid (Pa u A err (1,0))/\BW w u:=by
 unfold maxLen at a;have f:=c.sent 0 N;go_enter func23,ntmps23;go_wp2;go_region;all_goals(try go_wp2)
 all_goals(go_ret2;exact⟨_,_,C,.inr<|.inl ⟨C,C⟩,Yh⟩)
def NK(w:World)(v:Value)(l:LB):Prop:=∃(es:List Yn)(rs:List<|Value×Value×Value×Value),ZT 0 [] (split 10 l)=.inr es/\es.length<=30/\w.ownsRow 0 201 4 v es.length (Uh rs)/\WQ w rs es (split 10 l)
theorem NK.below(h:NK w v l)(a:BW w w'):NK w' v l:=by
 obtain⟨es,rs,c,d,e,f⟩:=h;exact⟨es,rs,c,d,Ze e a,f.below a⟩
theorem gE(s:BA)(A:Nat->Addr)(m:Int)(w:World)(V:YC w A m)(hs:s.size<=6000):
 CP 23 #[.string s] w λe u=>∃sv err,e=.returned (.tuple #[sv,err])/\Hid (Pa u A err<|ZG<|bl s)/\BW w u/\Hid ((ZG<|bl s).1=0->NK u sv (bl s)):=by
 have q:Hid<|∀x,(match ZT 0 []<|split 10 (bl s)with
  |.inl i=>(5,i)
  |.inr es=>match Uj 0 []<|split 10<|bl s with
   |some i=>(6,i)
   |none=>if 30<es.length∨200<Vz es es.length then(7,0)else(0,0))=x->ZG (bl s)=x:=by
  intro x hx;unfold ZG;rw[Yd<|by rw[Zb];omega];exact hx
 have W:(split 10<|bl s).length<=6001:=by have:=Qf 10<|bl s;rw[Zb]at this;omega
 have K:Hid<|∀i,i<(split 10<|bl s).length->((split 10<|bl s).getD i []).length<=6000:=λi hi=>by
  have:=OU 10 (bl s) i hi;rw[Zb]at this;omega
 go_enter func23,ntmps23;go_wp2_with fail;refine(Fc s m hs V.max).mono ?_;rintro e w1 ⟨n,rfl,Y,f,r⟩;have Q:=I Y;have L:n<=6001:=X;have Z:=f.1;clear Y W;have M:=V.below r;go_wp2_with fail;refine(kX n A m Q L K f M).mono ?_;rintro e z ⟨t,G⟩;have O:=M.below t;have B:=r.trans<|t.mono r.size;rcases G with⟨i,fa,rfl,d,c⟩|⟨v,es,rs,rfl,g,c,a0⟩
 .obtain⟨c1,c2⟩:=Gx d;have R:=I<|q (5,i)<|by rw[c]
  have a:Hid<|Pa z A (.iface 92<|Vp fa)<|ZG<|bl s:=q.out (5,i) (by rw[c.out])▸Or.inr (Or.inr<|Or.inr<|Or.inl ⟨i,fa,C,C,c1,c2⟩);clear c1 c2 d;go_wp2;go_ret2;exact⟨_,_,C,a,B,I λh=>by rw[R]at h;cases h⟩
 .have j:=Fp c.2 (λe he=>by simp at he) λp hp=>by
    have:=JN _ _ p hp;rw[Zb]at this;omega
  have H:=f.below t Z;go_wp2_with fail;refine(mc n A m Q L K H O).mono ?_;rintro e w3 ⟨k,D⟩;have P:=O.below k;have F:=B.trans<|k.mono B.size;rcases D with⟨i,fa,rfl,d,J⟩|⟨rfl,J⟩
  .obtain⟨c1,c2⟩:=Gx d;have R:=I<|q (6,i)<|by rw[c.2];simp only[J.out]
   have a:Hid<|Pa w3 A (.iface 92<|Vp fa)<|ZG<|bl s:=q.out (6,i) (by rw[c.2];simp only[J.out])▸Or.inr (Or.inr<|Or.inr<|Or.inr ⟨i,fa,C,C,c1,c2⟩);clear c1 c2 d;go_wp2;go_ret2;exact⟨_,_,C,a,F,I λh=>by rw[R]at h;cases h⟩
  .have l:=Ze g k;have a1:es.length<=6001:=by have:=j.1;simp at this;have:=Q.out;omega
   have HC:=I<|j.2;have a6:=zk _ j.2 es.length;have S:Hid<|ZG _=if 30<es.length∨200<Vz es es.length then(7,0)else(0,0):=q _<|by rw[c.2];simp only[J.out]
   have hR:=I<|c.1;have a7:=P.sent 6 N;obtain⟨av,cp,rfl⟩:=Zd g;have a2:=I<|c.2;have T:=I<|a0.below k;clear j g c;by_cases a3:30<es.length
   .have hd:decide (30<(es.length:Int))=true:=by simp;omega
    have a:Hid<|ZG _=(7,0):=I<|by rw[S,Ye<|.inl a3]
    go_wp2;go_region;all_goals(try go_wp2)
    all_goals(go_ret2;exact⟨_,_,C,(a.out▸Or.inr (Or.inr<|Or.inl ⟨C,C⟩)),Yh,I λh=>by rw[a]at h;cases h⟩)
   .have hd:decide (30<(es.length:Int))=false:=by simp;omega
    go_wp2_with fail;refine(uG l hR HC a1).mono ?_;rintro e w4 ⟨rfl,o⟩;have a4:=F.trans<|o.mono F.size;have a8:=(P.below o).sent 6 N;by_cases U:200<Vz es es.length
    .have a:Hid<|ZG _=(7,0):=I<|by rw[S,Ye<|.inr U]
     have a5:decide (200<(Vz es es.length:Int))=true:=by simp;omega
     go_wp2;go_region;all_goals(try go_wp2)
     all_goals(go_ret2;exact⟨_,_,C,(a.out▸Or.inr (Or.inr<|Or.inl ⟨C,C⟩)),Yh,I λh=>by rw[a]at h;cases h⟩)
    .have a:Hid<|ZG _=(0,0):=I<|by rw[S,Yd<|by rintro(h|h)<;>omega]
     have a5:decide (200<(Vz es es.length:Int))=false:=by simp;omega
     go_wp2;go_ret2;exact⟨_,_,C,(a.out▸Or.inl ⟨C,C⟩),a4,I λ_=>⟨es,rs,a2,X,Ze l o,T.below o⟩⟩
