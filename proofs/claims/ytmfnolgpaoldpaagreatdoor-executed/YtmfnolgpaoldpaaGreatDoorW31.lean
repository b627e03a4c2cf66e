/- Parts. -/
import Derived.Test.YtmfnolgpaoldpaaGreatDoorW30
set_option linter.all false
set_option maxRecDepth 100000
set_option maxHeartbeats 16000000
namespace Go.Proofs.YtmfnolgpaoldpaaGreatDoor
open Go.RowKit LS Go.Proofs.Tryz
variable {ns:List BA}{c xs:List Value}{qs:List<|BA×BA}{l zs zs':List<|Value×El}{a:Nat}{p:PV}{v vv:Value}{w w' wr:World}
theorem FR(l:List Xc):∀k,k<=l.length->RH l k=Yy (l.take k)
 |0,_=>C
 |k+1,h=>by
  have a:k<l.length:=h;rw[RH,FR l k X];unfold Yy;rw[List.take_succ_eq_append_getElem a,Y9,PE,GA];have c:l.getD k ([],[])=l[k]:=by rw[Y0,List.getElem?_eq_getElem a];rfl
  rw[c];by_cases d:0<k
  · rw[Ye d,Yd]
    .simp[XY]
    .rw[Kq];intro e;have:=congrArg List.length e;rw[Yz,Xw,TP]at this;omega
  .obtain rfl:k=0:=X;rfl
theorem Nj(l:List Xc)(qs:List<|BA×BA)(h:YX w v l qs):
 CP 32 #[v] w λe u=>∃r:BA,e=.returned (.string r)/\Hid (bl r=Yy l)/\∃n,u=w.drewN n:=by
 refine(Bw v 0 w h.own h.len<|I h.ok).mono ?_;rintro e u ⟨r,rfl,a,n,rfl⟩;refine⟨r,C,I ?_,n,C⟩;rw[a,h.say,FR l _<|by rw[<-h.say,Yz];exact Yj _,<-h.say,Wm<|by rw[Yz];exact Yj _]
def UR:List (Value×El)->List Value
 |[]=>[]
 |z::l=>z.1::.int .i64 z.2.2::UR l
theorem PX(l m:List<|Value×El):UR (l++m)=UR l++UR m:=by
 induction l with
 |nil=>rfl
 |cons a l ih=>simp[UR,ih]
theorem Tf (l:List<|Value×El)(j:Nat):(UR l)[j*2]?=l[j]?.map (λz=>z.1)/\(UR l)[j*2+1]?=l[j]?.map λz=>E z.2.2:=by
 induction l generalizing j with
 |nil=>simp[UR]
 |cons r l ih=>
  cases j with
  |zero=>simp[UR]
  |succ j=>
   obtain⟨a,c⟩:=ih j;refine⟨?_,?_⟩
   .rw[show(j+1)*2=j*2+1+1 by omega];simpa [UR]using a
   .rw[show(j+1)*2+1=j*2+1+1+1 by omega];simpa [UR]using c
def V3(w:World)(z:Value×El):Prop:=(∃qs,YX w z.1 z.2.1 qs)/\YD z.2.2
theorem V3.below{z:Value×El}(h:V3 w z)(a:BW w w'):V3 w' z:=⟨h.1.elim λqs c=>⟨qs,c.below a⟩,h.2⟩
structure YM (w:World)(v:Value)(zs:List<|Value×El):Prop where
 own:w.ownsRow 0 118 2 v zs.length<|UR zs
 len:zs.length<=1000000
 ok:∀z∈zs,V3 w z
theorem YM.below(h:YM w v zs)(a:BW w w'):YM w' v zs:=⟨Ze h.own a,h.len,λz c=>(h.ok z c).below a⟩
def VG:List (Value×El)->Value×El->List (Value×El)
 |[],x=>[x]
 |y::l,x=>if Op.bytesLess (Yy x.2.1)<|Yy y.2.1then x::y::l else y::VG l x
theorem Ad(l:List<|Value×El)(x:Value×El):(VG l x).map (·.2)=V8 (l.map (·.2)) x.2:=by
 induction l with
 |nil=>rfl
 |cons y l ih=>
  rw[VG,Wb,V8];by_cases h:Op.bytesLess (Yy x.2.1) (Yy y.2.1)=true
  .rw[Ye h,Ye h];rfl
  .rw[Yd h,Yd h,Wb,ih]
theorem Ae(l:List<|Value×El)(x z:Value×El)(h:z∈VG l x):z=x∨z∈l:=by
 induction l with
 |nil=>rw[VG,Vs]at h;exact .inl h
 |cons y l ih=>
  rw[VG]at h;by_cases a:Op.bytesLess (Yy x.2.1) (Yy y.2.1)=true
  .rw[Ye a,X0]at h;exact h
  .rw[Yd a,X0]at h;rcases h with h|h
   .exact .inr<|h▸Re ..
   .rcases ih h with h|h
    .exact .inl h
    .exact .inr<|Vf _ h
theorem LI(l:List<|Value×El)(x:Value×El):(VG l x).length=l.length+1:=by
 induction l with
 |nil=>rfl
 |cons y l ih=>
  rw[VG];split
  .simp
  .simp[ih]
theorem Ya.ownGrownLt{t:TypeId}(h:Ya w a c t){base:Nat}{e:TypeId}{sz:Nat}{n:Nat}(d:w.ownsRow base e sz v n xs)(f:w.grownBy w' v.ownBlock)(g:a<base):Ya w' a c t:=
 (f.block a h.lt λe=>by have:=(d.lt a e.symm).1;omega).trans h
theorem jQ(x:Value×El)(k:Nat)(h:k<l.length)(a:Op.bytesLess (Yy x.2.1) (Yy l[k].2.1)=true):VG (l.drop k) x=x::l[k]::l.drop (k+1):=by
 rw[List.drop_eq_getElem_cons h,VG,Ye a]
theorem jR(x:Value×El)(k:Nat)(h:k<l.length)(a:¬Op.bytesLess (Yy x.2.1) (Yy l[k].2.1)=true):VG (l.drop k) x=l[k]::VG (l.drop<|k+1) x:=by
 rw[List.drop_eq_getElem_cons h,VG,Yd a]
theorem Tryz.infoREl:(Tryz.prog.info? 118).map (λi=>(i.zero,i.size,i.bytes))=some (some<|.agg #[S0,E 0],2,32):=Kr
theorem GX(zs:List<|Value×El)(x:Value×El)(w:World)(h:YM w v zs)(hx:V3 w x)(c7:zs.length<=1000):
 CP 76 #[v,.agg #[x.1,E x.2.2]] w λe w'=>∃rv:Value,e=.returned rv/\Hid (YM w' rv<|VG zs x)/\BW w w':=by
 obtain⟨sa,sc,rfl⟩:=Zd h.own;obtain⟨xv,xl,xn⟩:=x;obtain⟨⟨qs,M⟩,S⟩:=hx;simp only at M S;obtain⟨la,lc,rfl⟩:=Zd M.own;have T:=I h;have HX:=I M;obtain⟨i0,U,D,F,G⟩:=Xv Tryz.infoREl;clear h M;go_enter func76,ntmps76;go_wp2_with fail;refine(Nj _ _<|HX.below Yc).mono ?_;rintro e w1 ⟨tx,rfl,a7,n1,V⟩;have a1:Hid _:=V▸Wn Yc _;have Y:Hid<|Ya w1 w.heap.size [.slice la qs.length lc,E xn] 118:=V▸Go.Deep.blk_alloc_new _ _;clear V;go_wp2;go_loopg [5,6,8] zs.length (λgk v5 v6 v8 wr=>∃(k:Nat)(os:List<|Value×El)(dn:Bool),k<=zs.length/\gk=zs.length-k/\v8=E k/\v6=.bool dn/\os.length=k+dn.toNat/\Hid (wr.ownsRow (w.heap.size+1) 118 2 v5 os.length<|UR os)/\Hid (VG zs (.slice la qs.length lc,xl,xn)=os++(if dn then zs.drop k else VG (zs.drop k) (.slice la qs.length lc,xl,xn)))/\Hid (BW w wr)/\Hid (Ya wr w.heap.size [.slice la qs.length lc,E xn] 118));case atStart=>exact⟨0,[],false,Yr _,C,C,C,C,Xm _ _ _ _,C,a1,Y⟩
 case round=>
  obtain⟨k,os,dn,hk,d1,rfl,rfl,Z,Q,R,t,H⟩:=hrel;clear a1 Y;have c8:os.length<=1001:=by rw[Z];cases dn<;>simp<;>omega
  have L:=I Z;clear Z;have b0:=H.cell 0;have b1:=H.cell 1;simp only[Yf]at b0 b1;obtain⟨av,cp,hv⟩:=Zd Q.out;subst hv;have d2:=H.lt;by_cases l:k<zs.length
  .obtain⟨g,cpx,hg⟩:=Zm T.own X;injection hg with hg1 _ hg2;subst hg1 hg2;have r:=I<|T.below t;have r0:=Zc r.own _ _<|by rw[(Tf _ k).1,List.getElem?_eq_getElem l];rfl
   have r1:=Zc r.own _ _<|by rw[(Tf _ k).2,List.getElem?_eq_getElem l];rfl
   have a2:Hid<|∀W:World,W.ownsRow 0 118 2 (.slice _ _ sc) zs.length _->W.cell? ⟨g,k*2,none⟩=some (zs[k]).1/\W.cell? _=some (.int _ _):=I λW h=>⟨Zc h _ _<|by rw[(Tf _ k).1,List.getElem?_eq_getElem l];rfl,Zc h _ _<|by rw[(Tf _ k).2,List.getElem?_eq_getElem l];rfl⟩;have a3:=ZN r.own;have a8:=r.ok _<|List.getElem_mem l;have a9:=I<|List.drop_eq_getElem_cons l;have b2:=I λh=>jQ (.slice la qs.length lc,xl,xn) k l h;have b3:=I λh=>jR (.slice la qs.length lc,xl,xn) k l h;generalize zs[k]=z at*;obtain⟨zv,zl,zn⟩:=z;obtain⟨⟨qz,O⟩,b4⟩:=a8;simp only at r0 r1 O b4;obtain⟨lz,cz,rfl⟩:=Zd O.own;have b5:=I O;clear O;simp only at a2;go_wp2_with fail;refine(Nj _ _<|b5.out).mono ?_;rintro e w2 ⟨tz,rfl,b6,n2,a4⟩;have m:Below wr.heap.size _ _:=a4▸Wn (Ym _ _) _;have s:=I<|t.trans<|m.mono t.size;have o:=I<|H.below m;have f:=I<|Ze Q m;have c9:=I<|r.below m;have d0:=m.size;have r02:=(m.cell a3).trans r0;have r12:=(m.cell a3).trans r1;clear a4 m r0 r1 b0 b1 H Q t r;have b0:=o.cell 0;have b1:=o.cell 1;simp only[Yf]at b0 b1;have a5:Hid<|Op.bytesLess tx.toList tz.toList=Op.bytesLess _ _:=I<|by rw[ZA,ZA,a7,b6]
   cases dn with
   |true=>
    have J:Hid<|(os++[((.slice lz qz.length cz,zl,zn):Value×El)]).length=k+1+true.toNat:=I<|by rw[Yv,L];simp;try omega
    have K:Hid<|VG zs (.slice la qs.length lc,xl,xn)=(os++[(.slice lz qz.length cz,zl,zn)])++zs.drop (k+1):=by
     rw[R,Ye C,a9,WV];rfl
    go_wp2_with(at_builtin;refine XC _ C (.tmp 36) (.tmp 41) 53 C (w.heap.size+1) 118 i0 (.agg #[S0,E 0]) 2 32 underlying53 U D F G C N _ _ _ C (f.alloc _) ⟨w2.heap.size,0,none⟩ 1 1 [.slice lz qz.length cz,E zn] C C (Z1 C) ?c2 ?c3 ?c4 ?c5 ?_);case c2=>intro u i;simp at i;rcases i with rfl|rfl<;>rfl
    case c3=>unfold maxLen;first|omega|(simp;omega)
    case c4=>first|omega|(simp;omega)
    case c5=>first|omega|(simp;omega)
    intro v' A c a _;have d:=I<|QL (s.alloc s.size _) a λq B=>by have:=(f.lt q B).1;omega
    have j:=I<|Ya.ownGrownLt (o.below Yc) (f.alloc _) a X;have n:Hid<|A.ownsRow (w.heap.size+1) 118 2 v' (os++[((.slice lz qz.length cz,zl,zn):Value×El)]).length<|UR<|os++[(.slice lz qz.length cz,zl,zn)]:=by rwa [PX,Yv]
    clear c a;go_wp2;go_roundg (zs.length-(k+1));case measure=>omega
    case rel=>exact⟨k+1,_,true,X,C,by go_num,C,J,n,K,d,j⟩
   |false=>
    by_cases P:Op.bytesLess (Yy xl) (Yy zl)=true
    .have K:Hid<|VG zs (.slice la qs.length lc,xl,xn)=(os++[(.slice la qs.length lc,xl,xn)]++[(.slice lz qz.length cz,zl,zn)])++zs.drop (k+1):=I<|by
      rw[R,Yd N,b2 P,WV,WV];rfl
     have b7:Op.bytesLess tx.toList tz.toList=true:=by rw[a5,P]
     have J:Hid<|(os++[((.slice la qs.length lc,xl,xn):Value×El)]++[((.slice lz qz.length cz,zl,zn):Value×El)]).length=k+1+true.toNat:=I<|by rw[Yv,Yv,L];simp;try omega
     go_wp2_with(at_builtin;refine XC _ C (.tmp 32) (.tmp 34) 53 C (w.heap.size+1) 118 i0 (.agg #[S0,E 0]) 2 32 underlying53 U D F G C N _ _ _ C (f.alloc _) ⟨w2.heap.size,0,none⟩ 1 1 [.slice la qs.length lc,E xn] C C (Z1 C) ?c2 ?c3 ?c4 ?c5 ?_);case c2=>intro u i;simp at i;rcases i with rfl|rfl<;>rfl
     case c3=>unfold maxLen;first|omega|(simp;omega)
     case c4=>first|omega|(simp;omega)
     case c5=>first|omega|(simp;omega)
     intro v' A c a _;have d:=I<|QL (s.alloc s.size _) a λq B=>by have:=(f.lt q B).1;omega
     have j:=I<|Ya.ownGrownLt (o.below Yc) (f.alloc _) a X;have n:Hid<|A.ownsRow (w.heap.size+1) 118 2 v' (os++[((.slice la qs.length lc,xl,xn):Value×El)]).length<|UR<|os++[(.slice la qs.length lc,xl,xn)]:=by rwa [PX,Yv]
     have b8:=I<|T.below d;obtain⟨e0,e1⟩:=a2.out A b8.own;obtain⟨av6,cp6,b9⟩:=Zd n;subst b9;have d3:=j.lt;have d4:(os++[((.slice la qs.length lc,xl,xn):Value×El)]).length<=1002:=by simp;omega
     clear c a r02 r12 b0 b1;generalize d5:os++[((.slice la qs.length lc,xl,xn):Value×El)]=os6 at*;go_wp2_with(at_builtin;refine XC _ C (.tmp 36) (.tmp 41) 53 C (w.heap.size+1) 118 i0 (.agg #[S0,E 0]) 2 32 underlying53 U D F G C N _ _ _ C (n.alloc _) ⟨A.heap.size,0,none⟩ 1 1 [.slice lz qz.length cz,E zn] C C (Z1 C) ?c2 ?c3 ?c4 ?c5 ?_);case c2=>intro u i;simp at i;rcases i with rfl|rfl<;>rfl
     case c3=>unfold maxLen;first|omega|(simp;omega)
     case c4=>first|omega|(simp;omega)
     case c5=>first|omega|(simp;omega)
     intro v' w7 a0 p _;have c0:=I<|QL (d.alloc d.size _) p λq B=>by have:=(n.lt q B).1;omega
     have a6:=I<|Ya.ownGrownLt (j.below Yc) (n.alloc _) p X;have c1:Hid<|w7.ownsRow (w.heap.size+1) 118 2 v' (os6++[((.slice lz qz.length cz,zl,zn):Value×El)]).length<|UR<|os6++[(.slice lz qz.length cz,zl,zn)]:=by rwa [PX,Yv]
     clear a0 p;go_wp2;go_roundg (zs.length-(k+1));case measure=>omega
     case rel=>exact⟨k+1,_,true,X,C,by go_num,C,J,c1,K,c0,a6⟩
    .have K:Hid<|VG zs (.slice la qs.length lc,xl,xn)=(os++[(.slice lz qz.length cz,zl,zn)])++VG (zs.drop<|k+1) (.slice la qs.length lc,xl,xn):=by
      rw[R,Yd N,b3 P,WV];rfl
     have J:Hid<|(os++[((.slice lz qz.length cz,zl,zn):Value×El)]).length=k+1+false.toNat:=I<|by rw[Yv,L];simp;try omega
     have b7:Op.bytesLess tx.toList tz.toList=false:=by rw[a5];simpa using P
     go_wp2_with(at_builtin;refine XC _ C (.tmp 36) (.tmp 41) 53 C (w.heap.size+1) 118 i0 (.agg #[S0,E 0]) 2 32 underlying53 U D F G C N _ _ _ C (f.alloc _) ⟨w2.heap.size,0,none⟩ 1 1 [.slice lz qz.length cz,E zn] C C (Z1 C) ?c2 ?c3 ?c4 ?c5 ?_);case c2=>intro u i;simp at i;rcases i with rfl|rfl<;>rfl
     case c3=>unfold maxLen;first|omega|(simp;omega)
     case c4=>first|omega|(simp;omega)
     case c5=>first|omega|(simp;omega)
     intro v' A c a _;have d:=I<|QL (s.alloc s.size _) a λq B=>by have:=(f.lt q B).1;omega
     have j:=I<|Ya.ownGrownLt (o.below Yc) (f.alloc _) a X;have n:Hid<|A.ownsRow (w.heap.size+1) 118 2 v' (os++[((.slice lz qz.length cz,zl,zn):Value×El)]).length<|UR<|os++[(.slice lz qz.length cz,zl,zn)]:=by rwa [PX,Yv]
     clear c a;go_wp2;go_roundg (zs.length-(k+1));case measure=>omega
     case rel=>exact⟨k+1,_,false,X,C,by go_num,C,J,n,K,d,j⟩
  .obtain rfl:k=zs.length:=X;rw[List.drop_length]at R;cases dn with
   |true=>
    have HF:Hid<|YM wr (.slice av os.length cp)<|VG zs (.slice la qs.length lc,xl,xn):=by
     have he:VG zs (.slice la qs.length lc,xl,xn)=os:=by rw[R,Ye C,V6]
     have c6:=LI zs (.slice la qs.length lc,xl,xn);refine⟨by rw[he];exact U6 Q,X,λz hz=>?_⟩;rcases Ae _ _ _ hz with h|h
     .rw[h];exact V3.below ⟨⟨qs,HX⟩,S⟩ t
     .exact(T.ok z h).below t
    go_wp2;go_ret;exact⟨_,C,HF,t⟩
   |false=>
    go_wp2_with(at_builtin;refine XC _ C (.tmp 45) (.tmp 47) 53 C (w.heap.size+1) 118 i0 (.agg #[S0,E 0]) 2 32 underlying53 U D F G C N _ _ _ C (Q.alloc _) ⟨wr.heap.size,0,none⟩ 1 1 [.slice la qs.length lc,E xn] C C (Z1 C) ?c2 ?c3 ?c4 ?c5 ?_);case c2=>intro u i;simp at i;rcases i with rfl|rfl<;>rfl
    case c3=>unfold maxLen;first|omega|(simp;omega)
    case c4=>first|omega|(simp;omega)
    case c5=>first|omega|(simp;omega)
    intro v' A c a _;have d:=I<|QL (t.alloc t.size _) a λq B=>by have:=(Q.lt q B).1;omega
    have HF:Hid<|YM A v'<|VG zs (.slice la qs.length lc,xl,xn):=by
     have he:VG zs (.slice la qs.length lc,xl,xn)=os++[(.slice la qs.length lc,xl,xn)]:=by rw[R,Yd N];rfl
     have c6:=LI zs (.slice la qs.length lc,xl,xn);refine⟨by rw[he,PX,Yv];exact U6 c,X,λz hz=>?_⟩;rcases Ae _ _ _ hz with h|h
     .rw[h];exact V3.below ⟨⟨qs,HX⟩,S⟩ d
     .exact(T.ok z h).below d
    clear c a;go_wp2;go_ret;exact⟨_,C,HF,d⟩
def RN(by_:List<|LB)(qs:List<|BA×BA):List<|BA×BA:=qs.filter λq=>by_.contains<|bl q.1
theorem oD(by_:List<|LB)(qs:List<|BA×BA):(RN by_ qs).map V9=Zp (qs.map V9) by_:=by
 induction qs with
 |nil=>rfl
 |cons q qs ih=>
  unfold RN Zp at*;rw[Wb,Ks,Ks];by_cases h:by_.contains (bl q.1)=true
  .rw[Ye h,Ye<|show by_.contains (V9 q).1=true from h,Wb,ih]
  .rw[Yd h,Yd<|show¬by_.contains (V9 q).1=true from h,ih]
theorem oE(by_:List<|LB)(k:Nat)(h:k<qs.length):RN by_ (qs.take<|k+1)=RN by_ (qs.take k)++(if by_.contains<|bl (qs[k]).1then[qs[k]]else[]):=by
 unfold RN;rw[List.take_succ_eq_append_getElem h,N6,Ks,Iy]
theorem nD (ns:List BA)(x:BA):(ns.map bl).contains (bl x)=ns.any λn=>n.toList==x.toList:=by
 induction ns with
 |nil=>rfl
 |cons n ns ih=>
  rw[Wb,List.contains_cons,Ik,ih,Nl];congr 1;by_cases h:bl n=bl x
  .simp[h]
  .have a:¬bl x=bl n:=λe=>h e.symm;simp[h,a]
theorem vU (x:BA)(j:Nat)(h:j<ns.length):(ns.take<|j+1).any λn=>n.toList==x.toList=((ns.take j).any (λn=>n.toList==x.toList)||(ns[j].toList==x.toList)):=by
 rw[List.take_succ_eq_append_getElem h,List.any_append];simp
structure Ul (w:World)(v:Value)(ns:List BA):Prop where
 own:w.ownsRow 0 9 1 v ns.length<|ns.map .string
 len:ns.length<=100000
theorem Ul.below(h:Ul w v ns)(a:BW w w'):Ul w' v ns:=⟨Ze h.own a,h.len⟩
theorem C4{bv:Value}{l:List Xc}(h:YX w v l qs)(o:Ul w bv ns):
 CP 78 #[v,bv] w λe H=>∃(rv:Value)(qs':List<|BA×BA),e=.returned rv/\Hid (YX H rv (Zp l<|ns.map bl) qs')/\BW w H:=by
 obtain⟨la,lc,rfl⟩:=Zd h.own;obtain⟨ba,bc,rfl⟩:=Zd o.own;have p:=I h;have T:=I o;have B:=h.len;have a0:=o.len;obtain⟨i0,U,J,K,L⟩:=Xv Tryz.infoRLabel;clear h o;go_enter func78,ntmps78;go_wp2;go_loopg [5,6] qs.length (λgk v5 v6 wr=>∃k:Nat,k<=qs.length/\gk=qs.length-k/\v6=E k/\Hid (wr.ownsRow w.heap.size 175 2 v5 (RN (ns.map bl)<|qs.take k).length<|Uu<|RN (ns.map bl)<|qs.take k)/\Hid (BW w wr));case atStart=>exact⟨0,Yr _,C,C,Xm _ _ _ _,Ym _ _⟩
 case round=>
  obtain⟨k,hk,a1,rfl,r,a⟩:=hrel;obtain⟨av,cp,V⟩:=Zd r.out;subst V;by_cases f:k<qs.length
  .obtain⟨g,cpx,W⟩:=Zm p.own X;injection W with hg1 _ hg2;subst hg1 hg2;have i:=I<|p.below a;have t:=I<|T.below a;have r0:=Zc i.own _ _<|by rw[(Ls _ k).1,List.getElem?_eq_getElem f];rfl
   have r1:=Zc i.own _ _<|by rw[(Ls _ k).2,List.getElem?_eq_getElem f];rfl
   have d:=I<|oE (ns.map bl) k f;have a2:(RN (ns.map bl)<|qs.take k).length<=6001:=by
    have:=Qq (λq:BA×BA=>(ns.map bl).contains<|bl q.1)<|qs.take k;rw[Xw]at this;unfold RN;omega
   generalize qs[k]=q at*;obtain⟨x,y⟩:=q;simp only at r0 r1;rw[nD]at d;have a3:=a.size;clear i;go_wp2;go_loopw [7,8] (λv7 v8 Y=>∃(j:Nat)(m:Bool)(nd:Nat),j<=ns.length/\v8=E j/\v7=.bool m/\Hid (m=(ns.take j).any λn=>n.toList==x.toList)/\Y=wr.drewN nd) (λ_ v8 _=>ns.length-(intOf v8).toNat);case atStart=>exact⟨0,false,0,Yr _,C,C,C,C⟩
   case round=>
    obtain⟨j,m,nd,hj,rfl,rfl,D,rfl⟩:=hrel;by_cases z:j<ns.length
    .obtain⟨gb,cpb,M⟩:=Zm t.own X;injection M with hgb1 _ hgb2;subst hgb1 hgb2;have n0:=Zc t.own j _<|by rw[Vt,List.getElem?_eq_getElem z];rfl
     have F:=I<|vU x j z;rw[<-D]at F;generalize ns[j]=n at*;cases m with
     |true=>
      go_wp2;go_quiet (fail);go_wp2;go_roundw;case rel=>exact⟨j+1,true,_,X,by go_num,C,I F.symm,C⟩
      case measure=>simp[intOf];omega
     |false=>
      go_wp2;go_quiet (fail);go_wp2;go_roundw;case rel=>exact⟨j+1,_,_,X,by go_num,C,I<|by rw[F,Ky],C⟩
      case measure=>simp[intOf];omega
    .obtain rfl:j=ns.length:=X;rw[X1]at D;rw[<-D]at d;have A:=I<|FF r nd;cases m with
     |true=>
      rw[Ye C]at d;go_wp2_with(at_builtin;refine XC _ C (.tmp 35) (.tmp 40) 102 C w.heap.size 175 i0 (.agg #[.string ByteArray.empty,.string ByteArray.empty]) 2 32 underlying102 U J K L C N _ _ _ C (A.alloc _) ⟨wr.heap.size,0,none⟩ 1 1 [.string x,.string y] C C (Z1 C) ?c2 ?c3 ?c4 ?c5 ?_);case c2=>intro u O;simp at O;rcases O with rfl|rfl<;>rfl
      case c3=>unfold maxLen;first|omega|(simp;omega)
      case c4=>first|omega|(simp;omega)
      case c5=>first|omega|(simp;omega)
      intro v' Z s c _;have P:=I<|QL ((Wn a _).alloc a.size _) c λq G=>by have:=(r.lt q G).1;omega
      have Q:Hid<|Z.ownsRow w.heap.size 175 2 v' (RN (ns.map bl)<|qs.take<|k+1).length<|Uu<|RN (ns.map bl)<|qs.take<|k+1:=by rwa [d.out,Dr,Yv]
      clear s c;go_wp2;go_roundg (qs.length-(k+1));case measure=>omega
      case rel=>exact⟨k+1,X,C,by go_num,Q,P⟩
     |false=>
      rw[Yd N,V6]at d;go_wp2;go_roundg (qs.length-(k+1));case measure=>omega
      case rel=>exact⟨k+1,X,C,by go_num,I<|d.out▸A.out,I<|Wn a _⟩
  .obtain rfl:k=qs.length:=X;have R:Hid<|YX wr (.slice av (RN (ns.map bl)<|qs.take qs.length).length cp) (Zp l<|ns.map bl)<|RN (ns.map bl) qs:=by
    have S:=U6 r;rw[X1]at S⊢;refine⟨S,by rw[oD,p.say],Xb (Qq _ _) B,λq G=>p.ok q<|(Qv.1 G).1⟩
   go_wp2;go_ret;exact⟨_,_,C,R,a⟩
abbrev SZ:=BA×Value×Value×YY
def R8:List SZ->List Value
 |[]=>[]
 |s::l=>.string s.1::s.2.1::s.2.2.1::R8 l
theorem tK (l:List SZ)(j:Nat):(R8 l)[j*3]?=l[j]?.map (λs=>.string s.1)/\(R8 l)[j*3+1]?=l[j]?.map (λs=>s.2.1)/\(R8 l)[j*3+2]?=l[j]?.map λs=>s.2.2.1:=by
 induction l generalizing j with
 |nil=>simp[R8]
 |cons r l ih=>
  cases j with
  |zero=>simp[R8]
  |succ j=>
   obtain⟨a,c,d⟩:=ih j;refine⟨?_,?_,?_⟩
   .rw[show(j+1)*3=j*3+1+1+1 by omega];simpa [R8]using a
   .rw[show(j+1)*3+1=j*3+1+1+1+1 by omega];simpa [R8]using c
   .rw[show(j+1)*3+2=j*3+2+1+1+1 by omega];simpa [R8]using d
def Lg(w:World)(s:SZ):Prop:=bl s.1=s.2.2.2.name/\(∃qs,YX w s.2.1 s.2.2.2.labs qs)/\VS w s.2.2.1 s.2.2.2.jm
theorem Lg.below{s:SZ}(h:Lg w s)(a:BW w w'):Lg w' s:=⟨h.1,h.2.1.elim λqs c=>⟨qs,c.below a⟩,h.2.2.below a⟩
structure UP (w:World)(v:Value)(ss:List SZ):Prop where
 own:w.ownsRow 0 105 3 v ss.length<|R8 ss
 len:ss.length<=900
 ok:∀s∈ss,Lg w s
theorem UP.below{ss:List SZ}(h:UP w v ss)(a:BW w w'):UP w' v ss:=⟨Ze h.own a,h.len,λs c=>(h.ok s c).below a⟩
def ZH(ss:List SZ):List YY:=ss.map (·.2.2.2)
theorem yD{ss:List SZ}(k:Nat)(h:k<ss.length)(a:Nd)(op:Option Nat)(n t:Int):Uk (ZH<|ss.take<|k+1) a op n t=
 if UI a ss[k].2.2.2&&!(ZM ss[k].2.2.2.jm n t).isEmpty then V8 (Uk (ZH<|ss.take k) a op n t) (ss[k].2.2.2.labs,X3 op<|ZM ss[k].2.2.2.jm n t)else Uk (ZH<|ss.take k) a op n t:=by
 unfold Uk ZH;rw[List.take_succ_eq_append_getElem h,Y9,Ir,PE,Kw,List.foldl_nil]
theorem YX.other{l:List Xc}(h:YX w v l qs)(d:Ya w a c 55)(f:∀j,j≠a->w'.heap[j]?=w.heap[j]?):YX w' v l qs:=
 ⟨ZJ h.own λj g=>f j λe=>ZD h.own d N<|by rw[g,e],h.say,h.len,h.ok⟩
theorem YM.other(h:YM w v zs)(d:Ya w a c 55)(f:∀j,j≠a->w'.heap[j]?=w.heap[j]?):YM w' v zs:=
 ⟨ZJ h.own λj k=>f j λe=>ZD h.own d N<|by rw[k,e],h.len,λz g=>⟨(h.ok z g).1.elim λqs i=>⟨qs,i.other d f⟩,(h.ok z g).2⟩⟩
structure Sc (w wr:World)(p:PV)(vv:Value)(zs:List<|Value×El):Prop where
 bel:BW w wr
 pb:Yq wr w.heap.size p
 rb:Ya wr (w.heap.size+1) [.bool false,E 0,S0] 55
 vb:Ya wr (w.heap.size+2) [.bool false,E 0,vv] 55
 els:YM wr vv zs
theorem Sc.below(h:Sc w wr p vv zs)(a:BW wr w'):Sc w w' p vv zs:=
 ⟨h.bel.trans<|a.mono h.bel.size,(a.block _ h.pb.lt).trans h.pb,h.rb.below a,h.vb.below a,h.els.below a⟩
theorem Sc.set{rv:Value}(h:Sc w wr p vv zs)(c:YM wr rv zs'):Sc w (wr.setCell ⟨w.heap.size+2,2,none⟩ rv) p rv zs':=by
 have a:∀j,j≠w.heap.size+2->(wr.setCell ⟨w.heap.size+2,2,none⟩ rv).heap[j]?=wr.heap[j]?:=λj d=>Go.Deep.blk_setCell_other _ _ _ _ d;refine⟨h.bel.setCell (by show w.heap.size<=w.heap.size+2;omega) _,(a _ X).trans h.pb,(a _ X).trans h.rb,?_,c.other h.vb a⟩;have:=h.vb;unfold Ya at this⊢;simp only[World.setCell,V4,this,VE,Wr];rfl
theorem Au(v:Value)(ss:List SZ)(p:PV)(nd:Nd)(a7:bl p.nm=nd.name)(hc:ZP w 0 p nd.kq)(a8:nd.kq.length<=100000)(op:Option Nat)(oi:Int)(a9:(op=none/\oi=-1)∨∃o:Nat,o<=4/\op=some o/\oi=o)
 (n t:Int)(c4:0<=n)(T:n<=1000)(c5:-1000000<=t)(c6:t<=1000000)(h:UP w v ss):
 CP 34 #[v,.agg #[E p.k,E p.n,E p.op,.string p.nm,.slice p.ca p.cn p.cc,.slice p.ba p.bn p.bc,E p.a,E p.b],E oi,E n,E t] w λe i=>
  ∃(vv:Value)(zs:List<|Value×El),e=.returned (.agg #[.bool false,E 0,vv])/\Hid (YM i vv zs)/\Hid (zs.map (·.2)=Uk (ZH ss) nd op n t)/\zs.length<=ss.length/\BW w i:=by
 obtain⟨sa,sc,rfl⟩:=Zd h.own;have HS:=I h;have HC:Hid<|ZP w 0 p _/\bl _=nd.name/\nd.kq.length<=100000:=⟨hc,a7,a8⟩;have c7:=I a9;have e0:=h.len;clear h hc a7 a8 a9;obtain⟨pk,pn,pop,pnm,pca,pcn,pcc,pba,pbn,pbc,pa,pb⟩:=p;go_enter func34,ntmps34;go_wp2;refine Zs λW0 b3=>?_;have b4:Hid<|Sc w W0 ⟨pk,pn,pop,pnm,pca,pcn,pcc,pba,pbn,pbc,pa,pb⟩ S0 []:=by
  rw[b3];refine⟨Yh,?_,?_,?_,⟨Xm _ _ _ _,Yr _,λz hz=>by cases hz⟩⟩
  .exact((((Ym (w.heap.size+1) _).alloc Sm _).alloc Sm _).block _ Sm).trans<|Go.Deep.blk_alloc_new _ _
  .exact(((Ym (w.heap.size+2) _).alloc Sm _).block _ Sm).trans<|by have:=Go.Deep.blk_alloc_new (w.alloc<|.cells #[E pk,E pn,E pop,.string pnm,.slice pca pcn pcc,.slice pba pbn pbc,E pa,E pb] 59)<|.cells #[.bool false,E 0,S0] 55;rw[Sz]at this;exact this
  .have:=Go.Deep.blk_alloc_new ((w.alloc<|.cells #[E pk,E pn,E pop,.string pnm,.slice pca pcn pcc,.slice pba pbn pbc,E pa,E pb] 59).alloc<|.cells #[.bool false,E 0,S0] 55)<|.cells #[.bool false,E 0,S0] 55;rw[Sz,Sz]at this;exact this
 clear b3;go_loopg [12] ss.length (λgk v12 wr=>∃(k:Nat)(vv:Value)(zs:List<|Value×El),k<=ss.length/\gk=ss.length-k/\v12=E k/\zs.length<=k/\Hid (Sc w wr ⟨pk,pn,pop,pnm,pca,pcn,pcc,pba,pbn,pbc,pa,pb⟩ vv zs)/\Hid (zs.map (·.2)=Uk (ZH<|ss.take k) nd op n t));case atStart=>exact⟨0,_,[],Yr _,C,C,Yr _,b4,C⟩
 case round=>
  clear b4;obtain⟨k,vv,zs,hk,e1,rfl,c8,d,Z⟩:=hrel;obtain⟨va,vc,c9⟩:=Zd d.els.own;subst c9;have q:Hid<|UP wr (.slice sa ss.length sc) ss:=HS.below d.bel;obtain⟨k0,k1,k2,k3,k4,k5,k6,k7⟩:=d.pb.all;by_cases a0:k<ss.length
  .obtain⟨g,cpx,hg⟩:=Zm HS.own X;injection hg with hg1 _ hg2;subst hg1 hg2;obtain⟨f1,f2,f3⟩:=tK ss k;rw[List.getElem?_eq_getElem a0]at f1 f2 f3;have r0:=Zc q.own _ _ f1;have r1:=Zc q.own _ _ f2;have r2:=Zc q.own _ _ f3;have r:=ZN q.own;have d0:=q.ok _<|List.getElem_mem a0;have HW:=I<|yD k a0 nd op n t;generalize ss[k]=s at*;obtain⟨nm,lv,sv,S⟩:=s;obtain⟨hn,⟨qs,U⟩,V⟩:=d0;simp only at r0 r1 r2 hn U V HW;obtain⟨la,lc,rfl⟩:=Zd U.own;obtain⟨ta,tc,rfl⟩:=Zd V.own;have HQ:=I U;have HM:=I V;have HN:=I hn;clear U V hn f1 f2 f3;simp only at k0 k1 k2 k3 k4 k5 k6 k7;have b5:=I<|HC.1.below d.bel;obtain⟨bp,b6⟩:∃b,b=UI nd S:=⟨_,C⟩;have b7:=I b6;clear b6;have l:=d.pb.lt;go_upto_region 5 with fail;go_region_held3 (λi=>i.cell? ⟨w.heap.size,0,none⟩=some (E pk)/\i.cell? ⟨w.heap.size,1,none⟩=some (E pn)/\i.cell? ⟨w.heap.size,2,none⟩=some (E pop)/\i.cell? ⟨w.heap.size,3,none⟩=some (.string pnm)/\i.cell? ⟨w.heap.size,4,none⟩=some (.slice pca pcn pcc)/\i.cell? ⟨w.heap.size,5,none⟩=some (.slice pba pbn pbc)/\i.cell? ⟨w.heap.size,6,none⟩=some (E pa)/\i.cell? ⟨w.heap.size,7,none⟩=some (E pb)/\i.cell? ⟨g,k*3,none⟩=some (.string nm)/\i.cell? ⟨g,k*3+1,none⟩=some (.slice la qs.length lc)/\i.cell? ⟨g,k*3+2,none⟩=some (.slice ta S.jm.length tc)) (first|exact⟨k0,k1,k2,k3,k4,k5,k6,k7,r0,r1,r2⟩|exact⟨(c.cell (p:=⟨w.heap.size,0,none⟩) l).trans k0,(c.cell (p:=⟨w.heap.size,1,none⟩) l).trans k1,(c.cell (p:=⟨w.heap.size,2,none⟩) l).trans k2,(c.cell (p:=⟨w.heap.size,3,none⟩) l).trans k3,(c.cell (p:=⟨w.heap.size,4,none⟩) l).trans k4,(c.cell (p:=⟨w.heap.size,5,none⟩) l).trans k5,(c.cell (p:=⟨w.heap.size,6,none⟩) l).trans k6,(c.cell (p:=⟨w.heap.size,7,none⟩) l).trans k7,(c.cell (p:=⟨g,k*3,none⟩) r).trans r0,(c.cell (p:=⟨g,k*3+1,none⟩) r).trans r1,(c.cell (p:=⟨g,k*3+2,none⟩) r).trans r2⟩|go_keep) (first
   | (go_at_call 72;refine(jM ⟨pk,pn,pop,pnm,pca,pcn,pcc,pba,pbn,pbc,pa,pb⟩ nd S HC.2.1 (by exact b5.below ⟨C,C,C,Yj _,λ_ _=>C⟩) HC.2.2 nm HN.out qs (by exact HQ.below ⟨C,C,C,Yj _,λ_ _=>C⟩) ta S.jm.length tc).mono ?_;rintro e w1 ⟨rfl,D⟩;rw[<-b7.out];have c:Hid<|BW wr w1:=I ⟨D.os,D.tape,D.output,D.size,D.block⟩;clear D));have b8:=I<|d.below c;have b9:=I<|HQ.below c;have c0:=I<|HM.below c;have d1:=I<|q.below c;have q0:=(c.cell r).trans r0;have q1:=(c.cell r).trans r1;have q2:=(c.cell r).trans r2;have a1:=WH r c.size;clear k0 k1 k2 k3 k4 k5 k6 k7 r0 r1 r2 d HQ HM q b5 c l;go_wp2_with fail;refine(yG C n t c4 T c5 c6<|c0.out).mono ?_;rintro e w2 ⟨rv,rfl,K,G⟩;have m:=I<|b8.below G;have a2:=I<|b9.below G;have p1:=(G.cell a1).trans q1;have c2:=WH a1 G.size;clear q0 q1 q2 b8 b9 c0 d1 G;obtain⟨ra,rc,d2⟩:=Zd K.own;subst d2;rw[<-b7]at HW;generalize ZM S.jm n t=L at*;have e2:=K.len;by_cases a3:L.length=0
   .have F:Hid<|zs.map _=Uk _ _ _ n t:=I<|by
     rw[HW,Og.1 a3];simpa using Z.out
    have c3:((L.length:Int)==0)=true:=by rw[a3];rfl
    cases bp;all_goals
     go_wp2;go_roundg (ss.length-(k+1));case measure=>omega
     case rel=>exact⟨k+1,_,_,X,C,by go_num,X,m,F⟩
   .have c3:((L.length:Int)==0)=false:=by rw[YB];omega
    cases bp with
    |false=>
     have F:Hid<|zs.map _=Uk _ _ _ n t:=I<|by
      rw[HW];simpa using Z.out
     go_wp2;go_roundg (ss.length-(k+1));case measure=>omega
     case rel=>exact⟨k+1,_,_,X,C,by go_num,X,m,F⟩
    |true=>
     obtain⟨gr,cpr,d3⟩:=Zm K.own X;injection d3 with hgr1 _ hgr2;subst hgr1 hgr2;have cl:=Zc K.own _ _<|by rw[(Lt L<|L.length-1).2,List.getElem?_eq_getElem X];rfl
     obtain⟨xl,W⟩:∃xl,xl=(L[L.length-1]).2:=⟨_,C⟩;have e3:Hid<|xl=(L.getLastD (0,0)).2:=by
      rw[W,Kc,Kd,List.getElem?_eq_getElem X];rfl
     have d4:YD xl:=by
      have:=K.ok _<|List.getElem_mem<|show L.length-1<L.length by omega
      unfold Vc at this;rw[<-W]at this;exact this.2.2
     simp only at cl;rw[<-W]at cl;obtain⟨n1,T⟩:∃n1:Nat,n1=L.length-1:=⟨_,C⟩;have e4:(L.length:Int)-1=(n1):=X;have e5:(n1:Int)<L.length:=X;rw[<-T]at cl;clear T W;have F:Hid (∀u zs',u=X3 op L->zs'=VG zs (.slice la qs.length lc,S.labs,u)->zs'.map (·.2)=Uk (ZH<|ss.take<|k+1) nd op n t):=by
      intro u zs' hu hz;have d5:L.isEmpty=false:=by cases L with|nil=>simp at a3|cons a L=>rfl
      rw[HW,hz,Ad,Z,d5,hu];rfl
     rcases c7.out with⟨A,M⟩|⟨o,ho,A,M⟩
     .have HU:Hid<|xl=X3 op L:=by rwa [A]
      have O:=d4;subst M;clear A;go_upto_region 11 with fail;have v2:=m.vb.cell 2;have vf:=m.vb.frozen 2;simp only[Yf]at v2;have a4:Hid<|V3 _ (.slice _ _ _,S.labs,xl):=⟨⟨qs,a2⟩,O⟩;have P:zs.length<=1000:=X;have d6:=m.vb.lt;go_region_with (first
       | (go_at_call 76;refine(GX zs (.slice la qs.length lc,S.labs,xl) _ (by exact m.els.below ⟨C,C,C,Yj _,λ_ _=>C⟩) (by exact a4.below ⟨C,C,C,Yj _,λ_ _=>C⟩) P).mono ?_;rintro e w8 ⟨rv,rfl,H,f⟩;obtain⟨ya,yc,Q⟩:=Zd H.own;subst Q;have B:=I<|m.below (⟨f.os,f.tape,f.output,f.size,f.block⟩:Below (w2).heap.size w2 w8);have vf8:=B.vb.frozen 2;have v8:=B.vb.cell 2;simp only[Yf]at v8;have a5:=I<|B.set H.out;have a6:=I<|F.out xl _ HU.out C;have R:(VG zs (.slice la qs.length lc,S.labs,xl)).length<=k+1:=by rw[LI];omega
          clear f));all_goals
       go_wp2;go_roundg (ss.length-(k+1));case measure=>omega
       case rel=>exact⟨k+1,_,_,X,C,by go_num,R,a5,a6⟩
     .have HU:Hid (YZ (T1 o (L.map (·.2)))=X3 op L):=by rw[A];rfl
      have O:=Np (T1 o (L.map (·.2)));subst M;clear A;go_wp2_with fail;refine(AD o ho L (K.out) X).mono ?_;rintro e w3 ⟨rfl,nd3,c1⟩;have Y:Below w2.heap.size _ _:=c1▸Ot _ _ _;have J:=I<|m.below Y;have d7:=I<|a2.below Y;have p13:=(Y.cell c2).trans p1;clear c1 Y p1 cl m a2 K;generalize T1 o (L.map (·.2))=tl at*;go_wp2_with fail;refine(LL _ _).mono ?_;rintro e w4 ⟨rfl,rfl⟩;generalize YZ tl=cu at*;go_upto_region 11 with fail;have v2:=J.vb.cell 2;have vf:=J.vb.frozen 2;simp only[Yf]at v2;have a4:Hid<|V3 _ (.slice _ _ _,S.labs,cu):=⟨⟨qs,d7⟩,O⟩;have P:zs.length<=1000:=X;have d6:=J.vb.lt;go_region_with (first
       | (go_at_call 76;refine(GX zs (.slice la qs.length lc,S.labs,cu) _ (by exact J.els.below ⟨C,C,C,Yj _,λ_ _=>C⟩) (by exact a4.below ⟨C,C,C,Yj _,λ_ _=>C⟩) P).mono ?_;rintro e w8 ⟨rv,rfl,H,f⟩;obtain⟨ya,yc,Q⟩:=Zd H.own;subst Q;have B:=I<|J.below (⟨f.os,f.tape,f.output,f.size,f.block⟩:Below (w4).heap.size w4 w8);have vf8:=B.vb.frozen 2;have v8:=B.vb.cell 2;simp only[Yf]at v8;have a5:=I<|B.set H.out;have a6:=I<|F.out cu _ HU.out C;have R:(VG zs (.slice la qs.length lc,S.labs,cu)).length<=k+1:=by rw[LI];omega
          clear f));all_goals
       go_wp2;go_roundg (ss.length-(k+1));case measure=>omega
       case rel=>exact⟨k+1,_,_,X,C,by go_num,R,a5,a6⟩
  .obtain rfl:k=ss.length:=X;rw[X1]at Z;have b0:=d.vb.cell 0;have b1:=d.vb.cell 1;have b2:=d.vb.cell 2;simp only[Yf]at b0 b1 b2;have y0:=d.rb.frozen 0;have y1:=d.rb.frozen 1;have y2:=d.rb.frozen 2;have t0:=d.rb.cell 0;have t1:=d.rb.cell 1;have t2:=d.rb.cell 2;simp only[Yf]at t0 t1 t2;go_wp2;change bodyPost _ _ _ _ _<|set3 wr (w.heap.size+1) (.bool false) (E 0)<|.slice va zs.length vc;have s9:=P5 d.rb (x:=.bool false) (y:=E 0) (z:=.slice va zs.length vc);have s0:=s9.cell 0;have s1:=s9.cell 1;have s2:=s9.cell 2;simp only[Yf]at s0 s1 s2;have d8:Hid<|YM (set3 _ _ (.bool false) (E 0)<|.slice va zs.length vc) _ _:=I<|d.els.other d.rb λj hj=>OQ hj;have d9:Hid<|Below _ w<|set3 _ _ (.bool false) (E 0)<|.slice va zs.length vc:=I<|((d.bel.setCell (by show w.heap.size<=w.heap.size+1;omega) _).setCell (by show w.heap.size<=w.heap.size+1;omega) _).setCell (by show w.heap.size<=w.heap.size+1;omega) _;generalize set3 wr (w.heap.size+1) (.bool false) (E 0) (.slice va zs.length vc)=WX at*;exact YQ (by simp[results,results34,go_sem,s0,s1,s2]) C ⟨.slice _ _ _,C,zs,d8,Z,c8,d9⟩
theorem EB(n:Nat):(Xj n).length<=n+1:=by
 induction n using Nat.strongRecOn with
 |ind n ih=>
  by_cases h:n<=9
  .rw[Lq h];simp
  .rw[K9 h,Yv];have:=ih (n/10) X;simp only[Y1,TP];omega
theorem Nq(n:Int)(h:YD n):(Xs n).length<=1000000002:=by
 unfold YD at h;unfold Xs;split
 .have:=EB n.natAbs;rw[Yv,PC];omega
 .have:=EB n.toNat;omega
theorem Ja(n:Int)(h:YD n):
 CP 38 #[E n] w λe u=>∃r:BA,e=.returned (.string r)/\Hid (bl r=Xs n)/\BW w u:=by
 obtain⟨o,p⟩:=h;by_cases d:n<0
 .obtain⟨m,q⟩:∃m:Nat,n=-(m):=⟨n.natAbs,X⟩;have g:Hid<|Xs n=[45]++Xj m:=by unfold Xs;rw[Ye d];congr 2;omega
  have f:m<=1000000000:=X;have k:0<m:=X;have l:-n=(m):=X;go_enter func38,ntmps38;go_wp2_with fail;refine(ED m f).mono ?_;rintro e i ⟨r,rfl,j,a,c⟩;have a1:∀W,(Op.stringOp _ ⟨#[45]⟩ r).run prog W=.ok _ W:=λW=>XV W _ _<|by show 1+r.size<=_;omega
  go_wp2;go_ret;exact⟨_,C,I<|by rw[g,Rk,a];rfl,c⟩
 .obtain⟨m,rfl⟩:∃m:Nat,n=(m):=⟨n.toNat,X⟩;refine(ED m X).mono ?_;rintro e i ⟨r,rfl,j,a,c⟩;exact⟨r,C,I<|by unfold Xs;rw[Yd d];exact a,c⟩
theorem wa(l:List Xc)(h:∀p∈l,p.1.length<=6000/\p.2.length<=6000):(Yy l).length<=12002*l.length:=by
 refine Xb (Oz _) ?_;induction l with
 |nil=>exact Yj _
 |cons p l ih=>
  have c:=h p<|Re ..;have d:=ih λq a=>h q<|Vf _ a;simp only[Wb,nw,Y1,XY,Yv,TP];omega
theorem YX.wlen{l:List Xc}(h:YX w v l qs):(Yy l).length<=72024002:=by
 have d:=wa l<|by
  rw[<-h.say];intro p a;obtain⟨q,c,rfl⟩:=XJ.mp a;have:=h.ok q c;rw[<-Zb,<-Zb]at this;exact this
 have e:l.length<=6001:=by rw[<-h.say,Yz];exact h.len
 omega
def S7(zs:List<|Value×El):LB:=(zs.map λz=>QP z.2).flatten
theorem sY(k:Nat)(h:k<zs.length):S7 (zs.take<|k+1)=S7 (zs.take k)++QP (zs[k]).2:=by
 unfold S7;rw[List.take_succ_eq_append_getElem h,Y9,J0];simp
theorem Gt(l:LB):bl ⟨l.toArray⟩=l:=by simp[bl]
theorem vT(t:Int)(O:YD t)(n:Int)(zs:List<|Value×El)(w:World)(h:YM w v zs)(a7:zs.length<=1000):
 CP 19 #[E t,.agg #[.bool false,E n,v]] w λe u=>∃r:BA,e=.returned (.string r)/\Hid (bl r=U9 t (.inr (zs.map (·.2))))/\r.size<=2000000000000/\BW w u:=by
 obtain⟨sa,sc,rfl⟩:=Zd h.own;have P:=I h;clear h;go_enter func19,ntmps19;go_wp2_with fail;refine(Ja t O).mono ?_;rintro e w1 ⟨r1,rfl,D,m⟩;have F:=I<|Yc.trans<|m.mono Sm;have o:Hid<|Ya _ _ _ 55:=I<|(m.block _ Sm).trans<|Go.Deep.blk_alloc_new _ _;clear m;have a8:r1.size<=1000000002:=ZE D.out▸Nq t O;have x0:=o.cell 0;simp only[Qp]at x0;go_wp2;go_loopg [5,6] zs.length (λgk v5 v6 wr=>∃(k:Nat)(r:BA),k<=zs.length/\gk=zs.length-k/\v6=E k/\v5=.string r/\r.size<=1000000002+1100000000*k/\Hid (bl r=Xs t++S7 (zs.take k))/\Hid (BW w wr)/\Hid (Ya wr w.heap.size [.bool false,E n,.slice sa zs.length sc] 55));case atStart=>exact⟨0,r1,Yr _,C,C,C,X,I<|by rw[D];simp[S7],F,o⟩
 case round=>
  clear F o x0;obtain⟨k,r,hk,a9,rfl,rfl,b0,Q,B,K⟩:=hrel;have x2:=K.cell 2;simp only[Yf]at x2;have G:=K.lt;by_cases i:k<zs.length
  .obtain⟨g,cpx,hg⟩:=Zm P.own X;injection hg with hg1 _ hg2;subst hg1 hg2;have j:=I<|P.below B;have r0:=Zc j.own _ _<|by rw[(Tf _ k).1,List.getElem?_eq_getElem i];rfl
   have r1':=Zc j.own _ _<|by rw[(Tf _ k).2,List.getElem?_eq_getElem i];rfl
   have l:=ZN j.own;have R:=j.ok _<|List.getElem_mem i;have HE:=I<|sY k i;generalize zs[k]=z at*;obtain⟨zv,zl,zn⟩:=z;obtain⟨⟨qz,f⟩,q⟩:=R;simp only at r0 r1' f q;obtain⟨lz,cz,rfl⟩:=Zd f.own;have S:=I f;have T:=f.wlen;have U:=Nq _ q;clear f;obtain⟨rx,H⟩:∃rx:BA,rx=⟨(Yy zl).toArray⟩:=⟨_,C⟩;obtain⟨rd,J⟩:∃rd:BA,rd=⟨(Xs zn).toArray⟩:=⟨_,C⟩;have s:Hid<|bl rx=Yy _:=I<|by rw[H,Gt]
   have x:Hid<|bl rd=Xs _:=I<|by rw[J,Gt]
   have sx:rx.size<=72024002:=by rwa [ZE s.out]
   have sd:rd.size<=1000000002:=by rwa [ZE x.out]
   clear H J T U;have z1:(r++⟨#[32,123]⟩).size=r.size+2:=by rw[Xa];rfl
   have z2:((r++⟨#[32,123]⟩)++rx).size=r.size+2+rx.size:=by rw[Xa,z1]
   have z3:(((r++⟨#[32,123]⟩)++rx)++⟨#[125]⟩).size=r.size+2+rx.size+1:=by rw[Xa,z2];rfl
   have a1:∀W,(Op.stringOp _ r ⟨#[32,123]⟩).run prog W=.ok _ W:=λW=>XV W _ _<|by show r.size+2<=_;omega
   have a2:∀W,(Op.stringOp _ _ rx).run prog W=.ok _ W:=λW=>XV W _ _<|by rw[z1];omega
   have a3:∀W,(Op.stringOp _ _ ⟨#[125]⟩).run prog W=.ok _ W:=λW=>XV W _ _<|by rw[z2];show _+1<=_;omega
   have a4:∀W,(Op.stringOp _ _ rd).run prog W=.ok _ W:=λW=>XV W _ _<|by rw[z3];omega
   have V:((((r++⟨#[32,123]⟩)++rx)++⟨#[125]⟩)++rd).size<=1000000002+1100000000*(k+1):=by rw[Xa,z3];omega
   have L:Hid<|bl ((((r++⟨#[32,123]⟩)++rx)++⟨#[125]⟩)++rd)=Xs t++S7 _:=I<|by
    rw[Rk,Rk,Rk,Rk,Q,s,x,HE];simp[QP,bl]
   clear z1 z2 z3;go_upto_region 7 with fail;go_region_held3 (λu=>u.cell? ⟨w.heap.size,2,none⟩=some (.slice (some ⟨g,0,none⟩) zs.length sc)/\u.cell? ⟨g,k*2,none⟩=some (.slice lz qz.length cz)/\u.cell? ⟨g,k*2+1,none⟩=some (E zn)) (first|exact⟨(d.cell (p:=⟨w.heap.size,2,none⟩) G).trans x2,(d.cell (p:=⟨g,k*2,none⟩) l).trans r0,(d.cell (p:=⟨g,k*2+1,none⟩) l).trans r1'⟩|exact⟨(a.cell (p:=⟨w.heap.size,2,none⟩) G).trans x2,(a.cell (p:=⟨g,k*2,none⟩) l).trans r0,(a.cell (p:=⟨g,k*2+1,none⟩) l).trans r1'⟩|exact⟨x2,r0,r1'⟩|go_keep) (first
    | (go_at_call 32;refine(Nj zl qz<|by first|exact S.below ⟨a.os,a.tape,a.output,a.size,a.block⟩|exact S.below ⟨C,C,C,Yj _,λ_ _=>C⟩).mono ?_;rintro e Y ⟨q5,rfl,Z,n5,A⟩;obtain rfl:q5=rx:=ZbH<|by rw[Z.out,s.out]
       first
        |have d:Hid<|BW wr Y:=I<|by rw[A];exact⟨a.os,a.tape,a.output,a.size,a.block⟩
        |have a:Hid<|BW wr Y:=I<|by rw[A];exact⟨C,C,C,Yj _,λ_ _=>C⟩
       clear A)
    | (go_at_call 38;refine(Ja zn q).mono ?_;rintro e M ⟨q6,rfl,a0,c⟩;obtain rfl:q6=rd:=ZbH<|by rw[a0.out,x.out]
       first
        |have d:Hid<|BW wr M:=I<|a.trans<|(⟨c.os,c.tape,c.output,c.size,c.block⟩:Below _ _ M).mono a.size
        |have a:Hid<|BW wr M:=I ⟨c.os,c.tape,c.output,c.size,c.block⟩
       clear c));all_goals
    have a5:=I<|B.trans<|d.mono B.size;have a6:=I<|K.below d;go_wp2;go_roundg (zs.length-(k+1));case measure=>omega
    case rel=>exact⟨k+1,_,X,C,by go_num,C,V,L,a5,a6⟩
  .obtain rfl:k=zs.length:=X;have L:Hid (bl r=U9 t (.inr (zs.map (·.2)))):=by
    rw[Q,X1];unfold S7;show _=Xs t++((zs.map (·.2)).map QP).flatten;rw[VD];rfl
   go_wp2;go_ret;exact⟨_,C,L,X,B⟩
theorem vS(t:Int)(i:YD t)(n:Int)(j:YD n)(ea:Option Addr)(el ec:Nat)(w:World):
 CP 19 #[E t,.agg #[.bool true,E n,.slice ea el ec]] w λe u=>∃r:BA,e=.returned (.string r)/\Hid (bl r=U9 t (.inl n))/\r.size<=2000000000000/\BW w u:=by
 go_enter func19,ntmps19;go_wp2_with fail;refine(Ja t i).mono ?_;rintro e q ⟨r1,rfl,d,c⟩;have f:=I<|Yc.trans<|c.mono Sm;have g:Hid<|Ya _ _ _ 55:=I<|(c.block _ Sm).trans<|Go.Deep.blk_alloc_new _ _;clear c;have o:r1.size<=1000000002:=ZE d.out▸Nq t i;have x0:=g.cell 0;have x1:=g.cell 1;simp only[Yf]at x0 x1;have a1:∀W,(Op.stringOp _ _ ⟨#[32]⟩).run prog W=.ok _ W:=λW=>XV W _ _<|by show r1.size+1<=_;omega
 have z1:(r1++⟨#[32]⟩).size=r1.size+1:=by rw[Xa];rfl
 go_wp2_with fail;refine(Ja n j).mono ?_;rintro e z ⟨r2,rfl,h,a⟩;have p:r2.size<=1000000002:=ZE h.out▸Nq n j;have a2:∀W,(Op.stringOp _ _ r2).run prog W=.ok _ W:=λW=>XV W _ _<|by rw[z1];omega
 have m:Hid<|bl ((r1++⟨#[32]⟩)++r2)=U9 t (.inl n):=by
  rw[Rk,Rk,d,h];rfl
 have k:((r1++⟨#[32]⟩)++r2).size<=2000000000000:=by rw[Xa,z1];omega
 have l:=I<|f.trans<|Below.mono ⟨a.os,a.tape,a.output,a.size,a.block⟩ f.size;clear z1 a;go_wp2;go_ret;exact⟨_,C,m,k,l⟩
