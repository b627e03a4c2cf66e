/- Parts. -/
import Derived.Test.YtmfnolgpaoldpaaGreatDoorX15
import Derived.Deep.AppendLies
set_option linter.all false
set_option maxRecDepth 100000
set_option maxHeartbeats 16000000
namespace Go.Proofs.YtmfnolgpaoldpaaGreatDoor
open Go.RowKit LS Go.Proofs.Tryz
open Go renaming World->Y,Value->F
open Go.RowKit renaming Hid->U
variable {p:Addr}{sc:Bool}{v v' vv:F}{last:LB}{c xa ya:List F}{acc es:List Yn}{qs:List<|BA×BA}{os rs zs zs':List<|F×El}{l ps seen xs:List<|LB}{a i k n op vc vn:Nat}{va:Option Addr}{W w w' wr:Y}
abbrev SZ:=BA×F×F×YY
def R7:List SZ->List F
 |[]=>[]
 |s::l=>.string s.1::s.2.1::s.2.2.1::R7 l
theorem tG (l:List SZ)(j:Nat):(R7 l)[j*3]?=l[j]?.map (λs=>.string s.1)/\(R7 l)[j*3+1]?=l[j]?.map (λs=>s.2.1)/\(R7 l)[j*3+2]?=l[j]?.map λs=>s.2.2.1:=by
 induction l generalizing j with
 |nil=>simp[R7]
 |cons r l ih=>
  cases j with
  |zero=>simp[R7]
  |succ j=>
   obtain⟨a,c,d⟩:=ih j;refine⟨?_,?_,?_⟩
   .rw[show(j+1)*3=j*3+1+1+1 by omega];simpa [R7]using a
   .rw[show(j+1)*3+1=j*3+1+1+1+1 by omega];simpa [R7]using c
   .rw[show(j+1)*3+2=j*3+2+1+1+1 by omega];simpa [R7]using d
def Lf(w:Y)(s:SZ):Prop:=bl s.1=s.2.2.2.name/\(∃qs,YX w s.2.1 s.2.2.2.labs qs)/\VS w s.2.2.1 s.2.2.2.jm
theorem Lf.below{s:SZ}(h:Lf w s)(a:BW w w'):Lf w' s:=⟨h.1,h.2.1.elim λqs c=>⟨qs,c.below a⟩,h.2.2.below a⟩
structure UP (w:Y)(v:F)(ss:List SZ):Prop where
 own:w.ownsRow 0 105 3 v ss.length<|R7 ss
 len:ss.length<=900
 ok:∀s∈ss,Lf w s
theorem UP.below{ss:List SZ}(h:UP w v ss)(a:BW w w'):UP w' v ss:=⟨Ze h.own a,h.len,λs c=>(h.ok s c).below a⟩
def ZH(ss:List SZ):List YY:=ss.map (·.2.2.2)
theorem yz{ss:List SZ}(k:Nat)(h:k<ss.length)(a:Nd)(op:Option Nat)(n t:Int):Uk (ZH<|ss.take<|k+1) a op n t=
 if UI a ss[k].2.2.2&&!(ZM ss[k].2.2.2.jm n t).isEmpty then V7 (Uk (ZH<|ss.take k) a op n t) (ss[k].2.2.2.labs,X3 op<|ZM ss[k].2.2.2.jm n t)else Uk (ZH<|ss.take k) a op n t:=by
 unfold Uk ZH;rw[List.take_succ_eq_append_getElem h,Xa,Iq,PE,Kv,List.foldl_nil]
theorem YX.other{l:List Xc}(h:YX w v l qs)(d:Ya w a c 55)(f:∀j,j≠a->w'.heap[j]?=w.heap[j]?):YX w' v l qs:=
 ⟨ZJ h.own λj g=>f j λe=>ZD h.own d N<|by rw[g,e],h.say,h.len,h.ok⟩
theorem YM.other(h:YM w v zs)(d:Ya w a c 55)(f:∀j,j≠a->w'.heap[j]?=w.heap[j]?):YM w' v zs:=
 ⟨ZJ h.own λj k=>f j λe=>ZD h.own d N<|by rw[k,e],h.len,λz g=>⟨(h.ok z g).1.elim λqs i=>⟨qs,i.other d f⟩,(h.ok z g).2⟩⟩
structure Sb (w wr:Y)(p:PV)(vv:F)(zs:List<|F×El):Prop where
 bel:BW w wr
 pb:Yq wr w.heap.size p
 rb:Ya wr (w.heap.size+1) [.bool false,E 0,S0] 55
 vb:Ya wr (w.heap.size+2) [.bool false,E 0,vv] 55
 els:YM wr vv zs
theorem Sb.below{p:PV}(h:Sb w wr p vv zs)(a:BW wr w'):Sb w w' p vv zs:=
 ⟨h.bel.trans<|a.mono h.bel.size,(a.block _ h.pb.lt).trans h.pb,h.rb.below a,h.vb.below a,h.els.below a⟩
theorem Sb.set{p:PV}{rv:F}(h:Sb w wr p vv zs)(c:YM wr rv zs'):Sb w (wr.setCell ⟨w.heap.size+2,2,none⟩ rv) p rv zs':=by
 have a:∀j,j≠w.heap.size+2->(wr.setCell ⟨w.heap.size+2,2,none⟩ rv).heap[j]?=wr.heap[j]?:=λj d=>Go.Deep.blk_setCell_other _ _ _ _ d;refine⟨h.bel.setCell (by show w.heap.size<=w.heap.size+2;omega) _,(a _ X).trans h.pb,(a _ X).trans h.rb,?_,c.other h.vb a⟩;have:=h.vb;unfold Ya at this⊢;simp only[World.setCell,V4,this,VE,Wr];rfl
theorem Aq(v:F)(ss:List SZ)(p:PV)(nd:Nd)(a9:bl p.nm=nd.name)(hc:ZP w 0 p nd.kq)(b3:nd.kq.length<=100000)(op:Option Nat)(oi:Int)(b4:(op=none/\oi=-1)\/∃o:Nat,o<=4/\op=some o/\oi=o)
 (n t:Int)(c6:0<=n)(V:n<=1000)(c7:-1000000<=t)(c8:t<=1000000)(h:UP w v ss):
 CP 34 #[v,.agg #[E p.k,E p.n,E p.op,.string p.nm,.slice p.ca p.cn p.cc,.slice p.ba p.bn p.bc,E p.a,E p.b],E oi,E n,E t] w λe i=>
  ∃(vv:F)(zs:List<|F×El),e=.returned (.agg #[.bool false,E 0,vv])/\U (YM i vv zs)/\U (zs.map (·.2)=Uk (ZH ss) nd op n t)/\zs.length<=ss.length/\BW w i:=by
 obtain⟨sa,sc,rfl⟩:=Zd h.own;have HS:=I h;have HC:U<|ZP w 0 p _/\bl _=nd.name/\nd.kq.length<=100000:=⟨hc,a9,b3⟩;have c9:=I b4;have e2:=h.len;clear h hc a9 b3 b4;obtain⟨pk,pn,pop,pnm,pca,pcn,pcc,pba,pbn,pbc,pa,pb⟩:=p;go_enter func34,ntmps34;go_wp2;refine Zs λW0 b5=>?_;have b6:U<|Sb w W0 ⟨pk,pn,pop,pnm,pca,pcn,pcc,pba,pbn,pbc,pa,pb⟩ S0 []:=by
  rw[b5];refine⟨Yh,?_,?_,?_,⟨Xm _ _ _ _,Yr _,λz hz=>by cases hz⟩⟩
  .exact((((Ym (w.heap.size+1) _).alloc (Sm) _).alloc (Sm) _).block _<|Sm).trans<|Go.Deep.blk_alloc_new _ _
  .exact(((Ym (w.heap.size+2) _).alloc (Sm) _).block _<|Sm).trans<|by have:=Go.Deep.blk_alloc_new (w.alloc<|.cells #[E pk,E pn,E pop,.string pnm,.slice pca pcn pcc,.slice pba pbn pbc,E pa,E pb] 59)<|.cells #[.bool false,E 0,S0] 55;rw[Sy]at this;exact this
  .have:=Go.Deep.blk_alloc_new ((w.alloc<|.cells #[E pk,E pn,E pop,.string pnm,.slice pca pcn pcc,.slice pba pbn pbc,E pa,E pb] 59).alloc<|.cells #[.bool false,E 0,S0] 55)<|.cells #[.bool false,E 0,S0] 55;rw[Sy,Sy]at this;exact this
 clear b5;go_loopg [12] ss.length (λgk v12 wr=>∃(k:Nat)(vv:F)(zs:List<|F×El),k<=ss.length/\gk=ss.length-k/\v12=E k/\zs.length<=k/\U (Sb w wr ⟨pk,pn,pop,pnm,pca,pcn,pcc,pba,pbn,pbc,pa,pb⟩ vv zs)/\U (zs.map (·.2)=Uk (ZH<|ss.take k) nd op n t));case atStart=>exact⟨0,_,[],Yr _,C,C,Yr _,b6,C⟩
 case round=>
  clear b6;obtain⟨k,vv,zs,hk,e3,rfl,d0,d,HZ⟩:=hrel;obtain⟨va,vc,d1⟩:=Zd d.els.own;subst d1;have q:U<|UP wr (.slice sa ss.length sc) ss:=HS.below d.bel;obtain⟨k0,k1,k2,k3,k4,k5,k6,k7⟩:=d.pb.all;by_cases a2:k<ss.length
  .obtain⟨g,cpx,hg⟩:=Zm HS.own X;injection hg with hg1 _ hg2;subst hg1 hg2;obtain⟨f1,f2,f3⟩:=tG ss k;rw[List.getElem?_eq_getElem a2]at f1 f2 f3;have r0:=Zc q.own _ _ f1;have r1:=Zc q.own _ _ f2;have r2:=Zc q.own _ _ f3;have r:=ZN q.own;have d2:=q.ok _<|List.getElem_mem a2;have HW:=I<|yz k a2 nd op n t;generalize ss[k]=s at*;obtain⟨nm,lv,sv,S⟩:=s;obtain⟨hn,⟨qs,W⟩,Z⟩:=d2;simp only at r0 r1 r2 hn W Z HW;obtain⟨la,lc,rfl⟩:=Zd W.own;obtain⟨ta,tc,rfl⟩:=Zd Z.own;have HQ:=I W;have HM:=I Z;have HN:=I hn;clear W Z hn f1 f2 f3;simp only at k0 k1 k2 k3 k4 k5 k6 k7;have b7:=I<|HC.1.below d.bel;obtain⟨bp,b8⟩:∃b,b=UI nd S:=⟨_,C⟩;have b9:=I b8;clear b8;have l:=d.pb.lt;go_upto_region 5 with fail;go_region_held3 (λi=>i.cell? ⟨w.heap.size,0,none⟩=some (E pk)/\i.cell? ⟨w.heap.size,1,none⟩=some (E pn)/\i.cell? ⟨w.heap.size,2,none⟩=some (E pop)/\i.cell? ⟨w.heap.size,3,none⟩=some (.string pnm)/\i.cell? ⟨w.heap.size,4,none⟩=some (.slice pca pcn pcc)/\i.cell? ⟨w.heap.size,5,none⟩=some (.slice pba pbn pbc)/\i.cell? ⟨w.heap.size,6,none⟩=some (E pa)/\i.cell? ⟨w.heap.size,7,none⟩=some (E pb)/\i.cell? ⟨g,k*3,none⟩=some (.string nm)/\i.cell? ⟨g,k*3+1,none⟩=some (.slice la qs.length lc)/\i.cell? ⟨g,k*3+2,none⟩=some (.slice ta S.jm.length tc)) (first|exact⟨k0,k1,k2,k3,k4,k5,k6,k7,r0,r1,r2⟩|exact⟨(c.cell (p:=⟨w.heap.size,0,none⟩) l).trans k0,(c.cell (p:=⟨w.heap.size,1,none⟩) l).trans k1,(c.cell (p:=⟨w.heap.size,2,none⟩) l).trans k2,(c.cell (p:=⟨w.heap.size,3,none⟩) l).trans k3,(c.cell (p:=⟨w.heap.size,4,none⟩) l).trans k4,(c.cell (p:=⟨w.heap.size,5,none⟩) l).trans k5,(c.cell (p:=⟨w.heap.size,6,none⟩) l).trans k6,(c.cell (p:=⟨w.heap.size,7,none⟩) l).trans k7,(c.cell (p:=⟨g,k*3,none⟩) r).trans r0,(c.cell (p:=⟨g,k*3+1,none⟩) r).trans r1,(c.cell (p:=⟨g,k*3+2,none⟩) r).trans r2⟩|go_keep) (first
   | (go_at_call 72;refine(jI ⟨pk,pn,pop,pnm,pca,pcn,pcc,pba,pbn,pbc,pa,pb⟩ nd S HC.2.1 (by exact b7.below ⟨C,C,C,Yj _,λ_ _=>C⟩) HC.2.2 nm HN.o qs (by exact HQ.below ⟨C,C,C,Yj _,λ_ _=>C⟩) ta S.jm.length tc).m ?_;rintro e w1 ⟨rfl,D⟩;rw[<-b9.o];have c:U<|BW wr w1:=I ⟨D.os,D.tape,D.output,D.size,D.block⟩;clear D));have c0:=I<|d.below c;have c1:=I<|HQ.below c;have c2:=I<|HM.below c;have d3:=I<|q.below c;have q0:=(c.cell r).trans r0;have q1:=(c.cell r).trans r1;have q2:=(c.cell r).trans r2;have a3:=WH r c.size;clear k0 k1 k2 k3 k4 k5 k6 k7 r0 r1 r2 d HQ HM q b7 c l;go_wp2_with fail;refine(yC C n t c6 V c7 c8<|c2.o).m ?_;rintro e w2 ⟨rv,rfl,M,H⟩;have m:=I<|c0.below H;have a4:=I<|c1.below H;have p1:=(H.cell a3).trans q1;have c4:=WH a3 H.size;clear q0 q1 q2 c0 c1 c2 d3 H;obtain⟨ra,rc,d4⟩:=Zd M.own;subst d4;rw[<-b9]at HW;generalize ZM S.jm n t=L at*;have e4:=M.len;by_cases a5:L.length=0
   .have G:U<|zs.map _=Uk _ _ _ n t:=I<|by
     rw[HW,Oh.1 a5];simpa using HZ.o
    have c5:((L.length:Int)==0)=true:=by rw[a5];rfl
    cases bp;all_goals
     go_wp2;go_roundg (ss.length-(k+1));case measure=>omega
     case rel=>exact⟨k+1,_,_,X,C,by go_num,X,m,G⟩
   .have c5:((L.length:Int)==0)=false:=by rw[YB];omega
    cases bp with
    |false=>
     have G:U<|zs.map _=Uk _ _ _ n t:=I<|by
      rw[HW];simpa using HZ.o
     go_wp2;go_roundg (ss.length-(k+1));case measure=>omega
     case rel=>exact⟨k+1,_,_,X,C,by go_num,X,m,G⟩
    |true=>
     obtain⟨gr,cpr,d5⟩:=Zm M.own X;injection d5 with hgr1 _ hgr2;subst hgr1 hgr2;have cl:=Zc M.own _ _<|by rw[(Ls L<|L.length-1).2,List.getElem?_eq_getElem X];rfl
     obtain⟨xl,a0⟩:∃xl,xl=(L[L.length-1]).2:=⟨_,C⟩;have e5:U<|xl=(L.getLastD (0,0)).2:=by
      rw[a0,Kb,Kc,List.getElem?_eq_getElem X];rfl
     have d6:YC xl:=by
      have:=M.ok _<|List.getElem_mem<|show L.length-1<L.length by omega
      unfold Vb at this;rw[<-a0]at this;exact this.2.2
     simp only at cl;rw[<-a0]at cl;obtain⟨n1,V⟩:∃n1:Nat,n1=L.length-1:=⟨_,C⟩;have e6:(L.length:Int)-1=(n1):=X;have e7:(n1:Int)<L.length:=X;rw[<-V]at cl;clear V a0;have G:U (∀u zs',u=X3 op L->zs'=VG zs (.slice la qs.length lc,S.labs,u)->zs'.map (·.2)=Uk (ZH<|ss.take<|k+1) nd op n t):=by
      intro u zs' hu hz;have d7:L.isEmpty=false:=by cases L with|nil=>simp at a5|cons a L=>rfl
      rw[HW,hz,B9,HZ,d7,hu];rfl
     rcases c9.o with⟨A,O⟩|⟨o,ho,A,O⟩
     .have HU:U<|xl=X3 op L:=by rwa [A]
      have P:=d6;subst O;clear A;go_upto_region 11 with fail;have v2:=m.vb.cell 2;have vf:=m.vb.frozen 2;simp only[Yf]at v2;have a6:U<|V3 _ (.slice _ _ _,S.labs,xl):=⟨⟨qs,a4⟩,P⟩;have Q:zs.length<=1000:=X;have d8:=m.vb.lt;go_region_with (first
       | (go_at_call 76;refine(GW zs (.slice la qs.length lc,S.labs,xl) _ (by exact m.els.below ⟨C,C,C,Yj _,λ_ _=>C⟩) (by exact a6.below ⟨C,C,C,Yj _,λ_ _=>C⟩) Q).m ?_;rintro e w8 ⟨rv,rfl,J,f⟩;obtain⟨ya,yc,R⟩:=Zd J.own;subst R;have B:=I<|m.below (⟨f.os,f.tape,f.output,f.size,f.block⟩:Below (w2).heap.size w2 w8);have vf8:=B.vb.frozen 2;have v8:=B.vb.cell 2;simp only[Yf]at v8;have a7:=I<|B.set J.o;have a8:=I<|G.o xl _ HU.o C;have T:(VG zs (.slice la qs.length lc,S.labs,xl)).length<=k+1:=by rw[LH];omega
          clear f));all_goals
       go_wp2;go_roundg (ss.length-(k+1));case measure=>omega
       case rel=>exact⟨k+1,_,_,X,C,by go_num,T,a7,a8⟩
     .have HU:U (YZ (T1 o (L.map (·.2)))=X3 op L):=by rw[A];rfl
      have P:=Nq (T1 o (L.map (·.2)));subst O;clear A;go_wp2_with fail;refine(Az o ho L (M.o) X).m ?_;rintro e w3 ⟨rfl,nd3,c3⟩;have a1:Below w2.heap.size _ _:=c3▸Ou _ _ _;have K:=I<|m.below a1;have d9:=I<|a4.below a1;have p13:=(a1.cell c4).trans p1;clear c3 a1 p1 cl m a4 M;generalize T1 o (L.map (·.2))=tl at*;go_wp2_with fail;refine(LK _ _).m ?_;rintro e w4 ⟨rfl,rfl⟩;generalize YZ tl=cu at*;go_upto_region 11 with fail;have v2:=K.vb.cell 2;have vf:=K.vb.frozen 2;simp only[Yf]at v2;have a6:U<|V3 _ (.slice _ _ _,S.labs,cu):=⟨⟨qs,d9⟩,P⟩;have Q:zs.length<=1000:=X;have d8:=K.vb.lt;go_region_with (first
       | (go_at_call 76;refine(GW zs (.slice la qs.length lc,S.labs,cu) _ (by exact K.els.below ⟨C,C,C,Yj _,λ_ _=>C⟩) (by exact a6.below ⟨C,C,C,Yj _,λ_ _=>C⟩) Q).m ?_;rintro e w8 ⟨rv,rfl,J,f⟩;obtain⟨ya,yc,R⟩:=Zd J.own;subst R;have B:=I<|K.below (⟨f.os,f.tape,f.output,f.size,f.block⟩:Below (w4).heap.size w4 w8);have vf8:=B.vb.frozen 2;have v8:=B.vb.cell 2;simp only[Yf]at v8;have a7:=I<|B.set J.o;have a8:=I<|G.o cu _ HU.o C;have T:(VG zs (.slice la qs.length lc,S.labs,cu)).length<=k+1:=by rw[LH];omega
          clear f));all_goals
       go_wp2;go_roundg (ss.length-(k+1));case measure=>omega
       case rel=>exact⟨k+1,_,_,X,C,by go_num,T,a7,a8⟩
  .obtain rfl:k=ss.length:=X;rw[X1]at HZ;have b0:=d.vb.cell 0;have b1:=d.vb.cell 1;have b2:=d.vb.cell 2;simp only[Yf]at b0 b1 b2;have y0:=d.rb.frozen 0;have y1:=d.rb.frozen 1;have y2:=d.rb.frozen 2;have t0:=d.rb.cell 0;have t1:=d.rb.cell 1;have t2:=d.rb.cell 2;simp only[Yf]at t0 t1 t2;go_wp2;change bodyPost _ _ _ _ _<|set3 wr (w.heap.size+1) (.bool false) (E 0)<|.slice va zs.length vc;have s9:=P5 d.rb (x:=.bool false) (y:=E 0) (z:=.slice va zs.length vc);have s0:=s9.cell 0;have s1:=s9.cell 1;have s2:=s9.cell 2;simp only[Yf]at s0 s1 s2;have e0:U<|YM (set3 _ _ (.bool false) (E 0)<|.slice va zs.length vc) _ _:=I<|d.els.other d.rb λj hj=>OR hj;have e1:U<|Below _ w<|set3 _ _ (.bool false) (E 0)<|.slice va zs.length vc:=I<|((d.bel.setCell (by show w.heap.size<=w.heap.size+1;omega) _).setCell (by show w.heap.size<=w.heap.size+1;omega) _).setCell (by show w.heap.size<=w.heap.size+1;omega) _;generalize set3 wr (w.heap.size+1) (.bool false) (E 0) (.slice va zs.length vc)=WX at*;exact YQ (by simp[results,results34,go_sem,s0,s1,s2]) C ⟨.slice _ _ _,C,zs,e0,HZ,d0,e1⟩
theorem Ex(n:Nat):(Xj n).length<=n+1:=by
 induction n using Nat.strongRecOn with
 |ind n ih=>
  by_cases h:n<=9
  .rw[Lp h];simp
  .rw[K8 h,Yx];have:=ih (n/10) X;simp only[Y1,TO];omega
theorem Nr(n:Int)(h:YC n):(Xs n).length<=1000000002:=by
 unfold YC at h;unfold Xs;split
 .have:=Ex n.natAbs;rw[Yx,PC];omega
 .have:=Ex n.toNat;omega
theorem K9(n:Int)(h:YC n):
 CP 38 #[E n] w λe u=>∃r:BA,e=.returned (.string r)/\U (bl r=Xs n)/\BW w u:=by
 obtain⟨o,p⟩:=h;by_cases d:n<0
 .obtain⟨m,q⟩:∃m:Nat,n=-(m):=⟨n.natAbs,X⟩;have g:U<|Xs n=[45]++Xj m:=by unfold Xs;rw[Ye d];congr 2;omega
  have f:m<=1000000000:=X;have k:0<m:=X;have l:-n=(m):=X;go_enter func38,ntmps38;go_wp2_with fail;refine(Ez m f).m ?_;rintro e i ⟨r,rfl,j,a,c⟩;have a1:∀W,(Op.stringOp _ ⟨#[45]⟩ r).run prog W=.ok _ W:=λW=>XW W _ _<|by show 1+r.size<=_;omega
  go_wp2;go_ret;exact⟨_,C,I<|by rw[g,Rk,a];rfl,c⟩
 .obtain⟨m,rfl⟩:∃m:Nat,n=(m):=⟨n.toNat,X⟩;refine(Ez m X).m ?_;rintro e i ⟨r,rfl,j,a,c⟩;exact⟨r,C,I<|by unfold Xs;rw[Yd d];exact a,c⟩
theorem xV(l:List Xc)(h:∀p∈l,p.1.length<=6000/\p.2.length<=6000):(Yy l).length<=12002*l.length:=by
 refine Xb (OA _) ?_;induction l with
 |nil=>exact Yj _
 |cons p l ih=>
  have c:=h p<|Rd ..;have d:=ih λq a=>h q<|Vf _ a;simp only[Wb,nw,Y1,XY,Yx,TO];omega
theorem YX.wlen{l:List Xc}(h:YX w v l qs):(Yy l).length<=72024002:=by
 have d:=xV l<|by
  rw[<-h.say];intro p a;obtain⟨q,c,rfl⟩:=XK.mp a;have:=h.ok q c;rw[<-Zb,<-Zb]at this;exact this
 have e:l.length<=6001:=by rw[<-h.say,Yz];exact h.len
 omega
def S5(zs:List<|F×El):LB:=(zs.map λz=>QO z.2).flatten
theorem sU(k:Nat)(h:k<zs.length):S5 (zs.take<|k+1)=S5 (zs.take k)++QO (zs[k]).2:=by
 unfold S5;rw[List.take_succ_eq_append_getElem h,Xa,JZ];simp
theorem Gs(l:LB):bl ⟨l.toArray⟩=l:=by simp[bl]
theorem vP(t:Int)(P:YC t)(n:Int)(zs:List<|F×El)(w:Y)(h:YM w v zs)(a9:zs.length<=1000):
 CP 19 #[E t,.agg #[.bool false,E n,v]] w λe u=>∃r:BA,e=.returned (.string r)/\U (bl r=U8 t (.inr (zs.map (·.2))))/\r.size<=2000000000000/\BW w u:=by
 obtain⟨sa,sc,rfl⟩:=Zd h.own;have Q:=I h;clear h;go_enter func19,ntmps19;go_wp2_with fail;refine(K9 t P).m ?_;rintro e w1 ⟨r1,rfl,D,m⟩;have G:=I<|Yc.trans<|m.mono<|Sm;have o:U<|Ya _ _ _ 55:=I<|(m.block _<|Sm).trans<|Go.Deep.blk_alloc_new _ _;clear m;have b0:r1.size<=1000000002:=ZE D.o▸Nr t P;have x0:=o.cell 0;simp only[Qo]at x0;go_wp2;go_loopg [5,6] zs.length (λgk v5 v6 wr=>∃(k:Nat)(r:BA),k<=zs.length/\gk=zs.length-k/\v6=E k/\v5=.string r/\r.size<=1000000002+1100000000*k/\U (bl r=Xs t++S5 (zs.take k))/\U (BW w wr)/\U (Ya wr w.heap.size [.bool false,E n,.slice sa zs.length sc] 55));case atStart=>exact⟨0,r1,Yr _,C,C,C,X,I<|by rw[D];simp[S5],G,o⟩
 case round=>
  clear G o x0;obtain⟨k,r,hk,b1,rfl,rfl,b2,R,B,L⟩:=hrel;have x2:=L.cell 2;simp only[Yf]at x2;have H:=L.lt;by_cases i:k<zs.length
  .obtain⟨g,cpx,hg⟩:=Zm Q.own X;injection hg with hg1 _ hg2;subst hg1 hg2;have j:=I<|Q.below B;have r0:=Zc j.own _ _<|by rw[(Te _ k).1,List.getElem?_eq_getElem i];rfl
   have r1':=Zc j.own _ _<|by rw[(Te _ k).2,List.getElem?_eq_getElem i];rfl
   have l:=ZN j.own;have S:=j.ok _<|List.getElem_mem i;have HE:=I<|sU k i;generalize zs[k]=z at*;obtain⟨zv,zl,zn⟩:=z;obtain⟨⟨qz,f⟩,q⟩:=S;simp only at r0 r1' f q;obtain⟨lz,cz,rfl⟩:=Zd f.own;have T:=I f;have V:=f.wlen;have Z:=Nr _ q;clear f;obtain⟨rx,J⟩:∃rx:BA,rx=⟨(Yy zl).toArray⟩:=⟨_,C⟩;obtain⟨rd,K⟩:∃rd:BA,rd=⟨(Xs zn).toArray⟩:=⟨_,C⟩;have s:U<|bl rx=Yy _:=I<|by rw[J,Gs]
   have x:U<|bl rd=Xs _:=I<|by rw[K,Gs]
   have sx:rx.size<=72024002:=by rwa [ZE s.o]
   have sd:rd.size<=1000000002:=by rwa [ZE x.o]
   clear J K V Z;have z1:(r++⟨#[32,123]⟩).size=r.size+2:=by rw[Y9];rfl
   have z2:((r++⟨#[32,123]⟩)++rx).size=r.size+2+rx.size:=by rw[Y9,z1]
   have z3:(((r++⟨#[32,123]⟩)++rx)++⟨#[125]⟩).size=r.size+2+rx.size+1:=by rw[Y9,z2];rfl
   have a1:∀W,(Op.stringOp _ r ⟨#[32,123]⟩).run prog W=.ok _ W:=λW=>XW W _ _<|by show r.size+2<=_;omega
   have a2:∀W,(Op.stringOp _ _ rx).run prog W=.ok _ W:=λW=>XW W _ _<|by rw[z1];omega
   have a3:∀W,(Op.stringOp _ _ ⟨#[125]⟩).run prog W=.ok _ W:=λW=>XW W _ _<|by rw[z2];show _+1<=_;omega
   have a4:∀W,(Op.stringOp _ _ rd).run prog W=.ok _ W:=λW=>XW W _ _<|by rw[z3];omega
   have a0:((((r++⟨#[32,123]⟩)++rx)++⟨#[125]⟩)++rd).size<=1000000002+1100000000*(k+1):=by rw[Y9,z3];omega
   have M:U<|bl ((((r++⟨#[32,123]⟩)++rx)++⟨#[125]⟩)++rd)=Xs t++S5 _:=I<|by
    rw[Rk,Rk,Rk,Rk,R,s,x,HE];simp[QO,bl]
   clear z1 z2 z3;go_upto_region 7 with fail;go_region_held3 (λu=>u.cell? ⟨w.heap.size,2,none⟩=some (.slice (some ⟨g,0,none⟩) zs.length sc)/\u.cell? ⟨g,k*2,none⟩=some (.slice lz qz.length cz)/\u.cell? ⟨g,k*2+1,none⟩=some (E zn)) (first|exact⟨(d.cell (p:=⟨w.heap.size,2,none⟩) H).trans x2,(d.cell (p:=⟨g,k*2,none⟩) l).trans r0,(d.cell (p:=⟨g,k*2+1,none⟩) l).trans r1'⟩|exact⟨(a.cell (p:=⟨w.heap.size,2,none⟩) H).trans x2,(a.cell (p:=⟨g,k*2,none⟩) l).trans r0,(a.cell (p:=⟨g,k*2+1,none⟩) l).trans r1'⟩|exact⟨x2,r0,r1'⟩|go_keep) (first
    | (go_at_call 32;refine(Nk zl qz<|by first|exact T.below ⟨a.os,a.tape,a.output,a.size,a.block⟩|exact T.below ⟨C,C,C,Yj _,λ_ _=>C⟩).m ?_;rintro e w5 ⟨q5,rfl,a5,n5,A⟩;obtain rfl:q5=rx:=ZbH<|by rw[a5.o,s.o]
       first
        |have d:U<|BW wr w5:=I<|by rw[A];exact⟨a.os,a.tape,a.output,a.size,a.block⟩
        |have a:U<|BW wr w5:=I<|by rw[A];exact⟨C,C,C,Yj _,λ_ _=>C⟩
       clear A)
    | (go_at_call 38;refine(K9 zn q).m ?_;rintro e O ⟨q6,rfl,a6,c⟩;obtain rfl:q6=rd:=ZbH<|by rw[a6.o,x.o]
       first
        |have d:U<|BW wr O:=I<|a.trans<|(⟨c.os,c.tape,c.output,c.size,c.block⟩:Below _ _ O).mono a.size
        |have a:U<|BW wr O:=I ⟨c.os,c.tape,c.output,c.size,c.block⟩
       clear c));all_goals
    have a7:=I<|B.trans<|d.mono B.size;have a8:=I<|L.below d;go_wp2;go_roundg (zs.length-(k+1));case measure=>omega
    case rel=>exact⟨k+1,_,X,C,by go_num,C,a0,M,a7,a8⟩
  .obtain rfl:k=zs.length:=X;have M:U (bl r=U8 t (.inr (zs.map (·.2)))):=by
    rw[R,X1];unfold S5;show _=Xs t++((zs.map (·.2)).map QO).flatten;rw[VD];rfl
   go_wp2;go_ret;exact⟨_,C,M,X,B⟩
theorem vO(t:Int)(i:YC t)(n:Int)(j:YC n)(ea:Option Addr)(el ec:Nat)(w:Y):
 CP 19 #[E t,.agg #[.bool true,E n,.slice ea el ec]] w λe u=>∃r:BA,e=.returned (.string r)/\U (bl r=U8 t (.inl n))/\r.size<=2000000000000/\BW w u:=by
 go_enter func19,ntmps19;go_wp2_with fail;refine(K9 t i).m ?_;rintro e q ⟨r1,rfl,d,c⟩;have f:=I<|Yc.trans<|c.mono<|Sm;have g:U<|Ya _ _ _ 55:=I<|(c.block _<|Sm).trans<|Go.Deep.blk_alloc_new _ _;clear c;have o:r1.size<=1000000002:=ZE d.o▸Nr t i;have x0:=g.cell 0;have x1:=g.cell 1;simp only[Yf]at x0 x1;have a1:∀W,(Op.stringOp _ _ ⟨#[32]⟩).run prog W=.ok _ W:=λW=>XW W _ _<|by show r1.size+1<=_;omega
 have z1:(r1++⟨#[32]⟩).size=r1.size+1:=by rw[Y9];rfl
 go_wp2_with fail;refine(K9 n j).m ?_;rintro e z ⟨r2,rfl,h,a⟩;have p:r2.size<=1000000002:=ZE h.o▸Nr n j;have a2:∀W,(Op.stringOp _ _ r2).run prog W=.ok _ W:=λW=>XW W _ _<|by rw[z1];omega
 have m:U<|bl ((r1++⟨#[32]⟩)++r2)=U8 t (.inl n):=by
  rw[Rk,Rk,d,h];rfl
 have k:((r1++⟨#[32]⟩)++r2).size<=2000000000000:=by rw[Y9,z1];omega
 have l:=I<|f.trans<|Below.mono ⟨a.os,a.tape,a.output,a.size,a.block⟩ f.size;clear z1 a;go_wp2;go_ret;exact⟨_,C,m,k,l⟩
structure VR (w wr:Y)(xa ya:List F)(vv:F)(zs:List<|F×El):Prop where
 bel:BW w wr
 xb:Ya wr w.heap.size xa 55
 yb:Ya wr (w.heap.size+1) ya 55
 rb:Ya wr (w.heap.size+2) [.bool false,E 0,S0] 55
 vb:Ya wr (w.heap.size+3) [.bool false,E 0,vv] 55
 own:wr.ownsRow (w.heap.size+4) 118 2 vv zs.length<|UR zs
theorem VR.below(h:VR w wr xa ya vv zs)(a:BW wr w'):VR w w' xa ya vv zs:=
 ⟨h.bel.trans<|a.mono h.bel.size,h.xb.below a,h.yb.below a,h.rb.below a,h.vb.below a,Ze h.own a⟩
theorem VR.app{c:Y}(h:VR w wr xa ya vv zs)(d:wr.grownBy c vv.ownBlock)(i:c.ownsRow (w.heap.size+4) 118 2 v' zs'.length<|UR zs'):
 VR w (c.setCell ⟨w.heap.size+3,2,none⟩ v') xa ya v' zs':=by
 have k:=h.xb.ownGrown h.own d N;have l:=h.yb.ownGrown h.own d N;have m:=h.rb.ownGrown h.own d N;have f:=h.vb.ownGrown h.own d N;have a:∀j,j≠w.heap.size+3->(c.setCell ⟨w.heap.size+3,2,none⟩ v').heap[j]?=c.heap[j]?:=λj g=>Go.Deep.blk_setCell_other _ _ _ _ g;refine⟨(QK h.bel d λq n=>by have:=(h.own.lt q n).1;omega).setCell (by show w.heap.size<=w.heap.size+3;omega) _,(a _ X).trans k,(a _ X).trans l,(a _ X).trans m,?_,ZJ i λj g=>a j λe=>ZD i f N<|by rw[g,e]⟩;unfold Ya at f⊢;simp only[World.setCell,V4,f,VE,Wr];rfl
theorem Ya.alloc{t:TypeId}(h:Ya w a c t)(o:Obj):Ya (w.alloc o) a c t:=h.below Yc
theorem VR.start(w:Y)(x0 x1 x2 y0 y1 y2:F):VR w ((((w.alloc<|.cells #[x0,x1,x2] 55).alloc<|.cells #[y0,y1,y2] 55).alloc<|.cells #[.bool false,E 0,S0] 55).alloc<|.cells #[.bool false,E 0,S0] 55) [x0,x1,x2] [y0,y1,y2] S0 []:=by
 have g3:Ya (w.alloc<|.cells #[x0,x1,x2] _) _ _ 55:=Go.Deep.blk_alloc_new w _;have g2:Ya ((w.alloc<|.cells #[x0,x1,x2] 55).alloc<|.cells #[y0,y1,y2] 55) (w.heap.size+1) [y0,y1,y2] 55:=by
  have:=Go.Deep.blk_alloc_new (w.alloc<|.cells #[x0,x1,x2] 55)<|.cells #[y0,y1,y2] 55;rwa [Sy]at this
 have g1:Ya (((w.alloc<|.cells #[x0,x1,x2] 55).alloc<|.cells #[y0,y1,y2] 55).alloc<|.cells #[.bool false,E 0,S0] 55) (w.heap.size+2) [.bool false,E 0,S0] 55:=by
  have:=Go.Deep.blk_alloc_new ((w.alloc<|.cells #[x0,x1,x2] 55).alloc<|.cells #[y0,y1,y2] 55)<|.cells #[.bool false,E 0,S0] 55;rwa [Sy,Sy]at this
 have g0:=Go.Deep.blk_alloc_new (((w.alloc<|.cells #[x0,x1,x2] 55).alloc<|.cells #[y0,y1,y2] 55).alloc<|.cells #[.bool false,E 0,S0] 55)<|.cells #[.bool false,E 0,S0] 55;rw[Sy,Sy,Sy]at g0;exact⟨Yh,((g3.alloc _).alloc _).alloc _,(g2.alloc _).alloc _,g1.alloc _,g0,Xm _ _ _ _⟩
theorem Tb(h:W.cell? p=some v)(o:Obj):(W.alloc o).cell? p=some v:=by rw[World.cell?_alloc_some _ _ _<|by rw[h];rfl];exact h
theorem Tc{a:Y}{r:Option Nat}(d:W.grownBy a r)(h:W.cell? p=some v)(c:some p.block≠r):a.cell? p=some v:=(d.cell_far p (Xi W p h) c).trans h
theorem VR.done(h:VR w wr xa ya (.slice va vn vc) os)(f:os.length<=1000000)(d:∀z∈os,V3 wr z):
 Ya (set3 wr (w.heap.size+2) (.bool false) (E 0)<|.slice va vn vc) (w.heap.size+2) [.bool false,E 0,.slice va vn vc] 55/\YM (set3 wr (w.heap.size+2) (.bool false) (E 0)<|.slice va vn vc) (.slice va vn vc) os/\BW w (set3 wr (w.heap.size+2) (.bool false) (E 0)<|.slice va vn vc):=by
 have g:Below _ w<|set3 _ _ (.bool false) (E 0)<|.slice va vn vc:=(((h.bel.setCell (by show w.heap.size<=w.heap.size+2;omega) _).setCell (by show w.heap.size<=w.heap.size+2;omega) _).setCell (by show w.heap.size<=w.heap.size+2;omega) _);refine⟨P5 h.rb,⟨ZJ (TX h.own) λj c=>OR λe=>ZD h.own h.rb N<|by rw[c,e],f,λz i=>?_⟩,g⟩;obtain⟨⟨qs,a⟩,k⟩:=d z i;exact⟨⟨qs,ZJ a.own λj c=>OR λe=>ZD a.own h.rb N<|by rw[c,e],a.say,a.len,a.ok⟩,k⟩
def NS(op:Nat)(n:Int)(z:F×El):F×El:=(z.1,z.2.1,YI op n z.2.2)
def NU(op:Nat)(n:Int)(z:F×El):F×El:=(z.1,z.2.1,YI op z.2.2 n)
theorem wZ(op:Nat)(a5:op<=3)(n:Int)(hn:YC n)(ea:Option Addr)(ec:Nat)(zs:List<|F×El)(w:Y)(h:YM w v zs)(c4:zs.length<=1000):
 CP 35 #[E op,.agg #[.bool true,E n,.slice ea 0 ec],.agg #[.bool false,E 0,v]] w λe r=>∃v',e=.returned (.agg #[.bool false,E 0,v'])/\U (YM r v'<|zs.map<|NS op n)/\BW w r:=by
 obtain⟨sa,sl,rfl⟩:=Zd h.own;have S:=I h;have T:=I hn;obtain⟨i0,hi,a6,a7,a8⟩:=Xv Tryz.infoREl;clear h hn;go_enter func35,ntmps35;go_upto_region 2 with fail;refine Zs λW0 V=>?_;have B:U<|VR w _ _ [.bool _,.int _ 0,.slice _ _ _] _ _:=V▸VR.start w _ _ _ _ _ _;clear V;have x0:=B.xb.cell 0;have y0:=B.yb.cell 0;simp only[Yf]at x0 y0;go_wp2;clear x0 y0;go_loopg [8] zs.length (λgk v8 wr=>∃(k:Nat)(vv:F),k<=zs.length/\gk=zs.length-k/\v8=E k/\U (VR w wr [.bool true,E n,.slice ea 0 ec] [.bool false,E 0,.slice sa zs.length sl] vv<|(zs.take k).map<|NS op n));case atStart=>exact⟨0,_,Yr _,C,C,B⟩
 case round=>
  clear B;obtain⟨k,vv,hk,c5,rfl,l⟩:=hrel;obtain⟨va,vc,Z⟩:=Zd l.own;have s:((zs.take k).map<|NS op n).length=k:=by rw[Yz,Xw];omega
  rw[s]at Z;subst Z;have y2:=l.yb.cell 2;simp only[Yf]at y2;by_cases D:k<zs.length
  .obtain⟨g,cpx,A⟩:=Zm S.own X;injection A with hg1 _ hg2;subst hg1 hg2;have H:=I<|S.below l.bel;have r0:=Zc H.own _ _<|by rw[(Te _ k).1,List.getElem?_eq_getElem D];rfl
   have r1:=Zc H.own _ _<|by rw[(Te _ k).2,List.getElem?_eq_getElem D];rfl
   have a9:=H.ok _<|List.getElem_mem D;have HT:U<|(zs.take<|k+1).map (NS op n)=(zs.take k).map (NS op n)++[NS op n zs[k]]:=by rw[List.take_succ_eq_append_getElem D,Xa];rfl
   have J:=ZN S.own;generalize zs[k]=z at*;obtain⟨zv,zl,zn⟩:=z;obtain⟨⟨qz,L⟩,a0⟩:=a9;have b3:U<|YC zn:=a0;simp only at r0 r1 L;obtain⟨lz,cz,rfl⟩:=Zd L.own;clear L a0;obtain⟨os,M⟩:∃os,os=(zs.take k).map (NS op n):=⟨_,C⟩;rw[<-M]at l s HT;obtain⟨n1,O⟩:∃n1,n1=k:=⟨_,C⟩;rw[<-O]at l s;have c3:n1<=1000:=X;have a1:=I s;obtain⟨XA,P⟩:∃XA:List F,XA=[.bool true,E n,.slice ea 0 ec]:=⟨_,C⟩;obtain⟨YA,Q⟩:∃YA:List F,YA=[.bool false,E 0,.slice (some ⟨g,0,none⟩) zs.length sl]:=⟨_,C⟩;have x1:=l.xb.cell 1;simp only[Yf]at x1;rw[<-P,<-Q]at l;have v2:=l.vb.cell 2;simp only[Yf]at v2;have b4:=I<|And.intro P Q;have c6:=I<|And.intro O M;have b5:=I J;have a2:=I λo=>by have:=l.own;rw[a1]at this;exact this.drew.alloc o
   have a3:U<|∀o,VR w (wr.drew.alloc o) _ _ _ _:=I λo=>l.below<|((Ym _ _).drew).alloc (Yj _) _;have b6:U<|∀o,(wr.drew.alloc o).heap[wr.heap.size]?=some o:=I λo=>Go.Deep.blk_alloc_new _ o;have c7:=l.vb.lt;clear P Q O M s J;have a4:wr.drew.cell? _=some _/\wr.drew.cell? _=some _/\wr.drew.cell? _=some _/\wr.drew.cell? _=some _/\wr.drew.cell? _=some _:=⟨y2,r0,r1,x1,v2⟩;have b7:U<|∀o,(wr.drew.cell? _=some (.slice (some ⟨g,0,none⟩) zs.length sl)/\wr.drew.cell? ⟨g,k*2,none⟩=some _/\wr.drew.cell? ⟨g,k*2+1,none⟩=some (E zn)/\wr.drew.cell? ⟨w.heap.size,1,none⟩=some (E n)/\wr.drew.cell? _=some _)->((wr.drew.alloc o).cell? ⟨w.heap.size+1,2,none⟩=some _/\(wr.drew.alloc o).cell? _=some (.slice lz qz.length cz)/\(wr.drew.alloc o).cell? _=some _/\(wr.drew.alloc o).cell? _=some _/\(wr.drew.alloc o).cell? ⟨w.heap.size+3,2,none⟩=some (.slice va n1 vc)):=I λo ⟨a,b,c,d,e⟩=>⟨Tb a o,Tb b o,Tb c o,Tb d o,Tb e o⟩;have b8:U<|∀W t:Y,(W.cell? ⟨w.heap.size+1,2,none⟩=some (.slice (some ⟨g,0,none⟩) zs.length sl)/\W.cell? ⟨g,k*2,none⟩=some (.slice lz qz.length cz)/\W.cell? ⟨g,k*2+1,none⟩=some (E zn)/\W.cell? ⟨w.heap.size,1,none⟩=some (E n)/\W.cell? ⟨w.heap.size+3,2,none⟩=some (.slice va n1 vc))->W.grownBy _ _->(t.cell? _=some _/\t.cell? _=some _/\t.cell? _=some _/\t.cell? _=some _/\t.cell? _=some _):=I λW t ⟨a,b,c,d,e⟩ A=>by
    have x:∀j,j<w.heap.size+4->some j≠(Value.slice _ _ _).ownBlock:=λj hj he=>by have:=(l.own.lt j he.symm).1;omega
    have:=b5.o;exact⟨Tc A a<|x _<|by show w.heap.size+1<_;omega,Tc A b<|x _<|by show g<_;omega,Tc A c<|x _<|by show g<_;omega,Tc A d<|x _<|by show w.heap.size<_;omega,Tc A e<|x _<|by show w.heap.size+3<_;omega⟩
   clear r0 r1 x1 v2;go_upto_region 10 with fail;clear y2;refine ZW 22 (λr=>r.cell? _=some _/\r.cell? _=some _/\r.cell? _=some _/\r.cell? _=some _/\r.cell? _=some _) Kr (a4) λf=>?_;clear a4;refine Za 0 f (h:=Za 1 f (h:=Za 2 f (h:=Za 3 f (h:=Za 4 f (h:=Za 5 f (h:=Za 6 f (h:=Za 7 f (h:=Za 8 f (h:=Za 9 f (h:=Za 10 f (h:=Za 11 f (h:=Za 12 f (h:=Za 13 f (h:=Za 14 f (h:=Za 15 f (h:=Za 16 f (h:=?_)))))))))))))))));refine Zz (i:=17) Kr C λK p=>?_;go_simp;refine(Jk a5 n _ T b3 _).m ?_;rintro e t ⟨rfl,rfl⟩;go_simp;refine p _ _ f λf=>?_;clear p K;try simp only[Act.put,Yt]
   refine Za 18 f (h:=?_);refine Zz (i:=19) Kr C λK p=>?_;go_simp;refine p _ _ (b7 _ f) λf=>?_;clear p K;try simp only[Act.put,Yt]
   refine Zz (i:=20) Kr C λK p=>?_;refine SY C _ _ _ C _ 118 _ _ 2 _ underlying53 hi a6 a7 a8 C N _ _ _ (by simp[Act.eval]) (a2.o _) ⟨wr.heap.size,0,none⟩ 1 1 [.slice lz qz.length cz,E<|YI op n zn] (by simp[Act.eval]) C ?h2 ?h3 ?h4 ?h5 ?h6 ?_;case h2=>first|exact Z1<|b6.o _|exact Z1 C|exact PW (by first|simp|exact(Ry _ _ _ _<|Sm).trans C)<|by first|simp|exact(Ry _ _ _ _<|Sm).trans C
   case h3=>intro u hu;simp at hu;rcases hu with rfl|rfl<;>rfl
   case h4=>unfold maxLen;omega
   case h5=>omega
   case h6=>simp;omega
   intro v1 t q m _;obtain⟨g1,cp1,b9⟩:=Zm q X;subst b9;have HN:U<|VR w _ XA YA (.slice (some ⟨g1,0,none⟩) (n1+1) cp1)<|os++[(.slice lz qz.length cz,zl,YI op n zn)]:=I<|(a3.o _).app (by exact m)<|by rw[PX,Yx,a1];exact q
   have R:=(a3 _).vb.ownGrown (a2 _) m N;have c0:=b8 _ _ (f)<|m;refine p _ _ c0 λf=>?_;clear p K;try simp only[Act.put,Yt]
   refine Za 21 f (h:=?_);refine ZS Kr Kr C Kr λK p=>?_;have y2:=R.cell 2;have yf:=R.frozen 2;simp only[Yf]at y2;clear R q m;go_simp;refine p _ _ ?_;clear p K;go_wp2;go_roundg (zs.length-(k+1));case measure=>omega
   case rel=>exact⟨k+1,_,X,C,by go_num,I<|by rw[HT];obtain⟨hX,hY⟩:=b4.o;rw[<-hX,<-hY];exact HN⟩
  .obtain rfl:k=zs.length:=X;rw[X1]at l;have b0:=l.vb.cell 0;have b1:=l.vb.cell 1;have b2:=l.vb.cell 2;have z0:=l.rb.frozen 0;have z1:=l.rb.frozen 1;have z2:=l.rb.frozen 2;have t0:=l.rb.cell 0;have t1:=l.rb.cell 1;have t2:=l.rb.cell 2;simp only[Yf]at b0 b1 b2 t0 t1 t2;have G:=I<|l.done (by rw[Yz];omega) λz hz=>by
     obtain⟨y,hy,rfl⟩:=XK.mp hz;have:=(S.ok y hy).below l.bel;exact⟨this.1,OW _ _ _ T⟩
   go_wp2;change bodyPost _ _ _ _ _<|set3 wr (w.heap.size+2) (.bool false) (E 0)<|.slice va zs.length vc;have s0:=G.1.cell 0;have s1:=G.1.cell 1;have s2:=G.1.cell 2;simp only[Yf]at s0 s1 s2;have c1:=I G.2.1;have c2:=I G.2.2;clear G;generalize set3 wr (w.heap.size+2) (.bool false) (E 0) (.slice va zs.length vc)=WX at*;exact YQ (by simp[results,results35,go_sem,s0,s1,s2]) C ⟨.slice _ _ _,C,c1,c2⟩
theorem vd(op:Nat)(a4:op<=3)(n:Int)(hn:YC n)(ea:Option Addr)(ec:Nat)(zs:List<|F×El)(w:Y)(h:YM w v zs)(c4:zs.length<=1000):
 CP 35 #[E op,.agg #[.bool false,E 0,v],.agg #[.bool true,E n,.slice ea 0 ec]] w λe r=>∃v',e=.returned (.agg #[.bool false,E 0,v'])/\U (YM r v'<|zs.map<|NU op n)/\BW w r:=by
 obtain⟨sa,sl,rfl⟩:=Zd h.own;have S:=I h;have a5:=I hn;obtain⟨i0,hi,a6,a7,a8⟩:=Xv Tryz.infoREl;clear h hn;go_enter func35,ntmps35;go_upto_region 2 with fail;refine Zs λW0 T=>?_;have B:U<|VR w _ [.bool _,.int _ 0,.slice _ _ _] _ _ _:=T▸VR.start w _ _ _ _ _ _;clear T;have x0:=B.xb.cell 0;have y0:=B.yb.cell 0;simp only[Yf]at x0 y0;go_wp2;clear x0 y0;go_loopg [9] zs.length (λgk v8 wr=>∃(k:Nat)(vv:F),k<=zs.length/\gk=zs.length-k/\v8=E k/\U (VR w wr [.bool false,E 0,.slice sa zs.length sl] [.bool true,E n,.slice ea 0 ec] vv<|(zs.take k).map<|NU op n));case atStart=>exact⟨0,_,Yr _,C,C,B⟩
 case round=>
  clear B;obtain⟨k,vv,hk,c5,rfl,l⟩:=hrel;obtain⟨va,vc,V⟩:=Zd l.own;have s:((zs.take k).map<|NU op n).length=k:=by rw[Yz,Xw];omega
  rw[s]at V;subst V;have y2:=l.xb.cell 2;have y0:=l.yb.cell 0;simp only[Yf]at y2 y0;by_cases D:k<zs.length
  .obtain⟨g,cpx,A⟩:=Zm S.own X;injection A with hg1 _ hg2;subst hg1 hg2;have H:=I<|S.below l.bel;have r0:=Zc H.own _ _<|by rw[(Te _ k).1,List.getElem?_eq_getElem D];rfl
   have r1:=Zc H.own _ _<|by rw[(Te _ k).2,List.getElem?_eq_getElem D];rfl
   have a9:=H.ok _<|List.getElem_mem D;have HT:U<|(zs.take<|k+1).map (NU op n)=(zs.take k).map (NU op n)++[NU op n zs[k]]:=by rw[List.take_succ_eq_append_getElem D,Xa];rfl
   have J:=ZN S.own;generalize zs[k]=z at*;obtain⟨zv,zl,zn⟩:=z;obtain⟨⟨qz,L⟩,Z⟩:=a9;have b3:U<|YC zn:=Z;simp only at r0 r1 L;obtain⟨lz,cz,rfl⟩:=Zd L.own;clear L Z;obtain⟨os,M⟩:∃os,os=(zs.take k).map (NU op n):=⟨_,C⟩;rw[<-M]at l s HT;obtain⟨n1,O⟩:∃n1,n1=k:=⟨_,C⟩;rw[<-O]at l s;have c3:n1<=1000:=X;have a0:=I s;obtain⟨XA,P⟩:∃XA:List F,XA=[.bool false,E 0,.slice (some ⟨g,0,none⟩) zs.length sl]:=⟨_,C⟩;obtain⟨YA,Q⟩:∃YA:List F,YA=[.bool true,E n,.slice ea 0 ec]:=⟨_,C⟩;have x1:=l.yb.cell 1;simp only[Yf]at x1;rw[<-P,<-Q]at l;have v2:=l.vb.cell 2;simp only[Yf]at v2;have b4:=I<|And.intro P Q;have c6:=I<|And.intro O M;have b5:=I J;have a1:=I λo=>by have:=l.own;rw[a0]at this;exact this.drew.alloc o
   have a2:U<|∀o,VR w (wr.drew.alloc o) _ _ _ _:=I λo=>l.below<|((Ym _ _).drew).alloc (Yj _) _;have b6:U<|∀o,(wr.drew.alloc o).heap[wr.heap.size]?=some o:=I λo=>Go.Deep.blk_alloc_new _ o;have c7:=l.vb.lt;clear P Q O M s J;have a3:wr.drew.cell? _=some _/\wr.drew.cell? _=some _/\wr.drew.cell? _=some _/\wr.drew.cell? _=some _/\wr.drew.cell? _=some _:=⟨y2,r0,r1,x1,v2⟩;have b7:U<|∀o,(wr.drew.cell? _=some (.slice (some ⟨g,0,none⟩) zs.length sl)/\wr.drew.cell? ⟨g,k*2,none⟩=some _/\wr.drew.cell? _=some (E zn)/\wr.drew.cell? _=some (E n)/\wr.drew.cell? _=some _)->((wr.drew.alloc o).cell? ⟨w.heap.size,2,none⟩=some _/\(wr.drew.alloc o).cell? _=some (.slice lz qz.length cz)/\(wr.drew.alloc o).cell? ⟨g,k*2+1,none⟩=some _/\(wr.drew.alloc o).cell? ⟨w.heap.size+1,1,none⟩=some _/\(wr.drew.alloc o).cell? ⟨w.heap.size+3,2,none⟩=some (.slice va n1 vc)):=I λo ⟨a,b,c,d,e⟩=>⟨Tb a o,Tb b o,Tb c o,Tb d o,Tb e o⟩;have b8:U<|∀W t:Y,(W.cell? ⟨w.heap.size,2,none⟩=some (.slice (some ⟨g,0,none⟩) zs.length sl)/\W.cell? ⟨g,k*2,none⟩=some (.slice lz qz.length cz)/\W.cell? ⟨g,k*2+1,none⟩=some (E zn)/\W.cell? ⟨w.heap.size+1,1,none⟩=some (E n)/\W.cell? ⟨w.heap.size+3,2,none⟩=some (.slice va n1 vc))->W.grownBy _ _->(t.cell? _=some _/\t.cell? _=some _/\t.cell? _=some _/\t.cell? _=some _/\t.cell? _=some _):=I λW t ⟨a,b,c,d,e⟩ A=>by
    have x:∀j,j<w.heap.size+4->some j≠(Value.slice _ _ _).ownBlock:=λj hj he=>by have:=(l.own.lt j he.symm).1;omega
    have:=b5.o;exact⟨Tc A a<|x _<|by show w.heap.size<_;omega,Tc A b<|x _<|by show g<_;omega,Tc A c<|x _<|by show g<_;omega,Tc A d<|x _<|by show w.heap.size+1<_;omega,Tc A e<|x _<|by show w.heap.size+3<_;omega⟩
   clear r0 r1 x1 v2;go_upto_region 16 with fail;clear y2 y0;refine ZW 22 (λr=>r.cell? _=some _/\r.cell? _=some _/\r.cell? _=some _/\r.cell? _=some _/\r.cell? _=some _) Kr (a3) λf=>?_;clear a3;refine Za 0 f (h:=Za 1 f (h:=Za 2 f (h:=Za 3 f (h:=Za 4 f (h:=Za 5 f (h:=Za 6 f (h:=Za 7 f (h:=Za 8 f (h:=Za 9 f (h:=Za 10 f (h:=Za 11 f (h:=Za 12 f (h:=Za 13 f (h:=Za 14 f (h:=Za 15 f (h:=Za 16 f (h:=?_)))))))))))))))));refine Zz (i:=17) Kr C λK p=>?_;go_simp;refine(Jk a4 _ n b3 a5 _).m ?_;rintro e t ⟨rfl,rfl⟩;go_simp;refine p _ _ f λf=>?_;clear p K;try simp only[Act.put,Yt]
   refine Za 18 f (h:=?_);refine Zz (i:=19) Kr C λK p=>?_;go_simp;refine p _ _ (b7 _ f) λf=>?_;clear p K;try simp only[Act.put,Yt]
   refine Zz (i:=20) Kr C λK p=>?_;refine SY C _ _ 53 C _ 118 _ _ 2 _ underlying53 hi a6 a7 a8 C N _ _ _ (by simp[Act.eval]) (a1.o _) ⟨wr.heap.size,0,none⟩ 1 1 [.slice lz qz.length cz,E<|YI op zn n] (by simp[Act.eval]) C ?h2 ?h3 ?h4 ?h5 ?h6 ?_;case h2=>first|exact Z1<|b6.o _|exact Z1 C|exact PW (by first|simp|exact(Ry _ _ _ _<|Sm).trans C)<|by first|simp|exact(Ry _ _ _ _<|Sm).trans C
   case h3=>intro u hu;simp at hu;rcases hu with rfl|rfl<;>rfl
   case h4=>unfold maxLen;omega
   case h5=>omega
   case h6=>simp;omega
   intro v1 t q m _;obtain⟨g1,cp1,b9⟩:=Zm q X;subst b9;have HN:U<|VR w _ XA YA (.slice (some ⟨g1,0,none⟩) (n1+1) cp1)<|os++[(.slice lz qz.length cz,zl,YI op zn n)]:=I<|(a2.o _).app (by exact m)<|by rw[PX,Yx,a0];exact q
   have R:=(a2 _).vb.ownGrown (a1 _) m N;have c0:=b8 _ _ (f)<|m;refine p _ _ c0 λf=>?_;clear p K;try simp only[Act.put,Yt]
   refine Za 21 f (h:=?_);refine ZS Kr Kr C Kr λK p=>?_;have y2:=R.cell 2;have yf:=R.frozen 2;simp only[Yf]at y2;clear R q m;go_simp;refine p _ _ ?_;clear p K;go_wp2;go_roundg (zs.length-(k+1));case measure=>omega
   case rel=>exact⟨k+1,_,X,C,by go_num,I<|by rw[HT];obtain⟨hX,hY⟩:=b4.o;rw[<-hX,<-hY];exact HN⟩
  .obtain rfl:k=zs.length:=X;rw[X1]at l;have b0:=l.vb.cell 0;have b1:=l.vb.cell 1;have b2:=l.vb.cell 2;have z0:=l.rb.frozen 0;have z1:=l.rb.frozen 1;have z2:=l.rb.frozen 2;have t0:=l.rb.cell 0;have t1:=l.rb.cell 1;have t2:=l.rb.cell 2;simp only[Yf]at b0 b1 b2 t0 t1 t2;have G:=I<|l.done (by rw[Yz];omega) λz hz=>by
     obtain⟨y,hy,rfl⟩:=XK.mp hz;have:=(S.ok y hy).below l.bel;exact⟨this.1,OW _ _ _ this.2⟩
   go_wp2;change bodyPost _ _ _ _ _<|set3 wr (w.heap.size+2) (.bool false) (E 0)<|.slice va zs.length vc;have s0:=G.1.cell 0;have s1:=G.1.cell 1;have s2:=G.1.cell 2;simp only[Yf]at s0 s1 s2;have c1:=I G.2.1;have c2:=I G.2.2;clear G;generalize set3 wr (w.heap.size+2) (.bool false) (E 0) (.slice va zs.length vc)=WX at*;exact YQ (by simp[results,results35,go_sem,s0,s1,s2]) C ⟨.slice _ _ _,C,c1,c2⟩
def OY(zl:List Xc)(f:F×El):Bool:=decide<|Yy zl=Yy f.2.1
def FV(op:Nat)(ys:List<|F×El)(z:F×El):List<|F×El:=(ys.filter<|OY z.2.1).map λf=>(z.1,z.2.1,YI op z.2.2 f.2.2)
theorem IP(op:Nat)(ys:List<|F×El):∀l:List<|F×El,(l.flatMap<|FV op ys).length<=l.length*ys.length
 |[]=>by simp
 |z::l=>by
  rw[Kl,Yx,Y1,Nat.succ_mul];have a:=IP op ys l;have c:(FV op ys z).length<=ys.length:=by unfold FV;rw[Yz];exact Qp _ _
  omega
theorem tJ{α β:Type}(f:α->List β){l:List α}(k:Nat)(h:k<l.length):(l.take<|k+1).flatMap f=(l.take k).flatMap f++f l[k]:=by
 rw[List.take_succ_eq_append_getElem h,List.flatMap_append];simp
theorem sf{α:Type}(p:α->Bool){l:List α}(k:Nat)(h:k<l.length):(l.take<|k+1).filter p=(l.take k).filter p++(if p l[k]then[l[k]]else[]):=by
 rw[List.take_succ_eq_append_getElem h,N7];congr 1;by_cases a:p l[k]=true
 .rw[Ye a,NY a];rfl
 .rw[Yd a,N4 a];rfl
theorem vI{xs ys:List<|F×El}(d:∀z∈xs,V3 w z):∀z∈xs.flatMap<|FV op ys,V3 w z:=by
 intro z e;obtain⟨x,c,a⟩:=List.mem_flatMap.1 e;unfold FV at a;obtain⟨f,_,rfl⟩:=XK.1 a;have:=d x c;exact⟨this.1,OW _ _ _ this.2⟩
def SV(w:Y)(g gy i j xl sl yl tl:Nat)(zv:F)(zn yn:Int)(vv:F)(w':Y):Prop:=w'.cell? ⟨w.heap.size,2,none⟩=some (.slice (some ⟨g,0,none⟩) xl sl)/\w'.cell? ⟨g,i*2,none⟩=some zv/\w'.cell? ⟨g,i*2+1,none⟩=some (E zn)/\w'.cell? ⟨w.heap.size+1,2,none⟩=some (.slice (some ⟨gy,0,none⟩) yl tl)/\w'.cell? ⟨gy,j*2+1,none⟩=some (E yn)/\w'.cell? ⟨w.heap.size+3,2,none⟩=some vv
theorem wY(op:Nat)(a:op<=3)(m n:Int)(c:YC m)(d:YC n)(ea fa:Option Addr)(ec fc:Nat)(w:Y):
 CP 35 #[E op,.agg #[.bool true,E m,.slice ea 0 ec],.agg #[.bool true,E n,.slice fa 0 fc]] w λe u=>e=.returned (.agg #[.bool true,E<|YI op m n,S0])/\BW w u:=by
 have f:=I λW=>Jk a m n c d W;clear c d;generalize YI op m n=tw at*;go_enter func35,ntmps35;go_wp2_with fail;refine(f _).m ?_;rintro e g ⟨rfl,rfl⟩;go_wp2;exact YQ (by simp[results,results35,go_sem]) C ⟨C,Yh⟩
theorem ve(op:Nat)(c7:op<=3){u:F}(xs ys:List<|F×El)(w:Y)(h:YM w v xs)(h2:YM w u ys)(c8:xs.length<=1000)(a9:ys.length<=1000):
 CP 35 #[E op,.agg #[.bool false,E 0,v],.agg #[.bool false,E 0,u]] w λe s=>∃v',e=.returned (.agg #[.bool false,E 0,v'])/\U (YM s v'<|xs.flatMap<|FV op ys)/\BW w s:=by
 obtain⟨sa,sl,rfl⟩:=Zd h.own;obtain⟨ta,tl,rfl⟩:=Zd h2.own;have T:=I h;have HY:=I h2;obtain⟨i0,hi,c9,d0,d1⟩:=Xv Tryz.infoREl;clear h h2;go_enter func35,ntmps35;go_upto_region 2 with fail;refine Zs λW0 b3=>?_;have H:U<|VR w _ [.bool _,.int _ 0,.slice _ _ _] [.bool _,.int _ 0,.slice _ _ _] _ _:=b3▸VR.start w _ _ _ _ _ _;clear b3;have x0:=H.xb.cell 0;have y0:=H.yb.cell 0;simp only[Yf]at x0 y0;go_wp2;clear x0 y0;go_loopg [9] xs.length (λgk v9 wr=>∃(i:Nat)(vv:F),i<=xs.length/\gk=xs.length-i/\v9=E i/\U (VR w wr [.bool false,E 0,.slice sa xs.length sl] [.bool false,E 0,.slice ta ys.length tl] vv<|(xs.take i).flatMap<|FV op ys));case atStart=>exact⟨0,_,Yr _,C,C,H⟩
 case round=>
  clear H;obtain⟨i,vv,e8,e9,rfl,l⟩:=hrel;obtain⟨va,vc,J⟩:=Zd l.own;subst J;have x2:=l.xb.cell 2;have y0:=l.yb.cell 0;simp only[Yf]at x2 y0;by_cases A:i<xs.length
  .obtain⟨g,cpx,B⟩:=Zm T.own X;injection B with hg1 _ hg2;subst hg1 hg2;have V:=I<|T.below l.bel;have r0:=Zc V.own _ _<|by rw[(Te _ i).1,List.getElem?_eq_getElem A];rfl
   have HR:U<|∀W:Y,W.ownsRow 0 118 2 (.slice _ _ sl) xs.length _->W.cell? ⟨g,i*2,none⟩=some (xs[i]).1/\W.cell? _=some (.int _ _):=I λW h=>⟨Zc h _ _<|by rw[(Te _ i).1,List.getElem?_eq_getElem A];rfl,Zc h _ _<|by rw[(Te _ i).2,List.getElem?_eq_getElem A];rfl⟩;have Z:=V.ok _<|List.getElem_mem A;have HT:=I<|tJ (FV op ys) i A;have a0:=ZN T.own;generalize xs[i]=z at*;obtain⟨zv,zl,zn⟩:=z;obtain⟨⟨qz,L⟩,b4⟩:=Z;have d2:U<|YC zn:=b4;simp only at r0 L HR;obtain⟨lz,cz,rfl⟩:=Zd L.own;have b5:=I L;have d3:=I a0;clear L b4 a0 V;go_wp2_with fail;refine(Nk _ _<|b5.o).m ?_;rintro e w2 ⟨kx,rfl,d4,n2,b6⟩;have a1:=I<|l.below<|b6▸Wn (Ym _ _) _;clear b6 x2 y0 r0 l b5;obtain⟨pre,t⟩:∃pre,pre=(xs.take i).flatMap (FV op ys):=⟨_,C⟩;have a8:pre.length<=i*ys.length:=by
    rw[t];have h1:=IP op ys<|xs.take i;rw[Xw,QR X]at h1;exact h1
   have d5:U<|pre.length<=1000000-1000:=I<|by
    have:i*ys.length<=999*1000:=Ig X a9;omega
   rw[<-t]at a1 HT;have e7:=I t;clear t a8;obtain⟨XA,a2⟩:∃XA:List F,XA=[.bool false,E 0,.slice (some ⟨g,0,none⟩) xs.length sl]:=⟨_,C⟩;obtain⟨YA,a3⟩:∃YA:List F,YA=[.bool false,E 0,.slice ta ys.length tl]:=⟨_,C⟩;rw[<-a2,<-a3]at a1;have M:=I<|And.intro a2 a3;clear a2 a3;go_wp2;go_loopg [11] ys.length (λgj v11 wr=>∃(j:Nat)(vv:F),j<=ys.length/\gj=ys.length-j/\v11=E j/\U (VR w wr XA YA vv<|pre++((ys.take j).filter<|OY zl).map λf=>(.slice lz qz.length cz,zl,YI op zn f.2.2)));case atStart=>exact⟨0,_,Yr _,C,C,I<|by rwa [List.take_zero,Ix,N8,Ud]⟩
   case round=>
    clear a1;obtain⟨j,vv,hj,f0,rfl,l⟩:=hrel;have y2:=l.yb.cell 2;rw[M.2]at y2;simp only[Yf]at y2;by_cases O:j<ys.length
    .obtain⟨gy,cpy,d6⟩:=Zm HY.own X;injection d6 with hgy1 _ hgy2;subst hgy1 hgy2;have D:=I<|HY.below l.bel;have q0:=Zc D.own _ _<|by rw[(Te _ j).1,List.getElem?_eq_getElem O];rfl
     have q1:=Zc D.own _ _<|by rw[(Te _ j).2,List.getElem?_eq_getElem O];rfl
     have Z:=D.ok _<|List.getElem_mem O;have p:=I<|sf (OY zl) j O;have a4:=ZN D.own;have a5:=ZN HY.own;generalize ys[j]=y at*;obtain⟨yv,yl,yn⟩:=y;obtain⟨⟨qy,P⟩,b7⟩:=Z;have d7:U<|YC yn:=b7;simp only at q0 q1 P p;obtain⟨ly,cy,rfl⟩:=Zd P.own;have b8:=I P;have d8:=I a5;clear P b7 a5 D;obtain⟨os,Q⟩:∃os,os=pre++((ys.take j).filter<|OY zl).map λf=>((.slice lz qz.length cz,zl,YI op zn f.2.2):F×El):=⟨_,C⟩;have c6:os.length<=1000000:=by
      rw[Q,Yx,Yz];have h1:=Qp (OY zl)<|ys.take j;rw[Xw]at h1;have:=d5.o;omega
     rw[<-Q]at l;have b9:=I Q;clear Q;go_wp2_with fail;refine(Nk _ _<|b8.o).m ?_;rintro e G ⟨ux,rfl,d9,n4,c0⟩;have a6:Below wr.heap.size _ _:=c0▸Wn (Ym _ _) _;have m:=I<|l.below a6;have q14:=(a6.cell a4).trans q1;clear c0 a6 y2 q0 q1 l b8 a4;have c1:U<|(kx.toList==ux.toList)=OY zl (.slice ly qy.length cy,yl,yn):=by rw[Nm,d9,d4];unfold OY;rfl
     cases hm:OY zl (.slice ly qy.length cy,yl,yn)with
     |false=>
      have he:(kx.toList==ux.toList)=false:=by rw[c1,hm]
      rw[hm]at p;rw[Yd N,Ud]at p;go_wp2;go_roundg (ys.length-(j+1));case measure=>omega
      case rel=>exact⟨j+1,vv,X,C,by go_num,I<|by rwa [p.o,<-b9.o]⟩
     |true=>
      have he:(kx.toList==ux.toList)=true:=by rw[c1,hm]
      rw[hm]at p;rw[Ye C]at p;obtain⟨n1,R⟩:∃n1,n1=os.length:=⟨_,C⟩;rw[<-R]at c6;obtain⟨va,vc,J⟩:=Zd m.own;rw[<-R]at J;subst J;have c2:U<|os.length=n1:=I R.symm;clear R;obtain⟨R0,R1⟩:=HR.o G (T.below m.bel).own;have x2:=m.xb.cell 2;have y2:=m.yb.cell 2;have v2:=m.vb.cell 2;rw[M.1]at x2;rw[M.2]at y2;simp only[Yf]at x2 y2 v2;have c3:=I λo=>by have:=m.own;rw[c2]at this;exact this.drew.alloc o
      have c4:U<|∀o,VR w (G.drew.alloc o) _ _ _ _:=I λo=>m.below<|((Ym _ _).drew).alloc (Yj _) _;have e0:U<|∀o,(G.drew.alloc o).heap[G.heap.size]?=some o:=I λo=>Go.Deep.blk_alloc_new _ o;have f1:=m.vb.lt;have c5:SV w g _ i j _ _ _ _ _ _ _ _ G.drew:=⟨x2,R0,R1,y2,q14,v2⟩;have e1:U<|∀o,SV w g _ i j xs.length sl _ _ (.slice lz qz.length cz) zn _ _ G.drew->SV w g gy i j _ _ ys.length tl _ _ yn (.slice va n1 vc) _:=I λo ⟨a,b,c,d,e,f⟩=>⟨Tb a o,Tb b o,Tb c o,Tb d o,Tb e o,Tb f o⟩;have e2:U<|∀W w1:Y,SV w g gy i j xs.length sl ys.length tl (.slice lz qz.length cz) zn yn (.slice va n1 vc) W->W.grownBy _ _->SV w g _ i j _ _ _ _ _ _ _ _ w1:=I λW w1 ⟨a,b,c,d,e,f⟩ B=>by
       have r:∀j,j<w.heap.size+4->some j≠(Value.slice _ _ _).ownBlock:=λj hj he=>by have:=(m.own.lt j he.symm).1;omega
       have:=d3.o;have:=d8.o;exact⟨Tc B a<|r _<|by show w.heap.size<_;omega,Tc B b<|r _<|by show g<_;omega,Tc B c<|r _<|by show g<_;omega,Tc B d<|r _<|by show w.heap.size+1<_;omega,Tc B e<|r _<|by show gy<_;omega,Tc B f<|r _<|by show w.heap.size+3<_;omega⟩
      clear R0 R1 x2 y2 v2 q14;go_upto_region 23 with fail;refine ZW 26 (λs=>s.cell? _=some _/\s.cell? _=some _/\s.cell? _=some _/\s.cell? _=some _/\s.cell? _=some _/\s.cell? _=some _) Kr (c5) λk=>?_;clear c5;refine Za 0 k (h:=Za 1 k (h:=Za 2 k (h:=Za 3 k (h:=Za 4 k (h:=Za 5 k (h:=Za 6 k (h:=Za 7 k (h:=Za 8 k (h:=Za 9 k (h:=Za 10 k (h:=Za 11 k (h:=Za 12 k (h:=Za 13 k (h:=Za 14 k (h:=Za 15 k (h:=Za 16 k (h:=Za 17 k (h:=Za 18 k (h:=Za 19 k (h:=Za 20 k (h:=?_)))))))))))))))))))));refine Zz (i:=21) Kr C λK q=>?_;go_simp;refine(Jk c7 _ _ d2 d7 _).m ?_;rintro e w1 ⟨rfl,rfl⟩;go_simp;refine q _ _ k λk=>?_;clear q K;try simp only[Act.put,Yt]
      refine Za 22 k (h:=?_);refine Zz (i:=23) Kr C λK q=>?_;go_simp;refine q _ _ (e1 _ k) λk=>?_;clear q K;try simp only[Act.put,Yt]
      refine Zz (i:=24) Kr C λK q=>?_;refine SY C _ _ 53 C _ 118 i0 _ 2 32 underlying53 hi c9 d0 d1 C N _ _ _ (by simp[Act.eval]) (c3.o _) ⟨G.heap.size,0,none⟩ 1 1 [.slice lz qz.length cz,E<|YI op zn yn] (by simp[Act.eval]) C ?h2 ?h3 ?h4 ?h5 ?h6 ?_;case h2=>first|exact Z1<|e0.o _|exact Z1 C|exact PW (by first|simp|exact(Ry _ _ _ _<|Sm).trans C)<|by first|simp|exact(Ry _ _ _ _<|Sm).trans C
      case h3=>intro u hu;simp at hu;rcases hu with rfl|rfl<;>rfl
      case h4=>unfold maxLen;omega
      case h5=>omega
      case h6=>simp;omega
      intro v1 w1 x n _;obtain⟨g1,cp1,e3⟩:=Zm x X;subst e3;have HN:U<|VR w _ XA YA (.slice (some ⟨g1,0,none⟩) (n1+1) cp1)<|os++[(.slice lz qz.length cz,zl,YI op zn yn)]:=I<|(c4.o _).app (by exact n)<|by rw[PX,Yx,c2];exact x
      have a7:=(c4 _).vb.ownGrown (c3 _) n N;have e4:=e2 _ _ (k)<|n;refine q _ _ e4 λk=>?_;clear q K;try simp only[Act.put,Yt]
      refine Za 25 k (h:=?_);refine ZS Kr Kr C Kr λK q=>?_;have y2:=a7.cell 2;have yf:=a7.frozen 2;simp only[Yf]at y2;clear a7 x n;go_simp;refine q _ _ ?_;clear q K;go_wp2;go_roundg (ys.length-(j+1));case measure=>omega
      case rel=>exact⟨j+1,_,X,C,by go_num,I<|by rwa [p.o,Xa,<-Vd,<-b9.o]⟩
    .obtain rfl:j=ys.length:=X;rw[X1]at l;go_wp2;go_roundg (xs.length-(i+1));case measure=>omega
     case rel=>exact⟨i+1,vv,X,C,by go_num,I<|by rw[HT];obtain⟨hX,hY⟩:=M.o;rw[<-hX,<-hY];exact l⟩
  .obtain rfl:i=xs.length:=X;rw[X1]at l;have b0:=l.vb.cell 0;have b1:=l.vb.cell 1;have b2:=l.vb.cell 2;have z0:=l.rb.frozen 0;have z1:=l.rb.frozen 1;have z2:=l.rb.frozen 2;have t0:=l.rb.cell 0;have t1:=l.rb.cell 1;have t2:=l.rb.cell 2;simp only[Yf]at b0 b1 b2 t0 t1 t2;have S:=I<|l.done (by
   have h1:=IP op ys xs;have:=Ig c8 a9;omega)<|vI λz hz=>(T.ok z hz).below l.bel;generalize(xs.flatMap<|FV op ys).length=nn at*;go_wp2;change bodyPost _ _ _ _ _<|set3 wr (w.heap.size+2) (.bool false) (E 0)<|.slice va nn vc;have s0:=S.1.cell 0;have s1:=S.1.cell 1;have s2:=S.1.cell 2;simp only[Yf]at s0 s1 s2;have e5:=I S.2.1;have e6:=I S.2.2;clear S;generalize set3 wr (w.heap.size+2) (.bool false) (E 0) (.slice va nn vc)=WX at*;exact YQ (by simp[results,results35,go_sem,s0,s1,s2]) C ⟨.slice _ _ _,C,e5,e6⟩
theorem YM.set(h:YM W v zs)(k:Ya W a c 55)(i:Nat)(u:F):YM (W.setCell ⟨a,i,none⟩ u) v zs:=by
 have g:∀j,j≠a->(W.setCell ⟨a,i,none⟩ u).heap[j]?=W.heap[j]?:=λj d=>Go.Deep.blk_setCell_other _ _ _ _ d;refine⟨ZJ h.own λj d=>g j λe=>ZD h.own k N<|by rw[d,e],h.len,λz l=>?_⟩;obtain⟨⟨qs,f⟩,m⟩:=h.ok z l;exact⟨⟨qs,ZJ f.own λj d=>g j λe=>ZD f.own k N<|by rw[d,e],f.say,f.len,f.ok⟩,m⟩
structure SG (w wr:Y)(xa:List F)(vv:F)(rs:List<|F×El):Prop where
 bel:BW w wr
 xb:Ya wr w.heap.size xa 55
 rb:Ya wr (w.heap.size+1) [.bool false,E 0,S0] 55
 vb:Ya wr (w.heap.size+2) [.bool false,E 0,vv] 55
 els:YM wr vv rs
theorem SG.below(h:SG w wr xa vv rs)(a:BW wr w'):SG w w' xa vv rs:=
 ⟨h.bel.trans<|a.mono h.bel.size,h.xb.below a,h.rb.below a,h.vb.below a,h.els.below a⟩
theorem SG.put{rs':List<|F×El}(h:SG w wr xa vv rs)(d:YM wr v' rs'):SG w (wr.setCell ⟨w.heap.size+2,2,none⟩ v') xa v' rs':=by
 have a:∀j,j≠w.heap.size+2->(wr.setCell ⟨w.heap.size+2,2,none⟩ v').heap[j]?=wr.heap[j]?:=λj e=>Go.Deep.blk_setCell_other _ _ _ _ e;refine⟨h.bel.setCell (by show w.heap.size<=w.heap.size+2;omega) _,(a _ X).trans h.xb,(a _ X).trans h.rb,?_,d.set h.vb 2 _⟩;have c:=h.vb;unfold Ya at c⊢;simp only[World.setCell,V4,c,VE,Wr];rfl
theorem SG.done(h:SG w wr xa (.slice va vn vc) rs):
 Ya (set3 wr (w.heap.size+1) (.bool false) (E 0)<|.slice va vn vc) (w.heap.size+1) [.bool false,E 0,.slice va vn vc] 55/\YM (set3 wr (w.heap.size+1) (.bool false) (E 0)<|.slice va vn vc) (.slice va vn vc) rs/\BW w (set3 wr (w.heap.size+1) (.bool false) (E 0)<|.slice va vn vc):=by
 refine⟨P5 h.rb,?_,(((h.bel.setCell (by show w.heap.size<=w.heap.size+1;omega) _).setCell (by show w.heap.size<=w.heap.size+1;omega) _).setCell (by show w.heap.size<=w.heap.size+1;omega) _)⟩;have e:=h.els;refine⟨ZJ e.own λj c=>OR λe'=>ZD e.own h.rb N<|by rw[c,e'],e.len,λz d=>?_⟩;obtain⟨⟨qs,a⟩,f⟩:=e.ok z d;exact⟨⟨qs,ZJ a.own λj c=>OR λe'=>ZD a.own h.rb N<|by rw[c,e'],a.say,a.len,a.ok⟩,f⟩
theorem SG.start(w:Y)(x0 x1 x2:F):SG w (((w.alloc<|.cells #[x0,x1,x2] 55).alloc<|.cells #[.bool false,E 0,S0] 55).alloc<|.cells #[.bool false,E 0,S0] 55) [x0,x1,x2] S0 []:=by
 have g3:Ya (w.alloc<|.cells #[x0,x1,x2] _) _ _ 55:=Go.Deep.blk_alloc_new w _;have g2:Ya ((w.alloc<|.cells #[x0,x1,x2] 55).alloc<|.cells #[.bool false,E 0,S0] 55) (w.heap.size+1) [.bool false,E 0,S0] 55:=by
  have:=Go.Deep.blk_alloc_new (w.alloc<|.cells #[x0,x1,x2] 55)<|.cells #[.bool false,E 0,S0] 55;rwa [Sy]at this
 have g0:=Go.Deep.blk_alloc_new ((w.alloc<|.cells #[x0,x1,x2] 55).alloc<|.cells #[.bool false,E 0,S0] 55)<|.cells #[.bool false,E 0,S0] 55;rw[Sy,Sy]at g0;exact⟨Yh,(g3.alloc _).alloc _,g2.alloc _,g0,⟨Xm _ _ _ _,Sm,Sm⟩⟩
theorem DG {op:Nat}{bs:List<|LB}{all:List El}(e:El):∀(l pre:List El),Vx op bs all pre (l++[e])=Vx op bs all pre l++(if(pre++l).any λf=>decide<|Yy (Zp f.1 bs)=Yy (Zp e.1 bs)then[]else[(Zp e.1 bs,YZ (T1 op ((all.filter λf=>decide<|Yy (Zp f.1 bs)=Yy (Zp e.1 bs)).map (·.2))))])
 |[],pre=>by simp only[O9,Vx,Ud]
 |x::l,pre=>by
  rw[Ok,Vx,Vx,DG e l _,Vd,Vd];rfl
def T5(bs:List<|LB)(zl:List Xc)(z:F×El):Bool:=decide<|Yy (Zp z.2.1 bs)=Yy (Zp zl bs)
theorem fM{α:Type}{p:α->Bool}{l:List α}(h:k<l.length):(l.take<|k+1).any p=((l.take k).any p||p l[k]):=by
 rw[List.take_succ_eq_append_getElem h,List.any_append];simp
theorem fN{α:Type}(p:α->Bool){l:List α}(k:Nat)(h:k<l.length):(l.take<|k+1).filter p=(l.take k).filter p++(if p l[k]then[l[k]]else[]):=by
 rw[List.take_succ_eq_append_getElem h,N7];congr 1;by_cases a:p l[k]=true
 .rw[Ye a,NY a];rfl
 .rw[Yd a,N4 a];rfl
theorem qM(op:Nat)(i9:op<=3)(bv:F)(ns:List BA)(zs:List<|F×El)(w:Y)(p:Ul w bv ns)(h:YM w v zs)(f6:zs.length<=1000):
 CP 37 #[E op,bv,.agg #[.bool false,E 0,v]] w λe r=>∃(v':F)(rs:List<|F×El),e=.returned (.agg #[.bool false,E 0,v'])/\U (YM r v' rs)/\U (rs.map (·.2)=SA op (ns.map bl) (zs.map (·.2)))/\BW w r:=by
 obtain⟨sa,sl,rfl⟩:=Zd h.own;obtain⟨ba,bc,rfl⟩:=Zd p.own;have HS:=I h;have HN:=I p;obtain⟨i0,hi,f7,f8,f9⟩:=Xv Tryz.infoRSample;clear h p;go_enter func37,ntmps37;go_upto_region 2 with fail;refine Zs λW0 d3=>?_;have d4:U<|SG w _ [.bool _,.int _ 0,.slice _ _ _] _ _:=d3▸SG.start w _ _ _;clear d3;go_wp2;go_loopg [8] zs.length (λgk v8 wr=>∃(i:Nat)(vv:F)(rs:List<|F×El),i<=zs.length/\gk=zs.length-i/\v8=E i/\U (SG w wr [.bool false,E 0,.slice sa zs.length sl] vv rs)/\U (rs.map (·.2)=(Vx op (ns.map bl) (zs.map (·.2)) [] ((zs.map (·.2)).take i)).foldl V7 [])/\U (rs.length<=i));case atStart=>exact⟨0,_,[],Yr _,C,C,d4,I C,I<|Yj _⟩
 case round=>
  clear d4;obtain⟨i,vv,rs,j0,j1,rfl,d,HG,a2⟩:=hrel;have x2:=d.xb.cell 2;simp only[Yf]at x2;by_cases a4:i<zs.length
  .obtain⟨g,cpx,hg⟩:=Zm HS.own X;injection hg with hg1 _ hg2;subst hg1 hg2;have l:=I<|HS.below d.bel;have r0:=Zc l.own _ _<|by rw[(Te _ i).1,List.getElem?_eq_getElem a4];rfl
   have a5:=l.ok _<|List.getElem_mem a4;have a6:U (Vx op (ns.map bl) (zs.map (·.2)) [] ((zs.map (·.2)).take<|i+1)=Vx op (ns.map bl) (zs.map (·.2)) [] ((zs.map (·.2)).take i)++(if(zs.take i).any<|T5 (ns.map bl) (zs[i]).2.1then[]else[(Zp (zs[i]).2.1<|ns.map bl,YZ (T1 op ((zs.filter<|T5 (ns.map bl) (zs[i]).2.1).map (·.2.2))))])):=by
    have g0:i<(zs.map (·.2)).length:=by rwa [Yz]
    have e1:(zs.map _)[i]=(zs[i]).2:=List.getElem_map _;rw[List.take_succ_eq_append_getElem g0,DG,O9,e1,<-Q1,List.any_map,List.filter_map,VD];rfl
   have d5:U<|T5 (ns.map bl) (zs[i]).2.1 zs[i]=true:=I<|by unfold T5;simp
   have f2:=I<|List.getElem_mem a4;generalize zs[i]=z at*;obtain⟨zv,zl,zn⟩:=z;obtain⟨⟨qz,M⟩,g1⟩:=a5;simp only at r0 M a6 d5;obtain⟨lz,cz,rfl⟩:=Zd M.own;have d6:=I M;have D:=I<|HN.below d.bel;clear M g1 l;go_wp2_with fail;refine(C0 d6 D).m ?_;rintro e w1 ⟨lv,ql,rfl,O,B⟩;have d7:=I<|d.below B;clear B x2 r0 d d6 D;obtain⟨la1,lc1,g2⟩:=Zd O.own;subst g2;go_wp2_with fail;refine(Nk _ _ O).m ?_;rintro e w2 ⟨kx,rfl,g3,n2,d8⟩;have a7:Below w1.heap.size _ _:=d8▸Wn (Ym _ _) _;have P:=I<|d7.below a7;have g4:=I<|O.below a7;clear a7 d8 d7 O;obtain⟨XA,a8⟩:∃XA:List F,XA=[.bool false,E 0,.slice (some ⟨g,0,none⟩) zs.length sl]:=⟨_,C⟩;have Q:=I a8;rw[<-a8]at P;clear a8;have g5:U<|∀W,Below _ _ W->SG w W _ _ _:=I λW p=>P.below p;go_wp2;go_loopg [11,12,13] zs.length (λgj v11 v12 v13 wr=>∃(j:Nat)(ss:List<|Int×Int)(f:Bool),j<=zs.length/\gj=zs.length-j/\v13=E j/\v12=.bool f/\U (wr.ownsRow w2.heap.size 179 2 v11 ss.length<|ZQ ss)/\U (ss=((zs.take j).filter<|T5 (ns.map bl) zl).map λz=>(0,z.2.2))/\U (f=!((zs.take<|min j i).any<|T5 (ns.map bl) zl))/\U (SG w wr XA vv rs)/\U (BW w2 wr));case atStart=>exact⟨0,[],true,Yr _,C,C,C,Xm _ _ _ _,I C,I<|Sm,P,Ym _ _⟩
   case round=>
    clear P;obtain⟨j,ss,f,hj,j2,rfl,rfl,HO,k,HF,c,R⟩:=hrel;obtain⟨s1,c1,g6⟩:=Zd HO;subst g6;have x2:=c.xb.cell 2;rw[Q]at x2;simp only[Yf]at x2;by_cases G:j<zs.length
    .have l:=I<|HS.below c.bel;have r0:=Zc l.own _ _<|by rw[(Te _ j).1,List.getElem?_eq_getElem G];rfl
     have r1:=Zc l.own _ _<|by rw[(Te _ j).2,List.getElem?_eq_getElem G];rfl
     have a9:=ZN l.own;have a5:=l.ok _<|List.getElem_mem G;have m:=I<|fN (T5 (ns.map bl) zl) j G;have n:U<|(zs.take<|min (j+1) i).any (T5 (ns.map bl) zl)=((zs.take<|min j i).any (T5 (ns.map bl) zl)||(decide (j<i)&&T5 (ns.map bl) zl zs[j])):=I (by
      by_cases H:j<i
      .rw[show min (j+1) i=j+1 by omega,show min j i=j by omega,fM G];simp[H]
      .rw[show min (j+1) i=i by omega,show min j i=i by omega];simp[H]);generalize zs[j]=y at*;obtain⟨yv,yl,yn⟩:=y;obtain⟨⟨qy,S⟩,d9⟩:=a5;have j3:U<|YC yn:=d9;simp only at r0 r1 S m n;obtain⟨ly,cy,rfl⟩:=Zd S.own;have e0:=I S;have D:=I<|HN.below c.bel;clear S d9 l;go_wp2_with fail;refine(C0 e0 D).m ?_;rintro e w3 ⟨uv,qu,rfl,b3,o⟩;have e2:=I<|c.below o;have s:=I<|R.trans<|o.mono R.size;have e3:=I<|Ze HO o;have r13:=(o.cell a9).trans r1;have b4:=WH a9 o.size;clear o x2 r0 r1 a9 c R HO e0 D;obtain⟨la3,lc3,f3⟩:=Zd b3.own;subst f3;go_wp2_with fail;refine(Nk _ _ b3).m ?_;rintro e w4 ⟨ux,rfl,g7,n4,e4⟩;have J:Below w3.heap.size _ _:=e4▸Wn (Ym _ _) _;have e5:=I<|e2.below J;have T:=I<|s.trans<|J.mono s.size;have b5:=I<|Ze e3 J;have r14:=(J.cell b4).trans r13;clear J e4 r13 e2 s e3 b3 b4;have x2:=e5.xb.cell 2;rw[Q]at x2;simp only[Yf]at x2;have e6:U<|(ux.toList==kx.toList)=T5 (ns.map bl) zl (.slice ly qy.length cy,yl,yn):=by rw[Nm,g7,g3];unfold T5;rfl
     have b6:ss.length<=1000:=by
      rw[k,Yz];have:=Qp (T5 (ns.map bl) zl)<|zs.take j;rw[Xw]at this;omega
     have i8:=T.size;cases hm:T5 (ns.map bl) zl (.slice ly qy.length cy,yl,yn)with
     |false=>
      have he:(ux.toList==kx.toList)=false:=by rw[e6,hm]
      rw[hm]at m n;rw[Na,Bool.or_false]at n;rw[Yd N,Ud]at m;go_wp2;go_roundg (zs.length-(j+1));case measure=>omega
      case rel=>exact⟨j+1,ss,f,X,C,by go_num,C,b5,I<|by rwa [m.o],I<|by rwa [n.o],e5,T⟩
     |true=>
      have he:(ux.toList==kx.toList)=true:=by rw[e6,hm]
      rw[hm]at m n;rw[On]at n;rw[Ye C]at m;have b7:U<|ss++[((0),yn)]=((zs.take<|j+1).filter<|T5 (ns.map bl) zl).map λz=>((0),z.2.2):=by rw[m,Xa,<-k];rfl
      have t:U<|(f&&decide (i<=j))=!((zs.take<|min (j+1) i).any<|T5 (ns.map bl) zl):=by
       rw[n,HF,Bool.not_or];congr 1;by_cases H:j<i
       .simp[H,Nat.not_le.2 _]
       .simp[H,Nat.le_of_not_lt _]
      clear m n;go_wp2_with(at_builtin;refine XC _ C (.tmp 51) (.tmp 59) 103 C w2.heap.size 179 i0 (.agg #[E 0,E 0]) 2 16 underlying103 hi f7 f8 f9 C N _ _ _ C (b5.alloc _) ⟨w4.heap.size,0,none⟩ 1 1 [E 0,E yn] C C (Z1 C) ?c2 ?c3 ?c4 ?c5 ?_);case c2=>intro u hu;simp at hu;rcases hu with rfl|rfl<;>rfl
      case c3=>unfold maxLen;first|omega|(simp;omega)
      case c4=>first|omega|(simp;omega)
      case c5=>first|omega|(simp;omega)
      intro v' w6 d1 V _;have Z:=I<|QK (T.alloc T.size _) V λq hq=>by have:=(b5.lt q hq).1;omega
      have b8:=I<|g5 _ Z;have b9:U<|w6.ownsRow w2.heap.size 179 2 v' (ss++[((0),yn)]).length<|ZQ<|ss++[((0),yn)]:=by rwa [H3,Yx]
      clear d1 V;cases f with
      |false=>
       rw[Bool.false_and]at t;go_wp2;go_roundg (zs.length-(j+1));case measure=>omega
       case rel=>exact⟨j+1,_,false,X,C,by go_num,C,b9,b7,t,b8,Z⟩
      |true=>
       rw[Ik]at t;by_cases e7:i<=j
       .rw[show decide _=true by simp[e7]]at t;go_wp2;go_roundg (zs.length-(j+1));case measure=>omega
        case rel=>exact⟨j+1,_,true,X,C,by go_num,C,b9,b7,t,b8,Z⟩
       .rw[show decide _=false by simp[e7]]at t;go_wp2;go_roundg (zs.length-(j+1));case measure=>omega
        case rel=>exact⟨j+1,_,false,X,C,by go_num,C,b9,b7,t,b8,Z⟩
    .obtain rfl:j=zs.length:=X;rw[show min _ i=i by omega]at HF;rw[X1]at k;cases f with
     |false=>
      have c0:U<|Vx _ _ _ _ _=Vx _ _ _ _ ((zs.map _).take i):=I<|by
       rw[a6,Ye<|by have:=HF.o;revert this;cases(zs.take i).any<|T5 (ns.map bl) zl<;>simp,Ud]
      go_wp2;go_roundg (zs.length-(i+1));case measure=>omega
      case rel=>exact⟨i+1,vv,rs,X,C,by go_num,I<|by rwa [<-Q.o],I<|c0.o▸HG.o,I<|Nat.le_succ_of_le a2⟩
     |true=>
      have c0:U (Vx op (ns.map bl) (zs.map (·.2)) [] ((zs.map (·.2)).take<|i+1)=Vx op (ns.map bl) (zs.map (·.2)) [] ((zs.map (·.2)).take i)++[(Zp zl<|ns.map bl,YZ (T1 op (ss.map (·.2))))]):=by
       rw[a6,Yd<|by have:=HF.o;revert this;cases(zs.take i).any<|T5 (ns.map bl) zl<;>simp,k,VD];rfl
      have g8:U<|0<ss.length:=by
       rw[k,Yz];exact List.length_pos_of_mem<|Qu.2 ⟨f2,d5⟩
      have b6:ss.length<=1000:=by
       rw[k,Yz];exact Xb (Qp _ _) f6
      have g9:U<|∀W,W=wr.drew->VS W _ _:=I λW hW=>by
       rw[hW];refine⟨(TX HO).drew,X,λx hx=>?_⟩;rw[k,XK]at hx;obtain⟨y,hy,rfl⟩:=hx;have:=(HS.ok y (Qu.1 hy).1).2;unfold YC at this;unfold Vb;simp only;omega
      have i1:=I<|g4.below R;have i2:U<|rs.length<=1000:=I<|by have:=a2.o;omega
      have v2:=c.vb.cell 2;simp only[Yf]at v2;obtain⟨va,vc,c6⟩:=Zd c.els.own;subst c6;have e8:U<|∀W,Below _ _ W->W.cell? _=some _:=I λW p=>(p.cell c.vb.lt).trans v2;obtain⟨tn,c7⟩:∃tn,tn=T1 op (ss.map (·.2)):=⟨_,C⟩;obtain⟨cn,a0⟩:∃cn,cn=YZ tn:=⟨_,C⟩;have i3:U<|cn=YZ _:=I<|by rw[a0,c7]
      have d2:U<|∀W,W=wr.drew->CP 75 #[E op,.slice s1 ss.length c1] W λe r=>e=.returned (E tn)/\BW wr r:=I λW hW=>by
       refine(Az op X ss (g9.o W hW) g8.o).m ?_;rintro e w1 ⟨rfl,nt,rfl⟩;rw[c7,hW];exact⟨C,Wn ((Ym _ _).drew) _⟩
      have f4:U<|∀W,Calls _ _ _ W λe r=>e=.returned _/\r=W:=I λW=>a0▸LK tn W;have i4:U<|∀W,Below _ _ W->Calls _ _ #[.slice _ _ _,.agg #[.slice _ _ _,.int _ cn]] W λe r=>∃a3 n3 c3,e=.returned (.slice a3 n3 c3)/\U (YM r (.slice a3 n3 c3) _)/\U (Below _ _ r):=I λW p=>by
       refine(GW rs (.slice la1 ql.length lc1,Zp zl<|ns.map bl,cn) W (c.els.below p) ⟨⟨ql,i1.below p⟩,by rw[a0];exact Nq _⟩ i2.o).m ?_;rintro e w3 ⟨v3,rfl,a1,o⟩;obtain⟨va3,vc3,i5⟩:=Zd a1.own;subst i5;exact⟨va3,_,vc3,C,a1,p.trans<|o.mono p.size⟩
      have f5:U<|Vx _ _ _ _ _=Vx _ _ _ _ ((zs.map _).take i)++[(Zp _ _,cn)]:=I<|by rw[c0,i3]
      clear c7 a0;have e9:wr.drew.cell? _=some _:=v2;clear v2 b6;go_upto_region 17 with fail;clear x2;refine ZW 10 (λr=>r.cell? _=some _) Kr (e9) λa=>?_;clear e9;refine Za 0 a (h:=Za 1 a (h:=Za 2 a (h:=Za 3 a (h:=Za 4 a (h:=?_)))));refine Zz (i:=5) Kr C λK A=>?_;go_simp;refine(d2 _ C).m ?_;rintro e w1 ⟨rfl,B⟩;have L:=e8 _ B;have i6:=I B;clear B;go_simp;refine A _ _ L λa=>?_;clear A K;try simp only[Act.put,Yt]
      refine Zz (i:=6) Kr C λK A=>?_;go_simp;refine(f4 _).m ?_;rintro e w2 ⟨rfl,rfl⟩;go_simp;refine A _ _ L λa=>?_;clear A K;try simp only[Act.put,Yt]
      refine Za 7 a (h:=?_);refine Zz (i:=8) Kr C λK A=>?_;go_simp;refine(i4 _ i6).m ?_;rintro e w3 ⟨a3,n3,c3,rfl,a1,s⟩;have c8:=e8 _ s;have i7:=I<|(c.below s).put a1;have c9:=(c.below s).vb;go_simp;refine A _ _ c8 λa=>?_;clear A K;try simp only[Act.put,Yt]
      refine Za 9 a (h:=?_);refine ZS Kr Kr C Kr λK A=>?_;have q2:=c9.cell 2;have qf:=c9.frozen 2;simp only[Yf]at q2;clear c9;go_simp;refine A _ _ ?_;clear A K;go_wp2;go_roundg (zs.length-(i+1));case measure=>omega
      case rel=>exact⟨i+1,_,_,X,C,by go_num,I<|Q.o▸i7.o,I<|by rw[f5,Iq,<-HG,B9];rfl,I<|by rw[LH];exact Nat.succ_le_succ a2⟩
  .obtain rfl:i=zs.length:=X;obtain⟨va,vc,c6⟩:=Zd d.els.own;subst c6;have b0:=d.vb.cell 0;have b1:=d.vb.cell 1;have b2:=d.vb.cell 2;have z0:=d.rb.frozen 0;have z1:=d.rb.frozen 1;have z2:=d.rb.frozen 2;have t0:=d.rb.cell 0;have t1:=d.rb.cell 1;have t2:=d.rb.cell 2;simp only[Yf]at b0 b1 b2 t0 t1 t2;have HD:=I d.done;have d0:U (rs.map (·.2)=SA op (ns.map bl) (zs.map (·.2))):=by rw[HG,Wm<|by rw[Yz];exact Yj _];rfl
   go_wp2;change bodyPost _ _ _ _ _<|set3 wr (w.heap.size+1) (.bool false) (E 0)<|.slice va rs.length vc;have s0:=HD.1.cell 0;have s1:=HD.1.cell 1;have s2:=HD.1.cell 2;simp only[Yf]at s0 s1 s2;have f0:=I HD.2.1;have f1:=I HD.2.2;clear HD;generalize set3 wr (w.heap.size+1) (.bool false) (E 0) (.slice va rs.length vc)=WX at*;exact YQ (v:=.agg #[.bool false,E 0,.slice va rs.length vc]) (by simp[results,results37,go_sem,s0,s1,s2]) C<|by first|exact⟨.slice va rs.length vc,rs,C,f0,d0,f1.o⟩|exact⟨.slice va rs.length vc,C,rs,f0,d0,f1.o⟩
def UX(z:F×El):F×El:=(z.1,z.2.1,-z.2.2)
structure Um (w wr:Y)(sc:Bool)(n m:Int)(xv vv:F)(zs:List<|F×El):Prop where
 bel:BW w wr
 xb:Ya wr w.heap.size [.bool sc,E n,xv] 55
 rb:Ya wr (w.heap.size+1) [.bool false,E 0,S0] 55
 vb:Ya wr (w.heap.size+2) [.bool sc,E m,vv] 55
 own:wr.ownsRow (w.heap.size+3) 118 2 vv zs.length<|UR zs
theorem Um.below{n m:Int}{xv:F}(h:Um w wr sc n m xv vv zs)(a:BW wr w'):Um w w' sc n m xv vv zs:=
 ⟨h.bel.trans<|a.mono h.bel.size,h.xb.below a,h.rb.below a,h.vb.below a,Ze h.own a⟩
theorem Um.app{a:Y}{n m:Int}{xv:F}(h:Um w wr sc n m xv vv zs)(d:wr.grownBy a vv.ownBlock)(i:a.ownsRow (w.heap.size+3) 118 2 v' zs'.length<|UR zs'):
 Um w (a.setCell ⟨w.heap.size+2,2,none⟩ v') sc n m xv v' zs':=by
 have k:=h.xb.ownGrown h.own d N;have l:=h.rb.ownGrown h.own d N;have f:=h.vb.ownGrown h.own d N;have c:∀j,j≠w.heap.size+2->(a.setCell ⟨w.heap.size+2,2,none⟩ v').heap[j]?=a.heap[j]?:=λj g=>Go.Deep.blk_setCell_other _ _ _ _ g;refine⟨(QK h.bel d λq o=>by have:=(h.own.lt q o).1;omega).setCell (by show w.heap.size<=w.heap.size+2;omega) _,(c _ X).trans k,(c _ X).trans l,?_,ZJ i λj g=>c j λe=>ZD i f N<|by rw[g,e]⟩;unfold Ya at f⊢;simp only[World.setCell,V4,f,VE,Wr];rfl
theorem Ce(sc:Bool)(n:Int)(hn:YC n)(v:F)(zs:List<|F×El)(w:Y)(h:YM w v zs)(c5:zs.length<=1000):
 CP 36 #[.agg #[.bool sc,E n,v]] w λe r=>∃v',e=.returned (.agg #[.bool sc,E<|-n,v'])/\U (YM r v'<|zs.map UX)/\BW w r:=by
 obtain⟨sa,sl,rfl⟩:=Zd h.own;have T:=I h;obtain⟨c6,c7⟩:=hn;obtain⟨m,G⟩:∃m,m=-n:=⟨_,C⟩;have b2:IntKind.i64.wrap (-n)=m:=by rw[G,Us];omega
 obtain⟨i0,hi,b3,b4,b5⟩:=Xv Tryz.infoREl;rw[<-G];clear h;go_enter func36,ntmps36;go_upto_region 2 with fail;refine Zs λW0 H=>?_;rw[<-G]at H;have V:U<|Um w W0 sc n m (.slice sa zs.length sl) S0 []:=by
  rw[H];have g1:=Go.Deep.blk_alloc_new ((w.alloc<|.cells #[.bool sc,E n,.slice sa zs.length sl] 55).alloc<|.cells #[.bool false,E 0,S0] 55)<|.cells #[.bool sc,E m,S0] 55;have g2:=Go.Deep.blk_alloc_new (w.alloc<|.cells #[.bool sc,E n,.slice sa zs.length sl] 55)<|.cells #[.bool false,E 0,S0] 55;have g3:=Go.Deep.blk_alloc_new w<|.cells #[.bool sc,E n,.slice sa zs.length sl] 55;rw[Sy,Sy]at g1;rw[Sy]at g2;refine⟨?_,?_,?_,g1,Xm _ _ _ _⟩
  .exact Yh
  .exact((((Ym (w.heap.size+1) _).alloc (Sm) _).alloc (Sm) _).block _ X).trans g3
  .exact(((Ym (w.heap.size+2) _).alloc (Sm) _).block _ X).trans g2
 have b6:=I G;clear H b2 G;generalize Z:-n=mn;have b7:m=mn:=by rw[b6,Z]
 clear Z;subst b7;go_wp2;go_loopg [4] zs.length (λgk v4 wr=>∃(k:Nat)(vv:F),k<=zs.length/\gk=zs.length-k/\v4=E k/\U (Um w wr sc n m (.slice sa zs.length sl) vv<|(zs.take k).map UX));case atStart=>exact⟨0,_,Yr _,C,C,V⟩
 case round=>
  clear V;obtain⟨k,vv,hk,c8,rfl,l⟩:=hrel;obtain⟨va,vc,a0⟩:=Zd l.own;have J:((zs.take k).map UX).length=k:=by rw[Yz,Xw];omega
  rw[J]at a0;subst a0;have x2:=l.xb.cell 2;have v2:=l.vb.cell 2;have vf:=l.vb.frozen 2;simp only[Yf]at x2 v2;have L:=I J;clear J;by_cases s:k<zs.length
  .obtain⟨g,cpx,B⟩:=Zm T.own X;injection B with hg1 _ hg2;subst hg1 hg2;have M:=I<|T.below l.bel;have r0:=Zc M.own _ _<|by rw[(Te _ k).1,List.getElem?_eq_getElem s];rfl
   have r1:=Zc M.own _ _<|by rw[(Te _ k).2,List.getElem?_eq_getElem s];rfl
   have b8:=M.ok _<|List.getElem_mem s;have HT:U<|(zs.take<|k+1).map UX=(zs.take k).map UX++[UX zs[k]]:=by rw[List.take_succ_eq_append_getElem s,Xa];rfl
   generalize zs[k]=z at*;obtain⟨zv,zl,zn⟩:=z;obtain⟨⟨qz,O⟩,a6,a7⟩:=b8;simp only at r0 r1 O a6 a7;obtain⟨lz,cz,rfl⟩:=Zd O.own;clear O;obtain⟨zm,P⟩:∃zm,zm=-zn:=⟨_,C⟩;have c9:IntKind.i64.wrap (-zn)=zm:=by rw[P,Us];omega
   have b9:U<|(zs.take<|k+1).map UX=(zs.take k).map UX++[(.slice lz qz.length cz,zl,zm)]:=by rw[HT,P];rfl
   have a1:=I λo=>by have:=l.own;rw[L]at this;exact(this.alloc o).drew
   have a2:U<|∀o,Um w (wr.alloc o).drew _ n m _ _ _:=I λo=>l.below<|Below.drew Yc;have a3:U<|∀o,(wr.alloc o).drew.heap[wr.heap.size]?=some o:=I λo=>Go.Deep.blk_alloc_new _ o;have d0:=l.vb.lt;clear P;have a8:=ZN T.own;have a4:wr.drew.cell? _=some _/\wr.drew.cell? _=some _/\wr.drew.cell? _=some _/\wr.drew.cell? _=some _:=⟨x2,r0,r1,v2⟩;have c0:U<|∀o,(wr.drew.cell? _=some (.slice (some ⟨g,0,none⟩) zs.length sl)/\wr.drew.cell? _=some _/\wr.drew.cell? _=some _/\wr.drew.cell? _=some _)->((wr.drew.alloc o).cell? ⟨w.heap.size,2,none⟩=some _/\(wr.drew.alloc o).cell? ⟨g,k*2,none⟩=some (.slice lz qz.length cz)/\(wr.drew.alloc o).cell? ⟨g,k*2+1,none⟩=some (E zn)/\(wr.drew.alloc o).cell? ⟨w.heap.size+2,2,none⟩=some (.slice va k vc)):=I λo ⟨a,b,c,d⟩=>⟨Tb a o,Tb b o,Tb c o,Tb d o⟩;have c1:U<|∀W D:Y,(W.cell? ⟨w.heap.size,2,none⟩=some (.slice (some ⟨g,0,none⟩) zs.length sl)/\W.cell? ⟨g,k*2,none⟩=some (.slice lz qz.length cz)/\W.cell? ⟨g,k*2+1,none⟩=some (E zn)/\W.cell? ⟨w.heap.size+2,2,none⟩=some (.slice va k vc))->W.grownBy _ _->(D.cell? _=some _/\D.cell? _=some _/\D.cell? _=some _/\D.cell? _=some _):=I λW D ⟨a,b,c,d⟩ B=>by
    have t:∀j,j<w.heap.size+3->some j≠(Value.slice _ k _).ownBlock:=λj hj he=>by have:=(l.own.lt j he.symm).1;omega
    exact⟨Tc B a<|t _<|by show w.heap.size<_;omega,Tc B b<|t _<|by show g<_;omega,Tc B c<|t _<|by show g<_;omega,Tc B d<|t _<|by show w.heap.size+2<_;omega⟩
   have Q:U<|∀o,(wr.drew.alloc o).ownsRow _ _ 2 _ k _:=a1;have R:U<|∀o,Um w (wr.drew.alloc o) _ n m _ _ _:=a2;have a9:U<|∀o,(wr.drew.alloc o).heap[wr.heap.size]?=some o:=a3;clear a1 a2 a3 a8 r0 r1 v2 vf;go_upto_region 5 with fail;clear x2;refine ZW 19 (λr=>r.cell? _=some _/\r.cell? _=some _/\r.cell? _=some _/\r.cell? _=some _) Kr (a4) λf=>?_;clear a4;refine Za 0 f (h:=Za 1 f (h:=Za 2 f (h:=Za 3 f (h:=Za 4 f (h:=Za 5 f (h:=Za 6 f (h:=Za 7 f (h:=Za 8 f (h:=Za 9 f (h:=Za 10 f (h:=Za 11 f (h:=Za 12 f (h:=Za 13 f (h:=Za 14 f (h:=Za 15 f (h:=?_))))))))))))))));refine Zz (i:=16) Kr C λK q=>?_;go_simp;refine q _ _ (c0 _ f) λf=>?_;clear q K;try simp only[Act.put,Yt]
   refine Zz (i:=17) Kr C λK q=>?_;refine SY C _ _ _ C _ 118 _ _ 2 _ underlying53 hi b3 b4 b5 C N _ k _ (by simp[Act.eval]) (Q.o _) ⟨wr.heap.size,0,none⟩ 1 1 [.slice lz qz.length cz,E zm] (by simp[Act.eval]) C ?h2 ?h3 ?h4 ?h5 ?h6 ?_;case h2=>first|exact Z1<|a9.o _|exact Z1 C|exact PW (by first|simp|exact(Ry _ _ _ _<|Sm).trans C)<|by first|simp|exact(Ry _ _ _ _<|Sm).trans C
   case h3=>intro u hu;simp at hu;rcases hu with rfl|rfl<;>rfl
   case h4=>unfold maxLen;omega
   case h5=>omega
   case h6=>simp;omega
   intro v1 D A p _;obtain⟨g1,cp1,c2⟩:=Zm A X;subst c2;have HN:U<|Um w _ _ n m _ _<|(zs.take _).map _:=I<|(R _).app (p)<|by rwa [b9.o,PX,Yx,L.o]
   have S:=(R _).vb.ownGrown (Q _) p N;have c3:=c1 _ _ (f)<|p;refine q _ _ c3 λf=>?_;clear q K;try simp only[Act.put,Yt]
   refine Za 18 f (h:=?_);refine ZS Kr Kr C Kr λK q=>?_;have y2:=S.cell 2;have yf:=S.frozen 2;simp only[Yf]at y2;clear S A p;go_simp;refine q _ _ ?_;clear q K;go_wp2;go_roundg (zs.length-(k+1));case measure=>omega
   case rel=>exact⟨k+1,_,X,C,by go_num,HN⟩
  .obtain rfl:k=zs.length:=X;rw[X1]at l;rw[X1]at L;have b0:=l.vb.cell 0;have b1:=l.vb.cell 1;have y0:=l.rb.frozen 0;have y1:=l.rb.frozen 1;have y2:=l.rb.frozen 2;have t0:=l.rb.cell 0;have t1:=l.rb.cell 1;have t2:=l.rb.cell 2;simp only[Yf]at b0 b1 t0 t1 t2;go_wp2;change bodyPost _ _ _ _ _<|set3 wr (w.heap.size+1) (.bool sc) (E m)<|.slice va zs.length vc;have s9:=P5 l.rb (x:=.bool sc) (y:=E m) (z:=.slice va zs.length vc);have s0:=s9.cell 0;have s1:=s9.cell 1;have s2:=s9.cell 2;simp only[Yf]at s0 s1 s2;have a5:U<|Below _ w<|set3 _ _ (.bool sc) (E m)<|.slice va zs.length vc:=I<|((l.bel.setCell (by show w.heap.size<=w.heap.size+1;omega) _).setCell (by show w.heap.size<=w.heap.size+1;omega) _).setCell (by show w.heap.size<=w.heap.size+1;omega) _;have c4:U<|YM (set3 wr (w.heap.size+1) (.bool sc) (E m)<|.slice va zs.length vc) (.slice va zs.length vc)<|zs.map UX:=by
    refine⟨ZJ (TX l.own) λj hj=>OR λe=>ZD l.own l.rb N<|by rw[hj,e],by rw[Yz];omega,λz hz=>?_⟩;obtain⟨y,hy,rfl⟩:=XK.mp hz;have:=(T.ok y hy).below a5;exact⟨this.1,by have:=this.2;unfold YC at*;unfold UX;simp only;omega⟩
   generalize set3 wr (w.heap.size+1) (.bool sc) (E m) (.slice va zs.length vc)=WX at*;exact YQ (by simp[results,results36,go_sem,s0,s1,s2]) C ⟨.slice _ _ _,C,c4,a5⟩
def Xh(w:Y)(v:F):VV->Prop
 |.inl n=>(∃(ea:Option Addr)(ec:Nat),v=.agg #[.bool true,.int .i64 n,.slice ea 0 ec]/\YM w (.slice ea 0 ec) [])/\YC n
 |.inr l=>∃(ea:Option Addr)(ec:Nat)(zs:List<|F×El),v=.agg #[.bool false,.int .i64 0,.slice ea zs.length ec]/\YM w (.slice ea zs.length ec) zs/\zs.map (·.2)=l
theorem Xh.below:∀{V:VV},Xh w v V->BW w w'->Xh w' v V
 |.inl _,⟨⟨ea,ec,a,c⟩,d⟩,e=>⟨⟨ea,ec,a,c.below e⟩,d⟩
 |.inr _,⟨ea,ec,zs,a,c,d⟩,e=>⟨ea,ec,zs,a,c.below e,d⟩
theorem Xh.other(g:Ya w a c 55)(h:∀j,j≠a->w'.heap[j]?=w.heap[j]?):∀{V:VV},Xh w v V->Xh w' v V
 |.inl _,⟨⟨ea,ec,d,e⟩,f⟩=>⟨⟨ea,ec,d,e.other g h⟩,f⟩
 |.inr _,⟨ea,ec,zs,d,e,f⟩=>⟨ea,ec,zs,d,e.other g h,f⟩
theorem Xh.of_els{l:List El}(h:YM w v zs)(a:zs.map (·.2)=l):Xh w (.agg #[.bool false,E 0,v])<|.inr l:=by
 obtain⟨ea,ec,rfl⟩:=Zd h.own;exact⟨ea,ec,zs,C,h,a⟩
theorem nD (V:VV)(h:Xh w v V)(g:WG 1000 V):CP 36 #[v] w λe u=>∃v',e=.returned v'/\U (Xh u v'<|TH V)/\BW w u:=by
 cases V with
 |inl n=>
  obtain⟨⟨fa,fc,rfl,i⟩,j⟩:=h;refine(Ce true n j (.slice fa 0 fc) [] w i<|Sm).m ?_;rintro e k ⟨v',rfl,a,c⟩;obtain⟨ea,ec,rfl⟩:=Zd a.own;exact⟨_,C,I ⟨⟨ea,ec,C,a.o⟩,by unfold YC at*;omega⟩,c⟩
 |inr l=>
  obtain⟨ea,ec,zs,rfl,m,f⟩:=h;have d:zs.length<=1000:=by have:=g.2;rw[<-f,Yz]at this;exact this
  refine(Ce false 0 (by unfold YC;omega) _ zs w m d).m ?_;rintro e k ⟨v',rfl,a,c⟩;exact⟨_,C,I<|Xh.of_els a.o<|by rw[VD,<-f,VD];rfl,c⟩
theorem qA (d:op<=3){bv:F}{ns:List BA}(l:List El)(a:Ul w bv ns)(h:Xh w v<|.inr l)(f:l.length<=1000):CP 37 #[E op,bv,v] w λe u=>∃v',e=.returned v'/\U (Xh u v'<|.inr<|SA op (ns.map bl) l)/\BW w u:=by
 obtain⟨ea,ec,zs,rfl,i,g⟩:=h;have c:zs.length<=1000:=by rw[<-g,Yz]at f;exact f
 refine(qM op d bv ns zs w a i c).m ?_;rintro e m ⟨v',rs,rfl,j,k,a⟩;exact⟨_,C,I<|Xh.of_els j.o<|by rw[k.o,g],a⟩
theorem oT (op:Nat)(xs ys:List<|F×El):(xs.flatMap<|FV op ys).map (·.2)=(xs.map (·.2)).flatMap λe=>((ys.map (·.2)).filter λf=>decide<|Yy e.1=Yy f.1).map λf=>(e.1,YI op e.2 f.2):=by
 induction xs with
 |nil=>rfl
 |cons x xs ih=>
  rw[Kl,Xa,ih,Wb,Kl];congr 1;unfold FV;rw[VD,List.filter_map,VD];rfl
theorem wW (d:op<=3){u:F}(V U:VV)(h:Xh w v V)(j:Xh w u U)(A:WG 1000 V)(o:WG 1000 U):CP 35 #[E op,v,u] w λe x=>∃v',e=.returned v'/\Hid (Xh x v'<|QJ op V U)/\BW w x:=by
 cases V with
 |inl m=>
  obtain⟨⟨fa,fc,rfl,D⟩,p⟩:=h;cases U with
  |inl n=>
   obtain⟨⟨ga,gc,rfl,B⟩,q⟩:=j;refine(wY op d m n p q fa ga fc gc w).m ?_;rintro e r ⟨rfl,a⟩;exact⟨_,C,I ⟨⟨none,0,C,⟨Xm _ _ _ _,Sm,Sm⟩⟩,OW _ _ _ p⟩,a⟩
  |inr l=>
   obtain⟨ea,ec,zs,rfl,s,g⟩:=j;have c:zs.length<=1000:=by have:=o.2;rw[<-g,Yz]at this;exact this
   refine(wZ op d m p fa fc zs w s c).m ?_;rintro e r ⟨v',rfl,i,a⟩;exact⟨_,C,I<|Xh.of_els i.o<|by rw[VD,<-g,VD];rfl,a⟩
 |inr k=>
  obtain⟨da,dc,xs,rfl,z,t⟩:=h;have f:xs.length<=1000:=by have:=A.2;rw[<-t,Yz]at this;exact this
  cases U with
  |inl n=>
   obtain⟨⟨ga,gc,rfl,B⟩,q⟩:=j;refine(vd op d n q ga gc xs w z f).m ?_;rintro e r ⟨v',rfl,i,a⟩;exact⟨_,C,I<|Xh.of_els i.o<|by rw[VD,<-t,VD];rfl,a⟩
  |inr l=>
   obtain⟨ea,ec,zs,rfl,s,g⟩:=j;have c:zs.length<=1000:=by have:=o.2;rw[<-g,Yz]at this;exact this
   refine(ve op d xs zs w z s f c).m ?_;rintro e r ⟨v',rfl,i,a⟩;exact⟨_,C,I<|Xh.of_els i.o<|by rw[oT,t,g],a⟩
open Go.Proofs.Tryz
open Go.RowKit Go.Maps Go.WideMaps LS
def SR(l:LB):LB:=match cut 125 l with|some p=>p.1|none=>l
def Uj:Nat->List (LB)->List (LB)->Option Nat
 |_,_,[]=>none
 |i,seen,x::xs=>if x=[]then Uj (i+1) seen xs else if seen.contains (SR x)then some i else Uj (i+1) (seen++[SR x]) xs
theorem yQ(a:i<ps.length)(h:ps.getD i []=[]):Uj i seen (ps.drop i)=Uj (i+1) seen (ps.drop<|i+1):=by
 have e:ps.getD i []=ps[i]:=by simp[a]
 rw[List.drop_eq_getElem_cons a,Uj,<-e,Ye h]
theorem yS(a:i<ps.length)(h:ps.getD i []≠[])(c:seen.contains (SR<|ps.getD i [])=true):Uj i seen (ps.drop i)=some i:=by
 have e:ps.getD i []=ps[i]:=by simp[a]
 rw[List.drop_eq_getElem_cons a,Uj,<-e,Yd h,Ye c]
theorem yT(a:i<ps.length)(h:ps.getD i []≠[])(c:seen.contains (SR<|ps.getD i [])=false):Uj i seen (ps.drop i)=Uj (i+1) (seen++[SR<|ps.getD i []]) (ps.drop<|i+1):=by
 have e:ps.getD i []=ps[i]:=by simp[a]
 rw[List.drop_eq_getElem_cons a,Uj,<-e,Yd h,Yd<|c▸Bool.false_ne_true]
theorem yR(a:¬i<ps.length):Uj i seen (ps.drop i)=none:=by
 rw[Ts X];rfl
theorem NO:Keyed prog 9:=string_keyed underlying9
theorem zI{w:World}:(zeroValue 207).run prog w=.ok (.agg #[]) w:=Kr
def Sd(seen:List<|LB):DataW Unit:=setOf (.agg [])<|seen.map Lit.string
theorem vK(seen:List<|LB)(x:LB):Sd (seen++[x])=(Sd seen).put (.string x) (.agg []):=by
 unfold Sd;rw[Xa,Wb,N8,setOf_snoc]
theorem pT:∀x∈seen.map Lit.string,WideAt.IsKeyLit x:=by
 intro x a;obtain⟨y,_,rfl⟩:=XK.1 a;trivial
theorem rJ(seen:List<|LB)(x:LB):Maps.has (Sd seen) (.string x)=seen.contains x:=by
 unfold Sd;rw[has_setOf _ _ _<|pT];induction seen with
 |nil=>rfl
 |cons a l ih=>
  rw[Wb,Ij,ih,List.contains_cons];congr 1;show(a==x)=(x==a);exact BEq.comm
theorem uD{s:BA}(m:Int){w:World}(h:s.size<=6000)(i:w.cell? ⟨14,0,none⟩=some (E m)):
 CP 90 #[.string s,.string ⟨#[125]⟩] w λe u=>∃(a b:BA)(f:Bool),e=.returned (.tuple #[.string a,.string b,.bool f])/\Hid (bl a=SR (bl s))/\a.size<=6000/\∃n,u=w.drewN n:=by
 cases d:cut 125 (bl s)with
 |none=>
  refine(Mm m w h i d).m ?_;rintro e u ⟨a,b,rfl,c,g⟩;exact⟨a,b,_,rfl,I<|by unfold SR;rw[d];exact c.1,by rwa [ZE c.1,Zb],g⟩
 |some p=>
  obtain⟨x,y⟩:=p;refine(Pe m w h i d).m ?_;rintro e u ⟨a,b,rfl,c,g⟩;refine⟨a,b,_,rfl,I<|by unfold SR;rw[d];exact c.1,?_,g⟩;have:(bl s).length=x.length+(y.length+1):=by rw[(Rm d).1];simp
  rw[ZE c.1];rw[Zb]at this;omega
theorem nX{g:Nat}(n:Nat)(A:Nat->Addr)(m:Int){w:World}(P:Hid<|n=ps.length)(a3:n<=6001)(Q:Hid<|∀i,i<ps.length->(ps.getD i []).length<=6000)(v:Nl w g ps)(Z:YD w A m):
 CP 43 #[.slice (some ⟨g,0,none⟩) n n] w λe u=>BW w u/\
  ((∃(i:Nat)(fa:Nat),e=.returned (.iface 92<|Vp fa)/\u.heap[fa]?=some (.cells #[.string ⟨#[108,105,110,101]⟩,E i,.iface 469<|.pointer<|some<|A 5] 96 (0,0))/\Hid (Uj 0 [] ps=some i))\/
   (e=.returned .nilIface/\Hid (Uj 0 [] ps=none))):=by
 have a4:=@run_makeMap prog;have R:=v.1;go_enter func43,ntmps43;go_wp2;go_loopw [14] (λi wr=>∃(k:Nat)(seen:List<|LB),k<=n/\i=E k/\wr.ownsMap prog 9 unitElem w.heap.size k (Sd seen)/\Hid (Uj 0 [] ps=Uj k seen (ps.drop k))/\BW w wr/\w.heap.size+1<=wr.heap.size)
  (λi _=>n-(intOf i).toNat);case atStart=>exact⟨0,[],Yr _,rfl,World.ownsMap_made _ _ _ _,rfl,Yc,Sm⟩
 case round=>
  obtain⟨k,seen,hk,rfl,x,G,d,S⟩:=hrel;have h:=Z.below d;by_cases T:k<n
  .have l:k<ps.length:=by rwa [<-P.o]
   obtain⟨sk,a5,B⟩:=(v.below d R).2 k l;have O:sk.size<=6000:=ZE B▸Q.o k l;have J:=I B;clear B;cases V:sk.toList.isEmpty
   .have L:Hid<|ps.getD k _≠[]:=J.o▸OI V;have M:=h.max;go_wp2_with fail;refine(uD m O M).m ?_;rintro e z ⟨a,b,f,rfl,W,a6,j,rfl⟩;have a0:∀o,((wr.alloc o).drewN j).cell? ⟨5,0,none⟩=some _:=λo=>(h.alloc o).sent _ N;have a1:∀o,(wr.alloc o).cell? ⟨5,0,none⟩=some _:=λo=>(h.alloc o).sent _ N;have a2:∀o,((wr.drewN j).alloc o).cell? ⟨5,0,none⟩=some _:=λo=>((h.drewN j).alloc o).sent _ N;have r:keyOf _ 9 (.string a)=some _:=keyOf_string_mk underlying9<|by unfold maxLen;omega
    have D:Maps.has (Sd seen) (.string a.data.toList)=seen.contains (SR<|ps.getD k []):=by
     rw[rJ];show seen.contains (bl a)=_;rw[W,J]
    have c:(wr.drewN j).ownsMap _ 9 _ _ k _:=x;clear M h;cases t:seen.contains<|SR<|ps.getD k []
    .have s:Hid<|Uj 0 _ _=Uj _ _ _:=G.o▸yT l L.o t;rw[t]at D;clear t;go_wp2_with(first
     |(at_lookup;refine wpList_lookup_own_unit _ rfl _ _ 204 rfl 9 207 NO underlying204 (zI) w.heap.size k _ rfl c _ _ rfl r ?_)
     |(at_mapUpdate;refine wpList_mapUpdate_own _ rfl _ _ _ 204 rfl 9 207 NO underlying204 (unitElem (H:=Unit)) w.heap.size k _ rfl (c.alloc _) (by unfold maxLen;omega) _ _ _ rfl rfl r _ [] unitElem_mk ?_;intro w1 K p));have s1:=p.size;simp at s1;go_roundw;case rel=>
      refine⟨k+1,_,X,by go_num,?_,s,?_,X⟩
      .rw[vK,<-J,<-W];exact K
      .exact((Wn d j).alloc (by simp;omega) _).grown p (by simp;omega) λq hq=>by cases hq;exact Yj _
     case measure=>simp[intOf];omega
    .have s:Hid _:=G.o▸yS l L.o t;rw[t]at D;clear t;go_wp2_with(first
     |(at_lookup;refine wpList_lookup_own_unit _ rfl _ _ 204 rfl 9 207 NO underlying204 (zI) w.heap.size k _ rfl c _ _ rfl r ?_)
     |(go_at_call 89;refine(EA).m ?_;rintro e u ⟨rfl,rfl⟩));go_ret;refine⟨Yh,.inl ⟨k,wr.heap.size+1,rfl,?_,s⟩⟩;rw[show wr.heap.size+1=(wr.alloc<|.cells #[] 207).heap.size by simp];exact J6
   .have s:Hid _:=G.o▸yQ l (by rw[<-J.o];exact Pm V);go_wp2;go_roundw;case rel=>exact⟨k+1,seen,X,by go_num,x.mono<|KD _,s,d,S⟩
    case measure=>simp[intOf];omega
  .have s:Hid<|Uj 0 [] ps=none:=G.o▸yR (by rw[<-P.o];exact T);go_wp2;go_ret;exact⟨d,.inr ⟨rfl,s⟩⟩
def ZG(l:LB):Nat×Nat:=
 if 6000<l.length then(1,0)else match ZT 0 [] (split 10 l)with
  |.inl i=>(5,i)
  |.inr es=>match Uj 0 []<|split 10 l with
   |some i=>(6,i)
   |none=>if 30<es.length\/200<Vy es es.length then(7,0)else(0,0)
def Q8(w:Y)(A:Nat->Addr)(err:F)(r:Nat×Nat):Prop:=
 (err=.nilIface/\r=(0,0))\/
 (err=.iface 469 (.pointer<|some<|A 0)/\r=(1,0))\/
 (err=.iface 469 (.pointer<|some<|A 6)/\r=(7,0))\/
 (∃i fa:Nat,err=.iface 92 (Vp fa)/\r=(5,i)/\w.cell? ⟨fa,1,none⟩=some (E i)/\w.cell? ⟨fa,2,none⟩=some (.iface 469<|.pointer<|some<|A 4))\/
 (∃i fa:Nat,err=.iface 92 (Vp fa)/\r=(6,i)/\w.cell? ⟨fa,1,none⟩=some (E i)/\w.cell? ⟨fa,2,none⟩=some (.iface 469<|.pointer<|some<|A 5))
theorem Gw{fa:Nat}{x y z:F}{t:TypeId}(h:w.heap[fa]?=some (.cells #[x,y,z] t (0,0))):w.cell? ⟨fa,1,none⟩=some y/\w.cell? ⟨fa,2,none⟩=some z:=by
 simp[World.cell?,h]
theorem gR{last:Int}(h:Vk last n ps=some k):k<=n+ps.length:=by
 induction ps generalizing last n with
 |nil=>simp[Vk]at h;omega
 |cons x xs ih=>
  unfold Vk at h;cases a:Tw x with
  |none=>rw[a]at h;cases h
  |some t=>
   rw[a]at h;simp only at h;split at h
   .cases h
   .have:=ih h;simp;omega
theorem iH{l:LB}(h:VI l=some n):n<=l.length+1:=by
 unfold VI at h;have a:=GM 32 l;generalize Z6 32 l=st at h a;obtain⟨r,f⟩:=st;simp only at h a;split at h
 .have:=Ub h;omega
 .split at h
  .have c:=gR h;have d:=Qe 32 r;omega
  .cases h
theorem Bd{l a b:LB}(h:Y3 l=some (a,b,n)):n<=l.length+1:=by
 cases d:cut 123 l with
 |none=>rw[Ly d]at h;cases h
 |some p=>
  obtain⟨x,r⟩:=p;cases c:cut 125 r with
  |none=>rw[Mq d c]at h;cases h
  |some q=>
   obtain⟨y,z⟩:=q;rw[Mr d c]at h;have f:z.length<=l.length:=by
    rw[(Rm d).1,(Rm c).1];simp;omega
   split at h
   .cases e:VI z with
    |none=>rw[e]at h;cases h
    |some k=>
     rw[e]at h;simp at h;have:=iH e;omega
   .cases h
theorem Fo(h:ZT i acc ps=.inr es)(f:∀e∈acc,e.count<=6001)(g:∀p∈ps,p.length<=6000):
 es.length<=acc.length+ps.length/\∀e∈es,e.count<=6001:=by
 induction ps generalizing i acc with
 |nil=>
  simp only[ZT,Sum.inr.injEq]at h;subst h;exact⟨Sm,f⟩
 |cons x xs ih=>
  unfold ZT at h;split at h
  .have:=ih h f λp d=>g p (by simp[d]);exact⟨by simp;omega,this.2⟩
  .cases j:Y3 x with
   |none=>rw[j]at h;cases h
   |some t=>
    obtain⟨a,b,n⟩:=t;rw[j]at h;simp only at h;have k:=g x<|Sm;have l:=Bd j;have:=ih h (λe c=>by
     rcases Wk.1 c with c|c
     .exact f e c
     .simp at c;subst c;show n<=6001;omega) λp d=>g p<|by simp[d]
    exact⟨by have:=this.1;simp at this⊢;omega,this.2⟩
theorem gz(s:BA)(A:Nat->Addr)(m:Int)(w:Y)(c:YD w A m)(d:6000<s.size)(a:s.size<=maxLen):
 CP 23 #[.string s] w λe u=>∃sv err,e=.returned (.tuple #[sv,err])/\U (Q8 u A err (1,0))/\BW w u:=by
 unfold maxLen at a;have f:=c.sent 0 N;go_enter func23,ntmps23;go_wp2;go_region;all_goals(try go_wp2)
 all_goals(go_ret2;exact⟨_,_,C,.inr<|.inl ⟨C,C⟩,Yh⟩)
def NL(w:Y)(v:F)(l:LB):Prop:=∃(es:List Yn)(rs:List<|F×F×F×F),ZT 0 [] (split 10 l)=.inr es/\es.length<=30/\w.ownsRow 0 201 4 v es.length (Uh rs)/\WQ w rs es (split 10 l)
theorem NL.below{l:LB}(h:NL w v l)(a:BW w w'):NL w' v l:=by
 obtain⟨es,rs,c,d,e,f⟩:=h;exact⟨es,rs,c,d,Ze e a,f.below a⟩
theorem gA(s:BA)(A:Nat->Addr)(m:Int)(w:Y)(Z:YD w A m)(hs:s.size<=6000):
 CP 23 #[.string s] w λe u=>∃sv err,e=.returned (.tuple #[sv,err])/\U (Q8 u A err<|ZG<|bl s)/\BW w u/\U ((ZG<|bl s).1=0->NL u sv (bl s)):=by
 have q:U<|∀x,(match ZT 0 []<|split 10 (bl s)with
  |.inl i=>(5,i)
  |.inr es=>match Uj 0 []<|split 10<|bl s with
   |some i=>(6,i)
   |none=>if 30<es.length\/200<Vy es es.length then(7,0)else(0,0))=x->ZG (bl s)=x:=by
  intro x hx;unfold ZG;rw[Yd<|by rw[Zb];omega];exact hx
 have a0:(split 10<|bl s).length<=6001:=by have:=Qe 10<|bl s;rw[Zb]at this;omega
 have L:U<|∀i,i<(split 10<|bl s).length->((split 10<|bl s).getD i []).length<=6000:=λi hi=>by
  have:=OV 10 (bl s) i hi;rw[Zb]at this;omega
 go_enter func23,ntmps23;go_wp2_with fail;refine(Fb s m hs Z.max).m ?_;rintro e w1 ⟨n,rfl,hn,f,r⟩;have R:=I hn;have M:n<=6001:=X;have a1:=f.1;clear hn a0;have O:=Z.below r;go_wp2_with fail;refine(kT n A m R M L f O).m ?_;rintro e z ⟨t,H⟩;have P:=O.below t;have B:=r.trans<|t.mono r.size;rcases H with⟨i,fa,rfl,d,c⟩|⟨v,es,rs,rfl,g,c,a2⟩
 .obtain⟨c1,c2⟩:=Gw d;have S:=I<|q (5,i)<|by rw[c]
  have a:U<|Q8 z A (.iface 92<|Vp fa)<|ZG<|bl s:=q.o (5,i) (by rw[c.o])▸Or.inr (Or.inr<|Or.inr<|Or.inl ⟨i,fa,C,C,c1,c2⟩);clear c1 c2 d;go_wp2;go_ret2;exact⟨_,_,C,a,B,I λh=>by rw[S]at h;cases h⟩
 .have j:=Fo c.2 (λe he=>by simp at he) λp hp=>by
    have:=JM _ _ p hp;rw[Zb]at this;omega
  have J:=f.below t a1;go_wp2_with fail;refine(nX n A m R M L J P).m ?_;rintro e w3 ⟨k,D⟩;have Q:=P.below k;have G:=B.trans<|k.mono B.size;rcases D with⟨i,fa,rfl,d,K⟩|⟨rfl,K⟩
  .obtain⟨c1,c2⟩:=Gw d;have S:=I<|q (6,i)<|by rw[c.2];simp only[K.o]
   have a:U<|Q8 w3 A (.iface 92<|Vp fa)<|ZG<|bl s:=q.o (6,i) (by rw[c.2];simp only[K.o])▸Or.inr (Or.inr<|Or.inr<|Or.inr ⟨i,fa,C,C,c1,c2⟩);clear c1 c2 d;go_wp2;go_ret2;exact⟨_,_,C,a,G,I λh=>by rw[S]at h;cases h⟩
  .have l:=Ze g k;have a3:es.length<=6001:=by have:=j.1;simp at this;have:=R.o;omega
   have HC:=I<|j.2;have a8:=zg _ j.2 es.length;have T:U<|ZG _=if 30<es.length\/200<Vy es es.length then(7,0)else(0,0):=q _<|by rw[c.2];simp only[K.o]
   have hR:=I<|c.1;have a9:=Q.sent 6 N;obtain⟨av,cp,rfl⟩:=Zd g;have a4:=I<|c.2;have V:=I<|a2.below k;clear j g c;by_cases a5:30<es.length
   .have hd:decide (30<(es.length:Int))=true:=by simp;omega
    have a:U<|ZG _=(7,0):=I<|by rw[T,Ye<|.inl a5]
    go_wp2;go_region;all_goals(try go_wp2)
    all_goals(go_ret2;exact⟨_,_,C,(a.o▸Or.inr (Or.inr<|Or.inl ⟨C,C⟩)),Yh,I λh=>by rw[a]at h;cases h⟩)
   .have hd:decide (30<(es.length:Int))=false:=by simp;omega
    go_wp2_with fail;refine(uB l hR HC a3).m ?_;rintro e w4 ⟨rfl,o⟩;have a6:=G.trans<|o.mono G.size;have b0:=(Q.below o).sent 6 N;by_cases W:200<Vy es es.length
    .have a:U<|ZG _=(7,0):=I<|by rw[T,Ye<|.inr W]
     have a7:decide (200<(Vy es es.length:Int))=true:=by simp;omega
     go_wp2;go_region;all_goals(try go_wp2)
     all_goals(go_ret2;exact⟨_,_,C,(a.o▸Or.inr (Or.inr<|Or.inl ⟨C,C⟩)),Yh,I λh=>by rw[a]at h;cases h⟩)
    .have a:U<|ZG _=(0,0):=I<|by rw[T,Yd<|by rintro(h|h)<;>omega]
     have a7:decide (200<(Vy es es.length:Int))=false:=by simp;omega
     go_wp2;go_ret2;exact⟨_,_,C,(a.o▸Or.inl ⟨C,C⟩),a6,I λ_=>⟨es,rs,a4,X,Ze l o,V.below o⟩⟩
def Pj:List (LB)->LB
 |[]=>[]
 |[x]=>x
 |x::y::r=>x++44::Pj (y::r)
theorem Ha(x:LB)(h:l≠[]):Pj (x::l)=x++44::Pj l:=by
 cases l with
 |nil=>simp_all
 |cons y r=>rfl
theorem og{p:LB}(h:l≠[]):Pj (pre p l)=p++Pj l:=by
 cases l with
 |nil=>simp_all
 |cons y r=>
  cases r with
  |nil=>rfl
  |cons z t=>simp[pre,Pj]
theorem oq(l:LB):Pj (split 44 l)=l:=by
 induction l with
 |nil=>rfl
 |cons b l ih=>
  by_cases a:b=44
  .subst a;rw[Ni,Ha _<|Nj _ l,ih];rfl
  .rw[LQ _ b l<|by simp[a],og<|Nj _ l,ih];rfl
theorem oh(xs:List<|LB)(x:LB)(h:xs≠[]):Pj (xs++[x])=Pj xs++44::x:=by
 induction xs with
 |nil=>simp_all
 |cons y r ih=>
  cases r with
  |nil=>rfl
  |cons z t=>
   rw[Ok,Ha y<|Sm,ih<|Sm,Ha y<|Sm];simp
def MJ(p:LB×LB):LB:=p.1++[61]++p.2
theorem xU(ps:List<|LB×LB)(k:Nat)(d:k<=ps.length):RH ps k=Pj ((ps.take k).map MJ):=by
 induction k with
 |zero=>rfl
 |succ k ih=>
  have ih':=ih X;have e:ps.getD k ([],[])=ps[k]:=by simp[show k<ps.length by omega]
  rw[RH,e,List.take_succ_eq_append_getElem X,Xa,Wb,N8];by_cases c:0<k
  .rw[Ye c,oh _ _<|by intro h;have a:=congrArg List.length h;rw[Yz,Xw]at a;simp only[TO]at a;omega,ih'];simp[MJ]
  .obtain rfl:k=0:=X;rfl
theorem pd{x:LB}{p:LB×LB}(h:Rq last x=some p):x=MJ p:=by
 unfold Rq at h;cases a:cut 61 x with
 |none=>simp_all
 |some q=>
  obtain⟨n,v⟩:=q;rw[a]at h;simp only at h;split at h
  .have:=Ub h;subst this;rw[(Rm a).1];simp[MJ]
  .cases h
theorem pf{acc ps:List<|LB×LB}(h:Wf last acc xs=some ps):∃qs,ps=acc++qs/\xs=qs.map MJ:=by
 induction xs generalizing last acc with
 |nil=>simp only[Wf,QZ]at h;simp_all
 |cons x xs ih=>
  unfold Wf at h;cases a:Rq last x with
  |none=>simp_all
  |some p=>
   rw[a]at h;obtain⟨qs,e1,e2⟩:=ih h;exact⟨p::qs,by simp_all,by rw[e2,Wb,pd a]⟩
theorem zu{l:LB}{ps:List<|LB×LB}(h:Wp l=some ps):RH ps ps.length=l:=by
 unfold Wp at h;split at h
 .rename_i a;have:=Ub h;subst this;rw[a];rfl
 .obtain⟨qs,e1,e2⟩:=pf h;simp at e1;subst e1;rw[xU _ _<|Yj _,X1,<-e2,oq]
def TV(e:Yn):LB:=e.name++123::e.inside
theorem Ch{n:LB}(h:Zx n=true):(123:UInt8)∉n:=by
 intro a;unfold Zx at h;rw[Vt]at h;have:=Tt.1 h.1 _ a;exact absurd this N
theorem He{e f:Yn}(d:Zx e.name=true)(g:Zx f.name=true):TV e=TV f↔e.name=f.name/\e.inside=f.inside:=by
 constructor
 .intro h;have a:=LM _ _ e.inside<|Ch d;have c:=LM _ _ f.inside<|Ch g;unfold TV at h;rw[h,c]at a;have i:=Ub a;have:=List.append_inj h i.symm;simp_all
 .rintro⟨a,c⟩;unfold TV;simp_all
theorem Fm{l a b:LB}(h:Y3 l=some (a,b,n)):Zx a=true/\(Wp b).isSome=true/\SR l=a++123::b:=by
 cases e:cut 123 l with
 |none=>rw[Ly e]at h;cases h
 |some p=>
  obtain⟨x,r⟩:=p;cases c:cut 125 r with
  |none=>rw[Mq e c]at h;cases h
  |some q=>
   obtain⟨y,z⟩:=q;rw[Mr e c]at h;split at h
   .rename_i d;rw[Vt]at d;cases i:VI z with
    |none=>simp_all
    |some k=>
     rw[i]at h;simp only[Wr,QZ,M1]at h;obtain⟨rfl,rfl,rfl⟩:=h;refine⟨d.1,d.2,?_⟩;have j:l=(x++123::y)++125::z:=by rw[(Rm e).1,(Rm c).1];simp
     have g:(125)∉x:=by
      intro m;have f:=d.1;unfold Zx at f;rw[Vt]at f;exact absurd (Tt.1 f.1 _ m) N
     have o:(125)∉x++123::y:=by
      simp only[Wk,X0,not_or];exact⟨g,N,(Rm c).2⟩
     unfold SR;rw[j,Hh o]
   .cases h
def Ut:List Yn->List Yn->Option Nat
 |_,[]=>none
 |seen,e::r=>if(seen.map TV).contains (TV e)then some e.at_ else Ut (seen++[e]) r
theorem yU(h:ZT i acc ps=.inr es):∃rest,es=acc++rest/\Uj i (acc.map TV) ps=Ut acc rest:=by
 induction ps generalizing i acc with
 |nil=>simp only[ZT,Sum.inr.injEq]at h;exact⟨[],by simp[h],C⟩
 |cons x xs ih=>
  unfold ZT at h;unfold Uj;split at h
  .simp_all
  .rename_i d;rw[Yd d];cases c:Y3 x with
   |none=>simp_all
   |some t=>
    obtain⟨a,b,n⟩:=t;rw[c]at h;simp only at h;obtain⟨rest,e1,e2⟩:=ih h;refine⟨⟨i,a,b,n⟩::rest,by simp_all,?_⟩;have e:SR x=TV ⟨i,a,b,n⟩:=(Fm c).2.2;rw[e,Ut];simp_all
theorem AC(h:ZT 0 [] ps=.inr es):Uj 0 [] ps=Ut [] es:=by
 obtain⟨rest,e1,e2⟩:=yU h;simp_all
theorem sP (a:i<es.length)(d:k<i)(c:TV (es[k]' X)=TV es[i]):Ut (es.take i) (es.drop i)=some (es[i]).at_:=by
 rw[List.drop_eq_getElem_cons a,Ut,Ye];rw[L7,<-c];refine XK.2 ⟨es[k]' X,?_,C⟩;rw[List.mem_iff_getElem];exact⟨k,by rw[Xw];omega,Sm⟩
theorem sQ (a:i<es.length)(e:∀k (c:k<i),TV (es[k]' X)≠TV es[i]):Ut (es.take i) (es.drop i)=Ut (es.take<|i+1) (es.drop<|i+1):=by
 rw[List.drop_eq_getElem_cons a,Ut,Yd,List.take_succ_eq_append_getElem a];rw[L7];intro g;obtain⟨f,h,d⟩:=XK.1 g;obtain⟨k,c,rfl⟩:=List.mem_iff_getElem.1 h;rw[Xw]at c;exact e k X<|by simpa using d
