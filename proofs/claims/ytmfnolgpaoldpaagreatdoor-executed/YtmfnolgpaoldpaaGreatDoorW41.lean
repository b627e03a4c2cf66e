/- Parts. -/
import Derived.Test.YtmfnolgpaoldpaaGreatDoorW40
import Derived.Test.YtmfnolgpaoldpaaGreatDoorW24
set_option linter.all false
set_option maxRecDepth 100000
set_option maxHeartbeats 16000000
namespace Go.Proofs.YtmfnolgpaoldpaaGreatDoor
open Go.RowKit LS Go.Proofs.Tryz
open Go.ChangeMaps (setBlock)
variable {es:Array MapEntry}{seen:Array Nat}{t:Int}{ys ys':List Cl}{js:List Nat}{c vs vs' xs:List Value}{gs:List XU}{is:List YG}{ser:List YY}{ss:List<|Option Cl}{m:MQ}{e:MapEntry}{a b base cl clock gb gx mb n sc sn sz x:Nat}{o:Obj}{av la sa sa':Option Addr}{al c0 c1 c2 c3 nv st v:Value}{W w w' w0:World}
theorem Da(k:List Xc)(v:Int):∀(m:List Ql)(j:Nat)(a:j<m.length),m[j].1=k->(∀i (c:i<m.length),i≠j->m[i].1≠k)->Ww k v m=m.set j (k,m[j].2++[v])
 |g::m,0,_,h,_=>by
  have e:g.1=k:=h;rw[Ww,Ye e];rfl
 |g::m,j+1,a,h,d=>by
  have f:g.1≠k:=d 0 Sm X;rw[Ww,Yd f,Da k v m j (by simpa using a) h λi c l=>d (i+1) (by simpa using c) X];rfl
theorem Dd(k:List Xc)(v:Int):∀(m:List Ql),(∀g∈m,g.1≠k)->Ww k v m=m++[(k,[v])]
 |[],_=>C
 |g::m,h=>by
  rw[Ww,Yd<|h g Sm,Dd k v m λz a=>h z<|Vf _ a];rfl
theorem Xe.push(h:Xe w x gs es clock)(c:x<W.heap.size)(g:XU)(d:g.tx.size<=maxLen)(f:∀e∈es.toList,e.key≠.string g.tx):
 Xe (setBlock W x<|.map (es.push ⟨.string g.tx,g.val,clock⟩)<|clock+1) x (gs++[g]) (es.push ⟨.string g.tx,g.val,clock⟩)<|clock+1:=by
 refine⟨by simp[setBlock,c],MapKept.stamped_push h.stm f,?_,λz a=>?_⟩
 .rw[Is,Y9,Y9,h.kv];rfl
 .rcases Wk.1 a with a|a
  .exact h.sz z a
  .rw[Vs]at a;subst a;exact d
theorem Xe.mod(h:Xe w x gs es clock)(m:x<W.heap.size)(g:XU)(n:g.tx.size<=maxLen){j:Nat}(d:es.toList[j]?=some e)(k:e.key=.string g.tx):
 Xe (setBlock W x<|.map (es.modify j λe=>{e with key:=.string g.tx,val:=g.val}) clock) x (gs.set j g) (es.modify j λe=>{e with key:=.string g.tx,val:=g.val}) clock:=by
 refine⟨by simp[setBlock,m],MapKept.stamped_modify h.stm j _ (λ_ _=>C) λe' _ c=>?_,?_,λz f=>?_⟩
 .rw[<-QW,d]at c;have:=Uc c;subst this;exact k.symm
 .rw[Io,<-h.kv];refine PB λi=>?_;rw[Vt,QW,V4,Se,Vt,Yz,Sy];by_cases a:j=i
  .subst a;have l:j<es.size:=by have:=(RX.1 d).1;simpa using this
   rw[Ye C,Ye C,Ye l,<-QW,d];rfl
  .rw[Yd a,Yd a,<-QW]
 .rcases NU f with f|rfl
  .exact h.sz z f
  .exact n
theorem AS(g:XU){t0 t1 t2 t3 t4 t5:Int}(d:Vd g.vals=[E t0,E t1,E t2,E t3,E t4,E t5]):g.val=.agg #[.slice g.a g.n g.c,.string g.tx,E t0,E t1,E t2,E t3,E t4,E t5]:=by
 unfold XU.val;rw[d]
theorem rK(d:∀g∈gs,XE w g){o:XU}(k:Xz w o.a o.n o.c o.tx o.qs)(v:Int):
 (∀(j:Nat)(q:j<gs.length),gs[j].tx=o.tx->(∀i (l:i<gs.length),i≠j->gs[i].tx≠o.tx)->(gs.set j {o with vals:=gs[j].vals++[v]}).map XU.grp=Ww (o.qs.map Xt) v (gs.map XU.grp))/\
 ((∀g∈gs,g.tx≠o.tx)->(gs++[{o with vals:=[v]}]).map XU.grp=Ww (o.qs.map Xt) v (gs.map XU.grp)):=by
 have key:∀g∈gs,g.qs.map _=o.qs.map _↔g.tx=o.tx:=λg f=>by
  constructor
  .intro h;have e:=(d g f).lb.txt;rw[h,<-k.txt]at e;exact(vL e)
  .intro h;refine FU (d g f).lb.wf k.wf ?_;rw[<-(d g f).lb.txt,<-k.txt,h]
 constructor
 .intro j q r s;rw[Io,Da _ v _ j (by rwa [Yz]) (by rw[List.getElem_map];exact(key _<|List.getElem_mem _).2 r) λi l m=>by
  rw[Yz]at l;rw[List.getElem_map];exact λe=>s i _ m<|(key _<|List.getElem_mem _).1 e,List.getElem_map];rfl
 .intro h;rw[Y9,Dd _ _ _ λg f=>by
  obtain⟨z,p,rfl⟩:=XJ.1 f;exact λe=>h z p<|(key z p).1 e];rfl
theorem tu(h:w.heap[x]?=some (.map es clock))(T:TypeId):(Builtin.clear_ #[304] T #[.map<|some x]).run prog w=.ok (.tuple #[]) (setBlock w x<|.map #[] clock):=by
 simp[Builtin.clear_,QU _,QR h,N4 _ h,Result.andThen,setBlock]
theorem oY(h:w.heap[x]?=some (.map es clock))(T:TypeId):(Builtin.len_ #[304] T #[.map<|some x]).run prog w=.ok (E es.size) w:=by
 simp[Builtin.len_,QU _,QR h,Result.andThen];rfl
def UU(op:Nat)(g:XU):YG:=⟨g.a,g.n,g.c,g.tx,g.qs,YZ<|T1 op g.vals⟩
def TH:XU:=⟨none,0,0,⟨#[]⟩,[],[]⟩
def Ln(es:Array MapEntry)(j:Nat):Nat:=(es.toList[j]?.map (·.born)).getD 0
structure Rv (es:Array MapEntry)(n:Nat)(js:List Nat)(seen:Array Nat):Prop where
 nodup:js.Nodup
 lt:∀j∈js,j<n
 seen:seen.toList=js.map (Ln es)
theorem Be(h:e∈(leftOf es seen).toList):e∈es.toList/\e.born∉seen.toList:=by
 unfold leftOf at h;rw[Kb,Qv]at h;refine⟨h.1,λa=>?_⟩;have:=h.2;simp[Array.mem_toList_iff.1 a]at this
theorem pG(h:e∈(leftOf es seen).toList):(leftOf es<|seen.push e.born).size+1<=(leftOf es seen).size:=by
 have e1:(leftOf es<|seen.push e.born).toList=(leftOf es seen).toList.filter λz=>decide<|z.born≠e.born:=by
  unfold leftOf;rw[Kb,Kb,List.filter_filter];refine List.filter_congr λz _=>?_;simp[Bool.and_comm]
 have a:((leftOf _ _).toList.filter λz=>decide<|z.born≠e.born).length<(leftOf _ _).toList.length:=List.length_filter_lt_length_iff_exists.2 ⟨e,h,Sm⟩;rw[<-e1,Sy,Sy]at a;omega
theorem pF(h:(leftOf es seen).size=0):∀e∈es.toList,e.born∈seen.toList:=by
 intro e c;refine JZ λd=>?_;have a:e∈(leftOf es seen).toList:=by
  unfold leftOf;rw[Kb,Qv];refine⟨c,?_⟩;simp;exact λf=>d<|Array.mem_toList_iff.2 f
 have:=Qr<|by rwa [Sy]
 rw[this]at a;cases a
theorem Rv.step(n:Xe w x gs es cl)(h:Rv es gs.length js seen)(o:e∈(leftOf es seen).toList):∃j,j<gs.length/\es.toList[j]?=some e/\Rv es gs.length (js++[j]) (seen.push e.born):=by
 obtain⟨p,q⟩:=Be o;obtain⟨j,f⟩:=Ig p;obtain⟨g,_⟩:=n.at f;have k:Ln es j=e.born:=by unfold Ln;rw[f];rfl
 have l:j∉js:=λm=>q<|h.seen▸XJ.2 ⟨j,m,k⟩;refine⟨j,g,f,⟨?_,?_,?_⟩⟩
 .rw[List.nodup_append];exact⟨h.nodup,Sm,λa r b d=>by rw[Vs]at d;subst d;intro e';subst e';exact l r⟩
 .intro i c;rcases Wk.1 c with c|c
  .exact h.lt i c
  .rw[Vs]at c;subst c;exact g
 .rw[Is,Y9,h.seen,PE,k]
theorem Rv.all(e:Xe w x gs es cl)(h:Rv es gs.length js seen)(n:(leftOf es seen).size=0):js.Perm<|List.range gs.length:=by
 rw[List.perm_ext_iff_of_nodup h.nodup List.nodup_range];intro j;rw[RY];refine⟨h.lt j,λp=>?_⟩;have f:j<es.toList.length:=by rwa [Sy,e.len]
 have g:=pF n _<|List.getElem_mem f;rw[h.seen]at g;obtain⟨i,k,l⟩:=XJ.1 g;have o:=h.lt i k;have m:i<es.toList.length:=by rwa [Sy,e.len]
 have d:Ln es i=es.toList[i].born:=by unfold Ln;rw[List.getElem?_eq_getElem m];rfl
 have a:=e.stm.2.1;rw[List.Nodup,Rx,List.pairwise_iff_getElem]at a;have:i=j:=by
  rcases Nat.lt_trichotomy i j with c|c|c
  .exact absurd (d.symm.trans l)<|a i j _ _ c
  .exact c
  .exact absurd (d.symm.trans l).symm<|a j i _ _ c
 rw[<-this];exact k
theorem yx (op:Nat)(h:js.Perm<|List.range gs.length):((js.map λj=>UU op<|gs.getD j TH).map YG.el).Perm<|(gs.map XU.grp).map<|M5 op:=by
 have a:=(h.map λj=>UU op<|gs.getD j TH).map YG.el;refine a.trans ?_;have e:(List.range gs.length).map (λj=>UU op<|gs.getD j TH)=gs.map (UU op):=by
  conv=>rhs;rw[<-qk gs TH]
  rw[VD];rfl
 rw[e,VD,VD];exact List.Perm.refl _
theorem kG{e:TypeId}(h:w.ownsRow b e sz v n xs){q:Nat}(d:w.heap[q]?=some o)(f:∀c t fr,o≠.cells c t fr):some q≠v.ownBlock:=by
 rcases h.2 with⟨rfl,_⟩|⟨g,cp,cur,rfl,_,a,_⟩
 .simp[Value.ownBlock]
 .intro i;have j:q=g:=by simpa [Value.ownBlock]using i
  subst j;rw[d]at a;injection a with h3;exact f _ _ _ h3
theorem PY(a:x<W.heap.size)(o:Obj):(W.alloc o).heap[x]?=W.heap[x]?:=Below.heap_alloc _ _ _ a
theorem Ya.belX{t:TypeId}(h:Ya w a c t)(d:YJ x w.heap.size w w')(e:a≠x):Ya w' a c t:=(d.block a h.lt e).trans h
theorem xd (l:List Int)(x:Int)(a:l.length<=10000)(c:∀y∈l,YD y)(d:YD x)(t0 t1 t2 t3 t4 t5 r0 r1 r2 r3 r4 r5:Int)(f:Vd l=[E t0,E t1,E t2,E t3,E t4,E t5])(g:Vd (l++[x])=[E r0,E r1,E r2,E r3,E r4,E r5]):CP 140 #[.agg #[E t0,E t1,E t2,E t3,E t4,E t5],E x] w λe u=>e=.returned (.agg #[E r0,E r1,E r2,E r3,E r4,E r5])/\BW w u:=by
 have h:=AH l x a c d w;unfold UC at h;rw[f,g]at h;exact h
theorem vC{a:Obj}{t:TypeId}:Ya ((w.alloc a).alloc<|.cells ⟨c⟩ t).drew (w.heap.size+1) c t:=by
 have:=Go.Deep.blk_alloc_new (w.alloc a)<|.cells ⟨c⟩ t;rw[Go.Deep.nblk_alloc]at this;exact this
theorem vB{a:Obj}{t:TypeId}:Ya ((w.alloc<|.cells ⟨c⟩ t).alloc a).drew w.heap.size c t:=(Yc.block _ Sm).trans YO
theorem nf{op:Nat}(x0:op<=3){bs:List BA}(l:List El)(d5:Ya w gb [.map<|some x] 306)(hx:XN w x)(hn:w.ownsRow 0 9 1 nv bs.length<|TE bs)(q6:bs.length<=100000)(hs:O1 bs)(hv:Y2 w v l is):
 CP 101 #[Vp gb,E op,nv,v] w λe f=>∃v' is',e=.returned v'/\Hid (Y2 f v' (SB op (bs.map bl) l) is'/\XN f x)/\YJ x w.heap.size w f:=by
 obtain⟨i0,hi,j9,k0,k1⟩:=Xv Tryz.infoItem;obtain⟨na,ncp,rfl⟩:=Zd hn;obtain⟨ra,rcp,rfl⟩:=Zd hv.row;obtain⟨es0,cl0,b8⟩:=hx;have HG:=I d5;have q7:=I b8;have HN:=I hn;have HS:=I hs;have HV:=I hv;have x1:=hv.len;have q8:gb≠x:=by intro e;subst e;rw[d5]at b8;cases b8
 have k2:=(Xr.1 b8).1;have x2:=d5.lt;have x3:=d5.cell;have v8:=λT=>tu b8 T;go_enter func101,ntmps101;go_wp2;obtain⟨w1,f0⟩:∃w1,w1=setBlock w x (.map #[] cl0):=⟨_,C⟩;rw[<-f0];have q9:Hid<|YJ x w.heap.size w _:=f0▸YJ.set _ _ _ _;have r6:Hid<|Xe w1 x [] _ cl0:=I ⟨by rw[f0];simp[setBlock,k2],MapKept.stamped_empty _,C,λg d=>by cases d⟩;have r7:Hid<|XN w x:=I ⟨es0,cl0,q7⟩;go_loopw [22] (λi wr=>∃(k:Nat)(gs:List XU)(es:Array MapEntry)(cl:Nat),k<=is.length/\i=E k/\gs.length<=k/\Hid (Xe wr x gs es cl)/\Hid ((∀g∈gs,XE wr g/\g.vals.length<=k)/\gs.map XU.grp=Wg (bs.map bl) (l.take k))/\Hid (YJ x w.heap.size w wr))
  (λi _=>is.length-(intOf i).toNat);case atStart=>exact⟨0,[],#[],cl0,Yr _,C,Yr _,r6,I ⟨(λg d=>by cases d),C⟩,q9⟩
 case round=>
  rename World=>wo;obtain⟨k,gs,es,cl,hk,rfl,x4,a1,H,HB⟩:=hrel;have f4:=HB.size;have d6:=I<|Zu.belX HB r7;have f5:Hid<|Ya _ _ _ _:=I<|d6 _ _ _ _ HG;by_cases f6:k<is.length
  .have d:∃g,ra=some ⟨g,0,none⟩:=by
    obtain⟨g,cp',h⟩:=Zm HV.row X;injection h with p;exact⟨g,p⟩
   obtain⟨vg,rfl⟩:=d;have f7:=I<|d6.own HV.row;obtain⟨f1,f2,f3⟩:=OA _ k f6;have d1:=Zc f7 _ _ f1;have d2:=Zc f7 _ _ f2;have d3:=Zc f7 _ _ f3;have k3:=I<|(HV.ok _<|List.getElem_mem f6).jk d6;have k4:Hid<|Wg (bs.map bl) (l.take<|k+1)=Ww (Zp (is[k]).labs<|bs.map bl) (is[k]).v (Wg (bs.map bl)<|l.take k):=by
    have hl:k<l.length:=by rwa [HV.len']
    rw[List.take_succ_eq_append_getElem hl,DP];have e:l[k]=(is[k]).el:=by
     have:l[k]?=(is.map YG.el)[k]?:=by rw[HV.els]
     rw[List.getElem?_eq_getElem hl,Vt,List.getElem?_eq_getElem f6]at this;exact Uc this
    rw[e];rfl
   generalize is[k]=s at*;have x5:(k:Int)<(is.length):=X;have d7:x<wo.heap.size:=X;go_wp2_with fail;refine Zv λW r=>?_;have S:Below _ _ W:=r▸Yc;have HI:Hid<|Ya W _ [.slice _ _ _,.string _,.int _ _] 223:=r▸YO;refine(py W (k3.below S).lb ((d6.trans<|Zu.below S).own HN) q6 HS).mono ?_;rintro e Y ⟨a',n',c',tx',qs',rfl,b9,J⟩;have L:=I<|S.trans<|J.mono S.size;have f8:=I<|HI.below J;have k5:=L.size;have x6:=f8.lt;have F:tx'.size<=maxLen:=by
    have p:=b9.1.wf.len;rw[<-b9.1.txt,Zb]at p;unfold maxLen;omega
   have f9:=I<|a1.moved<|L.block x d7;have k6:=I<|f5.below L;have r8:x<Y.heap.size:=X;have HF:=I<|f9.find _ F;obtain⟨vals,gv,r9⟩:∃(vals:List _)(gv:XU),vals=gv.vals/\(vals.length<=k/\(∀v∈vals,YD v))/\(∃u,(∀W:World,W.heap[x]?=Y.heap[x]?->(Instr.lookup _ _ _ _).run _ W=.ok u W)/\∃sa sn sc stx,u=.agg (.slice sa sn sc::.string stx::Vd vals).toArray)/\
    (((∀W:World,(Instr.findKey 9 _ _).run _ W=.ok _ W)/\(∀g∈gs,g.tx≠tx')/\(∀e∈es.toList,e.key≠.string _)/\vals=[])∨∃j,∃hj:j<gs.length,gs[j].tx=tx'/\gs[j].vals=vals/\(∀i (hi:i<gs.length),i≠j->gs[i].tx≠tx')/\∃e,es.toList[j]?=some e/\e.key=.string _/\∀W:World,(Instr.findKey 9 _ _).run _ W=.ok (some (j,e.val)) W):=by
    rcases HF.out with⟨p,h2,h3⟩|⟨j,hj,p,h2,e,h3,h4,h5,h6⟩
    .exact⟨[],⟨none,0,0,tx',[],[]⟩,C,⟨Yr _,λv hv=>by cases hv⟩,⟨_,λW r=>ml f9 F p W r,none,0,0,ByteArray.empty,C⟩,.inl ⟨p,h2,h3,C⟩⟩
    .have k7:=H.1 _<|List.getElem_mem hj;exact⟨gs[j].vals,gs[j],C,⟨k7.2,k7.1.vok⟩,⟨_,λW r=>mh f9 F h6 W r,gs[j].a,gs[j].n,gs[j].c,gs[j].tx,h5⟩,.inr ⟨j,hj,p,C,h2,e,h3,h4,h6⟩⟩
   obtain⟨-,a2,j5,a0⟩:=r9;have a2:=I a2;have j6:=I j5;have a0:=I a0;obtain⟨t0,t1,t2,t3,t4,t5,a3⟩:=LW vals;have b5:=I a3;obtain⟨u,s0,sa,sn,sc,stx,hu⟩:=j6.out;rw[b5]at hu;subst hu;have a7:=I s0;go_upto_region 6 with fail;refine Zs λwA g0=>?_;have d8:Below _ _ _:=g0▸Yc;have c1:Hid<|Ya _ _ _ 198:=g0▸YO;have g5:=I<|k6.below d8;have k8:=I<|f8.below d8;have O:=I d8;clear g0 d8;have s1:=O.size;have x7:=c1.lt;have c0:=g5.cell 0;have b0:=c1.cell 0;have b1:=c1.cell 1;simp only[Yf]at c0 b0 b1;have c2:x<wA.heap.size:=X;have c3:=I<|O.block x r8;have l1:∀o,(Instr.lookup _ _ _ _).run _ ((wA.alloc o).drew)=_:=λo=>a7 _<|(PY c2 o).trans c3;have l2:∀o,(Instr.lookup _ _ _ _).run _ (wA.drew.alloc o)=_:=λo=>a7 _<|(PY c2 o).trans c3;have l3:∀o o',(Instr.lookup _ _ _ _).run _ (((wA.alloc o).alloc _).drew)=_:=λo o'=>a7 _<|((PY (by simp;omega) o').trans<|PY c2 o).trans c3;have l4:∀o o',(Instr.lookup _ _ _ _).run _ ((wA.alloc o).drew.alloc _)=_:=λo o'=>a7 _<|((PY (by simp;omega) o').trans<|PY c2 o).trans c3;have l5:∀o o',(Instr.lookup _ _ _ _).run _ ((wA.drew.alloc o).alloc _)=_:=λo o'=>a7 _<|((PY (by simp;omega) o').trans<|PY c2 o).trans c3;have p6:∀W:World,(Instr.field 324 (.agg #[.slice sa sn sc,.string stx,E t0,E t1,E t2,E t3,E t4,E t5]) 1).run prog W=.ok (.agg #[E t0,E t1,E t2,E t3,E t4,E t5]) W:=λW=>by kernel_rfl
   go_cut [12]from 30 to 37 (λs12 wx=>∃Bt:Nat,s12=Vp Bt/\Hid (Ya wx Bt [E t0,E t1,E t2,E t3,E t4,E t5] 313)/\Hid (BW wA wx)/\wA.heap.size<=Bt);case first=>
    go_region_held3 (λf=>f.cell? ⟨gb,0,none⟩=some (.map<|some x)/\f.cell? ⟨Y.heap.size,0,none⟩=some (.slice a' n' c')/\f.cell? ⟨Y.heap.size,1,none⟩=some (.string tx')) (first|exact⟨c0,b0,b1⟩|go_keep) (first
     | (go_at_call 94;refine(Mt).mono ?_;rintro e w7 ⟨rfl,o7,s2⟩));all_goals
     go_wp2;go_meet;exact⟨_,C,I<|by first|exact vC|exact vB,I Yh,X⟩
   case rest=>
   obtain⟨Bt,rfl,HT,a8,x8⟩:=hcut;clear l1 l2 l3 l4 l5 p6 c0 b0 b1 a7;have c4:=I<|(L.trans<|O.mono k5).trans<|a8.mono X;have k9:=I<|g5.below a8;have l0:=I<|k8.below a8;have g6:=I<|c1.below a8;have g7:=I<|b9.1.jk<|Zu.below<|O.trans<|a8.mono s1;have l6:=I<|c4.block x d7;have l7:x<wc.heap.size:=by have:=c4.size;omega
   clear g5 k8 c1 O a8 k6 f8;obtain⟨r0,r1,r2,r3,r4,r5,hr⟩:=LW<|vals++[s.v];have HR:=I hr;clear hr;have g8:=I k3.vok;have c5:=I<|a1.moved l6;have R:Hid<|∀g∈gs,XE _ g/\g.vals.length<=k:=I λg d=>⟨(H.1 g d).1.jk<|Zu.below c4,(H.1 g d).2⟩;have s3:∃(es':Array _)(cl':Nat)(gs':List _),(∀W:World,W.heap[x]?=wc.heap[x]?->(Instr.mapUpdate 304 (.map<|some x) (.string tx')<|.agg #[.slice a' n' c',.string tx',E r0,E r1,E r2,E r3,E r4,E r5]).run prog W=.ok () (setBlock W x<|.map es' cl'))/\
    (∀W:World,x<W.heap.size->Xe (setBlock W x<|.map es' cl') x gs' es' cl')/\gs'.length<=k+1/\(∀g∈gs',XE wc g/\g.vals.length<=k+1)/\gs'.map XU.grp=Wg (bs.map bl) (l.take<|k+1):=by
    obtain⟨o,Z⟩:∃o:XU,o=⟨a',n',c',tx',qs',vals++[s.v]⟩:=⟨_,C⟩;have d9:o.val=.agg #[.slice a' n' c',.string tx',E r0,E r1,E r2,E r3,E r4,E r5]:=Z▸AS ⟨a',n',c',tx',qs',vals++[s.v]⟩ HR.out;have g9:XE wc o/\o.vals.length<=k+1:=by
     rw[Z];refine⟨⟨g7,λz hz=>?_⟩,?_⟩
     .rcases Wk.1 hz with hz|hz
      .exact a2.2 z hz
      .rw[Vs]at hz;subst hz;exact g8
     .have:=a2.1;simp;omega
    have l8:=rK (λg d=>(R g d).1) (o:=⟨a',n',c',tx',qs',[]⟩) g7 s.v;have l9:qs'.map Xt=Zp s.labs _:=b9.2;rcases a0.out with⟨p,h2,h3,h4⟩|⟨j,hj,p,h2,h3,e,h4,h5,h6⟩
    .refine⟨_,_,gs++[o],λW r=>?_,λW r=>c5.push r o (Z▸F)<|by rwa [Z],by simp;omega,λg d=>?_,?_⟩
     .have:=xr c5 F p o.val W r;rw[d9]at this;rw[d9,Z];exact this
     .rcases Wk.1 d with d|d
      .exact⟨(R g d).1,by have:=(R g d).2;omega⟩
      .rw[Vs]at d;subst d;exact g9
     .have:=l8.2 h2;rw[k4,<-l9,<-H.2,<-this,Z,h4];rfl
    .refine⟨_,_,gs.set j o,λW r=>?_,λW r=>c5.mod r o (Z▸F) h4<|by rwa [Z],by rw[Qw];omega,λg d=>?_,?_⟩
     .have:=xj c5 F h4 h5 h6 o.val W r;rw[d9]at this;rw[d9,Z];exact this
     .rcases NU d with d|rfl
      .exact⟨(R g d).1,by have:=(R g d).2;omega⟩
      .exact g9
     .have:=l8.1 j _ p h3;rw[k4,<-l9,<-H.2,<-this,Z,h2]
   obtain⟨es',cl',gs',m6,m7,s4,m8,m9⟩:=s3;have n0:=I m6;have s5:=I m7;have n5:=I m8;have s6:=I m9;have i1:Hid<|vals.length<=10000/\∀y∈vals,YD y:=I ⟨by have:=a2.1;omega,a2.2⟩;have s7:Hid<|XN _ x:=I ⟨es,cl,a1.heap⟩;clear m6 m7 m8 m9 a0 c5 R a2 a1 H g7 b9;have c0:=k9.cell 0;have b0:=g6.cell 0;have b1:=g6.cell 1;have y2:=l0.cell 2;have m0:=HT.cell 0;have m1:=HT.cell 1;have m2:=HT.cell 2;have m3:=HT.cell 3;have m4:=HT.cell 4;have m5:=HT.cell 5;simp only[Yf]at c0 b0 b1 y2 m0 m1 m2 m3 m4 m5;have x9:=c4.size;have s8:Hid<|gb≠x/\Y.heap.size≠x/\wo.heap.size≠x/\Bt≠x:=I ⟨q8,X,X,X⟩;have Q:Hid<|∀W,YJ x _ _ W->W.cell? _=some _/\W.cell? _=some _/\W.cell? _=some _/\W.cell? _=some _/\W.cell? _=some _/\W.cell? _=some _/\W.cell? _=some _/\W.cell? _=some _/\W.cell? _=some _/\W.cell? _=some _:=I λW r=>by
    obtain⟨n1,n2,n3,n4⟩:=s8.out;have g1:=k9.belX r n1;have g2:=g6.belX r n2;have g3:=l0.belX r n3;have g4:=HT.belX r n4;exact⟨g1.cell 0,g2.cell 0,g2.cell 1,g3.cell 2,g4.cell 0,g4.cell 1,g4.cell 2,g4.cell 3,g4.cell 4,g4.cell 5⟩
   go_upto_region 7 with fail;go_region_held3 (λW=>W.cell? ⟨gb,0,none⟩=some (.map<|some x)/\W.cell? ⟨Y.heap.size,0,none⟩=some (.slice a' n' c')/\W.cell? ⟨Y.heap.size,1,none⟩=some (.string tx')/\W.cell? ⟨wo.heap.size,2,none⟩=some (E s.v)/\W.cell? ⟨Bt,0,none⟩=some (E t0)/\W.cell? ⟨Bt,1,none⟩=some (E t1)/\W.cell? ⟨Bt,2,none⟩=some (E t2)/\W.cell? ⟨Bt,3,none⟩=some (E t3)/\W.cell? ⟨Bt,4,none⟩=some (E t4)/\W.cell? ⟨Bt,5,none⟩=some (E t5)) (first|exact⟨c0,b0,b1,y2,m0,m1,m2,m3,m4,m5⟩|exact s9.out|exact t6.out _|exact t7.out _|exact t8.out _ _|go_keep) (first
    | (go_at_call 94;refine(Mt).mono ?_;rintro e w7 ⟨rfl,o7,s2⟩)
    | (go_at_call 140;refine(xd vals s.v i1.1 i1.2 g8.out t0 t1 t2 t3 t4 t5 r0 r1 r2 r3 r4 r5 b5.out HR.out).mono ?_;rintro e w8 ⟨rfl,a4⟩;have D:Hid<|BW wc w8:=I<|by first|exact⟨a4.os,a4.tape,a4.output,a4.size,a4.block⟩|exact(((Ym wc.heap.size wc).drew).alloc (Yj _) _).trans<|a4.mono Sm
       have s9:=I<|Q.out w8<|YJ.of D.out;have t6:=I λo=>Q.out (w8.alloc o)<|YJ.of<|D.alloc D.size o;have t7:=I λM=>Q.out (setBlock w8 x M)<|(YJ.of D.out).trans<|YJ.set _ _ _ _;have t8:=I λo M=>Q.out (setBlock (w8.alloc o) x M)<|(YJ.of<|D.alloc D.size o).trans<|YJ.set _ _ _ _;have q0:=n0.out w8<|D.block x l7;have q1:=λo=>n0.out (w8.alloc o)<|(PY (by have:=D.size;omega) o).trans<|D.block x l7;clear a4));have p7:Hid<|∀W9,BW wc W9->Xe (setBlock W9 x<|.map es' cl') x gs' es' cl'/\(∀g∈gs',XE (setBlock W9 x<|.map es' cl') g/\g.vals.length<=k+1)/\YJ x w.heap.size w (setBlock W9 x<|.map es' cl'):=I λW9 h9=>by
    have n6:YJ x wc.heap.size wc<|setBlock W9 x<|.map es' cl':=(YJ.of h9).trans<|YJ.set _ _ _ _;have t9:XN wc x:=by
     obtain⟨q1,q2,hq⟩:=s7.out;exact⟨q1,q2,l6.trans hq⟩
    refine⟨s5.out W9<|by have:=h9.size;omega,λg d=>⟨(n5.out g d).1.jk<|Zu.belX n6 t9,(n5.out g d).2⟩,HB.trans<|((YJ.of c4.out).mono f4).trans<|n6.mono X⟩
   all_goals
    obtain⟨f1,f2,f3⟩:=p7.out w8 D.out;have F1:=I f1;have F2:=I<|And.intro f2 s6.out;have F3:=I f3;clear f1 f2 f3;go_wp2;go_roundw;case rel=>exact⟨k+1,gs',es',cl',X,by go_num,s4,F1,F2,F3⟩
    case measure=>simp[intOf];omega
  .obtain rfl:k=is.length:=X;have u0:Hid<|gs.map XU.grp=Wg (bs.map bl) l:=by have:=H.2;rwa [Wm<|by rw[HV.len'];omega]at this
   have n7:=I H.1;have i2:=a1.len;have c0:=f5.cell 0;simp only[Qp]at c0;have n8:=λT=>oY a1.heap T;rw[i2]at n8;have d7:x<wo.heap.size:=X;clear H;go_wp2_with(at_make;refine Kx _ C _ _ 220 C w.heap.size 223 i0 _ 3 underlying220 hi j9 k0 _ _ _ gs.length C C C ?b2 ?b3 ?b4 ?_);case b2=>rw[k1];omega
   case b3=>unfold maxLen;omega
   case b4=>exact f4
   intro w2 j7 c6;have c7:=I<|(Ym _ _).grown c6 (Yj _) λq hq=>by cases hq
   have n9:=I<|a1.moved<|c7.block x d7;have u1:=I<|f5.below c7;clear c6 c0 n8;have c0:=u1.cell;have u2:=run_range_map _ 304 9 _ x _ _ underlying304 n9.heap;go_wp2;have p8:=I<|HB.trans<|(YJ.of c7).mono f4;have i3:Hid<|∀g∈gs,XE _ g/\g.vals.length<=is.length:=I λg d=>⟨(n7 g d).1.jk<|Zu.below c7,(n7 g d).2⟩;have y0:=c7.size;clear u2 c0;go_loopg [13] gs.length (λkx v wr=>∃(js:List Nat)(seen:Array Nat)(c9:Nat),(leftOf es seen).size<=kx/\js.length+(leftOf es seen).size<=gs.length/\wr.ownsRow w.heap.size 223 3 v js.length (Y5<|js.map λj=>UU op<|gs.getD j TH)/\Hid (wr.heap[w2.heap.size]?=some (.mapIter (some x) cl seen c9)/\cl<=c9)/\Hid (Xe wr x gs es cl)/\Hid (Rv es gs.length js seen)/\Hid (∀g∈gs,XE wr g/\g.vals.length<=is.length)/\Hid (YJ x w.heap.size w wr)/\w2.heap.size<wr.heap.size);case atStart=>
    have e0:Below _ _<|w2.alloc<|.mapIter (some x) cl #[] cl:=Yc;have o0:(leftOf es #[]).size<=gs.length:=by unfold leftOf;rw[<-i2];exact Array.size_filter_le
    exact⟨[],#[],cl,o0,by simpa using o0,Ze j7 e0,I ⟨heap_alloc_new _ _,Yj _⟩,I<|n9.moved<|e0.block x X,I ⟨Ii,Sm,C⟩,I λg d=>⟨(i3 g d).1.jk<|Zu.below e0,(i3 g d).2⟩,I<|p8.trans<|(YJ.of e0).mono X,Sm⟩
   case round=>
    obtain⟨js,seen,c9,y1,y3,a5,e1,U,i4,a9,c8,i5⟩:=hrel;have u3:x<wr.heap.size:=by have:=c8.size;omega
    have i6:=λty=>run_next_at (P:=prog) _ ty _ x _ _ _ _ _ e1.1 U.heap U.stm.1 e1.2;rcases i6 0 with⟨u4,b6⟩|⟨e,he,o1,a6,b6⟩
    .have e2:=i4.all U u4;have i7:=yx op e2;rw[u0]at i7;have i8:=I<|qR l (λe he=>by
     rw[<-HV.els]at he;obtain⟨i,hi,rfl⟩:=XJ.1 he;exact(HV.ok i hi).lb.wf) i7;have i9:(js.map λj=>UU op<|gs.getD j TH).length=js.length:=Yz _;rw[<-i9]at a5;have o2:=I<|Fb a5 (c8.size) (by rw[i9];omega) (λi hi=>by
     obtain⟨j,hj,rfl⟩:=XJ.1 hi;have u5:=i4.lt j hj;have eg:gs.getD j TH=gs[j]:=by rw[Y0,List.getElem?_eq_getElem u5];rfl
     rw[eg];exact⟨(a9 _<|List.getElem_mem _).1.lb,Np _⟩) i8.1;rw[i8.2]at o2;clear a5 i7 e2 i6;go_wp2_with fail;refine o2.mono ?_;rintro e Y ⟨rfl,is',H5⟩;have u6:=I<|c8.trans<|YJ.of H5.2;have u7:Hid<|XN _ x:=I ⟨es,cl,(H5.2.block x k2).trans U.heap⟩;go_wp2;go_ret;exact⟨_,is',C,I ⟨H5.1,u7⟩,u6⟩
    .obtain⟨j,hj,o3,o4⟩:=i4.step U.out he;obtain⟨_,o5,o6⟩:=U.at o3;have o8:=(Be he).1;have y4:=pG he;have p9:=I o4;obtain⟨W3,V⟩:∃W3,W3=setBlock o1 w2.heap.size (.mapIter (some x) cl (seen.push e.born) cl):=⟨_,C⟩;rw[<-V]at b6;have b7:o1.heap=wr.heap:=by rcases a6 with rfl|rfl<;>rfl
     have j0:W3.heap[w2.heap.size]?=some (.mapIter (some x) cl (seen.push e.born) cl):=by rw[V];simp[setBlock,b7,i5]
     have e3:∀i,i≠w2.heap.size->W3.heap[i]?=wr.heap[i]?:=λi hi=>by rw[V];simp[setBlock,b7,Qx hi]
     have u8:W3.heap.size=wr.heap.size:=by rw[V];simp[setBlock,b7]
     have e4:Below w.heap.size _ _:=⟨by rw[V];rcases a6 with rfl|rfl<;>rfl,by rw[V];rcases a6 with rfl|rfl<;>rfl,by rw[V];rcases a6 with rfl|rfl<;>rfl,X,λi hi=>e3 i X⟩;have e6:Zu _ _:=λb c T fr hb=>(e3 b λe'=>by subst e';rw[e1.1]at hb;cases hb).trans hb;have o9:=e3 x X;have d0:=I<|U.moved o9;have p0:=run_entry_at (P:=prog) _ _ x _ _ _ _ e j0 d0.heap o8 d0.stm.2.1;have eg:gs.getD j TH=gs[j]:=by rw[Y0,List.getElem?_eq_getElem hj];rfl
     have u9:Hid<|(js++[j]).map (λj=>UU _<|gs.getD j _)=js.map _++[UU op _]:=I<|by rw[Y9,PE,eg]
     have p1:Hid<|XE _ gs[j]/\(gs[j]).vals.length<=10000:=I ⟨(a9 _<|List.getElem_mem _).1.jk e6,by have:=(a9 _<|List.getElem_mem hj).2;omega⟩;have j1:Hid<|∀g∈gs,XE _ g/\g.vals.length<=is.length:=I λg d=>⟨(a9 g d).1.jk e6,(a9 g d).2⟩;have p2:=I<|c8.trans<|YJ.of e4;have e7:=e6.own a5;have q3:=I j0;generalize gs[j]=g at*;obtain⟨t0,t1,t2,t3,t4,t5,a3⟩:=LW g.vals;have b5:=I a3;rw[o6,AS g a3,o5]at b6 p0;obtain⟨one,j2⟩:∃one,one=YZ (T1 op g.vals):=⟨_,C⟩;have j3:=I j2;have v9:w2.heap.size<W3.heap.size:=X;clear u8 i5 u3;clear i6 a5 e6 o9 j0 e3 e4 V a6 b7 o5 o6 o8 he o4 a3 j2 U a9 c8 e1 eg o3 hj;go_upto_region 13 with fail;refine Zs λp3 r=>?_;have S:Below _ _ _:=r▸Yc;have HX:Hid<|Ya _ _ [.slice _ _ _,.string _,.int _ _,.int _ _,.int _ _,.int _ _,.int _ _,.int _ _] 324:=r▸YO;have e8:=Ze e7 S;have p4:=I S;clear r S e7 b6 p0;have v0:=p4.size;have q4:=p2.size;have Q:Hid<|∀f,Ya f W3.heap.size [.slice g.a g.n g.c,.string g.tx,E t0,E t1,E t2,E t3,E t4,E t5] 324->f.cell? _=some _/\f.cell? _=some _/\f.cell? _=some _/\f.cell? _=some _/\f.cell? _=some _/\f.cell? _=some _/\f.cell? _=some _/\f.cell? _=some _:=I λf p=>⟨p.cell 0,p.cell 1,p.cell 2,p.cell 3,p.cell 4,p.cell 5,p.cell 6,p.cell 7⟩;refine ZW 10 (λf=>f.cell? _=some _/\f.cell? _=some _/\f.cell? _=some _/\f.cell? _=some _/\f.cell? _=some _/\f.cell? _=some _/\f.cell? _=some _/\f.cell? _=some _) Kr (Q.out _ HX.out) λm=>?_;refine Za 0 m (h:=Za 1 m (h:=Za 2 m (h:=Za 3 m (h:=Za 4 m (h:=Za 5 m (h:=?_))))));refine Zz (i:=6) Kr C λK hK=>?_;go_simp;refine(AE X p1.2 p1.1.vok b5).mono ?_;rintro e5 Y ⟨rfl,J⟩;have L:Hid<|BW p3 _:=I ⟨J.os,J.tape,J.output,J.size,J.block⟩;have j4:=I<|HX.below L;clear J;rw[<-j3];go_simp;refine hK _ _ (Q _ j4) λm=>?_;clear hK K;try simp only[Act.put,Yt]
     refine Za 7 m (h:=?_);refine Zz (i:=8) Kr C λK hK=>?_;have O:Hid<|∀o,Below _ _<|Y.alloc o:=I λo=>Yc;go_simp;refine hK _ _ (Q _<|j4.below<|O _) λm=>?_;clear hK K;try simp only[Act.put,Yt]
     refine Zz (i:=9) Kr C λK hK=>?_;have B:=Ze e8 L;have k5:=L.size;refine S3 C _ _ _ C _ 223 _ _ 3 _ underlying220 hi j9 k0 k1 C N _ _ _ (by simp[Act.eval]) (B.alloc _) ⟨Y.heap.size,0,none⟩ 1 1 [.slice g.a g.n g.c,.string g.tx,E one] (by simp[Act.eval]) C ?h2 ?h3 ?h4 ?h5 ?h6 ?_;case h2=>exact Z1 C
     case h3=>intro u hu;simp at hu;rcases hu with rfl|rfl|rfl<;>rfl
     case h4=>unfold maxLen;omega
     case h5=>omega
     case h6=>simp;omega
     intro v6 w6 e9 A _;have G:Below _ _<|Y.alloc<|.cells #[.slice g.a g.n g.c,.string g.tx,E one] 223:=(p4.trans<|L.mono v0).trans<|(O _).mono X;have p5:=(Wc.below G _).trans<|Wc.grown A<|B.alloc _;have d4:∀(q:Nat)(o:Obj),W3.heap[q]?=some o->(∀c t fr,o≠.cells c t _)->w6.heap[q]?=some o:=λq o hq Z=>by
      have v1:=(Xr.1 hq).1;have p:=(G.block q v1).trans hq;exact(A.block q (by have:=G.size;omega)<|kG (B.alloc _) p Z).trans p
     have v2:=I<|d0.moved<|(d4 x _ d0.heap λc t fr h=>by cases h).trans d0.heap.symm;have q5:Hid<|w6.heap[w2.heap.size]?=some _/\cl<=cl:=I ⟨d4 _ _ q3 (λc t fr h=>by cases h),Yj _⟩;have v3:Hid<|∀g∈gs,XE _ g/\g.vals.length<=is.length:=I λz hz=>⟨⟨(j1 z hz).1.lb.kb p5 N,(j1 z hz).1.vok⟩,(j1 z hz).2⟩;have v4:=I<|p2.trans<|YJ.of<|(G.mono q4).grown A (by have:=G.size;omega) λq hq=>(B.lt q hq).1;have v5:w2.heap.size<w6.heap.size:=by have:=G.size;have:=A.size;omega
     have j8:w6.ownsRow w.heap.size 223 3 v6 (js++[j]).length<|Y5<|(js++[j]).map λj=>UU op<|gs.getD j TH:=by
      rw[u9,Lr,Yv];unfold UU;rw[<-j3];exact e9
     have v7:Hid<|Ya _ _ _ _:=I<|Wc.grown A (B.alloc _) _ _ _ _ N<|j4.below<|O _;refine hK _ _ (Q _ v7) λm=>?_;clear hK K;try simp only[Act.put,Yt]
     refine ZS Kr Kr C Kr λK hK=>?_;go_simp;refine hK _ _ ?_;clear hK K A e9 B e8 p5 d4 G;go_wp2;go_roundg (leftOf es<|seen.push e.born).size;case measure=>omega
     case rel=>exact⟨js++[j],seen.push _,cl,Yj _,by simp;omega,j8,q5,v2,p9,v3,v4,v5⟩
def V7(w w':World):Prop:=∀(b:Nat)(c:Array Value)(T:TypeId)(fr:Nat×Nat),T≠214->T≠134->w.heap[b]?=some (.cells c T fr)->w'.heap[b]?=some (.cells c T fr)
theorem Zu.y(h:Zu w w'):V7 w w':=λb c T fr _ _ a=>h b c T _ a
theorem V7.trans{z:World}(h:V7 w w')(k:V7 w' z):V7 w z:=λb c T fr a d e=>k b c T _ a d<|h b c T _ a d e
theorem V7.below(h:BW w w'):V7 w w':=(Zu.below h).y
theorem V7.own(h:V7 w w'){e:TypeId}{size:Nat}(a:w.ownsRow base e size v n xs)(c:e≠214)(d:e≠134):w'.ownsRow base e size v n xs:=by
 refine⟨a.1,?_⟩;rcases a.2 with k|⟨g,cap,cur,f,i,j,r⟩
 .simp_all
 .exact .inr ⟨g,cap,cur,f,i,h _ _ _ _ c d j,r⟩
theorem XO.y{l:List<|Int×Int}(h:XO w av l)(a:V7 w w'):XO w' av l:=by
 rcases h with h|⟨g,off,d,c,fr,e,f⟩
 .exact .inl h
 .exact .inr ⟨g,off,d,c,fr,a _ _ _ _ N N e,f⟩
theorem Xz.y{a:Option Addr}{c:Nat}{tx:BA}{qs:List<|BA×BA}(h:Xz w a n c tx qs)(d:V7 w w'):Xz w' a n c tx qs:=⟨⟨d.own h.row.1 N N,h.row.2⟩,h.txt,h.wf⟩
theorem Y4.y{s:Wq}(h:Y4 w s)(a:V7 w w'):Y4 w' s:=⟨h.lb.y a,h.sam.y a,h.ne,h.len,h.ok⟩
theorem Wa.y{rs:List Wq}(h:Wa w v rs)(a:V7 w w'):Wa w' v rs:=⟨a.own h.row N N,λs c=>(h.ok s c).y a⟩
theorem Y2.y{l:List El}(h:Y2 w v l is)(a:V7 w w'):Y2 w' v l is:=⟨a.own h.row N N,h.els,λi c=>⟨(h.ok i c).lb.y a,(h.ok i c).vok⟩,h.len⟩
def WS(w:World)(ser:List YY)(t:Int)(v:Value):Cl->Prop
 |.inl V=>Vr w v V
 |.inr (a,n)=>∃rv rs,v=.iface 233 rv/\Wa w rv rs/\rs.map Wq.pr=VH ser a n t
theorem WS.y(d:V7 w w'):∀{y:Cl},WS w ser t v y->WS w' ser t v y
 |.inl<|.inl _,h=>h
 |.inl<|.inr _,⟨s,is,a,c⟩=>⟨s,is,a,c.y d⟩
 |.inr (_,_),⟨rv,rs,a,c,e⟩=>⟨rv,rs,a,c.y d,e⟩
theorem WS.shape:∀{y:Cl},WS w ser t v y->∃ty u,v=.iface ty u
 |.inl<|.inl _,h=>⟨_,_,h.1⟩
 |.inl<|.inr _,⟨_,_,a,_⟩=>⟨_,_,a⟩
 |.inr (_,_),⟨_,_,a,_⟩=>⟨_,_,a⟩
def UO(w:World)(ser:List YY)(t:Int):List Value->List Cl->Prop
 |[],[]=>True
 |v::vs,y::ys=>WS w ser t v y/\UO w ser t vs ys
 |_,_=>False
theorem UO.y{w w':World}{ser:List YY}{t:Int}(a:V7 w w'):∀{vs:List Value}{ys:List Cl},UO w ser t vs ys->UO w' ser t vs ys
 |[],[],h=>h
 |_::_,_::_,⟨c,d⟩=>⟨c.y a,UO.y a d⟩
theorem UO.len{w:World}{ser:List YY}{t:Int}:∀{vs:List Value}{ys:List Cl},UO w ser t vs ys->vs.length=ys.length
 |[],[],_=>C
 |_::vs,_::ys,⟨_,h⟩=>by rw[Y1,Y1,UO.len h]
def Rt(w:World)(x:Nat)(ser:List YY)(t:Int)(ss:List<|Option Cl):Prop:=∃gs es cl,XI w x gs es cl/\∀j y,ss.getD j none=some y->∃v,Wy gs j=some v/\WS w ser t v y
theorem Rt.y(h:Rt w x ser t ss)(c:V7 w w')(d:w'.heap[x]?=w.heap[x]?):Rt w' x ser t ss:=by
 obtain⟨gs,es,cl,e,f⟩:=h;exact⟨gs,es,cl,e.moved d,λj y g=>(f j y g).elim λv a=>⟨v,a.1,a.2.y c⟩⟩
structure YE (w0 wk w:World)(mb x gb gx:Nat)(c0 c1 c2 c3 al:Value)(t:Int)(ser:List YY)(m:MQ)(sa:Option Addr)(sn sc:Nat)(vs:List Value):Prop where
 st:Un w w0.heap.size mb c0 c1 c2 c3 al t (.map<|some x) (Vp gb) sa sn sc vs.reverse
 slo:Rt w x ser t m.jx
 gr:Ya w gb [.map<|some gx] 306
 gm:XN w gx
 stk:UO w ser t vs m.jy
 bel:BW w0 w
 lm:w0.heap.size<=mb
 lx:w0.heap.size<=x
 lg:w0.heap.size<=gx
 ne:x≠gx
 ky:V7 wk w
theorem Fv {c:Array Value}{T:TypeId}{fr:Nat×Nat}(h:w.heap[a]?=some (.map es cl))(k:w.heap[b]?=some (.cells c T fr)):a≠b:=λe=>by
 simp_all
theorem Fw {e:TypeId}(h:w.heap[a]?=some (.map es cl))(k:w.ownsRow b e sz v n xs):some a≠v.ownBlock:=λe=>by
 rcases k.2 with⟨k2,_⟩|⟨g,cap,cur,c,_,d,_⟩
 .rw[k2]at e;cases e
 .rw[c]at e;have e2:some a=some g:=e;injection e2 with e2;simp_all
theorem YS.y(h:YS w w' mb st)(d:Ya w mb c 214)(f:w.ownsRow base 134 1 st n xs):V7 w w':=λb c2 T fr i g a=>
 (h.block b (Xr.1 a).1 (λe=>by
  rw[e]at a;have:=a.symm.trans d;simp_all)<|ZD f a g).trans a
theorem YS.ofG(h:w.grownBy w'<|some mb)(st:Value):YS w w' mb st:=⟨h.os,h.tape,h.output,h.size,λk a c _=>h.block k a λe=>c<|Uc e⟩
theorem YE.below{c:World}(h:YE w0 c w mb x gb gx c0 c1 c2 c3 al t ser m sa sn sc vs)(a:BW w w'):YE w0 c w' mb x gb gx c0 c1 c2 c3 al t ser m sa sn sc vs:=by
 have d:x<w.heap.size:=by
  obtain⟨gs,es,cl,e,_⟩:=h.slo;exact(Xr.1 e.heap).1
 exact⟨h.st.below a,h.slo.y (V7.below a)<|a.block x d,h.gr.below a,h.gm.below a,h.stk.y<|V7.below a,h.bel.trans<|a.mono h.bel.size,h.lm,h.lx,h.lg,h.ne,h.ky.trans<|V7.below a⟩
theorem YE.num{a:World}(h:YE w0 a w mb x gb gx c0 c1 c2 c3 al t ser m sa sn sc vs):sn=m.jy.length:=by
 rw[<-h.stk.len,<-h.st.len,Q0]
theorem YE.moved{j:World}(h:YE w0 j w mb x gb gx c0 c1 c2 c3 al t ser m sa sn sc vs)(g:YS w w' mb<|.slice sa sn sc){sn' sc':Nat}(l:Un w' w0.heap.size mb c0 c1 c2 c3 al t (.map<|some x) (Vp gb) sa' sn' sc' vs'.reverse)(n:UO w ser t vs' ys'):YE w0 j w' mb x gb gx c0 c1 c2 c3 al t ser ⟨ys',m.jx⟩ sa' sn' sc' vs':=by
 have f:=g.y h.st.box h.st.own;have c:∀{a:Nat}{es:Array _}{cl:Nat},w.heap[a]?=some (.map es cl)->w'.heap[a]?=w.heap[a]?:=λi=>g.block _ (Xr.1 i).1 (Fv i h.st.box)<|Fw i h.st.own;refine⟨l,?_,f _ _ _ _ N N h.gr,?_,n.y f,g.below h.bel h.lm λk e=>(h.st.own.lt k e).1,h.lm,h.lx,h.lg,h.ne,h.ky.trans f⟩
 .obtain⟨gs,es,cl,d,o⟩:=h.slo;exact Rt.y ⟨gs,es,cl,d,o⟩ f<|c d.heap
 .obtain⟨es,cl,d⟩:=h.gm;exact⟨es,cl,(c d).trans d⟩
theorem YE.qx{a:World}{y:Cl}(h:YE w0 a w mb x gb gx c0 c1 c2 c3 al t ser ⟨y::ys,ss⟩ sa (n+1) sc<|v::vs)(c:Un w' w0.heap.size mb c0 c1 c2 c3 al t (.map<|some x) (Vp gb) sa n sc vs.reverse)(d:w.grownBy w'<|some mb):YE w0 a w' mb x gb gx c0 c1 c2 c3 al t ser ⟨ys,ss⟩ sa n sc vs/\WS w' ser t v y:=
 ⟨h.moved (YS.ofG d _) c h.stk.2,h.stk.1.y<|(YS.ofG d _).y h.st.box h.st.own⟩
theorem YE.pushed{a:World}(h:YE w0 a w mb x gb gx c0 c1 c2 c3 al t ser m sa sn sc vs){y:Cl}(c:WS w ser t v y){ga nc:Nat}(e:Un w' w0.heap.size mb c0 c1 c2 c3 al t (.map<|some x) (Vp gb) (some ⟨ga,0,none⟩) (sn+1) nc<|vs.reverse++[v])(d:YS w w' mb<|.slice sa sn sc):YE w0 a w' mb x gb gx c0 c1 c2 c3 al t ser ⟨y::m.jy,m.jx⟩ (some ⟨ga,0,none⟩) (sn+1) nc<|v::vs:=
 h.moved d (by simp_all) ⟨c,h.stk⟩
theorem YE.belX{d:World}(h:YE w0 d w mb x gb gx c0 c1 c2 c3 al t ser m sa sn sc vs)(c:YJ gx w.heap.size w w')(f:XN w' gx):YE w0 d w' mb x gb gx c0 c1 c2 c3 al t ser m sa sn sc vs:=by
 have a:=Zu.belX c h.gm;have e:x<w.heap.size:=by
  obtain⟨gs,es,cl,g,_⟩:=h.slo;exact(Xr.1 g.heap).1
 exact⟨⟨a _ _ _ _ h.st.box,a.own h.st.own,h.st.len⟩,h.slo.y a.y<|c.block x e h.ne,a _ _ _ _ h.gr,f,h.stk.y a.y,h.bel.trans<|(c.mono h.bel.size).below h.lg,h.lm,h.lx,h.lg,h.ne,h.ky.trans a.y⟩
theorem YE.stored{f:World}(h:YE w0 f w mb x gb gx c0 c1 c2 c3 al t ser m sa sn sc vs)(i:w'=setBlock w x o)(j:Rt w' x ser t ss):YE w0 f w' mb x gb gx c0 c1 c2 c3 al t ser ⟨m.jy,ss⟩ sa sn sc vs:=by
 have c:=YJ.set x w.heap.size w o;rw[<-i]at c;have g:XN w x:=by
  obtain⟨gs,es,cl,d,_⟩:=h.slo;exact⟨es,cl,d.heap⟩
 have a:=Zu.belX c g;refine⟨⟨a _ _ _ _ h.st.box,a.own h.st.own,h.st.len⟩,j,a _ _ _ _ h.gr,?_,h.stk.y a.y,h.bel.trans<|(c.mono h.bel.size).below h.lx,h.lm,h.lx,h.lg,h.ne,h.ky.trans a.y⟩;obtain⟨es,cl,d⟩:=h.gm;exact⟨es,cl,(c.block _ (Xr.1 d).1 λe=>h.ne e.symm).trans d⟩
theorem YE.top{e:World}(h:YE w0 e w mb x gb gx c0 c1 c2 c3 al t ser m sa sn sc vs){y:Cl}(c:m.jy=y::ys):∃v vs' n,vs=v::vs'/\sn=n+1/\WS w ser t v y/\n=ys.length:=by
 have a:=h.stk;rw[c]at a;cases vs with
 |nil=>exact absurd a id
 |cons v vs=>
  have d:=h.num;rw[c,Y1]at d;exact⟨v,vs,ys.length,C,d,a.1,C⟩
def vN(w0 wk w':World)(mb x gb gx:Nat)(c0 c1 c2 c3 al:Value)(t:Int)(ser:List YY)(m:MQ):Prop:=∃sa sn sc vs,YE w0 wk w' mb x gb gx c0 c1 c2 c3 al t ser m sa sn sc vs
theorem YE.re{a:World}(h:YE w0 a w mb x gb gx c0 c1 c2 c3 al t ser m sa sn sc vs):YE w0 w w mb x gb gx c0 c1 c2 c3 al t ser m sa sn sc vs:=⟨h.st,h.slo,h.gr,h.gm,h.stk,h.bel,h.lm,h.lx,h.lg,h.ne,V7.below<|Ym _ _⟩
structure Vo (w0:World)(c:Yb)(ss:List YU)(c0 c1 c2 c3 al:Value):Prop where
 cod:X6 w0 c c0 c1 c2 c3
 sto:Up w0 al ss
 dst:Sx<|ss.map YU.ser
theorem nl{sl gr:Value}(t:Int){ss:List YU}{nm:BA}{ln lc:Nat}{nd:Nd}(V:Ya w mb (JU c0 c1 c2 c3 al t st sl gr) 214)(x:Up w al ss)(J:Sx<|ss.map YU.ser)(L:bl nm=nd.name)(Y:Z0 w (.slice la ln lc) nd.kq)(hn:n<=1000)(M:-1000000<=t)(O:t<=1000000):
 CP 97 #[Vp mb,.agg #[.string nm,.slice la ln lc,E n]] w λe u=>∃v,e=.returned v/\Hid (WS u (ss.map YU.ser) t v<|SD (ss.map YU.ser) t (nd,n))/\BW w u:=by
 obtain⟨sa,scp,rfl⟩:=Zd x.row;have Z:=I V;have P:=I x;have a0:=I J;have Q:=I L;have HC:=I Y;have R:=I λW=>Dn nm la ln lc n W;clear V x J L Y;go_enter func97,ntmps97;go_wp2_with fail;refine Zv λW T=>?_;have A:Below _ w W:=T▸Yc;have HX:Hid<|Ya W _ _ 231:=T▸(show Ya _ _ _ _ from YO);clear T;refine(R W).mono ?_;rintro e G ⟨rfl,B⟩;have p:=A.trans<|B.mono A.size;have k:=I<|Z.below p;have f:=I<|HX.below B;have D:=I<|P.below p;have S:=I<|HC.below p;have r:=I p;have a2:=k.lt;have a1:=f.lt;clear B A p HX Z P HC R;generalize w.heap.size=xb at f a1⊢;by_cases s:0<n
 .rw[WI s];have U:=I<|show SD (ss.map YU.ser) t (nd,n)=.inr (nd,n)by unfold SD;rw[Ye s]
  clear s;go_upto_region 2 with fail;have d:Hid<|BW G _:=I (Ym _ _).drew;have l:=I<|k.below d;have g:=I<|f.below d;refine ZW 14 (λu=>u.cell? _=some _/\u.cell? _=some _/\u.cell? _=some _/\u.cell? _=some _/\u.cell? _=some _) Kr (⟨l.cell 4,l.cell 5,g.cell 0,g.cell 1,g.cell 2⟩) λa=>?_;clear l g;refine Za 0 a (h:=Za 1 a (h:=Za 2 a (h:=Za 3 a (h:=Za 4 a (h:=Za 5 a (h:=Za 6 a (h:=Za 7 a (h:=Za 8 a (h:=Za 9 a (h:=Za 10 a (h:=Za 11 a (h:=?_))))))))))));refine Zz (i:=12) Kr C λK m=>?_;go_simp;refine(Af n t _ (D.below d) Q (S.below d) X X M O).mono ?_;rintro e z ⟨v,rs,rfl,H,q⟩;go_simp;have c:=d.trans<|q.mono d.size;have o:=I<|k.below c;have j:=I<|f.below c;have F:=I<|r.trans<|c.mono r.size;refine m _ _ ⟨o.cell 4,o.cell 5,j.cell 0,j.cell 1,j.cell 2⟩ λa=>?_;clear m K q c k f o j;try simp only[Act.put,Yt]
  refine Za 13 a (h:=?_);refine ZS Kr Kr C Kr λK m=>?_;go_simp;refine m _ _ ?_;clear m K a;go_wp2;go_ret;exact⟨_,C,I<|U.out▸⟨_,_,C,H.1,H.2⟩,F⟩
 .rw[Wl s];have U:=I<|show SD (ss.map YU.ser) t (nd,n)=.inl (.inr<|Uk _ nd _ _ t)by unfold SD;rw[Yd s]
  clear s;go_upto_region 3 with fail;have d:Hid<|BW G _:=I (Ym _ _).drew;have l:=I<|k.below d;have g:=I<|f.below d;refine ZW 12 (λu=>u.cell? _=some _/\u.cell? _=some _/\u.cell? _=some _/\u.cell? _=some _) Kr (⟨l.cell 4,l.cell 5,g.cell 0,g.cell 1⟩) λa=>?_;clear l g;refine Za 0 a (h:=Za 1 a (h:=Za 2 a (h:=Za 3 a (h:=Za 4 a (h:=Za 5 a (h:=Za 6 a (h:=Za 7 a (h:=Za 8 a (h:=Za 9 a (h:=?_))))))))));refine Zz (i:=10) Kr C λK m=>?_;go_simp;refine(jX t (D.below d) a0 Q (S.below d) M O).mono ?_;rintro e z ⟨v,is,rfl,H,q⟩;go_simp;have c:=d.trans<|q.mono d.size;have o:=I<|k.below c;have j:=I<|f.below c;have F:=I<|r.trans<|c.mono r.size;refine m _ _ ⟨o.cell 4,o.cell 5,j.cell 0,j.cell 1⟩ λa=>?_;clear m K q c k f o j;try simp only[Act.put,Yt]
  refine Za 11 a (h:=?_);refine ZS Kr Kr C Kr λK m=>?_;go_simp;refine m _ _ ?_;clear m K a;go_wp2;go_ret;exact⟨_,C,I<|U.out▸⟨_,_,C,H.out⟩,F⟩
theorem Lk {c':List Value}{T:TypeId}(h:Ya w a c T)(d:w.grownBy w'<|some mb)(f:Ya w mb c' 214)(g:T≠214):Ya w' a c T:=h.grown d λe=>by
 injection e with e;subst e;have:=h.symm.trans f;injection this with this;injection this with _ this _;exact g this
def TB(w0 wk w:World)(mb x gb gx op arg:Nat)(c0 c1 c2 c3 al:Value)(t:Int)(ser:List YY)(m:MQ):Prop:=CP 51 #[Vp mb,.agg #[E op,E arg]] w λe w'=>e=.returned (.tuple #[])/\Hid (vN w0 wk w' mb x gb gx c0 c1 c2 c3 al t ser m)
theorem lK{k:World}{arg:Nat}(h:YE w0 k w mb x gb gx c0 c1 c2 c3 al t ser m sa sn sc vs){y:Cl}(c:m.jy=y::ys)(d:m.jy.length<=64):
 TB w0 k w mb x gb gx 11 arg c0 c1 c2 c3 al t ser ⟨ys,m.jx⟩:=by
 unfold TB;obtain⟨v,vs',n,rfl,rfl,_,r⟩:=h.top c;have s:n<=64:=by rw[c,Y1]at d;omega
 have l:Hid<|YE _ _ w _ x _ _ _ _ _ _ _ t _ ⟨y::ys,m.jx⟩ _ _ _ _:=I<|by rwa [<-c]
 clear h c d r;go_enter func51,ntmps51;go_wp2_with fail;refine Zv λW g=>?_;have f:Below _ w W:=g▸Yc;have o:Hid<|Ya W _ _ 137:=g▸(show Ya _ _ _ _ from YO);have a:=I<|l.below f;clear g f l;generalize w.heap.size=ab at*;refine(OK W t n v (by have:=a.st;rwa [Sf]at this) X).mono ?_;rintro e z ⟨rfl,i,j⟩;have p:=I (a.qx i j).1;have q:=I (a.qx i j).2;clear a i j o q;go_wp2;exact RW (Tq C _ _ _) C ⟨C,I ⟨_,_,_,_,p⟩⟩
theorem lN{D:World}{arg:Nat}(h:YE w0 D w mb x gb gx c0 c1 c2 c3 al t ser m sa sn sc vs){V:VV}(f:m.jy=.inl V::ys)(g:m.jy.length<=64):
 TB w0 D w mb x gb gx 4 arg c0 c1 c2 c3 al t ser ⟨.inl (TI V)::ys,m.jx⟩:=by
 unfold TB;obtain⟨v,vs',n,rfl,rfl,_,J⟩:=h.top f;have K:n<=64:=by rw[f,Y1]at g;omega
 have F:Hid<|YE _ _ w _ x _ _ _ _ _ _ _ t _ ⟨.inl V::ys,m.jx⟩ _ _ _ _:=I<|by rwa [<-f]
 clear h f g J;go_enter func51,ntmps51;go_wp2_with fail;refine Zv λW s=>?_;have i:Below _ w W:=s▸Yc;have G:Hid<|Ya W _ _ 137:=s▸(show Ya _ _ _ _ from YO);have a:=I<|F.below i;clear s i F;generalize w.heap.size=ab at*;refine(OK W t n v (by have:=a.st;rwa [Sf]at this) X).mono ?_;rintro e z ⟨rfl,A,B⟩;have j:=I (a.qx A B).1;have k:=I (a.qx A B).2;clear a A B G;go_wp2_with fail;refine(jS v V k).mono ?_;rintro e L ⟨v3,rfl,l,o⟩;have c:=I<|j.below o;have d:Hid<|WS _ ser t _<|.inl _:=l;clear j k l o;obtain⟨ty,u,rfl⟩:=d.shape;go_wp2_with fail;refine(NB t n _ u c.st X c.bel.size).mono ?_;rintro e M ⟨rfl,p,q⟩;obtain⟨g9,n9,r⟩:=p.out;have H:=I<|c.pushed d r q;clear r p q;clear c d;go_wp2;exact RW (Tq C _ _ _) C ⟨C,I ⟨_,_,_,_,H⟩⟩
