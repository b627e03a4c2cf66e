/- Parts. -/
import Derived.Test.YtmfnolgpaoldpaaGreatDoorX21
set_option linter.all false
set_option maxRecDepth 100000
set_option maxHeartbeats 16000000
namespace Go.Proofs.YtmfnolgpaoldpaaGreatDoor
open Go.RowKit LS Go.Proofs.Tryz
open Go renaming World->Y,Value->F
open Go.RowKit renaming Hid->U
open Go.ChangeMaps (setBlock)
variable {es:Array MapEntry}{seen:Array Nat}{tx:BA}{al c0 c1 c2 c3 v:F}{t:Int}{bs:List BA}{ys ys':List Cl}{c vs vs' xs:List F}{js:List Nat}{gs:List XV}{is:List YG}{ss:List YU}{ser:List YY}{qs:List<|BA×BA}{l:List<|Int×Int}{m:MQ}{e:MapEntry}{B arg b base cl clock gb gx mb n op sc sn sz x:Nat}{A:Nat->Addr}{o:Obj}{a av la sa sa':Option Addr}{W w w' w0:Y}{s:YG}
theorem E6(k:List Xc)(v:Int):∀(m:List Qk)(j:Nat)(a:j<m.length),m[j].1=k->(∀i (c:i<m.length),i≠j->m[i].1≠k)->Ww k v m=m.set j (k,m[j].2++[v])
 |g::m,0,_,h,_=>by
  have e:g.1=k:=h;rw[Ww,Ye e];rfl
 |g::m,j+1,a,h,d=>by
  have f:g.1≠k:=d 0 (Sm) X;rw[Ww,Yd f,E6 k v m j (by simpa using a) h λi c l=>d (i+1) (by simpa using c) X];rfl
theorem E8(k:List Xc)(v:Int):∀(m:List Qk),(∀g∈m,g.1≠k)->Ww k v m=m++[(k,[v])]
 |[],_=>C
 |g::m,h=>by
  rw[Ww,Yd<|h g<|Sm,E8 k v m λz a=>h z<|Vf _ a];rfl
theorem Xe.push(h:Xe w x gs es clock)(c:x<W.heap.size)(g:XV)(d:g.tx.size<=maxLen)(f:∀e∈es.toList,e.key≠.string g.tx):
 Xe (setBlock W x<|.map (es.push ⟨.string g.tx,g.val,clock⟩)<|clock+1) x (gs++[g]) (es.push ⟨.string g.tx,g.val,clock⟩)<|clock+1:=by
 refine⟨by simp[setBlock,c],MapKept.stamped_push h.stm f,?_,λz a=>?_⟩
 .rw[Ir,Xa,Xa,h.kv];rfl
 .rcases Wk.1 a with a|a
  .exact h.sz z a
  .rw[Vr]at a;subst a;exact d
theorem Xe.mod(h:Xe w x gs es clock)(m:x<W.heap.size)(g:XV)(n:g.tx.size<=maxLen){j:Nat}(d:es.toList[j]?=some e)(k:e.key=.string g.tx):
 Xe (setBlock W x<|.map (es.modify j λe=>{e with key:=.string g.tx,val:=g.val}) clock) x (gs.set j g) (es.modify j λe=>{e with key:=.string g.tx,val:=g.val}) clock:=by
 refine⟨by simp[setBlock,m],MapKept.stamped_modify h.stm j _ (λ_ _=>C) λe' _ c=>?_,?_,λz f=>?_⟩
 .rw[<-QT,d]at c;have:=Ub c;subst this;exact k.symm
 .rw[Im,<-h.kv];refine PB λi=>?_;rw[Vs,QT,V4,Sc,Vs,Yz,Sx];by_cases a:j=i
  .subst a;have l:j<es.size:=by have:=(Og.1 d).1;simpa using this
   rw[Ye C,Ye C,Ye l,<-QT,d];rfl
  .rw[Yd a,Yd a,<-QT]
 .rcases NW f with f|rfl
  .exact h.sz z f
  .exact n
theorem AO(g:XV){t0 t1 t2 t3 t4 t5:Int}(d:Vc g.vals=[E t0,E t1,E t2,E t3,E t4,E t5]):g.val=.agg #[.slice g.a g.n g.c,.string g.tx,E t0,E t1,E t2,E t3,E t4,E t5]:=by
 unfold XV.val;rw[d]
theorem rG(d:∀g∈gs,XE w g){o:XV}(k:Xz w o.a o.n o.c o.tx o.qs)(v:Int):
 (∀(j:Nat)(q:j<gs.length),gs[j].tx=o.tx->(∀i (l:i<gs.length),i≠j->gs[i].tx≠o.tx)->(gs.set j {o with vals:=gs[j].vals++[v]}).map XV.grp=Ww (o.qs.map Xt) v (gs.map XV.grp))/\
 ((∀g∈gs,g.tx≠o.tx)->(gs++[{o with vals:=[v]}]).map XV.grp=Ww (o.qs.map Xt) v (gs.map XV.grp)):=by
 have key:∀g∈gs,g.qs.map _=o.qs.map _↔g.tx=o.tx:=λg f=>by
  constructor
  .intro h;have e:=(d g f).lb.txt;rw[h,<-k.txt]at e;exact(vH e)
  .intro h;refine FSq (d g f).lb.wf k.wf ?_;rw[<-(d g f).lb.txt,<-k.txt,h]
 constructor
 .intro j q r s;rw[Im,E6 _ v _ j (by rwa [Yz]) (by rw[List.getElem_map];exact(key _<|List.getElem_mem _).2 r) λi l m=>by
  rw[Yz]at l;rw[List.getElem_map];exact λe=>s i _ m<|(key _<|List.getElem_mem _).1 e,List.getElem_map];rfl
 .intro h;rw[Xa,E8 _ _ _ λg f=>by
  obtain⟨z,p,rfl⟩:=XK.1 f;exact λe=>h z p<|(key z p).1 e];rfl
theorem tj(h:w.heap[x]?=some (.map es clock))(T:TypeId):(Builtin.clear_ #[304] T #[.map<|some x]).run prog w=.ok (.tuple #[]) (setBlock w x<|.map #[] clock):=by
 simp[Builtin.clear_,QS _,QP h,N5 _ h,Result.andThen,setBlock]
theorem oU(h:w.heap[x]?=some (.map es clock))(T:TypeId):(Builtin.len_ #[304] T #[.map<|some x]).run prog w=.ok (E es.size) w:=by
 simp[Builtin.len_,QS _,QP h,Result.andThen];rfl
def UU(op:Nat)(g:XV):YG:=⟨g.a,g.n,g.c,g.tx,g.qs,YZ<|T1 op g.vals⟩
def TG:XV:=⟨none,0,0,⟨#[]⟩,[],[]⟩
def Lm(es:Array MapEntry)(j:Nat):Nat:=(es.toList[j]?.map (·.born)).getD 0
structure Rv (es:Array MapEntry)(n:Nat)(js:List Nat)(seen:Array Nat):Prop where
 nodup:js.Nodup
 lt:∀j∈js,j<n
 seen:seen.toList=js.map (Lm es)
theorem Ba(h:e∈(leftOf es seen).toList):e∈es.toList/\e.born∉seen.toList:=by
 unfold leftOf at h;rw[Ka,Qu]at h;refine⟨h.1,λa=>?_⟩;have:=h.2;simp[Array.mem_toList_iff.1 a]at this
theorem pz(h:e∈(leftOf es seen).toList):(leftOf es<|seen.push e.born).size+1<=(leftOf es seen).size:=by
 have e1:(leftOf es<|seen.push e.born).toList=(leftOf es seen).toList.filter λz=>decide<|z.born≠e.born:=by
  unfold leftOf;rw[Ka,Ka,List.filter_filter];refine List.filter_congr λz _=>?_;simp[Bool.and_comm]
 have a:((leftOf _ _).toList.filter λz=>decide<|z.born≠e.born).length<(leftOf _ _).toList.length:=List.length_filter_lt_length_iff_exists.2 ⟨e,h,Sm⟩;rw[<-e1,Sx,Sx]at a;omega
theorem py(h:(leftOf es seen).size=0):∀e∈es.toList,e.born∈seen.toList:=by
 intro e c;refine JY λd=>?_;have a:e∈(leftOf es seen).toList:=by
  unfold leftOf;rw[Ka,Qu];refine⟨c,?_⟩;simp;exact λf=>d<|Array.mem_toList_iff.2 f
 have:=Qq<|by rwa [Sx]
 rw[this]at a;cases a
theorem Rv.step(n:Xe w x gs es cl)(h:Rv es gs.length js seen)(o:e∈(leftOf es seen).toList):∃j,j<gs.length/\es.toList[j]?=some e/\Rv es gs.length (js++[j]) (seen.push e.born):=by
 obtain⟨p,q⟩:=Ba o;obtain⟨j,f⟩:=If p;obtain⟨g,_⟩:=n.at f;have k:Lm es j=e.born:=by unfold Lm;rw[f];rfl
 have l:j∉js:=λm=>q<|h.seen▸XK.2 ⟨j,m,k⟩;refine⟨j,g,f,⟨?_,?_,?_⟩⟩
 .rw[List.nodup_append];exact⟨h.nodup,Sm,λa r b d=>by rw[Vr]at d;subst d;intro e';subst e';exact l r⟩
 .intro i c;rcases Wk.1 c with c|c
  .exact h.lt i c
  .rw[Vr]at c;subst c;exact g
 .rw[Ir,Xa,h.seen,PE,k]
theorem Rv.all(e:Xe w x gs es cl)(h:Rv es gs.length js seen)(n:(leftOf es seen).size=0):js.Perm<|List.range gs.length:=by
 rw[List.perm_ext_iff_of_nodup h.nodup List.nodup_range];intro j;rw[RX];refine⟨h.lt j,λp=>?_⟩;have f:j<es.toList.length:=by rwa [Sx,e.len]
 have g:=py n _<|List.getElem_mem f;rw[h.seen]at g;obtain⟨i,k,l⟩:=XK.1 g;have o:=h.lt i k;have m:i<es.toList.length:=by rwa [Sx,e.len]
 have d:Lm es i=es.toList[i].born:=by unfold Lm;rw[List.getElem?_eq_getElem m];rfl
 have a:=e.stm.2.1;rw[List.Nodup,Rx,List.pairwise_iff_getElem]at a;have:i=j:=by
  rcases Nat.lt_trichotomy i j with c|c|c
  .exact absurd (d.symm.trans l)<|a i j _ _ c
  .exact c
  .exact absurd (d.symm.trans l).symm<|a j i _ _ c
 rw[<-this];exact k
theorem yp (op:Nat)(h:js.Perm<|List.range gs.length):((js.map λj=>UU op<|gs.getD j TG).map YG.el).Perm<|(gs.map XV.grp).map<|M4 op:=by
 have a:=(h.map λj=>UU op<|gs.getD j TG).map YG.el;refine a.trans ?_;have e:(List.range gs.length).map (λj=>UU op<|gs.getD j TG)=gs.map (UU op):=by
  conv=>rhs;rw[<-qg gs TG]
  rw[VD];rfl
 rw[e,VD,VD];exact List.Perm.refl _
theorem kC{e:TypeId}(h:w.ownsRow b e sz v n xs){q:Nat}(d:w.heap[q]?=some o)(f:∀c t fr,o≠.cells c t fr):some q≠v.ownBlock:=by
 rcases h.2 with⟨rfl,_⟩|⟨g,cp,cur,rfl,_,a,_⟩
 .simp[Value.ownBlock]
 .intro i;have j:q=g:=by simpa [Value.ownBlock]using i
  subst j;rw[d]at a;injection a with h3;exact f _ _ _ h3
theorem PY(a:x<W.heap.size)(o:Obj):(W.alloc o).heap[x]?=W.heap[x]?:=Below.heap_alloc _ _ _ a
theorem Ya.belX{a:Nat}{t:TypeId}(h:Ya w a c t)(d:YJ x w.heap.size w w')(e:a≠x):Ya w' a c t:=(d.block a h.lt e).trans h
theorem yW (l:List Int)(x:Int)(a:l.length<=10000)(c:∀y∈l,YC y)(d:YC x)(t0 t1 t2 t3 t4 t5 r0 r1 r2 r3 r4 r5:Int)(f:Vc l=[E t0,E t1,E t2,E t3,E t4,E t5])(g:Vc (l++[x])=[E r0,E r1,E r2,E r3,E r4,E r5]):CP 140 #[.agg #[E t0,E t1,E t2,E t3,E t4,E t5],E x] w λe u=>e=.returned (.agg #[E r0,E r1,E r2,E r3,E r4,E r5])/\BW w u:=by
 have h:=AD l x a c d w;unfold UC at h;rw[f,g]at h;exact h
theorem vu{a:Obj}{t:TypeId}:Ya ((w.alloc a).alloc<|.cells ⟨c⟩ t).drew (w.heap.size+1) c t:=by
 have:=Go.Deep.blk_alloc_new (w.alloc a)<|.cells ⟨c⟩ t;rw[Go.Deep.nblk_alloc]at this;exact this
theorem vt{a:Obj}{t:TypeId}:Ya ((w.alloc<|.cells ⟨c⟩ t).alloc a).drew w.heap.size c t:=(Yc.block _<|Sm).trans YO
theorem oW(x1:op<=3){nv:F}(l:List El)(d6:Ya w gb [.map<|some x] 306)(hx:XO w x)(hn:w.ownsRow 0 9 1 nv bs.length<|TE bs)(q7:bs.length<=100000)(hs:O2 bs)(hv:Y2 w v l is):
 CP 101 #[Vp gb,E op,nv,v] w λe f=>∃v' is',e=.returned v'/\U (Y2 f v' (SA op (bs.map bl) l) is'/\XO f x)/\YJ x w.heap.size w f:=by
 obtain⟨i0,hi,k0,k1,k2⟩:=Xv Tryz.infoItem;obtain⟨na,ncp,rfl⟩:=Zd hn;obtain⟨ra,rcp,rfl⟩:=Zd hv.row;obtain⟨es0,cl0,b9⟩:=hx;have HG:=I d6;have q8:=I b9;have HN:=I hn;have HS:=I hs;have HV:=I hv;have x2:=hv.len;have q9:gb≠x:=by intro e;subst e;rw[d6]at b9;cases b9
 have k3:=(Xr.1 b9).1;have x3:=d6.lt;have x4:=d6.cell;have v9:=λT=>tj b9 T;go_enter func101,ntmps101;go_wp2;obtain⟨w1,f4⟩:∃w1,w1=setBlock w x (.map #[] cl0):=⟨_,C⟩;rw[<-f4];have r6:U<|YJ x w.heap.size w _:=f4▸YJ.set _ _ _ _;have r7:U<|Xe w1 x [] _ cl0:=I ⟨by rw[f4];simp[setBlock,k3],MapKept.stamped_empty _,C,λg d=>by cases d⟩;have r8:U<|XO w x:=I ⟨es0,cl0,q8⟩;go_loopw [22] (λi wr=>∃(k:Nat)(gs:List XV)(es:Array MapEntry)(cl:Nat),k<=is.length/\i=E k/\gs.length<=k/\U (Xe wr x gs es cl)/\U ((∀g∈gs,XE wr g/\g.vals.length<=k)/\gs.map XV.grp=Wg (bs.map bl) (l.take k))/\U (YJ x w.heap.size w wr))
  (λi _=>is.length-(intOf i).toNat);case atStart=>exact⟨0,[],#[],cl0,Yr _,C,Yr _,r7,I ⟨(λg d=>by cases d),C⟩,r6⟩
 case round=>
  rename Y=>wo;obtain⟨k,gs,es,cl,hk,rfl,x5,a2,J,HB⟩:=hrel;have f5:=HB.size;have d7:=I<|Zu.belX HB r8;have f6:U<|Ya _ _ _ _:=I<|d7 _ _ _ _ HG;by_cases f7:k<is.length
  .have d:∃g,ra=some ⟨g,0,none⟩:=by
    obtain⟨g,cp',h⟩:=Zm HV.row X;injection h with p;exact⟨g,p⟩
   obtain⟨vg,rfl⟩:=d;have f8:=I<|d7.own HV.row;obtain⟨f1,f2,f3⟩:=OB _ k f7;have d1:=Zc f8 _ _ f1;have d2:=Zc f8 _ _ f2;have d3:=Zc f8 _ _ f3;have k4:=I<|(HV.ok _<|List.getElem_mem f7).jk d7;have k5:U<|Wg (bs.map bl) (l.take<|k+1)=Ww (Zp (is[k]).labs<|bs.map bl) (is[k]).v (Wg (bs.map bl)<|l.take k):=by
    have hl:k<l.length:=by rwa [HV.len']
    rw[List.take_succ_eq_append_getElem hl,DL];have e:l[k]=(is[k]).el:=by
     have:l[k]?=(is.map YG.el)[k]?:=by rw[HV.els]
     rw[List.getElem?_eq_getElem hl,Vs,List.getElem?_eq_getElem f7]at this;exact Ub this
    rw[e];rfl
   generalize is[k]=s at*;have x6:(k:Int)<(is.length):=X;have d8:x<wo.heap.size:=X;go_wp2_with fail;refine Zv λW r=>?_;have V:Below _ _ W:=r▸Yc;have HI:U<|Ya W _ [.slice _ _ _,.string _,.int _ _] 223:=r▸YO;refine(po W (k4.below V).lb ((d7.trans<|Zu.below V).own HN) q7 HS).m ?_;rintro e w5 ⟨a',n',c',tx',qs',rfl,c1,L⟩;have O:=I<|V.trans<|L.mono V.size;have f9:=I<|HI.below L;have k6:=O.size;have x7:=f9.lt;have G:tx'.size<=maxLen:=by
    have p:=c1.1.wf.len;rw[<-c1.1.txt,Zb]at p;unfold maxLen;omega
   have g0:=I<|a2.moved<|O.block x d8;have k7:=I<|f6.below O;have r9:x<w5.heap.size:=X;have HF:=I<|g0.find _ G;obtain⟨vals,gv,s0⟩:∃(vals:List _)(gv:XV),vals=gv.vals/\(vals.length<=k/\(∀v∈vals,YC v))/\(∃u,(∀W:Y,W.heap[x]?=w5.heap[x]?->(Instr.lookup _ _ _ _).run _ W=.ok u W)/\∃sa sn sc stx,u=.agg (.slice sa sn sc::.string stx::Vc vals).toArray)/\
    (((∀W:Y,(Instr.findKey 9 _ _).run _ W=.ok _ W)/\(∀g∈gs,g.tx≠tx')/\(∀e∈es.toList,e.key≠.string _)/\vals=[])\/∃j,∃hj:j<gs.length,gs[j].tx=tx'/\gs[j].vals=vals/\(∀i (hi:i<gs.length),i≠j->gs[i].tx≠tx')/\∃e,es.toList[j]?=some e/\e.key=.string _/\∀W:Y,(Instr.findKey 9 _ _).run _ W=.ok (some (j,e.val)) W):=by
    rcases HF.o with⟨p,h2,h3⟩|⟨j,hj,p,h2,e,h3,h4,h5,h6⟩
    .exact⟨[],⟨none,0,0,tx',[],[]⟩,C,⟨Yr _,λv hv=>by cases hv⟩,⟨_,λW r=>me g0 G p W r,none,0,0,ByteArray.empty,C⟩,.inl ⟨p,h2,h3,C⟩⟩
    .have k8:=J.1 _<|List.getElem_mem hj;exact⟨gs[j].vals,gs[j],C,⟨k8.2,k8.1.vok⟩,⟨_,λW r=>ma g0 G h6 W r,gs[j].a,gs[j].n,gs[j].c,gs[j].tx,h5⟩,.inr ⟨j,hj,p,C,h2,e,h3,h4,h6⟩⟩
   obtain⟨-,a3,j6,a1⟩:=s0;have a3:=I a3;have j7:=I j6;have a1:=I a1;obtain⟨t0,t1,t2,t3,t4,t5,a4⟩:=LV vals;have b6:=I a4;obtain⟨u,s1,sa,sn,sc,stx,hu⟩:=j7.o;rw[b6]at hu;subst hu;have a8:=I s1;go_upto_region 6 with fail;refine Zs λwA g5=>?_;have d9:Below _ _ _:=g5▸Yc;have c2:U<|Ya _ _ _ 198:=g5▸YO;have g6:=I<|k7.below d9;have k9:=I<|f9.below d9;have Q:=I d9;clear g5 d9;have s2:=Q.size;have x8:=c2.lt;have c0:=g6.cell 0;have b0:=c2.cell 0;have b1:=c2.cell 1;simp only[Yf]at c0 b0 b1;have c3:x<wA.heap.size:=X;have c4:=I<|Q.block x r9;have l1:∀o,(Instr.lookup _ _ _ _).run _ ((wA.alloc o).drew)=_:=λo=>a8 _<|(PY c3 o).trans c4;have l2:∀o,(Instr.lookup _ _ _ _).run _ (wA.drew.alloc o)=_:=λo=>a8 _<|(PY c3 o).trans c4;have l3:∀o o',(Instr.lookup _ _ _ _).run _ (((wA.alloc o).alloc _).drew)=_:=λo o'=>a8 _<|((PY (by simp;omega) o').trans<|PY c3 o).trans c4;have l4:∀o o',(Instr.lookup _ _ _ _).run _ ((wA.alloc o).drew.alloc _)=_:=λo o'=>a8 _<|((PY (by simp;omega) o').trans<|PY c3 o).trans c4;have l5:∀o o',(Instr.lookup _ _ _ _).run _ ((wA.drew.alloc o).alloc _)=_:=λo o'=>a8 _<|((PY (by simp;omega) o').trans<|PY c3 o).trans c4;have p7:∀W:Y,(Instr.field 324 (.agg #[.slice sa sn sc,.string stx,E t0,E t1,E t2,E t3,E t4,E t5]) 1).run prog W=.ok (.agg #[E t0,E t1,E t2,E t3,E t4,E t5]) W:=λW=>by kernel_rfl
   go_cut [12]from 30 to 37 (λs12 wx=>∃Bt:Nat,s12=Vp Bt/\U (Ya wx Bt [E t0,E t1,E t2,E t3,E t4,E t5] 313)/\U (BW wA wx)/\wA.heap.size<=Bt);case first=>
    go_region_held3 (λf=>f.cell? ⟨gb,0,none⟩=some (.map<|some x)/\f.cell? ⟨w5.heap.size,0,none⟩=some (.slice a' n' c')/\f.cell? ⟨w5.heap.size,1,none⟩=some (.string tx')) (first|exact⟨c0,b0,b1⟩|go_keep) (first
     | (go_at_call 94;refine(Mt).m ?_;rintro e w7 ⟨rfl,o7,s3⟩));all_goals
     go_wp2;go_meet;exact⟨_,C,I<|by first|exact vu|exact vt,I Yh,X⟩
   case rest=>
   obtain⟨Bt,rfl,HT,a9,x9⟩:=hcut;clear l1 l2 l3 l4 l5 p7 c0 b0 b1 a8;have c5:=I<|(O.trans<|Q.mono k6).trans<|a9.mono X;have l0:=I<|g6.below a9;have l6:=I<|k9.below a9;have g7:=I<|c2.below a9;have g8:=I<|c1.1.jk<|Zu.below<|Q.trans<|a9.mono s2;have l7:=I<|c5.block x d8;have l8:x<wc.heap.size:=by have:=c5.size;omega
   clear g6 k9 c2 Q a9 k7 f9;obtain⟨r0,r1,r2,r3,r4,r5,hr⟩:=LV<|vals++[s.v];have HR:=I hr;clear hr;have g9:=I k4.vok;have c6:=I<|a2.moved l7;have S:U<|∀g∈gs,XE _ g/\g.vals.length<=k:=I λg d=>⟨(J.1 g d).1.jk<|Zu.below c5,(J.1 g d).2⟩;have s4:∃(es':Array _)(cl':Nat)(gs':List _),(∀W:Y,W.heap[x]?=wc.heap[x]?->(Instr.mapUpdate 304 (.map<|some x) (.string tx')<|.agg #[.slice a' n' c',.string tx',E r0,E r1,E r2,E r3,E r4,E r5]).run prog W=.ok () (setBlock W x<|.map es' cl'))/\
    (∀W:Y,x<W.heap.size->Xe (setBlock W x<|.map es' cl') x gs' es' cl')/\gs'.length<=k+1/\(∀g∈gs',XE wc g/\g.vals.length<=k+1)/\gs'.map XV.grp=Wg (bs.map bl) (l.take<|k+1):=by
    obtain⟨o,ho⟩:∃o:XV,o=⟨a',n',c',tx',qs',vals++[s.v]⟩:=⟨_,C⟩;have e0:o.val=.agg #[.slice a' n' c',.string tx',E r0,E r1,E r2,E r3,E r4,E r5]:=ho▸AO ⟨a',n',c',tx',qs',vals++[s.v]⟩ HR.o;have i1:XE wc o/\o.vals.length<=k+1:=by
     rw[ho];refine⟨⟨g8,λz hz=>?_⟩,?_⟩
     .rcases Wk.1 hz with hz|hz
      .exact a3.2 z hz
      .rw[Vr]at hz;subst hz;exact g9
     .have:=a3.1;simp;omega
    have l9:=rG (λg d=>(S g d).1) (o:=⟨a',n',c',tx',qs',[]⟩) g8 s.v;have m6:qs'.map Xt=Zp s.labs _:=c1.2;rcases a1.o with⟨p,h2,h3,h4⟩|⟨j,hj,p,h2,h3,e,h4,h5,h6⟩
    .refine⟨_,_,gs++[o],λW r=>?_,λW r=>c6.push r o (ho▸G)<|by rwa [ho],by simp;omega,λg d=>?_,?_⟩
     .have:=xg c6 G p o.val W r;rw[e0]at this;rw[e0,ho];exact this
     .rcases Wk.1 d with d|d
      .exact⟨(S g d).1,by have:=(S g d).2;omega⟩
      .rw[Vr]at d;subst d;exact i1
     .have:=l9.2 h2;rw[k5,<-m6,<-J.2,<-this,ho,h4];rfl
    .refine⟨_,_,gs.set j o,λW r=>?_,λW r=>c6.mod r o (ho▸G) h4<|by rwa [ho],by rw[Qv];omega,λg d=>?_,?_⟩
     .have:=xd c6 G h4 h5 h6 o.val W r;rw[e0]at this;rw[e0,ho];exact this
     .rcases NW d with d|rfl
      .exact⟨(S g d).1,by have:=(S g d).2;omega⟩
      .exact i1
     .have:=l9.1 j _ p h3;rw[k5,<-m6,<-J.2,<-this,ho,h2]
   obtain⟨es',cl',gs',m7,m8,s5,m9,n0⟩:=s4;have n5:=I m7;have s6:=I m8;have n6:=I m9;have s7:=I n0;have i2:U<|vals.length<=10000/\∀y∈vals,YC y:=I ⟨by have:=a3.1;omega,a3.2⟩;have s8:U<|XO _ x:=I ⟨es,cl,a2.heap⟩;clear m7 m8 m9 n0 a1 c6 S a3 a2 J g8 c1;have c0:=l0.cell 0;have b0:=g7.cell 0;have b1:=g7.cell 1;have y2:=l6.cell 2;have m0:=HT.cell 0;have m1:=HT.cell 1;have m2:=HT.cell 2;have m3:=HT.cell 3;have m4:=HT.cell 4;have m5:=HT.cell 5;simp only[Yf]at c0 b0 b1 y2 m0 m1 m2 m3 m4 m5;have y0:=c5.size;have s9:U<|gb≠x/\w5.heap.size≠x/\wo.heap.size≠x/\Bt≠x:=I ⟨q9,X,X,X⟩;have R:U<|∀W,YJ x _ _ W->W.cell? _=some _/\W.cell? _=some _/\W.cell? _=some _/\W.cell? _=some _/\W.cell? _=some _/\W.cell? _=some _/\W.cell? _=some _/\W.cell? _=some _/\W.cell? _=some _/\W.cell? _=some _:=I λW r=>by
    obtain⟨n1,n2,n3,n4⟩:=s9.o;have g1:=l0.belX r n1;have g2:=g7.belX r n2;have g3:=l6.belX r n3;have g4:=HT.belX r n4;exact⟨g1.cell 0,g2.cell 0,g2.cell 1,g3.cell 2,g4.cell 0,g4.cell 1,g4.cell 2,g4.cell 3,g4.cell 4,g4.cell 5⟩
   go_upto_region 7 with fail;go_region_held3 (λW=>W.cell? ⟨gb,0,none⟩=some (.map<|some x)/\W.cell? ⟨w5.heap.size,0,none⟩=some (.slice a' n' c')/\W.cell? ⟨w5.heap.size,1,none⟩=some (.string tx')/\W.cell? ⟨wo.heap.size,2,none⟩=some (E s.v)/\W.cell? ⟨Bt,0,none⟩=some (E t0)/\W.cell? ⟨Bt,1,none⟩=some (E t1)/\W.cell? ⟨Bt,2,none⟩=some (E t2)/\W.cell? ⟨Bt,3,none⟩=some (E t3)/\W.cell? ⟨Bt,4,none⟩=some (E t4)/\W.cell? ⟨Bt,5,none⟩=some (E t5)) (first|exact⟨c0,b0,b1,y2,m0,m1,m2,m3,m4,m5⟩|exact t6.o|exact t7.o _|exact t8.o _|exact t9.o _ _|go_keep) (first
    | (go_at_call 94;refine(Mt).m ?_;rintro e w7 ⟨rfl,o7,s3⟩)
    | (go_at_call 140;refine(yW vals s.v i2.1 i2.2 g9.o t0 t1 t2 t3 t4 t5 r0 r1 r2 r3 r4 r5 b6.o HR.o).m ?_;rintro e w8 ⟨rfl,a5⟩;have D:U<|BW wc w8:=I<|by first|exact⟨a5.os,a5.tape,a5.output,a5.size,a5.block⟩|exact(((Ym wc.heap.size wc).drew).alloc (Yj _) _).trans<|a5.mono<|Sm
       have t6:=I<|R.o w8<|YJ.of D.o;have t7:=I λo=>R.o (w8.alloc o)<|YJ.of<|D.alloc D.size o;have t8:=I λM=>R.o (setBlock w8 x M)<|(YJ.of D.o).trans<|YJ.set _ _ _ _;have t9:=I λo M=>R.o (setBlock (w8.alloc o) x M)<|(YJ.of<|D.alloc D.size o).trans<|YJ.set _ _ _ _;have q0:=n5.o w8<|D.block x l8;have q1:=λo=>n5.o (w8.alloc o)<|(PY (by have:=D.size;omega) o).trans<|D.block x l8;clear a5));have p8:U<|∀W9,BW wc W9->Xe (setBlock W9 x<|.map es' cl') x gs' es' cl'/\(∀g∈gs',XE (setBlock W9 x<|.map es' cl') g/\g.vals.length<=k+1)/\YJ x w.heap.size w (setBlock W9 x<|.map es' cl'):=I λW9 h9=>by
    have n7:YJ x wc.heap.size wc<|setBlock W9 x<|.map es' cl':=(YJ.of h9).trans<|YJ.set _ _ _ _;have u0:XO wc x:=by
     obtain⟨q1,q2,hq⟩:=s8.o;exact⟨q1,q2,l7.trans hq⟩
    refine⟨s6.o W9<|by have:=h9.size;omega,λg d=>⟨(n6.o g d).1.jk<|Zu.belX n7 u0,(n6.o g d).2⟩,HB.trans<|((YJ.of c5.o).mono f5).trans<|n7.mono X⟩
   all_goals
    obtain⟨f1,f2,f3⟩:=p8.o w8 D.o;have F1:=I f1;have F2:=I<|And.intro f2 s7.o;have F3:=I f3;clear f1 f2 f3;go_wp2;go_roundw;case rel=>exact⟨k+1,gs',es',cl',X,by go_num,s5,F1,F2,F3⟩
    case measure=>simp[intOf];omega
  .obtain rfl:k=is.length:=X;have u1:U<|gs.map XV.grp=Wg (bs.map bl) l:=by have:=J.2;rwa [Wm<|by rw[HV.len'];omega]at this
   have n8:=I J.1;have i3:=a2.len;have c0:=f6.cell 0;simp only[Qo]at c0;have n9:=λT=>oU a2.heap T;rw[i3]at n9;have d8:x<wo.heap.size:=X;clear J;go_wp2_with(at_make;refine Kw _ C _ _ 220 C w.heap.size 223 i0 _ 3 underlying220 hi k0 k1 _ _ _ gs.length C C C ?b2 ?b3 ?b4 ?_);case b2=>rw[k2];omega
   case b3=>unfold maxLen;omega
   case b4=>exact f5
   intro w2 j8 c7;have c8:=I<|(Ym _ _).grown c7 (Yj _) λq hq=>by cases hq
   have o0:=I<|a2.moved<|c8.block x d8;have u2:=I<|f6.below c8;clear c7 c0 n9;have c0:=u2.cell;have u3:=run_range_map _ 304 9 _ x _ _ underlying304 o0.heap;go_wp2;have p9:=I<|HB.trans<|(YJ.of c8).mono f5;have i4:U<|∀g∈gs,XE _ g/\g.vals.length<=is.length:=I λg d=>⟨(n8 g d).1.jk<|Zu.below c8,(n8 g d).2⟩;have y1:=c8.size;clear u3 c0;go_loopg [13] gs.length (λkx v wr=>∃(js:List Nat)(seen:Array Nat)(c9:Nat),(leftOf es seen).size<=kx/\js.length+(leftOf es seen).size<=gs.length/\wr.ownsRow w.heap.size 223 3 v js.length (Y5<|js.map λj=>UU op<|gs.getD j TG)/\U (wr.heap[w2.heap.size]?=some (.mapIter (some x) cl seen c9)/\cl<=c9)/\U (Xe wr x gs es cl)/\U (Rv es gs.length js seen)/\U (∀g∈gs,XE wr g/\g.vals.length<=is.length)/\U (YJ x w.heap.size w wr)/\w2.heap.size<wr.heap.size);case atStart=>
    have e1:Below _ _<|w2.alloc<|.mapIter (some x) cl #[] cl:=Yc;have o1:(leftOf es #[]).size<=gs.length:=by unfold leftOf;rw[<-i3];exact Array.size_filter_le
    exact⟨[],#[],cl,o1,by simpa using o1,Ze j8 e1,I ⟨heap_alloc_new _ _,Yj _⟩,I<|o0.moved<|e1.block x X,I ⟨Ih,Sm,C⟩,I λg d=>⟨(i4 g d).1.jk<|Zu.below e1,(i4 g d).2⟩,I<|p9.trans<|(YJ.of e1).mono X,Sm⟩
   case round=>
    obtain⟨js,seen,c9,y3,y4,a6,e2,Z,i5,b5,d0,i6⟩:=hrel;have u4:x<wr.heap.size:=by have:=d0.size;omega
    have i7:=λty=>run_next_at (P:=prog) _ ty _ x _ _ _ _ _ e2.1 Z.heap Z.stm.1 e2.2;rcases i7 0 with⟨u5,b7⟩|⟨e,he,o2,a7,b7⟩
    .have e3:=i5.all Z u5;have i8:=yp op e3;rw[u1]at i8;have i9:=I<|qN l (λe he=>by
     rw[<-HV.els]at he;obtain⟨i,hi,rfl⟩:=XK.1 he;exact(HV.ok i hi).lb.wf) i8;have j0:(js.map λj=>UU op<|gs.getD j TG).length=js.length:=Yz _;rw[<-j0]at a6;have o3:=I<|Fa a6 (d0.size) (by rw[j0];omega) (λi hi=>by
     obtain⟨j,hj,rfl⟩:=XK.1 hi;have u6:=i5.lt j hj;have eg:gs.getD j TG=gs[j]:=by rw[Y0,List.getElem?_eq_getElem u6];rfl
     rw[eg];exact⟨(b5 _<|List.getElem_mem _).1.lb,Nq _⟩) i9.1;rw[i9.2]at o3;clear a6 i8 e3 i7;go_wp2_with fail;refine o3.m ?_;rintro e w5 ⟨rfl,is',H5⟩;have u7:=I<|d0.trans<|YJ.of H5.2;have u8:U<|XO _ x:=I ⟨es,cl,(H5.2.block x k3).trans Z.heap⟩;go_wp2;go_ret;exact⟨_,is',C,I ⟨H5.1,u8⟩,u7⟩
    .obtain⟨j,hj,o4,o5⟩:=i5.step Z.o he;obtain⟨_,o6,o8⟩:=Z.at o4;have o9:=(Ba he).1;have y5:=pz he;have q3:=I o5;obtain⟨W3,a0⟩:∃W3,W3=setBlock o2 w2.heap.size (.mapIter (some x) cl (seen.push e.born) cl):=⟨_,C⟩;rw[<-a0]at b7;have b8:o2.heap=wr.heap:=by rcases a7 with rfl|rfl<;>rfl
     have j1:W3.heap[w2.heap.size]?=some (.mapIter (some x) cl (seen.push e.born) cl):=by rw[a0];simp[setBlock,b8,i6]
     have e4:∀i,i≠w2.heap.size->W3.heap[i]?=wr.heap[i]?:=λi hi=>by rw[a0];simp[setBlock,b8,Qw hi]
     have u9:W3.heap.size=wr.heap.size:=by rw[a0];simp[setBlock,b8]
     have e6:Below w.heap.size _ _:=⟨by rw[a0];rcases a7 with rfl|rfl<;>rfl,by rw[a0];rcases a7 with rfl|rfl<;>rfl,by rw[a0];rcases a7 with rfl|rfl<;>rfl,X,λi hi=>e4 i X⟩;have e7:Zu _ _:=λb c T fr hb=>(e4 b λe'=>by subst e';rw[e2.1]at hb;cases hb).trans hb;have p0:=e4 x X;have d4:=I<|Z.moved p0;have p1:=run_entry_at (P:=prog) _ _ x _ _ _ _ e j1 d4.heap o9 d4.stm.2.1;have eg:gs.getD j TG=gs[j]:=by rw[Y0,List.getElem?_eq_getElem hj];rfl
     have v0:U<|(js++[j]).map (λj=>UU _<|gs.getD j _)=js.map _++[UU op _]:=I<|by rw[Xa,PE,eg]
     have p2:U<|XE _ gs[j]/\(gs[j]).vals.length<=10000:=I ⟨(b5 _<|List.getElem_mem _).1.jk e7,by have:=(b5 _<|List.getElem_mem hj).2;omega⟩;have j2:U<|∀g∈gs,XE _ g/\g.vals.length<=is.length:=I λg d=>⟨(b5 g d).1.jk e7,(b5 g d).2⟩;have p3:=I<|d0.trans<|YJ.of e6;have e8:=e7.own a6;have q4:=I j1;generalize gs[j]=g at*;obtain⟨t0,t1,t2,t3,t4,t5,a4⟩:=LV g.vals;have b6:=I a4;rw[o8,AO g a4,o6]at b7 p1;obtain⟨one,j3⟩:∃one,one=YZ (T1 op g.vals):=⟨_,C⟩;have j4:=I j3;have x0:w2.heap.size<W3.heap.size:=X;clear u9 i6 u4;clear i7 a6 e7 p0 j1 e4 e6 a0 a7 b8 o6 o8 o9 he o5 a4 j3 Z b5 d0 e2 eg o4 hj;go_upto_region 13 with fail;refine Zs λp4 r=>?_;have V:Below _ _ _:=r▸Yc;have HX:U<|Ya _ _ [.slice _ _ _,.string _,.int _ _,.int _ _,.int _ _,.int _ _,.int _ _,.int _ _] 324:=r▸YO;have e9:=Ze e8 V;have p5:=I V;clear r V e8 b7 p1;have v1:=p5.size;have q5:=p3.size;have R:U<|∀f,Ya f W3.heap.size [.slice g.a g.n g.c,.string g.tx,E t0,E t1,E t2,E t3,E t4,E t5] 324->f.cell? _=some _/\f.cell? _=some _/\f.cell? _=some _/\f.cell? _=some _/\f.cell? _=some _/\f.cell? _=some _/\f.cell? _=some _/\f.cell? _=some _:=I λf p=>⟨p.cell 0,p.cell 1,p.cell 2,p.cell 3,p.cell 4,p.cell 5,p.cell 6,p.cell 7⟩;refine ZW 10 (λf=>f.cell? _=some _/\f.cell? _=some _/\f.cell? _=some _/\f.cell? _=some _/\f.cell? _=some _/\f.cell? _=some _/\f.cell? _=some _/\f.cell? _=some _) Kr (R.o _ HX.o) λm=>?_;refine Za 0 m (h:=Za 1 m (h:=Za 2 m (h:=Za 3 m (h:=Za 4 m (h:=Za 5 m (h:=?_))))));refine Zz (i:=6) Kr C λK hK=>?_;go_simp;refine(AA X p2.2 p2.1.vok b6).m ?_;rintro e5 w5 ⟨rfl,L⟩;have O:U<|BW p4 _:=I ⟨L.os,L.tape,L.output,L.size,L.block⟩;have j5:=I<|HX.below O;clear L;rw[<-j4];go_simp;refine hK _ _ (R _ j5) λm=>?_;clear hK K;try simp only[Act.put,Yt]
     refine Za 7 m (h:=?_);refine Zz (i:=8) Kr C λK hK=>?_;have Q:U<|∀o,Below _ _<|w5.alloc o:=I λo=>Yc;go_simp;refine hK _ _ (R _<|j5.below<|Q _) λm=>?_;clear hK K;try simp only[Act.put,Yt]
     refine Zz (i:=9) Kr C λK hK=>?_;have B:=Ze e9 O;have k6:=O.size;refine SY C _ _ _ C _ 223 _ _ 3 _ underlying220 hi k0 k1 k2 C N _ _ _ (by simp[Act.eval]) (B.alloc _) ⟨w5.heap.size,0,none⟩ 1 1 [.slice g.a g.n g.c,.string g.tx,E one] (by simp[Act.eval]) C ?h2 ?h3 ?h4 ?h5 ?h6 ?_;case h2=>exact Z1 C
     case h3=>intro u hu;simp at hu;rcases hu with rfl|rfl|rfl<;>rfl
     case h4=>unfold maxLen;omega
     case h5=>omega
     case h6=>simp;omega
     intro v6 w6 f0 A _;have H:Below _ _<|w5.alloc<|.cells #[.slice g.a g.n g.c,.string g.tx,E one] 223:=(p5.trans<|O.mono v1).trans<|(Q _).mono X;have p6:=(Wc.below H _).trans<|Wc.grown A<|B.alloc _;have d5:∀(q:Nat)(o:Obj),W3.heap[q]?=some o->(∀c t fr,o≠.cells c t _)->w6.heap[q]?=some o:=λq o hq ho=>by
      have v2:=(Xr.1 hq).1;have p:=(H.block q v2).trans hq;exact(A.block q (by have:=H.size;omega)<|kC (B.alloc _) p ho).trans p
     have v3:=I<|d4.moved<|(d5 x _ d4.heap λc t fr h=>by cases h).trans d4.heap.symm;have q6:U<|w6.heap[w2.heap.size]?=some _/\cl<=cl:=I ⟨d5 _ _ q4 (λc t fr h=>by cases h),Yj _⟩;have v4:U<|∀g∈gs,XE _ g/\g.vals.length<=is.length:=I λz hz=>⟨⟨(j2 z hz).1.lb.kb p6 N,(j2 z hz).1.vok⟩,(j2 z hz).2⟩;have v5:=I<|p3.trans<|YJ.of<|(H.mono q5).grown A (by have:=H.size;omega) λq hq=>(B.lt q hq).1;have v7:w2.heap.size<w6.heap.size:=by have:=H.size;have:=A.size;omega
     have j9:w6.ownsRow w.heap.size 223 3 v6 (js++[j]).length<|Y5<|(js++[j]).map λj=>UU op<|gs.getD j TG:=by
      rw[v0,Lq,Yx];unfold UU;rw[<-j4];exact f0
     have v8:U<|Ya _ _ _ _:=I<|Wc.grown A (B.alloc _) _ _ _ _ N<|j5.below<|Q _;refine hK _ _ (R _ v8) λm=>?_;clear hK K;try simp only[Act.put,Yt]
     refine ZS Kr Kr C Kr λK hK=>?_;go_simp;refine hK _ _ ?_;clear hK K A f0 B e9 p6 d5 H;go_wp2;go_roundg (leftOf es<|seen.push e.born).size;case measure=>omega
     case rel=>exact⟨js++[j],seen.push _,cl,Yj _,by simp;omega,j9,q6,v3,q3,v4,v5,v7⟩
def V6(w w':Y):Prop:=∀(b:Nat)(c:Array F)(T:TypeId)(fr:Nat×Nat),T≠214->T≠134->w.heap[b]?=some (.cells c T fr)->w'.heap[b]?=some (.cells c T fr)
theorem Zu.y(h:Zu w w'):V6 w w':=λb c T fr _ _ a=>h b c T _ a
theorem V6.trans{z:Y}(h:V6 w w')(k:V6 w' z):V6 w z:=λb c T fr a d e=>k b c T _ a d<|h b c T _ a d e
theorem V6.below(h:BW w w'):V6 w w':=(Zu.below h).y
theorem V6.own(h:V6 w w'){e:TypeId}{size:Nat}(a:w.ownsRow base e size v n xs)(c:e≠214)(d:e≠134):w'.ownsRow base e size v n xs:=by
 refine⟨a.1,?_⟩;rcases a.2 with k|⟨g,cap,cur,f,i,j,r⟩
 .simp_all
 .exact .inr ⟨g,cap,cur,f,i,h _ _ _ _ c d j,r⟩
theorem XP.y(h:XP w av l)(a:V6 w w'):XP w' av l:=by
 rcases h with h|⟨g,off,d,c,fr,e,f⟩
 .exact .inl h
 .exact .inr ⟨g,off,d,c,fr,a _ _ _ _ N N e,f⟩
theorem Xz.y{c:Nat}(h:Xz w a n c tx qs)(d:V6 w w'):Xz w' a n c tx qs:=⟨⟨d.own h.row.1 N N,h.row.2⟩,h.txt,h.wf⟩
theorem Y4.y{s:Wq}(h:Y4 w s)(a:V6 w w'):Y4 w' s:=⟨h.lb.y a,h.sam.y a,h.ne,h.len,h.ok⟩
theorem Wa.y{rs:List Wq}(h:Wa w v rs)(a:V6 w w'):Wa w' v rs:=⟨a.own h.row N N,λs c=>(h.ok s c).y a⟩
theorem Y2.y{l:List El}(h:Y2 w v l is)(a:V6 w w'):Y2 w' v l is:=⟨a.own h.row N N,h.els,λi c=>⟨(h.ok i c).lb.y a,(h.ok i c).vok⟩,h.len⟩
def WR(w:Y)(ser:List YY)(t:Int)(v:F):Cl->Prop
 |.inl V=>Vq w v V
 |.inr (a,n)=>∃rv rs,v=.iface 233 rv/\Wa w rv rs/\rs.map Wq.pr=VH ser a n t
theorem WR.y(d:V6 w w'):∀{y:Cl},WR w ser t v y->WR w' ser t v y
 |.inl<|.inl _,h=>h
 |.inl<|.inr _,⟨s,is,a,c⟩=>⟨s,is,a,c.y d⟩
 |.inr (_,_),⟨rv,rs,a,c,e⟩=>⟨rv,rs,a,c.y d,e⟩
theorem WR.shape:∀{y:Cl},WR w ser t v y->∃ty u,v=.iface ty u
 |.inl<|.inl _,h=>⟨_,_,h.1⟩
 |.inl<|.inr _,⟨_,_,a,_⟩=>⟨_,_,a⟩
 |.inr (_,_),⟨_,_,a,_⟩=>⟨_,_,a⟩
def UO(w:Y)(ser:List YY)(t:Int):List F->List Cl->Prop
 |[],[]=>True
 |v::vs,y::ys=>WR w ser t v y/\UO w ser t vs ys
 |_,_=>False
theorem UO.y{w w':Y}{ser:List YY}{t:Int}(a:V6 w w'):∀{vs:List F}{ys:List Cl},UO w ser t vs ys->UO w' ser t vs ys
 |[],[],h=>h
 |_::_,_::_,⟨c,d⟩=>⟨c.y a,UO.y a d⟩
theorem UO.len{w:Y}{ser:List YY}{t:Int}:∀{vs:List F}{ys:List Cl},UO w ser t vs ys->vs.length=ys.length
 |[],[],_=>C
 |_::vs,_::ys,⟨_,h⟩=>by rw[Y1,Y1,UO.len h]
def Rt(w:Y)(x:Nat)(ser:List YY)(t:Int)(ss:List<|Option Cl):Prop:=∃gs es cl,XJ w x gs es cl/\∀j y,ss.getD j none=some y->∃v,Wy gs j=some v/\WR w ser t v y
theorem Rt.y{ss:List<|Option Cl}(h:Rt w x ser t ss)(c:V6 w w')(d:w'.heap[x]?=w.heap[x]?):Rt w' x ser t ss:=by
 obtain⟨gs,es,cl,e,f⟩:=h;exact⟨gs,es,cl,e.moved d,λj y g=>(f j y g).elim λv a=>⟨v,a.1,a.2.y c⟩⟩
structure YE (w0 wk w:Y)(mb x gb gx:Nat)(c0 c1 c2 c3 al:F)(t:Int)(ser:List YY)(m:MQ)(sa:Option Addr)(sn sc:Nat)(vs:List F):Prop where
 st:Un w w0.heap.size mb c0 c1 c2 c3 al t (.map<|some x) (Vp gb) sa sn sc vs.reverse
 slo:Rt w x ser t m.jx
 gr:Ya w gb [.map<|some gx] 306
 gm:XO w gx
 stk:UO w ser t vs m.jy
 bel:BW w0 w
 lm:w0.heap.size<=mb
 lx:w0.heap.size<=x
 lg:w0.heap.size<=gx
 ne:x≠gx
 ky:V6 wk w
theorem Fu {a:Nat}{c:Array F}{T:TypeId}{fr:Nat×Nat}(h:w.heap[a]?=some (.map es cl))(k:w.heap[b]?=some (.cells c T fr)):a≠b:=λe=>by
 simp_all
theorem Fv {a:Nat}{e:TypeId}(h:w.heap[a]?=some (.map es cl))(k:w.ownsRow b e sz v n xs):some a≠v.ownBlock:=λe=>by
 rcases k.2 with⟨k2,_⟩|⟨g,cap,cur,c,_,d,_⟩
 .rw[k2]at e;cases e
 .rw[c]at e;have e2:some a=some g:=e;injection e2 with e2;simp_all
theorem YS.y{st:F}(h:YS w w' mb st)(d:Ya w mb c 214)(f:w.ownsRow base 134 1 st n xs):V6 w w':=λb c2 T fr i g a=>
 (h.block b (Xr.1 a).1 (λe=>by
  rw[e]at a;have:=a.symm.trans d;simp_all)<|ZD f a g).trans a
theorem YS.ofG(h:w.grownBy w'<|some mb)(st:F):YS w w' mb st:=⟨h.os,h.tape,h.output,h.size,λk a c _=>h.block k a λe=>c<|Ub e⟩
theorem YE.below{c:Y}(h:YE w0 c w mb x gb gx c0 c1 c2 c3 al t ser m sa sn sc vs)(a:BW w w'):YE w0 c w' mb x gb gx c0 c1 c2 c3 al t ser m sa sn sc vs:=by
 have d:x<w.heap.size:=by
  obtain⟨gs,es,cl,e,_⟩:=h.slo;exact(Xr.1 e.heap).1
 exact⟨h.st.below a,h.slo.y (V6.below a)<|a.block x d,h.gr.below a,h.gm.below a,h.stk.y<|V6.below a,h.bel.trans<|a.mono h.bel.size,h.lm,h.lx,h.lg,h.ne,h.ky.trans<|V6.below a⟩
theorem YE.num{a:Y}(h:YE w0 a w mb x gb gx c0 c1 c2 c3 al t ser m sa sn sc vs):sn=m.jy.length:=by
 rw[<-h.stk.len,<-h.st.len,QY]
theorem YE.moved{j:Y}(h:YE w0 j w mb x gb gx c0 c1 c2 c3 al t ser m sa sn sc vs)(g:YS w w' mb<|.slice sa sn sc){sn' sc':Nat}(l:Un w' w0.heap.size mb c0 c1 c2 c3 al t (.map<|some x) (Vp gb) sa' sn' sc' vs'.reverse)(n:UO w ser t vs' ys'):YE w0 j w' mb x gb gx c0 c1 c2 c3 al t ser ⟨ys',m.jx⟩ sa' sn' sc' vs':=by
 have f:=g.y h.st.box h.st.own;have c:∀{a:Nat}{es:Array _}{cl:Nat},w.heap[a]?=some (.map es cl)->w'.heap[a]?=w.heap[a]?:=λi=>g.block _ (Xr.1 i).1 (Fu i h.st.box)<|Fv i h.st.own;refine⟨l,?_,f _ _ _ _ N N h.gr,?_,n.y f,g.below h.bel h.lm λk e=>(h.st.own.lt k e).1,h.lm,h.lx,h.lg,h.ne,h.ky.trans f⟩
 .obtain⟨gs,es,cl,d,o⟩:=h.slo;exact Rt.y ⟨gs,es,cl,d,o⟩ f<|c d.heap
 .obtain⟨es,cl,d⟩:=h.gm;exact⟨es,cl,(c d).trans d⟩
theorem YE.qx{a:Y}{y:Cl}{ss:List<|Option Cl}(h:YE w0 a w mb x gb gx c0 c1 c2 c3 al t ser ⟨y::ys,ss⟩ sa (n+1) sc<|v::vs)(c:Un w' w0.heap.size mb c0 c1 c2 c3 al t (.map<|some x) (Vp gb) sa n sc vs.reverse)(d:w.grownBy w'<|some mb):YE w0 a w' mb x gb gx c0 c1 c2 c3 al t ser ⟨ys,ss⟩ sa n sc vs/\WR w' ser t v y:=
 ⟨h.moved (YS.ofG d _) c h.stk.2,h.stk.1.y<|(YS.ofG d _).y h.st.box h.st.own⟩
theorem YE.pushed{a:Y}(h:YE w0 a w mb x gb gx c0 c1 c2 c3 al t ser m sa sn sc vs){y:Cl}(c:WR w ser t v y){ga nc:Nat}(e:Un w' w0.heap.size mb c0 c1 c2 c3 al t (.map<|some x) (Vp gb) (some ⟨ga,0,none⟩) (sn+1) nc<|vs.reverse++[v])(d:YS w w' mb<|.slice sa sn sc):YE w0 a w' mb x gb gx c0 c1 c2 c3 al t ser ⟨y::m.jy,m.jx⟩ (some ⟨ga,0,none⟩) (sn+1) nc<|v::vs:=
 h.moved d (by simp_all) ⟨c,h.stk⟩
theorem YE.belX{d:Y}(h:YE w0 d w mb x gb gx c0 c1 c2 c3 al t ser m sa sn sc vs)(c:YJ gx w.heap.size w w')(f:XO w' gx):YE w0 d w' mb x gb gx c0 c1 c2 c3 al t ser m sa sn sc vs:=by
 have a:=Zu.belX c h.gm;have e:x<w.heap.size:=by
  obtain⟨gs,es,cl,g,_⟩:=h.slo;exact(Xr.1 g.heap).1
 exact⟨⟨a _ _ _ _ h.st.box,a.own h.st.own,h.st.len⟩,h.slo.y a.y<|c.block x e h.ne,a _ _ _ _ h.gr,f,h.stk.y a.y,h.bel.trans<|(c.mono h.bel.size).below h.lg,h.lm,h.lx,h.lg,h.ne,h.ky.trans a.y⟩
theorem YE.stored{f:Y}(h:YE w0 f w mb x gb gx c0 c1 c2 c3 al t ser m sa sn sc vs)(i:w'=setBlock w x o){ss:List<|Option Cl}(j:Rt w' x ser t ss):YE w0 f w' mb x gb gx c0 c1 c2 c3 al t ser ⟨m.jy,ss⟩ sa sn sc vs:=by
 have c:=YJ.set x w.heap.size w o;rw[<-i]at c;have g:XO w x:=by
  obtain⟨gs,es,cl,d,_⟩:=h.slo;exact⟨es,cl,d.heap⟩
 have a:=Zu.belX c g;refine⟨⟨a _ _ _ _ h.st.box,a.own h.st.own,h.st.len⟩,j,a _ _ _ _ h.gr,?_,h.stk.y a.y,h.bel.trans<|(c.mono h.bel.size).below h.lx,h.lm,h.lx,h.lg,h.ne,h.ky.trans a.y⟩;obtain⟨es,cl,d⟩:=h.gm;exact⟨es,cl,(c.block _ (Xr.1 d).1 λe=>h.ne e.symm).trans d⟩
theorem YE.top{e:Y}(h:YE w0 e w mb x gb gx c0 c1 c2 c3 al t ser m sa sn sc vs){y:Cl}(c:m.jy=y::ys):∃v vs' n,vs=v::vs'/\sn=n+1/\WR w ser t v y/\n=ys.length:=by
 have a:=h.stk;rw[c]at a;cases vs with
 |nil=>exact absurd a id
 |cons v vs=>
  have d:=h.num;rw[c,Y1]at d;exact⟨v,vs,ys.length,C,d,a.1,C⟩
def vJ(w0 wk w':Y)(mb x gb gx:Nat)(c0 c1 c2 c3 al:F)(t:Int)(ser:List YY)(m:MQ):Prop:=∃sa sn sc vs,YE w0 wk w' mb x gb gx c0 c1 c2 c3 al t ser m sa sn sc vs
theorem YE.re{a:Y}(h:YE w0 a w mb x gb gx c0 c1 c2 c3 al t ser m sa sn sc vs):YE w0 w w mb x gb gx c0 c1 c2 c3 al t ser m sa sn sc vs:=⟨h.st,h.slo,h.gr,h.gm,h.stk,h.bel,h.lm,h.lx,h.lg,h.ne,V6.below<|Ym _ _⟩
structure Vo (w0:Y)(c:Yb)(ss:List YU)(c0 c1 c2 c3 al:F):Prop where
 cod:X6 w0 c c0 c1 c2 c3
 sto:Up w0 al ss
 dst:Sw<|ss.map YU.ser
theorem nf{st sl gr:F}(t:Int){nm:BA}{ln lc:Nat}{nd:Nd}(hm:Ya w mb (JT c0 c1 c2 c3 al t st sl gr) 214)(x:Up w al ss)(L:Sw<|ss.map YU.ser)(M:bl nm=nd.name)(hc:Z0 w (.slice la ln lc) nd.kq)(hn:n<=1000)(O:-1000000<=t)(P:t<=1000000):
 CP 97 #[Vp mb,.agg #[.string nm,.slice la ln lc,E n]] w λe u=>∃v,e=.returned v/\U (WR u (ss.map YU.ser) t v<|SC (ss.map YU.ser) t (nd,n))/\BW w u:=by
 obtain⟨sa,scp,rfl⟩:=Zd x.row;have HM:=I hm;have Q:=I x;have a0:=I L;have R:=I M;have HC:=I hc;have S:=I λW=>Dj nm la ln lc n W;clear hm x L M hc;go_enter func97,ntmps97;go_wp2_with fail;refine Zv λW V=>?_;have A:Below _ w W:=V▸Yc;have HX:U<|Ya W _ _ 231:=V▸(show Ya _ _ _ _ from YO);clear V;refine(S W).m ?_;rintro e H ⟨rfl,B⟩;have p:=A.trans<|B.mono A.size;have k:=I<|HM.below p;have f:=I<|HX.below B;have D:=I<|Q.below p;have T:=I<|HC.below p;have r:=I p;have a2:=k.lt;have a1:=f.lt;clear B A p HX HM Q HC S;generalize w.heap.size=xb at f a1⊢;by_cases s:0<n
 .rw[WI s];have Z:=I<|show SC (ss.map YU.ser) t (nd,n)=.inr (nd,n)by unfold SC;rw[Ye s]
  clear s;go_upto_region 2 with fail;have d:U<|BW H _:=I (Ym _ _).drew;have l:=I<|k.below d;have g:=I<|f.below d;refine ZW 14 (λu=>u.cell? _=some _/\u.cell? _=some _/\u.cell? _=some _/\u.cell? _=some _/\u.cell? _=some _) Kr (⟨l.cell 4,l.cell 5,g.cell 0,g.cell 1,g.cell 2⟩) λa=>?_;clear l g;refine Za 0 a (h:=Za 1 a (h:=Za 2 a (h:=Za 3 a (h:=Za 4 a (h:=Za 5 a (h:=Za 6 a (h:=Za 7 a (h:=Za 8 a (h:=Za 9 a (h:=Za 10 a (h:=Za 11 a (h:=?_))))))))))));refine Zz (i:=12) Kr C λK m=>?_;go_simp;refine(Ab n t _ (D.below d) R (T.below d) X X O P).m ?_;rintro e z ⟨v,rs,rfl,J,q⟩;go_simp;have c:=d.trans<|q.mono d.size;have o:=I<|k.below c;have j:=I<|f.below c;have G:=I<|r.trans<|c.mono r.size;refine m _ _ ⟨o.cell 4,o.cell 5,j.cell 0,j.cell 1,j.cell 2⟩ λa=>?_;clear m K q c k f o j;try simp only[Act.put,Yt]
  refine Za 13 a (h:=?_);refine ZS Kr Kr C Kr λK m=>?_;go_simp;refine m _ _ ?_;clear m K a;go_wp2;go_ret;exact⟨_,C,I<|Z.o▸⟨_,_,C,J.1,J.2⟩,G⟩
 .rw[Wl s];have Z:=I<|show SC (ss.map YU.ser) t (nd,n)=.inl (.inr<|Uk _ nd _ _ t)by unfold SC;rw[Yd s]
  clear s;go_upto_region 3 with fail;have d:U<|BW H _:=I (Ym _ _).drew;have l:=I<|k.below d;have g:=I<|f.below d;refine ZW 12 (λu=>u.cell? _=some _/\u.cell? _=some _/\u.cell? _=some _/\u.cell? _=some _) Kr (⟨l.cell 4,l.cell 5,g.cell 0,g.cell 1⟩) λa=>?_;clear l g;refine Za 0 a (h:=Za 1 a (h:=Za 2 a (h:=Za 3 a (h:=Za 4 a (h:=Za 5 a (h:=Za 6 a (h:=Za 7 a (h:=Za 8 a (h:=Za 9 a (h:=?_))))))))));refine Zz (i:=10) Kr C λK m=>?_;go_simp;refine(jT t (D.below d) a0 R (T.below d) O P).m ?_;rintro e z ⟨v,is,rfl,J,q⟩;go_simp;have c:=d.trans<|q.mono d.size;have o:=I<|k.below c;have j:=I<|f.below c;have G:=I<|r.trans<|c.mono r.size;refine m _ _ ⟨o.cell 4,o.cell 5,j.cell 0,j.cell 1⟩ λa=>?_;clear m K q c k f o j;try simp only[Act.put,Yt]
  refine Za 11 a (h:=?_);refine ZS Kr Kr C Kr λK m=>?_;go_simp;refine m _ _ ?_;clear m K a;go_wp2;go_ret;exact⟨_,C,I<|Z.o▸⟨_,_,C,J.o⟩,G⟩
theorem Lj {a:Nat}{c':List F}{T:TypeId}(h:Ya w a c T)(d:w.grownBy w'<|some mb)(f:Ya w mb c' 214)(g:T≠214):Ya w' a c T:=h.grown d λe=>by
 injection e with e;subst e;have:=h.symm.trans f;injection this with this;injection this with _ this _;exact g this
def TB(w0 wk w:Y)(mb x gb gx op arg:Nat)(c0 c1 c2 c3 al:F)(t:Int)(ser:List YY)(m:MQ):Prop:=CP 51 #[Vp mb,.agg #[E op,E arg]] w λe w'=>e=.returned (.tuple #[])/\U (vJ w0 wk w' mb x gb gx c0 c1 c2 c3 al t ser m)
theorem lG{k:Y}(h:YE w0 k w mb x gb gx c0 c1 c2 c3 al t ser m sa sn sc vs){y:Cl}(c:m.jy=y::ys)(d:m.jy.length<=64):
 TB w0 k w mb x gb gx 11 arg c0 c1 c2 c3 al t ser ⟨ys,m.jx⟩:=by
 unfold TB;obtain⟨v,vs',n,rfl,rfl,_,r⟩:=h.top c;have s:n<=64:=by rw[c,Y1]at d;omega
 have l:U<|YE _ _ w _ x _ _ _ _ _ _ _ t _ ⟨y::ys,m.jx⟩ _ _ _ _:=I<|by rwa [<-c]
 clear h c d r;go_enter func51,ntmps51;go_wp2_with fail;refine Zv λW g=>?_;have f:Below _ w W:=g▸Yc;have o:U<|Ya W _ _ 137:=g▸(show Ya _ _ _ _ from YO);have a:=I<|l.below f;clear g f l;generalize w.heap.size=ab at*;refine(OL W t n v (by have:=a.st;rwa [Se]at this) X).m ?_;rintro e z ⟨rfl,i,j⟩;have p:=I (a.qx i j).1;have q:=I (a.qx i j).2;clear a i j o q;go_wp2;exact RW (Tq C _ _ _) C ⟨C,I ⟨_,_,_,_,p⟩⟩
theorem lJ{D:Y}(h:YE w0 D w mb x gb gx c0 c1 c2 c3 al t ser m sa sn sc vs){V:VV}(f:m.jy=.inl V::ys)(g:m.jy.length<=64):
 TB w0 D w mb x gb gx 4 arg c0 c1 c2 c3 al t ser ⟨.inl (TH V)::ys,m.jx⟩:=by
 unfold TB;obtain⟨v,vs',n,rfl,rfl,_,K⟩:=h.top f;have L:n<=64:=by rw[f,Y1]at g;omega
 have G:U<|YE _ _ w _ x _ _ _ _ _ _ _ t _ ⟨.inl V::ys,m.jx⟩ _ _ _ _:=I<|by rwa [<-f]
 clear h f g K;go_enter func51,ntmps51;go_wp2_with fail;refine Zv λW s=>?_;have i:Below _ w W:=s▸Yc;have H:U<|Ya W _ _ 137:=s▸(show Ya _ _ _ _ from YO);have a:=I<|G.below i;clear s i G;generalize w.heap.size=ab at*;refine(OL W t n v (by have:=a.st;rwa [Se]at this) X).m ?_;rintro e z ⟨rfl,A,B⟩;have j:=I (a.qx A B).1;have k:=I (a.qx A B).2;clear a A B H;go_wp2_with fail;refine(jO v V k).m ?_;rintro e M ⟨v3,rfl,l,o⟩;have c:=I<|j.below o;have d:U<|WR _ ser t _<|.inl _:=l;clear j k l o;obtain⟨ty,u,rfl⟩:=d.shape;go_wp2_with fail;refine(NC t n _ u c.st X c.bel.size).m ?_;rintro e O ⟨rfl,p,q⟩;obtain⟨g9,n9,r⟩:=p.o;have J:=I<|c.pushed d r q;clear r p q;clear c d;go_wp2;exact RW (Tq C _ _ _) C ⟨C,I ⟨_,_,_,_,J⟩⟩
theorem lK{K:Y}(h:YE w0 K w mb x gb gx c0 c1 c2 c3 al t ser m sa sn sc vs)(hd:Sw ser)(hl:ser.length<=30)(V:arg<=4){a:Nd}{k:Nat}(g:m.jy=.inr (a,k)::ys)(j:m.jy.length<=64):
 TB w0 K w mb x gb gx 2 arg c0 c1 c2 c3 al t ser ⟨.inl (.inr<|Uk ser a (some arg) k t)::ys,m.jx⟩:=by
 unfold TB;obtain⟨v,vs',n,rfl,rfl,_,Z⟩:=h.top g;have hk:n<=64:=by rw[g,Y1]at j;omega
 have L:U<|YE _ _ w _ x _ _ _ _ _ _ _ t _ ⟨.inr (a,k)::ys,m.jx⟩ _ _ _ _:=I<|by rwa [<-g]
 clear h g j Z;have M:=I hd;clear hd;go_enter func51,ntmps51;go_wp2_with fail;refine Zv λW G=>?_;have l:Below _ w W:=G▸Yc;have o:U<|Ya W _ _ 137:=G▸(show Ya _ _ _ _ from YO);have c:=I<|L.below l;clear G l L;generalize w.heap.size=ab at*;refine(OL W t n v (by have:=c.st;rwa [Se]at this) X).m ?_;rintro e z ⟨rfl,H,i⟩;have p:=I (c.qx H i).1;have q:=I (c.qx H i).2;have f:=I<|Lj o i c.st.box N;clear c H i o;obtain⟨rv,rs,rfl,O,J⟩:=q.o;have P:=I O;have Q:=I J;have R:rs.length<=30:=by
  have h1:=congrArg List.length J;rw[Yz]at h1;have h2:=Bu ser a k t;omega
 clear O J q;have a0:∀W:Y,(Instr.typeAssert (.iface 233 rv) 134 233 true).run prog W=.ok (.tuple #[rv,.bool true]) W:=λW=>by kernel_rfl
 have a1:=f.cell 1;have S:=f.lt;simp only[Yf]at a1;go_wp2_with fail;refine(jQ V a k t P Q M R).m ?_;rintro e w3 ⟨v3,is3,rfl,r,s⟩;have d:=I<|p.below s;have u:U<|WR _ ser t _<|.inl<|.inr _:=I ⟨_,_,C,r⟩;clear p r s f P Q M a1 S;go_wp2_with fail;refine(NC t n 221 _ d.st X d.bel.size).m ?_;rintro e w9 ⟨rfl,A,B⟩;obtain⟨g9,n9,D⟩:=A.o;have T:=I<|d.pushed u D B;clear D A B;clear d u;go_wp2;exact RW (Tq C _ _ _) C ⟨C,I ⟨_,_,_,_,T⟩⟩
theorem lE{w0 L w:World}(h:YE w0 L w mb x gb gx c0 c1 c2 c3 al t ser m sa sn sc vs)(T:arg<=3){X Y:VV}(k:m.jy=.inl Y::.inl X::ys)(l:m.jy.length<=64)(O:WG 1000 Y):
 TB w0 L w mb x gb gx 3 arg c0 c1 c2 c3 al t ser ⟨.inl (QJ arg X Y)::ys,m.jx⟩:=by
 unfold TB;obtain⟨v,vs',n,rfl,rfl,_,V⟩:=h.top k;have Z:n<=64:=by rw[k,Y1]at l;omega
 have P:U<|YE w0 L w mb x gb gx c0 c1 c2 c3 al t ser ⟨.inl Y::.inl X::ys,m.jx⟩ sa (n+1) sc<|v::vs':=by rwa [<-k]
 have Q:=I O;clear h k l V O;go_enter func51,ntmps51;go_wp2_with fail;refine Zv λW M=>?_;have o:Below _ w W:=M▸Yc;have p:U<|Ya W _ _ 137:=M▸(show Ya _ _ _ _ from YO);have d:=I<|P.below o;clear M o P;generalize w.heap.size=ab at*;refine(OL W t n v (by have:=d.st;rwa [Se]at this) Om).m ?_;rintro e z ⟨rfl,f,c⟩;have a:=I (d.qx f c).1;have q:=I (d.qx f c).2;have r:=I<|Lj p c d.st.box N;clear d f c p;obtain⟨v1,vs1,n1,rfl,rfl,_,_⟩:=a.top C;go_wp2_with fail;refine(OL _ t _ _ (by have:=a.st;rwa [Se]at this) Om).m ?_;rintro e w3 ⟨rfl,f,c⟩;have s:=I (a.qx f c).1;have A:=I (a.qx f c).2;have B:=I<|q.y<|(YS.ofG c _).y a.st.box a.st.own;have i:=I<|Lj r c a.st.box N;clear a q f c r;have a1:=i.cell 1;have R:=i.lt;simp only[Yf]at a1;have hw:IntKind.i64.wrap (1+(arg))=((arg+1:Nat)):=by rw[Us];omega
 go_wp2_with fail;refine(mY T v X Y A B Q).m ?_;rintro e w4 ⟨v4,rfl,D,G⟩;have g:=I<|s.below G;have j:U<|WR _ ser t _<|.inl _:=D;clear s A B Q i a1 R D G;obtain⟨ty,u,rfl⟩:=j.shape;go_wp2_with fail;refine(NC t _ _ u g.st Om g.bel.size).m ?_;rintro e w9 ⟨rfl,H,J⟩;obtain⟨g9,n9,K⟩:=H.o;have S:=I<|g.pushed j K J;clear K H J;clear g j;go_wp2;exact RW (Tq C _ _ _) C ⟨C,I ⟨_,_,_,_,S⟩⟩
theorem lI{G:Y}(h:YE w0 G w mb x gb gx c0 c1 c2 c3 al t ser m sa sn sc vs)(S:arg<16){y:Cl}(H:m.jx.getD arg none=some y)(J:m.jy.length<64):
 TB w0 G w mb x gb gx 13 arg c0 c1 c2 c3 al t ser ⟨y::m.jy,m.jx⟩:=by
 unfold TB;have V:sn<64:=by have:=h.num;omega
 have L:=I h;clear h J;go_enter func51,ntmps51;go_upto_region 25 with fail;refine Zs λW A=>?_;have o:Below _ w W:=A▸Yc;have j:U<|Ya W _ _ 137:=A▸(show Ya _ _ _ _ from YO);have c:=I<|L.below<|o.drew;clear A o L;generalize w.heap.size=ab at*;have abW:=j.lt;have mbW:mb<W.heap.size:=c.st.box.lt;obtain⟨gs,es,cl,f,p⟩:=c.slo;obtain⟨v,M,B⟩:=p _ y H;obtain⟨ty,u,rfl⟩:=B.shape;have O:=I B;have q:=λn k=>mc f S M n k;have g:=f.heap;generalize P:Obj.map es cl=ob at g;have l:∀n:Y,n.heap[x]?=some _->(Instr.lookup _ _ _ _).run _ _=.ok _ _:=λn k=>q _<|k.trans g.symm;clear q P f p M B H;refine ZW 8 (λD=>D.cell? _=some _/\D.cell? _=some _/\D.heap[x]?=some _) Kr (⟨c.st.box.cell 7,j.cell 1,g⟩) λa=>?_;clear g;refine Za 0 a (h:=Za 1 a (h:=Za 2 a (h:=Za 3 a (h:=Za 4 a (h:=Za 5 a (h:=Za 6 a (h:=?_)))))));refine Tj (i:=7) (d:=132) (v:=?v7) C C Kr (λ_ _ _ h=>h) (Or.inl ⟨by rfl,?hy7⟩) a ?rs7;case hy7=>(intro w hSw;have T:=l w hSw.2.2;go_simp;try with_reducible rfl)
 case rs7=>
 try simp only[Yt]
 refine ZS Kr Kr C Kr λK Q=>?_;go_simp;refine(NC t _ _ u c.st X c.bel.size).m ?_;rintro e Z ⟨rfl,r,s⟩;obtain⟨g9,n9,z⟩:=r.o;have R:=I<|c.pushed O z s;clear z r s;clear a j c O l;go_simp;refine Q _ _ ?_;clear Q K;go_wp2;exact RW (Tq C _ _ _) C ⟨C,I ⟨_,_,_,_,R⟩⟩
theorem lM{O:Y}(h:YE w0 O w mb x gb gx c0 c1 c2 c3 al t ser m sa sn sc vs)(S:arg<16)(hl:m.jx.length=16){y:Cl}(r:m.jy=y::ys)(A:m.jy.length<=64):
 TB w0 O w mb x gb gx 12 arg c0 c1 c2 c3 al t ser ⟨ys,m.jx.set arg<|some y⟩:=by
 unfold TB;obtain⟨v,vs',n,rfl,rfl,_,hn⟩:=h.top r;have hk:n<=64:=by rw[r,Y1]at A;omega
 have T:U<|YE _ _ w _ x _ _ _ _ _ _ _ t _ ⟨y::ys,m.jx⟩ _ _ _ _:=I<|by rwa [<-r]
 clear h r A hn;go_enter func51,ntmps51;go_upto_region 23 with fail;refine Zs λW P=>?_;have B:Below _ w W:=P▸Yc;have g:U<|Ya W _ _ 137:=P▸(show Ya _ _ _ _ from YO);have c:=I<|T.below<|B.drew;have D:=I<|g.below (Ym _ _).drew;clear P B T;generalize w.heap.size=ab at*;have abW:=g.lt;have mbW:mb<W.heap.size:=c.st.box.lt;refine ZW 8 (λV=>V.cell? _=some _/\V.cell? _=some _) Kr (⟨c.st.box.cell 7,g.cell 1⟩) λa=>?_;refine Za 0 a (h:=Za 1 a (h:=Za 2 a (h:=Za 3 a (h:=Za 4 a (h:=Za 5 a (h:=Za 6 a (h:=?_)))))));refine Zz (i:=7) Kr C λK p=>?_;go_simp;refine(OL _ t n v (by have:=c.st;rwa [Se]at this) X).m ?_;rintro e o ⟨rfl,Q,s⟩;have k:=I (c.qx Q s).1;have G:=I (c.qx Q s).2;have H:=I<|Lj D s c.st.box N;clear Q s c g D;go_simp;refine p _ _ ⟨k.st.box.cell 7,H.cell 1⟩ λa=>?_;clear p K;try simp only[Act.put,Yt]
 obtain⟨gs,es,cl,d,J⟩:=k.slo;obtain⟨es2,cl2,gs2,L,l,q⟩:=xe d S v;have R:=L _ C;have Z:U<|YE w0 O (setBlock o x<|.map es2 cl2) mb x gb gx c0 c1 c2 c3 al t ser ⟨ys,m.jx.set arg<|some y⟩ sa n sc vs':=I (k.stored C ⟨gs2,es2,cl2,l o (Xr.1 d.heap).1,λj z f=>by
  have M:V6 o<|setBlock o x<|.map es2 cl2:=(Zu.belX (YJ.set x o.heap.size o _) ⟨es,cl,d.heap⟩).y;rw[q];rw[Y0,Sc]at f;by_cases e:arg=j
  .rw[Ye e,Ye<|by rw[hl];exact S]at f;injection f with f;subst f;exact⟨v,Ye e,G.y M⟩
  .rw[Yd e]at f;rw[<-Y0]at f;obtain⟨u,h1,h2⟩:=J j z f;exact⟨u,by rw[Yd e];exact h1,h2.y M⟩⟩);clear L l q d J k H G;refine ZS Kr Kr C Kr λK p=>?_;go_simp;refine p _ _ ?_;clear p K a R;go_wp2;exact RW (Tq C _ _ _) C ⟨C,I ⟨_,_,_,_,Z⟩⟩
theorem Vo.below{c:Yb}(h:Vo w c ss c0 c1 c2 c3 al)(a:BW w w'):Vo w' c ss c0 c1 c2 c3 al:=⟨h.cod.below a,h.sto.below a,h.dst⟩
theorem lF{o:Y}(h:YE w0 o w mb x gb gx c0 c1 c2 c3 al t ser m sa sn sc vs){c:Yb}(p:Vo w0 c ss c0 c1 c2 c3 al)(q:arg<c.jq.length)(r:YC<|c.jq.getD arg 0)(s:m.jy.length<64):
 TB w0 o w mb x gb gx 0 arg c0 c1 c2 c3 al t ser ⟨.inl (.inl<|c.jq.getD arg 0)::m.jy,m.jx⟩:=by
 unfold TB;have f:=(p.cod.below h.bel).cs;obtain⟨gc,cc,z⟩:=Zm f X;subst z;have k0:=Zc f _ (.int _<|c.jq.getD _ 0)<|by rw[Vs,List.getElem?_eq_getElem q,Y0,List.getElem?_eq_getElem q];rfl
 have gcl:=ZN f;have M:sn<64:=by have:=h.num;omega
 have A:=I h;have J:=I r;generalize c.jq.getD arg 0=v at*;generalize c.jq.length=nc at*;have O:(arg:Int)<(nc):=X;have B:U<|∀D:Y,Below _ w _->D.cell? _=some _:=I λD L=>(L.cell gcl).trans k0;clear h p f k0 s r;go_enter func51,ntmps51;go_upto_region 3 with fail;refine Zs λW n=>?_;have g:Below _ w W:=n▸Yc;have i:U<|Ya W _ _ 137:=n▸(show Ya _ _ _ _ from YO);have d:=I<|A.below<|g.drew;have q2:=B W g;have gcW:=WH gcl g.size;clear n g A B gcl;generalize w.heap.size=ab at*;have abW:=i.lt;have mbW:mb<W.heap.size:=d.st.box.lt;refine ZW 11 (λu=>u.cell? _=some _/\u.cell? _=some _/\u.cell? _=some _) Kr (⟨d.st.box.cell 0,i.cell 1,q2⟩) λa=>?_;clear q2;refine Za 0 a (h:=Za 1 a (h:=Za 2 a (h:=Za 3 a (h:=Za 4 a (h:=Za 5 a (h:=Za 6 a (h:=Za 7 a (h:=Za 8 a (h:=Za 9 a (h:=Za 10 a (h:=?_)))))))))));refine ZS Kr Kr C Kr λK G=>?_;go_simp;refine(NC t _ 219 _ d.st X d.bel.size).m ?_;rintro e P ⟨rfl,j,k⟩;obtain⟨g9,n9,l⟩:=j.o;have H:=I<|d.pushed (y:=.inl<|.inl v) ⟨C,J⟩ l k;clear l j k;clear a i d;go_simp;refine G _ _ ?_;clear G K;go_wp2;exact RW (Tq C _ _ _) C ⟨C,I ⟨_,_,_,_,H⟩⟩
theorem lL{wk:Y}(h:YE w0 wk w mb x gb gx c0 c1 c2 c3 al t ser m sa sn sc vs){c:Yb}(hc:Vo w0 c ss c0 c1 c2 c3 al)(he:ser=ss.map YU.ser)(ha:arg<c.jw.length)(hn:(c.jw.getD arg VN).2<=1000)(a0:m.jy.length<64)(a1:-1000000<=t)(a2:t<=1000000):
 TB w0 wk w mb x gb gx 1 arg c0 c1 c2 c3 al t ser ⟨SC ser t (c.jw.getD arg VN)::m.jy,m.jx⟩:=by
 unfold TB;have l:=hc.below h.bel;obtain⟨xs,d,r,L⟩:=l.cod.ps;have M:xs.length=c.jw.length:=by rw[<-r,Yz]
 have o:arg<xs.length:=X;obtain⟨gp,pc,a3⟩:=Zm d X;subst a3;obtain⟨e0,e1,e2⟩:=DT _ _ o;have k0:=Zc d _ _ e0;have k1:=Zc d _ _ e1;have k2:=Zc d _ _ e2;have gpl:=ZN d;have O:=L _<|List.getElem_mem o;have P:c.jw.getD arg VN=xs[arg].pr:=by rw[<-r,Y0,Vs,List.getElem?_eq_getElem o];rfl
 rw[P]at hn⊢;rw[M]at d;generalize xs[arg]=p at*;have a6:sn<64:=by have:=h.num;omega
 have HI:=I h;have Q:=I O;have s:=I l.sto;have v:=I l.dst;have a4:p.n<=1000:=hn;have a7:=o;generalize xs.length=np at*;have a8:(arg:Int)<(np):=X;have HK:U<|∀H:Y,Below _ w _->H.cell? _=some _/\H.cell? _=some _/\H.cell? _=some _:=I λH hb=>⟨(hb.cell gpl).trans k0,(hb.cell gpl).trans k1,(hb.cell gpl).trans k2⟩;clear h hc l d k0 k1 k2 e0 e1 e2 a0 L O r P hn ha M;subst he;go_enter func51,ntmps51;go_upto_region 5 with fail;refine Zs λW hW=>?_;have f:Below _ w W:=hW▸Yc;have q:U<|Ya W _ _ 137:=hW▸(show Ya _ _ _ _ from YO);have j:=I<|HI.below<|f.drew;obtain⟨q0,q1,q2⟩:=HK.o W f;have A:=I<|Q.below f.drew;have R:=I<|s.below f.drew;have gpW:=WH gpl f.size;clear hW f HI HK gpl Q s;generalize w.heap.size=ab at*;have abW:=q.lt;have mbW:mb<W.heap.size:=j.st.box.lt;have J:U<|W.cell? _=some _/\W.cell? _=some _/\W.cell? _=some _:=I ⟨q0,q1,q2⟩;refine ZW 12 (λB=>B.cell? _=some _/\B.cell? _=some _/\B.cell? _=some _/\B.cell? _=some _/\B.cell? _=some _) Kr (⟨j.st.box.cell 1,q.cell 1,q0,q1,q2⟩) λa=>?_;clear q0 q1 q2;refine Za 0 a (h:=Za 1 a (h:=Za 2 a (h:=Za 3 a (h:=Za 4 a (h:=Za 5 a (h:=Za 6 a (h:=Za 7 a (h:=Za 8 a (h:=Za 9 a (h:=Za 10 a (h:=?_)))))))))));refine Zz (i:=11) Kr C λK D=>?_;go_simp;refine(nf t j.st.box R v A.nm A.cs a4 a1 a2).m ?_;rintro e z ⟨v2,rfl,G,g⟩;obtain⟨ty,u,rfl⟩:=G.shape;go_simp;have k:=I<|j.below g;have S:=I<|(q.below (Ym _ _).drew).below g;refine D _ _ ⟨k.st.box.cell 1,S.cell 1,(g.cell gpW).trans J.1,(g.cell gpW).trans J.2.1,(g.cell gpW).trans J.2.2⟩ λa=>?_;clear D K g j q J A R v;try simp only[Act.put,Yt]
 refine ZS Kr Kr C Kr λK D=>?_;go_simp;refine(NC t _ _ u k.st X k.bel.size).m ?_;rintro e w9 ⟨rfl,T,V⟩;obtain⟨g9,n9,Z⟩:=T.o;have a5:=I<|k.pushed G Z V;clear Z T V;clear a S k G;go_simp;refine D _ _ ?_;clear D K;go_wp2;exact RW (Tq C _ _ _) C ⟨C,I ⟨_,_,_,_,a5⟩⟩
theorem lH{wk:Y}(h:YE w0 wk w mb x gb gx c0 c1 c2 c3 al t ser m sa sn sc vs)(h5:5<=op)(h8:op<=8){c:Yb}(hc:Vo w0 c ss c0 c1 c2 c3 al)(ha:arg<c.jv.length){l:List El}(P:m.jy=.inl (.inr l)::ys)(S:m.jy.length<=64):
 TB w0 wk w mb x gb gx op arg c0 c1 c2 c3 al t ser ⟨.inl (.inr<|SA (op-5) (c.jv.getD arg []) l)::ys,m.jx⟩:=by
 unfold TB;have T:=hc;obtain⟨xs,j,r,V⟩:=T.cod.gs;have b1:xs.length=c.jv.length:=by rw[<-r,Yz]
 have s:arg<xs.length:=X;obtain⟨gp,pc,b2⟩:=Zm j X;subst b2;have k0:=Zc j _ (.slice _ _ _)<|by unfold Ns;rw[Vs,List.getElem?_eq_getElem s];rfl
 have gpl:=ZN j;obtain⟨bs,A,k,B,b6⟩:=V _<|List.getElem_mem s;have Z:c.jv.getD arg []=xs[arg].ns:=by rw[<-r,Y0,Vs,List.getElem?_eq_getElem s];rfl
 rw[Z,<-qB B];generalize xs[arg]=p at*;have D:=I A;have a0:U<|O2 _:=I<|Rx.1 k;have HK:U<|∀W':Y,Below _ _ _->W'.cell? _=some _:=I λW' hb=>(hb.cell gpl).trans k0;generalize xs.length=np at*;have b7:(arg:Int)<(np):=X;clear hc T j k0 V r Z A k B ha b1;obtain⟨v,vs',n,rfl,rfl,_,hn⟩:=h.top P;have hk:n<=64:=by rw[P,Y1]at S;omega
 have HI:U<|YE _ _ w _ x _ _ _ _ _ _ _ t _ ⟨.inl _::ys,m.jx⟩ _ _ _ _:=I<|by rwa [<-P]
 clear h P S hn;have b5:IntKind.i64.wrap ((op)-5)=((op-5:Nat)):=by rw[Us];omega
 have b3:op-5<=3:=X;have o0:¬((op:Int)=0):=X;have o1:¬((op:Int)=1):=X;have o2:¬((op:Int)=2):=X;have o3:¬((op:Int)=3):=X;have o4:¬((op:Int)=4):=X;go_enter func51,ntmps51;go_upto_region 14 with fail;refine Zs λW hW=>?_;have a1:Below _ w W:=hW▸Yc;have a2:U<|Ya W _ _ 137:=hW▸(show Ya _ _ _ _ from YO);have g:=I<|HI.below a1;clear hW a1 HI o0 o1 o2 o3 o4;generalize w.heap.size=ab at*;go_upto_if 77 with fail;go_cut [77] (λs77 wx=>s77=.bool true/\wx=W);case first=>
  rcases(X:op=5\/op=6\/op=7\/op=8)with rfl|rfl|rfl|rfl<;>(go_wp2;go_meet;exact⟨C,C⟩)
 case rest=>
 obtain⟨rfl,rfl⟩:=hcut;go_wp2_with fail;refine(OL _ t n v (by have:=g.st;rwa [Se]at this) X).m ?_;rintro e z ⟨rfl,HP,Q⟩;have o:=I (g.qx HP Q).1;have a3:=I (g.qx HP Q).2;have G:=I<|Lj a2 Q g.st.box N;clear g HP Q a2;obtain⟨s2,is2,rfl,H⟩:=a3.o;obtain⟨ra,rc,rfl⟩:=Zd H.row;have a4:=I H;clear H a3;have b8:=RO<|.slice ra is2.length rc;go_upto_region 19 with fail;have R:U<|BW z _:=I (Ym _ _).drew;have d:=I<|o.below R;have q:=I<|G.below R;have q2:=HK _ d.bel;have a5:=I d.bel;have abW:=G.lt;have mbW:=o.st.box.lt;have gpW:=WH gpl o.bel.size;have a6:=I<|a4.below R;clear o G a4 R;refine ZW 20 (λu=>u.cell? _=some _/\u.cell? _=some _/\u.cell? _=some _/\u.cell? _=some _/\u.cell? _=some _) Kr (⟨d.st.box.cell 8,q.cell 0,d.st.box.cell 2,q.cell 1,q2⟩) λa=>?_;clear q2;refine Za 0 a (h:=Za 1 a (h:=Za 2 a (h:=Za 3 a (h:=Za 4 a (h:=Za 5 a (h:=Za 6 a (h:=Za 7 a (h:=Za 8 a (h:=Za 9 a (h:=Za 10 a (h:=Za 11 a (h:=Za 12 a (h:=Za 13 a (h:=Za 14 a (h:=Za 15 a (h:=Za 16 a (h:=Za 17 a (h:=?_))))))))))))))))));refine Zz (i:=18) Kr C λK J=>?_;go_simp;refine(oW b3 l d.gr d.gm (Ze D a5) X a0 a6).m ?_;rintro e w3 ⟨v3,is3,rfl,L,M⟩;go_simp;have f:=I<|d.belX M L.2;have O:U<|Ya _ _ _ _:=I<|Zu.belX M d.gm _ _ _ _ q;refine J _ _ ⟨f.st.box.cell 8,O.cell 0,f.st.box.cell 2,O.cell 1,HK _ f.bel⟩ λa=>?_;have a7:U<|WR _ ser t _<|.inl<|.inr _:=I ⟨_,_,C,L.1⟩;clear J K M L d q a6 a5 HK D a0 O;try simp only[Act.put,Yt]
 refine Za 19 a (h:=?_);refine ZS Kr Kr C Kr λK J=>?_;go_simp;refine(NC t n 221 _ f.st X f.bel.size).m ?_;rintro e w9 ⟨rfl,a8,a9⟩;obtain⟨g9,n9,b0⟩:=a8.o;have b4:=I<|f.pushed a7 b0 a9;clear b0 a8 a9;clear a f a7;go_simp;refine J _ _ ?_;clear J K;go_wp2;exact RW (Tq C _ _ _) C ⟨C,I ⟨_,_,_,_,b4⟩⟩
theorem lD{H:Y}{i:Nat}{c:Yb}{st tl st' tl':List Nat}(h:YE w0 H w mb x gb gx c0 c1 c2 c3 al t (ss.map YU.ser) m sa sn sc vs)(A:Vo w0 c ss c0 c1 c2 c3 al)(J:T7 c)(K:-1000000<=t)(L:t<=1000000)(S:op<=13)(h9:op≠9)(T:op≠10)(q:Zy c i (op,arg)=true)(p:YV (ss.map YU.ser).length st tl m)(V:st.length<=64)(f:Zr c (op,arg) st tl=some (st',tl')):
 TB w0 H w mb x gb gx op arg c0 c1 c2 c3 al t (ss.map YU.ser)<|XG (ss.map YU.ser) t c (op,arg) m:=by
 have M:m.jy.length=st.length:=by rw[<-p.jy,Yz]
 have G:(ss.map YU.ser).length<=30:=by rw[Yz];exact A.sto.len
 have O:(ss.map YU.ser).length<=1000:=X;rcases(X:op=0\/op=1\/op=2\/op=3\/op=4\/op=11\/op=12\/op=13\/(op=5\/op=6\/op=7\/op=8))with rfl|rfl|rfl|rfl|rfl|rfl|rfl|rfl|D
 .have j:arg<c.jq.length:=by simpa [Zy]using q
  exact lF h A j (J.cs _<|M2 j)<|by have:=MB<|f;omega
 .have j:arg<c.jw.length:=by simpa [Zy]using q
  have P:=J.ps _<|M2 (d:=VN) j;exact lL h A C j P.1 (by have:=MB<|f;omega) K L
 .have j:arg<=4:=by
   have:arg<5:=by simpa [Zy]using q
   omega
  cases st with
  |nil=>cases f
  |cons k r=>
   simp only[Zr]at f;split at f
   .rename_i s;subst s;obtain⟨y,rs,g,l,o,u⟩:=p.pop;obtain⟨a,n,rfl⟩:=Fe l;have e:XG (ss.map YU.ser) t c (2,arg) m=⟨.inl (.inr<|Uk (ss.map YU.ser) a (some arg) n t)::rs,m.jx⟩:=by simp only[XG,g]
    rw[e];exact lK h A.dst G j g X
   simp_all
 .have j:arg<=3:=by
   have:arg<4:=by simpa [Zy]using q
   omega
  cases st with
  |nil=>cases f
  |cons ky r=>
   cases r with
   |nil=>cases f
   |cons kz r=>
    simp only[Zr]at f;split at f
    .rename_i s;rw[Vt]at s;obtain⟨y,rs,g,l,o,u⟩:=p.pop;obtain⟨z,qs,B,Q,W,Z⟩:=u.pop;have B:rs=z::qs:=B;subst B;obtain⟨vy,rfl⟩:=Po<|l▸s.2;obtain⟨vz,rfl⟩:=Po<|Q▸s.1;have e:XG (ss.map YU.ser) t c (3,arg) m=⟨.inl (QJ arg vz vy)::qs,m.jx⟩:=by simp only[XG,g];rfl
     rw[e];exact lE h j g X<|WG.more O o
    simp_all
 .cases st with
  |nil=>cases f
  |cons ky r=>
   simp only[Zr]at f;split at f
   .rename_i s;obtain⟨y,rs,g,l,o,u⟩:=p.pop;obtain⟨vy,rfl⟩:=Po<|by rwa [l]
    have e:XG (ss.map YU.ser) t c (4,arg) m=⟨.inl (TH vy)::rs,m.jx⟩:=by simp only[XG,g];rfl
    rw[e];exact lJ h g X
   simp_all
 .cases st with
  |nil=>cases f
  |cons k r=>
   obtain⟨y,rs,g,l,o,u⟩:=p.pop;have e:XG (ss.map YU.ser) t c (11,arg) m=⟨rs,m.jx⟩:=by simp only[XG,g];rfl
   rw[e];exact lG h g X
 .cases st with
  |nil=>cases f
  |cons k r=>
   have j:arg<16:=by simpa [Zy]using q
   obtain⟨y,rs,g,l,o,u⟩:=p.pop;have e:XG (ss.map YU.ser) t c (12,arg) m=⟨rs,m.jx.set arg<|some y⟩:=by simp only[XG,g]
   rw[e];exact lM h j p.len g X
 .have j:arg<16:=by simpa [Zy]using q
  simp only[Zr]at f;split at f
  .cases f
  .rename_i R;obtain⟨y,l,s⟩:=p.jx _ R;have e:XG (ss.map YU.ser) t c (13,arg) m=⟨y::m.jy,m.jx⟩:=by simp only[XG,l]
   rw[e];exact lI h j l<|by have:=MB f;omega
 .have key:∃r,st=2::r:=by
   cases st with
  |nil=>rcases D with rfl|rfl|rfl|rfl<;>cases f
  |cons k r=>
   have a0:(if k=2 then Z4 2 r tl else none)=some (st',tl'):=by rcases D with rfl|rfl|rfl|rfl<;>exact f
   simp_all
  obtain⟨r,rfl⟩:=key;obtain⟨y,rs,g,l,o,u⟩:=p.pop;obtain⟨v,rfl⟩:=La l;have j:arg<c.jv.length:=by rcases D with rfl|rfl|rfl|rfl<;>simpa [Zy]using q
  have e:XG (ss.map YU.ser) t c (op,arg) m=⟨.inl (.inr<|SA (op-5) (c.jv.getD arg []) v)::rs,m.jx⟩:=by
   rcases D with rfl|rfl|rfl|rfl<;>(simp only[XG,g];rfl)
  rw[e];exact lH h X X A j g X
theorem Jx{l:LB}(h:WB w B b l)(s:BA)(f:l.length+s.size<=140737488355328):
 CP 92 #[Vp b,.string s] w λe u=>e=.returned (.tuple #[E s.size,.nilIface])/\U (WB u B b<|l++bl s)/\U (WK B b w u):=by
 refine(Ll B b s w h.bd (by rw[Lib.byteCells_length];omega) h.le).m ?_;rintro e u ⟨rfl,a,c,d⟩;rw[EM]at a;exact⟨C,⟨.inr a,Xb h.le c.size⟩,⟨c,d⟩⟩
theorem Jg(h:Vv w)(n:Int)(c:YC n):
 CP 93 #[E n] w λe u=>∃s:BA,e=.returned (.string s)/\U (bl s=Xs n)/\s.size<=1000000002/\BW w u:=by
 have d:=Nr n c;unfold YC at c;refine(strconv_Itoa n X X w h).m ?_;rintro e u ⟨rfl,k,os,rfl⟩;have g:Lib.itoa n=Xs n:=by
  unfold Lib.itoa Xs;by_cases a:n<0
  .rw[Ye a,Ye a,Hj];rfl
  .rw[Yd a,Yd a,Hj]
 refine⟨_,C,I ?_,?_,?_⟩
 .assumption
 .show(Lib.itoa n).toArray.size<=_;simp_all
 .exact⟨C,C,C,Sm,λk f=>by simp[Go.Sort.grow,World.drewN,J9,f]⟩
theorem Xz.size{c:Nat}(h:Xz w a n c tx qs):tx.size<=108018:=by
 rw[<-Zb,h.txt];exact h.wf.len
def Sn(t:Int)(is:List YG):LB:=Xs t++((is.map YG.el).map QO).flatten
theorem qV{l:List YG}:Sn t (l++[s])=Sn t l++QO s.el:=by
 unfold Sn;simp
theorem sT(c:(Yy s.labs).length<=108018)(a:YC s.v):(QO s.el).length<=1000108030:=by
 have:=Nr _ a;show([32,123]++Yy s.labs++[125]++Xs s.v).length<=_;simp_all;omega
theorem Bc{t:Int}(a:YC t):∀is:List YG,(∀i∈is,(Yy i.labs).length<=108018/\YC i.v)->(Sn t is).length<=1000000002+1000108030*is.length
 |[],_=>by have:=Nr t a;simpa [Sn]using this
 |s::is,h=>by
  have d:=Bc a _ λi c=>h i<|Vf _ c;have f:=sT (h s<|Sm).1 (h s<|Sm).2;have e:(Sn t<|s::is).length=(Sn t is).length+(QO s.el).length:=by
   unfold Sn;simp only[Wb,List.flatten_cons,Yx];omega
  simp_all;omega
theorem qW(t:Int)(L:YC t)(v:F)(n:Int)(w:Y)(hv:Vq w v<|.inl n)(M:Vv w)(O:20<=w.heap.size):
 CP 48 #[E t,v] w λe u=>∃r:BA,e=.returned (.string r)/\U (bl r=U8 t (.inl n))/\r.size<=40000000000/\BW w u:=by
 have HP:=I M;have g:=I O;have HT:=I L;clear M O L;obtain⟨rfl,o⟩:=hv;have HN:=I o;have h1:=QM<|E n;clear o;go_enter func48,ntmps48;go_wp2_with fail;refine Zv λW K=>?_;have c:Below _ w W:=K▸Yc;have p:U<|WB W _ _ []:=I ⟨.inl ⟨Yj _,.slice _ 0 0,K▸YO,⟨C,.inl ⟨C,C⟩⟩,by simp[Value.ownBlock]⟩,c.size⟩;have d:=I c;have h:=I<|HP.low c g;clear K c;refine(Jg h t HT).m ?_;rintro e w1 ⟨s1,rfl,P,a1,f⟩;have q:=I<|p.below f;have s:=I<|d.trans<|f.mono d.size;have A:=I<|h.low f<|by have:=g.o;have:=d.size;omega
 clear f p d h;go_wp2_with fail;refine(Jx q _<|by simp;omega).m ?_;rintro e w2 ⟨rfl,B,D⟩;have i:=I<|s.trans D.low;have Q:=I<|A.low D.low g;clear q s A;go_wp2_with fail;refine(Jg Q n HN).m ?_;rintro e w3 ⟨s3,rfl,R,a2,j⟩;have S:=I<|B.below j;have T:=I<|i.trans<|j.mono i.size;clear j B i;have k:U<|(⟨#[32]⟩++s3).size=1+s3.size:=by rw[Y9];rfl
 have G:U<|bl (⟨#[32]⟩++s3)=[32]++Xs n:=by rw[Ov,R];rfl
 go_wp2_with fail;generalize(⟨#[32]⟩++s3:BA)=x at k G⊢;have a3:x.size<=1000000003:=by have:=k.o;omega
 clear k;refine(Jx S x<|by have b:([]++bl _).length=s1.size:=(by rw[O9,Zb]);omega).m ?_;rintro e w4 ⟨rfl,l,H⟩;have V:=I<|T.trans H.low;have Z:U<|[]++bl s1++bl x=U8 t (.inl n):=by rw[G,P];show[]++Xs t++([32]++Xs n)=Xs t++[32]++Xs n;simp
 have m:U<|([]++bl s1++bl x).length<=40000000000:=I<|by have b:([]++bl s1++bl x).length=s1.size+x.size:=(by rw[O9,Yx,Zb,Zb]);omega
 generalize[]++bl s1++bl x=z at l Z m;go_wp2_with fail;refine(Builder_String_any_f _ _ _ _ l.bd l.le).m ?_;rintro e w5 ⟨rfl,_,J⟩;have a0:=I<|V.trans J;clear J H;go_wp2;go_ret;exact⟨_,C,I<|by rw[U9,Z],by have a:=m.o;rw[<-Oj]at a;exact a,a0⟩
theorem qX(t:Int)(ht:YC t)(v:F)(l:List El)(w:Y)(hv:Vq w v<|.inr l)(hn:WG 30<|.inr l)(hp:Vv w)(hB:20<=w.heap.size):
 CP 48 #[E t,v] w λe u=>∃r:BA,e=.returned (.string r)/\U (bl r=U8 t (.inr l))/\r.size<=40000000000/\BW w u:=by
 have HP:=I hp;have P:=I hB;have HT:=I ht;clear hp hB ht;obtain⟨s,is,rfl,j⟩:=hv;have b6:is.length<=30:=j.len'▸hn.2;obtain⟨ra,rcp,rfl⟩:=Zd j.row;have O:=I j;have Q:U<|∀k,(Sn t<|is.take k).length<=40000000000-2000000000:=I λk=>by
  have:=Bc HT (is.take k) λi hi=>⟨(j.ok i<|MX hi).lb.wf.len,(j.ok i<|MX hi).vok⟩;rw[Xw]at this;omega
 have h1:=QN<|.slice ra is.length rcp;have h2:=RO<|.slice ra is.length rcp;clear hn j;go_enter func48,ntmps48;go_wp2_with fail;refine Zv λW q=>?_;have d:Below _ w W:=q▸Yc;have o:U<|WB W _ _ []:=I ⟨.inl ⟨Yj _,.slice _ 0 0,q▸YO,⟨C,.inl ⟨C,C⟩⟩,by simp[Value.ownBlock]⟩,d.size⟩;have f:=I d;have R:=I<|HP.low d P;clear q d;refine(Jg R t HT).m ?_;rintro e w1 ⟨s1,rfl,a7,b7,D⟩;have S:=I<|o.below D;have T:=I<|f.trans<|D.mono f.size;clear D o f R;go_wp2_with fail;refine(Jx S _<|by simp;omega).m ?_;rintro e z ⟨rfl,V,Z⟩;have a8:=I<|T.trans Z.low;have a6:U<|WB _ _ _<|Sn t []:=I<|by have:=V.o;rw[a7]at this;simpa [Sn]using this
 clear S T V Z;go_wp2;go_loopw [26] (λi wr=>∃k:Nat,k<=is.length/\i=E k/\U (WB wr w.heap.size w.heap.size<|Sn t<|is.take k)/\U (BW w wr)) (λi _=>is.length-(intOf i).toNat);case atStart=>exact⟨0,Yr _,C,a6,a8⟩
 case round=>
  rename Y=>wo;obtain⟨k,hk,rfl,p,G⟩:=hrel;have a9:=G.size;by_cases H:k<is.length
  .have hg:∃g,ra=some ⟨g,0,none⟩:=by
    obtain⟨g,cp',h⟩:=Zm O.row X;injection h with h1;exact⟨g,h1⟩
   obtain⟨vg,rfl⟩:=hg;have A:=I<|Ze O.row G;obtain⟨f1,f2,f3⟩:=OB _ k H;have d1:=Zc A _ _ f1;have d2:=Zc A _ _ f2;have d3:=Zc A _ _ f3;have J:=I<|O.ok _<|List.getElem_mem H;have b0:U<|Sn t _=Sn t _++QO _:=List.take_succ_eq_append_getElem H▸qV;generalize is[k]=s at*;have b8:=J.lb.size;have q1:¬9223372036854775807<2+s.tx.size:=X;have q2:¬9223372036854775807<2+s.tx.size+1:=X;clear f1 f2 f3 A;have b9:(k:Int)<(is.length):=X;go_upto_region 12 with fail;refine Zs λW q=>?_;have d:Below _ _ W:=q▸Yc;have K:U<|Ya W _ [.slice _ _ _,.string _,.int _ _] 223:=q▸YO;have o:=I<|p.below d;have f:=I<|G.trans<|d.mono a9;clear q d d1 d2 d3 p G;have a0:=f.size;have x0:=K.cell 0;have x1:=K.cell 1;have x2:=K.cell 2;simp only[Yf]at x0 x1 x2;have L:U<|∀u,Ya u wo.heap.size [.slice s.a s.n s.c,.string s.tx,E s.v] 223->u.cell? _=some _/\u.cell? _=some _/\u.cell? _=some _:=I λu h=>⟨h.cell 0,h.cell 1,h.cell 2⟩;go_region_held3 (λu=>u.cell? ⟨wo.heap.size,0,none⟩=some (.slice s.a s.n s.c)/\u.cell? ⟨wo.heap.size,1,none⟩=some (.string s.tx)/\u.cell? ⟨wo.heap.size,2,none⟩=some (E s.v)) (first|exact⟨x0,x1,x2⟩|exact L.o _ b1.o|exact L.o _ a1.o|exact L.o _ b2.o|go_keep) (first
    | (go_at_call 94;refine(Mt).m ?_;rintro e w5 ⟨rfl,o5,a2⟩;have m:U<|BW W w5:=I<|by rw[a2];exact((Ym _ _).drew).alloc (Yj _) _
       have b2:=I<|K.below m.o;clear a2)
    | (go_at_call 93;refine(Jg (HP.low (f.trans<|m.mono a0) P.o) s.v J.vok).m ?_;rintro e w6 ⟨s6,rfl,b3,c0,a3⟩;have B:U<|BW W w6:=I<|m.trans<|a3.mono m.size;have a1:=I<|K.below B.o;have x:U<|(⟨#[32,123]⟩++s.tx++⟨#[125]⟩++s6:BA).size=2+s.tx.size+1+s6.size:=I<|by rw[Y9,Y9,Y9];rfl
       have M:U<|bl (⟨#[32,123]⟩++s.tx++⟨#[125]⟩++s6:BA)=QO s.el:=I<|by
        rw[Ov,Ov,Ov,b3.o,J.lb.txt];rfl
       have q3:¬9223372036854775807<2+s.tx.size+1+s6.size:=X;clear a3)
    | (go_at_call 92;generalize(⟨#[32,123]⟩++s.tx++⟨#[125]⟩++s6:BA)=x6 at x M⊢;have c1:x6.size<=1000108030:=(by have:=x.o;omega);clear x;refine(Jx (o.below B.o) x6<|by have:=Q.o k;omega).m ?_;rintro e w7 ⟨rfl,c2,a4⟩;have b1:U<|Ya w7 wo.heap.size [.slice s.a s.n s.c,.string s.tx,E s.v] 223:=I<|WK.bat (o.below B.o) a4.o a1.o N N));have b4:U<|WB w7 w.heap.size w.heap.size<|Sn t<|is.take<|k+1:=by rwa [b0.o,<-M.o]
   have b5:=I<|(f.trans<|B.mono a0).trans a4.low;go_wp2;go_roundw;case rel=>exact⟨k+1,X,by go_num,b4,b5⟩
   case measure=>simp[intOf];omega
  .obtain rfl:k=is.length:=X;rw[X1]at p;have HE:U<|Sn t is=U8 t (.inr l):=by unfold Sn;rw[O.els];rfl
   go_wp2_with fail;refine(Builder_String_any_f _ _ _ _ p.bd p.le).m ?_;rintro e w5 ⟨rfl,_,a5⟩;have m:=I<|G.trans a5;clear a5;go_wp2;go_ret;exact⟨_,C,I<|by rw[U9,HE],by have a:=Q is.length;rw[X1,<-Oj]at a;exact Xb a X,m⟩
theorem nN(a:YC t)(V:VV)(c:Vq w v V)(g:WG 30 V)(d:Vv w)(f:20<=w.heap.size):
 CP 48 #[E t,v] w λe u=>∃r:BA,e=.returned (.string r)/\U (bl r=U8 t V)/\r.size<=40000000000/\BW w u:=by
 cases V with
 |inl n=>exact qW t a v n w c d f
 |inr l=>exact qX t a v l w c g d f
theorem oo(h:w.ownsRow B 9 1 v bs.length<|TE bs)(m:bs.length<=50)(o:∀b∈bs,b.size<=40000000000):
 CP 52 #[v,.string ⟨#[10]⟩] w λe u=>∃s:BA,e=.returned (.string s)/\U (bl s=VX (bs.map bl))/\BW w u:=by
 by_cases d:bs.length=0
 .obtain⟨la,lc,rfl⟩:=Zd h;rw[d];refine(strings_Join_none la lc ⟨#[10]⟩ w).m ?_;rintro e u ⟨rfl,rfl⟩;have:bs=[]:=Qq d;subst this;exact⟨_,C,I C,Ym _ _⟩
 .obtain⟨g,lc,rfl⟩:=Zm h X;have f:Lib.join (bs.map (·.data.toList)) [10]=VX (bs.map bl):=CW _;have i:=CX (n:=40000000000) (bs.map bl) λx l=>by obtain⟨b,k,rfl⟩:=XK.1 l;rw[Zb];simp_all
  rw[Yz]at i;have a:(VX<|bs.map bl).length<=140737488355328:=X;have c:bs.length<=lc:=by
   rcases h.2 with⟨e,_⟩|⟨g',cap,cur,e,_,_,p,_⟩
   .cases e
   .simp_all
  rw[<-f]at a;refine(strings_Join g 0 lc bs ⟨#[10]⟩ w ?_ (ZN h) X c a).m ?_
  .intro j x f;rw[SI];exact Zc h j _<|by show(bs.map Value.string)[j]?=_;simp_all
  .rintro e u ⟨rfl,k⟩;exact⟨_,C,I<|by assumption,k⟩
def MO(A:Nat->Addr)(o:Option<|List (LB)×Nat)(r:BA)(err:F):Prop:=match o with
 |none=>r=⟨#[]⟩/\err=.iface 469 (.pointer<|some<|A 12)
 |some z=>bl r=VX z.1/\err=.nilIface
theorem nh(j:Nat)(y:Cl)(c:UW.jx.getD j none=some y):False:=by
 have d:(List.replicate 16 (none:Option Cl)).getD j none=none:=by rw[Y0,O4];split<;>rfl
 have a:=c;unfold UW at a;rw[d]at a;cases a
structure X7 (w0 w:Y)(mb x gb gx:Nat)(c0 c1 c2 c3 al:F)(t:Int)(sa:Option Addr)(sn sc:Nat)(vs:List F):Prop where
 st:Un w w0.heap.size mb c0 c1 c2 c3 al t (.map<|some x) (Vp gb) sa sn sc vs
 mp:∃gs es cl,XJ w x gs es cl
 gr:Ya w gb [.map<|some gx] 306
 gm:XO w gx
 bel:BW w0 w
 lm:w0.heap.size<=mb
 lx:w0.heap.size<=x
 lg:w0.heap.size<=gx
 ne:x≠gx
theorem YE.idle{a:Y}(h:YE w0 a w mb x gb gx c0 c1 c2 c3 al t ser m sa sn sc vs):X7 w0 w mb x gb gx c0 c1 c2 c3 al t sa sn sc vs.reverse:=by
 obtain⟨gs,es,cl,c,_⟩:=h.slo;exact⟨h.st,⟨gs,es,cl,c⟩,h.gr,h.gm,h.bel,h.lm,h.lx,h.lg,h.ne⟩
theorem X7.below(h:X7 w0 w mb x gb gx c0 c1 c2 c3 al t sa sn sc vs)(a:BW w w'):X7 w0 w' mb x gb gx c0 c1 c2 c3 al t sa sn sc vs:=by
 obtain⟨gs,es,cl,c⟩:=h.mp;exact⟨h.st.below a,⟨gs,es,cl,c.moved<|a.block x (Xr.1 c.heap).1⟩,h.gr.below a,h.gm.below a,h.bel.trans<|a.mono h.bel.size,h.lm,h.lx,h.lg,h.ne⟩
theorem X7.grown(h:X7 w0 w mb x gb gx c0 c1 c2 c3 al t sa sn sc vs)(a:w.ownsRow w0.heap.size 9 1 v n xs)(c:w.grownBy w' v.ownBlock):X7 w0 w' mb x gb gx c0 c1 c2 c3 al t sa sn sc vs:=by
 obtain⟨gs,es,cl,d⟩:=h.mp;obtain⟨es2,cl2,e⟩:=h.gm;exact⟨⟨h.st.box.ownGrownR a c N,GN h.st.own a c N,h.st.len⟩,⟨gs,es,cl,d.moved<|c.block x (Xr.1 d.heap).1<|Fv d.heap a⟩,h.gr.ownGrownR a c N,⟨es2,cl2,(c.block _ (Xr.1 e).1<|Fv e a).trans e⟩,h.bel.grown c h.bel.size λq f=>(a.lt q f).1,h.lm,h.lx,h.lg,h.ne⟩
theorem X7.begun{t2:Int}(h:X7 w0 w mb x gb gx c0 c1 c2 c3 al t sa sn sc vs)(ser:List YY)(i:Un w' w0.heap.size mb c0 c1 c2 c3 al t2 (.map<|some x) (Vp gb) sa 0 sc [])(l:XJ w' x [] #[] cl)(f:w'.os=w.os/\w'.tape=w.tape/\w'.output=w.output/\w.heap.size<=w'.heap.size/\∀k,k≠mb->k≠x->w'.heap[k]?=w.heap[k]?):YE w0 w w' mb x gb gx c0 c1 c2 c3 al t2 ser UW sa 0 sc []:=by
 obtain⟨k1,k2,k3,k4,k5⟩:=f;obtain⟨es,cg,g⟩:=h.gm;obtain⟨_,es0,cl0,m⟩:=h.mp;have a:V6 w _:=λb c T fr n _ d=>(k5 b (λe=>by
  rw[e]at d;have:=d.symm.trans h.st.box;injection this with this;injection this with _ this _;exact n this) λe=>Fu m.heap d e.symm).trans d;exact⟨i,⟨[],#[],cl,l,λj y a=>(nh j y a).elim⟩,a _ _ _ _ N N h.gr,⟨es,cg,(k5 _ (Fu g h.st.box) λe=>h.ne e.symm).trans g⟩,trivial,⟨k1.trans h.bel.os,k2.trans h.bel.tape,k3.trans h.bel.output,Xb h.bel.size k4,λk f=>(k5 k (by have:=h.lm;omega)<|by have:=h.lx;omega).trans<|h.bel.block k f⟩,h.lm,h.lx,h.lg,h.ne,a⟩
theorem ig{co:Yb}(L:List Ah){ts:List Int}{fuel:Int}{tv:F}(A:Nat->Addr)(mx:Int)(hv:YD w A mx)(hc:Vo w co ss c0 c1 c2 c3 al)(g8:T7 co)(g9:VB co L)(m1:co.jz.length<=65535)(d0:∀x∈co.jz,x.1<=13/\x.2<65536)(p4:ts.length<=50)(i1:∀t∈ts,-1000000<=t/\t<=1000000)(a9:w.ownsRow 0 3 1 tv ts.length<|ts.map<|Value.int .i64)(hp:Vv w)(hB:20<=w.heap.size):
 CP 25 #[.agg #[c0,c1,c2,c3],al,tv,E fuel] w λe w'=>∃r err,e=.returned (.tuple #[.string r,err])/\U (MO A (if fuel<0\/1000000<fuel then none else VK (ss.map YU.ser) co fuel.toNat ts) r err)/\BW w w':=by
 obtain⟨i0,hi,i2,i3,i4⟩:=Xv Tryz.infoStrG;obtain⟨ta,tcp,rfl⟩:=Zd a9;obtain⟨aa,acp,rfl⟩:=Zd hc.sto.row;obtain⟨ia,ic,rfl⟩:=Zd hc.cod.is;have HV:=I hv;have HC:=I hc;have m2:=I g8;have K:=I g9;have l3:=I d0;have m3:=I i1;have d2:=I a9;have HP:=I hp;have i5:=I hB;have g12:w.cell? ⟨12,0,none⟩=some _:=hv.sent _ N;have d3:=Xi _ _ g12;simp only at d3;have l4:¬w.heap.size=12:=X;have g6:¬12=w.heap.size:=X;clear hv hc g8 g9 d0 i1 a9 hp hB;generalize ho:(if fuel<0\/1000000<fuel then none else VK (ss.map YU.ser) co fuel.toNat ts)=o;have R:=I ho;clear ho;go_enter func25,ntmps25;go_wp2;go_step3;by_cases b5:fuel<0\/1000000<fuel
 .have i6:U<|o=none:=I<|by rw[<-R,Ye b5]
  clear R;rcases b5 with hf|hf
  .go_wp2;go_region;all_goals(try go_wp2)
   all_goals((try rw[QQ]);go_ret2;exact⟨_,_,C,I<|i6.o▸⟨C,C⟩,Yh⟩)
  .have m4:¬fuel<0:=X;go_wp2;go_region;all_goals(try go_wp2)
   all_goals((try rw[QQ]);go_ret2;exact⟨_,_,C,I<|i6.o▸⟨C,C⟩,Yh⟩)
 .rw[Yd b5]at R;obtain⟨fu,rfl⟩:∃fu:Nat,fuel=fu:=⟨fuel.toNat,X⟩;have l5:fu<=1000000:=X;have m4:¬(fu:Int)<0:=X;have i7:¬(1000000:Int)<(fu):=X;have p5:¬1000000<fu:=X;clear b5;rw[Int.toNat_natCast]at R;go_wp2_with fail;refine Zv λW hW=>?_;have i8:Below _ w W:=hW▸Yc;have d4:U<|Ya W _ _ 80:=hW▸(show Ya _ _ _ _ from YO);have B:=I i8;clear hW i8;refine(jP W W.heap.size).m ?_;rintro e w1 ⟨mb,rfl,Q⟩;have m5:=I<|d4.below Q.below;obtain⟨x,gb,gx,i9,a4,j0,j1,lx,lgb,lgx,d5⟩:=Q.ex;have d6:U<|X7 W _ _ x _ _ _ _ _ _ _ 0 _ 0 0 _:=I ⟨i9,⟨_,_,_,a4⟩,j0,j1,Q.below,Q.old,lx,lgx,d5⟩;clear i9 a4 j0 j1 lx lgb lgx d5 Q;have d7:=I<|HC.below B;have a3:=I<|Ze d2 B;have m6:=I<|HV.below B;have m7:=I<|HP.low B i5;have j2:=I<|Xb i5 B.size;have d8:=I d4.o;clear HC d2 HV HP d4 m5 g12 d3 l4 g6;have j3:=d6.bel.size;go_wp2_with(at_make;refine Kw _ C _ _ 57 C W.heap.size 9 i0 _ 1 underlying57 hi i2 i3 _ _ _ ts.length C C C ?b2 ?b3 ?b4 ?_);case b2=>rw[i4];omega
  case b3=>unfold maxLen;omega
  case b4=>exact j3
  intro w2 b6 j;have j4:Below _ _ _:=⟨j.os,j.tape,j.output,j.size,λk hk=>j.block k hk<|Sm⟩;have d9:=I<|d6.below j4;have j5:=I b6;clear j4 j b6 d6 j3;obtain⟨n,hn⟩:∃n,n=co.jz.length:=⟨_,C⟩;have Q:=I hn;rw[<-hn]at m1;rw[<-hn]at d9 d8⊢;have m8:U<|W.ownsRow 0 137 2 (.slice ia n ic) n<|SP co.jz:=I<|by rw[hn];exact d7.cod.is
  have b7:U<|Vo W co ss c0 c1 c2 (.slice ia n ic)<|.slice aa ss.length acp:=I<|by rw[hn];exact d7.o
  clear hn d7;generalize w.heap.size=xb at d8⊢;go_wp2;go_step3;go_wp2;go_loopw [3,11,31] (λfv lv kv wr=>∃(k fk:Nat)(rs:List BA)(t:Int)(sa:Option Addr)(sn sc:Nat)(vs:List F),k<=ts.length/\kv=E k/\fv=E fk/\fk<=1000000/\rs.length=k/\U (wr.ownsRow W.heap.size 9 1 lv rs.length<|TE rs)/\U (VK (ss.map YU.ser) co fu (ts.take k)=some (rs.map bl,fk))/\U (∀r∈rs,r.size<=40000000000)/\U (X7 W wr mb x gb gx c0 c1 c2 (.slice ia n ic) (.slice aa ss.length acp) t sa sn sc vs)) (λ_ _ kv _=>ts.length-(intOf kv).toNat);case atStart=>exact⟨0,fu,[],0,_,_,_,_,Yr _,C,C,l5,C,j5,I C,I (λr hr=>by cases hr),d9⟩
  case round=>
   clear d9 j5;obtain⟨k,fk,rs,t,sa,sn,sc,vs,hk,rfl,rfl,m9,j6,HO,e0,HZ,HD⟩:=hrel;have S:=I j6;clear j6;by_cases e1:k<ts.length
   .obtain⟨tg,tcp',n0⟩:=Zm a3.o X;injection n0 with htg1 _ htg2;subst htg1 htg2;have d1:=Zc (Ze a3 HD.bel) k _<|by rw[Vs,List.getElem?_eq_getElem e1];rfl
    have e2:=I<|m3 _<|List.getElem_mem e1;have a5:U<|VK (ss.map YU.ser) co fu (ts.take<|k+1)=match Xf (ss.map YU.ser) ts[k] co fk 0 UW with
     |none=>none
     |some z=>some (rs.map bl++[U8 ts[k]<|TJ z.2],z.1):=by rw[List.take_succ_eq_append_getElem e1,Ji,e0];rfl
    generalize ts[k]=tm at*;have p6:(k:Int)<(ts.length):=X;have n2:=ZN<|Ze a3 HD.bel;go_wp2;go_step3;go_wp2_with fail;obtain⟨gs,es,cl,a4⟩:=HD.mp;refine(lC x t HD.st a4).m ?_;rintro e w4 ⟨rfl,j7,j8,j9⟩;have e4:=I<|HD.begun (ss.map YU.ser) j7 j8 j9;have n3:=I<|e4.ky.own HO N N;have k0:=I e4.re;clear j7 j8 j9 e4 a4 HD HO d1 n2 e0;go_wp2;go_step3;go_wp2;obtain⟨L3,e5⟩:∃L3,L3=u11:=⟨_,C⟩;go_loopw [3,11,14] (λfv lv iv wq=>∃(i f1:Nat)(m:MQ)(sa1:Option Addr)(sn1 sc1:Nat)(vs1:List F),lv=L3/\i<=n/\iv=E i/\fv=E f1/\f1<=1000000/\U (Xf (ss.map YU.ser) tm co fk 0 UW=Xf (ss.map YU.ser) tm co f1 i m)/\U ((L.getD i Ys).kj=true/\YV (ss.map YU.ser).length (L.getD i Ys).jy (L.getD i Ys).jx m/\m.jy.length<=64)/\U (YE W wq wq mb x gb gx c0 c1 c2 (.slice ia n ic) (.slice aa ss.length acp) tm (ss.map YU.ser) m sa1 sn1 sc1 vs1)/\U (wq.ownsRow W.heap.size 9 1 L3 rs.length<|TE rs)) (λ_ _ iv _=>n-(intOf iv).toNat);case atStart=>exact⟨0,fk,UW,sa,0,sc,[],e5.symm,Yr _,C,C,m9,I C,I ⟨(K.start (ss.map YU.ser).length).1,(K.start _).2,Yr _⟩,k0,by rwa [e5]⟩
    case round=>
     clear k0 n3;obtain⟨i,f1,m,sa1,sn1,sc1,vs1,e3,p7,rfl,rfl,i7,T,c,d,l⟩:=hrel;subst e3;subst e5;obtain⟨la,lc,rfl⟩:=Zd l;have V:=I<|B.trans<|d.bel.mono B.size;have e6:=I<|d8.below d.bel;have b3:=e6.cell;have k1:=e6.lt;have s:=I<|Ze m8 d.bel;clear e6;by_cases p8:i<n
     .have D:i<co.jz.length:=by rwa [<-Q.o]
      cases f1 with
      |zero=>
       have HX:=I<|zp<|by rw[a5,T,BK D]
       have g12:wr.cell? ⟨12,0,none⟩=some _:=(m6.below d.bel).sent _ N;have l6:¬((i:Int)=(n)):=X;have n4:(rs.length:Int)<(ts.length):=by have:=S.o;omega
       clear T c d s l a5;go_wp2;rw[Exit.noGoto_exit];go_wp2;go_region;all_goals(try go_wp2)
       all_goals((try rw[QQ]);go_ret2;exact⟨_,_,C,I<|R.o▸HX.o▸⟨C,C⟩,V.drew⟩)
      |succ f2=>
       have d5:¬(((f2+1:Nat):Int)=0):=X;have p2:¬(((f2:Int)+1)=0):=X;have l6:¬((i:Int)=(n)):=X;have p9:(i:Int)<(n):=X;obtain⟨op,arg,b8⟩:∃op arg,co.jz[i]?=some (op,arg):=⟨_,_,List.getElem?_eq_getElem D⟩;have b9:co.jz.getD i (0,0)=(op,arg):=by rw[Y0,b8];rfl
       have k2:co.jz[i]=(op,arg):=(Og.1 b8).2;have e7:=(l3.o (op,arg)<|QW b8).1;obtain⟨_,st1,sl1,b0,_,_⟩:=K.step i D c.1;have f:=K.next b7.dst tm D (b9▸e7) c.1 c.2.1;have b1:=K.len b7.dst tm D (b9▸e7) c.1 c.2.1 c.2.2;have e8:=K.fwd i D;have e9:=BJ (ss.map YU.ser) tm _ f2 i m D;rw[b9]at b0 f b1 e8 e9;have n5:(L.getD i Ys).jy.length<=64:=by rw[<-c.2.1.jy,Yz];exact c.2.2
       obtain⟨gi,ic',n6⟩:=Zm s.o X;injection n6 with hgi1 _ hgi2;subst hgi1 hgi2;have q0:=Zc s _ _ (Sz _ i D).1;have q1:=Zc s _ _ (Sz _ i D).2;rw[k2]at q0 q1;simp only at q0 q1;have l7:=ZN s;have p:U<|Xf _ _ _ _ 0 _=Xf _ _ _ f2 _ _:=I<|by rw[T,e9]
       have g:=I<|And.intro f.2.2.1<|And.intro f.2.2.2 b1;have a6:=f.1;have H:UH i _ m<=n:=Q.o▸f.2.1;have G:=I b0;have a7:=I e8;clear b0 f b1 e8 e9 b9 b8 T k2 s V a5;go_upto_region 15 with fail;refine Zs λW5 f0=>?_;have Z:Below _ _ _:=f0▸Yc;have a2:U<|Ya _ _ _ 137:=f0▸(show Ya _ _ _ _ from YO);have J:=I<|d.below Z;have c6:=I<|Ze l Z;clear f0 Z b3 k1 q0 q1 l7;generalize wr.heap.size=ab at*;have a0:=a2.cell 0;have a1:=a2.cell 1;simp only[Yf]at a0 a1;have f3:=a2.lt;by_cases h9:op=9
       .subst h9;have M:U<|Xf _ _ _ _ 0 _=Xf _ _ _ _ arg m:=p;have O:U<|(L.getD arg _).kj=true/\YV _ (L.getD arg _).jy (L.getD arg _).jx m/\m.jy.length<=64:=g;have q2:i<arg:=a6;have n7:arg<=n:=H;have q:=I J.re;clear p g a6 H d l J G a7 c;go_wp2;go_roundw;case rel=>exact⟨arg,f2,m,sa1,sn1,sc1,vs1,C,n7,C,by go_num,X,M,O,q,c6⟩
        case measure=>simp[intOf];omega
       .have q3:¬((op:Int)=9):=X;by_cases f4:op=10
        .subst f4;have n8:∃v ys,m.jy=.inl (.inr v)::ys:=by
          have hs:=G.o;have hT:=c.2.1;generalize(L.getD i Ys).jy=st at hs hT;cases st with
         |nil=>cases hs
         |cons kk r=>
          simp only[Zr]at hs;split at hs
          .rename_i n9;subst n9;obtain⟨y,rs',hm,hy,_,_⟩:=hT.pop;obtain⟨v,rfl⟩:=La hy;exact⟨v,rs',hm⟩
          .cases hs
         obtain⟨v,ys,hm⟩:=n8;obtain⟨v1,vs',n1,rfl,rfl,o0,f5⟩:=J.top hm;have l8:n1<=64:=by have:=c.2.2;rw[hm,Y1]at this;omega
         obtain⟨s1,is1,rfl,f6⟩:=o0;obtain⟨va,vc,rfl⟩:=Zd f6.row;have o1:=f6.len';clear f6;go_wp2_with fail;refine(lO (by have:=J.st;rwa [Se]at this) l8).m ?_;rintro e w6 ⟨rfl,c7⟩;have q:=I (J.below c7).re;have c8:=I<|Ze c6 c7;have k3:=I<|a2.below c7;clear c7 J c6 a2 a0 a1 f3;have a1:=k3.cell;have f3:=k3.lt;have c9:Mc m=!v.isEmpty:=by unfold Mc;rw[hm];rfl
         by_cases h0:is1.length=0
         .have f7:v=[]:=Qq X;have f:UH i (10,arg) m=i+1:=by unfold UH;simp only;rw[Yd N,Yd<|by rw[c9,f7];simp]
          rw[f]at p g H;have M:U<|Xf _ _ _ _ 0 _=Xf _ _ _ _ _ m:=p;have O:U<|(L.getD _ _).kj=true/\YV _ _ _ m/\m.jy.length<=64:=g;rw[Wl X];clear p g a6 d l G a7 c hm f c9;go_wp2;go_roundw;case rel=>exact⟨i+1,f2,m,_,_,_,_,C,H,by go_num,by go_num,X,M,O,q,c8⟩
          case measure=>simp[intOf];omega
         .have f7:v.isEmpty=false:=by
           cases v with
          |nil=>exact absurd o1.symm h0
          |cons a b=>rfl
          have f:UH i (10,arg) m=arg:=by unfold UH;simp only;rw[Yd N,Ye ⟨trivial,by rw[c9,f7];rfl⟩]
          rw[f]at p g H a6;have M:U<|Xf _ _ _ _ 0 _=Xf _ _ _ _ _ m:=p;have O:U<|(L.getD _ _).kj=true/\YV _ _ _ m/\m.jy.length<=64:=g;rw[WI X];clear p g d l G a7 c hm f c9;go_wp2;go_roundw;case rel=>exact⟨arg,f2,m,_,_,_,_,C,H,C,by go_num,X,M,O,q,c8⟩
          case measure=>simp[intOf];omega
        .have p3:¬((op:Int)=10):=X;have f:UH i (op,arg) m=i+1:=by unfold UH;simp only;rw[Yd h9,Yd λhh=>f4 hh.1]
         have k4:=I<|lD J b7 m2 e2.1 e2.2 e7 h9 f4 a7 c.2.1 n5 G;rw[f]at p g H;clear a6 d G a7 c J c6;go_wp2_with fail;refine k4.m ?_;rintro e w6 ⟨rfl,P⟩;obtain⟨sa6,sn6,sc6,vs6,f8⟩:=P.o;have c8:=I<|f8.ky.own l N N;have q:=I f8.re;clear f8 P k4 l a2 a0 a1 f3;go_wp2;go_roundw;case rel=>exact⟨i+1,f2,_,sa6,sn6,sc6,vs6,C,H,by go_num,by go_num,X,p,g,q,c8⟩
         case measure=>simp[intOf];omega
     .obtain rfl:i=n:=X;have k5:co.jz.length<=i:=Q.o▸Yj _;obtain⟨v,hv,k6⟩:=K.end_ (n:=(ss.map YU.ser).length) (m:=m)<|by have:=c.2.1;rw[Q.o]at this;exact this
      have f9:=WG.more (by rw[Yz];exact b7.sto.len) k6;have g0:TJ m=v:=by unfold TJ;rw[hv];rfl
      have k7:U<|VK _ _ _ _=some (rs.map _++[U8 _ v],f1):=I<|by rw[a5,T,BI k5,<-g0]
      have k8:=I f9;obtain⟨mst,msl⟩:=m;simp only at hv;subst hv;obtain⟨v1,vs',n1,rfl,rfl,_,f5⟩:=d.top C;have o2:n1<=64:=f5▸Yr _;clear c T k5 k6 f9 g0 a5 s f5 V;go_wp2_with fail;refine(OL _ _ _ _ (by have:=d.st;rwa [Se]at this) o2).m ?_;rintro e w6 ⟨rfl,q,g1⟩;have g2:=I (d.qx q g1).1;have k9:U<|Vq _ _ v:=I (d.qx q g1).2;have l0:=I<|g2.ky.own l N N;have P:=I g2.idle;clear q g1 d l g2 b3 k1;go_wp2_with fail;refine(nN (by have:=e2.o;unfold YC;omega) v k9 k8 (m7.low P.bel j2)<|Xb j2 P.bel.size).m ?_;rintro e w7 ⟨r7,rfl,l1,l2,g3⟩;have g4:=I<|Ze l0 g3;have g5:=I<|P.below g3;have o3:=I l2;have o4:=g5.bel.size;clear g3 l2 l0 P k9 k8;go_wp2_with(at_builtin;refine XC _ C (.tmp 43) (.tmp 48) 57 C W.heap.size 9 i0 (.string ByteArray.empty) 1 16 underlying57 hi i2 i3 i4 C N _ _ _ C (g4.alloc _) ⟨w7.heap.size,0,none⟩ 1 1 [.string r7] C C ?c1 ?c2 ?c3 ?c4 ?c5 ?_);case c1=>exact Z1 C
      case c2=>intro u hu;simp at hu;subst hu;rfl
      case c3=>have:=S.o;unfold maxLen;omega
      case c4=>have:=S.o;omega
      case c5=>simp;omega
      intro v8 w8 g7 a8 _;have o5:U<|w8.ownsRow W.heap.size 9 1 v8 (rs++[r7]).length<|TE<|rs++[r7]:=by rwa [H4,Yx]
      have o6:=I<|(g5.below Yc).grown (g4.alloc _) a8;have o7:U<|VK _ _ _ _=some ((rs++[r7]).map bl,f1):=I<|by rw[k7,Xa,PE,l1]
      have o8:U<|∀r∈rs++[r7],r.size<=40000000000:=I (λr hr=>by
       rcases Wk.1 hr with h|h
       .exact HZ r h
       .rw[Vr]at h;subst h;exact o3);clear a8 g7 k7 l1 g5 g4 o4;go_wp2;rw[Exit.noGoto_exit];go_wp2;go_roundw;case rel=>exact⟨k+1,f1,rs++[r7],tm,_,_,_,_,X,by go_num,C,i7,by have:=S.o;simp;omega,o5,o7,o8,o6⟩
      case measure=>simp[intOf];omega
   .obtain rfl:k=ts.length:=X;have l9:U<|VK (ss.map YU.ser) co fu ts=some (rs.map bl,fk):=by have:=e0.o;rwa [X1]at this
    obtain⟨la,lc,o9⟩:=Zd HO;subst o9;have n4:¬((rs.length:Int)<(ts.length)):=by have:=S.o;omega
    have m0:rs.length<=50:=by have:=S.o;omega
    have V:=I<|B.trans<|HD.bel.mono B.size;go_wp2_with fail;refine(oo HO m0 HZ).m ?_;rintro e w5 ⟨r5,rfl,p0,Z⟩;have p1:=I<|V.trans<|Z.mono V.size;clear Z;go_wp2;try rw[QQ]
    go_ret2;exact⟨_,_,C,I<|R.o▸l9.o▸⟨p0.o,C⟩,p1⟩
theorem Bh:∀(xs:List<|LB)(last:Int)(n m:Nat),Vk last n xs=some m->(∀x∈xs.map UJ,last<x.1)/\Ru (xs.map UJ)/\m=n+xs.length
 |[],last,n,m,h=>by
  simp only[Vk,QZ]at h;exact⟨(λx i=>by cases i),List.Pairwise.nil,by simp[h]⟩
 |x::xs,last,n,m,h=>by
  unfold Vk at h;cases c:Tw x with
  |none=>simp_all
  |some t=>
   rw[c]at h;simp only at h;split at h
   .cases h
   · rename_i k;obtain⟨i1,i2,i3⟩:=Bh _ t _ m h;have f:(UJ x).1=(t):=by
       unfold Tw at c;unfold UJ;cases j:cut 58 x with
    |none=>simp_all
    |some p=>
      obtain⟨a,d⟩:=p;rw[j]at c;simp only at c⊢;cases g:ZC 1000000 a with
     |none=>simp_all
     |some tm=>
      rw[g]at c;simp only at c;split at c
      .rw[RB g];simp_all
      simp_all
     refine⟨λy e=>?_,?_,by simp;omega⟩
     · rcases X0.1 e with rfl|e
       .omega
       .have:=i1 y e;omega
     .exact Re.2 ⟨λy e=>f▸i1 y e,i2⟩
theorem iI{z:LB}(h:VI z=some n):Ru (Qc z)/\(Qc z).length=n:=by
 unfold VI at h;cases z with
 |nil=>simp at h;exact⟨List.Pairwise.nil,by assumption⟩
 |cons c t=>
  by_cases a:(c==32)=true
  .have d:Z6 _ (c::t)=(t,true):=Ye a;rw[d]at h;simp only[reduceCtorEq,Q0,VE]at h;obtain⟨_,e,f⟩:=Bh _ _ _ _ h;exact⟨e,by simp[Qc,f]⟩
  .have d:Z6 _ (c::t)=(c::t,false):=Yd a;simp_all
theorem Fl{l nm d:LB}(h:Y3 l=some (nm,d,n)):Zx nm=true/\(Wp d).isSome=true/\Ru (Uw l)/\(Uw l).length=n:=by
 cases c:cut 123 l with
 |none=>rw[Ly c]at h;cases h
 |some p=>
  obtain⟨x,r⟩:=p;cases a:cut 125 r with
  |none=>rw[Mq c a]at h;cases h
  |some q=>
   obtain⟨y,z⟩:=q;rw[Mr c a]at h;split at h
   .rename_i e;rw[Vt]at e;cases f:VI z with
    |none=>simp_all
    |some k=>
     rw[f]at h;simp only[Wr,QZ,M1]at h;obtain⟨rfl,rfl,rfl⟩:=h;have:=iI f;rw[Bi e.1 c a];simp_all
   .cases h
theorem gP(h:w.ownsRow 0 315 2 (.slice sa n sc) n<|ZQ l)(f:l.length=n):XP w sa l/\n<=sc:=by
 by_cases a:l=[]
 .subst a;refine⟨.inl C,?_⟩;simp_all;omega
 .have r:0<n:=f▸QX.2 a;rcases h.2 with⟨_,e⟩|⟨g,cap,cur,e,_,k,m,_,_,o⟩
  .omega
  .injection e with e1 _ e3;subst e1 e3;refine⟨.inr ⟨g,0,C,cur,(0,0),k,λj p=>?_⟩,m⟩;have c:=Ls l j;rw[List.getElem?_eq_getElem p]at c;have d:∀i,i<n*2->cur[i]?=(ZQ l)[i]?:=λi q=>by
     rw[<-o,Ki,Ye q,QT]
   rw[SI,d _ X,d _ X];exact c
theorem sY(zs:List YU)(rs:List<|F×F×F×F)(d:rs.length=zs.length)(h:∀j (f:j<zs.length),rs[j]?=some (.string zs[j].nm,.slice zs[j].a zs[j].n zs[j].c,.string zs[j].tx,.slice zs[j].sa zs[j].jm.length zs[j].sc)):Sq zs=Uh rs:=by
 induction zs generalizing rs with
 |nil=>cases rs with
  |nil=>rfl
  |cons _ _=>simp at d
 |cons z zs ih=>
  cases rs with
  |nil=>simp at d
  |cons r rs=>
   have e:=h 0<|Sm;simp only[Qo,List.getElem_cons_zero,QZ]at e;subst e;rw[Uh,<-ih _ (by simp_all) λj f=>by have:=h (j+1) (by simp_all);assumption];rfl
theorem sB(rs:List<|F×F×F×F):(Uh rs).length=rs.length*4:=by
 induction rs with
 |nil=>rfl
 |cons r rs ih=>simp only[Uh,Y1,ih];omega
theorem nV{l:LB}{es:List Yn}(h:(ZG l).1=0)(a:ZT 0 [] (split 10 l)=.inr es):Ut [] es=none/\l.length<=6000:=by
 unfold ZG at h;split at h
 .cases h
 .rename_i c;rw[a]at h;simp only at h;rw[AC a]at h;cases hd:Ut [] es with
  |none=>simp_all
  |some i=>simp_all
theorem NL.sto{l:LB}(B:(ZG l).1=0)(h:NL w v l):∃ss:List YU,Up w v ss/\ss.map YU.ser=Qg l/\Sw (ss.map YU.ser)/\ss.length<=30:=by
 obtain⟨es,rs,q,T,D,r⟩:=h;obtain⟨hd,M⟩:=nV B q;have V:∀j (d:j<es.length),(es[j]).count<=6001:=λj d=>(Fo q (Sm) λp G=>by
  obtain⟨i,s,rfl⟩:=List.mem_iff_getElem.1 G;have:=OV _ l i s;simp_all;omega).2 _<|List.getElem_mem _;have O:rs.length=es.length:=by have:=D.1;rw[sB]at this;omega
 have u:=Gx (λj(z:YU)=>∃d:j<es.length,rs[j]?=some (.string z.nm,.slice z.a z.n z.c,.string z.tx,.slice z.sa z.jm.length z.sc)/\z.ser=Su (split 10 l) es[j]/\T9 w z) es.length (λj d=>by
  obtain⟨nm,a,n,c,tx,sa,sc,e1,⟨P,qs,g1,g2,g3,g4,g5⟩,e3⟩:=r j d;rw[e3]at g1;simp only[QZ,M1]at g1;obtain⟨b1,b2,_⟩:=g1;obtain⟨c1,c2,c3,c4⟩:=Fl e3;have W:n=qs.length:=by obtain⟨_,_,e⟩:=Zd g3.1;injection e
  obtain⟨s1,s2⟩:=gP g5 c4;have t:(qs.map Xt).length<=6001:=by rw[Yz];exact g3.2.1
  refine⟨⟨nm,a,n,c,tx,qs,sa,sc,Uw<|(split 10 l).getD (es[j]).at_ []⟩,d,?_,?_,?_⟩
  .simp_all
  .show(⟨bl nm,qs.map Xt,Uw<|(split 10 l).getD (es[j]).at_ []⟩:YY)=⟨(es[j]).name,(Wp (es[j]).inside).getD [],Uw<|(split 10 l).getD (es[j]).at_ []⟩;simp_all
  .exact⟨⟨by simp_all,by rw[g4];exact Fg qs,pj g2 t⟩,s1,c3,by simp_all,by simp_all,Bj⟩);obtain⟨zs,Q,f⟩:=u;have m:Qg l=es.map (Su<|split 10 l):=by unfold Qg;rw[q]
 have o:zs.map YU.ser=Qg l:=by
  rw[m];refine List.ext_getElem (by simp_all) λj R S=>?_;rw[List.getElem_map,List.getElem_map];exact(f j<|by simp_all).2.2.1
 refine⟨zs,⟨?_,λz H=>?_,X⟩,o,?_,X⟩
 .have:=sY _ _ X λj d=>(f j _).2.1;simp_all
 .obtain⟨j,d,rfl⟩:=List.mem_iff_getElem.1 H;exact(f j _).2.2.2
 .rw[o,m];unfold Sw;rw[Rx];refine NX ?_ (Hn _ _ hd).1;intro a b J K x A;obtain⟨i,s,rfl⟩:=List.mem_iff_getElem.1 J;obtain⟨k,L,rfl⟩:=List.mem_iff_getElem.1 K;obtain⟨_,_,_,_,_,_,_,_,_,e1⟩:=r i s;obtain⟨_,_,_,_,_,_,_,_,_,e2⟩:=r k L;obtain⟨n1,l1,_⟩:=Fl e1;obtain⟨n2,l2,_⟩:=Fl e2;obtain⟨p1,l1⟩:=MV.1 l1;obtain⟨p2,l2⟩:=MV.1 l2;refine x<|(He n1 n2).2 ⟨A.1,?_⟩;have g:=A.2;unfold Su at g;simp only[l1,l2,Qt]at g;rw[Jp l1,Jp l2]at g;exact g
theorem ZF.cells{p:Int}{a:Addr}(h:ZF w v p a):∃fa:Nat,v=.iface 92 (Vp fa)/\w.cell? ⟨fa,1,none⟩=some (E p)/\w.cell? ⟨fa,2,none⟩=some (.iface 469<|.pointer<|some a):=by
 obtain⟨fa,d,c⟩:=h;exact⟨fa,d,by simp[World.cell?,c],by simp[World.cell?,c]⟩
def Lc(w:Y)(A:Nat->Addr)(err:F)(c p:Nat):Prop:=
 (err=.nilIface/\c=0/\p=0)\/
 (err=.iface 469 (.pointer<|some<|A 0)/\c=1/\p=0)\/
 (err=.iface 469 (.pointer<|some<|A 3)/\c=4/\p=0)\/
 (err=.iface 469 (.pointer<|some<|A 6)/\c=7/\p=0)\/
 (err=.iface 469 (.pointer<|some<|A 7)/\c=8/\p=0)\/
 (∃fa:Nat,err=.iface 92 (Vp fa)/\w.cell? ⟨fa,1,none⟩=some (E p)/\
  ((c=2/\w.cell? ⟨fa,2,none⟩=some (.iface 469<|.pointer<|some<|A 1))\/
   (c=3/\w.cell? ⟨fa,2,none⟩=some (.iface 469<|.pointer<|some<|A 2))\/
   (c=5/\w.cell? ⟨fa,2,none⟩=some (.iface 469<|.pointer<|some<|A 4))\/
   (c=6/\w.cell? ⟨fa,2,none⟩=some (.iface 469<|.pointer<|some<|A 5))))
theorem Lc.rd{r:Except (Nat×Nat) Tr}{x:Nat×Nat}{pv:F}(f:r=.error x)(h:WT w (A 0) (A 1) (A 2) (A 3) r pv v):Lc w A v x.1 x.2/\∃ty u,v=.iface ty u:=by
 subst f;rcases h with⟨rfl,rfl⟩|⟨rfl,rfl⟩|⟨a,c⟩|⟨a,c⟩
 .exact⟨.inr<|.inl ⟨C,C,C⟩,_,_,C⟩
 .exact⟨.inr<|.inr<|.inl ⟨C,C,C⟩,_,_,C⟩
 .obtain⟨fa,rfl,d,e⟩:=c.cells;exact⟨.inr<|.inr<|.inr<|.inr<|.inr ⟨fa,C,d,.inl ⟨a,e⟩⟩,_,_,C⟩
 .obtain⟨fa,rfl,d,e⟩:=c.cells;exact⟨.inr<|.inr<|.inr<|.inr<|.inr ⟨fa,C,d,.inr<|.inl ⟨a,e⟩⟩,_,_,C⟩
theorem Lc.ld{r:Nat×Nat}(h:Q8 w A v r):(r.1=0/\v=.nilIface)\/(r.1≠0/\Lc w A v r.1 r.2/\∃ty u,v=.iface ty u):=by
 rcases h with⟨rfl,rfl⟩|⟨rfl,rfl⟩|⟨rfl,rfl⟩|⟨i,fa,rfl,rfl,a,c⟩|⟨i,fa,rfl,rfl,a,c⟩
 .simp
 .exact .inr ⟨Sm,.inr<|.inl ⟨C,C,C⟩,_,_,C⟩
 .exact .inr ⟨Sm,.inr<|.inr<|.inr<|.inl ⟨C,C,C⟩,_,_,C⟩
 .exact .inr ⟨Sm,.inr<|.inr<|.inr<|.inr<|.inr ⟨fa,C,a,.inr<|.inr<|.inl ⟨C,c⟩⟩,_,_,C⟩
 .exact .inr ⟨Sm,.inr<|.inr<|.inr<|.inr<|.inr ⟨fa,C,a,.inr<|.inr<|.inr ⟨C,c⟩⟩,_,_,C⟩
theorem eB(s:BA)(A:Nat->Addr)(m:Int)(w:Y)(a:YD w A m)(c:s.size<=maxLen):
 CP 23 #[.string s] w λe u=>∃sv err,e=.returned (.tuple #[sv,err])/\U (Q8 u A err<|ZG<|bl s)/\BW w u/\U ((ZG<|bl s).1=0->NL u sv (bl s)):=by
 by_cases h:s.size<=6000
 .exact gA s A m w a h
 .have e:ZG (bl s)=(1,0):=by unfold ZG;rw[Ye<|by rw[Zb];omega]
  rw[e];refine(gz s A m w a X c).m ?_;rintro e' u ⟨v,err,d,f,g⟩;exact⟨v,err,d,f,g,I λh=>by cases h⟩
