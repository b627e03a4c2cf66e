/- Parts. -/
import Derived.Test.YtcdgkkfipdoeeaaGreatDoorO18
set_option linter.all false
set_option maxRecDepth 100000
set_option maxHeartbeats 16000000
namespace Go.Proofs.YtcdgkkfipdoeeaaGreatDoor
open Go.RowKit LS Go.Proofs.Tryz
open Go.ChangeMaps (setBlock)
variable {es:Array MapEntry}{seen:Array Nat}{t tm:Int}{s:Itm}{l:LB}{gs:List GEn}{js:List Nat}{ss:List Srs}{c xs:List Value}{e:MapEntry}{B b cl clock gb j n x:Nat}{a aa:Option Addr}{nv sv tv v:Value}{W w w':World}
section
theorem ZnH(k:List Lab)(v:Int):∀(m:List Grp) (j:Nat) (a:j<m.length),m[j].1=k->(∀i (c:i<m.length),i≠j->m[i].1≠k)->addG k v m=m.set j (k,m[j].2++[v])
 | g :: m, 0, _, h, _ => by
   have e:g.1=k:=h;rw[addG,if_pos e];rfl
 | g :: m, j + 1, a, h, d => by
   have f:g.1≠k:=d 0 (by simp) Om;rw[addG,if_neg f,ZnH k v m j (by simpa using a) h (fun i c l=>d (i+1) (by simpa using c) Om)];rfl
theorem ZnJ(k:List Lab)(v:Int):∀(m:List Grp),(∀g∈m,g.1≠k)->addG k v m=m++[(k,[v])]
 | [],_=>rfl
 | g :: m, h => by
   rw[addG,if_neg (h g (by simp)),ZnJ k v m (fun z a=>h z (Yam _ a))];rfl
theorem MapG.push(h:MapG w x gs es clock)(c:x<W.heap.size)(g:GEn)(hg:g.tx.size<=maxLen)(d:∀e∈es.toList,e.key≠.string g.tx) :
  MapG (setBlock W x (.map (es.push ⟨.string g.tx,g.val,clock⟩) (clock+1))) x (gs++[g]) (es.push ⟨.string g.tx,g.val,clock⟩) (clock+1):=by
 refine⟨by simp[setBlock,c],MapKept.stamped_push h.stm d,?_,fun z a=>?_⟩
 ·rw[Yeu,Yaq,Yaq,h.kv];rfl
 ·rcases Yar.1 a with a|a
  ·exact h.sz z a
  ·rw[Yap]at a;subst a;exact hg
theorem MapG.mod(h:MapG w x gs es clock)(m:x<W.heap.size)(g:GEn)(hg:g.tx.size<=maxLen)(d:es.toList[j]?=some e)(k:e.key=.string g.tx) :
  MapG (setBlock W x (.map (es.modify j fun e=>{ e with key:=.string g.tx,val:=g.val }) clock)) x (gs.set j g) (es.modify j fun e=>{ e with key:=.string g.tx,val:=g.val }) clock:=by
 refine⟨by simp[setBlock,m],MapKept.stamped_modify h.stm j _ (fun _ _=>rfl) (fun e' _ c=>?_),?_,fun z f=>?_⟩
 ·rw[<-Yb2,d]at c;have:=Yax c;subst this;exact k.symm
 ·rw[Yd8,<-h.kv];refine Ycs (fun i=>?_);rw[Ya2,Yb2,Ybn,Ya0,Ya2,Yak,Ybl];by_cases a:j=i
  ·subst a;have l:j<es.size:=by have:=(Ycm.1 d).1;simpa using this
   rw[if_pos rfl,if_pos rfl,if_pos l,<-Yb2,d];rfl
  ·rw[if_neg a,if_neg a,<-Yb2]
 ·rcases Yck f with f|rfl
  ·exact h.sz z f
  ·exact hg
theorem ZsY(g:GEn){t0 t1 t2 t3 t4 t5:Int}(d:talC g.vals=[Vi t0,Vi t1,Vi t2,Vi t3,Vi t4,Vi t5]):g.val=.agg #[.slice g.a g.n g.c,.string g.tx,Vi t0,Vi t1,Vi t2,Vi t3,Vi t4,Vi t5]:=by
 unfold GEn.val;rw[d]
theorem ZwN(d:∀g∈gs,GEnOk w g){o:GEn}(f:LbOk w o.a o.n o.c o.tx o.qs)(v:Int) :
  (∀(j:Nat) (p:j<gs.length),gs[j].tx=o.tx->(∀i (k:i<gs.length),i≠j->gs[i].tx≠o.tx)->(gs.set j { o with vals:=gs[j].vals++[v] }).map GEn.grp=addG (o.qs.map blP) v (gs.map GEn.grp))/\
  ((∀g∈gs,g.tx≠o.tx)->(gs++[{ o with vals:=[v] }]).map GEn.grp=addG (o.qs.map blP) v (gs.map GEn.grp)):=by
 have key : ∀ g ∈ gs, g.qs.map _ = o.qs.map _ ↔ g.tx = o.tx := fun g hg => by
   constructor
   · intro h
     have e:=(d g hg).lb.txt;rw[h,<-f.txt]at e;exact(Zem e)
   · intro h
     refine ZnE (d g hg).lb.wf f.wf ?_;rw[<-(d g hg).lb.txt,<-f.txt,h]
 constructor
 ·intro j p q r
  rw [Yd8, ZnH _ v _ j (by rwa [Yak]) (by rw [List.getElem_map]; exact (key _ (List.getElem_mem _)).2 q) (fun i k l => by
    rw[Yak]at k;rw[List.getElem_map];exact fun e=>r i _ l ((key _ (List.getElem_mem _)).1 e)),List.getElem_map]
  rfl
 ·intro h
  rw [Yaq, ZnJ _ _ _ (fun g hg => by
    obtain⟨z,m,rfl⟩:=Ybe.1 hg;exact fun e=>h z m ((key z m).1 e))]
  rfl
theorem ZuD(h:w.heap[x]?=some (.map es clock))(T:TypeId):(Builtin.clear_ #[279] T #[.map (some x)]).run prog w=.ok (.tuple #[]) (setBlock w x (.map #[] clock)):=by
 simp[Builtin.clear_,run_underlying _,Ybt h,Ych _ h,Result.andThen,setBlock]
theorem ZyV(h:w.heap[x]?=some (.map es clock))(T:TypeId):(Builtin.len_ #[279] T #[.map (some x)]).run prog w=.ok (Vi es.size) w:=by
 simp[Builtin.len_,run_underlying _,Ybt h,Result.andThen];rfl
def gItm(op:Nat)(g:GEn):Itm:=⟨g.a,g.n,g.c,g.tx,g.qs,cutV (ZfI op g.vals)⟩
def gen0:GEn:=⟨none,0,0,⟨#[]⟩,[],[]⟩
def ZhS(es:Array MapEntry)(j:Nat):Nat:=(es.toList[j]?.map (·.born)).getD 0
structure Went (es:Array MapEntry) (n:Nat) (js:List Nat) (seen:Array Nat):Prop where
 nodup:js.Nodup
 lt:∀j∈js,j<n
 seen:seen.toList=js.map (ZhS es)
theorem ZqB(h:e∈(leftOf es seen).toList):e∈es.toList/\e.born∉seen.toList:=by
 unfold leftOf at h;rw[Ydu,Ycg]at h;refine⟨h.1,fun a=>?_⟩;have:=h.2;simp[Array.mem_toList_iff.1 a]at this
theorem ZxW(h:e∈(leftOf es seen).toList):(leftOf es (seen.push e.born)).size+1<=(leftOf es seen).size:=by
 have e1 : (leftOf es (seen.push e.born)).toList = (leftOf es seen).toList.filter (fun z => decide (z.born ≠ e.born)) := by
   unfold leftOf;rw[Ydu,Ydu,List.filter_filter];refine List.filter_congr (fun z _=>?_);simp[Bool.and_comm]
 have a:((leftOf _ _).toList.filter (fun z=>decide (z.born≠e.born))).length<(leftOf _ _).toList.length:=List.length_filter_lt_length_iff_exists.2 ⟨e,h,by simp⟩;rw[<-e1,Ybl,Ybl]at a;omega
theorem ZxV(h:(leftOf es seen).size=0):∀e∈es.toList,e.born∈seen.toList:=by
 intro e c;refine Yb6 fun d=>?_
 have a:e∈(leftOf es seen).toList:=by
  unfold leftOf;rw[Ydu,Ycg];refine⟨c,?_⟩;simp;exact fun f=>d (Array.mem_toList_iff.2 f)
 have:=Ya3 (by rwa [Ybl]);rw[this]at a;cases a
theorem Went.step(n:MapG w x gs es cl)(h:Went es gs.length js seen)(o:e∈(leftOf es seen).toList):∃j,j<gs.length/\es.toList[j]?=some e/\Went es gs.length (js++[j]) (seen.push e.born):=by
 obtain⟨p,q⟩:=ZqB o;obtain⟨j,f⟩:=Yd9 p;obtain⟨g,_⟩:=n.at f;have k:ZhS es j=e.born:=by unfold ZhS;rw[f];rfl
 have l:j∉js:=fun m=>q (h.seen▸Ybe.2 ⟨j,m,k⟩);refine⟨j,g,f,⟨?_,?_,?_⟩⟩
 ·rw[List.nodup_append];exact⟨h.nodup,by simp,fun a r b d=>by rw[Yap]at d;subst d;intro e';subst e';exact l r⟩
 ·intro i c;rcases Yar.1 c with c|c
  ·exact h.lt i c
  ·rw[Yap]at c;subst c;exact g
 ·rw[Yeu,Yaq,h.seen,Yco,k]
theorem Went.all(e:MapG w x gs es cl)(h:Went es gs.length js seen)(n:(leftOf es seen).size=0):js.Perm (List.range gs.length):=by
 rw[List.perm_ext_iff_of_nodup h.nodup List.nodup_range];intro j;rw[Yb9];refine⟨h.lt j,fun p=>?_⟩;have f:j<es.toList.length:=by rwa [Ybl,e.len]
 have g:=ZxV n _ (List.getElem_mem f);rw[h.seen]at g;obtain⟨i,k,l⟩:=Ybe.1 g;have o:=h.lt i k;have m:i<es.toList.length:=by rwa [Ybl,e.len]
 have d:ZhS es i=es.toList[i].born:=by unfold ZhS;rw[List.getElem?_eq_getElem m];rfl
 have a:=e.stm.2.1;rw[List.Nodup,Ybx,List.pairwise_iff_getElem]at a
 have:i=j:=by
  rcases Yev i j with c|c|c
  ·exact absurd (d.symm.trans l) (a i j _ _ c)
  ·exact c
  ·exact absurd (d.symm.trans l).symm (a j i _ _ c)
 rw[<-this];exact k
theorem ZEF (op : Nat)   (h : js.Perm (List.range gs.length)) : ((js.map fun j => gItm op (gs.getD j gen0)).map Itm.el).Perm ((gs.map GEn.grp).map (Zh7 op)) := by
  have a:=(h.map fun j=>gItm op (gs.getD j gen0)).map Itm.el;refine a.trans ?_
  have e : (List.range gs.length).map (fun j => gItm op (gs.getD j gen0)) = gs.map (gItm op) := by
    conv=>rhs;rw[<-Zwt gs gen0]
    rw[Yb1];rfl
  rw[e,Yb1,Yb1];exact List.Perm.refl _
theorem Zz0{e:TypeId}{sz:Nat}(h:w.ownsRow b e sz v n xs){q:Nat}{o:Obj}(d:w.heap[q]?=some o)(f:∀c t fr,o≠.cells c t fr):some q≠v.ownBlock:=by
 rcases h.2 with ⟨rfl,_⟩|⟨g,cp,cur,rfl,_,a,_⟩
 ·simp[Value.ownBlock]
 ·intro i;have hg:q=g:=by simpa [Value.ownBlock] using i
  subst hg;rw[d]at a;injection a with h3;exact f _ _ _ h3
theorem ZeU(a:x<W.heap.size)(o:Obj):(W.alloc o).heap[x]?=W.heap[x]?:=Below.heap_alloc _ _ _ a
theorem BAt.belX{a:Nat}{t:TypeId}(h:BAt w a c t)(d:BelX x w.heap.size w w')(e:a≠x):BAt w' a c t:=(d.block a h.lt e).trans h
theorem ZDx (l : List Int) (x : Int) (a : l.length <= 10000) (c : ∀ y ∈ l, vOk y) (d : vOk x) (t0 t1 t2 t3 t4 t5 r0 r1 r2 r3 r4 r5 : Int) (f : talC l = [Vi t0, Vi t1, Vi t2, Vi t3, Vi t4, Vi t5]) (g : talC (l ++ [x]) = [Vi r0, Vi r1, Vi r2, Vi r3, Vi r4, Vi r5])  : CP 206 #[.agg #[Vi t0, Vi t1, Vi t2, Vi t3, Vi t4, Vi t5], Vi x] w fun e u => e = .returned (.agg #[Vi r0, Vi r1, Vi r2, Vi r3, Vi r4, Vi r5]) /\ BW w u := by
  have h:=ZsT l x a c d w;unfold talV at h;rw[f,g]at h;exact h
theorem ZtY{a:Obj}{t:TypeId}:BAt ((w.alloc a).alloc (.cells ⟨c⟩ t)).drew (w.heap.size+1) c t:=by
 have:=Go.Deep.blk_alloc_new (w.alloc a) (.cells ⟨c⟩ t);rw[Go.Deep.nblk_alloc]at this;exact this
theorem ZtX{a:Obj}{t:TypeId}:BAt ((w.alloc (.cells ⟨c⟩ t)).alloc a).drew w.heap.size c t:=(Zbal.block _ (by simp)).trans bnw
theorem ZqW(gb x op:Nat)(v4:op<=3)(bs:List BA)(v:Value)(l:List El)(is:List Itm)(w:World)(c5:BAt w gb [.map (some x)] 281)(hx:MapX w x)(hn:w.ownsRow 0 9 1 nv bs.length (Zbc bs))(p8:bs.length<=100000)(hs:NmS bs)(hv:VecV w v l is) :
  CP 157 #[Vp gb,Vi op,nv,v] w fun e d=>∃v' is',e=.returned v'/\Hid (VecV d v' (Zcv op (bs.map bl) l) is'/\MapX d x)/\BelX x w.heap.size w d:=by
 obtain⟨i0,hi,j4,j5,j6⟩:=info_parts Tryz.infoItem;obtain⟨na,ncp,rfl⟩:=Zl hn;obtain⟨ra,rcp,rfl⟩:=Zl hv.row;obtain⟨es0,cl0,a7⟩:=hx;have HG:=hid c5;have p9:=hid a7;have HN:=hid hn;have HS:=hid hs;have HV:=hid hv;have v5:=hv.len;have q3:gb≠x:=by intro e;subst e;rw[c5]at a7;cases a7
 have j7:=(Yae.1 a7).1;have v7:=c5.lt;have v8:=c5.cell;have v2:=fun T=>ZuD a7 T;go_enter func157,ntmps157;go_wp2;obtain⟨w1,e3⟩:∃w1,w1=setBlock w x (.map #[] cl0):=⟨_,rfl⟩
 rw[<-e3];have q4:Hid (BelX x w.heap.size w _):=e3▸BelX.set _ _ _ _;have q5:Hid (MapG w1 x [] _ cl0):=hid ⟨by rw[e3];simp[setBlock,j7],MapKept.stamped_empty _,rfl,fun g hg=>by cases hg⟩;have q6:Hid (MapX w x):=hid ⟨es0,cl0,p9⟩
 go_loopw [22] (fun i wr => ∃ (k : Nat) (gs : List GEn) (es : Array MapEntry) (cl : Nat), k <= is.length /\ i = Vi k /\ gs.length <= k /\ Hid (MapG wr x gs es cl) /\ Hid ((∀ g ∈ gs, GEnOk wr g /\ g.vals.length <= k) /\ gs.map GEn.grp = grpV (bs.map bl) (l.take k)) /\ Hid (BelX x w.heap.size w wr))
   (fun i _=>is.length - (intOf i).toNat)
 case atStart=>exact⟨0,[],#[],cl0,Yag _,rfl,Yag _,q5,hid ⟨(fun g hg=>by cases hg),rfl⟩,q4⟩
 case round=>
  rename World=>wo
  obtain⟨k,gs,es,cl,hk,rfl,v9,U,E,HB⟩:=hrel;have e4:=HB.size;have c6:=hid (Zo.belX HB q6);have e6:Hid (BAt _ _ _ _):=hid (c6 _ _ _ _ HG);by_cases e7:k<is.length
  ·have hg:∃g,ra=some ⟨g,0,none⟩:=by
    obtain⟨g,cp',h⟩:=ZF HV.row Om;injection h with m;exact⟨g,m⟩
   obtain⟨vg,rfl⟩:=hg;have e8:=hid (c6.own HV.row);obtain⟨f1,f2,f3⟩:=Zfl _ k e7;have d1:=Zi e8 _ _ f1;have d2:=Zi e8 _ _ f2;have d3:=Zi e8 _ _ f3;have j8:=hid ((HV.ok _ (List.getElem_mem e7)).jv c6)
   have j9:Hid (grpV (bs.map bl) (l.take (k+1))=addG (ZB (is[k]).labs (bs.map bl)) (is[k]).v (grpV (bs.map bl) (l.take k))):=by
    have hl:k<l.length:=by rwa [HV.len']
    rw[List.take_succ_eq_append_getElem hl,ZpO]
    have e:l[k]=(is[k]).el:=by
     have:l[k]?=(is.map Itm.el)[k]?:=by rw[HV.els]
     rw[List.getElem?_eq_getElem hl,Ya2,List.getElem?_eq_getElem e7]at this;exact Yax this
    rw[e];rfl
   generalize is[k]=s at *
   have x0:(k:Int)<(is.length):=by omega
   have c7:x<wo.heap.size:=by omega
   go_wp2_with fail
   refine Zm fun W p=>?_;have L:Below _ _ W:=p▸Zbal;have HI:Hid (BAt W _ [.slice _ _ _,.string _,.int _ _] 286):=p▸bnw;refine(ZxO W (j8.below L).lb ((c6.trans (Zo.below L)).own HN) p8 HS).mono ?_;rintro e Q ⟨a',n',c',tx',qs',rfl,a8,F⟩;have G:=hid (L.trans (F.mono L.size));have e9:=hid (HI.below F);have k0:=G.size;have x1:=e9.lt
   have C:tx'.size<=maxLen:=by
    have m:=a8.1.wf.len;rw[<-a8.1.txt,Zd]at m;unfold maxLen;omega
   have f0:=hid (U.moved (G.block x c7));have k1:=hid (e6.below G);have q7:x<Q.heap.size:=by omega
   have HF:=hid (f0.find _ C)
   obtain⟨vals,gv,q8⟩:∃(vals:List _) (gv:GEn),vals=gv.vals/\(vals.length<=k/\(∀v∈vals,vOk v))/\(∃u,(∀W:World,W.heap[x]?=Q.heap[x]?->(Instr.lookup _ _ _ _).run _ W=.ok u W)/\∃sa sn sc stx,u=.agg (.slice sa sn sc::.string stx::talC vals).toArray)/\
     (((∀W:World,(Instr.findKey 9 _ _).run _ W=.ok _ W)/\(∀g∈gs,g.tx≠tx')/\(∀e∈es.toList,e.key≠.string _)/\vals=[])∨∃j,∃hj:j<gs.length,gs[j].tx=tx'/\gs[j].vals=vals/\(∀i (hi:i<gs.length),i≠j->gs[i].tx≠tx')/\∃e,es.toList[j]?=some e/\e.key=.string _/\∀W:World,(Instr.findKey 9 _ _).run _ W=.ok (some (j,e.val)) W):=by
    rcases HF.out with ⟨m,h2,h3⟩|⟨j,hj,m,h2,e,h3,h4,h5,h6⟩
    ·exact⟨[],⟨none,0,0,tx',[],[]⟩,rfl,⟨Yag _,fun v hv=>by cases hv⟩,⟨_,fun W p=>ZyG f0 C m W p,none,0,0,ByteArray.empty,rfl⟩,.inl ⟨m,h2,h3,rfl⟩⟩
    ·have k2:=E.1 _ (List.getElem_mem hj);exact⟨gs[j].vals,gs[j],rfl,⟨k2.2,k2.1.vok⟩,⟨_,fun W p=>ZyE f0 C h6 W p,gs[j].a,gs[j].n,gs[j].c,gs[j].tx,h5⟩,.inr ⟨j,hj,m,rfl,h2,e,h3,h4,h6⟩⟩
   obtain⟨-,V,j0,S⟩:=q8;have V:=hid V;have j1:=hid j0;have S:=hid S;obtain⟨t0,t1,t2,t3,t4,t5,X⟩:=ZiD vals;have a4:=hid X;obtain⟨u,q9,sa,sn,sc,stx,hu⟩:=j1.out;rw[a4]at hu;subst hu;have a1:=hid q9
   go_upto_region 6 with fail
   refine ZP fun wA f4=>?_;have c8:Below _ _ _:=f4▸Zbal;have a9:Hid (BAt _ _ _ 268):=f4▸bnw;have f5:=hid (k1.below c8);have k3:=hid (e9.below c8);have H:=hid c8;clear f4 c8;have r6:=H.size;have x2:=a9.lt;have c0:=f5.cell 0;have b0:=a9.cell 0;have b1:=a9.cell 1;simp only[Zget]at c0 b0 b1;have b5:x<wA.heap.size:=by omega
   have b6:=hid (H.block x q7);have l1:∀o,(Instr.lookup _ _ _ _).run _ ((wA.alloc o).drew)=_:=fun o=>a1 _ ((ZeU b5 o).trans b6);have l2:∀o,(Instr.lookup _ _ _ _).run _ (wA.drew.alloc o)=_:=fun o=>a1 _ ((ZeU b5 o).trans b6);have l3:∀o o',(Instr.lookup _ _ _ _).run _ (((wA.alloc o).alloc _).drew)=_:=fun o o'=>a1 _ (((ZeU (by simp;omega) o').trans (ZeU b5 o)).trans b6);have l4:∀o o',(Instr.lookup _ _ _ _).run _ ((wA.alloc o).drew.alloc _)=_:=fun o o'=>a1 _ (((ZeU (by simp;omega) o').trans (ZeU b5 o)).trans b6);have l5:∀o o',(Instr.lookup _ _ _ _).run _ ((wA.drew.alloc o).alloc _)=_:=fun o o'=>a1 _ (((ZeU (by simp;omega) o').trans (ZeU b5 o)).trans b6);have p1:∀W:World,(Instr.field 351 (.agg #[.slice sa sn sc,.string stx,Vi t0,Vi t1,Vi t2,Vi t3,Vi t4,Vi t5]) 1).run prog W=.ok (.agg #[Vi t0,Vi t1,Vi t2,Vi t3,Vi t4,Vi t5]) W:=fun W=>by kernel_rfl
   go_cut [12] from 30 to 37 (fun s12 wx=>∃Bt:Nat,s12=Vp Bt/\Hid (BAt wx Bt [Vi t0,Vi t1,Vi t2,Vi t3,Vi t4,Vi t5] 349)/\Hid (BW wA wx)/\wA.heap.size<=Bt)
   case first=>
    go_region_held3 (fun d => d.cell? ⟨gb, 0, none⟩ = some (.map (some x)) /\ d.cell? ⟨Q.heap.size, 0, none⟩ = some (.slice a' n' c') /\ d.cell? ⟨Q.heap.size, 1, none⟩ = some (.string tx')) (first | exact ⟨c0, b0, b1⟩ | go_keep) (first
      | (go_at_call 151
         refine(ZgR).mono ?_;rintro e w7 ⟨rfl,o7,r7⟩))
    all_goals
     go_wp2
     go_meet
     exact⟨_,rfl,hid (by first|exact ZtY|exact ZtX),hid belB,by omega⟩
   case rest=>
   obtain⟨Bt,rfl,HT,a2,x3⟩:=hcut;clear l1 l2 l3 l4 l5 p1 c0 b0 b1 a1;have b7:=hid ((G.trans (H.mono k0)).trans (a2.mono Om));have k4:=hid (f5.below a2);have k5:=hid (k3.below a2);have f6:=hid (a9.below a2);have f7:=hid (a8.1.jv (Zo.below (H.trans (a2.mono r6))));have k6:=hid (b7.block x c7);have k7:x<wc.heap.size:=by have:=b7.size;omega
   clear f5 k3 a9 H a2 k1 e9;obtain⟨r0,r1,r2,r3,r4,r5,hr⟩:=ZiD (vals++[s.v]);have HR:=hid hr;clear hr;have f8:=hid j8.vok;have b8:=hid (U.moved k6);have J:Hid (∀g∈gs,GEnOk _ g/\g.vals.length<=k):=hid (fun g hg=>⟨(E.1 g hg).1.jv (Zo.below b7),(E.1 g hg).2⟩)
   have r8:∃(es':Array _) (cl':Nat) (gs':List _),(∀W:World,W.heap[x]?=wc.heap[x]?->(Instr.mapUpdate 279 (.map (some x)) (.string tx') (.agg #[.slice a' n' c',.string tx',Vi r0,Vi r1,Vi r2,Vi r3,Vi r4,Vi r5])).run prog W=.ok () (setBlock W x (.map es' cl')))/\
     (∀W:World,x<W.heap.size->MapG (setBlock W x (.map es' cl')) x gs' es' cl')/\gs'.length<=k+1/\(∀g∈gs',GEnOk wc g/\g.vals.length<=k+1)/\gs'.map GEn.grp=grpV (bs.map bl) (l.take (k+1)):=by
    obtain⟨o,R⟩:∃o:GEn,o=⟨a',n',c',tx',qs',vals++[s.v]⟩:=⟨_,rfl⟩
    have d0:o.val=.agg #[.slice a' n' c',.string tx',Vi r0,Vi r1,Vi r2,Vi r3,Vi r4,Vi r5]:=R▸ZsY ⟨a',n',c',tx',qs',vals++[s.v]⟩ HR.out
    have f9:GEnOk wc o/\o.vals.length<=k+1:=by
     rw[R];refine⟨⟨f7,fun z hz=>?_⟩,?_⟩
     ·rcases Yar.1 hz with hz|hz
      ·exact V.2 z hz
      ·rw[Yap]at hz;subst hz;exact f8
     ·have:=V.1;simp;omega
    have k8:=ZwN (fun g hg=>(J g hg).1) (o:=⟨a',n',c',tx',qs',[]⟩) f7 s.v;have k9:qs'.map blP=ZB s.labs _:=a8.2;rcases S.out with ⟨m,h2,h3,h4⟩|⟨j,hj,m,h2,h3,e,h4,h5,h6⟩
    ·refine⟨_,_,gs++[o],fun W p=>?_,fun W p=>b8.push p o (R▸C) (by rwa [R]),by simp;omega,fun g hg=>?_,?_⟩
     ·have:=ZDG b8 C m o.val W p;rw[d0]at this;rw[d0,R];exact this
     ·rcases Yar.1 hg with hg|hg
      ·exact⟨(J g hg).1,by have:=(J g hg).2;omega⟩
      ·rw[Yap]at hg;subst hg;exact f9
     ·have:=k8.2 h2;rw[j9,<-k9,<-E.2,<-this,R,h4];rfl
    ·refine⟨_,_,gs.set j o,fun W p=>?_,fun W p=>b8.mod p o (R▸C) h4 (by rwa [R]),by rw[Yat];omega,fun g hg=>?_,?_⟩
     ·have:=ZDE b8 C h4 h5 h6 o.val W p;rw[d0]at this;rw[d0,R];exact this
     ·rcases Yck hg with hg|rfl
      ·exact⟨(J g hg).1,by have:=(J g hg).2;omega⟩
      ·exact f9
     ·have:=k8.1 j _ m h3;rw[j9,<-k9,<-E.2,<-this,R,h2]
   obtain⟨es',cl',gs',l0,l6,r9,l7,l8⟩:=r8;have l9:=hid l0;have s0:=hid l6;have m6:=hid l7;have s1:=hid l8;have g5:Hid (vals.length<=10000/\∀y∈vals,vOk y):=hid ⟨by have:=V.1;omega,V.2⟩;have s2:Hid (MapX _ x):=hid ⟨es,cl,U.heap⟩;clear l0 l6 l7 l8 S b8 J V U E f7 a8;have c0:=k4.cell 0;have b0:=f6.cell 0;have b1:=f6.cell 1;have y2:=k5.cell 2;have m0:=HT.cell 0;have m1:=HT.cell 1;have m2:=HT.cell 2;have m3:=HT.cell 3;have m4:=HT.cell 4;have m5:=HT.cell 5;simp only[Zget]at c0 b0 b1 y2 m0 m1 m2 m3 m4 m5;have x4:=b7.size;have s3:Hid (gb≠x/\Q.heap.size≠x/\wo.heap.size≠x/\Bt≠x):=hid ⟨q3,by omega,by omega,by omega⟩
   have I : Hid (∀ W, BelX x _ _ W -> W.cell? _ = some _ /\ W.cell? _ = some _ /\ W.cell? _ = some _ /\ W.cell? _ = some _ /\ W.cell? _ = some _ /\ W.cell? _ = some _ /\ W.cell? _ = some _ /\ W.cell? _ = some _ /\ W.cell? _ = some _ /\ W.cell? _ = some _) := hid (fun W p => by
     obtain⟨n1,n2,n3,n4⟩:=s3.out;have g1:=k4.belX p n1;have g2:=f6.belX p n2;have g3:=k5.belX p n3;have g4:=HT.belX p n4;exact⟨g1.cell 0,g2.cell 0,g2.cell 1,g3.cell 2,g4.cell 0,g4.cell 1,g4.cell 2,g4.cell 3,g4.cell 4,g4.cell 5⟩)
   go_upto_region 7 with fail
   go_region_held3 (fun W => W.cell? ⟨gb, 0, none⟩ = some (.map (some x)) /\ W.cell? ⟨Q.heap.size, 0, none⟩ = some (.slice a' n' c') /\ W.cell? ⟨Q.heap.size, 1, none⟩ = some (.string tx') /\ W.cell? ⟨wo.heap.size, 2, none⟩ = some (Vi s.v) /\ W.cell? ⟨Bt, 0, none⟩ = some (Vi t0) /\ W.cell? ⟨Bt, 1, none⟩ = some (Vi t1) /\ W.cell? ⟨Bt, 2, none⟩ = some (Vi t2) /\ W.cell? ⟨Bt, 3, none⟩ = some (Vi t3) /\ W.cell? ⟨Bt, 4, none⟩ = some (Vi t4) /\ W.cell? ⟨Bt, 5, none⟩ = some (Vi t5)) (first | exact ⟨c0, b0, b1, y2, m0, m1, m2, m3, m4, m5⟩ | exact s4.out | exact s5.out _ | exact s6.out _ | exact s7.out _ _ | go_keep) (first
     | (go_at_call 151
        refine(ZgR).mono ?_;rintro e w7 ⟨rfl,o7,r7⟩)
     | (go_at_call 206
        refine(ZDx vals s.v g5.1 g5.2 f8.out t0 t1 t2 t3 t4 t5 r0 r1 r2 r3 r4 r5 a4.out HR.out).mono ?_;rintro e w8 ⟨rfl,Y⟩;have B:Hid (BW wc w8):=hid (by first|exact⟨Y.os,Y.tape,Y.output,Y.size,Y.block⟩|exact(((Yaf wc.heap.size wc).drew).alloc (Yac _) _).trans (Y.mono (by simp)));have s4:=hid (I.out w8 (BelX.of B.out));have s5:=hid (fun o=>I.out (w8.alloc o) (BelX.of (B.alloc B.size o)));have s6:=hid (fun M=>I.out (setBlock w8 x M) ((BelX.of B.out).trans (BelX.set _ _ _ _)));have s7:=hid (fun o M=>I.out (setBlock (w8.alloc o) x M) ((BelX.of (B.alloc B.size o)).trans (BelX.set _ _ _ _)));have q0:=l9.out w8 (B.block x k7);have q1:=fun o=>l9.out (w8.alloc o) ((ZeU (by have:=B.size;omega) o).trans (B.block x k7));clear Y))
   have p2 : Hid (∀ W9, BW wc W9 -> MapG (setBlock W9 x (.map es' cl')) x gs' es' cl' /\ (∀ g ∈ gs', GEnOk (setBlock W9 x (.map es' cl')) g /\ g.vals.length <= k + 1) /\ BelX x w.heap.size w (setBlock W9 x (.map es' cl'))) := hid (fun W9 h9 => by
     have m7:BelX x wc.heap.size wc (setBlock W9 x (.map es' cl')):=(BelX.of h9).trans (BelX.set _ _ _ _)
     have s8:MapX wc x:=by
       obtain⟨q1,q2,hq⟩:=s2.out;exact⟨q1,q2,k6.trans hq⟩
     refine⟨s0.out W9 (by have:=h9.size;omega),fun g hg=>⟨(m6.out g hg).1.jv (Zo.belX m7 s8),(m6.out g hg).2⟩,HB.trans (((BelX.of b7.out).mono e4).trans (m7.mono Om))⟩)
   all_goals
    obtain⟨f1,f2,f3⟩:=p2.out w8 B.out;have F1:=hid f1;have F2:=hid (And.intro f2 s1.out);have F3:=hid f3;clear f1 f2 f3;go_wp2
    go_roundw
    case rel=>exact⟨k+1,gs',es',cl',by omega,by go_num,r9,F1,F2,F3⟩
    case measure=>simp[intOf];omega
  ·obtain rfl:k=is.length:=by omega
   have s9:Hid (gs.map GEn.grp=grpV (bs.map bl) l):=by have:=E.2;rwa [Ya5 (by rw[HV.len'];omega)]at this
   have m8:=hid E.1;have g6:=U.len;have c0:=e6.cell 0;simp only[Ycy]at c0;have m9:=fun T=>ZyV U.heap T;rw[g6]at m9;have c7:x<wo.heap.size:=by omega
   clear E
   go_wp2_with (at_make;refine wpList_make_own _ rfl _ _ 283 rfl w.heap.size 286 i0 _ 3 underlying283 hi j4 j5 _ _ _ gs.length rfl rfl rfl ?b2 ?b3 ?b4 ?_)
   case b2=>rw[j6];omega
   case b3=>unfold maxLen;omega
   case b4=>exact e4
   intro w2 j2 b9;have c1:=hid ((Yaf _ _).grown b9 (Yac _) (fun q hq=>by cases hq));have n0:=hid (U.moved (c1.block x c7));have t6:=hid (e6.below c1);clear b9 c0 m9;have c0:=t6.cell;have t7:=run_range_map _ 279 9 _ x _ _ underlying279 n0.heap;go_wp2;have p3:=hid (HB.trans ((BelX.of c1).mono e4));have g7:Hid (∀g∈gs,GEnOk _ g/\g.vals.length<=is.length):=hid (fun g hg=>⟨(m8 g hg).1.jv (Zo.below c1),(m8 g hg).2⟩);have x5:=c1.size;clear t7 c0
   go_loopg [13] gs.length (fun kx v wr=>∃(js:List Nat) (seen:Array Nat) (c9:Nat),(leftOf es seen).size<=kx/\js.length+(leftOf es seen).size<=gs.length/\wr.ownsRow w.heap.size 286 3 v js.length (encs (js.map fun j=>gItm op (gs.getD j gen0)))/\Hid (wr.heap[w2.heap.size]?=some (.mapIter (some x) cl seen c9)/\cl<=c9)/\Hid (MapG wr x gs es cl)/\Hid (Went es gs.length js seen)/\Hid (∀g∈gs,GEnOk wr g/\g.vals.length<=is.length)/\Hid (BelX x w.heap.size w wr)/\w2.heap.size<wr.heap.size)
   case atStart=>
    have d4:Below _ _ (w2.alloc (.mapIter (some x) cl #[] cl)):=Zbal;have n5:(leftOf es #[]).size<=gs.length:=by unfold leftOf;rw[<-g6];exact Array.size_filter_le
    exact⟨[],#[],cl,n5,by simpa using n5,Zn j2 d4,hid ⟨heap_alloc_new _ _,Yac _⟩,hid (n0.moved (d4.block x Om)),hid ⟨Yfq,by simp,rfl⟩,hid (fun g hg=>⟨(g7 g hg).1.jv (Zo.below d4),(g7 g hg).2⟩),hid (p3.trans ((BelX.of d4).mono Om)),by simp⟩
   case round=>
    obtain⟨js,seen,c9,x6,x7,Z,d5,N,g8,a3,c2,g9⟩:=hrel;have t8:x<wr.heap.size:=by have:=c2.size;omega
    have i1:=fun ty=>run_next_at (P:=prog) _ ty _ x _ _ _ _ _ d5.1 N.heap N.stm.1 d5.2;rcases i1 0 with ⟨t9,a5⟩|⟨e,he,n6,a0,a5⟩
    ·have d6:=g8.all N t9;have i2:=ZEF op d6;rw[s9]at i2
     have i3 := hid (ZwK l (fun e he => by
       rw[<-HV.els]at he;obtain⟨i,hi,rfl⟩:=Ybe.1 he;exact(HV.ok i hi).lb.wf) i2)
     have i4:(js.map fun j=>gItm op (gs.getD j gen0)).length=js.length:=Yak _;rw[<-i4]at Z
     have n7 := hid (Znc Z (c2.size) (by rw [i4]; omega) (fun i hi => by
       obtain⟨j,hj,rfl⟩:=Ybe.1 hi;have u0:=g8.lt j hj;have eg:gs.getD j gen0=gs[j]:=by rw[Yaa,List.getElem?_eq_getElem u0];rfl
       rw[eg];exact⟨(a3 _ (List.getElem_mem _)).1.lb,ZhY⟩) i3.1)
     rw[i3.2]at n7;clear Z i2 d6 i1
     go_wp2_with fail
     refine n7.mono ?_;rintro e Q ⟨rfl,is',H5⟩;have u1:=hid (c2.trans (BelX.of H5.2));have u2:Hid (MapX _ x):=hid ⟨es,cl,(H5.2.block x j7).trans N.heap⟩;go_wp2;go_ret;exact⟨_,is',rfl,hid ⟨H5.1,u2⟩,u1⟩
    ·obtain⟨j,hj,n8,n9⟩:=g8.step N.out he;obtain⟨_,o0,o1⟩:=N.at n8;have o2:=(ZqB he).1;have x8:=ZxW he;have p4:=hid n9;obtain⟨W3,O⟩:∃W3,W3=setBlock n6 w2.heap.size (.mapIter (some x) cl (seen.push e.born) cl):=⟨_,rfl⟩
     rw[<-O]at a5;have a6:n6.heap=wr.heap:=by rcases a0 with rfl|rfl <;> rfl
     have i5:W3.heap[w2.heap.size]?=some (.mapIter (some x) cl (seen.push e.born) cl):=by rw[O];simp[setBlock,a6,g9]
     have d7:∀i,i≠w2.heap.size->W3.heap[i]?=wr.heap[i]?:=fun i hi=>by rw[O];simp[setBlock,a6,Ycp hi]
     have u3:W3.heap.size=wr.heap.size:=by rw[O];simp[setBlock,a6]
     have d8:Below w.heap.size _ _:=⟨by rw[O];rcases a0 with rfl|rfl <;> rfl,by rw[O];rcases a0 with rfl|rfl <;> rfl,by rw[O];rcases a0 with rfl|rfl <;> rfl,by omega,fun i hi=>d7 i Om⟩
     have d9:Zo _ _:=fun b c T fr hb=>(d7 b (fun e'=>by subst e';rw[d5.1]at hb;cases hb)).trans hb;have o3:=d7 x Om;have c3:=hid (N.moved o3);have o4:=run_entry_at (P:=prog) _ _ x _ _ _ _ e i5 c3.heap o2 c3.stm.2.1;have eg:gs.getD j gen0=gs[j]:=by rw[Yaa,List.getElem?_eq_getElem hj];rfl
     have u4:Hid ((js++[j]).map (fun j=>gItm _ (gs.getD j _))=js.map _++[gItm op _]):=hid (by rw[Yaq,Yco,eg]);have o5:Hid (GEnOk _ gs[j]/\(gs[j]).vals.length<=10000):=hid ⟨(a3 _ (List.getElem_mem _)).1.jv d9,by have:=(a3 _ (List.getElem_mem hj)).2;omega⟩;have i6:Hid (∀g∈gs,GEnOk _ g/\g.vals.length<=is.length):=hid (fun g hg=>⟨(a3 g hg).1.jv d9,(a3 g hg).2⟩);have o6:=hid (c2.trans (BelX.of d8));have e0:=d9.own Z;have p5:=hid i5;generalize gs[j]=g at *
     obtain⟨t0,t1,t2,t3,t4,t5,X⟩:=ZiD g.vals;have a4:=hid X;rw[o1,ZsY g X,o0]at a5 o4;obtain⟨one,i7⟩:∃one,one=cutV (ZfI op g.vals):=⟨_,rfl⟩
     have i8:=hid i7;have v3:w2.heap.size<W3.heap.size:=by omega
     clear u3 g9 t8;clear i1 Z d9 o3 i5 d7 d8 O a0 a6 o0 o1 o2 he n9 X i7 N a3 c2 d5 eg n8 hj
     go_upto_region 13 with fail
     refine ZP fun o8 p=>?_;have L:Below _ _ _:=p▸Zbal;have HX:Hid (BAt _ _ [.slice _ _ _,.string _,.int _ _,.int _ _,.int _ _,.int _ _,.int _ _,.int _ _] 351):=p▸bnw;have e1:=Zn e0 L;have o9:=hid L;clear p L e0 a5 o4;have u5:=o9.size;have p6:=o6.size;have I:Hid (∀d,BAt d W3.heap.size [.slice g.a g.n g.c,.string g.tx,Vi t0,Vi t1,Vi t2,Vi t3,Vi t4,Vi t5] 351->d.cell? _=some _/\d.cell? _=some _/\d.cell? _=some _/\d.cell? _=some _/\d.cell? _=some _/\d.cell? _=some _/\d.cell? _=some _/\d.cell? _=some _):=hid (fun d m=>⟨m.cell 0,m.cell 1,m.cell 2,m.cell 3,m.cell 4,m.cell 5,m.cell 6,m.cell 7⟩);refine Zbn 10 (fun d=>d.cell? _=some _/\d.cell? _=some _/\d.cell? _=some _/\d.cell? _=some _/\d.cell? _=some _/\d.cell? _=some _/\d.cell? _=some _/\d.cell? _=some _) Kr (I.out _ HX.out) (fun f=>?_);refine Za 0 f (h:=?_);refine Za 1 f (h:=?_);refine Za 2 f (h:=?_);refine Za 3 f (h:=?_);refine Za 4 f (h:=?_);refine Za 5 f (h:=?_);refine Z4 (i:=6) Kr rfl (fun K hK=>?_);go_simp;refine(ZsR Om o5.2 o5.1.vok a4).mono ?_;rintro e5 Q ⟨rfl,F⟩;have G:Hid (BW o8 _):=hid ⟨F.os,F.tape,F.output,F.size,F.block⟩;have i9:=hid (HX.below G);clear F;rw[<-i8];go_simp;refine hK _ _ (I _ i9) (fun f=>?_);clear hK K
     try simp only[Act.put,Zset]
     refine Za 7 f (h:=?_);refine Z4 (i:=8) Kr rfl (fun K hK=>?_);have H:Hid (∀o,Below _ _ (Q.alloc o)):=hid (fun o=>Zbal);go_simp;refine hK _ _ (I _ (i9.below (H _))) (fun f=>?_);clear hK K
     try simp only[Act.put,Zset]
     refine Z4 (i:=9) Kr rfl (fun K hK=>?_);have A:=Zn e1 G;have k0:=G.size;refine ZfF rfl _ _ _ rfl _ 286 _ _ 3 _ underlying283 hi j4 j5 j6 rfl Dc _ _ _ (by simp[Act.eval]) (A.alloc _) ⟨Q.heap.size,0,none⟩ 1 1 [.slice g.a g.n g.c,.string g.tx,Vi one] (by simp[Act.eval]) rfl ?h2 ?h3 ?h4 ?h5 ?h6 ?_
     case h2=>exact ZcY rfl
     case h3=>intro u hu;simp at hu;rcases hu with rfl|rfl|rfl <;> rfl
     case h4=>unfold maxLen;omega
     case h5=>omega
     case h6=>simp;omega
     intro v6 w6 e2 r _;have D:Below _ _ (Q.alloc (.cells #[.slice g.a g.n g.c,.string g.tx,Vi one] 286)):=(o9.trans (G.mono u5)).trans ((H _).mono Om);have p0:=(Z5.below D _).trans (Z5.grown r (A.alloc _))
     have c4 : ∀ (q : Nat) (o : Obj), W3.heap[q]? = some o -> (∀ c t fr, o ≠ .cells c t _) -> w6.heap[q]? = some o := fun q o hq R => by
       have u6:=(Yae.1 hq).1;have m:=(D.block q u6).trans hq;exact(r.block q (by have:=D.size;omega) (Zz0 (A.alloc _) m R)).trans m
     have u7:=hid (c3.moved ((c4 x _ c3.heap (fun c t fr h=>by cases h)).trans c3.heap.symm));have p7:Hid (w6.heap[w2.heap.size]?=some _/\cl<=cl):=hid ⟨c4 _ _ p5 (fun c t fr h=>by cases h),Yac _⟩;have u8:Hid (∀g∈gs,GEnOk _ g/\g.vals.length<=is.length):=hid (fun z hz=>⟨⟨(i6 z hz).1.lb.kb p0 Dc,(i6 z hz).1.vok⟩,(i6 z hz).2⟩);have u9:=hid (o6.trans (BelX.of ((D.mono p6).grown r (by have:=D.size;omega) (fun q hq=>(A.lt q hq).1))));have v0:w2.heap.size<w6.heap.size:=by have:=D.size;have:=r.size;omega
     have j3 : w6.ownsRow w.heap.size 286 3 v6 (js ++ [j]).length (encs ((js ++ [j]).map fun j => gItm op (gs.getD j gen0))) := by
       rw[u4,Zh1,Yab];unfold gItm;rw[<-i8];exact e2
     have v1:Hid (BAt _ _ _ _):=hid (Z5.grown r (A.alloc _) _ _ _ _ Dc (i9.below (H _)));refine hK _ _ (I _ v1) (fun f=>?_);clear hK K
     try simp only[Act.put,Zset]
     refine Zbl Kr Kr rfl Kr (fun K hK=>?_);go_simp;refine hK _ _ ?_;clear hK K r e2 A e1 p0 c4 D;go_wp2
     go_roundg (leftOf es (seen.push e.born)).size
     case measure=>omega
     case rel=>exact⟨js++[j],seen.push _,cl,Yac _,by simp;omega,j3,p7,u7,p4,u8,u9,v0⟩
theorem Zj0(h:WB w B b l)(s:BA)(f:l.length+s.size<=140737488355328) :
  CP 63 #[Vp b,.string s] w fun e u=>e=.returned (.tuple #[Vi s.size,.nilIface])/\Hid (WB u B b (l++bl s))/\Hid (WK B b w u):=by
 refine(ZhR B b s w h.bd (by rw[Lib.byteCells_length];omega) h.le).mono ?_;rintro e u ⟨rfl,a,c,d⟩;rw[Zn4]at a;exact⟨rfl,⟨.inr a,Yah h.le c.size⟩,⟨c,d⟩⟩
theorem Zjm(h:ZR w)(n:Int)(c:vOk n) :
  CP 64 #[Vi n] w fun e u=>∃s:BA,e=.returned (.string s)/\Hid (bl s=decI n)/\s.size<=1000000002/\BW w u:=by
 have d:=Zlj n c;unfold vOk at c;refine(strconv_Itoa n Om Om w h).mono ?_;rintro e u ⟨rfl,k,os,rfl⟩
 have g:Lib.itoa n=decI n:=by
  unfold Lib.itoa decI;by_cases a:n<0
  ·rw[if_pos a,if_pos a,Zlk];rfl
  ·rw[if_neg a,if_neg a,Zlk]
 refine⟨_,rfl,hid ?_,?_,?_⟩
 ·assumption
 ·show(Lib.itoa n).toArray.size<=_
  simp_all
 ·exact⟨rfl,rfl,rfl,by simp,fun k f=>by simp[Go.Sort.grow,World.drewN,Yfo,f]⟩
theorem LbOk.size{c:Nat}{tx:BA}{qs:List (BA×BA)}(h:LbOk w a n c tx qs):tx.size<=108018:=by
 rw[<-Zd,h.txt];exact h.wf.len
def ZcQ(t:Int)(is:List Itm):LB:=decI t++((is.map Itm.el).map elS).flatten
theorem Zyp{l:List Itm}:ZcQ t (l++[s])=ZcQ t l++elS s.el:=by
 unfold ZcQ;simp
theorem ZvL(c:(wrt s.labs).length<=108018)(a:vOk s.v):(elS s.el).length<=1000108030:=by
 have:=Zlj _ a;show([32,123]++wrt s.labs++[125]++decI s.v).length<=_
 simp_all;omega
theorem ZqH(a:vOk t):∀is:List Itm,(∀i∈is,(wrt i.labs).length<=108018/\vOk i.v)->(ZcQ t is).length<=1000000002+1000108030*is.length
 | [],_=>by have:=Zlj t a;simpa [ZcQ] using this
 | s :: is, h => by
   have d:=ZqH a _ (fun i c=>h i (Yam _ c));have f:=ZvL (h s (by simp)).1 (h s (by simp)).2
   have e:(ZcQ t (s::is)).length=(ZcQ t is).length+(elS s.el).length:=by
     unfold ZcQ;simp only[Ybb,List.flatten_cons,Yab];omega
   simp_all;omega
theorem Zyq(t:Int)(H:vOk t)(v:Value)(n:Int)(w:World)(S:ValP w v (.inl n))(I:ZR w)(J:20<=w.heap.size) :
  CP 92 #[Vi t,v] w fun e u=>∃r:BA,e=.returned (.string r)/\Hid (bl r=Zel t (.inl n))/\r.size<=40000000000/\BW w u:=by
 have T:=hid I;have g:=hid J;have U:=hid H;clear I J H;obtain⟨rfl,o⟩:=S;have V:=hid o;have h1:=asSS (Vi n);clear o;go_enter func92,ntmps92
 go_wp2_with fail
 refine Zm fun W G=>?_;have c:Below _ w W:=G▸Zbal;have p:Hid (WB W _ _ []):=hid ⟨.inl ⟨Yac _,.slice _ 0 0,G▸bnw,⟨rfl,.inl ⟨rfl,rfl⟩⟩,by simp[Value.ownBlock]⟩,c.size⟩;have d:=hid c;have h:=hid (T.low c g);clear G c;refine(Zjm h t U).mono ?_;rintro e w1 ⟨s1,rfl,K,X,f⟩;have q:=hid (p.below f);have s:=hid (d.trans (f.mono d.size));have A:=hid (h.low f (by have:=g.out;have:=d.size;omega));clear f p d h
 go_wp2_with fail
 refine(Zj0 q _ (by simp;omega)).mono ?_;rintro e w2 ⟨rfl,B,C⟩;have i:=hid (s.trans C.low);have L:=hid (A.low C.low g);clear q s A
 go_wp2_with fail
 refine(Zjm L n V).mono ?_;rintro e w3 ⟨s3,rfl,M,Y,j⟩;have N:=hid (B.below j);have O:=hid (i.trans (j.mono i.size));clear j B i;have k:Hid ((⟨#[32]⟩++s3).size=1+s3.size):=by rw[Yaz];rfl
 have D:Hid (bl (⟨#[32]⟩++s3)=[32]++decI n):=by rw[Zfg,M];rfl
 go_wp2_with fail
 generalize(⟨#[32]⟩++s3:BA)=x at k D ⊢;have Z:x.size<=1000000003:=by have:=k.out;omega
 clear k;refine(Zj0 N x (by have b:([]++bl _).length=s1.size:=(by rw[Ycu,Zd]);omega)).mono ?_;rintro e w4 ⟨rfl,l,E⟩;have P:=hid (O.trans E.low);have Q:Hid ([]++bl s1++bl x=Zel t (.inl n)):=by rw[D,K];show[]++decI t++([32]++decI n)=decI t++[32]++decI n;simp
 have m:Hid (([]++bl s1++bl x).length<=40000000000):=hid (by have b:([]++bl s1++bl x).length=s1.size+x.size:=(by rw[Ycu,Yab,Zd,Zd]);omega);generalize[]++bl s1++bl x=z at l Q m
 go_wp2_with fail
 refine(Builder_String_any_f _ _ _ _ l.bd l.le).mono ?_;rintro e w5 ⟨rfl,_,F⟩;have R:=hid (P.trans F);clear F E;go_wp2;go_ret;exact⟨_,rfl,hid (by rw[ZbF,Q]),by have a:=m.out;rw[<-Yb5]at a;exact a,R⟩
theorem Zyr(t:Int)(Z:vOk t)(v:Value)(l:List El)(w:World)(hv:ValP w v (.inr l))(hn:VOk 30 (.inr l))(hp:ZR w)(hB:20<=w.heap.size) :
  CP 92 #[Vi t,v] w fun e u=>∃r:BA,e=.returned (.string r)/\Hid (bl r=Zel t (.inr l))/\r.size<=40000000000/\BW w u:=by
 have HP:=hid hp;have K:=hid hB;have HT:=hid Z;clear hp hB Z;obtain⟨s,is,rfl,j⟩:=hv;have a9:is.length<=30:=j.len'▸hn.2;obtain⟨ra,rcp,rfl⟩:=Zl j.row;have J:=hid j
 have L : Hid (∀ k, (ZcQ t (is.take k)).length <= 40000000000 - 2000000000) := hid (fun k => by
   have:=ZqH HT (is.take k) (fun i hi=>⟨(j.ok i (Ydn hi)).lb.wf.len,(j.ok i (Ydn hi)).vok⟩);rw[Ya7]at this;omega)
 have h1:=asVS (.slice ra is.length rcp);have h2:=asVV (.slice ra is.length rcp);clear hn j;go_enter func92,ntmps92
 go_wp2_with fail
 refine Zm fun W q=>?_;have d:Below _ w W:=q▸Zbal;have o:Hid (WB W _ _ []):=hid ⟨.inl ⟨Yac _,.slice _ 0 0,q▸bnw,⟨rfl,.inl ⟨rfl,rfl⟩⟩,by simp[Value.ownBlock]⟩,d.size⟩;have f:=hid d;have M:=hid (HP.low d K);clear q d;refine(Zjm M t HT).mono ?_;rintro e w1 ⟨s1,rfl,a0,b0,C⟩;have N:=hid (o.below C);have O:=hid (f.trans (C.mono f.size));clear C o f M
 go_wp2_with fail
 refine(Zj0 N _ (by simp;omega)).mono ?_;rintro e z ⟨rfl,P,Q⟩;have a1:=hid (O.trans Q.low);have Y:Hid (WB _ _ _ (ZcQ t [])):=hid (by have:=P.out;rw[a0]at this;simpa [ZcQ] using this);clear N O P Q;go_wp2
 go_loopw [26] (fun i wr=>∃k:Nat,k<=is.length/\i=Vi k/\Hid (WB wr w.heap.size w.heap.size (ZcQ t (is.take k)))/\Hid (BW w wr)) (fun i _=>is.length - (intOf i).toNat)
 case atStart=>exact⟨0,Yag _,rfl,Y,a1⟩
 case round=>
  rename World=>wo
  obtain⟨k,hk,rfl,p,D⟩:=hrel;have a2:=D.size;by_cases E:k<is.length
  ·have hg:∃g,ra=some ⟨g,0,none⟩:=by
    obtain⟨g,cp',h⟩:=ZF J.row Om;injection h with h1;exact⟨g,h1⟩
   obtain⟨vg,rfl⟩:=hg;have A:=hid (Zn J.row D);obtain⟨f1,f2,f3⟩:=Zfl _ k E;have d1:=Zi A _ _ f1;have d2:=Zi A _ _ f2;have d3:=Zi A _ _ f3;have F:=hid (J.ok _ (List.getElem_mem E));have a3:Hid (ZcQ t _=ZcQ t _++elS _):=List.take_succ_eq_append_getElem E▸Zyp;generalize is[k]=s at *
   have b1:=F.lb.size;have q1:¬9223372036854775807<2+s.tx.size:=by omega
   have q2:¬9223372036854775807<2+s.tx.size+1:=by omega
   clear f1 f2 f3 A;have b2:(k:Int)<(is.length):=by omega
   go_upto_region 12 with fail
   refine ZP fun W q=>?_;have d:Below _ _ W:=q▸Zbal;have G:Hid (BAt W _ [.slice _ _ _,.string _,.int _ _] 286):=q▸bnw;have o:=hid (p.below d);have f:=hid (D.trans (d.mono a2));clear q d d1 d2 d3 p D;have R:=f.size;have x0:=G.cell 0;have x1:=G.cell 1;have x2:=G.cell 2;simp only[Zget]at x0 x1 x2;have H:Hid (∀u,BAt u wo.heap.size [.slice s.a s.n s.c,.string s.tx,Vi s.v] 286->u.cell? _=some _/\u.cell? _=some _/\u.cell? _=some _):=hid (fun u h=>⟨h.cell 0,h.cell 1,h.cell 2⟩)
   go_region_held3 (fun u => u.cell? ⟨wo.heap.size, 0, none⟩ = some (.slice s.a s.n s.c) /\ u.cell? ⟨wo.heap.size, 1, none⟩ = some (.string s.tx) /\ u.cell? ⟨wo.heap.size, 2, none⟩ = some (Vi s.v)) (first | exact ⟨x0, x1, x2⟩ | exact H.out _ a4.out | exact H.out _ S.out | exact H.out _ a5.out | go_keep) (first
     | (go_at_call 151
        refine(ZgR).mono ?_;rintro e w5 ⟨rfl,o5,T⟩;have m:Hid (BW W w5):=hid (by rw[T];exact((Yaf _ _).drew).alloc (Yac _) _);have a5:=hid (G.below m.out);clear T)
     | (go_at_call 64
        refine(Zjm (HP.low (f.trans (m.mono R)) K.out) s.v F.vok).mono ?_;rintro e w6 ⟨s6,rfl,a6,b3,U⟩;have B:Hid (BW W w6):=hid (m.trans (U.mono m.size));have S:=hid (G.below B.out);have x:Hid ((⟨#[32,123]⟩++s.tx++⟨#[125]⟩++s6:BA).size=2+s.tx.size+1+s6.size):=hid (by rw[Yaz,Yaz,Yaz];rfl)
        have I:Hid (bl (⟨#[32,123]⟩++s.tx++⟨#[125]⟩++s6:BA)=elS s.el):=hid (by
          rw[Zfg,Zfg,Zfg,a6.out,F.lb.txt];rfl)
        have q3:¬9223372036854775807<2+s.tx.size+1+s6.size:=by omega
        clear U)
     | (go_at_call 63
        generalize(⟨#[32,123]⟩++s.tx++⟨#[125]⟩++s6:BA)=x6 at x I ⊢;have b4:x6.size<=1000108030:=(by have:=x.out;omega)
        clear x;refine(Zj0 (o.below B.out) x6 (by have:=L.out k;omega)).mono ?_;rintro e w7 ⟨rfl,b5,V⟩;have a4:Hid (BAt w7 wo.heap.size [.slice s.a s.n s.c,.string s.tx,Vi s.v] 286):=hid (WK.bat (o.below B.out) V.out S.out Dc Dc)))
   have a7:Hid (WB w7 w.heap.size w.heap.size (ZcQ t (is.take (k+1)))):=by rwa [a3.out,<-I.out]
   have a8:=hid ((f.trans (B.mono R)).trans V.low);go_wp2
   go_roundw
   case rel=>exact⟨k+1,by omega,by go_num,a7,a8⟩
   case measure=>simp[intOf];omega
  ·obtain rfl:k=is.length:=by omega
   rw[Ya4]at p;have HE:Hid (ZcQ t is=Zel t (.inr l)):=by unfold ZcQ;rw[J.els];rfl
   go_wp2_with fail
   refine(Builder_String_any_f _ _ _ _ p.bd p.le).mono ?_;rintro e w5 ⟨rfl,_,X⟩;have m:=hid (D.trans X);clear X;go_wp2;go_ret;exact⟨_,rfl,hid (by rw[ZbF,HE]),by have a:=L is.length;rw[Ya4,<-Yb5]at a;exact Yah a Om,m⟩
theorem ZqI(a:vOk t)(V:VV)(c:ValP w v V)(g:VOk 30 V)(d:ZR w)(f:20<=w.heap.size) :
  CP 92 #[Vi t,v] w fun e u=>∃r:BA,e=.returned (.string r)/\Hid (bl r=Zel t V)/\r.size<=40000000000/\BW w u:=by
 cases V with
 | inl n=>exact Zyq t a v n w c d f
 | inr l=>exact Zyr t a v l w c g d f
theorem Zmp (w : World) : CP 91 #[] w fun e u => e = .returned (Vp (w.heap.size + 1)) /\ Hid (MapX u w.heap.size) /\ Hid (BAt u (w.heap.size + 1) [.map (some w.heap.size)] 281) /\ u.heap.size = w.heap.size + 2 /\ BW w u := by
  have c:=@run_makeMap prog;go_enter func91,ntmps91;go_wp2;go_ret;have a:Below _ w (w.alloc (.map #[] 0)):=Zbal;refine⟨rfl,hid ⟨#[],0,(Zbal.block _ (by simp)).trans bnw⟩,hid ?_,by simp,a.alloc (by simp) _⟩;have:=Go.Deep.blk_alloc_new (w.alloc (.map #[] 0)) (.cells #[.map (some w.heap.size)] 281);rw[Go.Deep.nblk_alloc]at this;exact this
theorem MapX.below(h:MapX w x)(c:BW w w'):MapX w' x:=by
 obtain⟨es,cl,a⟩:=h;exact⟨es,cl,(c.block x (Yae.1 a).1).trans a⟩
theorem MapX.grown{r:Option Nat}(h:MapX w x)(hg:w.grownBy w' r)(c:some x≠r):MapX w' x:=by
 obtain⟨es,cl,a⟩:=h;exact⟨es,cl,(hg.block x (Yae.1 a).1 c).trans a⟩
theorem BAt.set1{a:Nat}{p q r x:Value}{t:TypeId}(h:BAt w a [p,q,r] t):BAt (w.setCell ⟨a,1,none⟩ x) a [p,x,r] t:=by
 unfold BAt at h;unfold BAt;simp only[World.setCell,Ybn,h,if_true,Ybf];rfl
theorem Zp9:∀l:List (LB),Lib.join l [10]=Zcn l
 | []=>rfl
 | [a]=>by simp[Lib.join,List.intercalate,Zcn]
 | a :: b :: l => by
   have ih:=Zp9 (b::l);rw[Zcn,<-ih];simp[Lib.join,List.intercalate]
theorem Zqa : ∀l:List (LB),(∀x∈l,x.length<=n)->(Zcn l).length<=l.length*(n+1)
 | [],_=>Yag _
 | [a],h=>by have:=h a (by simp);simp only[Zcn,Yaj,Ybq];omega
 | a :: b :: l, h => by
   have ih:=Zqa _ (fun x c=>h x (Yam _ c));have d:=h a (by simp);have e:(Zcn (a::b::l)).length=a.length+((Zcn (b::l)).length+1):=by rw[Zcn,Yab,Yaj]
   rw[e,Yaj,Yfv];omega
theorem Zqb{bs:List BA}(h:w.ownsRow B 9 1 v bs.length (Zbc bs))(m:bs.length<=50)(o:∀b∈bs,b.size<=40000000000) :
  CP 68 #[v,.string ⟨#[10]⟩] w fun e u=>∃s:BA,e=.returned (.string s)/\Hid (bl s=Zcn (bs.map bl))/\BW w u:=by
 by_cases d:bs.length=0
 ·obtain⟨la,lc,rfl⟩:=Zl h;rw[d];refine(strings_Join_none la lc ⟨#[10]⟩ w).mono ?_;rintro e u ⟨rfl,rfl⟩;have:bs=[]:=Ya3 d;subst this;exact⟨_,rfl,hid rfl,Yaf _ _⟩
 ·obtain⟨g,lc,rfl⟩:=ZF h Om;have f:Lib.join (bs.map (·.data.toList)) [10]=Zcn (bs.map bl):=Zp9 _;have i:=Zqa (n:=40000000000) (bs.map bl) (fun x l=>by obtain⟨b,k,rfl⟩:=Ybe.1 l;rw[Zd];simp_all);rw[Yak]at i;have a:(Zcn (bs.map bl)).length<=140737488355328:=by omega
  have c:bs.length<=lc:=by
   rcases h.2 with ⟨e,_⟩|⟨g',cap,cur,e,_,_,p,_⟩
   ·cases e
   ·simp_all
  rw[<-f]at a;refine(strings_Join g 0 lc bs ⟨#[10]⟩ w ?_ (Z1 h) Om c a).mono ?_
  ·intro j x f;rw[Ycf];exact Zi h j _ (by show(bs.map Value.string)[j]?=_;simp_all)
  ·rintro e u ⟨rfl,k⟩;exact⟨_,rfl,hid (by assumption),k⟩
structure MOk (x mb gb:Nat) (sv:Value) (ss:List Srs) (tm:Int) (w:World):Prop where
 m:BAt w mb [sv,Vi tm,Vp gb] 193
 g:BAt w gb [.map (some x)] 281
 map:MapX w x
 sto:StoP w sv ss
theorem MOk.belX{mb:Nat}(h:MOk x mb gb sv ss tm w)(c:BelX x w.heap.size w w')(d:MapX w' x):MOk x mb gb sv ss tm w':=by
 have a:=Zo.belX c h.map;exact⟨a _ _ _ _ h.m,a _ _ _ _ h.g,d,h.sto.jv a⟩
theorem MOk.below{mb:Nat}(h:MOk x mb gb sv ss tm w)(a:BW w w'):MOk x mb gb sv ss tm w':=by
 refine h.belX (BelX.of a) ?_;obtain⟨es,cl,c⟩:=h.map;exact⟨es,cl,(a.block x (Yae.1 c).1).trans c⟩
theorem Zh.jv{t:Tr}(h:Zh w t v)(a:Zo w w'):Zh w' t v:=Zh.mono (fun _ _ h=>h.jv a) (fun _ _ h=>h.jv a) t v h
def SayP(x mb gb:Nat)(sv:Value)(ss:List Srs)(tm:Int)(t:Tr)(w:World)(e:Ending)(w':World):Prop:=∃v,e=.returned v/\Hid (ValP w' v (sayT (ss.map Srs.ser) tm t))/\Hid (MOk x mb gb sv ss tm w')/\Hid (BelX x w.heap.size w w')
def ZcC(x mb gb:Nat)(sv:Value)(ss:List Srs)(tm:Int)(t:Tr):Prop:=∀(pv:Value) (w:World),MOk x mb gb sv ss tm w->Zh w t pv->CP 93 #[Vp mb,pv] w (SayP x mb gb sv ss tm t w)
variable {x mb gb:Nat} {sv:Value} {ss:List Srs} {tm:Int}
theorem ZBR(nd:Nd)(l r:Tr)(a b:Nat)(i:nd.jk=0)(c:vOk nd.n):ZcC x mb gb sv ss tm (.node a b nd l r):=by
 intro pv w d e
 have f:pv=.iface 119 (.agg #[Vi nd.n]):=by
  rcases e with ⟨_,h⟩|⟨h,_⟩|⟨h,_⟩|⟨h,_⟩|⟨h,_⟩|⟨h,_⟩
  ·exact h
  all_goals omega
 subst f;have j:Hid (sayT (ss.map Srs.ser) tm (.node a b _ l r)=.inl _):=hid (by unfold sayT;rw[if_pos i]);have k:=hid d;have m:=hid c;clear e d c;have p:=ZhB (.agg #[Vi nd.n]);go_enter func93,ntmps93;go_wp2;go_ret;have g:∀o,Below _ w (w.alloc o):=fun o=>Zbal;exact⟨_,rfl,hid (j.out▸⟨rfl,m.out⟩),hid (k.below (g _)),hid (BelX.of (g _))⟩
theorem ZBQ(nd:Nd)(l r:Tr)(a b:Nat)(z:nd.jk=3)(f:ZcC x mb gb sv ss tm l):ZcC x mb gb sv ss tm (.node a b nd l r):=by
 intro pv w k m
 obtain⟨y,n,j⟩:∃y,pv=.iface 121 (.agg #[y])/\Zh w l y:=by
  rcases m with ⟨h,_⟩|⟨h,_⟩|⟨h,_⟩|⟨_,y,o,p⟩|⟨h,_⟩|⟨h,_⟩
  ·omega
  ·omega
  ·omega
  ·exact⟨y,o,p⟩
  ·omega
  ·omega
 subst n;obtain⟨ty,uv,rfl⟩:=j.shape;have A:Hid (sayT (ss.map Srs.ser) tm (.node a b nd l r)=negV _):=hid (by rw[sayT,if_neg Om,if_neg Om,if_neg Om,if_pos z]);have B:=hid k;have C:=hid j;have D:=hid f;clear m k j f;have o:=ZhA (.agg #[.iface ty uv]);have p:=Zhz (.agg #[.iface ty uv]);go_enter func93,ntmps93
 go_wp2_with fail
 refine Zm fun W q=>?_;have c:Below _ w W:=q▸Zbal;clear q;refine(D _ W (B.below c) (C.below c)).mono ?_;rintro e F ⟨v5,rfl,s,t,g⟩;have i:=hid ((BelX.of c).trans (g.mono c.size));clear c g
 go_wp2_with fail
 refine(ZmQ _ _ s).mono ?_;rintro e G ⟨v6,rfl,E,d⟩;have u:=hid (t.below d);have v:=hid (i.trans ((BelX.of d).mono i.size));clear d;go_wp2;go_ret;exact⟨_,rfl,hid (by rwa [A.out]),u,v⟩
def VecP(x mb gb:Nat)(sv:Value)(ss:List Srs)(tm:Int)(t:Tr)(w:World)(e:Ending)(w':World):Prop:=∃s l is,e=.returned s/\Hid (VecV w' s l is/\sayT (ss.map Srs.ser) tm t=.inr l)/\Hid (MOk x mb gb sv ss tm w')/\Hid (BelX x w.heap.size w w')
theorem Znu(t:Tr)(f:ZdN (sayT (ss.map Srs.ser) tm t)=true)(ih:ZcC x mb gb sv ss tm t)(ty:TypeId)(uv:Value)(w:World)(g:MOk x mb gb sv ss tm w)(i:Zh w t (.iface ty uv)):CP 158 #[Vp mb,.iface ty uv] w (VecP x mb gb sv ss tm t w):=by
 have q:=hid (ih _ w g i)
 obtain⟨l,j⟩:∃l,sayT (ss.map Srs.ser) tm t=.inr l:=by
  cases h:sayT (ss.map Srs.ser) tm t with
  | inl n=>rw[h]at f;cases f
  | inr l=>exact⟨l,rfl⟩
 have k:=hid j;clear g i f j ih;go_enter func158,ntmps158
 go_wp2_with fail
 refine q.mono ?_;rintro e r ⟨v5,rfl,c,m,o⟩;have d:=c.out;rw[k]at d;obtain⟨s,is,rfl,a⟩:=d;have p:=hid a;obtain⟨sa,scp,rfl⟩:=Zl a.row;clear a c;have u:=asVV (.slice sa is.length scp);go_wp2;go_ret;exact⟨_,l,is,rfl,hid ⟨p,k⟩,m,o⟩
def EitP(x mb gb:Nat)(sv:Value)(ss:List Srs)(tm:Int)(t u:Tr)(w:World)(e:Ending)(w':World):Prop:=∃s l is,e=.returned s/\Hid (VecV w' s l is/\(if (Zcm (sayT (ss.map Srs.ser) tm t)).isEmpty then sayT (ss.map Srs.ser) tm u else sayT (ss.map Srs.ser) tm t)=.inr l)/\Hid (MOk x mb gb sv ss tm w')/\Hid (BelX x w.heap.size w w')
theorem ZvE(t u:Tr)(q:ZdN (sayT (ss.map Srs.ser) tm t)=true)(r:ZdN (sayT (ss.map Srs.ser) tm u)=true)(f:ZcC x mb gb sv ss tm t)(g:ZcC x mb gb sv ss tm u){ty uy:TypeId}{uv:Value}(w:World)(m:MOk x mb gb sv ss tm w)(h:Zh w t (.iface ty tv))(i:Zh w u (.iface uy uv)) :
  CP 153 #[Vp mb,.iface ty tv,.iface uy uv] w (EitP x mb gb sv ss tm t u w):=by
 have F:=hid (Znu t q f _ _ w m h);have G:=hid (fun W H I=>Znu u r g uy uv W H I);have v:=hid i;have z:=hid m.map;clear m h i q r f g;go_enter func153,ntmps153
 go_wp2_with fail
 refine F.mono ?_;rintro e K ⟨s,l,is,rfl,a,j,c⟩;obtain⟨sa,scp,rfl⟩:=Zl a.1.row;have d:=a.1.len'.symm;have n:=a.1.len;by_cases o:is.length=0
 ·have p:Hid ((Zcm (sayT (ss.map Srs.ser) tm t)).isEmpty=true):=by rw[a.2];show l.isEmpty=true;rw[Ydl];exact Ya3 Om
  rw[o];have A:=Zo.belX c z;have B:=hid (v.jv A);clear A d n o
  go_wp2_with fail
  refine(G _ j B).mono ?_;rintro e L ⟨s6,l6,is6,rfl,k,C,D⟩;have E:=hid (c.trans (D.mono c.size));go_wp2;go_ret;exact⟨_,l6,is6,rfl,hid ⟨k.1,if_pos p.out▸k.2⟩,C,E⟩
 ·have p:Hid (¬(Zcm (sayT (ss.map Srs.ser) tm t)).isEmpty=true):=by rw[a.2];show ¬l.isEmpty=true;rw[Ydl];intro e;subst e;exact o d
  have J:(0:Int)<(is.length):=by omega
  clear d;go_wp2;go_ret;exact⟨_,l,is,rfl,hid ⟨a.1,if_neg p.out▸a.2⟩,j,c⟩
end
section
variable {x mb gb:Nat} {sv:Value} {ss:List Srs} {tm:Int}
theorem ZBT(nd:Nd)(l r:Tr)(a b:Nat)(F:nd.jk=1)(o:Dst (ss.map Srs.ser))(s : -1000000<=tm)(t:tm<=1000000):ZcC x mb gb sv ss tm (.node a b nd l r):=by
 intro pv w k v
 obtain⟨nm,la,ln,lc,z,p,q⟩:∃(nm:BA) (la:Option _) (ln lc:Nat),pv=.iface 148 (.agg #[.string nm,.slice la ln lc])/\bl nm=nd.name/\ZX w (.slice la ln lc) nd.ku:=by
  rcases v with ⟨h,_⟩|⟨_,h⟩|⟨h,_⟩|⟨h,_⟩|⟨h,_⟩|⟨h,_⟩
  ·omega
  ·exact h
  all_goals omega
 subst z;obtain⟨sa,scp,rfl⟩:=Zl k.sto.row;have G:Hid (sayT (ss.map Srs.ser) tm (.node a b nd l r)=.inr _):=hid (by rw[sayT,if_neg Om,if_pos F]);have H:=hid k;have A:=hid (fun W i=>ZrF _ W (k.below i).sto o p (q.below i) s t);clear v k p q o;have I:=ZhE (.agg #[.string nm,.slice la ln lc]);have J:=ZhD (.agg #[.string nm,.slice la ln lc]);have K:=ZhF (.agg #[.string nm,.slice la ln lc]);have L:=ZhC (.agg #[.string nm,.slice la ln lc]);have M:=ZhG (.agg #[.string nm,.slice la ln lc]);have N:=ZgD (.agg #[.string nm,.slice la ln lc]);go_enter func93,ntmps93
 go_upto_region 22 with fail
 refine ZP fun W i=>?_;have j:Below _ w W:=i▸Zbal;have n:Hid (BAt W _ _ 148):=i▸bnw;have g:=hid (H.below j);have c:=hid j;clear i j I J K L M N;have x0:=n.cell 0;have x1:=n.cell 1;have m0:=g.m.cell 0;have m1:=g.m.cell 1;simp only[Zget]at x0 x1 m0 m1
 go_region_held3 (fun u => u.cell? ⟨w.heap.size, 0, none⟩ = some (.string nm) /\ u.cell? ⟨w.heap.size, 1, none⟩ = some (.slice la ln lc) /\ u.cell? ⟨mb, 0, none⟩ = some (.slice sa ss.length scp) /\ u.cell? ⟨mb, 1, none⟩ = some (Vi tm)) (first | exact ⟨x0, x1, m0, m1⟩ | exact B.out | go_keep) (first
   | (go_at_call 161
      refine(A.out _ (by exact⟨c.os,c.tape,c.output,c.size,c.block⟩)).mono ?_;rintro e O ⟨v5,is5,rfl,C,d⟩;have f:Hid (BW W O):=hid ⟨d.os,d.tape,d.output,d.size,d.block⟩;have B:=hid (And.intro ((n.below f.out).cell 0) (And.intro ((n.below f.out).cell 1) (And.intro ((g.below f.out).m.cell 0) ((g.below f.out).m.cell 1))));clear d))
 have D:Hid (BelX x _ w _):=hid (BelX.of (c.trans (f.mono c.size)));have E:=hid (g.below f);go_wp2;go_ret;exact⟨_,rfl,hid (G.out▸⟨_,is5,rfl,C.out⟩),E,D⟩
theorem ZBU(nd:Nd)(l r:Tr)(a b:Nat)(U:nd.jk=2)(t:nd.op<=4)(I:1<=nd.n/\nd.n<=1000)(v:Dst (ss.map Srs.ser))(J : -1000000<=tm)(K:tm<=1000000):ZcC x mb gb sv ss tm (.node a b nd l r):=by
 intro pv w k L
 obtain⟨f,nm,la,ln,lc,M,z,A,B⟩:∃(f nm:BA) (la:Option _) (ln lc:Nat),pv=.iface 150 (.agg #[.string f,.string nm,.slice la ln lc,Vi nd.n])/\bl f=Z0.getD nd.op []/\bl nm=nd.name/\ZX w (.slice la ln lc) nd.ku:=by
  rcases L with ⟨h,_⟩|⟨h,_⟩|⟨_,h⟩|⟨h,_⟩|⟨h,_⟩|⟨h,_⟩
  ·omega
  ·omega
  ·exact h
  all_goals omega
 subst M;obtain⟨sa,scp,rfl⟩:=Zl k.sto.row;have N:Hid (sayT (ss.map Srs.ser) tm (.node a b nd l r)=.inr _):=hid (by rw[sayT,if_neg Om,if_neg Om,if_pos U]);have V:=hid k;have C:=hid (fun W j=>ZmR _ _ W (k.below j).sto A (B.below j) Om I.2 J K);have O:=hid (fun W=>ZqY t z W);have P:=hid v;have Q:=hid k.sto.len;clear L k A B v z I;obtain⟨nn,D⟩:∃nn,nn=nd.n:=⟨_,rfl⟩
 rw[<-D]at C N ⊢;clear D;have G:=ZhJ (.agg #[.string f,.string nm,.slice la ln lc,Vi nn]);have H:=ZhI (.agg #[.string f,.string nm,.slice la ln lc,Vi nn]);have X:=ZhK (.agg #[.string f,.string nm,.slice la ln lc,Vi nn]);have Y:=ZhH (.agg #[.string f,.string nm,.slice la ln lc,Vi nn]);have Z:=ZhL (.agg #[.string f,.string nm,.slice la ln lc,Vi nn]);go_enter func93,ntmps93
 go_upto_region 19 with fail
 refine ZP fun W j=>?_;have o:Below _ w W:=j▸Zbal;have g:Hid (BAt W _ [.string _,.string _,.slice _ _ _,.int _ _] 150):=j▸bnw;have i:=hid (V.below o);have c:=hid o;clear j o G H X Y Z;have x0:=g.cell 0;have x1:=g.cell 1;have x2:=g.cell 2;have x3:=g.cell 3;have m0:=i.m.cell 0;have m1:=i.m.cell 1;simp only[Zget]at x0 x1 x2 x3 m0 m1;have E:Hid (∀u,Below _ W u->u.cell? _=some _/\u.cell? _=some _/\u.cell? _=some _/\u.cell? _=some _/\u.cell? _=some _/\u.cell? _=some _):=hid (fun u h=>⟨(g.below h).cell 0,(g.below h).cell 1,(g.below h).cell 2,(g.below h).cell 3,(i.below h).m.cell 0,(i.below h).m.cell 1⟩)
 go_region_held3 (fun u => u.cell? ⟨w.heap.size, 0, none⟩ = some (.string f) /\ u.cell? ⟨w.heap.size, 1, none⟩ = some (.string nm) /\ u.cell? ⟨w.heap.size, 2, none⟩ = some (.slice la ln lc) /\ u.cell? ⟨w.heap.size, 3, none⟩ = some (Vi nn) /\ u.cell? ⟨mb, 0, none⟩ = some (.slice sa ss.length scp) /\ u.cell? ⟨mb, 1, none⟩ = some (Vi tm)) (first | exact ⟨x0, x1, x2, x3, m0, m1⟩ | exact E.out _ p.out | exact E.out _ q.out | go_keep) (first
   | (go_at_call 124
      refine(O.out _).mono ?_;rintro e w4 ⟨rfl,rfl⟩)
   | (go_at_call 160
      refine(C.out _ (by exact⟨c.os,c.tape,c.output,c.size,c.block⟩)).mono ?_;rintro e w5 ⟨v5,rs5,rfl,s,d⟩;have q:Hid (BW W w5):=hid ⟨d.os,d.tape,d.output,d.size,d.block⟩;clear d)
   | (go_at_call 159
      refine(ZrE nd.op t v5 rs5 (ss.map Srs.ser) nd nn tm s.1 s.2 P.out (by
        have G:=congrArg List.length s.2;rw[Yak]at G;have H:=ZmZ (ss.map Srs.ser) nd nn tm;rw[Yak]at H;have:=Q.out;omega)).mono ?_
      rintro e w6 ⟨v6,is6,rfl,R,F⟩;have p:Hid (BW W w6):=hid (q.trans (F.mono q.size));clear F))
 have S:Hid (BelX x _ w _):=hid (BelX.of (c.trans (p.mono c.size)));have T:=hid (i.below p);go_wp2;go_ret;exact⟨_,rfl,hid (N.out▸⟨_,is6,rfl,R.out⟩),T,S⟩
theorem ZBS(nd:Nd)(l r:Tr)(a b:Nat)(o:nd.jk=6)(t:ZdN (sayT (ss.map Srs.ser) tm l)=true)(u:ZdN (sayT (ss.map Srs.ser) tm r)=true)(f:ZcC x mb gb sv ss tm l)(g:ZcC x mb gb sv ss tm r):ZcC x mb gb sv ss tm (.node a b nd l r):=by
 intro pv w k v
 obtain⟨p,q,i,m,n⟩:∃p q,pv=.iface 116 (.agg #[Vi (opNo nd),p,q])/\Zh w l p/\Zh w r q:=by
  rcases v with ⟨h,_⟩|⟨h,_⟩|⟨h,_⟩|⟨h,_⟩|⟨h,_⟩|⟨_,h⟩
  ·omega
  ·omega
  ·omega
  ·omega
  ·omega
  ·exact h
 have z:opNo nd=0:=by unfold opNo;rw[if_pos o]
 rw[z]at i;subst i;obtain⟨ty,tv,rfl⟩:=m.shape;obtain⟨uy,uv,rfl⟩:=n.shape;have D:Hid (sayT _ _ (.node a b nd l r)=if (Zcm _).isEmpty then sayT _ tm r else sayT (ss.map Srs.ser) _ l):=hid (by rw[sayT,if_neg Om,if_neg Om,if_neg Om,if_neg Om,if_neg Om,if_pos o]);have F:=hid k;have E:=hid (fun W d=>ZvE l r t u f g W (k.below d) (m.below d) (n.below d));clear v k m n t u f g z;have G:=ZgB (.agg #[Vi (0:Nat),.iface ty tv,.iface uy uv]);have H:=ZgA (.agg #[Vi (0:Nat),.iface ty tv,.iface uy uv]);have I:=ZgC (.agg #[Vi (0:Nat),.iface ty tv,.iface uy uv]);simp only[Int.natCast_zero]at *
 go_enter func93,ntmps93
 go_wp2_with fail
 refine Zm fun W d=>?_;have c:Below _ w W:=d▸Zbal;clear d;refine(E W c).mono ?_;rintro e J ⟨s,l5,is5,rfl,j,A,B⟩;have C:=hid ((BelX.of c).trans (B.mono c.size));clear c;go_wp2;go_ret;exact⟨_,rfl,hid (D.out▸j.2▸⟨_,is5,rfl,j.1⟩),A,C⟩
end
section
variable {x mb gb:Nat} {sv:Value} {ss:List Srs} {tm:Int}
theorem MapX.lt(h:MapX w x):x<w.heap.size:=by
 obtain⟨es,cl,a⟩:=h;exact(Yae.1 a).1
theorem ZBO(nd:Nd)(l r:Tr)(a b:Nat)(hk:nd.jk=4)(S:nd.op<=3)(B:VOk 1000 (sayT (ss.map Srs.ser) tm r))(C:ZcC x mb gb sv ss tm l)(D:ZcC x mb gb sv ss tm r):ZcC x mb gb sv ss tm (.node a b nd l r):=by
 intro pv w K T
 obtain⟨p,q,E,L,M⟩:∃p q,pv=.iface 116 (.agg #[Vi (opNo nd),p,q])/\Zh w l p/\Zh w r q:=by
  rcases T with ⟨h,_⟩|⟨h,_⟩|⟨h,_⟩|⟨h,_⟩|⟨h,_⟩|⟨_,h⟩
  ·omega
  ·omega
  ·omega
  ·omega
  ·omega
  ·exact h
 have U:opNo nd=nd.op+1:=by unfold opNo;rw[if_neg Om]
 rw[U]at E;subst E;obtain⟨ty,tv,rfl⟩:=L.shape;obtain⟨uy,uv,rfl⟩:=M.shape;have HS:Hid (sayT (ss.map Srs.ser) tm (.node a b nd l r)=Zdg _ _ _):=hid (by rw[sayT,if_neg Om,if_neg Om,if_neg Om,if_neg Om,if_neg Om,if_neg Om]);have HM:=hid K;have V:Hid (Zh w l _/\Zh w r _):=⟨L,M⟩
 have X:=hid B;have Y:Hid (∀W,MOk x _ _ _ _ _ W->Zh W l (.iface ty tv)->Calls _ _ _ W _):=hid (fun W k n=>C _ W k n);have Z:Hid (∀W,MOk x _ _ _ _ _ W->Zh W r (.iface uy uv)->Calls _ _ _ W _):=hid (fun W k n=>D _ W k n);obtain⟨oz,o⟩:∃oz:Int,oz=((nd.op+1:Nat)):=⟨_,rfl⟩
 have F:=hid o;have N:(oz == 0)=false:=by rw[beq_eq_false_iff_ne];omega
 rw[<-o];have a6:=K.map.lt;clear T K L M B C D U o;have k:=ZgB (.agg #[Vi oz,.iface ty tv,.iface uy uv]);have n:=ZgA (.agg #[Vi oz,.iface ty tv,.iface uy uv]);have h3:=ZgC (.agg #[Vi oz,.iface ty tv,.iface uy uv]);go_enter func93,ntmps93
 go_upto_region 12 with fail
 refine ZP fun W O=>?_;have f:Below _ w W:=O▸Zbal;have A:Hid (BAt W _ _ 116):=O▸bnw;have d:=hid (HM.below f);have G:Hid (Zh W l _/\Zh W r _):=hid ⟨V.1.below f,V.2.below f⟩;have H:=hid f;clear O f k n h3 N;have x0:=A.cell 0;have x1:=A.cell 1;have x2:=A.cell 2;simp only[Zget]at x0 x1 x2
 have t : Hid (∀ u, BelX x _ W u -> u.cell? _ = some _ /\ u.cell? _ = some _ /\ u.cell? _ = some _) := hid (fun u h => by
   have g:=A.belX h Om;exact⟨g.cell 0,g.cell 1,g.cell 2⟩)
 go_region_held3 (fun u => u.cell? ⟨w.heap.size, 0, none⟩ = some (Vi oz) /\ u.cell? ⟨w.heap.size, 1, none⟩ = some (.iface ty tv) /\ u.cell? ⟨w.heap.size, 2, none⟩ = some (.iface uy uv)) (first | exact ⟨x0, x1, x2⟩ | exact t.out _ I.out | exact t.out _ v.out | exact t.out _ j.out | go_keep) (first
   | (go_at_call 93
      refine(Z.out P J.out a0.out).mono ?_;rintro e Q ⟨v6,rfl,a1,a2,i⟩;have v:Hid (BelX x W.heap.size W Q):=hid (j.trans (i.mono j.size));have R:Hid (ValP Q v5 (sayT (ss.map Srs.ser) tm l)):=hid (a3.jv (Zo.belX i.out J.map));clear i)
   | (go_at_call 93
      refine(Y.out _ (by exact⟨d.m,d.g,d.map,⟨d.sto.row,fun s hs=>(d.sto.ok s hs).jv (Zo.refl _),d.sto.len⟩⟩) (by exact G.1.jv (Zo.refl _))).mono ?_;rintro e P ⟨v5,rfl,a3,J,c⟩;have j:Hid (BelX x W.heap.size W P):=hid ⟨c.os,c.tape,c.output,c.size,c.block⟩;have a0:Hid (Zh P r (.iface uy uv)):=hid (G.2.jv (Zo.belX j.out d.map));clear c)
   | (go_at_call 154
      rw[F.out];refine(ZmH nd.op S v5 v6 _ _ Q R.out a1.out X.out).mono ?_;rw[<-F.out];rintro e w7 ⟨v7,rfl,a7,z⟩;have a4:=hid (a2.below z);have I:Hid (BelX x W.heap.size W w7):=hid (v.trans ((BelX.of z).mono v.size));clear z))
 have a5:=hid ((BelX.of H).trans (I.mono H.size));go_wp2;go_ret;exact⟨_,rfl,hid (by rwa [HS.out]),a4,a5⟩
theorem ZBP(nd:Nd)(l r:Tr)(a b:Nat)(hk:nd.jk=5)(H:nd.op<=3)(v:nd.by_.length<=100000)(I:ZdN (sayT (ss.map Srs.ser) tm l)=true)(J:ZcC x mb gb sv ss tm l):ZcC x mb gb sv ss tm (.node a b nd l r):=by
 intro pv w V hP
 obtain⟨i,la,ln,lc,q,a0,K,a1,X⟩:∃(i:BA) (la:Option _) (ln lc:Nat) (q:Value),pv=.iface 124 (.agg #[.string i,.slice la ln lc,q])/\bl i=ZW.getD nd.op []/\Zbm w (.slice la ln lc) nd.by_/\Zh w l q:=by
  rcases hP with ⟨h,_⟩|⟨h,_⟩|⟨h,_⟩|⟨h,_⟩|⟨_,h⟩|⟨h,_⟩
  ·omega
  ·omega
  ·omega
  ·omega
  ·exact h
  ·omega
 subst a0;obtain⟨ty,tv,rfl⟩:=X.shape;obtain⟨bs,A,B⟩:=a1;have L:bs.length<=100000:=by rw[<-B,Yak]at v;exact v
 obtain⟨av,cpv,a2⟩:=Zl A;injection a2 with e1 e2 e3;subst e2;have HS:Hid (sayT (ss.map Srs.ser) tm (.node a b nd l r)=.inr (Zcv _ (bs.map _) _)):=hid (by rw[sayT,if_neg Om,if_neg Om,if_neg Om,if_neg Om,if_pos hk,B]);have HM:=hid V;have HP:=hid X;have a3:=hid A;have a4:=hid (fun W Y Z=>Znu l I J ty tv W Y Z);have a5:=hid (fun W=>ZqX H K W);have b2:=V.map.lt;clear hP V X A I J K B v e1 e3;have Y:=Zhx (.agg #[.string i,.slice la bs.length lc,.iface ty tv]);have Z:=Zhw (.agg #[.string i,.slice la bs.length lc,.iface ty tv]);have h3:=Zhy (.agg #[.string i,.slice la bs.length lc,.iface ty tv]);have h4:=Zhv (.agg #[.string i,.slice la bs.length lc,.iface ty tv]);go_enter func93,ntmps93
 go_wp2_with fail
 refine Zm fun W hW=>?_;have M:Below _ w W:=hW▸Zbal;have HX:Hid (BAt W _ [.string _,.slice _ _ _,.iface _ _] 124):=hW▸bnw;have j:=hid M;clear hW M Y Z h3 h4;refine(Zs0 W _ _ _ rfl).mono ?_;rintro e z ⟨rfl,k⟩;have n:Below _ W _:=k▸Zbal;have N:z.cell? ⟨W.heap.size,0,none⟩=some (.slice _ _ _):=k▸Ydm _ _ _ _ (by simp) |>.trans rfl
 have O:W.heap.size<z.heap.size:=by rw[k];simp
 have P:=hid (Zsp L O N (Zn a3 (j.trans (n.mono j.size))));have C:=hid (j.trans (n.mono j.size));have Q:=hid (HX.below n);clear k n N O HX j
 go_wp2_with fail
 refine P.mono ?_;rintro e G ⟨nv,bs',rfl,f,D⟩;have f:=hid (And.intro (f.1.mono (Yag _)) f.2);obtain⟨na,ncp,rfl⟩:=Zl f.1;have o:=hid (C.trans (D.mono C.size));have p:=hid (Q.below D);have c:=hid (HM.below o);have a6:=hid (HP.below o);clear D Q C P;have x0:=p.cell 0;have x1:=p.cell 1;have x2:=p.cell 2;have m2:=c.m.cell 2;simp only[Zget]at x0 x1 x2 m2
 have a7:mb≠x:=by
  intro e;obtain⟨es,cl,hx⟩:=c.map;have:=c.m;rw[e]at this;unfold BAt at this;rw[hx]at this;cases this
 have R : Hid (∀ u, BelX x _ _ u -> u.cell? _ = some _ /\ u.cell? _ = some _ /\ u.cell? _ = some _) := hid (fun u h => by
   have g:=p.belX h Om;have g2:=c.m.belX h a7;exact⟨g.cell 0,g.cell 2,g2.cell 2⟩)
 go_upto_region 16 with fail
 go_region_held3 (fun u => u.cell? ⟨w.heap.size, 0, none⟩ = some (.string i) /\ u.cell? ⟨w.heap.size, 2, none⟩ = some (.iface ty tv) /\ u.cell? ⟨mb, 2, none⟩ = some (Vp gb)) (first | exact ⟨x0, x2, m2⟩ | exact R.out _ S.out | exact R.out _ t.out | go_keep) (first
   | (go_at_call 124
      refine(a5.out _).mono ?_;rintro e w4 ⟨rfl,rfl⟩)
   | (go_at_call 158
      refine(a4.out _ (by exact⟨c.m,c.g,c.map,⟨c.sto.row,fun s hs=>(c.sto.ok s hs).jv (Zo.refl _),c.sto.len⟩⟩) (by exact a6.jv (Zo.refl _))).mono ?_;rintro e w6 ⟨v6,l6,is6,rfl,T,E,d⟩;have t:Hid (BelX x G.heap.size G w6):=hid ⟨d.os,d.tape,d.output,d.size,d.block⟩;have a8:=hid ((Zo.belX t.out c.map).own f.1);clear d)
   | (go_at_call 157
      refine(ZqW gb x nd.op H bs' v6 l6 is6 w6 E.g E.map a8.out (by rw[f.2.1];exact L) f.2.2.1 T.1).mono ?_;rintro e w7 ⟨v7,is7,rfl,U,F⟩;have a9:=hid (E.belX F U.2);have S:Hid (BelX x G.heap.size G w7):=hid (t.trans (F.mono t.size));clear F))
 have b0:=hid ((BelX.of o).trans (S.mono o.size));have b1:Hid (VecV w7 v7 (Zcv nd.op (bs.map bl) l6) is7):=by rw[<-ZpJ f.2.2.2];exact U.1
 go_wp2;go_ret;exact⟨_,rfl,hid (HS.out▸T.2▸⟨_,is7,rfl,b1.out⟩),a9,b0⟩
end
section
variable {x mb gb:Nat} {sv:Value} {ss:List Srs} {tm:Int}
theorem Zm4(j : -1000000<=tm)(k:tm<=1000000)(o:Dst (ss.map Srs.ser))(A:ss.length<=30):∀t:Tr,wfT t->wT t<=100000->winT t->isNil t=false->Zf t≠0->ZcC x mb gb sv ss tm t
 | .nil,_,_,_,h,_=>by cases h
 | .node p q a l r, c, B, g, _, d => by
   have z:ownW a+wT l+wT r<=100000:=B;have u:=c.2.2.2.2.2.2.2.2.2.2.1;have v:=c.2.2.2.2.2.2.2.2.2.2.2;have m:=fun h i=>Zm4 j k o A l u Om g.2.1 h i;have w:=fun h i=>Zm4 j k o A r v Om g.2.2 h i;have D:=c.1;have f:=c.2.2.2.2.2.2.1;have s:=c.2.2.2.2.2.2.2.1;have vl:isNil l=false->Zf l=2->ZdN (sayT (ss.map Srs.ser) tm l)=true:=fun h i=>by rw[Zj7 _ tm l u h Om,i];rfl
   have vr:isNil r=false->Zf r=2->ZdN (sayT (ss.map Srs.ser) tm r)=true:=fun h i=>by rw[Zj7 _ tm r v h Om,i];rfl
   have kl:=Zid l;have kr:=Zid r;unfold Zf at d;rcases(by omega:a.jk=0∨a.jk=1∨a.jk=2∨a.jk=3∨a.jk=4∨a.jk=5∨a.jk=6)with h|h|h|h|h|h|h
   · exact ZBR a l r p q h (by unfold vOk;have:=c.2.2.2.2.1;have:=c.2.2.2.2.2.1;omega)
   · exact ZBT a l r p q h o j k
   · exact ZBU a l r p q h c.2.1 (g.1 h) o j k
   · rw[if_neg Om,if_neg Om,if_pos h]at d
     exact ZBQ a l r p q h (m (f Om) d)
   · rw[if_neg Om,if_neg Om,if_neg Om,if_neg Om]at d
     by_cases n:Zf l=0∨Zf r=0∨(a.jk=6/\Zf l+Zf r≠4)
     · simp_all
     · refine ZBO a l r p q h (c.2.2.1 h) ((Zj8 o _ r).mono (by simp_all;omega)) (m (f Om) (fun e=>n (.inl e))) (w (s Om) (fun e=>n (.inr (.inl e))))
   · rw[if_neg Om,if_neg Om,if_neg Om,if_pos h]at d
     by_cases n:Zf l=2
     · refine ZBP a l r p q h (c.2.2.2.1 h) (by have:=Zmw a.by_;unfold ownW at z;omega) (vl (f Om) n) (m (f Om) Om)
     simp_all
   · rw[if_neg Om,if_neg Om,if_neg Om,if_neg Om]at d
     by_cases n:Zf l=0∨Zf r=0∨(a.jk=6/\Zf l+Zf r≠4)
     · simp_all
     · have E:Zf l+Zf r=4:=by
         refine Yb6 fun C=>n (.inr (.inr ⟨h,C⟩))
       exact ZBS a l r p q h (vl (f Om) Om) (vr (s Om) Om) (m (f Om) Om) (w (s Om) Om)
end
section
theorem ZtJ(t:Tr){ts:List Int}{pv:Value}(e2:ts.length<=50)(P:∀t∈ts,-1000000<=t/\t<=1000000)(n:w.ownsRow 0 3 1 tv ts.length (ts.map (Value.int .i64)))(hP:Zh w t pv)(hS:StoP w sv ss)
  (F:∀x mb gb tm,-1000000<=tm->tm<=1000000->ZcC x mb gb sv ss tm t) (Q:∀tm,VOk 30 (sayT (ss.map Srs.ser) tm t)) (hp:ZR w) (hB:20<=w.heap.size) :
  CP 42 #[pv,sv,tv] w fun e w'=>∃r:BA,e=.returned (.string r)/\Hid (bl r=Zcn (ts.map (Zeu (ss.map Srs.ser) t)))/\BW w w':=by
 obtain⟨i0,hi,R,S,T⟩:=info_parts Tryz.infoStrG;obtain⟨ta,tcp,rfl⟩:=Zl n;obtain⟨sa,scp,rfl⟩:=Zl hS.row;obtain⟨pty,pu,rfl⟩:=hP.shape;have HP:=hid hp;have U:=hid hB;have b6:=hid P;have G:=hid n;have b7:=hid hP;have b8:=hid hS;have a9:=hid F;have b9:=hid Q;clear hp hB P n hP hS F Q;go_enter func42,ntmps42
 go_wp2_with fail
 refine(Zmp w).mono ?_;rintro e w1 ⟨rfl,V,X,o,Y⟩;have Z:=hid Y;have H:=hid o;clear Y o
 go_wp2_with (at_make;refine wpList_make_own _ rfl _ _ 122 rfl (w.heap.size+3) 9 i0 _ 1 underlying122 hi R S _ _ _ ts.length rfl rfl rfl ?b2 ?b3 ?b4 ?_)
 case b2=>rw[T];omega
 case b3=>unfold maxLen;omega
 case b4=>simp;have:=H.out;omega
 intro z p c;have o:=H.out;have f:Hid (BAt _ _ _ 193):=hid (BAt.grown bnw c (by simp));have s:=hid ((X.alloc _).grown c (by simp));have A:=hid ((V.below Zbal).grown c (by simp));have c6:=hid ((Z.alloc Om _).grown c (by simp;omega) (fun q hq=>by cases hq));have c7:=hid p;clear c p;generalize w1.heap.size=mb at *
 subst o;clear V X Z H;go_wp2
 go_loopw [8,19] (fun v i wr=>∃(k:Nat) (rs:List BA) (tm:Int),k<=ts.length/\i=Vi k/\rs.length=k/\Hid (wr.ownsRow (w.heap.size+3) 9 1 v rs.length (Zbc rs))/\Hid (rs.map bl=(ts.take k).map (Zeu (ss.map Srs.ser) t))/\Hid (∀r∈rs,r.size<=40000000000)/\Hid (BAt wr (w.heap.size+2) [.slice sa ss.length scp,Vi tm,Vp (w.heap.size+1)] 193)/\Hid (BAt wr (w.heap.size+1) [.map (some w.heap.size)] 281)/\Hid (MapX wr w.heap.size)/\Hid (BW w wr)) (fun _ i _=>ts.length - (intOf i).toNat)
 case atStart=>exact⟨0,[],0,Yag _,rfl,rfl,c7,hid rfl,hid (fun r hr=>by cases hr),f,s,A,c6⟩
 case round=>
  rename World=>wo
  obtain⟨k,rs,tm,hk,rfl,c8,HO,HL,HZ,f,s,A,I⟩:=hrel;have c9:=I.size;have e3:=f.lt;by_cases J:k<ts.length
  ·have hg:∃g,ta=some ⟨g,0,none⟩:=by
    obtain⟨g,cp',h⟩:=ZF G.out Om;injection h with h1;exact⟨g,h1⟩
   obtain⟨tg,rfl⟩:=hg;have d1:=Zi (Zn G I) k _ (by rw[Ya2,List.getElem?_eq_getElem J];rfl);have d0:Hid ((ts.take (k+1)).map (Zeu (ss.map Srs.ser) t)=(ts.take k).map (Zeu (ss.map Srs.ser) t)++[Zeu (ss.map Srs.ser) t ts[k]]):=by rw[List.take_succ_eq_append_getElem J,Yaq];rfl
   have K:=hid (b6 _ (List.getElem_mem J));generalize ts[k]=tk at *
   have e4:(k:Int)<(ts.length):=by omega
   have y1:=f.cell;have fz1:=f.frozen 1
   go_wp2_with fail
   refine Zm fun W E=>?_;have l:Hid _:=E▸I.setCell (by simp) _;have d2:=l.size
   have L : Hid (MOk _ _ _ _ _ _ W) := hid ⟨E▸f.set1, E▸s.other (by simp) _, by
     obtain⟨es,cl,hx⟩:=A.out;exact⟨es,cl,E▸(Go.Deep.blk_setCell_other _ _ _ _ (by simp)).trans hx⟩,b8.below l⟩
   have a0:Hid (W.ownsRow _ 9 1 _ _ _):=E▸ownsRow_setCell_below HO.out (by simp) _;have a1:=hid (b7.jv (Zo.below l));clear E I HO f s A y1 fz1 d1;refine(a9 _ _ _ _ K.1 K.2 _ W L a1).mono ?_;rintro e w5 ⟨v5,rfl,a2,a3,M⟩;have a4:=hid ((Zo.belX M L.map).own a0);have j:=hid (l.trans ((M.mono d2).below (Yac _)));have a5:=hid (HP.low j U);have d3:=j.size;clear L a0 a1 l M
   go_wp2_with fail
   refine(ZqI (by have:=K.out;unfold vOk;omega) _ a2 (b9 _) a5 (by have:=U.out;omega)).mono ?_;rintro e w6 ⟨r6,rfl,d4,a6,B⟩;have N:=hid (Zn a4 B);have a7:=hid (j.trans (B.mono d3));have C:=hid (a3.below B);have d5:=hid a6;have e5:=a7.size;have e6:=C.m.lt;clear B a6 a4 j a3 a5 a2
   go_wp2_with (at_builtin;refine wpList_append_own _ rfl (.tmp 25) (.tmp 30) 122 rfl (w.heap.size+3) 9 i0 (.string ByteArray.empty) 1 16 underlying122 hi R S T rfl Dc _ _ _ rfl (N.alloc _) ⟨w6.heap.size,0,none⟩ 1 1 [.string r6] rfl rfl ?c1 ?c2 ?c3 ?c4 ?c5 ?_)
   case c1=>exact ZcY rfl
   case c2=>intro u hu;simp at hu;subst hu;rfl
   case c3=>unfold maxLen;omega
   case c4=>omega
   case c5=>simp;omega
   intro v7 w7 O d _;have d6:Hid (w7.ownsRow (w.heap.size+3) 9 1 v7 (rs++[r6]).length (Zbc (rs++[r6]))):=by rwa [Zh2,Yab,c8]
   have D:∀a,a<w.heap.size+3->some a≠u8.ownBlock:=fun a ha e=>by have:=(N.lt a e.symm).1;omega
   have b0:=hid ((C.m.alloc _).grown d (D _ Om));have b1:=hid ((C.g.alloc _).grown d (D _ Om));have b5:=hid ((C.map.below Zbal).grown d (D _ Om));have d7:=hid ((a7.alloc Om _).grown d (by simp;omega) (fun q hq=>by have:=(N.lt q hq).1;omega));have d8:Hid ((rs++[r6]).map bl=(ts.take (k+1)).map (Zeu (ss.map Srs.ser) t)):=by rw[d0,Yaq,HL,Yco,d4];rfl
   have d9 : Hid (∀ r ∈ rs ++ [r6], r.size <= 40000000000) := hid (fun r hr => by
     rcases Yar.1 hr with h|h
     · exact HZ r h
     · rw[Yap]at h;subst h;exact d5)
   clear d O D;go_wp2
   go_roundw
   case rel=>exact⟨k+1,rs++[r6],tk,by omega,by go_num,by simp;omega,d6,d8,d9,b0,b1,b5,d7⟩
   case measure=>simp[intOf];omega
  ·obtain rfl:k=ts.length:=by omega
   have e0:Hid (rs.map bl=ts.map (Zeu (ss.map Srs.ser) t)):=by have:=HL.out;rwa [Ya4]at this
   go_wp2_with fail
   refine(Zqb HO Om HZ).mono ?_;rintro e w5 ⟨r5,rfl,e1,a8⟩;have j:=hid (I.trans (a8.mono c9));clear a8;go_wp2;go_ret;exact⟨_,rfl,hid (by rw[e1,e0]),j⟩
theorem Ze2{t:Tr}(h:ZD l=.ok t):wfT t/\isNil t=false/\wT t<=100000:=by
 unfold ZD at h;by_cases c:300<l.length
 ·simp_all
 ·rw[if_neg c]at h;have f:=ZjB l (l.length+1) 0 (Yag _);have g:=ZjC l Om (l.length+1) 0;cases a:Zs (10*(ZN l (l.length+1) 0).length+5) false 0 .nil (ZN l (l.length+1) 0) 0 with
  | error e=>simp_all
  | ok z=>
   obtain⟨t',r⟩:=z;rw[a]at h;have i:=Zfv _ _ _ _ _ _ _ (fun e=>by cases e) a;simp only at h;by_cases d:(hd r).jk=0
   ·rw[if_pos d]at h;by_cases j:Zf t'=0
    ·simp_all
    simp_all;omega
   simp_all
theorem Zpz(s:BA)(A:Nat->Addr)(m:Int)(w:World)(H:Vars w A m)(M:ZR w)(N:20<=w.heap.size)(I:s.size<=9223372036854775807) :
  CP 7 #[.string s] w fun e S=>∃(r:BA) (c p:Nat),e=.returned (.tuple #[.string r,Vi c,Vi p])/\Hid (Zey (bl s)=(bl r,c,p))/\Hid ((∃t,ZD (bl s)=.ok t)∨c≠0)/\BW w S:=by
 have O:=hid (Ziu s w I H.sents);have T:=hid H;have U:=hid M;have E:=hid N;clear H M N;go_enter func7,ntmps7
 go_wp2_with fail
 refine O.mono ?_;rintro e X ⟨pv,v,rfl,d,i⟩;have f:=hid i;have h:=hid (T.below i);have P:=hid (U.low i E);have J:=hid (Yah E i.size);clear i O;cases j:ZD (bl s)with
 | ok t=>
  rw[j]at d;obtain⟨rfl,q⟩:=d.out;obtain⟨F,K,G⟩:=Ze2 j;have o:Hid (Zey _=(Zu t 1,0,0)):=hid (by unfold Zey;rw[j]);have V:Hid (∃t,ZD _=.ok t):=hid ⟨t,j⟩;have Q:=hid (Zj6 F G _ q P J);obtain⟨ty,u,R⟩:=Zh.shape q;subst R;clear d j q F K G
  go_wp2_with fail
  refine Q.mono ?_;rintro e z ⟨r,rfl,W,a⟩;have g:=hid (f.trans (a.mono f.size));clear a Q;go_wp2
  go_ret3
  exact⟨r,0,0,rfl,hid (by rw[o,W]),hid (.inl V),g⟩
 | error x=>
  rw[j]at d;have o:Hid (Zey _=([],x.1,x.2)):=hid (by unfold Zey;rw[j]);clear j;rcases d.out with ⟨rfl,rfl⟩|⟨rfl,rfl⟩|⟨B,n⟩|⟨B,n⟩
  ·clear d
   go_wp2_with fail
   refine(ZjQ A m _ h).mono ?_;rintro e L ⟨rfl,rfl⟩
   go_wp2_with fail
   refine(Zdm A m _ h).mono ?_;rintro e z ⟨rfl,a⟩;have g:=hid (f.trans (a.mono f.size));clear a;go_wp2
   go_ret3
   exact⟨⟨#[]⟩,1,0,rfl,o,hid (.inr Dc),g⟩
  ·clear d
   go_wp2_with fail
   refine(Zmu A m h).mono ?_;rintro e L ⟨rfl,rfl⟩
   go_wp2_with fail
   refine(Zdm A m _ h).mono ?_;rintro e z ⟨rfl,a⟩;have g:=hid (f.trans (a.mono f.size));clear a;go_wp2
   go_ret3
   exact⟨⟨#[]⟩,4,0,rfl,o,hid (.inr Dc),g⟩
  ·obtain⟨x1,x2⟩:=x;simp only at B n;subst B;obtain⟨fa,rfl,k,l⟩:=n.cells;clear d n;have C:=hid k;have D:=hid l;clear k l
   go_wp2_with fail
   refine(Zmt A m h _ D).mono ?_;rintro e L ⟨rfl,rfl⟩
   go_wp2_with fail
   refine(ZdB A m _ _ _ h C).mono ?_;rintro e z ⟨rfl,a⟩;have g:=hid (f.trans (a.mono f.size));clear a;go_wp2
   go_ret3
   exact⟨⟨#[]⟩,2,x2,rfl,o,hid (.inr Dc),g⟩
  ·obtain⟨x1,x2⟩:=x;simp only at B n;subst B;obtain⟨fa,rfl,k,l⟩:=n.cells;clear d n;have C:=hid k;have D:=hid l;clear k l
   go_wp2_with fail
   refine(Zms A m h _ D).mono ?_;rintro e L ⟨rfl,rfl⟩
   go_wp2_with fail
   refine(ZdB A m _ _ _ h C).mono ?_;rintro e z ⟨rfl,a⟩;have g:=hid (f.trans (a.mono f.size));clear a;go_wp2
   go_ret3
   exact⟨⟨#[]⟩,3,x2,rfl,o,hid (.inr Dc),g⟩
theorem Zzy(A:Nat->Addr)(m:Int)(a:Vars w A m) :
  CP 18 #[.iface 432 (.pointer (some (A 10)))] w fun e u=>e=.returned (Vi 11)/\u=w:=by
 have v:=a.all;go_enter func18,ntmps18
 iterate 10 (go_wp2_with fail;refine cret (Zg7 a) ?_)
 go_wp2_with fail
 refine cret (Zf7) ?_;go_wp2;go_ret;exact⟨rfl,rfl⟩
theorem ZvS(q s:BA)(f l st:Int)(A:Nat->Addr)(m:Int)(w:World)(U:Vars w A m)(ht:ZR w)(hB:20<=w.heap.size)(d:q.size<=9223372036854775807)(hs:s.size<=maxLen) :
  CP 23 #[.string q,.string s,.agg #[Vi f,Vi l,Vi st]] w fun e w'=>∃(r:BA) (err:Value) (c p:Nat),e=.returned (.tuple #[.string r,err])/\Hid (Zfb w' A err c p)/\Hid (ZdK (bl q) (bl s) f l st=(bl r,c,p))/\BW w w':=by
 have V:=hid (fun W E=>Ziu q W d (U.below E).sents);have X:=hid (fun W E=>Zss s A m W (U.below E) hs);have Y:=hid (fun W E=>ZrI f l st W ((U.below E).sent _ Dc));have HT:=hid ht;have Z:=hid hB;clear U ht hB d hs;go_enter func23,ntmps23
 go_wp2_with fail
 refine Zm fun W hW=>?_;have B:Below _ w W:=hW▸Zbal;have a0:Hid (BAt W _ _ 23):=hW▸bnw;refine(V W B).mono ?_;rintro e w1 ⟨pv,v,rfl,g,F⟩;have h:=hid (B.trans (F.mono B.size));have G:=hid (a0.below F);clear F V B hW a0;cases d:ZD (bl q)with
 | error x=>
  obtain⟨H,ty,u,rfl⟩:=Zfb.rd d g;have HE:=hid H;have k:Hid (ZdK _ (bl s) f l st=([],x.1,x.2)):=hid (by unfold ZdK;rw[d]);clear g d H;go_wp2;go_ret2;exact⟨_,_,_,_,rfl,HE,k,h⟩
 | ok t=>
  rw[d]at g;obtain⟨rfl,I⟩:=g.out;obtain⟨ty,u,rfl⟩:=I.shape;have a1:=hid I;have J:=hid (Ze2 d);have a2:=hid (ZBk d)
  have K:Hid (∀x,(if (Zbp _).1≠0 then ([],(Zbp _).1,(Zbp _).2)else match Zdr f l _ with
   | none=>([],8,0)
   | some _=>(Zcn _,0,0))=x->ZdK _ (bl s) f l st=x):=hid (fun x hx=>by unfold ZdK;rw[d];exact hx)
  clear g d I
  go_wp2_with fail
  refine(X _ h).mono ?_;rintro e z ⟨sv,err,rfl,L,C,M⟩;have i:=hid (h.trans (C.mono h.size));have N:=hid (a1.jv (Zo.below C));have O:=hid (G.below C);clear C X G a1 h;rcases Zfb.ld L with ⟨n,rfl⟩|⟨n,H,ty',u',rfl⟩
  ·obtain⟨ss,o,P,Q,R⟩:=(M.out n).sto n;obtain⟨sa,scp,rfl⟩:=Zl o.row;have a3:=hid o;have a9:=hid P;have a4:=hid Q;have b0:=hid R;have H0:=hid n;clear L M o P Q R n;have x0:=O.cell
   go_wp2_with fail
   clear x0;refine(Y _ i).mono ?_;rintro e w3 ⟨tv,ev,rfl,S,D⟩;have j:=hid (i.trans (D.mono i.size));have a7:=hid (N.jv (Zo.below D));have a8:=hid (a3.below D);clear D Y N a3 O i;rcases S.out with ⟨T,rfl,rfl⟩|⟨ts,T,h2,h3,rfl,h4⟩
   ·have k:Hid (ZdK _ _ f l _=([],8,0)):=hid (K _ (by rw[if_neg (by rw[H0];simp),T]));clear S T;go_wp2;go_ret2;exact⟨_,_,8,0,rfl,hid (.inr (.inr (.inr (.inr (.inl ⟨rfl,rfl,rfl⟩))))),k,j⟩
   ·obtain⟨ta,tcp,rfl⟩:=Zl h4;have k:Hid (ZdK _ _ f l _=(Zcn (ts.map (Zeu (ss.map _) t)),0,0)):=hid (K _ (by rw[if_neg (by rw[H0];simp),T,a9]))
    have a5:=hid (ZtJ t h2 h3 h4 a7 a8
     (fun x mb gb tm a b=>Zm4 a b a4 b0 t J.1 J.2.2 a2.1 J.2.1 a2.2)
     (fun tm=>(Zj8 a4 _ t).mono (by rwa [Yak])) (HT.low j Z) (Yah Z j.size))
    clear S T h2 h3 h4
    go_wp2_with fail
    refine a5.mono ?_;rintro e w4 ⟨r4,rfl,b1,a6⟩;have b2:=hid (j.trans (a6.mono j.size));clear a6 a5;go_wp2;go_ret2;exact⟨r4,_,0,0,rfl,hid (.inl ⟨rfl,rfl,rfl⟩),hid (by rw[k,b1]),b2⟩
  ·have HE:=hid H;have k:=hid (K _ (by rw[if_pos n]));clear L M H n;go_wp2;go_ret2;exact⟨_,_,_,_,rfl,HE,k,i⟩
theorem Zpy(q s:BA)(f l st:Int)(A:Nat->Addr)(m:Int)(w:World)(C:Vars w A m)(F:ZR w)(D:20<=w.heap.size)(G:q.size<=9223372036854775807)(H:s.size<=maxLen) :
  CP 11 #[.string q,.string s,.agg #[Vi f,Vi l,Vi st]] w fun e u=>∃(r:BA) (c p:Nat),e=.returned (.tuple #[.string r,Vi c,Vi p])/\Hid (ZdK (bl q) (bl s) f l st=(bl r,c,p))/\BW w u:=by
 have I:Hid (Vars w A m):=C;have J:Hid (∀W,BW w W->CP 23 #[.string q,.string s,.agg #[Vi f,Vi l,Vi st]] W _):=hid (fun W E=>ZvS q s f l st A m W (C.below E) (F.low E D) (Yah D E.size) G H);clear C F D G H;go_enter func11,ntmps11
 go_wp2_with fail
 refine Zm fun W K=>?_;have v:BW w W:=by rw[K];exact Zbal
 refine(J.out W v).mono ?_;rintro e L ⟨r,err,c,p,rfl,j,o,B⟩;have d:Hid (BW w L):=hid (v.trans (B.mono v.size));have g:=hid (I.below d.out);clear B v K J I;rcases j.out with ⟨rfl,rfl,rfl⟩|⟨rfl,rfl,rfl⟩|⟨rfl,rfl,rfl⟩|⟨rfl,rfl,rfl⟩|⟨rfl,rfl,rfl⟩|⟨fa,rfl,M,h⟩
 ·clear j
  go_wp2_with fail
  refine(Zik A m _ g.out).mono ?_;rintro e t ⟨rfl,rfl⟩
  go_wp2_with fail
  refine(Ziq _).mono ?_;rintro e z ⟨rfl,a⟩;have i:Hid (BW w z):=hid (d.trans (a.mono d.size));clear a;go_wp2
  go_ret3
  exact⟨r,_,_,rfl,o,i.out⟩
 ·clear j
  go_wp2_with fail
  refine(ZjQ A m _ g.out).mono ?_;rintro e t ⟨rfl,rfl⟩
  go_wp2_with fail
  refine(Zdm A m _ g.out).mono ?_;rintro e z ⟨rfl,a⟩;have i:Hid (BW w z):=hid (d.trans (a.mono d.size));clear a;go_wp2
  go_ret3
  exact⟨r,_,_,rfl,o,i.out⟩
 ·clear j
  go_wp2_with fail
  refine(Zmu A m g.out).mono ?_;rintro e t ⟨rfl,rfl⟩
  go_wp2_with fail
  refine(Zdm A m _ g.out).mono ?_;rintro e z ⟨rfl,a⟩;have i:Hid (BW w z):=hid (d.trans (a.mono d.size));clear a;go_wp2
  go_ret3
  exact⟨r,_,_,rfl,o,i.out⟩
 ·clear j
  go_wp2_with fail
  refine(Zrk A m _ g.out).mono ?_;rintro e t ⟨rfl,rfl⟩
  go_wp2_with fail
  refine(Zdm A m _ g.out).mono ?_;rintro e z ⟨rfl,a⟩;have i:Hid (BW w z):=hid (d.trans (a.mono d.size));clear a;go_wp2
  go_ret3
  exact⟨r,_,_,rfl,o,i.out⟩
 ·clear j
  go_wp2_with fail
  refine(Zrm A m _ g.out).mono ?_;rintro e t ⟨rfl,rfl⟩
  go_wp2_with fail
  refine(Zdm A m _ g.out).mono ?_;rintro e z ⟨rfl,a⟩;have i:Hid (BW w z):=hid (d.trans (a.mono d.size));clear a;go_wp2
  go_ret3
  exact⟨r,_,_,rfl,o,i.out⟩
 ·have x:Hid (L.cell? ⟨fa,1,none⟩=some (Vi p)):=M;clear j M;rcases h with ⟨rfl,k⟩|⟨rfl,k⟩|⟨rfl,k⟩|⟨rfl,k⟩
  ·have n:=hid k;clear k
   go_wp2_with fail
   refine(Zmt A m g.out fa n.out).mono ?_;rintro e t ⟨rfl,rfl⟩
   go_wp2_with fail
   refine(ZdB A m fa p _ g.out x.out).mono ?_;rintro e z ⟨rfl,a⟩;have i:Hid (BW w z):=hid (d.trans (a.mono d.size));clear a;go_wp2
   go_ret3
   exact⟨r,_,_,rfl,o,i.out⟩
  ·have n:=hid k;clear k
   go_wp2_with fail
   refine(Zms A m g.out fa n.out).mono ?_;rintro e t ⟨rfl,rfl⟩
   go_wp2_with fail
   refine(ZdB A m fa p _ g.out x.out).mono ?_;rintro e z ⟨rfl,a⟩;have i:Hid (BW w z):=hid (d.trans (a.mono d.size));clear a;go_wp2
   go_ret3
   exact⟨r,_,_,rfl,o,i.out⟩
  ·have n:=hid k;clear k
   go_wp2_with fail
   refine(Zrl A m _ g.out fa n.out).mono ?_;rintro e t ⟨rfl,rfl⟩
   go_wp2_with fail
   refine(ZdB A m fa p _ g.out x.out).mono ?_;rintro e z ⟨rfl,a⟩;have i:Hid (BW w z):=hid (d.trans (a.mono d.size));clear a;go_wp2
   go_ret3
   exact⟨r,_,_,rfl,o,i.out⟩
  ·have n:=hid k;clear k
   go_wp2_with fail
   refine(Zrn A m _ g.out fa n.out).mono ?_;rintro e t ⟨rfl,rfl⟩
   go_wp2_with fail
   refine(ZdB A m fa p _ g.out x.out).mono ?_;rintro e z ⟨rfl,a⟩;have i:Hid (BW w z):=hid (d.trans (a.mono d.size));clear a;go_wp2
   go_ret3
   exact⟨r,_,_,rfl,o,i.out⟩
def awQ:LB:=[97,43,98,42,99]
def awP:LB:=[97,32,43,32,98,32,42,32,99]
def awE:LB:=[99,32,43,32,100]
def awS:LB:=[99,123,104,61,97,125,32,49,58,53,32,52,58,56,10,99,123,104,61,98,125,32,52,58,50,10,100,123,104,61,97,125,32,52,58,51]
def awA:LB:=[49,10,52,32,123,104,61,97,125,49,49]
theorem ZtT:Zey awQ=(awP,0,0):=by kernel_rfl
theorem ZtS:ZdK awE awS 1 4 3=(awA,0,0):=by kernel_rfl
theorem ZgF{r:BA}(h:bl r=l):r=⟨l.toArray⟩:=ZcW (by rw[h,ZbF])
theorem ZtU(A:Nat->Addr)(m:Int)(w:World)(l:Vars w A m)(n:ZR w)(f:20<=w.heap.size) :
  CP 6 #[] w fun e u=>e=.returned (.bool true)/\BW w u:=by
 have s : Hid (∀ W, Below _ w W -> Calls _ 7 _ W fun e u => e = .returned (.tuple #[.string _, .int _ 0, .int _ 0]) /\ Below _ W _) := hid (fun W d => (Zpz ⟨awQ.toArray⟩ A m W (l.below d) (n.low d f) (Yah f d.size) Dc).mono (fun e u ⟨r, c, p, g, o, _, q⟩ => by
   have h:=o.out;rw[ZbF,ZtT]at h;injection h with k1 k2;injection k2 with k2 k3;subst k2 k3;rw[ZgF k1.symm]at g;exact⟨g,q⟩))
 have t : Hid (∀ W, Below _ w W -> Calls _ _ _ W fun e u => e = .returned (.tuple #[.string _, .int _ 0, .int _ 0]) /\ Below _ W _) := hid (fun W d => (Zpy ⟨awE.toArray⟩ ⟨awS.toArray⟩ 1 4 3 A m W (l.below d) (n.low d f) (Yah f d.size) Dc Dc).mono (fun e u ⟨r, c, p, g, o, q⟩ => by
   have h:=o.out;rw[ZbF,ZbF,ZtS]at h;injection h with k1 k2;injection k2 with k2 k3;subst k2 k3;rw[ZgF k1.symm]at g;exact⟨g,q⟩))
 clear l n f;go_enter func6,ntmps6
 go_wp2_with fail
 refine Zm fun W i=>?_;have a:BW w W:=i▸Yaf _ _;refine(s W a).mono ?_;rintro e B ⟨rfl,j⟩;have v:=hid (a.trans (j.mono a.size));clear j a i s
 go_wp2_with fail
 refine Zm fun W i=>?_;have a:BW w W:=by rwa [i]
 refine(t W a).mono ?_;rintro e z ⟨rfl,k⟩;have x:=hid (a.trans (k.mono a.size));clear k a i t v;go_wp2;go_ret;exact⟨rfl,x⟩
section
variable {P:Program} {ops:Array Oper} {Q:Exit->Act->World->Prop} {md:Region.Mode} {S:World->Prop} {k:Nat}
theorem ZCM{i:Nat}{o p:Oper}{f:Nat}{ls:Array Bool}{a:Act}(l:Region.ready md ops ls=[i,j])(n:ops[i]?=some o)(q:ops[j]?=some p)
  (h:∀K':Act->World->Prop,Shut (∀a w,S w->(S w->ZcJ P md ops Q S k f (ls.setIfInBounds i true) a w)->K' a w)->if Region.wanted o (yielded ops a.tmps)=true then Oper.wp P o a w K' Q else K' (a.put o.dst undef) w)
  (r:∀K':Act->World->Prop,Shut (∀a w,S w->(S w->ZcJ P md ops Q S k f (ls.setIfInBounds j true) a w)->K' a w)->if Region.wanted p (yielded ops a.tmps)=true then Oper.wp P p a w K' Q else K' (a.put p.dst undef) w):ZcJ P md ops Q S k (f+1) ls a w:=by
 refine⟨fun m=>(by rw[l]at m;cases m),fun x d=>?_⟩;rw[l]at d;simp only[Yau,Ye2,or_false]at d;rcases d with rfl|rfl
 ·exact wpOp_step n (fun K' e=>h _ (fun a w c g=>e a w ⟨fun _=>c,g c⟩))
 ·exact wpOp_step q (fun K' e=>r _ (fun a w c g=>e a w ⟨fun _=>c,g c⟩))
end
structure NewM (w w':World) (base mb:Nat) (c0 c1 c2 c3 al:Value):Prop where
 ex:∃x gb gx,PSt w' base mb c0 c1 c2 c3 al 0 (.map (some x)) (Vp gb) none 0 0 []/\MapI w' x [] #[] 0/\BAt w' gb [.map (some gx)] 281/\MapX w' gx/\w.heap.size<=x/\w.heap.size<=gb/\w.heap.size<=gx/\x≠gx
 old:w.heap.size<=mb
 below:BW w w'
theorem NewM.made{a:World}(base:Nat)(c0 c1 c2 c3 al:Value){gx:Nat}(e:a.heap[x]?=some (.map #[] 0))(hg:BAt a gb [.map (some gx)] 281)(f:MapX a gx)(h:w.heap.size<=x)(i:w.heap.size<=gb)(j:w.heap.size<=gx)(l:x≠gx)(d:BW w a) :
  NewM w (a.alloc (.cells #[c0,c1,c2,c3,al,Vi 0,S0,.map (some x),Vp gb] 305)) base a.heap.size c0 c1 c2 c3 al:=by
 have c:∀o,Below _ _ (a.alloc o):=fun o=>Zbal;refine⟨⟨x,gb,gx,⟨bnw,⟨by simp,.inl ⟨rfl,rfl⟩⟩,rfl⟩,⟨((c _).block x (Yae.1 e).1).trans e,⟨by simp,by simp,by simp⟩,rfl,fun g hg=>(by cases hg)⟩,hg.below (c _),f.below (c _),h,i,j,l⟩,d.size,d.trans ((c _).mono d.size)⟩
theorem ZAM(w:World)(base:Nat){c0 c1 c2 c3:Value}{an ac:Nat} :
  CP 94 #[.agg #[c0,c1,c2,c3],.slice aa an ac] w fun e u=>∃mb,e=.returned (Vp mb)/\Hid (NewM w u base mb c0 c1 c2 c3 (.slice aa an ac)):=by
 have C:=@run_makeMap prog;have n:Hid (BAt (w.alloc (.cells #[c0,c1,c2,c3] 59)).drew _ _ _):=hid (BAt.below bnw (Yaf _ _).drew);have r:Hid (Below _ w (w.alloc (.cells #[c0,c1,c2,c3] 59)).drew):=hid Zbal.drew;go_enter func94,ntmps94
 go_upto_region 1 with fail
 refine Zbn 6 (fun u=>u.cell? _=some _/\u.cell? _=some _/\u.cell? _=some _/\u.cell? _=some _) Kr ⟨n.cell 0,n.cell 1,n.cell 2,n.cell 3⟩ (fun a=>?_);generalize B:(w.alloc (.cells #[c0,c1,c2,c3] 59)).drew=W at n r a ⊢;clear B;refine Za 0 a (h:=?_);refine Za 1 a (h:=?_);refine ZCM (i:=2) (j:=3) Kr rfl rfl (fun K c=>?_) (fun K c=>?_)
 ·go_simp;have m:=r.size;have f:Hid (BAt (W.alloc (.map #[] 0)) _ _ _):=hid (n.below Zbal);refine c _ _ ⟨f.cell 0,f.cell 1,f.cell 2,f.cell 3⟩ (fun a=>?_);clear c K
  try simp only[Act.put,Zset]
  refine Z4 (i:=3) Kr rfl (fun K c=>?_);go_simp;refine(Zmp _).mono ?_;rintro e A ⟨rfl,s,t,v,l⟩;go_simp;have d:=hid (f.below l);refine c _ _ ⟨d.cell 0,d.cell 1,d.cell 2,d.cell 3⟩ (fun a=>?_);clear c K
  try simp only[Act.put,Zset]
  have p:(W.alloc (.map #[] 0)).heap.size=W.heap.size+1:=Go.Deep.nblk_alloc _ _;have q:=hid (NewM.made base c0 c1 c2 c3 (.slice aa an ac) ((l.block _ Om).trans bnw) t s m Om Om Om ((r.alloc m _).trans (l.mono Om)));refine Za 4 a (h:=?_);refine Z4 (i:=5) Kr rfl (fun K c=>?_);go_simp;have g:Hid (∀o,BAt (A.alloc o) _ _ _):=hid (fun o=>d.below Zbal);refine c _ _ ⟨(g _).cell 0,(g _).cell 1,(g _).cell 2,(g _).cell 3⟩ (fun a=>?_);clear c K
  try simp only[Act.put,Zset]
  refine Zbl Kr Kr rfl Kr (fun K c=>?_);go_simp;refine c _ _ ?_;clear c K;go_wp2;go_ret;simp only[v,p]at q;exact⟨_,rfl,q⟩
 ·go_simp;have m:=r.size;refine(Zmp _).mono ?_;rintro e z ⟨rfl,s,t,v,l⟩;go_simp;have f:=hid (n.below l);refine c _ _ ⟨f.cell 0,f.cell 1,f.cell 2,f.cell 3⟩ (fun a=>?_);clear c K
  try simp only[Act.put,Zset]
  refine Z4 (i:=2) Kr rfl (fun K c=>?_);go_simp;have x:Below _ _ (z.alloc (.map #[] 0)):=Zbal;have d:=hid (f.below x);refine c _ _ ⟨d.cell 0,d.cell 1,d.cell 2,d.cell 3⟩ (fun a=>?_);clear c K
  try simp only[Act.put,Zset]
  have p:(z.alloc (.map #[] 0)).heap.size=z.heap.size+1:=Go.Deep.nblk_alloc _ _;have q:=hid (NewM.made base c0 c1 c2 c3 (.slice aa an ac) bnw (t.below x) (s.below x) Om Om m Om ((r.trans (l.mono m)).trans (x.mono Om)));clear x;generalize z.alloc (.map #[] 0)=A at q d a p ⊢;refine Za 4 a (h:=?_);refine Z4 (i:=5) Kr rfl (fun K c=>?_);go_simp;have g:Hid (∀o,BAt (A.alloc o) _ _ _):=hid (fun o=>d.below Zbal);refine c _ _ ⟨(g _).cell 0,(g _).cell 1,(g _).cell 2,(g _).cell 3⟩ (fun a=>?_);clear c K
  try simp only[Act.put,Zset]
  refine Zbl Kr Kr rfl Kr (fun K c=>?_);go_simp;refine c _ _ ?_;clear c K;go_wp2;go_ret;simp only[v,p]at q;exact⟨_,rfl,q⟩
