/- Parts. -/
import Derived.Test.YtcdgkkfipdoeeaaGreatDoorT21
set_option linter.all false
set_option maxRecDepth 100000
set_option maxHeartbeats 16000000
namespace Go.Proofs.YtcdgkkfipdoeeaaGreatDoor
open Go.RowKit LS Go.Proofs.Tryz
open Go.ChangeMaps (setBlock)
variable {es:Array MapEntry}{seen:Array Nat}{t tm:Int}{s:Itm}{gs:List GEn}{js:List Nat}{ss:List Srs}{c xs:List Value}{e:MapEntry}{B b cl clock n x:Nat}{nv sv v:Value}{W w w':World}
section
theorem ZnH(k:List Lab)(v:Int):∀(m:List Grp) (j:Nat) (a:j<m.length),m[j].1=k->(∀i (c:i<m.length),i≠j->m[i].1≠k)->addG k v m=m.set j (k,m[j].2++[v])
 | g :: m, 0, _, h, _ => by
   have e:g.1=k:=h;rw[addG,if_pos e];rfl
 | g :: m, j + 1, a, h, d => by
   have f:g.1≠k:=d 0 (by simp) Om;rw[addG,if_neg f,ZnH k v m j (by simpa using a) h (fun i c l=>d (i+1) (by simpa using c) Om)];rfl
theorem ZnJ(k:List Lab)(v:Int):∀(m:List Grp),(∀g∈m,g.1≠k)->addG k v m=m++[(k,[v])]
 | [],_=>rfl
 | g :: m, h => by
   rw[addG,if_neg (h g (by simp)),ZnJ k v m (fun z a=>h z (Yam _ a))];rfl
theorem MapG.push(h:MapG w x gs es clock)(c:x<W.heap.size)(g:GEn)(d:g.tx.size<=maxLen)(f:∀e∈es.toList,e.key≠.string g.tx) :
  MapG (setBlock W x (.map (es.push ⟨.string g.tx,g.val,clock⟩) (clock+1))) x (gs++[g]) (es.push ⟨.string g.tx,g.val,clock⟩) (clock+1):=by
 refine⟨by simp[setBlock,c],MapKept.stamped_push h.stm f,?_,fun z a=>?_⟩
 ·rw[Array.toList_push,Yaq,Yaq,h.kv];rfl
 ·rcases Yar.1 a with a|a
  ·exact h.sz z a
  ·rw[Yap]at a;subst a;exact d
theorem MapG.mod(h:MapG w x gs es clock)(m:x<W.heap.size)(g:GEn)(n:g.tx.size<=maxLen){j:Nat}(d:es.toList[j]?=some e)(k:e.key=.string g.tx) :
  MapG (setBlock W x (.map (es.modify j fun e=>{ e with key:=.string g.tx,val:=g.val }) clock)) x (gs.set j g) (es.modify j fun e=>{ e with key:=.string g.tx,val:=g.val }) clock:=by
 refine⟨by simp[setBlock,m],MapKept.stamped_modify h.stm j _ (fun _ _=>rfl) (fun e' _ c=>?_),?_,fun z f=>?_⟩
 ·rw[<-Yb2,d]at c;have:=Yax c;subst this;exact k.symm
 ·rw[Yd8,<-h.kv];refine Ycs (fun i=>?_);rw[Ya2,Yb2,Ybn,Ya0,Ya2,Yak,Ybl];by_cases a:j=i
  ·subst a;have l:j<es.size:=by have:=(Ycm.1 d).1;simpa using this
   rw[if_pos rfl,if_pos rfl,if_pos l,<-Yb2,d];rfl
  ·rw[if_neg a,if_neg a,<-Yb2]
 ·rcases Yck f with f|rfl
  ·exact h.sz z f
  ·exact n
theorem ZsY(g:GEn){t0 t1 t2 t3 t4 t5:Int}(d:talC g.vals=[Vi t0,Vi t1,Vi t2,Vi t3,Vi t4,Vi t5]):g.val=.agg #[.slice g.a g.n g.c,.string g.tx,Vi t0,Vi t1,Vi t2,Vi t3,Vi t4,Vi t5]:=by
 unfold GEn.val;rw[d]
theorem ZwN(d:∀g∈gs,GEnOk w g){o:GEn}(k:LbOk w o.a o.n o.c o.tx o.qs)(v:Int) :
  (∀(j:Nat) (q:j<gs.length),gs[j].tx=o.tx->(∀i (l:i<gs.length),i≠j->gs[i].tx≠o.tx)->(gs.set j { o with vals:=gs[j].vals++[v] }).map GEn.grp=addG (o.qs.map blP) v (gs.map GEn.grp))/\
  ((∀g∈gs,g.tx≠o.tx)->(gs++[{ o with vals:=[v] }]).map GEn.grp=addG (o.qs.map blP) v (gs.map GEn.grp)):=by
 have key : ∀ g ∈ gs, g.qs.map _ = o.qs.map _ ↔ g.tx = o.tx := fun g f => by
   constructor
   · intro h
     have e:=(d g f).lb.txt;rw[h,<-k.txt]at e;exact(Zem e)
   · intro h
     refine ZnE (d g f).lb.wf k.wf ?_;rw[<-(d g f).lb.txt,<-k.txt,h]
 constructor
 ·intro j q r s
  rw [Yd8, ZnH _ v _ j (by rwa [Yak]) (by rw [List.getElem_map]; exact (key _ (List.getElem_mem _)).2 r) (fun i l m => by
    rw[Yak]at l;rw[List.getElem_map];exact fun e=>s i _ m ((key _ (List.getElem_mem _)).1 e)),List.getElem_map]
  rfl
 ·intro h
  rw [Yaq, ZnJ _ _ _ (fun g f => by
    obtain⟨z,p,rfl⟩:=Ybe.1 f;exact fun e=>h z p ((key z p).1 e))]
  rfl
theorem ZuD(h:w.heap[x]?=some (.map es clock))(T:TypeId):(Builtin.clear_ #[279] T #[.map (some x)]).run prog w=.ok (.tuple #[]) (setBlock w x (.map #[] clock)):=by
 simp[Builtin.clear_,run_underlying _,Ybt h,Ych _ h,Result.andThen,setBlock]
theorem ZyV(h:w.heap[x]?=some (.map es clock))(T:TypeId):(Builtin.len_ #[279] T #[.map (some x)]).run prog w=.ok (Vi es.size) w:=by
 simp[Builtin.len_,run_underlying _,Ybt h,Result.andThen];rfl
def gItm(op:Nat)(g:GEn):Itm:=⟨g.a,g.n,g.c,g.tx,g.qs,cutV (ZfI op g.vals)⟩
def gen0:GEn:=⟨none,0,0,⟨#[]⟩,[],[]⟩
def ZhS(es:Array MapEntry)(j:Nat):Nat:=(es.toList[j]?.map (·.born)).getD 0
structure Went (es:Array MapEntry) (n:Nat) (js:List Nat) (seen:Array Nat):Prop where
 nodup:js.Nodup
 lt:∀j∈js,j<n
 seen:seen.toList=js.map (ZhS es)
theorem ZqB(h:e∈(leftOf es seen).toList):e∈es.toList/\e.born∉seen.toList:=by
 unfold leftOf at h;rw[Ydu,Ycg]at h;refine⟨h.1,fun a=>?_⟩;have:=h.2;simp[Array.mem_toList_iff.1 a]at this
theorem ZxW(h:e∈(leftOf es seen).toList):(leftOf es (seen.push e.born)).size+1<=(leftOf es seen).size:=by
 have e1 : (leftOf es (seen.push e.born)).toList = (leftOf es seen).toList.filter (fun z => decide (z.born ≠ e.born)) := by
   unfold leftOf;rw[Ydu,Ydu,List.filter_filter];refine List.filter_congr (fun z _=>?_);simp[Bool.and_comm]
 have a:((leftOf _ _).toList.filter (fun z=>decide (z.born≠e.born))).length<(leftOf _ _).toList.length:=List.length_filter_lt_length_iff_exists.2 ⟨e,h,by simp⟩;rw[<-e1,Ybl,Ybl]at a;omega
theorem ZxV(h:(leftOf es seen).size=0):∀e∈es.toList,e.born∈seen.toList:=by
 intro e c;refine Yb6 fun d=>?_
 have a:e∈(leftOf es seen).toList:=by
  unfold leftOf;rw[Ydu,Ycg];refine⟨c,?_⟩;simp;exact fun f=>d (Array.mem_toList_iff.2 f)
 have:=Ya3 (by rwa [Ybl]);rw[this]at a;cases a
theorem Went.step(n:MapG w x gs es cl)(h:Went es gs.length js seen)(o:e∈(leftOf es seen).toList):∃j,j<gs.length/\es.toList[j]?=some e/\Went es gs.length (js++[j]) (seen.push e.born):=by
 obtain⟨p,q⟩:=ZqB o;obtain⟨j,f⟩:=List.getElem?_of_mem p;obtain⟨g,_⟩:=n.at f;have k:ZhS es j=e.born:=by unfold ZhS;rw[f];rfl
 have l:j∉js:=fun m=>q (h.seen▸Ybe.2 ⟨j,m,k⟩);refine⟨j,g,f,⟨?_,?_,?_⟩⟩
 ·rw[List.nodup_append];exact⟨h.nodup,by simp,fun a r b d=>by rw[Yap]at d;subst d;intro e';subst e';exact l r⟩
 ·intro i c;rcases Yar.1 c with c|c
  ·exact h.lt i c
  ·rw[Yap]at c;subst c;exact g
 ·rw[Array.toList_push,Yaq,h.seen,Yco,k]
theorem Went.all(e:MapG w x gs es cl)(h:Went es gs.length js seen)(n:(leftOf es seen).size=0):js.Perm (List.range gs.length):=by
 rw[List.perm_ext_iff_of_nodup h.nodup List.nodup_range];intro j;rw[Yb9];refine⟨h.lt j,fun p=>?_⟩;have f:j<es.toList.length:=by rwa [Ybl,e.len]
 have g:=ZxV n _ (List.getElem_mem f);rw[h.seen]at g;obtain⟨i,k,l⟩:=Ybe.1 g;have o:=h.lt i k;have m:i<es.toList.length:=by rwa [Ybl,e.len]
 have d:ZhS es i=es.toList[i].born:=by unfold ZhS;rw[List.getElem?_eq_getElem m];rfl
 have a:=e.stm.2.1;rw[List.Nodup,Ybx,List.pairwise_iff_getElem]at a
 have:i=j:=by
  rcases Yev i j with c|c|c
  ·exact absurd (d.symm.trans l) (a i j _ _ c)
  ·exact c
  ·exact absurd (d.symm.trans l).symm (a j i _ _ c)
 rw[<-this];exact k
theorem ZEF (op : Nat)   (h : js.Perm (List.range gs.length)) : ((js.map fun j => gItm op (gs.getD j gen0)).map Itm.el).Perm ((gs.map GEn.grp).map (Zh7 op)) := by
  have a:=(h.map fun j=>gItm op (gs.getD j gen0)).map Itm.el;refine a.trans ?_
  have e : (List.range gs.length).map (fun j => gItm op (gs.getD j gen0)) = gs.map (gItm op) := by
    conv=>rhs;rw[<-Zwt gs gen0]
    rw[Yb1];rfl
  rw[e,Yb1,Yb1];exact List.Perm.refl _
theorem Zz0{e:TypeId}{sz:Nat}(h:w.ownsRow b e sz v n xs){q:Nat}{o:Obj}(d:w.heap[q]?=some o)(f:∀c t fr,o≠.cells c t fr):some q≠v.ownBlock:=by
 rcases h.2 with ⟨rfl,_⟩|⟨g,cp,cur,rfl,_,a,_⟩
 ·simp[Value.ownBlock]
 ·intro i;have j:q=g:=by simpa [Value.ownBlock] using i
  subst j;rw[d]at a;injection a with h3;exact f _ _ _ h3
theorem ZeU(a:x<W.heap.size)(o:Obj):(W.alloc o).heap[x]?=W.heap[x]?:=Below.heap_alloc _ _ _ a
theorem BAt.belX{a:Nat}{t:TypeId}(h:BAt w a c t)(d:BelX x w.heap.size w w')(e:a≠x):BAt w' a c t:=(d.block a h.lt e).trans h
theorem ZDx (l : List Int) (x : Int) (a : l.length <= 10000) (c : ∀ y ∈ l, vOk y) (d : vOk x) (t0 t1 t2 t3 t4 t5 r0 r1 r2 r3 r4 r5 : Int) (f : talC l = [Vi t0, Vi t1, Vi t2, Vi t3, Vi t4, Vi t5]) (g : talC (l ++ [x]) = [Vi r0, Vi r1, Vi r2, Vi r3, Vi r4, Vi r5])  : Cz 206 #[.agg #[Vi t0, Vi t1, Vi t2, Vi t3, Vi t4, Vi t5], Vi x] w fun e u => e = .returned (.agg #[Vi r0, Vi r1, Vi r2, Vi r3, Vi r4, Vi r5]) /\ BW w u := by
  have h:=ZsT l x a c d w;unfold talV at h;rw[f,g]at h;exact h
theorem ZtY{a:Obj}{t:TypeId}:BAt ((w.alloc a).alloc (.cells ⟨c⟩ t)).drew (w.heap.size+1) c t:=by
 have:=Go.Deep.blk_alloc_new (w.alloc a) (.cells ⟨c⟩ t);rw[Go.Deep.nblk_alloc]at this;exact this
theorem ZtX{a:Obj}{t:TypeId}:BAt ((w.alloc (.cells ⟨c⟩ t)).alloc a).drew w.heap.size c t:=(Zbal.block _ (by simp)).trans bnw
theorem ZqW(gb x op:Nat)(v5:op<=3)(bs:List BA)(v:Value)(l:List El)(is:List Itm)(w:World)(c6:BAt w gb [.map (some x)] 281)(hx:MapX w x)(hn:w.ownsRow 0 9 1 nv bs.length (Zbc bs))(p9:bs.length<=100000)(hs:NmS bs)(hv:VecV w v l is) :
  Cz 157 #[Vp gb,Vi op,nv,v] w fun e f=>∃v' is',e=.returned v'/\Hid (VecV f v' (Zcv op (bs.map bl) l) is'/\MapX f x)/\BelX x w.heap.size w f:=by
 obtain⟨i0,hi,j5,j6,j7⟩:=info_parts Tryz.infoItem;obtain⟨na,ncp,rfl⟩:=Zl hn;obtain⟨ra,rcp,rfl⟩:=Zl hv.row;obtain⟨es0,cl0,a8⟩:=hx;have HG:=hid c6;have q3:=hid a8;have HN:=hid hn;have HS:=hid hs;have HV:=hid hv;have v7:=hv.len;have q4:gb≠x:=by intro e;subst e;rw[c6]at a8;cases a8
 have j8:=(Yae.1 a8).1;have v8:=c6.lt;have v9:=c6.cell;have v3:=fun T=>ZuD a8 T;go_enter func157,ntmps157;go_wp2;obtain⟨w1,e4⟩:∃w1,w1=setBlock w x (.map #[] cl0):=⟨_,rfl⟩
 rw[<-e4];have q5:Hid (BelX x w.heap.size w _):=e4▸BelX.set _ _ _ _;have q6:Hid (MapG w1 x [] _ cl0):=hid ⟨by rw[e4];simp[setBlock,j8],MapKept.stamped_empty _,rfl,fun g d=>by cases d⟩;have q7:Hid (MapX w x):=hid ⟨es0,cl0,q3⟩
 go_loopw [22] (fun i wr => ∃ (k : Nat) (gs : List GEn) (es : Array MapEntry) (cl : Nat), k <= is.length /\ i = Vi k /\ gs.length <= k /\ Hid (MapG wr x gs es cl) /\ Hid ((∀ g ∈ gs, GEnOk wr g /\ g.vals.length <= k) /\ gs.map GEn.grp = grpV (bs.map bl) (l.take k)) /\ Hid (BelX x w.heap.size w wr))
   (fun i _=>is.length - (intOf i).toNat)
 case atStart=>exact⟨0,[],#[],cl0,Yag _,rfl,Yag _,q6,hid ⟨(fun g d=>by cases d),rfl⟩,q5⟩
 case round=>
  rename World=>wo
  obtain⟨k,gs,es,cl,hk,rfl,x0,V,F,HB⟩:=hrel;have e6:=HB.size;have c7:=hid (Zo.belX HB q7);have e7:Hid (BAt _ _ _ _):=hid (c7 _ _ _ _ HG);by_cases e8:k<is.length
  ·have d:∃g,ra=some ⟨g,0,none⟩:=by
    obtain⟨g,cp',h⟩:=ZF HV.row Om;injection h with p;exact⟨g,p⟩
   obtain⟨vg,rfl⟩:=d;have e9:=hid (c7.own HV.row);obtain⟨f1,f2,f3⟩:=Zfl _ k e8;have d1:=Zi e9 _ f1;have d2:=Zi e9 _ f2;have d3:=Zi e9 _ f3;have j9:=hid ((HV.ok _ (List.getElem_mem e8)).jk c7)
   have k0:Hid (grpV (bs.map bl) (l.take (k+1))=addG (ZB (is[k]).labs (bs.map bl)) (is[k]).v (grpV (bs.map bl) (l.take k))):=by
    have hl:k<l.length:=by rwa [HV.len']
    rw[List.take_succ_eq_append_getElem hl,ZpO]
    have e:l[k]=(is[k]).el:=by
     have:l[k]?=(is.map Itm.el)[k]?:=by rw[HV.els]
     rw[List.getElem?_eq_getElem hl,Ya2,List.getElem?_eq_getElem e8]at this;exact Yax this
    rw[e];rfl
   generalize is[k]=s at *
   have x1:(k:Int)<(is.length):=by omega
   have c8:x<wo.heap.size:=by omega
   go_wp2_with fail
   refine Zm fun W r=>?_;have N:Below _ _ W:=r▸Zbal;have HI:Hid (BAt W _ [.slice _ _ _,.string _,.int _ _] 286):=r▸bnw;refine(ZxO W (j9.below N).lb ((c7.trans (Zo.below N)).own HN) p9 HS).mono ?_;rintro e R ⟨a',n',c',tx',qs',rfl,a9,G⟩;have H:=hid (N.trans (G.mono N.size));have f0:=hid (HI.below G);have k1:=H.size;have x2:=f0.lt
   have D:tx'.size<=maxLen:=by
    have p:=a9.1.wf.len;rw[<-a9.1.txt,Zd]at p;unfold maxLen;omega
   have f4:=hid (V.moved (H.block x c8));have k2:=hid (e7.below H);have q8:x<R.heap.size:=by omega
   have HF:=hid (f4.find _ D)
   obtain⟨vals,gv,q9⟩:∃(vals:List _) (gv:GEn),vals=gv.vals/\(vals.length<=k/\(∀v∈vals,vOk v))/\(∃u,(∀W:World,W.heap[x]?=R.heap[x]?->(Instr.lookup _ _ _ _).run _ W=.ok u W)/\∃sa sn sc stx,u=.agg (.slice sa sn sc::.string stx::talC vals).toArray)/\
     (((∀W:World,(Instr.findKey 9 _ _).run _ W=.ok _ W)/\(∀g∈gs,g.tx≠tx')/\(∀e∈es.toList,e.key≠.string _)/\vals=[])∨∃j,∃hj:j<gs.length,gs[j].tx=tx'/\gs[j].vals=vals/\(∀i (hi:i<gs.length),i≠j->gs[i].tx≠tx')/\∃e,es.toList[j]?=some e/\e.key=.string _/\∀W:World,(Instr.findKey 9 _ _).run _ W=.ok (some (j,e.val)) W):=by
    rcases HF.out with ⟨p,h2,h3⟩|⟨j,hj,p,h2,e,h3,h4,h5,h6⟩
    ·exact⟨[],⟨none,0,0,tx',[],[]⟩,rfl,⟨Yag _,fun v hv=>by cases hv⟩,⟨_,fun W r=>ZyG f4 D p W r,none,0,0,ByteArray.empty,rfl⟩,.inl ⟨p,h2,h3,rfl⟩⟩
    ·have k3:=F.1 _ (List.getElem_mem hj);exact⟨gs[j].vals,gs[j],rfl,⟨k3.2,k3.1.vok⟩,⟨_,fun W r=>ZyE f4 D h6 W r,gs[j].a,gs[j].n,gs[j].c,gs[j].tx,h5⟩,.inr ⟨j,hj,p,rfl,h2,e,h3,h4,h6⟩⟩
   obtain⟨-,X,j1,U⟩:=q9;have X:=hid X;have j2:=hid j1;have U:=hid U;obtain⟨t0,t1,t2,t3,t4,t5,Y⟩:=ZiD vals;have a5:=hid Y;obtain⟨u,r6,sa,sn,sc,stx,hu⟩:=j2.out;rw[a5]at hu;subst hu;have a2:=hid r6
   go_upto_region 6 with fail
   refine ZP fun wA f5=>?_;have d0:Below _ _ _:=f5▸Zbal;have b5:Hid (BAt _ _ _ 268):=f5▸bnw;have f6:=hid (k2.below d0);have k4:=hid (f0.below d0);have I:=hid d0;clear f5 d0;have r7:=I.size;have x3:=b5.lt;have c0:=f6.cell 0;have b0:=b5.cell 0;have b1:=b5.cell 1;simp only[Zget]at c0 b0 b1;have b6:x<wA.heap.size:=by omega
   have b7:=hid (I.block x q8);have l1:∀o,(Instr.lookup _ _ _ _).run _ ((wA.alloc o).drew)=_:=fun o=>a2 _ ((ZeU b6 o).trans b7);have l2:∀o,(Instr.lookup _ _ _ _).run _ (wA.drew.alloc o)=_:=fun o=>a2 _ ((ZeU b6 o).trans b7);have l3:∀o o',(Instr.lookup _ _ _ _).run _ (((wA.alloc o).alloc _).drew)=_:=fun o o'=>a2 _ (((ZeU (by simp;omega) o').trans (ZeU b6 o)).trans b7);have l4:∀o o',(Instr.lookup _ _ _ _).run _ ((wA.alloc o).drew.alloc _)=_:=fun o o'=>a2 _ (((ZeU (by simp;omega) o').trans (ZeU b6 o)).trans b7);have l5:∀o o',(Instr.lookup _ _ _ _).run _ ((wA.drew.alloc o).alloc _)=_:=fun o o'=>a2 _ (((ZeU (by simp;omega) o').trans (ZeU b6 o)).trans b7);have p2:∀W:World,(Instr.field 351 (.agg #[.slice sa sn sc,.string stx,Vi t0,Vi t1,Vi t2,Vi t3,Vi t4,Vi t5]) 1).run prog W=.ok (.agg #[Vi t0,Vi t1,Vi t2,Vi t3,Vi t4,Vi t5]) W:=fun W=>by kernel_rfl
   go_cut [12] from 30 to 37 (fun s12 wx=>∃Bt:Nat,s12=Vp Bt/\Hid (BAt wx Bt [Vi t0,Vi t1,Vi t2,Vi t3,Vi t4,Vi t5] 349)/\Hid (BW wA wx)/\wA.heap.size<=Bt)
   case first=>
    go_region_held3 (fun f => f.cell? ⟨gb, 0, none⟩ = some (.map (some x)) /\ f.cell? ⟨R.heap.size, 0, none⟩ = some (.slice a' n' c') /\ f.cell? ⟨R.heap.size, 1, none⟩ = some (.string tx')) (first | exact ⟨c0, b0, b1⟩ | go_keep) (first
      | (go_at_call 151
         refine(ZgR).mono ?_;rintro e w7 ⟨rfl,o7,r8⟩))
    all_goals
     go_wp2
     go_meet
     exact⟨_,rfl,hid (by first|exact ZtY|exact ZtX),hid belB,by omega⟩
   case rest=>
   obtain⟨Bt,rfl,HT,a3,x4⟩:=hcut;clear l1 l2 l3 l4 l5 p2 c0 b0 b1 a2;have b8:=hid ((H.trans (I.mono k1)).trans (a3.mono Om));have k5:=hid (f6.below a3);have k6:=hid (k4.below a3);have f7:=hid (b5.below a3);have f8:=hid (a9.1.jk (Zo.below (I.trans (a3.mono r7))));have k7:=hid (b8.block x c8);have k8:x<wc.heap.size:=by have:=b8.size;omega
   clear f6 k4 b5 I a3 k2 f0;obtain⟨r0,r1,r2,r3,r4,r5,hr⟩:=ZiD (vals++[s.v]);have HR:=hid hr;clear hr;have f9:=hid j9.vok;have b9:=hid (V.moved k7);have L:Hid (∀g∈gs,GEnOk _ g/\g.vals.length<=k):=hid (fun g d=>⟨(F.1 g d).1.jk (Zo.below b8),(F.1 g d).2⟩)
   have r9:∃(es':Array _) (cl':Nat) (gs':List _),(∀W:World,W.heap[x]?=wc.heap[x]?->(Instr.mapUpdate 279 (.map (some x)) (.string tx') (.agg #[.slice a' n' c',.string tx',Vi r0,Vi r1,Vi r2,Vi r3,Vi r4,Vi r5])).run prog W=.ok () (setBlock W x (.map es' cl')))/\
     (∀W:World,x<W.heap.size->MapG (setBlock W x (.map es' cl')) x gs' es' cl')/\gs'.length<=k+1/\(∀g∈gs',GEnOk wc g/\g.vals.length<=k+1)/\gs'.map GEn.grp=grpV (bs.map bl) (l.take (k+1)):=by
    obtain⟨o,S⟩:∃o:GEn,o=⟨a',n',c',tx',qs',vals++[s.v]⟩:=⟨_,rfl⟩
    have d4:o.val=.agg #[.slice a' n' c',.string tx',Vi r0,Vi r1,Vi r2,Vi r3,Vi r4,Vi r5]:=S▸ZsY ⟨a',n',c',tx',qs',vals++[s.v]⟩ HR.out
    have g5:GEnOk wc o/\o.vals.length<=k+1:=by
     rw[S];refine⟨⟨f8,fun z hz=>?_⟩,?_⟩
     ·rcases Yar.1 hz with hz|hz
      ·exact X.2 z hz
      ·rw[Yap]at hz;subst hz;exact f9
     ·have:=X.1;simp;omega
    have k9:=ZwN (fun g d=>(L g d).1) (o:=⟨a',n',c',tx',qs',[]⟩) f8 s.v;have l0:qs'.map blP=ZB s.labs _:=a9.2;rcases U.out with ⟨p,h2,h3,h4⟩|⟨j,hj,p,h2,h3,e,h4,h5,h6⟩
    ·refine⟨_,_,gs++[o],fun W r=>?_,fun W r=>b9.push r o (S▸D) (by rwa [S]),by simp;omega,fun g d=>?_,?_⟩
     ·have:=ZDG b9 D p o.val W r;rw[d4]at this;rw[d4,S];exact this
     ·rcases Yar.1 d with d|d
      ·exact⟨(L g d).1,by have:=(L g d).2;omega⟩
      ·rw[Yap]at d;subst d;exact g5
     ·have:=k9.2 h2;rw[k0,<-l0,<-F.2,<-this,S,h4];rfl
    ·refine⟨_,_,gs.set j o,fun W r=>?_,fun W r=>b9.mod r o (S▸D) h4 (by rwa [S]),by rw[Yat];omega,fun g d=>?_,?_⟩
     ·have:=ZDE b9 D h4 h5 h6 o.val W r;rw[d4]at this;rw[d4,S];exact this
     ·rcases Yck d with d|rfl
      ·exact⟨(L g d).1,by have:=(L g d).2;omega⟩
      ·exact g5
     ·have:=k9.1 j _ p h3;rw[k0,<-l0,<-F.2,<-this,S,h2]
   obtain⟨es',cl',gs',l6,l7,s0,l8,l9⟩:=r9;have m6:=hid l6;have s1:=hid l7;have m7:=hid l8;have s2:=hid l9;have g6:Hid (vals.length<=10000/\∀y∈vals,vOk y):=hid ⟨by have:=X.1;omega,X.2⟩;have s3:Hid (MapX _ x):=hid ⟨es,cl,V.heap⟩;clear l6 l7 l8 l9 U b9 L X V F f8 a9;have c0:=k5.cell 0;have b0:=f7.cell 0;have b1:=f7.cell 1;have y2:=k6.cell 2;have m0:=HT.cell 0;have m1:=HT.cell 1;have m2:=HT.cell 2;have m3:=HT.cell 3;have m4:=HT.cell 4;have m5:=HT.cell 5;simp only[Zget]at c0 b0 b1 y2 m0 m1 m2 m3 m4 m5;have x5:=b8.size;have s4:Hid (gb≠x/\R.heap.size≠x/\wo.heap.size≠x/\Bt≠x):=hid ⟨q4,by omega,by omega,by omega⟩
   have J : Hid (∀ W, BelX x _ _ W -> W.cell? _ = some _ /\ W.cell? _ = some _ /\ W.cell? _ = some _ /\ W.cell? _ = some _ /\ W.cell? _ = some _ /\ W.cell? _ = some _ /\ W.cell? _ = some _ /\ W.cell? _ = some _ /\ W.cell? _ = some _ /\ W.cell? _ = some _) := hid (fun W r => by
     obtain⟨n1,n2,n3,n4⟩:=s4.out;have g1:=k5.belX r n1;have g2:=f7.belX r n2;have g3:=k6.belX r n3;have g4:=HT.belX r n4;exact⟨g1.cell 0,g2.cell 0,g2.cell 1,g3.cell 2,g4.cell 0,g4.cell 1,g4.cell 2,g4.cell 3,g4.cell 4,g4.cell 5⟩)
   go_upto_region 7 with fail
   go_region_held3 (fun W => W.cell? ⟨gb, 0, none⟩ = some (.map (some x)) /\ W.cell? ⟨R.heap.size, 0, none⟩ = some (.slice a' n' c') /\ W.cell? ⟨R.heap.size, 1, none⟩ = some (.string tx') /\ W.cell? ⟨wo.heap.size, 2, none⟩ = some (Vi s.v) /\ W.cell? ⟨Bt, 0, none⟩ = some (Vi t0) /\ W.cell? ⟨Bt, 1, none⟩ = some (Vi t1) /\ W.cell? ⟨Bt, 2, none⟩ = some (Vi t2) /\ W.cell? ⟨Bt, 3, none⟩ = some (Vi t3) /\ W.cell? ⟨Bt, 4, none⟩ = some (Vi t4) /\ W.cell? ⟨Bt, 5, none⟩ = some (Vi t5)) (first | exact ⟨c0, b0, b1, y2, m0, m1, m2, m3, m4, m5⟩ | exact s5.out | exact s6.out _ | exact s7.out _ | exact s8.out _ _ | go_keep) (first
     | (go_at_call 151
        refine(ZgR).mono ?_;rintro e w7 ⟨rfl,o7,r8⟩)
     | (go_at_call 206
        refine(ZDx vals s.v g6.1 g6.2 f9.out t0 t1 t2 t3 t4 t5 r0 r1 r2 r3 r4 r5 a5.out HR.out).mono ?_;rintro e w8 ⟨rfl,Z⟩;have C:Hid (BW wc w8):=hid (by first|exact⟨Z.os,Z.tape,Z.output,Z.size,Z.block⟩|exact(((Yaf wc.heap.size wc).drew).alloc (Yac _) _).trans (Z.mono (by simp)));have s5:=hid (J.out w8 (BelX.of C.out));have s6:=hid (fun o=>J.out (w8.alloc o) (BelX.of (C.alloc C.size o)));have s7:=hid (fun M=>J.out (setBlock w8 x M) ((BelX.of C.out).trans (BelX.set _ _ _ _)));have s8:=hid (fun o M=>J.out (setBlock (w8.alloc o) x M) ((BelX.of (C.alloc C.size o)).trans (BelX.set _ _ _ _)));have q0:=m6.out w8 (C.block x k8);have q1:=fun o=>m6.out (w8.alloc o) ((ZeU (by have:=C.size;omega) o).trans (C.block x k8));clear Z))
   have p3 : Hid (∀ W9, BW wc W9 -> MapG (setBlock W9 x (.map es' cl')) x gs' es' cl' /\ (∀ g ∈ gs', GEnOk (setBlock W9 x (.map es' cl')) g /\ g.vals.length <= k + 1) /\ BelX x w.heap.size w (setBlock W9 x (.map es' cl'))) := hid (fun W9 h9 => by
     have m8:BelX x wc.heap.size wc (setBlock W9 x (.map es' cl')):=(BelX.of h9).trans (BelX.set _ _ _ _)
     have s9:MapX wc x:=by
       obtain⟨q1,q2,hq⟩:=s3.out;exact⟨q1,q2,k7.trans hq⟩
     refine⟨s1.out W9 (by have:=h9.size;omega),fun g d=>⟨(m7.out g d).1.jk (Zo.belX m8 s9),(m7.out g d).2⟩,HB.trans (((BelX.of b8.out).mono e6).trans (m8.mono Om))⟩)
   all_goals
    obtain⟨f1,f2,f3⟩:=p3.out w8 C.out;have F1:=hid f1;have F2:=hid (And.intro f2 s2.out);have F3:=hid f3;clear f1 f2 f3;go_wp2
    go_roundw
    case rel=>exact⟨k+1,gs',es',cl',by omega,by go_num,s0,F1,F2,F3⟩
    case measure=>simp[intOf];omega
  ·obtain rfl:k=is.length:=by omega
   have t6:Hid (gs.map GEn.grp=grpV (bs.map bl) l):=by have:=F.2;rwa [Ya5 (by rw[HV.len'];omega)]at this
   have m9:=hid F.1;have g7:=V.len;have c0:=e7.cell 0;simp only[Ycy]at c0;have n0:=fun T=>ZyV V.heap T;rw[g7]at n0;have c8:x<wo.heap.size:=by omega
   clear F
   go_wp2_with (at_make;refine wpList_make_own _ rfl _ _ 283 rfl w.heap.size 286 i0 _ 3 underlying283 hi j5 j6 _ _ _ gs.length rfl rfl rfl ?b2 ?b3 ?b4 ?_)
   case b2=>rw[j7];omega
   case b3=>unfold maxLen;omega
   case b4=>exact e6
   intro w2 j3 c1;have c2:=hid ((Yaf _ _).grown c1 (Yac _) (fun q hq=>by cases hq));have n5:=hid (V.moved (c2.block x c8));have t7:=hid (e7.below c2);clear c1 c0 n0;have c0:=t7.cell;have t8:=run_range_map _ 279 9 _ x _ _ underlying279 n5.heap;go_wp2;have p4:=hid (HB.trans ((BelX.of c2).mono e6));have g8:Hid (∀g∈gs,GEnOk _ g/\g.vals.length<=is.length):=hid (fun g d=>⟨(m9 g d).1.jk (Zo.below c2),(m9 g d).2⟩);have x6:=c2.size;clear t8 c0
   go_loopg [13] gs.length (fun kx v wr=>∃(js:List Nat) (seen:Array Nat) (c9:Nat),(leftOf es seen).size<=kx/\js.length+(leftOf es seen).size<=gs.length/\wr.ownsRow w.heap.size 286 3 v js.length (encs (js.map fun j=>gItm op (gs.getD j gen0)))/\Hid (wr.heap[w2.heap.size]?=some (.mapIter (some x) cl seen c9)/\cl<=c9)/\Hid (MapG wr x gs es cl)/\Hid (Went es gs.length js seen)/\Hid (∀g∈gs,GEnOk wr g/\g.vals.length<=is.length)/\Hid (BelX x w.heap.size w wr)/\w2.heap.size<wr.heap.size)
   case atStart=>
    have d5:Below _ _ (w2.alloc (.mapIter (some x) cl #[] cl)):=Zbal;have n6:(leftOf es #[]).size<=gs.length:=by unfold leftOf;rw[<-g7];exact Array.size_filter_le
    exact⟨[],#[],cl,n6,by simpa using n6,Zn j3 d5,hid ⟨heap_alloc_new _ _,Yac _⟩,hid (n5.moved (d5.block x Om)),hid ⟨List.nodup_nil,by simp,rfl⟩,hid (fun g d=>⟨(g8 g d).1.jk (Zo.below d5),(g8 g d).2⟩),hid (p4.trans ((BelX.of d5).mono Om)),by simp⟩
   case round=>
    obtain⟨js,seen,c9,x7,x8,a0,d6,O,g9,a4,c3,i1⟩:=hrel;have t9:x<wr.heap.size:=by have:=c3.size;omega
    have i2:=fun ty=>run_next_at (P:=prog) _ ty _ x _ _ _ _ _ d6.1 O.heap O.stm.1 d6.2;rcases i2 0 with ⟨u0,a6⟩|⟨e,he,n7,a1,a6⟩
    ·have d7:=g9.all O u0;have i3:=ZEF op d7;rw[t6]at i3
     have i4 := hid (ZwK l (fun e he => by
       rw[<-HV.els]at he;obtain⟨i,hi,rfl⟩:=Ybe.1 he;exact(HV.ok i hi).lb.wf) i3)
     have i5:(js.map fun j=>gItm op (gs.getD j gen0)).length=js.length:=Yak _;rw[<-i5]at a0
     have n8 := hid (Znc a0 (c3.size) (by rw [i5]; omega) (fun i hi => by
       obtain⟨j,hj,rfl⟩:=Ybe.1 hi;have u1:=g9.lt j hj;have eg:gs.getD j gen0=gs[j]:=by rw[Yaa,List.getElem?_eq_getElem u1];rfl
       rw[eg];exact⟨(a4 _ (List.getElem_mem _)).1.lb,ZhY⟩) i4.1)
     rw[i4.2]at n8;clear a0 i3 d7 i2
     go_wp2_with fail
     refine n8.mono ?_;rintro e R ⟨rfl,is',H5⟩;have u2:=hid (c3.trans (BelX.of H5.2));have u3:Hid (MapX _ x):=hid ⟨es,cl,(H5.2.block x j8).trans O.heap⟩;go_wp2;go_ret;exact⟨_,is',rfl,hid ⟨H5.1,u3⟩,u2⟩
    ·obtain⟨j,hj,n9,o0⟩:=g9.step O.out he;obtain⟨_,o1,o2⟩:=O.at n9;have o3:=(ZqB he).1;have x9:=ZxW he;have p5:=hid o0;obtain⟨W3,Q⟩:∃W3,W3=setBlock n7 w2.heap.size (.mapIter (some x) cl (seen.push e.born) cl):=⟨_,rfl⟩
     rw[<-Q]at a6;have a7:n7.heap=wr.heap:=by rcases a1 with rfl|rfl <;> rfl
     have i6:W3.heap[w2.heap.size]?=some (.mapIter (some x) cl (seen.push e.born) cl):=by rw[Q];simp[setBlock,a7,i1]
     have d8:∀i,i≠w2.heap.size->W3.heap[i]?=wr.heap[i]?:=fun i hi=>by rw[Q];simp[setBlock,a7,Ycp hi]
     have u4:W3.heap.size=wr.heap.size:=by rw[Q];simp[setBlock,a7]
     have d9:Below w.heap.size _ _:=⟨by rw[Q];rcases a1 with rfl|rfl <;> rfl,by rw[Q];rcases a1 with rfl|rfl <;> rfl,by rw[Q];rcases a1 with rfl|rfl <;> rfl,by omega,fun i hi=>d8 i Om⟩
     have e0:Zo _ _:=fun b c T fr hb=>(d8 b (fun e'=>by subst e';rw[d6.1]at hb;cases hb)).trans hb;have o4:=d8 x Om;have c4:=hid (O.moved o4);have o5:=run_entry_at (P:=prog) _ _ x _ _ _ _ e i6 c4.heap o3 c4.stm.2.1;have eg:gs.getD j gen0=gs[j]:=by rw[Yaa,List.getElem?_eq_getElem hj];rfl
     have u5:Hid ((js++[j]).map (fun j=>gItm _ (gs.getD j _))=js.map _++[gItm op _]):=hid (by rw[Yaq,Yco,eg]);have o6:Hid (GEnOk _ gs[j]/\(gs[j]).vals.length<=10000):=hid ⟨(a4 _ (List.getElem_mem _)).1.jk e0,by have:=(a4 _ (List.getElem_mem hj)).2;omega⟩;have i7:Hid (∀g∈gs,GEnOk _ g/\g.vals.length<=is.length):=hid (fun g d=>⟨(a4 g d).1.jk e0,(a4 g d).2⟩);have o8:=hid (c3.trans (BelX.of d9));have e1:=e0.own a0;have p6:=hid i6;generalize gs[j]=g at *
     obtain⟨t0,t1,t2,t3,t4,t5,Y⟩:=ZiD g.vals;have a5:=hid Y;rw[o2,ZsY g Y,o1]at a6 o5;obtain⟨one,i8⟩:∃one,one=cutV (ZfI op g.vals):=⟨_,rfl⟩
     have i9:=hid i8;have v4:w2.heap.size<W3.heap.size:=by omega
     clear u4 i1 t9;clear i2 a0 e0 o4 i6 d8 d9 Q a1 a7 o1 o2 o3 he o0 Y i8 O a4 c3 d6 eg n9 hj
     go_upto_region 13 with fail
     refine ZP fun o9 r=>?_;have N:Below _ _ _:=r▸Zbal;have HX:Hid (BAt _ _ [.slice _ _ _,.string _,.int _ _,.int _ _,.int _ _,.int _ _,.int _ _,.int _ _] 351):=r▸bnw;have e2:=Zn e1 N;have p0:=hid N;clear r N e1 a6 o5;have u6:=p0.size;have p7:=o8.size;have J:Hid (∀f,BAt f W3.heap.size [.slice g.a g.n g.c,.string g.tx,Vi t0,Vi t1,Vi t2,Vi t3,Vi t4,Vi t5] 351->f.cell? _=some _/\f.cell? _=some _/\f.cell? _=some _/\f.cell? _=some _/\f.cell? _=some _/\f.cell? _=some _/\f.cell? _=some _/\f.cell? _=some _):=hid (fun f p=>⟨p.cell 0,p.cell 1,p.cell 2,p.cell 3,p.cell 4,p.cell 5,p.cell 6,p.cell 7⟩);refine Zbn 10 (fun f=>f.cell? _=some _/\f.cell? _=some _/\f.cell? _=some _/\f.cell? _=some _/\f.cell? _=some _/\f.cell? _=some _/\f.cell? _=some _/\f.cell? _=some _) Kr (J.out _ HX.out) (fun m=>?_);refine Za 0 m (h:=?_);refine Za 1 m (h:=?_);refine Za 2 m (h:=?_);refine Za 3 m (h:=?_);refine Za 4 m (h:=?_);refine Za 5 m (h:=?_);refine Z4 (i:=6) Kr rfl (fun K hK=>?_);go_simp;refine(ZsR Om o6.2 o6.1.vok a5).mono ?_;rintro e5 R ⟨rfl,G⟩;have H:Hid (BW o9 _):=hid ⟨G.os,G.tape,G.output,G.size,G.block⟩;have j0:=hid (HX.below H);clear G;rw[<-i9];go_simp;refine hK _ _ (J _ j0) (fun m=>?_);clear hK K
     try simp only[Act.put,Zset]
     refine Za 7 m (h:=?_);refine Z4 (i:=8) Kr rfl (fun K hK=>?_);have I:Hid (∀o,Below _ _ (R.alloc o)):=hid (fun o=>Zbal);go_simp;refine hK _ _ (J _ (j0.below (I _))) (fun m=>?_);clear hK K
     try simp only[Act.put,Zset]
     refine Z4 (i:=9) Kr rfl (fun K hK=>?_);have B:=Zn e2 H;have k1:=H.size;refine ZfF rfl _ _ _ rfl _ 286 _ _ 3 _ underlying283 hi j5 j6 j7 rfl Dc _ _ _ (by simp[Act.eval]) (B.alloc _) ⟨R.heap.size,0,none⟩ 1 1 [.slice g.a g.n g.c,.string g.tx,Vi one] (by simp[Act.eval]) rfl ?h2 ?h3 ?h4 ?h5 ?h6 ?_
     case h2=>exact ZcY rfl
     case h3=>intro u hu;simp at hu;rcases hu with rfl|rfl|rfl <;> rfl
     case h4=>unfold maxLen;omega
     case h5=>omega
     case h6=>simp;omega
     intro v6 w6 e3 A _;have E:Below _ _ (R.alloc (.cells #[.slice g.a g.n g.c,.string g.tx,Vi one] 286)):=(p0.trans (H.mono u6)).trans ((I _).mono Om);have p1:=(Z5.below E _).trans (Z5.grown A (B.alloc _))
     have c5 : ∀ (q : Nat) (o : Obj), W3.heap[q]? = some o -> (∀ c t fr, o ≠ .cells c t _) -> w6.heap[q]? = some o := fun q o hq S => by
       have u7:=(Yae.1 hq).1;have p:=(E.block q u7).trans hq;exact(A.block q (by have:=E.size;omega) (Zz0 (B.alloc _) p S)).trans p
     have u8:=hid (c4.moved ((c5 x _ c4.heap (fun c t fr h=>by cases h)).trans c4.heap.symm));have p8:Hid (w6.heap[w2.heap.size]?=some _/\cl<=cl):=hid ⟨c5 _ _ p6 (fun c t fr h=>by cases h),Yac _⟩;have u9:Hid (∀g∈gs,GEnOk _ g/\g.vals.length<=is.length):=hid (fun z hz=>⟨⟨(i7 z hz).1.lb.kb p1 Dc,(i7 z hz).1.vok⟩,(i7 z hz).2⟩);have v0:=hid (o8.trans (BelX.of ((E.mono p7).grown A (by have:=E.size;omega) (fun q hq=>(B.lt q hq).1))));have v1:w2.heap.size<w6.heap.size:=by have:=E.size;have:=A.size;omega
     have j4 : w6.ownsRow w.heap.size 286 3 v6 (js ++ [j]).length (encs ((js ++ [j]).map fun j => gItm op (gs.getD j gen0))) := by
       rw[u5,Zh1,Yab];unfold gItm;rw[<-i9];exact e3
     have v2:Hid (BAt _ _ _ _):=hid (Z5.grown A (B.alloc _) _ _ _ _ Dc (j0.below (I _)));refine hK _ _ (J _ v2) (fun m=>?_);clear hK K
     try simp only[Act.put,Zset]
     refine Zbl Kr Kr rfl Kr (fun K hK=>?_);go_simp;refine hK _ _ ?_;clear hK K A e3 B e2 p1 c5 E;go_wp2
     go_roundg (leftOf es (seen.push e.born)).size
     case measure=>omega
     case rel=>exact⟨js++[j],seen.push _,cl,Yac _,by simp;omega,j4,p8,u8,p5,u9,v0,v1⟩
theorem Zj0{l:LB}(h:WB w B b l)(s:BA)(f:l.length+s.size<=140737488355328) :
  Cz 63 #[Vp b,.string s] w fun e u=>e=.returned (.tuple #[Vi s.size,.nilIface])/\Hid (WB u B b (l++bl s))/\Hid (WK B b w u):=by
 refine(ZhR B b s w h.bd (by rw[Lib.byteCells_length];omega) h.le).mono ?_;rintro e u ⟨rfl,a,c,d⟩;rw[Zn4]at a;exact⟨rfl,⟨.inr a,Yah h.le c.size⟩,⟨c,d⟩⟩
theorem Zjm(h:ZR w)(n:Int)(c:vOk n) :
  Cz 64 #[Vi n] w fun e u=>∃s:BA,e=.returned (.string s)/\Hid (bl s=decI n)/\s.size<=1000000002/\BW w u:=by
 have d:=Zlj n c;unfold vOk at c;refine(strconv_Itoa n Om Om w h).mono ?_;rintro e u ⟨rfl,k,os,rfl⟩
 have g:Lib.itoa n=decI n:=by
  unfold Lib.itoa decI;by_cases a:n<0
  ·rw[if_pos a,if_pos a,Zlk];rfl
  ·rw[if_neg a,if_neg a,Zlk]
 refine⟨_,rfl,hid ?_,?_,?_⟩
 ·assumption
 ·show(Lib.itoa n).toArray.size<=_
  simp_all
 ·exact⟨rfl,rfl,rfl,by simp,fun k f=>by simp[Go.Sort.grow,World.drewN,Yfo,f]⟩
theorem LbOk.size{a:Option Addr}{c:Nat}{tx:BA}{qs:List (BA×BA)}(h:LbOk w a n c tx qs):tx.size<=108018:=by
 rw[<-Zd,h.txt];exact h.wf.len
def ZcQ(t:Int)(is:List Itm):LB:=decI t++((is.map Itm.el).map elS).flatten
theorem Zyp{l:List Itm}:ZcQ t (l++[s])=ZcQ t l++elS s.el:=by
 unfold ZcQ;simp
theorem ZvL(c:(wrt s.labs).length<=108018)(a:vOk s.v):(elS s.el).length<=1000108030:=by
 have:=Zlj _ a;show([32,123]++wrt s.labs++[125]++decI s.v).length<=_
 simp_all;omega
theorem ZqH(a:vOk t):∀is:List Itm,(∀i∈is,(wrt i.labs).length<=108018/\vOk i.v)->(ZcQ t is).length<=1000000002+1000108030*is.length
 | [],_=>by have:=Zlj t a;simpa [ZcQ] using this
 | s :: is, h => by
   have d:=ZqH a _ (fun i c=>h i (Yam _ c));have f:=ZvL (h s (by simp)).1 (h s (by simp)).2
   have e:(ZcQ t (s::is)).length=(ZcQ t is).length+(elS s.el).length:=by
     unfold ZcQ;simp only[Ybb,List.flatten_cons,Yab];omega
   simp_all;omega
theorem Zyq(t:Int)(H:vOk t)(v:Value)(n:Int)(w:World)(S:ValP w v (.inl n))(I:ZR w)(J:20<=w.heap.size) :
  Cz 92 #[Vi t,v] w fun e u=>∃r:BA,e=.returned (.string r)/\Hid (bl r=Zel t (.inl n))/\r.size<=40000000000/\BW w u:=by
 have T:=hid I;have g:=hid J;have U:=hid H;clear I J H;obtain⟨rfl,o⟩:=S;have V:=hid o;have h1:=asSS (Vi n);clear o;go_enter func92,ntmps92
 go_wp2_with fail
 refine Zm fun W G=>?_;have c:Below _ w W:=G▸Zbal;have p:Hid (WB W _ _ []):=hid ⟨.inl ⟨Yac _,.slice _ 0 0,G▸bnw,⟨rfl,.inl ⟨rfl,rfl⟩⟩,by simp[Value.ownBlock]⟩,c.size⟩;have d:=hid c;have h:=hid (T.low c g);clear G c;refine(Zjm h t U).mono ?_;rintro e y ⟨s1,rfl,K,X,f⟩;have q:=hid (p.below f);have s:=hid (d.trans (f.mono d.size));have A:=hid (h.low f (by have:=g.out;have:=d.size;omega));clear f p d h
 go_wp2_with fail
 refine(Zj0 q _ (by simp;omega)).mono ?_;rintro e w2 ⟨rfl,B,C⟩;have i:=hid (s.trans C.low);have L:=hid (A.low C.low g);clear q s A
 go_wp2_with fail
 refine(Zjm L n V).mono ?_;rintro e w3 ⟨s3,rfl,M,Y,j⟩;have N:=hid (B.below j);have O:=hid (i.trans (j.mono i.size));clear j B i;have k:Hid ((⟨#[32]⟩++s3).size=1+s3.size):=by rw[Yaz];rfl
 have D:Hid (bl (⟨#[32]⟩++s3)=[32]++decI n):=by rw[Zfg,M];rfl
 go_wp2_with fail
 generalize(⟨#[32]⟩++s3:BA)=x at k D ⊢;have Z:x.size<=1000000003:=by have:=k.out;omega
 clear k;refine(Zj0 N x (by have b:([]++bl _).length=s1.size:=(by rw[Ycu,Zd]);omega)).mono ?_;rintro e w4 ⟨rfl,l,E⟩;have P:=hid (O.trans E.low);have Q:Hid ([]++bl s1++bl x=Zel t (.inl n)):=by rw[D,K];show[]++decI t++([32]++decI n)=decI t++[32]++decI n;simp
 have m:Hid (([]++bl s1++bl x).length<=40000000000):=hid (by have b:([]++bl s1++bl x).length=s1.size+x.size:=(by rw[Ycu,Yab,Zd,Zd]);omega);generalize[]++bl s1++bl x=z at l Q m
 go_wp2_with fail
 refine(Builder_String_any_f _ _ _ _ l.bd l.le).mono ?_;rintro e w5 ⟨rfl,_,F⟩;have R:=hid (P.trans F);clear F E;go_wp2;go_ret;exact⟨_,rfl,hid (by rw[ZbF,Q]),by have a:=m.out;rw[<-Yb5]at a;exact a,R⟩
theorem Zyr(t:Int)(Z:vOk t)(v:Value)(l:List El)(w:World)(hv:ValP w v (.inr l))(hn:VOk 30 (.inr l))(hp:ZR w)(hB:20<=w.heap.size) :
  Cz 92 #[Vi t,v] w fun e u=>∃r:BA,e=.returned (.string r)/\Hid (bl r=Zel t (.inr l))/\r.size<=40000000000/\BW w u:=by
 have HP:=hid hp;have K:=hid hB;have HT:=hid Z;clear hp hB Z;obtain⟨s,is,rfl,j⟩:=hv;have a9:is.length<=30:=j.len'▸hn.2;obtain⟨ra,rcp,rfl⟩:=Zl j.row;have J:=hid j
 have L : Hid (∀ k, (ZcQ t (is.take k)).length <= 40000000000 - 2000000000) := hid (fun k => by
   have:=ZqH HT (is.take k) (fun i hi=>⟨(j.ok i (Ydn hi)).lb.wf.len,(j.ok i (Ydn hi)).vok⟩);rw[Ya7]at this;omega)
 have h1:=asVS (.slice ra is.length rcp);have h2:=asVV (.slice ra is.length rcp);clear hn j;go_enter func92,ntmps92
 go_wp2_with fail
 refine Zm fun W q=>?_;have d:Below _ w W:=q▸Zbal;have o:Hid (WB W _ _ []):=hid ⟨.inl ⟨Yac _,.slice _ 0 0,q▸bnw,⟨rfl,.inl ⟨rfl,rfl⟩⟩,by simp[Value.ownBlock]⟩,d.size⟩;have f:=hid d;have M:=hid (HP.low d K);clear q d;refine(Zjm M t HT).mono ?_;rintro e y ⟨s1,rfl,a0,b0,C⟩;have N:=hid (o.below C);have O:=hid (f.trans (C.mono f.size));clear C o f M
 go_wp2_with fail
 refine(Zj0 N _ (by simp;omega)).mono ?_;rintro e z ⟨rfl,P,Q⟩;have a1:=hid (O.trans Q.low);have Y:Hid (WB _ _ _ (ZcQ t [])):=hid (by have:=P.out;rw[a0]at this;simpa [ZcQ] using this);clear N O P Q;go_wp2
 go_loopw [26] (fun i wr=>∃k:Nat,k<=is.length/\i=Vi k/\Hid (WB wr w.heap.size w.heap.size (ZcQ t (is.take k)))/\Hid (BW w wr)) (fun i _=>is.length - (intOf i).toNat)
 case atStart=>exact⟨0,Yag _,rfl,Y,a1⟩
 case round=>
  rename World=>wo
  obtain⟨k,hk,rfl,p,D⟩:=hrel;have a2:=D.size;by_cases E:k<is.length
  ·have hg:∃g,ra=some ⟨g,0,none⟩:=by
    obtain⟨g,cp',h⟩:=ZF J.row Om;injection h with h1;exact⟨g,h1⟩
   obtain⟨vg,rfl⟩:=hg;have A:=hid (Zn J.row D);obtain⟨f1,f2,f3⟩:=Zfl _ k E;have d1:=Zi A _ f1;have d2:=Zi A _ f2;have d3:=Zi A _ f3;have F:=hid (J.ok _ (List.getElem_mem E));have a3:Hid (ZcQ t _=ZcQ t _++elS _):=List.take_succ_eq_append_getElem E▸Zyp;generalize is[k]=s at *
   have b1:=F.lb.size;have q1:¬9223372036854775807<2+s.tx.size:=by omega
   have q2:¬9223372036854775807<2+s.tx.size+1:=by omega
   clear f1 f2 f3 A;have b2:(k:Int)<(is.length):=by omega
   go_upto_region 12 with fail
   refine ZP fun W q=>?_;have d:Below _ _ W:=q▸Zbal;have G:Hid (BAt W _ [.slice _ _ _,.string _,.int _ _] 286):=q▸bnw;have o:=hid (p.below d);have f:=hid (D.trans (d.mono a2));clear q d d1 d2 d3 p D;have R:=f.size;have x0:=G.cell 0;have x1:=G.cell 1;have x2:=G.cell 2;simp only[Zget]at x0 x1 x2;have H:Hid (∀u,BAt u wo.heap.size [.slice s.a s.n s.c,.string s.tx,Vi s.v] 286->u.cell? _=some _/\u.cell? _=some _/\u.cell? _=some _):=hid (fun u h=>⟨h.cell 0,h.cell 1,h.cell 2⟩)
   go_region_held3 (fun u => u.cell? ⟨wo.heap.size, 0, none⟩ = some (.slice s.a s.n s.c) /\ u.cell? ⟨wo.heap.size, 1, none⟩ = some (.string s.tx) /\ u.cell? ⟨wo.heap.size, 2, none⟩ = some (Vi s.v)) (first | exact ⟨x0, x1, x2⟩ | exact H.out _ a4.out | exact H.out _ S.out | exact H.out _ a5.out | go_keep) (first
     | (go_at_call 151
        refine(ZgR).mono ?_;rintro e w5 ⟨rfl,o5,T⟩;have m:Hid (BW W w5):=hid (by rw[T];exact((Yaf _ _).drew).alloc (Yac _) _);have a5:=hid (G.below m.out);clear T)
     | (go_at_call 64
        refine(Zjm (HP.low (f.trans (m.mono R)) K.out) s.v F.vok).mono ?_;rintro e w6 ⟨s6,rfl,a6,b3,U⟩;have B:Hid (BW W w6):=hid (m.trans (U.mono m.size));have S:=hid (G.below B.out);have x:Hid ((⟨#[32,123]⟩++s.tx++⟨#[125]⟩++s6:BA).size=2+s.tx.size+1+s6.size):=hid (by rw[Yaz,Yaz,Yaz];rfl)
        have I:Hid (bl (⟨#[32,123]⟩++s.tx++⟨#[125]⟩++s6:BA)=elS s.el):=hid (by
          rw[Zfg,Zfg,Zfg,a6.out,F.lb.txt];rfl)
        have q3:¬9223372036854775807<2+s.tx.size+1+s6.size:=by omega
        clear U)
     | (go_at_call 63
        generalize(⟨#[32,123]⟩++s.tx++⟨#[125]⟩++s6:BA)=x6 at x I ⊢;have b4:x6.size<=1000108030:=(by have:=x.out;omega)
        clear x;refine(Zj0 (o.below B.out) x6 (by have:=L.out k;omega)).mono ?_;rintro e w7 ⟨rfl,b5,V⟩;have a4:Hid (BAt w7 wo.heap.size [.slice s.a s.n s.c,.string s.tx,Vi s.v] 286):=hid (WK.bat (o.below B.out) V.out S.out Dc Dc)))
   have a7:Hid (WB w7 w.heap.size w.heap.size (ZcQ t (is.take (k+1)))):=by rwa [a3.out,<-I.out]
   have a8:=hid ((f.trans (B.mono R)).trans V.low);go_wp2
   go_roundw
   case rel=>exact⟨k+1,by omega,by go_num,a7,a8⟩
   case measure=>simp[intOf];omega
  ·obtain rfl:k=is.length:=by omega
   rw[Ya4]at p;have HE:Hid (ZcQ t is=Zel t (.inr l)):=by unfold ZcQ;rw[J.els];rfl
   go_wp2_with fail
   refine(Builder_String_any_f _ _ _ _ p.bd p.le).mono ?_;rintro e w5 ⟨rfl,_,X⟩;have m:=hid (D.trans X);clear X;go_wp2;go_ret;exact⟨_,rfl,hid (by rw[ZbF,HE]),by have a:=L is.length;rw[Ya4,<-Yb5]at a;exact Yah a Om,m⟩
theorem ZqI(a:vOk t){V:VV}(c:ValP w v V)(g:VOk 30 V)(d:ZR w)(f:20<=w.heap.size) :
  Cz 92 #[Vi t,v] w fun e u=>∃r:BA,e=.returned (.string r)/\Hid (bl r=Zel t V)/\r.size<=40000000000/\BW w u:=by
 cases V with
 | inl n=>exact Zyq t a v n w c d f
 | inr l=>exact Zyr t a v l w c g d f
theorem Zmp (w : World) : Cz 91 #[] w fun e u => e = .returned (Vp (w.heap.size + 1)) /\ Hid (MapX u w.heap.size) /\ Hid (BAt u (w.heap.size + 1) [.map (some w.heap.size)] 281) /\ u.heap.size = w.heap.size + 2 /\ BW w u := by
  have c:=@run_makeMap prog;go_enter func91,ntmps91;go_wp2;go_ret;have a:Below _ w (w.alloc (.map #[] 0)):=Zbal;refine⟨rfl,hid ⟨#[],0,(Zbal.block _ (by simp)).trans bnw⟩,hid ?_,by simp,a.alloc (by simp) _⟩;have:=Go.Deep.blk_alloc_new (w.alloc (.map #[] 0)) (.cells #[.map (some w.heap.size)] 281);rw[Go.Deep.nblk_alloc]at this;exact this
theorem MapX.below(h:MapX w x)(c:BW w w'):MapX w' x:=by
 obtain⟨es,cl,a⟩:=h;exact⟨es,cl,(c.block x (Yae.1 a).1).trans a⟩
theorem MapX.grown{r:Option Nat}(h:MapX w x)(c:w.grownBy w' r)(d:some x≠r):MapX w' x:=by
 obtain⟨es,cl,a⟩:=h;exact⟨es,cl,(c.block x (Yae.1 a).1 d).trans a⟩
theorem BAt.set1{a:Nat}{p q r x:Value}{t:TypeId}(h:BAt w a [p,q,r] t):BAt (w.setCell ⟨a,1,none⟩ x) a [p,x,r] t:=by
 unfold BAt at h;unfold BAt;simp only[World.setCell,Ybn,h,if_true,Ybf];rfl
theorem Zp9:∀l:List (LB),Lib.join l [10]=Zcn l
 | []=>rfl
 | [a]=>by simp[Lib.join,List.intercalate,Zcn]
 | a :: b :: l => by
   have ih:=Zp9 (b::l);rw[Zcn,<-ih];simp[Lib.join,List.intercalate]
theorem Zqa : ∀l:List (LB),(∀x∈l,x.length<=n)->(Zcn l).length<=l.length*(n+1)
 | [],_=>Yag _
 | [a],h=>by have:=h a (by simp);simp only[Zcn,Yaj,Ybq];omega
 | a :: b :: l, h => by
   have ih:=Zqa _ (fun x c=>h x (Yam _ c));have d:=h a (by simp);have e:(Zcn (a::b::l)).length=a.length+((Zcn (b::l)).length+1):=by rw[Zcn,Yab,Yaj]
   rw[e,Yaj,Yfv];omega
theorem Zqb{bs:List BA}(h:w.ownsRow B 9 1 v bs.length (Zbc bs))(m:bs.length<=50)(o:∀b∈bs,b.size<=40000000000) :
  Cz 68 #[v,.string ⟨#[10]⟩] w fun e u=>∃s:BA,e=.returned (.string s)/\Hid (bl s=Zcn (bs.map bl))/\BW w u:=by
 by_cases d:bs.length=0
 ·obtain⟨la,lc,rfl⟩:=Zl h;rw[d];refine(strings_Join_none la lc ⟨#[10]⟩ w).mono ?_;rintro e u ⟨rfl,rfl⟩;have:bs=[]:=Ya3 d;subst this;exact⟨_,rfl,hid rfl,Yaf _ _⟩
 ·obtain⟨g,lc,rfl⟩:=ZF h Om;have f:Lib.join (bs.map (·.data.toList)) [10]=Zcn (bs.map bl):=Zp9 _;have i:=Zqa (n:=40000000000) (bs.map bl) (fun x l=>by obtain⟨b,k,rfl⟩:=Ybe.1 l;rw[Zd];simp_all);rw[Yak]at i;have a:(Zcn (bs.map bl)).length<=140737488355328:=by omega
  have c:bs.length<=lc:=by
   rcases h.2 with ⟨e,_⟩|⟨g',cap,cur,e,_,_,p,_⟩
   ·cases e
   ·simp_all
  rw[<-f]at a;refine(strings_Join g 0 lc bs ⟨#[10]⟩ w ?_ (Z1 h) Om c a).mono ?_
  ·intro j x f;rw[Ycf];exact Zi h j (by show(bs.map Value.string)[j]?=_;simp_all)
  ·rintro e u ⟨rfl,k⟩;exact⟨_,rfl,hid (by assumption),k⟩
structure MOk (x mb gb:Nat) (sv:Value) (ss:List Srs) (tm:Int) (w:World):Prop where
 m:BAt w mb [sv,Vi tm,Vp gb] 193
 g:BAt w gb [.map (some x)] 281
 map:MapX w x
 sto:StoP w sv ss
theorem MOk.belX{mb gb:Nat}(h:MOk x mb gb sv ss tm w)(c:BelX x w.heap.size w w')(d:MapX w' x):MOk x mb gb sv ss tm w':=by
 have a:=Zo.belX c h.map;exact⟨a _ _ _ _ h.m,a _ _ _ _ h.g,d,h.sto.jk a⟩
theorem MOk.below{mb gb:Nat}(h:MOk x mb gb sv ss tm w)(a:BW w w'):MOk x mb gb sv ss tm w':=by
 refine h.belX (BelX.of a) ?_;obtain⟨es,cl,c⟩:=h.map;exact⟨es,cl,(a.block x (Yae.1 c).1).trans c⟩
theorem Zh.jk{t:Tr}(h:Zh w t v)(a:Zo w w'):Zh w' t v:=Zh.mono (fun _ _ h=>h.jk a) (fun _ _ h=>h.jk a) t v h
def SayP(x mb gb:Nat)(sv:Value)(ss:List Srs)(tm:Int)(t:Tr)(w:World)(e:Ending)(w':World):Prop:=∃v,e=.returned v/\Hid (ValP w' v (sayT (ss.map Srs.ser) tm t))/\Hid (MOk x mb gb sv ss tm w')/\Hid (BelX x w.heap.size w w')
def ZcC(x mb gb:Nat)(sv:Value)(ss:List Srs)(tm:Int)(t:Tr):Prop:=∀(pv:Value) (w:World),MOk x mb gb sv ss tm w->Zh w t pv->Cz 93 #[Vp mb,pv] w (SayP x mb gb sv ss tm t w)
variable {x mb gb:Nat} {sv:Value} {ss:List Srs} {tm:Int}
theorem ZBR(nd:Nd)(l r:Tr)(a b:Nat)(i:nd.jj=0)(c:vOk nd.n):ZcC x mb gb sv ss tm (.node a b nd l r):=by
 intro pv w d e
 have f:pv=.iface 119 (.agg #[Vi nd.n]):=by
  rcases e with ⟨_,h⟩|⟨h,_⟩|⟨h,_⟩|⟨h,_⟩|⟨h,_⟩|⟨h,_⟩
  ·exact h
  all_goals omega
 subst f;have j:Hid (sayT (ss.map Srs.ser) tm (.node a b _ l r)=.inl _):=hid (by unfold sayT;rw[if_pos i]);have k:=hid d;have m:=hid c;clear e d c;have p:=ZhB (.agg #[Vi nd.n]);go_enter func93,ntmps93;go_wp2;go_ret;have g:∀o,Below _ w (w.alloc o):=fun o=>Zbal;exact⟨_,rfl,hid (j.out▸⟨rfl,m.out⟩),hid (k.below (g _)),hid (BelX.of (g _))⟩
theorem ZBQ(nd:Nd)(l r:Tr)(a b:Nat)(z:nd.jj=3)(f:ZcC x mb gb sv ss tm l):ZcC x mb gb sv ss tm (.node a b nd l r):=by
 intro pv w k m
 obtain⟨y,n,j⟩:∃y,pv=.iface 121 (.agg #[y])/\Zh w l y:=by
  rcases m with ⟨h,_⟩|⟨h,_⟩|⟨h,_⟩|⟨_,y,o,p⟩|⟨h,_⟩|⟨h,_⟩
  ·omega
  ·omega
  ·omega
  ·exact⟨y,o,p⟩
  ·omega
  ·omega
 subst n;obtain⟨ty,uv,rfl⟩:=j.shape;have A:Hid (sayT (ss.map Srs.ser) tm (.node a b nd l r)=negV _):=hid (by rw[sayT,if_neg Om,if_neg Om,if_neg Om,if_pos z]);have B:=hid k;have C:=hid j;have D:=hid f;clear m k j f;have o:=ZhA (.agg #[.iface ty uv]);have p:=Zhz (.agg #[.iface ty uv]);go_enter func93,ntmps93
 go_wp2_with fail
 refine Zm fun W q=>?_;have c:Below _ w W:=q▸Zbal;clear q;refine(D _ W (B.below c) (C.below c)).mono ?_;rintro e F ⟨v5,rfl,s,t,g⟩;have i:=hid ((BelX.of c).trans (g.mono c.size));clear c g
 go_wp2_with fail
 refine(ZmQ _ s).mono ?_;rintro e G ⟨v6,rfl,E,d⟩;have u:=hid (t.below d);have v:=hid (i.trans ((BelX.of d).mono i.size));clear d;go_wp2;go_ret;exact⟨_,rfl,hid (by rwa [A.out]),u,v⟩
def VecP(x mb gb:Nat)(sv:Value)(ss:List Srs)(tm:Int)(t:Tr)(w:World)(e:Ending)(w':World):Prop:=∃s l is,e=.returned s/\Hid (VecV w' s l is/\sayT (ss.map Srs.ser) tm t=.inr l)/\Hid (MOk x mb gb sv ss tm w')/\Hid (BelX x w.heap.size w w')
theorem Znu(t:Tr)(f:ZdN (sayT (ss.map Srs.ser) tm t)=true)(ih:ZcC x mb gb sv ss tm t)(ty:TypeId)(uv:Value)(w:World)(g:MOk x mb gb sv ss tm w)(i:Zh w t (.iface ty uv)):Cz 158 #[Vp mb,.iface ty uv] w (VecP x mb gb sv ss tm t w):=by
 have q:=hid (ih _ w g i)
 obtain⟨l,j⟩:∃l,sayT (ss.map Srs.ser) tm t=.inr l:=by
  cases h:sayT (ss.map Srs.ser) tm t with
  | inl n=>rw[h]at f;cases f
  | inr l=>exact⟨l,rfl⟩
 have k:=hid j;clear g i f j ih;go_enter func158,ntmps158
 go_wp2_with fail
 refine q.mono ?_;rintro e r ⟨v5,rfl,c,m,o⟩;have d:=c.out;rw[k]at d;obtain⟨s,is,rfl,a⟩:=d;have p:=hid a;obtain⟨sa,scp,rfl⟩:=Zl a.row;clear a c;have u:=asVV (.slice sa is.length scp);go_wp2;go_ret;exact⟨_,l,is,rfl,hid ⟨p,k⟩,m,o⟩
def EitP(x mb gb:Nat)(sv:Value)(ss:List Srs)(tm:Int)(t u:Tr)(w:World)(e:Ending)(w':World):Prop:=∃s l is,e=.returned s/\Hid (VecV w' s l is/\(if (Zcm (sayT (ss.map Srs.ser) tm t)).isEmpty then sayT (ss.map Srs.ser) tm u else sayT (ss.map Srs.ser) tm t)=.inr l)/\Hid (MOk x mb gb sv ss tm w')/\Hid (BelX x w.heap.size w w')
theorem ZvE(t u:Tr)(q:ZdN (sayT (ss.map Srs.ser) tm t)=true)(r:ZdN (sayT (ss.map Srs.ser) tm u)=true)(f:ZcC x mb gb sv ss tm t)(g:ZcC x mb gb sv ss tm u){ty uy:TypeId}{tv uv:Value}(w:World)(m:MOk x mb gb sv ss tm w)(h:Zh w t (.iface ty tv))(i:Zh w u (.iface uy uv)) :
  Cz 153 #[Vp mb,.iface ty tv,.iface uy uv] w (EitP x mb gb sv ss tm t u w):=by
 have E:=hid (Znu t q f _ _ w m h);have F:=hid (fun W G H=>Znu u r g uy uv W G H);have v:=hid i;have y:=hid m.map;clear m h i q r f g;go_enter func153,ntmps153
 go_wp2_with fail
 refine E.mono ?_;rintro e J ⟨s,l,is,rfl,a,j,c⟩;obtain⟨sa,scp,rfl⟩:=Zl a.1.row;have d:=a.1.len'.symm;have n:=a.1.len;by_cases o:is.length=0
 ·have p:Hid ((Zcm (sayT (ss.map Srs.ser) tm t)).isEmpty=true):=by rw[a.2];show l.isEmpty=true;rw[Ydl];exact Ya3 Om
  rw[o];have z:=Zo.belX c y;have A:=hid (v.jk z);clear z d n o
  go_wp2_with fail
  refine(F _ j A).mono ?_;rintro e K ⟨s6,l6,is6,rfl,k,B,C⟩;have D:=hid (c.trans (C.mono c.size));go_wp2;go_ret;exact⟨_,l6,is6,rfl,hid ⟨k.1,if_pos p.out▸k.2⟩,B,D⟩
 ·have p:Hid (¬(Zcm (sayT (ss.map Srs.ser) tm t)).isEmpty=true):=by rw[a.2];show ¬l.isEmpty=true;rw[Ydl];intro e;subst e;exact o d
  have I:(0:Int)<(is.length):=by omega
  clear d;go_wp2;go_ret;exact⟨_,l,is,rfl,hid ⟨a.1,if_neg p.out▸a.2⟩,j,c⟩
end
section
variable {x mb gb:Nat} {sv:Value} {ss:List Srs} {tm:Int}
theorem ZBT(nd:Nd)(l r:Tr)(a b:Nat)(E:nd.jj=1)(o:Dst (ss.map Srs.ser))(s : -1000000<=tm)(t:tm<=1000000):ZcC x mb gb sv ss tm (.node a b nd l r):=by
 intro pv w k v
 obtain⟨nm,la,ln,lc,y,p,q⟩:∃(nm:BA) (la:Option _) (ln lc:Nat),pv=.iface 148 (.agg #[.string nm,.slice la ln lc])/\bl nm=nd.name/\ZX w (.slice la ln lc) nd.jn:=by
  rcases v with ⟨h,_⟩|⟨_,h⟩|⟨h,_⟩|⟨h,_⟩|⟨h,_⟩|⟨h,_⟩
  ·omega
  ·exact h
  all_goals omega
 subst y;obtain⟨sa,scp,rfl⟩:=Zl k.sto.row;have F:Hid (sayT (ss.map Srs.ser) tm (.node a b nd l r)=.inr _):=hid (by rw[sayT,if_neg Om,if_pos E]);have G:=hid k;have z:=hid (fun W i=>ZrF W (k.below i).sto o p (q.below i) s t);clear v k p q o;have H:=ZhE (.agg #[.string nm,.slice la ln lc]);have I:=ZhD (.agg #[.string nm,.slice la ln lc]);have J:=ZhF (.agg #[.string nm,.slice la ln lc]);have K:=ZhC (.agg #[.string nm,.slice la ln lc]);have L:=ZhG (.agg #[.string nm,.slice la ln lc]);have M:=ZgD (.agg #[.string nm,.slice la ln lc]);go_enter func93,ntmps93
 go_upto_region 22 with fail
 refine ZP fun W i=>?_;have j:Below _ w W:=i▸Zbal;have n:Hid (BAt W _ _ 148):=i▸bnw;have g:=hid (G.below j);have c:=hid j;clear i j H I J K L M;have x0:=n.cell 0;have x1:=n.cell 1;have m0:=g.m.cell 0;have m1:=g.m.cell 1;simp only[Zget]at x0 x1 m0 m1
 go_region_held3 (fun u => u.cell? ⟨w.heap.size, 0, none⟩ = some (.string nm) /\ u.cell? ⟨w.heap.size, 1, none⟩ = some (.slice la ln lc) /\ u.cell? ⟨mb, 0, none⟩ = some (.slice sa ss.length scp) /\ u.cell? ⟨mb, 1, none⟩ = some (Vi tm)) (first | exact ⟨x0, x1, m0, m1⟩ | exact A.out | go_keep) (first
   | (go_at_call 161
      refine(z.out _ (by exact⟨c.os,c.tape,c.output,c.size,c.block⟩)).mono ?_;rintro e N ⟨v5,is5,rfl,B,d⟩;have f:Hid (BW W N):=hid ⟨d.os,d.tape,d.output,d.size,d.block⟩;have A:=hid (And.intro ((n.below f.out).cell 0) (And.intro ((n.below f.out).cell 1) (And.intro ((g.below f.out).m.cell 0) ((g.below f.out).m.cell 1))));clear d))
 have C:Hid (BelX x _ w _):=hid (BelX.of (c.trans (f.mono c.size)));have D:=hid (g.below f);go_wp2;go_ret;exact⟨_,rfl,hid (F.out▸⟨_,is5,rfl,B.out⟩),D,C⟩
theorem ZBU(nd:Nd)(l r:Tr)(a b:Nat)(T:nd.jj=2)(t:nd.op<=4)(H:1<=nd.n/\nd.n<=1000)(v:Dst (ss.map Srs.ser))(I : -1000000<=tm)(J:tm<=1000000):ZcC x mb gb sv ss tm (.node a b nd l r):=by
 intro pv w k K
 obtain⟨f,nm,la,ln,lc,L,y,z,A⟩:∃(f nm:BA) (la:Option _) (ln lc:Nat),pv=.iface 150 (.agg #[.string f,.string nm,.slice la ln lc,Vi nd.n])/\bl f=Z0.getD nd.op []/\bl nm=nd.name/\ZX w (.slice la ln lc) nd.jn:=by
  rcases K with ⟨h,_⟩|⟨h,_⟩|⟨_,h⟩|⟨h,_⟩|⟨h,_⟩|⟨h,_⟩
  ·omega
  ·omega
  ·exact h
  all_goals omega
 subst L;obtain⟨sa,scp,rfl⟩:=Zl k.sto.row;have M:Hid (sayT (ss.map Srs.ser) tm (.node a b nd l r)=.inr _):=hid (by rw[sayT,if_neg Om,if_neg Om,if_pos T]);have U:=hid k;have B:=hid (fun W j=>ZmR _ _ W (k.below j).sto z (A.below j) Om H.2 I J);have N:=hid (fun W=>ZqY t y W);have O:=hid v;have P:=hid k.sto.len;clear K k z A v y H;obtain⟨nn,C⟩:∃nn,nn=nd.n:=⟨_,rfl⟩
 rw[<-C]at B M ⊢;clear C;have F:=ZhJ (.agg #[.string f,.string nm,.slice la ln lc,Vi nn]);have G:=ZhI (.agg #[.string f,.string nm,.slice la ln lc,Vi nn]);have V:=ZhK (.agg #[.string f,.string nm,.slice la ln lc,Vi nn]);have X:=ZhH (.agg #[.string f,.string nm,.slice la ln lc,Vi nn]);have Y:=ZhL (.agg #[.string f,.string nm,.slice la ln lc,Vi nn]);go_enter func93,ntmps93
 go_upto_region 19 with fail
 refine ZP fun W j=>?_;have o:Below _ w W:=j▸Zbal;have g:Hid (BAt W _ [.string _,.string _,.slice _ _ _,.int _ _] 150):=j▸bnw;have i:=hid (U.below o);have c:=hid o;clear j o F G V X Y;have x0:=g.cell 0;have x1:=g.cell 1;have x2:=g.cell 2;have x3:=g.cell 3;have m0:=i.m.cell 0;have m1:=i.m.cell 1;simp only[Zget]at x0 x1 x2 x3 m0 m1;have D:Hid (∀u,Below _ W u->u.cell? _=some _/\u.cell? _=some _/\u.cell? _=some _/\u.cell? _=some _/\u.cell? _=some _/\u.cell? _=some _):=hid (fun u h=>⟨(g.below h).cell 0,(g.below h).cell 1,(g.below h).cell 2,(g.below h).cell 3,(i.below h).m.cell 0,(i.below h).m.cell 1⟩)
 go_region_held3 (fun u => u.cell? ⟨w.heap.size, 0, none⟩ = some (.string f) /\ u.cell? ⟨w.heap.size, 1, none⟩ = some (.string nm) /\ u.cell? ⟨w.heap.size, 2, none⟩ = some (.slice la ln lc) /\ u.cell? ⟨w.heap.size, 3, none⟩ = some (Vi nn) /\ u.cell? ⟨mb, 0, none⟩ = some (.slice sa ss.length scp) /\ u.cell? ⟨mb, 1, none⟩ = some (Vi tm)) (first | exact ⟨x0, x1, x2, x3, m0, m1⟩ | exact D.out _ p.out | exact D.out _ q.out | go_keep) (first
   | (go_at_call 124
      refine(N.out _).mono ?_;rintro e w4 ⟨rfl,rfl⟩)
   | (go_at_call 160
      refine(B.out _ (by exact⟨c.os,c.tape,c.output,c.size,c.block⟩)).mono ?_;rintro e Z ⟨v5,rs5,rfl,s,d⟩;have q:Hid (BW W Z):=hid ⟨d.os,d.tape,d.output,d.size,d.block⟩;clear d)
   | (go_at_call 159
      refine(ZrE nd.op t v5 rs5 (ss.map Srs.ser) nd nn tm s.1 s.2 O.out (by
        have F:=congrArg List.length s.2;rw[Yak]at F;have G:=ZmZ (ss.map Srs.ser) nd nn tm;rw[Yak]at G;have:=P.out;omega)).mono ?_
      rintro e w6 ⟨v6,is6,rfl,Q,E⟩;have p:Hid (BW W w6):=hid (q.trans (E.mono q.size));clear E))
 have R:Hid (BelX x _ w _):=hid (BelX.of (c.trans (p.mono c.size)));have S:=hid (i.below p);go_wp2;go_ret;exact⟨_,rfl,hid (M.out▸⟨_,is6,rfl,Q.out⟩),S,R⟩
theorem ZBS(nd:Nd)(l r:Tr)(a b:Nat)(o:nd.jj=6)(t:ZdN (sayT (ss.map Srs.ser) tm l)=true)(u:ZdN (sayT (ss.map Srs.ser) tm r)=true)(f:ZcC x mb gb sv ss tm l)(g:ZcC x mb gb sv ss tm r):ZcC x mb gb sv ss tm (.node a b nd l r):=by
 intro pv w k v
 obtain⟨p,q,i,m,n⟩:∃p q,pv=.iface 116 (.agg #[Vi (opNo nd),p,q])/\Zh w l p/\Zh w r q:=by
  rcases v with ⟨h,_⟩|⟨h,_⟩|⟨h,_⟩|⟨h,_⟩|⟨h,_⟩|⟨_,h⟩
  ·omega
  ·omega
  ·omega
  ·omega
  ·omega
  ·exact h
 have y:opNo nd=0:=by unfold opNo;rw[if_pos o]
 rw[y]at i;subst i;obtain⟨ty,tv,rfl⟩:=m.shape;obtain⟨uy,uv,rfl⟩:=n.shape;have C:Hid (sayT _ _ (.node a b nd l r)=if (Zcm _).isEmpty then sayT _ tm r else sayT (ss.map Srs.ser) _ l):=hid (by rw[sayT,if_neg Om,if_neg Om,if_neg Om,if_neg Om,if_neg Om,if_pos o]);have E:=hid k;have D:=hid (fun W d=>ZvE l r t u f g W (k.below d) (m.below d) (n.below d));clear v k m n t u f g y;have F:=ZgB (.agg #[Vi (0:Nat),.iface ty tv,.iface uy uv]);have G:=ZgA (.agg #[Vi (0:Nat),.iface ty tv,.iface uy uv]);have H:=ZgC (.agg #[Vi (0:Nat),.iface ty tv,.iface uy uv]);simp only[Int.natCast_zero]at *
 go_enter func93,ntmps93
 go_wp2_with fail
 refine Zm fun W d=>?_;have c:Below _ w W:=d▸Zbal;clear d;refine(D W c).mono ?_;rintro e I ⟨s,l5,is5,rfl,j,z,A⟩;have B:=hid ((BelX.of c).trans (A.mono c.size));clear c;go_wp2;go_ret;exact⟨_,rfl,hid (C.out▸j.2▸⟨_,is5,rfl,j.1⟩),z,B⟩
