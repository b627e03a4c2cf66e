/- Parts. -/
import Derived.Test.YtpbemaaghbbocaaGreatDoorH19
set_option linter.all false
set_option maxRecDepth 100000
set_option maxHeartbeats 16000000
namespace Go.Proofs.YtpbemaaghbbocaaGreatDoor
open Go.RowKit LS Go.Proofs.Tryz
open Go.ChangeMaps (setBlock)
variable {es:Array MapEntry}{seen:Array Nat}{t tm:Int}{s:Itm}{gs:List GEn}{js:List Nat}{ss:List Srs}{c xs:List Value}{e:MapEntry}{B b cl clock n x:Nat}{nv sv v:Value}{W w w':World}
theorem ZnH(k:List Lab)(v:Int):∀(m:List Grp) (j:Nat) (a:j<m.length),m[j].1=k->(∀i (c:i<m.length),i≠j->m[i].1≠k)->addG k v m=m.set j (k,m[j].2++[v])
 | g :: m, 0, _, h, _ => by
   have e:g.1=k:=h;rw[addG,if_pos e];rfl
 | g :: m, j + 1, a, h, d => by
   have f:g.1≠k:=d 0 (by simp) Om;rw[addG,if_neg f,ZnH k v m j (by simpa using a) h (fun i c l=>d (i+1) (by simpa using c) Om)];rfl
theorem ZnJ(k:List Lab)(v:Int):∀(m:List Grp),(∀g∈m,g.1≠k)->addG k v m=m++[(k,[v])]
 | [],_=>rfl
 | g :: m, h => by
   rw[addG,if_neg (h g (by simp)),ZnJ k v m (fun z a=>h z (Yam _ a))];rfl
theorem MapG.push(h:MapG w x gs es clock)(c:x<W.heap.size)(g:GEn)(d:g.tx.size<=maxLen)(f:∀e∈es.toList,e.key≠.string g.tx) :
  MapG (setBlock W x (.map (es.push ⟨.string g.tx,g.val,clock⟩) (clock+1))) x (gs++[g]) (es.push ⟨.string g.tx,g.val,clock⟩) (clock+1):=by
 refine⟨by simp[setBlock,c],MapKept.stamped_push h.stm f,?_,fun z a=>?_⟩
 ·rw[Array.toList_push,Yaq,Yaq,h.kv];rfl
 ·rcases Yar.1 a with a|a
  ·exact h.sz z a
  ·rw[Yap]at a;subst a;exact d
theorem MapG.mod(h:MapG w x gs es clock)(m:x<W.heap.size)(g:GEn)(n:g.tx.size<=maxLen){j:Nat}(d:es.toList[j]?=some e)(k:e.key=.string g.tx) :
  MapG (setBlock W x (.map (es.modify j fun e=>{ e with key:=.string g.tx,val:=g.val }) clock)) x (gs.set j g) (es.modify j fun e=>{ e with key:=.string g.tx,val:=g.val }) clock:=by
 refine⟨by simp[setBlock,m],MapKept.stamped_modify h.stm j _ (fun _ _=>rfl) (fun e' _ c=>?_),?_,fun z f=>?_⟩
 ·rw[<-Yb2,d]at c;have:=Yax c;subst this;exact k.symm
 ·rw[List.map_set,<-h.kv];refine Ycs (fun i=>?_);rw[Ya2,Yb2,Ybn,List.getElem?_set,Ya2,Yak,Ybl];by_cases a:j=i
  ·subst a;have l:j<es.size:=by have:=(Ycm.1 d).1;simpa using this
   rw[if_pos rfl,if_pos rfl,if_pos l,<-Yb2,d];rfl
  ·rw[if_neg a,if_neg a,<-Yb2]
 ·rcases Yck f with f|rfl
  ·exact h.sz z f
  ·exact n
theorem ZsY(g:GEn){t0 t1 t2 t3 t4 t5:Int}(d:talC g.vals=[Vi t0,Vi t1,Vi t2,Vi t3,Vi t4,Vi t5]):g.val=.agg #[.slice g.a g.n g.c,.string g.tx,Vi t0,Vi t1,Vi t2,Vi t3,Vi t4,Vi t5]:=by
 unfold GEn.val;rw[d]
theorem ZwN(d:∀g∈gs,GEnOk w g){o:GEn}(l:LbOk w o.a o.n o.c o.tx o.qs)(v:Int) :
  (∀(j:Nat) (m:j<gs.length),gs[j].tx=o.tx->(∀i (k:i<gs.length),i≠j->gs[i].tx≠o.tx)->(gs.set j { o with vals:=gs[j].vals++[v] }).map GEn.grp=addG (o.qs.map blP) v (gs.map GEn.grp))/\
  ((∀g∈gs,g.tx≠o.tx)->(gs++[{ o with vals:=[v] }]).map GEn.grp=addG (o.qs.map blP) v (gs.map GEn.grp)):=by
 have key : ∀ g ∈ gs, g.qs.map blP = o.qs.map blP ↔ g.tx = o.tx := fun g f => by
   constructor
   · intro h
     have e:=(d g f).lb.txt;rw[h,<-l.txt]at e;exact(Zem (s:=g.tx) (a:=o.tx.data) e)
   · intro h
     refine ZnE (d g f).lb.wf l.wf ?_;rw[<-(d g f).lb.txt,<-l.txt,h]
 constructor
 ·intro j m r t
  rw [List.map_set, ZnH (o.qs.map blP) v (gs.map GEn.grp) j (by rw [Yak]; exact m) (by rw [List.getElem_map]; exact (key _ (List.getElem_mem m)).2 r) (fun i k p => by
    rw[Yak]at k;rw[List.getElem_map];exact fun e=>t i k p ((key _ (List.getElem_mem k)).1 e)),List.getElem_map]
  rfl
 ·intro h
  rw [Yaq, ZnJ _ _ _ (fun g f => by
    obtain⟨z,q,rfl⟩:=Ybe.1 f;exact fun e=>h z q ((key z q).1 e))]
  rfl
theorem ZuD(h:w.heap[x]?=some (.map es clock))(T:TypeId):(Builtin.clear_ #[248] T #[.map (some x)]).run prog w=.ok (.tuple #[]) (setBlock w x (.map #[] clock)):=by
 simp[Builtin.clear_,run_underlying underlying248,Ybt h,Ych _ h,Result.andThen,setBlock]
theorem ZyV(h:w.heap[x]?=some (.map es clock))(T:TypeId):(Builtin.len_ #[248] T #[.map (some x)]).run prog w=.ok (Vi es.size) w:=by
 simp[Builtin.len_,run_underlying underlying248,Ybt h,Result.andThen];rfl
def gItm(op:Nat)(g:GEn):Itm:=⟨g.a,g.n,g.c,g.tx,g.qs,cutV (ZfI op g.vals)⟩
def gen0:GEn:=⟨none,0,0,⟨#[]⟩,[],[]⟩
def ZhS(es:Array MapEntry)(j:Nat):Nat:=(es.toList[j]?.map (·.born)).getD 0
structure Went (es:Array MapEntry) (n:Nat) (js:List Nat) (seen:Array Nat):Prop where
 nodup:js.Nodup
 lt:∀j∈js,j<n
 seen:seen.toList=js.map (ZhS es)
theorem ZqB(h:e∈(leftOf es seen).toList):e∈es.toList/\e.born∉seen.toList:=by
 unfold leftOf at h;rw[Ydu,Ycg]at h;refine⟨h.1,fun a=>?_⟩;have:=h.2;simp[Array.mem_toList_iff.1 a]at this
theorem ZxW(h:e∈(leftOf es seen).toList):(leftOf es (seen.push e.born)).size+1<=(leftOf es seen).size:=by
 have e1 : (leftOf es (seen.push e.born)).toList = (leftOf es seen).toList.filter (fun z => decide (z.born ≠ e.born)) := by
   unfold leftOf;rw[Ydu,Ydu,List.filter_filter];refine Ygl (fun z _=>?_);simp[Bool.and_comm]
 have a:((leftOf es seen).toList.filter (fun z=>decide (z.born≠e.born))).length<(leftOf es seen).toList.length:=List.length_filter_lt_length_iff_exists.2 ⟨e,h,by simp⟩;rw[<-e1,Ybl,Ybl]at a;omega
theorem ZxV(h:(leftOf es seen).size=0):∀e∈es.toList,e.born∈seen.toList:=by
 intro e c;refine Yb6 fun d=>?_
 have a:e∈(leftOf es seen).toList:=by
  unfold leftOf;rw[Ydu,Ycg];refine⟨c,?_⟩;simp;exact fun f=>d (Array.mem_toList_iff.2 f)
 have:(leftOf es seen).toList=[]:=Ya3 (by rw[Ybl];exact h);rw[this]at a;cases a
theorem Went.step(n:MapG w x gs es cl)(h:Went es gs.length js seen)(o:e∈(leftOf es seen).toList):∃j,j<gs.length/\es.toList[j]?=some e/\Went es gs.length (js++[j]) (seen.push e.born):=by
 obtain⟨p,q⟩:=ZqB o;obtain⟨j,f⟩:=List.getElem?_of_mem p;obtain⟨g,_⟩:=n.at f;have k:ZhS es j=e.born:=by unfold ZhS;rw[f];rfl
 have l:j∉js:=fun m=>q (by rw[h.seen];exact Ybe.2 ⟨j,m,k⟩);refine⟨j,g,f,⟨?_,?_,?_⟩⟩
 ·rw[List.nodup_append];exact⟨h.nodup,by simp,fun a r b d=>by rw[Yap]at d;subst d;intro e';subst e';exact l r⟩
 ·intro i c;rcases Yar.1 c with c|c
  ·exact h.lt i c
  ·rw[Yap]at c;subst c;exact g
 ·rw[Array.toList_push,Yaq,h.seen,Yco,k]
theorem Went.all(g:MapG w x gs es cl)(h:Went es gs.length js seen)(o:(leftOf es seen).size=0):js.Perm (List.range gs.length):=by
 rw[List.perm_ext_iff_of_nodup h.nodup List.nodup_range];intro j;rw[Yb9];refine⟨h.lt j,fun p=>?_⟩;have a:j<es.toList.length:=by rw[Ybl,g.len];exact p
 have k:=ZxV o _ (List.getElem_mem a);rw[h.seen]at k;obtain⟨i,l,m⟩:=Ybe.1 k;have n:=h.lt i l;have c:i<es.toList.length:=by rw[Ybl,g.len];exact n
 have f:ZhS es i=es.toList[i].born:=by unfold ZhS;rw[List.getElem?_eq_getElem c];rfl
 have d:=g.stm.2.1;rw[List.Nodup,Ybx,List.pairwise_iff_getElem]at d
 have:i=j:=by
  rcases Nat.lt_trichotomy i j with e|e|e
  ·exact absurd (f.symm.trans m) (d i j c a e)
  ·exact e
  ·exact absurd (f.symm.trans m).symm (d j i a c e)
 rw[<-this];exact l
theorem ZEF (op : Nat)   (h : js.Perm (List.range gs.length)) : ((js.map fun j => gItm op (gs.getD j gen0)).map Itm.el).Perm ((gs.map GEn.grp).map (Zh7 op)) := by
  have a:=(h.map fun j=>gItm op (gs.getD j gen0)).map Itm.el;refine a.trans ?_
  have e : (List.range gs.length).map (fun j => gItm op (gs.getD j gen0)) = gs.map (gItm op) := by
    conv=>rhs;rw[<-Zwt gs gen0]
    rw[Yb1];rfl
  rw[e,Yb1,Yb1];exact Ygz _
theorem Zz0{e:TypeId}{sz:Nat}(h:w.ownsRow b e sz v n xs){q:Nat}{o:Obj}(d:w.heap[q]?=some o)(f:∀c t fr,o≠.cells c t fr):some q≠v.ownBlock:=by
 rcases h.2 with ⟨rfl,_⟩|⟨g,cp,cur,rfl,_,a,_⟩
 ·simp[Value.ownBlock]
 ·intro i;have j:q=g:=by simpa [Value.ownBlock] using i
  subst j;rw[d]at a;injection a with h3;exact f _ _ _ h3
theorem ZeU(a:x<W.heap.size)(o:Obj):(W.alloc o).heap[x]?=W.heap[x]?:=Below.heap_alloc _ _ _ a
theorem BAt.belX{a:Nat}{t:TypeId}(h:BAt w a c t)(d:BelX x w.heap.size w w')(e:a≠x):BAt w' a c t:=(d.block a h.lt e).trans h
theorem ZDx (l : List Int) (x : Int) (a : l.length <= 10000) (c : ∀ y ∈ l, vOk y) (d : vOk x) (t0 t1 t2 t3 t4 t5 r0 r1 r2 r3 r4 r5 : Int) (f : talC l = [Vi t0, Vi t1, Vi t2, Vi t3, Vi t4, Vi t5]) (g : talC (l ++ [x]) = [Vi r0, Vi r1, Vi r2, Vi r3, Vi r4, Vi r5])  : CP 173 #[.agg #[Vi t0, Vi t1, Vi t2, Vi t3, Vi t4, Vi t5], Vi x] w fun e u => e = .returned (.agg #[Vi r0, Vi r1, Vi r2, Vi r3, Vi r4, Vi r5]) /\ BW w u := by
  have h:=ZsT l x a c d w;unfold talV at h;rw[f,g]at h;exact h
theorem ZtY{a:Obj}{t:TypeId}:BAt ((w.alloc a).alloc (.cells ⟨c⟩ t)).drew (w.heap.size+1) c t:=by
 have:=Go.Deep.blk_alloc_new (w.alloc a) (.cells ⟨c⟩ t);rw[Go.Deep.nblk_alloc]at this;exact this
theorem ZtX{a:Obj}{t:TypeId}:BAt ((w.alloc (.cells ⟨c⟩ t)).alloc a).drew w.heap.size c t:=(Zbal.block _ (by simp)).trans (Go.Deep.blk_alloc_new _ _)
theorem ZqW(gb x op:Nat)(x0:op<=3)(bs:List BA)(v:Value)(l:List El)(is:List Itm)(w:World)(b8:BAt w gb [.map (some x)] 250)(hx:MapX w x)(hn:w.ownsRow 0 9 1 nv bs.length (Zbc bs))(q9:bs.length<=100000)(hs:NmS bs)(hv:VecV w v l is) :
  CP 130 #[Vp gb,Vi op,nv,v] w fun e m=>∃v' is',e=.returned v'/\Hid (VecV m v' (Zcv op (bs.map bl) l) is'/\MapX m x)/\BelX x w.heap.size w m:=by
 obtain⟨i0,hi,j9,k0,k1⟩:=info_parts Tryz.infoItem;obtain⟨na,ncp,rfl⟩:=Zl hn;obtain⟨ra,rcp,rfl⟩:=Zl hv.row;obtain⟨es0,cl0,a6⟩:=hx;have HG:Hid (BAt w gb [.map (some x)] 250):=b8;have r6:Hid (w.heap[x]?=some (.map es0 cl0)):=a6;have HN:Hid (w.ownsRow 0 9 1 (.slice na bs.length ncp) bs.length (Zbc bs)):=hn;have HS:Hid (NmS bs):=hs;have HV:Hid (VecV w (.slice ra is.length rcp) l is):=hv;have x1:is.length<=1000:=hv.len;have r7:gb≠x:=by intro e;subst e;rw[b8]at a6;cases a6
 have k2:x<w.heap.size:=(Yae.1 a6).1;have x2:=b8.lt;have k3:=b8.cell 0;simp only[Ycy]at k3;have p8:=fun T=>ZuD a6 T;clear b8 hn hs hv;go_enter func130,ntmps130;go_wp2;obtain⟨w1,d6⟩:∃w1,w1=setBlock w x (.map #[] cl0):=⟨_,rfl⟩
 rw[<-d6];have r8:Hid (BelX x w.heap.size w w1):=hid (by rw[d6];exact BelX.set _ _ _ _);have r9:Hid (MapG w1 x [] #[] cl0):=hid ⟨by rw[d6];simp[setBlock,k2],MapKept.stamped_empty _,rfl,fun g f=>by cases f⟩;have s0:Hid (MapX w x):=hid ⟨es0,cl0,r6.out⟩;clear d6 p8 k3 a6
 go_loopw [22] (fun i wr => ∃ (k : Nat) (gs : List GEn) (es : Array MapEntry) (cl : Nat), k <= is.length /\ i = Vi k /\ gs.length <= k /\ Hid (MapG wr x gs es cl) /\ Hid ((∀ g ∈ gs, GEnOk wr g /\ g.vals.length <= k) /\ gs.map GEn.grp = grpV (bs.map bl) (l.take k)) /\ Hid (BelX x w.heap.size w wr))
   (fun i _=>is.length - (intOf i).toNat)
 case atStart=>exact⟨0,[],#[],cl0,Yag _,rfl,Yag _,r9,hid ⟨(fun g f=>by cases f),rfl⟩,r8⟩
 case round=>
  rename World=>wo
  obtain⟨k,gs,es,cl,hk,rfl,x3,a1,J,HB⟩:=hrel;have f8:=HB.size;have d7:=hid (Zo.belX HB.out s0.out);have f9:Hid (BAt wo gb [.map (some x)] 250):=hid (d7.out _ _ _ _ HG.out);by_cases d8:k<is.length
  ·have f:∃g,ra=some ⟨g,0,none⟩:=by
    obtain⟨g,cp',h⟩:=ZF HV.row Om;injection h with A;exact⟨g,A⟩
   obtain⟨vg,rfl⟩:=f;have d9:=hid (d7.own HV.row);obtain⟨f1,f2,f3⟩:=Zfl is k d8;have d1:=Zi d9.out _ _ f1;have d2:=Zi d9.out _ _ f2;have d3:=Zi d9.out _ _ f3;have k4:Hid (ItmOk wo is[k]):=hid ((HV.ok _ (List.getElem_mem d8)).jy d7.out)
   have k5:Hid (grpV (bs.map bl) (l.take (k+1))=addG (ZB (is[k]).labs (bs.map bl)) (is[k]).v (grpV (bs.map bl) (l.take k))):=hid (by
    have hl:k<l.length:=by rw[HV.len'];exact d8
    rw[List.take_succ_eq_append_getElem hl,ZpO]
    have e:l[k]=(is[k]).el:=by
     have:l[k]?=(is.map Itm.el)[k]?:=by rw[HV.els]
     rw[List.getElem?_eq_getElem hl,Ya2,List.getElem?_eq_getElem d8]at this;exact Yax this
    rw[e];rfl)
   generalize is[k]=s at *
   clear f1 f2 f3 d9;have x4:(k:Int)<(is.length:Int):=by omega
   have e0:x<wo.heap.size:=by omega
   go_wp2_with fail
   refine Zm fun W B=>?_;have L:BW wo W:=by rw[B];exact Zbal
   have HI:Hid (BAt W wo.heap.size [.slice s.a s.n s.c,.string s.tx,Vi s.v] 255):=hid (by rw[B];exact Go.Deep.blk_alloc_new _ _);clear B d1 d2 d3;refine(ZxO s.a s.n s.c s.tx s.qs bs W (k4.below L).lb ((d7.trans (Zo.below L)).own HN.out) q9 HS.out).mono ?_;rintro e r ⟨a',n',c',tx',qs',rfl,b9,F⟩;have N:Hid (BW wo r):=hid (L.trans (F.mono L.size));have g0:=hid (HI.below F);clear F L HI;have k6:=N.size;have x5:=g0.lt
   have H:tx'.size<=maxLen:=by
    have A:=b9.1.wf.len;rw[<-b9.1.txt,Zd]at A;unfold maxLen;omega
   have g5:=hid (a1.moved (N.block x e0));have k7:=hid (f9.below N.out);have s1:x<r.heap.size:=by omega
   have HF:=hid (g5.find tx' H)
   obtain⟨vals,gv,s2⟩:∃(vals:List Int) (gv:GEn),vals=gv.vals/\(vals.length<=k/\(∀v∈vals,vOk v))/\(∃u,(∀W:World,W.heap[x]?=r.heap[x]?->(Instr.lookup 248 (.map (some x)) (.string tx') false).run prog W=.ok u W)/\∃sa sn sc stx,u=.agg (.slice sa sn sc::.string stx::talC vals).toArray)/\
     (((∀W:World,(Instr.findKey 9 (.string tx') es.toList).run prog W=.ok none W)/\(∀g∈gs,g.tx≠tx')/\(∀e∈es.toList,e.key≠.string tx')/\vals=[])∨∃j,∃Y:j<gs.length,gs[j].tx=tx'/\gs[j].vals=vals/\(∀i (hi:i<gs.length),i≠j->gs[i].tx≠tx')/\∃e,es.toList[j]?=some e/\e.key=.string tx'/\∀W:World,(Instr.findKey 9 (.string tx') es.toList).run prog W=.ok (some (j,e.val)) W):=by
    rcases HF.out with ⟨A,h2,h3⟩|⟨j,Y,A,h2,e,h3,h4,h5,h6⟩
    ·exact⟨[],⟨none,0,0,tx',[],[]⟩,rfl,⟨Yag _,fun v hv=>by cases hv⟩,⟨_,fun W B=>ZyG g5.out H A W B,none,0,0,ByteArray.empty,rfl⟩,Or.inl ⟨A,h2,h3,rfl⟩⟩
    ·have k8:=J.1 _ (List.getElem_mem Y);exact⟨gs[j].vals,gs[j],rfl,⟨k8.2,k8.1.vok⟩,⟨_,fun W B=>ZyE g5.out H h6 W B,gs[j].a,gs[j].n,gs[j].c,gs[j].tx,h5⟩,Or.inr ⟨j,Y,A,rfl,h2,e,h3,h4,h6⟩⟩
   clear HF;obtain⟨-,a2,e1,a0⟩:=s2;have a2:Hid _:=hid a2;have e2:Hid _:=hid e1;have a0:Hid _:=hid a0;clear e1 gv;obtain⟨t0,t1,t2,t3,t4,t5,R⟩:=ZiD vals;have b5:Hid (talC vals=[Vi t0,Vi t1,Vi t2,Vi t3,Vi t4,Vi t5]):=R;clear R;obtain⟨u,k9,sa,sn,sc,stx,hu⟩:=e2.out;rw[b5.out]at hu;subst hu;have a7:Hid _:=hid k9;clear k9;clear e2
   go_upto_region 6 with fail
   refine ZP fun S g6=>?_;have e3:BW r S:=by rw[g6];exact Zbal
   have c1:Hid (BAt S r.heap.size [.slice a' n' c',.string tx'] 196):=hid (by rw[g6];exact Go.Deep.blk_alloc_new _ _);have g7:=hid (k7.below e3);have l0:=hid (g0.below e3);have O:Hid (BW r S):=hid e3;clear g6 e3;have s3:=O.size;have x6:=c1.lt;have c0:=g7.cell 0;have b0:=c1.cell 0;have b1:=c1.cell 1;simp only[Zget]at c0 b0 b1;have c2:x<S.heap.size:=by omega
   have c3:Hid (S.heap[x]?=r.heap[x]?):=hid (O.block x s1);have l1:∀o,(Instr.lookup 248 (.map (some x)) (.string tx') false).run prog ((S.alloc o).drew)=_:=fun o=>a7.out _ ((ZeU c2 o).trans c3.out);have l2:∀o,(Instr.lookup 248 (.map (some x)) (.string tx') false).run prog (S.drew.alloc o)=_:=fun o=>a7.out _ ((ZeU c2 o).trans c3.out);have l3:∀o o',(Instr.lookup 248 (.map (some x)) (.string tx') false).run prog (((S.alloc o).alloc o').drew)=_:=fun o o'=>a7.out _ (((ZeU (by simp;omega) o').trans (ZeU c2 o)).trans c3.out);have l4:∀o o',(Instr.lookup 248 (.map (some x)) (.string tx') false).run prog ((S.alloc o).drew.alloc o')=_:=fun o o'=>a7.out _ (((ZeU (by simp;omega) o').trans (ZeU c2 o)).trans c3.out);have l5:∀o o',(Instr.lookup 248 (.map (some x)) (.string tx') false).run prog ((S.drew.alloc o).alloc o')=_:=fun o o'=>a7.out _ (((ZeU (by simp;omega) o').trans (ZeU c2 o)).trans c3.out);have p9:∀W:World,(Instr.field 305 (.agg #[.slice sa sn sc,.string stx,Vi t0,Vi t1,Vi t2,Vi t3,Vi t4,Vi t5]) 1).run prog W=.ok (.agg #[Vi t0,Vi t1,Vi t2,Vi t3,Vi t4,Vi t5]) W:=fun W=>by kernel_rfl
   go_cut [12] from 30 to 37 (fun s12 wx=>∃Bt:Nat,s12=Vp Bt/\Hid (BAt wx Bt [Vi t0,Vi t1,Vi t2,Vi t3,Vi t4,Vi t5] 303)/\Hid (BW S wx)/\S.heap.size<=Bt)
   case first=>
    go_region_held3 (fun m => m.cell? ⟨gb, 0, none⟩ = some (.map (some x)) /\ m.cell? ⟨r.heap.size, 0, none⟩ = some (.slice a' n' c') /\ m.cell? ⟨r.heap.size, 1, none⟩ = some (.string tx')) (first | exact ⟨c0, b0, b1⟩ | go_keep) (first
      | (go_at_call 124
         refine(ZgR).mono ?_;rintro e w7 ⟨rfl,o7,s4⟩))
    all_goals
     go_wp2
     go_meet
     exact⟨_,rfl,hid (by first|exact ZtY|exact ZtX),hid belB,by omega⟩
   case rest=>
   obtain⟨Bt,rfl,HT,a8,x7⟩:=hcut;clear l1 l2 l3 l4 l5 p9 c0 b0 b1 a7;have c4:Hid (BW wo wc):=hid ((N.trans (O.mono k6)).trans (a8.mono Om));have l6:=hid (g7.below a8.out);have l7:=hid (l0.below a8.out);have g8:=hid (c1.below a8.out);have g9:Hid (LbOk wc a' n' c' tx' qs'):=hid (b9.1.jy (Zo.below (O.trans (a8.mono s3))));have l8:Hid (wc.heap[x]?=wo.heap[x]?):=hid (c4.block x e0);have l9:x<wc.heap.size:=by have:=c4.size;omega
   clear g7 l0 c1 O a8 k7 g0;obtain⟨r0,r1,r2,r3,r4,r5,hr⟩:=ZiD (vals++[s.v]);have HR:Hid (talC (vals++[s.v])=[Vi r0,Vi r1,Vi r2,Vi r3,Vi r4,Vi r5]):=hr;clear hr;have i1:Hid (vOk s.v):=hid k4.vok;have c5:=hid (a1.moved l8.out);have U:Hid (∀g∈gs,GEnOk wc g/\g.vals.length<=k):=hid (fun g f=>⟨(J.1 g f).1.jy (Zo.below c4.out),(J.1 g f).2⟩)
   have s5:∃(es':Array MapEntry) (cl':Nat) (gs':List GEn),(∀W:World,W.heap[x]?=wc.heap[x]?->(Instr.mapUpdate 248 (.map (some x)) (.string tx') (.agg #[.slice a' n' c',.string tx',Vi r0,Vi r1,Vi r2,Vi r3,Vi r4,Vi r5])).run prog W=.ok () (setBlock W x (.map es' cl')))/\
     (∀W:World,x<W.heap.size->MapG (setBlock W x (.map es' cl')) x gs' es' cl')/\gs'.length<=k+1/\(∀g∈gs',GEnOk wc g/\g.vals.length<=k+1)/\gs'.map GEn.grp=grpV (bs.map bl) (l.take (k+1)):=by
    obtain⟨o,Z⟩:∃o:GEn,o=⟨a',n',c',tx',qs',vals++[s.v]⟩:=⟨_,rfl⟩
    have e4:o.val=.agg #[.slice a' n' c',.string tx',Vi r0,Vi r1,Vi r2,Vi r3,Vi r4,Vi r5]:=by
     rw[Z];exact ZsY ⟨a',n',c',tx',qs',vals++[s.v]⟩ HR.out
    have i2:GEnOk wc o/\o.vals.length<=k+1:=by
     rw[Z];refine⟨⟨g9.out,fun z hz=>?_⟩,?_⟩
     ·rcases Yar.1 hz with hz|hz
      ·exact a2.2 z hz
      ·rw[Yap]at hz;subst hz;exact i1.out
     ·have:=a2.1;simp;omega
    have m6:=ZwN (fun g f=>(U.out g f).1) (o:=⟨a',n',c',tx',qs',[]⟩) g9.out s.v;have m7:qs'.map blP=ZB s.labs (bs.map bl):=b9.2;rcases a0.out with ⟨A,h2,h3,h4⟩|⟨j,Y,A,h2,h3,e,h4,h5,h6⟩
    ·refine⟨_,_,gs++[o],fun W B=>?_,fun W B=>c5.push B o (by rw[Z];exact H) (by rw[Z];exact h3),by simp;omega,fun g f=>?_,?_⟩
     ·have:=ZDG c5.out H A o.val W B;rw[e4]at this;rw[e4,Z];exact this
     ·rcases Yar.1 f with f|f
      ·exact⟨(U.out g f).1,by have:=(U.out g f).2;omega⟩
      ·rw[Yap]at f;subst f;exact i2
     ·have:=m6.2 h2;rw[k5.out,<-m7,<-J.2,<-this,Z,h4];rfl
    ·refine⟨_,_,gs.set j o,fun W B=>?_,fun W B=>c5.mod B o (by rw[Z];exact H) h4 (by rw[Z];exact h5),by rw[List.length_set];omega,fun g f=>?_,?_⟩
     ·have:=ZDE c5.out H h4 h5 h6 o.val W B;rw[e4]at this;rw[e4,Z];exact this
     ·rcases Yck f with f|rfl
      ·exact⟨(U.out g f).1,by have:=(U.out g f).2;omega⟩
      ·exact i2
     ·have:=m6.1 j Y A h3;rw[k5.out,<-m7,<-J.2,<-this,Z,h2]
   obtain⟨es',cl',gs',m8,m9,s6,n0,n5⟩:=s5;have n6:Hid _:=hid m8;have s7:Hid _:=hid m9;have n7:Hid (∀g∈gs',GEnOk wc g/\g.vals.length<=k+1):=n0;have s8:Hid (gs'.map GEn.grp=grpV (bs.map bl) (l.take (k+1))):=n5;have i3:Hid (vals.length<=10000/\∀y∈vals,vOk y):=hid ⟨by have:=a2.1;omega,a2.2⟩;have s9:Hid (MapX wo x):=hid ⟨es,cl,a1.heap⟩;clear m8 m9 n0 n5 a0 c5 U a2 a1 J g9 b9;have c0:=l6.cell 0;have b0:=g8.cell 0;have b1:=g8.cell 1;have y2:=l7.cell 2;have m0:=HT.cell 0;have m1:=HT.cell 1;have m2:=HT.cell 2;have m3:=HT.cell 3;have m4:=HT.cell 4;have m5:=HT.cell 5;simp only[Zget]at c0 b0 b1 y2 m0 m1 m2 m3 m4 m5;have x8:=c4.size;have t6:Hid (gb≠x/\r.heap.size≠x/\wo.heap.size≠x/\Bt≠x):=hid ⟨r7,by omega,by omega,by omega⟩
   have Q : Hid (∀ W, BelX x wc.heap.size wc W -> W.cell? ⟨gb, 0, none⟩ = some (.map (some x)) /\ W.cell? ⟨r.heap.size, 0, none⟩ = some (.slice a' n' c') /\ W.cell? ⟨r.heap.size, 1, none⟩ = some (.string tx') /\ W.cell? ⟨wo.heap.size, 2, none⟩ = some (Vi s.v) /\ W.cell? ⟨Bt, 0, none⟩ = some (Vi t0) /\ W.cell? ⟨Bt, 1, none⟩ = some (Vi t1) /\ W.cell? ⟨Bt, 2, none⟩ = some (Vi t2) /\ W.cell? ⟨Bt, 3, none⟩ = some (Vi t3) /\ W.cell? ⟨Bt, 4, none⟩ = some (Vi t4) /\ W.cell? ⟨Bt, 5, none⟩ = some (Vi t5)) := hid (fun W B => by
     obtain⟨n1,n2,n3,n4⟩:=t6.out;have g1:=l6.belX B n1;have g2:=g8.belX B n2;have g3:=l7.belX B n3;have g4:=HT.belX B n4;exact⟨g1.cell 0,g2.cell 0,g2.cell 1,g3.cell 2,g4.cell 0,g4.cell 1,g4.cell 2,g4.cell 3,g4.cell 4,g4.cell 5⟩)
   go_upto_region 7 with fail
   go_region_held3 (fun W => W.cell? ⟨gb, 0, none⟩ = some (.map (some x)) /\ W.cell? ⟨r.heap.size, 0, none⟩ = some (.slice a' n' c') /\ W.cell? ⟨r.heap.size, 1, none⟩ = some (.string tx') /\ W.cell? ⟨wo.heap.size, 2, none⟩ = some (Vi s.v) /\ W.cell? ⟨Bt, 0, none⟩ = some (Vi t0) /\ W.cell? ⟨Bt, 1, none⟩ = some (Vi t1) /\ W.cell? ⟨Bt, 2, none⟩ = some (Vi t2) /\ W.cell? ⟨Bt, 3, none⟩ = some (Vi t3) /\ W.cell? ⟨Bt, 4, none⟩ = some (Vi t4) /\ W.cell? ⟨Bt, 5, none⟩ = some (Vi t5)) (first | exact ⟨c0, b0, b1, y2, m0, m1, m2, m3, m4, m5⟩ | exact t7.out | exact t8.out _ | exact t9.out _ | exact u0.out _ _ | go_keep) (first
     | (go_at_call 124
        refine(ZgR).mono ?_;rintro e w7 ⟨rfl,o7,s4⟩)
     | (go_at_call 173
        refine(ZDx vals s.v i3.1 i3.2 i1.out t0 t1 t2 t3 t4 t5 r0 r1 r2 r3 r4 r5 b5.out HR.out).mono ?_;rintro e w8 ⟨rfl,a3⟩;have G:Hid (BW wc w8):=hid (by first|exact⟨a3.os,a3.tape,a3.output,a3.size,a3.block⟩|exact(((Yaf wc.heap.size wc).drew).alloc (Yac _) _).trans (a3.mono (by simp)));have t7:=hid (Q.out w8 (BelX.of G.out));have t8:=hid (fun o=>Q.out (w8.alloc o) (BelX.of (G.alloc G.size o)));have t9:=hid (fun M=>Q.out (setBlock w8 x M) ((BelX.of G.out).trans (BelX.set _ _ _ _)));have u0:=hid (fun o M=>Q.out (setBlock (w8.alloc o) x M) ((BelX.of (G.alloc G.size o)).trans (BelX.set _ _ _ _)));have q0:=n6.out w8 (G.block x l9);have q1:=fun o=>n6.out (w8.alloc o) ((ZeU (by have:=G.size;omega) o).trans (G.block x l9));clear a3))
   have q3 : Hid (∀ W9, BW wc W9 -> MapG (setBlock W9 x (.map es' cl')) x gs' es' cl' /\ (∀ g ∈ gs', GEnOk (setBlock W9 x (.map es' cl')) g /\ g.vals.length <= k + 1) /\ BelX x w.heap.size w (setBlock W9 x (.map es' cl'))) := hid (fun W9 h9 => by
     have n8:BelX x wc.heap.size wc (setBlock W9 x (.map es' cl')):=(BelX.of h9).trans (BelX.set _ _ _ _)
     have u1:MapX wc x:=by
       obtain⟨q1,q2,hq⟩:=s9.out;exact⟨q1,q2,l8.trans hq⟩
     refine⟨s7.out W9 (by have:=h9.size;omega),fun g f=>⟨(n7.out g f).1.jy (Zo.belX n8 u1),(n7.out g f).2⟩,HB.trans (((BelX.of c4.out).mono f8).trans (n8.mono Om))⟩)
   all_goals
    obtain⟨f1,f2,f3⟩:=q3.out w8 G.out;have F1:Hid _:=hid f1;have F2:Hid _:=hid (And.intro f2 s8.out);have F3:Hid _:=hid f3;clear f1 f2 f3;go_wp2
    go_roundw
    case rel=>exact⟨k+1,gs',es',cl',by omega,by go_num,s6,F1,F2,F3⟩
    case measure=>simp[intOf];omega
  ·obtain rfl:k=is.length:=by omega
   have u2:Hid (gs.map GEn.grp=grpV (bs.map bl) l):=hid (by have:=J.2;rwa [Ya5 (by rw[HV.len'];omega)]at this);have n9:Hid (∀g∈gs,GEnOk wo g/\g.vals.length<=is.length):=hid J.1;have i4:es.size=gs.length:=a1.len;have c0:=f9.cell 0;simp only[Ycy]at c0;have o0:=fun T=>ZyV a1.heap T;rw[i4]at o0;have e0:x<wo.heap.size:=by omega
   clear J
   go_wp2_with (at_make;refine wpList_make_own _ rfl _ _ 252 rfl w.heap.size 255 i0 _ 3 underlying252 hi j9 k0 _ _ _ gs.length rfl rfl rfl ?b2 ?b3 ?b4 ?_)
   case b2=>rw[k1];omega
   case b3=>unfold maxLen;omega
   case b4=>exact f8
   intro D j7 c6;have c7:Hid (BW wo D):=hid ((Yaf _ _).grown c6 (Yac _) (fun q hq=>by cases hq));have o1:=hid (a1.moved (c7.block x e0));have u3:=hid (f9.below c7.out);clear c6 c0 o0;have c0:=u3.cell 0;simp only[Ycy]at c0;have u4:=run_range_map (P:=prog) D 248 9 305 x es cl underlying248 o1.heap;go_wp2;have q4:Hid (BelX x w.heap.size w D):=hid (HB.trans ((BelX.of c7.out).mono f8));have i5:Hid (∀g∈gs,GEnOk D g/\g.vals.length<=is.length):=hid (fun g f=>⟨(n9.out g f).1.jy (Zo.below c7.out),(n9.out g f).2⟩);have x9:=c7.size;clear u4 c0
   go_loopg [13] gs.length (fun kx v wr=>∃(js:List Nat) (seen:Array Nat) (c9:Nat),(leftOf es seen).size<=kx/\js.length+(leftOf es seen).size<=gs.length/\wr.ownsRow w.heap.size 255 3 v js.length (encs (js.map fun j=>gItm op (gs.getD j gen0)))/\Hid (wr.heap[D.heap.size]?=some (.mapIter (some x) cl seen c9)/\cl<=c9)/\Hid (MapG wr x gs es cl)/\Hid (Went es gs.length js seen)/\Hid (∀g∈gs,GEnOk wr g/\g.vals.length<=is.length)/\Hid (BelX x w.heap.size w wr)/\D.heap.size<wr.heap.size)
   case atStart=>
    have e6:BW D (D.alloc (.mapIter (some x) cl #[] cl)):=Zbal;have o2:(leftOf es #[]).size<=gs.length:=by unfold leftOf;rw[<-i4];exact Array.size_filter_le
    exact⟨[],#[],cl,o2,by simpa using o2,Zn j7 e6,hid ⟨heap_alloc_new _ _,Yac _⟩,hid (o1.moved (e6.block x Om)),hid ⟨List.nodup_nil,by simp,rfl⟩,hid (fun g f=>⟨(i5.out g f).1.jy (Zo.below e6),(i5.out g f).2⟩),hid (q4.trans ((BelX.of e6).mono Om)),by simp⟩
   case round=>
    obtain⟨js,seen,c9,y0,y1,a4,e7,V,i6,a9,c8,i7⟩:=hrel;have u5:x<wr.heap.size:=by have:=c8.size;omega
    have i8:=fun ty=>run_next_at (P:=prog) wr ty D.heap.size x cl c9 seen es cl e7.1 V.heap V.stm.1 e7.2;rcases i8 0 with ⟨u6,b6⟩|⟨e,he,o3,a5,b6⟩
    ·have e8:=i6.all V.out u6;have i9:=ZEF op e8;rw[u2.out]at i9
     have j0 := hid (ZwK op (bs.map bl) l (fun e he => by
       rw[<-HV.els]at he;obtain⟨i,hi,rfl⟩:=Ybe.1 he;exact(HV.ok i hi).lb.wf) i9)
     have j1:(js.map fun j=>gItm op (gs.getD j gen0)).length=js.length:=Yak _;rw[<-j1]at a4
     have o4 := hid (Znc w.heap.size (js.map fun j => gItm op (gs.getD j gen0)) wr a4 (c8.size) (by rw [j1]; omega) (fun i hi => by
       obtain⟨j,Y,rfl⟩:=Ybe.1 hi;have o5:=i6.lt j Y;have eg:gs.getD j gen0=gs[j]:=by rw[Yaa,List.getElem?_eq_getElem o5];rfl
       rw[eg];exact⟨(a9.out _ (List.getElem_mem o5)).1.lb,ZhY⟩) j0.1)
     rw[j0.2]at o4;clear a4 i9 e8 i8
     go_wp2_with fail
     refine o4.mono ?_;rintro e r ⟨rfl,is',H5⟩;have u7:Hid (BelX x w.heap.size w r):=hid (c8.trans (BelX.of H5.2));have u8:Hid (MapX r x):=hid ⟨es,cl,(H5.2.block x k2).trans V.heap⟩;go_wp2;go_ret;exact⟨_,is',rfl,hid ⟨H5.1,u8.out⟩,u7.out⟩
    ·obtain⟨j,Y,o6,o8⟩:=i6.step V.out he;obtain⟨_,o9,p0⟩:=V.at o6;have p1:=(ZqB he).1;have y3:=ZxW he;have q5:Hid (Went es gs.length (js++[j]) (seen.push e.born)):=o8;obtain⟨d,X⟩:∃d,d=setBlock o3 D.heap.size (.mapIter (some x) cl (seen.push e.born) cl):=⟨_,rfl⟩
     rw[<-X]at b6;have b7:o3.heap=wr.heap:=by rcases a5 with rfl|rfl <;> rfl
     have j2:d.heap[D.heap.size]?=some (.mapIter (some x) cl (seen.push e.born) cl):=by rw[X];simp[setBlock,b7,i7]
     have e9:∀i,i≠D.heap.size->d.heap[i]?=wr.heap[i]?:=fun i hi=>by rw[X];simp[setBlock,b7,Ycp hi]
     have u9:d.heap.size=wr.heap.size:=by rw[X];simp[setBlock,b7]
     have f0:Below w.heap.size wr d:=⟨by rw[X];rcases a5 with rfl|rfl <;> rfl,by rw[X];rcases a5 with rfl|rfl <;> rfl,by rw[X];rcases a5 with rfl|rfl <;> rfl,by omega,fun i hi=>e9 i Om⟩
     have f4:Zo wr d:=fun b c T fr hb=>(e9 b (fun e'=>by subst e';rw[e7.1]at hb;cases hb)).trans hb;have p2:d.heap[x]?=wr.heap[x]?:=e9 x Om;have d0:=hid (V.moved p2);have p3:=run_entry_at (P:=prog) d D.heap.size x cl seen es cl e j2 d0.heap p1 d0.stm.2.1;have eg:gs.getD j gen0=gs[j]:=by rw[Yaa,List.getElem?_eq_getElem Y];rfl
     have v0:Hid ((js++[j]).map (fun j=>gItm op (gs.getD j gen0))=js.map (fun j=>gItm op (gs.getD j gen0))++[gItm op gs[j]]):=hid (by rw[Yaq,Yco,eg]);have p4:Hid (GEnOk d gs[j]/\(gs[j]).vals.length<=10000):=hid ⟨(a9.out _ (List.getElem_mem Y)).1.jy f4,by have:=(a9.out _ (List.getElem_mem Y)).2;omega⟩;have j3:Hid (∀g∈gs,GEnOk d g/\g.vals.length<=is.length):=hid (fun g f=>⟨(a9.out g f).1.jy f4,(a9.out g f).2⟩);have p5:Hid (BelX x w.heap.size w d):=hid (c8.trans (BelX.of f0));have f5:=f4.own a4;have q6:Hid (d.heap[D.heap.size]?=some (.mapIter (some x) cl (seen.push e.born) cl)):=j2;generalize gs[j]=g at *
     obtain⟨t0,t1,t2,t3,t4,t5,R⟩:=ZiD g.vals;have b5:Hid (talC g.vals=[Vi t0,Vi t1,Vi t2,Vi t3,Vi t4,Vi t5]):=R;rw[p0,ZsY g R,o9]at b6 p3;obtain⟨one,j4⟩:∃one,one=cutV (ZfI op g.vals):=⟨_,rfl⟩
     have j5:Hid (one=cutV (ZfI op g.vals)):=j4;have v9:D.heap.size<d.heap.size:=by omega
     clear u9 i7 u5;clear i8 a4 f4 p2 j2 e9 f0 X a5 b7 o9 p0 p1 he o8 R j4 V a9 c8 e7 eg o6 Y
     go_upto_region 13 with fail
     refine ZP fun d4 B=>?_;have L:BW d d4:=by rw[B];exact Zbal
     have HX:Hid (BAt d4 d.heap.size [.slice g.a g.n g.c,.string g.tx,Vi t0,Vi t1,Vi t2,Vi t3,Vi t4,Vi t5] 305):=hid (by rw[B];exact Go.Deep.blk_alloc_new _ _);have f6:=Zn f5 L;have p6:Hid (BW d d4):=hid L;clear B L f5 b6 p3;have v1:=p6.size;have q7:=p5.size;have Q:Hid (∀m,BAt m d.heap.size [.slice g.a g.n g.c,.string g.tx,Vi t0,Vi t1,Vi t2,Vi t3,Vi t4,Vi t5] 305->m.cell? ⟨d.heap.size,0,none⟩=some (.slice g.a g.n g.c)/\m.cell? ⟨d.heap.size,1,none⟩=some (.string g.tx)/\m.cell? ⟨d.heap.size,2,none⟩=some (Vi t0)/\m.cell? ⟨d.heap.size,3,none⟩=some (Vi t1)/\m.cell? ⟨d.heap.size,4,none⟩=some (Vi t2)/\m.cell? ⟨d.heap.size,5,none⟩=some (Vi t3)/\m.cell? ⟨d.heap.size,6,none⟩=some (Vi t4)/\m.cell? ⟨d.heap.size,7,none⟩=some (Vi t5)):=hid (fun m A=>⟨A.cell 0,A.cell 1,A.cell 2,A.cell 3,A.cell 4,A.cell 5,A.cell 6,A.cell 7⟩);refine Zbn 10 (fun m=>m.cell? ⟨d.heap.size,0,none⟩=some (.slice g.a g.n g.c)/\m.cell? ⟨d.heap.size,1,none⟩=some (.string g.tx)/\m.cell? ⟨d.heap.size,2,none⟩=some (Vi t0)/\m.cell? ⟨d.heap.size,3,none⟩=some (Vi t1)/\m.cell? ⟨d.heap.size,4,none⟩=some (Vi t2)/\m.cell? ⟨d.heap.size,5,none⟩=some (Vi t3)/\m.cell? ⟨d.heap.size,6,none⟩=some (Vi t4)/\m.cell? ⟨d.heap.size,7,none⟩=some (Vi t5)) Kr (by exact Q.out _ HX.out) (fun p=>?_);refine Za 0 p (h:=?_);refine Za 1 p (h:=?_);refine Za 2 p (h:=?_);refine Za 3 p (h:=?_);refine Za 4 p (h:=?_);refine Za 5 p (h:=?_);refine Z4 (i:=6) Kr rfl (fun K hK=>?_);go_simp;refine(ZsR op Om p4.2 p4.1.vok t0 t1 t2 t3 t4 t5 b5.out).mono ?_;rintro e5 r ⟨rfl,F⟩;have N:Hid (BW d4 r):=hid ⟨F.os,F.tape,F.output,F.size,F.block⟩;have j6:=hid (HX.below N.out);clear F;rw[<-j5.out];go_simp;refine hK.out _ _ (Q.out _ j6.out) (fun p=>?_);clear hK K
     try simp only[Act.put,Zset]
     refine Za 7 p (h:=?_);refine Z4 (i:=8) Kr rfl (fun K hK=>?_);have O:Hid (∀o,BW r (r.alloc o)):=hid (fun o=>Zbal);go_simp;refine hK.out _ _ (Q.out _ (j6.below (O.out _))) (fun p=>?_);clear hK K
     try simp only[Act.put,Zset]
     refine Z4 (i:=9) Kr rfl (fun K hK=>?_);have E:=Zn f6 N.out;have k6:=N.size;refine ZfF rfl (.tmp 66) (.tmp 74) 252 rfl w.heap.size 255 i0 _ 3 48 underlying252 hi j9 k0 k1 rfl Dc _ js.length (encs (js.map fun j=>gItm op (gs.getD j gen0))) (by simp[Act.eval]) (E.alloc _) ⟨r.heap.size,0,none⟩ 1 1 [.slice g.a g.n g.c,.string g.tx,Vi one] (by simp[Act.eval]) rfl ?h2 ?h3 ?h4 ?h5 ?h6 ?_
     case h2=>exact ZcY rfl
     case h3=>intro u hu;simp at hu;rcases hu with rfl|rfl|rfl <;> rfl
     case h4=>unfold maxLen;omega
     case h5=>omega
     case h6=>simp;omega
     intro v6 w6 f7 C _;have I:BW d (r.alloc (.cells #[.slice g.a g.n g.c,.string g.tx,Vi one] 255)):=(p6.trans (N.mono v1)).trans ((O.out _).mono Om);have p7:Z5 255 d w6:=(Z5.below I _).trans (Z5.grown C (E.alloc _))
     have d5 : ∀ (q : Nat) (o : Obj), d.heap[q]? = some o -> (∀ c t fr, o ≠ .cells c t fr) -> w6.heap[q]? = some o := fun q o hq Z => by
       have v2:=(Yae.1 hq).1;have A:=(I.block q v2).trans hq;exact(C.block q (by have:=I.size;omega) (Zz0 (E.alloc _) A Z)).trans A
     have v3:=hid (d0.moved ((d5 x _ d0.heap (fun c t fr h=>by cases h)).trans d0.heap.symm));have q8:Hid (w6.heap[D.heap.size]?=some (.mapIter (some x) cl (seen.push e.born) cl)/\cl<=cl):=hid ⟨d5 _ _ q6.out (fun c t fr h=>by cases h),Yac _⟩;have v4:Hid (∀g∈gs,GEnOk w6 g/\g.vals.length<=is.length):=hid (fun z hz=>⟨⟨(j3.out z hz).1.lb.kb p7 Dc,(j3.out z hz).1.vok⟩,(j3.out z hz).2⟩);have v5:Hid (BelX x w.heap.size w w6):=hid (p5.trans (BelX.of ((I.mono q7).grown C (by have:=I.size;omega) (fun q hq=>(E.lt q hq).1))));have v7:D.heap.size<w6.heap.size:=by have:=I.size;have:=C.size;omega
     have j8 : w6.ownsRow w.heap.size 255 3 v6 (js ++ [j]).length (encs ((js ++ [j]).map fun j => gItm op (gs.getD j gen0))) := by
       rw[v0.out,Zh1,Yab];unfold gItm;rw[<-j5.out];exact f7
     have v8:Hid (BAt w6 d.heap.size [.slice g.a g.n g.c,.string g.tx,Vi t0,Vi t1,Vi t2,Vi t3,Vi t4,Vi t5] 305):=hid (Z5.grown C (E.alloc _) _ _ _ _ Dc (j6.below (O.out _)));refine hK.out _ _ (Q.out _ v8.out) (fun p=>?_);clear hK K
     try simp only[Act.put,Zset]
     refine Zbl Kr Kr rfl Kr (fun K hK=>?_);go_simp;refine hK.out _ _ ?_;clear hK K C f7 E f6 p7 d5 I;go_wp2
     go_roundg (leftOf es (seen.push e.born)).size
     case measure=>omega
     case rel=>exact⟨js++[j],seen.push e.born,cl,Yac _,by simp;omega,j8,q8,v3,q5,v4,v5,v7⟩
theorem Zj0{l:LB}(h:WB w B b l)(s:BA)(f:l.length+s.size<=140737488355328) :
  CP 77 #[Vp b,.string s] w fun e u=>e=.returned (.tuple #[Vi s.size,.nilIface])/\Hid (WB u B b (l++bl s))/\Hid (WK B b w u):=by
 refine(ZhR B b (Lib.byteCells l) s w h.bd (by rw[Lib.byteCells_length];omega) h.le).mono ?_;rintro e u ⟨rfl,a,c,d⟩;rw[Zn4]at a;exact⟨rfl,⟨Or.inr a,Yah h.le c.size⟩,⟨c,d⟩⟩
theorem Zjm(h:ZR w)(n:Int)(d:vOk n) :
  CP 78 #[Vi n] w fun e u=>∃s:BA,e=.returned (.string s)/\Hid (bl s=decI n)/\s.size<=1000000002/\BW w u:=by
 have c:=Zlj n d;unfold vOk at d;refine(strconv_Itoa n Om Om w h).mono ?_;rintro e u ⟨rfl,k,os,rfl⟩
 have f:Lib.itoa n=decI n:=by
  unfold Lib.itoa decI;by_cases a:n<0
  ·rw[if_pos a,if_pos a,Zlk];rfl
  ·rw[if_neg a,if_neg a,Zlk]
 refine⟨_,rfl,hid ?_,?_,?_⟩
 ·rw[ZbF,f]
 ·show(Lib.itoa n).toArray.size<=_;rw[f];simpa using c
 ·exact⟨rfl,rfl,rfl,by simp[Go.Sort.grow,World.drewN],fun k g=>by simp[Go.Sort.grow,World.drewN,Yfo,g]⟩
theorem LbOk.size{a:Option Addr}{c:Nat}{tx:BA}{qs:List (BA×BA)}(h:LbOk w a n c tx qs):tx.size<=108018:=by
 rw[<-Zd,h.txt];exact h.wf.len
def ZcQ(t:Int)(is:List Itm):LB:=decI t++((is.map Itm.el).map elS).flatten
theorem Zyp{l:List Itm}:ZcQ t (l++[s])=ZcQ t l++elS s.el:=by
 unfold ZcQ;simp
theorem ZvL(c:(wrt s.labs).length<=108018)(a:vOk s.v):(elS s.el).length<=1000108030:=by
 have:=Zlj s.v a;show([32,123]++wrt s.labs++[125]++decI s.v).length<=_;simp only[Yab,Yaj,Ybq];omega
theorem ZqH(a:vOk t):∀is:List Itm,(∀i∈is,(wrt i.labs).length<=108018/\vOk i.v)->(ZcQ t is).length<=1000000002+1000108030*is.length
 | [],_=>by have:=Zlj t a;simpa [ZcQ] using this
 | s :: is, h => by
   have d:=ZqH a is (fun i c=>h i (Yam _ c));have f:=ZvL (h s (by simp)).1 (h s (by simp)).2
   have e:(ZcQ t (s::is)).length=(ZcQ t is).length+(elS s.el).length:=by
     unfold ZcQ;simp only[Ybb,List.flatten_cons,Yab];omega
   rw[e,Yaj];omega
theorem Zyq(t:Int)(H:vOk t)(v:Value)(n:Int)(w:World)(T:ValP w v (.inl n))(I:ZR w)(J:20<=w.heap.size) :
  CP 86 #[Vi t,v] w fun e u=>∃r:BA,e=.returned (.string r)/\Hid (bl r=Zel t (.inl n))/\r.size<=40000000000/\BW w u:=by
 have U:Hid (ZR w):=I;have g:Hid (20<=w.heap.size):=J;have V:Hid (vOk t):=H;clear I J H;obtain⟨rfl,o⟩:=T;have X:Hid (vOk n):=o;have h1:=asSS (Vi n);clear o;go_enter func86,ntmps86
 go_wp2_with fail
 refine Zm fun W G=>?_;have c:BW w W:=by rw[G];exact Zbal
 have p:Hid (WB W w.heap.size w.heap.size []):=hid ⟨Or.inl ⟨Yac _,S0,by rw[G];exact Go.Deep.blk_alloc_new _ _,⟨rfl,Or.inl ⟨rfl,rfl⟩⟩,by simp[Value.ownBlock]⟩,c.size⟩;have d:Hid (BW w W):=hid c;have h:=hid (U.low c g.out);clear G c;refine(Zjm h.out t V.out).mono ?_;rintro e y ⟨s1,rfl,K,a0,f⟩;have q:=hid (p.below f);have s:Hid (BW w y):=hid (d.trans (f.mono d.size));have A:=hid (h.low f (by have:=g.out;have:=d.size;omega));clear f p d h
 go_wp2_with fail
 refine(Zj0 q.out s1 (by simp;omega)).mono ?_;rintro e Y ⟨rfl,B,C⟩;have i:Hid (BW w Y):=hid (s.trans C.low);have L:=hid (A.low C.low g.out);clear q s A
 go_wp2_with fail
 refine(Zjm L.out n X.out).mono ?_;rintro e Z ⟨s3,rfl,M,a1,j⟩;have N:=hid (B.below j);have O:Hid (BW w Z):=hid (i.trans (j.mono i.size));clear j B i;have k:Hid ((⟨#[32]⟩++s3:BA).size=1+s3.size):=hid (by rw[Yaz];rfl);have D:Hid (bl (⟨#[32]⟩++s3:BA)=[32]++decI n):=hid (by rw[Zfg,M.out];rfl)
 go_wp2_with fail
 generalize(⟨#[32]⟩++s3:BA)=x at k D ⊢;have a2:x.size<=1000000003:=by have:=k.out;omega
 clear k;refine(Zj0 N.out x (by have b:([]++bl s1).length=s1.size:=(by rw[Ycu,Zd]);omega)).mono ?_;rintro e P ⟨rfl,l,E⟩;have Q:Hid (BW w P):=hid (O.trans E.low);have R:Hid ([]++bl s1++bl x=Zel t (.inl n)):=hid (by rw[D.out,K.out];show[]++decI t++([32]++decI n)=decI t++[32]++decI n;simp);have m:Hid (([]++bl s1++bl x).length<=40000000000):=hid (by have b:([]++bl s1++bl x).length=s1.size+x.size:=(by rw[Ycu,Yab,Zd,Zd]);omega);generalize[]++bl s1++bl x=z at l R m
 go_wp2_with fail
 refine(Builder_String_any_f w.heap.size w.heap.size _ P l.bd l.le).mono ?_;rintro e w5 ⟨rfl,_,F⟩;have S:Hid (BW w w5):=hid (Q.trans F);clear F E;go_wp2;go_ret;exact⟨_,rfl,hid (by rw[ZbF,R.out]),by have a:=m.out;rw[<-Yb5]at a;exact a,S.out⟩
theorem Zyr(t:Int)(ht:vOk t)(v:Value)(l:List El)(w:World)(hv:ValP w v (.inr l))(hn:VOk 30 (.inr l))(hp:ZR w)(hB:20<=w.heap.size) :
  CP 86 #[Vi t,v] w fun e u=>∃r:BA,e=.returned (.string r)/\Hid (bl r=Zel t (.inr l))/\r.size<=40000000000/\BW w u:=by
 have HP:Hid (ZR w):=hp;have K:Hid (20<=w.heap.size):=hB;have HT:Hid (vOk t):=ht;clear hp hB ht;obtain⟨s,is,rfl,j⟩:=hv;have b0:is.length<=30:=by rw[<-j.len'];exact hn.2
 obtain⟨ra,rcp,rfl⟩:=Zl j.row;have J:Hid (VecV w (.slice ra is.length rcp) l is):=j
 have L : Hid (∀ k, (ZcQ t (is.take k)).length <= 40000000000 - 2000000000) := hid (fun k => by
   have:=ZqH HT.out (is.take k) (fun i hi=>⟨(j.ok i (Ydn hi)).lb.wf.len,(j.ok i (Ydn hi)).vok⟩);rw[Ya7]at this;omega)
 have h1:=asVS (.slice ra is.length rcp);have h2:=asVV (.slice ra is.length rcp);clear hn j;go_enter func86,ntmps86
 go_wp2_with fail
 refine Zm fun W q=>?_;have d:BW w W:=by rw[q];exact Zbal
 have o:Hid (WB W w.heap.size w.heap.size []):=hid ⟨Or.inl ⟨Yac _,S0,by rw[q];exact Go.Deep.blk_alloc_new _ _,⟨rfl,Or.inl ⟨rfl,rfl⟩⟩,by simp[Value.ownBlock]⟩,d.size⟩;have f:Hid (BW w W):=hid d;have M:=hid (HP.low d K.out);clear q d;refine(Zjm M.out t HT.out).mono ?_;rintro e y ⟨s1,rfl,a0,b1,C⟩;have N:=hid (o.below C);have O:Hid (BW w y):=hid (f.trans (C.mono f.size));clear C o f M
 go_wp2_with fail
 refine(Zj0 N.out s1 (by simp;omega)).mono ?_;rintro e z ⟨rfl,P,Q⟩;have a1:Hid (BW w z):=hid (O.trans Q.low);have Y:Hid (WB z w.heap.size w.heap.size (ZcQ t [])):=hid (by have:=P.out;rw[a0.out]at this;simpa [ZcQ] using this);clear N O P Q;go_wp2
 go_loopw [26] (fun i wr=>∃k:Nat,k<=is.length/\i=Vi k/\Hid (WB wr w.heap.size w.heap.size (ZcQ t (is.take k)))/\Hid (BW w wr)) (fun i _=>is.length - (intOf i).toNat)
 case atStart=>exact⟨0,Yag _,rfl,Y,a1⟩
 case round=>
  rename World=>wo
  obtain⟨k,hk,rfl,p,D⟩:=hrel;have a2:=D.size;by_cases E:k<is.length
  ·have hg:∃g,ra=some ⟨g,0,none⟩:=by
    obtain⟨g,cp',h⟩:=ZF J.row Om;injection h with h1;exact⟨g,h1⟩
   obtain⟨vg,rfl⟩:=hg;have A:=hid (Zn J.row D.out);obtain⟨f1,f2,f3⟩:=Zfl is k E;have d1:=Zi A.out _ _ f1;have d2:=Zi A.out _ _ f2;have d3:=Zi A.out _ _ f3;have F:=hid (J.ok _ (List.getElem_mem E));have a3:Hid (ZcQ t (is.take (k+1))=ZcQ t (is.take k)++elS (is[k]).el):=hid (by rw[List.take_succ_eq_append_getElem E];exact Zyp);generalize is[k]=s at *
   have b2:=F.lb.size;have q1:¬9223372036854775807<2+s.tx.size:=by omega
   have q2:¬9223372036854775807<2+s.tx.size+1:=by omega
   clear f1 f2 f3 A;have b3:(k:Int)<(is.length:Int):=by omega
   go_upto_region 12 with fail
   refine ZP fun W q=>?_;have d:BW wo W:=by rw[q];exact Zbal
   have G:Hid (BAt W wo.heap.size [.slice s.a s.n s.c,.string s.tx,Vi s.v] 255):=hid (by rw[q];exact Go.Deep.blk_alloc_new _ _);have o:=hid (p.below d);have f:Hid (BW w W):=hid (D.trans (d.mono a2));clear q d d1 d2 d3 p D;have R:=f.size;have x0:=G.cell 0;have x1:=G.cell 1;have x2:=G.cell 2;simp only[Zget]at x0 x1 x2;have H:Hid (∀u,BAt u wo.heap.size [.slice s.a s.n s.c,.string s.tx,Vi s.v] 255->u.cell? ⟨wo.heap.size,0,none⟩=some (.slice s.a s.n s.c)/\u.cell? ⟨wo.heap.size,1,none⟩=some (.string s.tx)/\u.cell? ⟨wo.heap.size,2,none⟩=some (Vi s.v)):=hid (fun u h=>⟨h.cell 0,h.cell 1,h.cell 2⟩)
   go_region_held3 (fun u => u.cell? ⟨wo.heap.size, 0, none⟩ = some (.slice s.a s.n s.c) /\ u.cell? ⟨wo.heap.size, 1, none⟩ = some (.string s.tx) /\ u.cell? ⟨wo.heap.size, 2, none⟩ = some (Vi s.v)) (first | exact ⟨x0, x1, x2⟩ | exact H.out _ a4.out | exact H.out _ S.out | exact H.out _ a5.out | go_keep) (first
     | (go_at_call 124
        refine(ZgR).mono ?_;rintro e Z ⟨rfl,o5,T⟩;have m:Hid (BW W Z):=hid (by rw[T];exact((Yaf _ _).drew).alloc (Yac _) _);have a5:=hid (G.below m.out);clear T)
     | (go_at_call 78
        refine(Zjm (HP.low (f.trans (m.mono R)) K.out) s.v F.vok).mono ?_;rintro e w6 ⟨s6,rfl,a6,b4,U⟩;have B:Hid (BW W w6):=hid (m.trans (U.mono m.size));have S:=hid (G.below B.out);have x:Hid ((⟨#[32,123]⟩++s.tx++⟨#[125]⟩++s6:BA).size=2+s.tx.size+1+s6.size):=hid (by rw[Yaz,Yaz,Yaz];rfl)
        have I:Hid (bl (⟨#[32,123]⟩++s.tx++⟨#[125]⟩++s6:BA)=elS s.el):=hid (by
          rw[Zfg,Zfg,Zfg,a6.out,F.lb.txt];rfl)
        have q3:¬9223372036854775807<2+s.tx.size+1+s6.size:=by omega
        clear U)
     | (go_at_call 77
        generalize(⟨#[32,123]⟩++s.tx++⟨#[125]⟩++s6:BA)=x6 at x I ⊢;have b5:x6.size<=1000108030:=(by have:=x.out;omega)
        clear x;refine(Zj0 (o.below B.out) x6 (by have:=L.out k;omega)).mono ?_;rintro e w7 ⟨rfl,a7,V⟩;have a4:Hid (BAt w7 wo.heap.size [.slice s.a s.n s.c,.string s.tx,Vi s.v] 255):=hid (WK.bat (o.below B.out) V.out S.out Dc Dc)))
   have a8:Hid (WB w7 w.heap.size w.heap.size (ZcQ t (is.take (k+1)))):=hid (by rw[a3.out,<-I.out];exact a7.out);have a9:Hid (BW w w7):=hid ((f.trans (B.mono R)).trans V.low);go_wp2
   go_roundw
   case rel=>exact⟨k+1,by omega,by go_num,a8,a9⟩
   case measure=>simp[intOf];omega
  ·obtain rfl:k=is.length:=by omega
   rw[Ya4]at p;have HE:Hid (ZcQ t is=Zel t (.inr l)):=hid (by unfold ZcQ;rw[J.els];rfl)
   go_wp2_with fail
   refine(Builder_String_any_f w.heap.size w.heap.size _ wo p.bd p.le).mono ?_;rintro e Z ⟨rfl,_,X⟩;have m:Hid (BW w Z):=hid (D.trans X);clear X;go_wp2;go_ret;exact⟨_,rfl,hid (by rw[ZbF,HE.out]),by have a:=L.out is.length;rw[Ya4,<-Yb5]at a;exact Yah a Om,m.out⟩
theorem ZqI(t:Int)(a:vOk t)(v:Value){V:VV}(w:World)(c:ValP w v V)(g:VOk 30 V)(d:ZR w)(f:20<=w.heap.size) :
  CP 86 #[Vi t,v] w fun e u=>∃r:BA,e=.returned (.string r)/\Hid (bl r=Zel t V)/\r.size<=40000000000/\BW w u:=by
 cases V with
 | inl n=>exact Zyq t a v n w c d f
 | inr l=>exact Zyr t a v l w c g d f
theorem Zmp (w : World) : CP 85 #[] w fun e u => e = .returned (Vp (w.heap.size + 1)) /\ Hid (MapX u w.heap.size) /\ Hid (BAt u (w.heap.size + 1) [.map (some w.heap.size)] 250) /\ u.heap.size = w.heap.size + 2 /\ BW w u := by
  have c:=@run_makeMap prog;go_enter func85,ntmps85;go_wp2;go_ret;have a:BW w (w.alloc (.map #[] 0)):=Zbal;refine⟨rfl,hid ⟨#[],0,(Zbal.block _ (by simp)).trans (Go.Deep.blk_alloc_new _ _)⟩,hid ?_,by simp,a.alloc (by simp) _⟩;have:=Go.Deep.blk_alloc_new (w.alloc (.map #[] 0)) (.cells #[.map (some w.heap.size)] 250);rw[Go.Deep.nblk_alloc]at this;exact this
theorem MapX.below(h:MapX w x)(c:BW w w'):MapX w' x:=by
 obtain⟨es,cl,a⟩:=h;exact⟨es,cl,(c.block x (Yae.1 a).1).trans a⟩
theorem MapX.grown{r:Option Nat}(h:MapX w x)(c:w.grownBy w' r)(d:some x≠r):MapX w' x:=by
 obtain⟨es,cl,a⟩:=h;exact⟨es,cl,(c.block x (Yae.1 a).1 d).trans a⟩
theorem BAt.set1{a:Nat}{p q r x:Value}{t:TypeId}(h:BAt w a [p,q,r] t):BAt (w.setCell ⟨a,1,none⟩ x) a [p,x,r] t:=by
 unfold BAt at h;unfold BAt;simp only[World.setCell,Ybn,h,if_true,Ybf];rfl
theorem Zp9:∀l:List (LB),Lib.join l [10]=Zcn l
 | []=>rfl
 | [a]=>by simp[Lib.join,List.intercalate,Zcn]
 | a :: b :: l => by
   have ih:=Zp9 (b::l);rw[Zcn,<-ih];simp[Lib.join,List.intercalate]
theorem Zqa : ∀l:List (LB),(∀x∈l,x.length<=n)->(Zcn l).length<=l.length*(n+1)
 | [],_=>Yag _
 | [a],h=>by have:=h a (by simp);simp only[Zcn,Yaj,Ybq];omega
 | a :: b :: l, h => by
   have ih:=Zqa (b::l) (fun x c=>h x (Yam _ c));have d:=h a (by simp);have e:(Zcn (a::b::l)).length=a.length+((Zcn (b::l)).length+1):=by rw[Zcn,Yab,Yaj]
   rw[e,Yaj,Nat.succ_mul];omega
theorem Zqb(bs:List BA)(h:w.ownsRow B 9 1 v bs.length (Zbc bs))(p:bs.length<=50)(l:∀b∈bs,b.size<=40000000000) :
  CP 82 #[v,.string ⟨#[10]⟩] w fun e u=>∃s:BA,e=.returned (.string s)/\Hid (bl s=Zcn (bs.map bl))/\BW w u:=by
 by_cases i:bs.length=0
 ·obtain⟨la,lc,rfl⟩:=Zl h;rw[i];refine(strings_Join_none la lc ⟨#[10]⟩ w).mono ?_;rintro e u ⟨rfl,rfl⟩;have:bs=[]:=Ya3 i;subst this;exact⟨_,rfl,hid rfl,Yaf _ _⟩
 ·obtain⟨g,lc,rfl⟩:=ZF h Om;have c:Lib.join (bs.map (·.data.toList)) [10]=Zcn (bs.map bl):=Zp9 _;have k:=Zqa (n:=40000000000) (bs.map bl) (fun x m=>by obtain⟨b,d,rfl⟩:=Ybe.1 m;rw[Zd];exact l b d);rw[Yak]at k;have a:(Zcn (bs.map bl)).length<=140737488355328:=by omega
  have f:bs.length<=lc:=by
   rcases h.2 with ⟨e,_⟩|⟨g',cap,cur,e,_,_,o,_⟩
   ·cases e
   ·injection e with _ _ e;subst e;exact o
  rw[<-c]at a;refine(strings_Join g 0 lc bs ⟨#[10]⟩ w ?_ (Z1 h) Om f a).mono ?_
  ·intro j x c;rw[Ycf];exact Zi h j _ (by show(bs.map Value.string)[j]?=_;rw[Ya2,c];rfl)
  ·rintro e u ⟨rfl,d⟩;exact⟨_,rfl,hid (by show bl (ByteArray.mk (Lib.join (bs.map (·.data.toList)) [10]).toArray)=_;rw[ZbF,c]),d⟩
structure MOk (x mb gb:Nat) (sv:Value) (ss:List Srs) (tm:Int) (w:World):Prop where
 m:BAt w mb [sv,Vi tm,Vp gb] 188
 g:BAt w gb [.map (some x)] 250
 map:MapX w x
 sto:StoP w sv ss
theorem MOk.belX{mb gb:Nat}(h:MOk x mb gb sv ss tm w)(c:BelX x w.heap.size w w')(d:MapX w' x):MOk x mb gb sv ss tm w':=by
 have a:=Zo.belX c h.map;exact⟨a _ _ _ _ h.m,a _ _ _ _ h.g,d,h.sto.jy a⟩
theorem MOk.below{mb gb:Nat}(h:MOk x mb gb sv ss tm w)(a:BW w w'):MOk x mb gb sv ss tm w':=by
 refine h.belX (BelX.of a) ?_;obtain⟨es,cl,c⟩:=h.map;exact⟨es,cl,(a.block x (Yae.1 c).1).trans c⟩
theorem Zh.jy{t:Tr}(h:Zh w t v)(a:Zo w w'):Zh w' t v:=Zh.mono (fun _ _ h=>h.jy a) (fun _ _ h=>h.jy a) t v h
def SayP(x mb gb:Nat)(sv:Value)(ss:List Srs)(tm:Int)(t:Tr)(w:World)(e:Ending)(w':World):Prop:=∃v,e=.returned v/\Hid (ValP w' v (sayT (ss.map Srs.ser) tm t))/\Hid (MOk x mb gb sv ss tm w')/\Hid (BelX x w.heap.size w w')
def ZcC(x mb gb:Nat)(sv:Value)(ss:List Srs)(tm:Int)(t:Tr):Prop:=∀(pv:Value) (w:World),MOk x mb gb sv ss tm w->Zh w t pv->CP 87 #[Vp mb,pv] w (SayP x mb gb sv ss tm t w)
variable {x mb gb:Nat} {sv:Value} {ss:List Srs} {tm:Int}
theorem ZBR(nd:Nd)(l r:Tr)(a b:Nat)(i:nd.jx=0)(c:vOk nd.n):ZcC x mb gb sv ss tm (.node a b nd l r):=by
 intro pv w d e
 have f:pv=.iface 152 (.agg #[Vi nd.n]):=by
  rcases e with ⟨_,h⟩|⟨h,_⟩|⟨h,_⟩|⟨h,_⟩|⟨h,_⟩|⟨h,_⟩
  ·exact h
  all_goals omega
 subst f;have j:Hid (sayT (ss.map Srs.ser) tm (.node a b nd l r)=.inl nd.n):=hid (by unfold sayT;rw[if_pos i]);have k:Hid (MOk x mb gb sv ss tm w):=d;have m:Hid (vOk nd.n):=c;clear e d c;have p:=ZhB (.agg #[Vi nd.n]);go_enter func87,ntmps87;go_wp2;go_ret;have g:∀o,BW w (w.alloc o):=fun o=>Zbal;exact⟨_,rfl,hid (by rw[j.out];exact⟨rfl,m.out⟩),hid (k.below (g _)),hid (BelX.of (g _))⟩
theorem ZBQ(nd:Nd)(l r:Tr)(a b:Nat)(B:nd.jx=3)(f:ZcC x mb gb sv ss tm l):ZcC x mb gb sv ss tm (.node a b nd l r):=by
 intro pv w k m
 obtain⟨y,n,j⟩:∃y,pv=.iface 154 (.agg #[y])/\Zh w l y:=by
  rcases m with ⟨h,_⟩|⟨h,_⟩|⟨h,_⟩|⟨_,y,o,p⟩|⟨h,_⟩|⟨h,_⟩
  ·omega
  ·omega
  ·omega
  ·exact⟨y,o,p⟩
  ·omega
  ·omega
 subst n;obtain⟨ty,uv,rfl⟩:=j.shape;have C:Hid (sayT (ss.map Srs.ser) tm (.node a b nd l r)=negV (sayT (ss.map Srs.ser) tm l)):=hid (by rw[sayT,if_neg Om,if_neg Om,if_neg Om,if_pos B]);have D:Hid (MOk x mb gb sv ss tm w):=k;have E:Hid (Zh w l (.iface ty uv)):=j;have F:Hid (ZcC x mb gb sv ss tm l):=f;clear m k j f;have o:=ZhA (.agg #[.iface ty uv]);have p:=Zhz (.agg #[.iface ty uv]);go_enter func87,ntmps87
 go_wp2_with fail
 refine Zm fun W q=>?_;have c:BW w W:=by rw[q];exact Zbal
 clear q;refine(F.out _ W (D.below c) (E.below c)).mono ?_;rintro e s ⟨v5,rfl,t,u,g⟩;have i:Hid (BelX x w.heap.size w s):=hid ((BelX.of c).trans (g.mono c.size));clear c g
 go_wp2_with fail
 refine(ZmQ v5 s t.out).mono ?_;rintro e G ⟨v6,rfl,v,d⟩;have z:=hid (u.below d);have A:Hid (BelX x w.heap.size w G):=hid (i.trans ((BelX.of d).mono i.size));clear d;go_wp2;go_ret;exact⟨_,rfl,hid (by rw[C.out];exact v.out),z,A⟩
def VecP(x mb gb:Nat)(sv:Value)(ss:List Srs)(tm:Int)(t:Tr)(w:World)(e:Ending)(w':World):Prop:=∃s l is,e=.returned s/\Hid (VecV w' s l is/\sayT (ss.map Srs.ser) tm t=.inr l)/\Hid (MOk x mb gb sv ss tm w')/\Hid (BelX x w.heap.size w w')
theorem Znu(t:Tr)(f:ZdN (sayT (ss.map Srs.ser) tm t)=true)(ih:ZcC x mb gb sv ss tm t)(ty:TypeId)(uv:Value)(w:World)(g:MOk x mb gb sv ss tm w)(i:Zh w t (.iface ty uv)):CP 132 #[Vp mb,.iface ty uv] w (VecP x mb gb sv ss tm t w):=by
 have q:=hid (ih _ w g i)
 obtain⟨l,j⟩:∃l,sayT (ss.map Srs.ser) tm t=.inr l:=by
  cases h:sayT (ss.map Srs.ser) tm t with
  | inl n=>rw[h]at f;cases f
  | inr l=>exact⟨l,rfl⟩
 have k:Hid (sayT (ss.map Srs.ser) tm t=.inr l):=j;clear g i f j ih;go_enter func132,ntmps132
 go_wp2_with fail
 refine q.mono ?_;rintro e r ⟨v5,rfl,c,m,o⟩;have d:=c.out;rw[k.out]at d;obtain⟨s,is,rfl,a⟩:=d;have p:Hid (VecV r s l is):=a;obtain⟨sa,scp,rfl⟩:=Zl a.row;clear a c;have u:=asVV (.slice sa is.length scp);go_wp2;go_ret;exact⟨_,l,is,rfl,hid ⟨p.out,k.out⟩,m,o⟩
def EitP(x mb gb:Nat)(sv:Value)(ss:List Srs)(tm:Int)(t u:Tr)(w:World)(e:Ending)(w':World):Prop:=∃s l is,e=.returned s/\Hid (VecV w' s l is/\(if (Zcm (sayT (ss.map Srs.ser) tm t)).isEmpty then sayT (ss.map Srs.ser) tm u else sayT (ss.map Srs.ser) tm t)=.inr l)/\Hid (MOk x mb gb sv ss tm w')/\Hid (BelX x w.heap.size w w')
theorem ZvE(t u:Tr)(q:ZdN (sayT (ss.map Srs.ser) tm t)=true)(r:ZdN (sayT (ss.map Srs.ser) tm u)=true)(f:ZcC x mb gb sv ss tm t)(g:ZcC x mb gb sv ss tm u)(ty uy:TypeId)(tv uv:Value)(w:World)(m:MOk x mb gb sv ss tm w)(h:Zh w t (.iface ty tv))(i:Zh w u (.iface uy uv)) :
  CP 126 #[Vp mb,.iface ty tv,.iface uy uv] w (EitP x mb gb sv ss tm t u w):=by
 have F:=hid (Znu t q f ty tv w m h);have G:Hid (∀W,MOk x mb gb sv ss tm W->Zh W u (.iface uy uv)->CP 132 #[Vp mb,.iface uy uv] W (VecP x mb gb sv ss tm u W)):=hid (fun W H I=>Znu u r g uy uv W H I);have v:Hid (Zh w u (.iface uy uv)):=i;have y:Hid (MapX w x):=hid m.map;clear m h i q r f g;go_enter func126,ntmps126
 go_wp2_with fail
 refine F.mono ?_;rintro e z ⟨s,l,is,rfl,a,j,c⟩;obtain⟨sa,scp,rfl⟩:=Zl a.1.row;have d:is.length=l.length:=a.1.len'.symm;have n:=a.1.len;by_cases o:is.length=0
 ·have p:Hid ((Zcm (sayT (ss.map Srs.ser) tm t)).isEmpty=true):=hid (by rw[a.2];show l.isEmpty=true;rw[Ydl];exact Ya3 Om);rw[o];have A:=Zo.belX c.out y.out;have B:Hid (Zh z u (.iface uy uv)):=hid (v.jy A);clear A d n o
  go_wp2_with fail
  refine(G.out z j.out B.out).mono ?_;rintro e J ⟨s6,l6,is6,rfl,k,C,D⟩;have E:Hid (BelX x w.heap.size w J):=hid (c.trans (D.mono c.size));go_wp2;go_ret;exact⟨_,l6,is6,rfl,hid ⟨k.1,by rw[if_pos p.out];exact k.2⟩,C,E⟩
 ·have p:Hid (¬(Zcm (sayT (ss.map Srs.ser) tm t)).isEmpty=true):=hid (by rw[a.2];show ¬l.isEmpty=true;rw[Ydl];intro e;subst e;exact o d);have K:(0:Int)<(is.length:Int):=by omega
  clear d;go_wp2;go_ret;exact⟨_,l,is,rfl,hid ⟨a.1,by rw[if_neg p.out];exact a.2⟩,j,c⟩
