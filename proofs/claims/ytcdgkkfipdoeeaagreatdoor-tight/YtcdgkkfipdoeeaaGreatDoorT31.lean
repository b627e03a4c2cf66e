/- Parts. -/
import Derived.Test.YtcdgkkfipdoeeaaGreatDoorT30
import Derived.Test.YtcdgkkfipdoeeaaGreatDoorT06
set_option linter.unusedSimpArgs false
set_option maxRecDepth 100000
set_option maxHeartbeats 8000000
namespace Go.Proofs.YtcdgkkfipdoeeaaGreatDoor
open Go.RowKit LS
open Go.ChangeMaps (setBlock)
theorem ZlO(k:List Lab)(v:Int):∀(m:List Grp) (j:Nat) (hj:j<m.length),m[j].1=k->(∀i (hi:i<m.length),i≠j->m[i].1≠k)->addG k v m=m.set j (k,m[j].2++[v])
 | g :: m, 0, _, h, _ => by
   have h':g.1=k:=h
   rw[addG,if_pos h'];rfl
 | g :: m, j + 1, hj, h, hu => by
   have h0:g.1≠k:=hu 0 (by simp) (by omega)
   rw[addG,if_neg h0,ZlO k v m j (by simpa using hj) h (fun i hi hij=>hu (i+1) (by simpa using hi) (by omega))]
   rfl
theorem ZlQ(k:List Lab)(v:Int):∀(m:List Grp),(∀g∈m,g.1≠k)->addG k v m=m++[(k,[v])]
 | [],_=>rfl
 | g :: m, h => by
   rw[addG,if_neg (h g (by simp)),ZlQ k v m (fun z hz=>h z (List.mem_cons_of_mem _ hz))];rfl
theorem MapG.push{w W:World}{x:Nat}{gs:List GEn}{es:Array MapEntry}{clock:Nat}(h:MapG w x gs es clock)(hx:x<W.heap.size)(g:GEn)(hg:g.tx.size<=maxLen)(hk:∀e∈es.toList,e.key≠.string g.tx) :
  MapG (setBlock W x (.map (es.push ⟨.string g.tx,g.val,clock⟩) (clock+1))) x (gs++[g]) (es.push ⟨.string g.tx,g.val,clock⟩) (clock+1):=by
 refine⟨by simp[setBlock,hx],MapKept.stamped_push h.stm hk,?_,fun z hz=>?_⟩
 ·rw[Array.toList_push,List.map_append,List.map_append,h.kv];rfl
 ·rcases List.mem_append.1 hz with hz|hz
  ·exact h.sz z hz
  ·rw[List.mem_singleton]at hz;subst hz;exact hg
theorem MapG.mod{w W:World}{x:Nat}{gs:List GEn}{es:Array MapEntry}{clock:Nat}(h:MapG w x gs es clock)(hx:x<W.heap.size)(g:GEn)(hg:g.tx.size<=maxLen){j:Nat}{e:MapEntry}(he:es.toList[j]?=some e)(hek:e.key=.string g.tx) :
  MapG (setBlock W x (.map (es.modify j fun e=>{ e with key:=.string g.tx,val:=g.val }) clock)) x (gs.set j g) (es.modify j fun e=>{ e with key:=.string g.tx,val:=g.val }) clock:=by
 refine⟨by simp[setBlock,hx],MapKept.stamped_modify h.stm j _ (fun _ _=>rfl) (fun e' _ he'=>?_),?_,fun z hz=>?_⟩
 ·rw[<-Array.getElem?_toList,he]at he'
  have:=Option.some.inj he'
  subst this
  exact hek.symm
 ·rw[List.map_set,<-h.kv]
  refine List.ext_getElem? (fun i=>?_)
  rw[List.getElem?_map,Array.getElem?_toList,Array.getElem?_modify,List.getElem?_set,List.getElem?_map,List.length_map,Array.length_toList]
  by_cases hij:j=i
  ·subst hij
   have hjl:j<es.size:=by have:=(List.getElem?_eq_some_iff.1 he).1;simpa using this
   rw[if_pos rfl,if_pos rfl,if_pos hjl,<-Array.getElem?_toList,he]
   rfl
  ·rw[if_neg hij,if_neg hij,<-Array.getElem?_toList]
 ·rcases List.mem_or_eq_of_mem_set hz with hz|rfl
  ·exact h.sz z hz
  ·exact hg
theorem Zp4(g:GEn){t0 t1 t2 t3 t4 t5:Int}(ht:talC g.vals=[.int .i64 t0,.int .i64 t1,.int .i64 t2,.int .i64 t3,.int .i64 t4,.int .i64 t5]):g.val=.agg #[.slice g.a g.n g.c,.string g.tx,.int .i64 t0,.int .i64 t1,.int .i64 t2,.int .i64 t3,.int .i64 t4,.int .i64 t5]:=by
 unfold GEn.val;rw[ht]
theorem Ztj{w:World}{gs:List GEn}(hok:∀g∈gs,GEnOk w g){o:GEn}(ho:LbOk w o.a o.n o.c o.tx o.qs)(v:Int) :
  (∀(j:Nat) (hj:j<gs.length),gs[j].tx=o.tx->(∀i (hi:i<gs.length),i≠j->gs[i].tx≠o.tx)->(gs.set j { o with vals:=gs[j].vals++[v] }).map GEn.grp=addG (o.qs.map blP) v (gs.map GEn.grp))/\
  ((∀g∈gs,g.tx≠o.tx)->(gs++[{ o with vals:=[v] }]).map GEn.grp=addG (o.qs.map blP) v (gs.map GEn.grp)):=by
 have key : ∀ g ∈ gs, g.qs.map blP = o.qs.map blP ↔ g.tx = o.tx := fun g hg => by
   constructor
   · intro h
     have e:=(hok g hg).lb.txt
     rw[h,<-ho.txt]at e
     exact(Zd1 (s:=g.tx) (a:=o.tx.data) e)
   · intro h
     refine ZlM (hok g hg).lb.wf ho.wf ?_
     rw[<-(hok g hg).lb.txt,<-ho.txt,h]
 constructor
 ·intro j hj h1 h2
  rw [List.map_set, ZlO (o.qs.map blP) v (gs.map GEn.grp) j (by rw [List.length_map]; exact hj) (by rw [List.getElem_map]; exact (key _ (List.getElem_mem hj)).2 h1) (fun i hi hij => by
    rw[List.length_map]at hi
    rw[List.getElem_map]
    exact fun e=>h2 i hi hij ((key _ (List.getElem_mem hi)).1 e)),List.getElem_map]
  rfl
 ·intro h
  rw [List.map_append, ZlQ _ _ _ (fun g hg => by
    obtain⟨z,hz,rfl⟩:=List.mem_map.1 hg
    exact fun e=>h z hz ((key z hz).1 e))]
  rfl
theorem ZrE{w:World}{x:Nat}{es:Array MapEntry}{clock:Nat}(h:w.heap[x]?=some (.map es clock))(T:TypeId):(Builtin.clear_ #[279] T #[.map (some x)]).run Tryz.prog w=.ok (.tuple #[]) (setBlock w x (.map #[] clock)):=by
 simp[Builtin.clear_,run_underlying Tryz.underlying279,MapKept.run_getObj_map h,MapKept.run_setObj_map _ h,Result.andThen,setBlock]
theorem ZuY{w:World}{x:Nat}{es:Array MapEntry}{clock:Nat}(h:w.heap[x]?=some (.map es clock))(T:TypeId):(Builtin.len_ #[279] T #[.map (some x)]).run Tryz.prog w=.ok (.int .i64 es.size) w:=by
 simp[Builtin.len_,run_underlying Tryz.underlying279,MapKept.run_getObj_map h,Result.andThen]
 rfl
def gItm(op:Nat)(g:GEn):Itm:=⟨g.a,g.n,g.c,g.tx,g.qs,cutV (Zek op g.vals)⟩
instance:Inhabited GEn:=⟨⟨none,0,0,⟨#[]⟩,[],[]⟩⟩
def ZgH(es:Array MapEntry)(j:Nat):Nat:=(es.toList[j]?.map (·.born)).getD 0
structure Went (es:Array MapEntry) (n:Nat) (js:List Nat) (seen:Array Nat):Prop where
 nodup:js.Nodup
 lt:∀j∈js,j<n
 seen:seen.toList=js.map (ZgH es)
theorem Zoa{es:Array MapEntry}{seen:Array Nat}{e:MapEntry}(h:e∈(leftOf es seen).toList):e∈es.toList/\e.born∉seen.toList:=by
 unfold leftOf at h
 rw[Array.toList_filter,List.mem_filter]at h
 refine⟨h.1,fun hm=>?_⟩
 have:=h.2
 simp[Array.mem_toList_iff.1 hm]at this
theorem Zub{es:Array MapEntry}{seen:Array Nat}{e:MapEntry}(h:e∈(leftOf es seen).toList):(leftOf es (seen.push e.born)).size+1<=(leftOf es seen).size:=by
 have e1 : (leftOf es (seen.push e.born)).toList = (leftOf es seen).toList.filter (fun z => decide (z.born ≠ e.born)) := by
   unfold leftOf
   rw[Array.toList_filter,Array.toList_filter,List.filter_filter]
   refine List.filter_congr (fun z _=>?_)
   simp[Bool.and_comm]
 have h2:((leftOf es seen).toList.filter (fun z=>decide (z.born≠e.born))).length<(leftOf es seen).toList.length:=List.length_filter_lt_length_iff_exists.2 ⟨e,h,by simp⟩
 rw[<-e1,Array.length_toList,Array.length_toList]at h2
 omega
theorem Zua{es:Array MapEntry}{seen:Array Nat}(h:(leftOf es seen).size=0):∀e∈es.toList,e.born∈seen.toList:=by
 intro e he
 refine Classical.byContradiction fun hn=>?_
 have hm:e∈(leftOf es seen).toList:=by
  unfold leftOf
  rw[Array.toList_filter,List.mem_filter]
  refine⟨he,?_⟩
  simp
  exact fun hc=>hn (Array.mem_toList_iff.2 hc)
 have:(leftOf es seen).toList=[]:=List.eq_nil_of_length_eq_zero (by rw[Array.length_toList];exact h)
 rw[this]at hm
 cases hm
theorem Went.step{w:World}{x:Nat}{gs:List GEn}{es:Array MapEntry}{cl:Nat}(hm:MapG w x gs es cl){js:List Nat}{seen:Array Nat}(h:Went es gs.length js seen){e:MapEntry}(he:e∈(leftOf es seen).toList):∃j,j<gs.length/\es.toList[j]?=some e/\Went es gs.length (js++[j]) (seen.push e.born):=by
 obtain⟨h1,h2⟩:=Zoa he
 obtain⟨j,hj⟩:=List.getElem?_of_mem h1
 obtain⟨hl,_⟩:=hm.at hj
 have hb:ZgH es j=e.born:=by unfold ZgH;rw[hj];rfl
 have hnj:j∉js:=fun hm'=>h2 (by rw[h.seen];exact List.mem_map.2 ⟨j,hm',hb⟩)
 refine⟨j,hl,hj,⟨?_,?_,?_⟩⟩
 ·rw[List.nodup_append]
  exact⟨h.nodup,by simp,fun a ha b hb'=>by rw[List.mem_singleton]at hb';subst hb';intro e';subst e';exact hnj ha⟩
 ·intro i hi
  rcases List.mem_append.1 hi with hi|hi
  ·exact h.lt i hi
  ·rw[List.mem_singleton]at hi;subst hi;exact hl
 ·rw[Array.toList_push,List.map_append,h.seen,List.map_singleton,hb]
theorem Went.all{w:World}{x:Nat}{gs:List GEn}{es:Array MapEntry}{cl:Nat}(hm:MapG w x gs es cl){js:List Nat}{seen:Array Nat}(h:Went es gs.length js seen)(h0:(leftOf es seen).size=0):js.Perm (List.range gs.length):=by
 rw[List.perm_ext_iff_of_nodup h.nodup List.nodup_range]
 intro j
 rw[List.mem_range]
 refine⟨h.lt j,fun hj=>?_⟩
 have hj2:j<es.toList.length:=by rw[Array.length_toList,hm.len];exact hj
 have hb:=Zua h0 _ (List.getElem_mem hj2)
 rw[h.seen]at hb
 obtain⟨i,hi,he⟩:=List.mem_map.1 hb
 have hil:=h.lt i hi
 have hi2:i<es.toList.length:=by rw[Array.length_toList,hm.len];exact hil
 have hbi:ZgH es i=es.toList[i].born:=by unfold ZgH;rw[List.getElem?_eq_getElem hi2];rfl
 have hnd:=hm.stm.2.1
 rw[List.Nodup,List.pairwise_map,List.pairwise_iff_getElem]at hnd
 have:i=j:=by
  rcases Nat.lt_trichotomy i j with h1|h1|h1
  ·exact absurd (hbi.symm.trans he) (hnd i j hi2 hj2 h1)
  ·exact h1
  ·exact absurd (hbi.symm.trans he).symm (hnd j i hj2 hi2 h1)
 rw[<-this];exact hi
theorem ZzP (op : Nat) {gs : List GEn} {js : List Nat} (h : js.Perm (List.range gs.length)) : ((js.map fun j => gItm op (gs.getD j default)).map Itm.el).Perm ((gs.map GEn.grp).map (ZgV op)) := by
  have h1:=(h.map fun j=>gItm op (gs.getD j default)).map Itm.el
  refine h1.trans ?_
  have e : (List.range gs.length).map (fun j => gItm op (gs.getD j default)) = gs.map (gItm op) := by
    conv=>rhs;rw[<-Zs6 gs default]
    rw[List.map_map];rfl
  rw[e,List.map_map,List.map_map]
  exact List.Perm.refl _
theorem ZvU{w:World}{b:Nat}{e:TypeId}{sz:Nat}{v:Value}{n:Nat}{xs:List Value}(h:w.ownsRow b e sz v n xs){q:Nat}{o:Obj}(hq:w.heap[q]?=some o)(ho:∀c t fr,o≠.cells c t fr):some q≠v.ownBlock:=by
 rcases h.2 with ⟨rfl,_⟩|⟨g,cp,cur,rfl,_,hh,_⟩
 ·simp[Value.ownBlock]
 ·intro he
  have hg:q=g:=by simpa [Value.ownBlock] using he
  subst hg
  rw[hq]at hh
  injection hh with h3
  exact ho _ _ _ h3
theorem Zeu{W:World}{x:Nat}(hx:x<W.heap.size)(o:Obj):(W.alloc o).heap[x]?=W.heap[x]?:=Below.heap_alloc _ _ _ hx
theorem BAt.belX{x:Nat}{w w':World}{a:Nat}{c:List Value}{t:TypeId}(h:BAt w a c t)(hb:BelX x w.heap.size w w')(hn:a≠x):BAt w' a c t:=(hb.block a h.lt hn).trans h
theorem Zzi (l : List Int) (x : Int) (hl : l.length <= 10000) (hx : ∀ y ∈ l, vOk y) (hv : vOk x) (t0 t1 t2 t3 t4 t5 r0 r1 r2 r3 r4 r5 : Int) (ht : talC l = [.int .i64 t0, .int .i64 t1, .int .i64 t2, .int .i64 t3, .int .i64 t4, .int .i64 t5]) (hr : talC (l ++ [x]) = [.int .i64 r0, .int .i64 r1, .int .i64 r2, .int .i64 r3, .int .i64 r4, .int .i64 r5]) (w : World) : Calls Tryz.prog 206 #[.agg #[.int .i64 t0, .int .i64 t1, .int .i64 t2, .int .i64 t3, .int .i64 t4, .int .i64 t5], .int .i64 x] w fun e w' => e = .returned (.agg #[.int .i64 r0, .int .i64 r1, .int .i64 r2, .int .i64 r3, .int .i64 r4, .int .i64 r5]) /\ Below w.heap.size w w' := by
  have h:=ZpZ l x hl hx hv w
  unfold talV at h
  rw[ht,hr]at h
  exact h
theorem Zq7(w:World)(a:Obj)(c:List Value)(t:TypeId):BAt ((w.alloc a).alloc (.cells ⟨c⟩ t)).drew (w.heap.size+1) c t:=by
 have:=Go.Deep.blk_alloc_new (w.alloc a) (.cells ⟨c⟩ t)
 rw[Go.Deep.nblk_alloc]at this
 exact this
theorem Zq6(w:World)(a:Obj)(c:List Value)(t:TypeId):BAt ((w.alloc (.cells ⟨c⟩ t)).alloc a).drew w.heap.size c t:=(Zbal.block _ (by simp)).trans (Go.Deep.blk_alloc_new _ _)
theorem Zu2(gb x op:Nat)(hop:op<=3)(nv:Value)(bs:List ByteArray)(v:Value)(l:List El)(is:List Itm)(w:World)(hgb:BAt w gb [.map (some x)] 281)(hx:MapX w x)(hn:w.ownsRow 0 9 1 nv bs.length (Zbb bs))(hbl:bs.length<=100000)(hs:NmS bs)(hv:VecV w v l is) :
  Calls Tryz.prog 157 #[.pointer (some ⟨gb,0,none⟩),.int .i64 op,nv,v] w fun e w'=>∃v' is',e=.returned v'/\Hid (VecV w' v' (Zec op (bs.map bl) l) is'/\MapX w' x)/\BelX x w.heap.size w w':=by
 obtain⟨i0,hi,hz0,hz1,hz2⟩:=info_parts Tryz.infoItem
 obtain⟨na,ncp,rfl⟩:=Zv hn
 obtain⟨ra,rcp,rfl⟩:=Zv hv.row
 obtain⟨es0,cl0,hx0⟩:=hx
 have HG:Hid (BAt w gb [.map (some x)] 281):=hgb
 have HX0:Hid (w.heap[x]?=some (.map es0 cl0)):=hx0
 have HN:Hid (w.ownsRow 0 9 1 (.slice na bs.length ncp) bs.length (Zbb bs)):=hn
 have HS:Hid (NmS bs):=hs
 have HV:Hid (VecV w (.slice ra is.length rcp) l is):=hv
 have hrl:is.length<=1000:=hv.len
 have hgx:gb≠x:=by intro e;subst e;rw[hgb]at hx0;cases hx0
 have hxl:x<w.heap.size:=(Array.getElem?_eq_some_iff.1 hx0).1
 have hgl:=hgb.lt
 have hc0:=hgb.cell 0
 simp only[List.getElem?_cons_zero]at hc0
 have hclr:=fun T=>ZrE hx0 T
 clear hgb hn hs hv
 go_enter Tryz.func157,Tryz.ntmps157
 go_wp2
 obtain⟨w1,hw1⟩:∃w1,w1=setBlock w x (.map #[] cl0):=⟨_,rfl⟩
 rw[<-hw1]
 have HB1:Hid (BelX x w.heap.size w w1):=hid (by rw[hw1];exact BelX.set _ _ _ _)
 have HM1:Hid (MapG w1 x [] #[] cl0):=hid ⟨by rw[hw1];simp[setBlock,hxl],MapKept.stamped_empty _,rfl,fun g hg=>by cases hg⟩
 have HXX:Hid (MapX w x):=hid ⟨es0,cl0,HX0.out⟩
 clear hw1 hclr hc0 hx0
 go_loopw [22] (fun i wr => ∃ (k : Nat) (gs : List GEn) (es : Array MapEntry) (cl : Nat), k <= is.length /\ i = .int .i64 k /\ gs.length <= k /\ Hid (MapG wr x gs es cl) /\ Hid ((∀ g ∈ gs, GEnOk wr g /\ g.vals.length <= k) /\ gs.map GEn.grp = grpV (bs.map bl) (l.take k)) /\ Hid (BelX x w.heap.size w wr))
   (fun i _=>is.length - (intOf i).toNat)
 case atStart=>exact⟨0,[],#[],cl0,Nat.zero_le _,rfl,Nat.zero_le _,HM1,hid ⟨(fun g hg=>by cases hg),rfl⟩,HB1⟩
 case round=>
  rename World=>wo
  obtain⟨k,gs,es,cl,hk,rfl,hgk,HMG,HGS,HB⟩:=hrel
  have hwr:=HB.size
  have HKC:=hid (Zs.belX HB.out HXX.out)
  have HGo:Hid (BAt wo gb [.map (some x)] 281):=hid (HKC.out _ _ _ _ HG.out)
  by_cases hlt:k<is.length
  ·have hg:∃g,ra=some ⟨g,0,none⟩:=by
    obtain⟨g,cp',h⟩:=ZW HV.row (by omega)
    injection h with h1;exact⟨g,h1⟩
   obtain⟨vg,rfl⟩:=hg
   have HVR:=hid (HKC.own HV.row)
   obtain⟨f1,f2,f3⟩:=ZeS is k hlt
   have d1:=Zr HVR.out _ _ f1
   have d2:=Zr HVR.out _ _ f2
   have d3:=Zr HVR.out _ _ f3
   have HSO:Hid (ItmOk wo is[k]):=hid ((HV.ok _ (List.getElem_mem hlt)).keepsC HKC.out)
   have HTK:Hid (grpV (bs.map bl) (l.take (k+1))=addG (Zz (is[k]).labs (bs.map bl)) (is[k]).v (grpV (bs.map bl) (l.take k))):=hid (by
    have hl:k<l.length:=by rw[HV.len'];exact hlt
    rw[List.take_succ_eq_append_getElem hl,Zns]
    have e:l[k]=(is[k]).el:=by
     have:l[k]?=(is.map Itm.el)[k]?:=by rw[HV.els]
     rw[List.getElem?_eq_getElem hl,List.getElem?_map,List.getElem?_eq_getElem hlt]at this
     exact Option.some.inj this
    rw[e];rfl)
   generalize is[k]=s at *
   clear f1 f2 f3 HVR
   have hkz:(k:Int)<(is.length:Int):=by omega
   have hxo:x<wo.heap.size:=by omega
   go_wp2_with fail
   refine ZK fun W hW=>?_
   have hbW:Below wo.heap.size wo W:=by rw[hW];exact Zbal
   have HI:Hid (BAt W wo.heap.size [.slice s.a s.n s.c,.string s.tx,.int .i64 s.v] 286):=hid (by rw[hW];exact Go.Deep.blk_alloc_new _ _)
   clear hW d1 d2 d3
   refine(Zt4 s.a s.n s.c s.tx s.qs _ bs W (HSO.below hbW).lb ((HKC.trans (Zs.below hbW)).own HN.out) hbl HS.out).mono ?_
   rintro e w5 ⟨a',n',c',tx',qs',rfl,HL5,hb5⟩
   have HB5:Hid (Below wo.heap.size wo w5):=hid (hbW.trans (hb5.mono hbW.size))
   have HI5:=hid (HI.below hb5)
   clear hb5 hbW HI
   have hw5:=HB5.size
   have hi5:=HI5.lt
   have hxl5:tx'.size<=maxLen:=by
    have h1:=HL5.1.wf.len
    rw[<-HL5.1.txt,Zi]at h1
    unfold maxLen;omega
   have HM5:=hid (HMG.moved (HB5.block x hxo))
   have HG5:=hid (HGo.below HB5.out)
   have hx5:x<w5.heap.size:=by omega
   have HF:=hid (HM5.find tx' hxl5)
   obtain⟨vals,gv,hvl⟩:∃(vals:List Int) (gv:GEn),vals=gv.vals/\(vals.length<=k/\(∀v∈vals,vOk v))/\(∃u,(∀W:World,W.heap[x]?=w5.heap[x]?->(Instr.lookup 279 (.map (some x)) (.string tx') false).run Tryz.prog W=.ok u W)/\∃sa sn sc stx,u=.agg (.slice sa sn sc::.string stx::talC vals).toArray)/\
     (((∀W:World,(Instr.findKey 9 (.string tx') es.toList).run Tryz.prog W=.ok none W)/\(∀g∈gs,g.tx≠tx')/\(∀e∈es.toList,e.key≠.string tx')/\vals=[])∨∃j,∃hj:j<gs.length,gs[j].tx=tx'/\gs[j].vals=vals/\(∀i (hi:i<gs.length),i≠j->gs[i].tx≠tx')/\∃e,es.toList[j]?=some e/\e.key=.string tx'/\∀W:World,(Instr.findKey 9 (.string tx') es.toList).run Tryz.prog W=.ok (some (j,e.val)) W):=by
    rcases HF.out with ⟨h1,h2,h3⟩|⟨j,hj,h1,h2,e,h3,h4,h5,h6⟩
    ·exact⟨[],⟨none,0,0,tx',[],[]⟩,rfl,⟨Nat.zero_le _,fun v hv=>by cases hv⟩,⟨_,fun W hW=>ZuS HM5.out hxl5 h1 W hW,none,0,0,ByteArray.empty,rfl⟩,Or.inl ⟨h1,h2,h3,rfl⟩⟩
    ·have hok:=HGS.1 _ (List.getElem_mem hj)
     exact⟨gs[j].vals,gs[j],rfl,⟨hok.2,hok.1.vok⟩,⟨_,fun W hW=>ZuR HM5.out hxl5 h6 W hW,gs[j].a,gs[j].n,gs[j].c,gs[j].tx,h5⟩,Or.inr ⟨j,hj,h1,rfl,h2,e,h3,h4,h6⟩⟩
   clear HF
   obtain⟨-,HVL,hlook,HCASE⟩:=hvl
   have HVL:Hid _:=hid HVL
   have HLOOK:Hid _:=hid hlook
   have HCASE:Hid _:=hid HCASE
   clear hlook gv
   obtain⟨t0,t1,t2,t3,t4,t5,htal⟩:=Zhi vals
   have HTAL:Hid (talC vals=[.int .i64 t0,.int .i64 t1,.int .i64 t2,.int .i64 t3,.int .i64 t4,.int .i64 t5]):=htal
   clear htal
   obtain⟨u,hlk,sa,sn,sc,stx,hu⟩:=HLOOK.out
   rw[HTAL.out]at hu
   subst hu
   have HLK:Hid _:=hid hlk
   clear hlk
   clear HLOOK
   go_upto_region 6 with fail
   refine Z9 fun wA hWA=>?_
   have hbA:Below w5.heap.size w5 wA:=by rw[hWA];exact Zbal
   have HLb:Hid (BAt wA w5.heap.size [.slice a' n' c',.string tx'] 268):=hid (by rw[hWA];exact Go.Deep.blk_alloc_new _ _)
   have HGA:=hid (HG5.below hbA)
   have HIA:=hid (HI5.below hbA)
   have HBA:Hid (Below w5.heap.size w5 wA):=hid hbA
   clear hWA hbA
   have hwA:=HBA.size
   have hlA:=HLb.lt
   have c0:=HGA.cell 0
   have b0:=HLb.cell 0
   have b1:=HLb.cell 1
   simp only[Zget]at c0 b0 b1
   have hxA:x<wA.heap.size:=by omega
   have HXA:Hid (wA.heap[x]?=w5.heap[x]?):=hid (HBA.block x hx5)
   have l1:∀o,(Instr.lookup 279 (.map (some x)) (.string tx') false).run Tryz.prog ((wA.alloc o).drew)=_:=fun o=>HLK.out _ ((Zeu hxA o).trans HXA.out)
   have l2:∀o,(Instr.lookup 279 (.map (some x)) (.string tx') false).run Tryz.prog (wA.drew.alloc o)=_:=fun o=>HLK.out _ ((Zeu hxA o).trans HXA.out)
   have l3:∀o o',(Instr.lookup 279 (.map (some x)) (.string tx') false).run Tryz.prog (((wA.alloc o).alloc o').drew)=_:=fun o o'=>HLK.out _ (((Zeu (by simp;omega) o').trans (Zeu hxA o)).trans HXA.out)
   have l4:∀o o',(Instr.lookup 279 (.map (some x)) (.string tx') false).run Tryz.prog ((wA.alloc o).drew.alloc o')=_:=fun o o'=>HLK.out _ (((Zeu (by simp;omega) o').trans (Zeu hxA o)).trans HXA.out)
   have l5:∀o o',(Instr.lookup 279 (.map (some x)) (.string tx') false).run Tryz.prog ((wA.drew.alloc o).alloc o')=_:=fun o o'=>HLK.out _ (((Zeu (by simp;omega) o').trans (Zeu hxA o)).trans HXA.out)
   have hfld:∀W:World,(Instr.field 351 (.agg #[.slice sa sn sc,.string stx,.int .i64 t0,.int .i64 t1,.int .i64 t2,.int .i64 t3,.int .i64 t4,.int .i64 t5]) 1).run Tryz.prog W=.ok (.agg #[.int .i64 t0,.int .i64 t1,.int .i64 t2,.int .i64 t3,.int .i64 t4,.int .i64 t5]) W:=fun W=>by kernel_rfl
   go_cut [12] from 30 to 37 (fun s12 wx=>∃Bt:Nat,s12=.pointer (some ⟨Bt,0,none⟩)/\Hid (BAt wx Bt [.int .i64 t0,.int .i64 t1,.int .i64 t2,.int .i64 t3,.int .i64 t4,.int .i64 t5] 349)/\Hid (Below wA.heap.size wA wx)/\wA.heap.size<=Bt)
   case first=>
    go_region_held3 (fun w' => w'.cell? ⟨gb, 0, none⟩ = some (.map (some x)) /\ w'.cell? ⟨w5.heap.size, 0, none⟩ = some (.slice a' n' c') /\ w'.cell? ⟨w5.heap.size, 1, none⟩ = some (.string tx')) (first | exact ⟨c0, b0, b1⟩ | go_keep) (first
      | (go_at_call 151
         refine(ZfJ _ _ _ _ _).mono ?_
         rintro e w7 ⟨rfl,o7,hw7⟩))
    all_goals
     go_wp2
     go_meet
     exact⟨_,rfl,hid (by first|exact Zq7 _ _ _ _|exact Zq6 _ _ _ _),hid belB,by omega⟩
   case rest=>
   obtain⟨Bt,rfl,HT,HBx,hBt⟩:=hcut
   clear l1 l2 l3 l4 l5 hfld c0 b0 b1 HLK
   have HBc:Hid (Below wo.heap.size wo wc):=hid ((HB5.trans (HBA.mono hw5)).trans (HBx.mono (by omega)))
   have HGc:=hid (HGA.below HBx.out)
   have HIc:=hid (HIA.below HBx.out)
   have HLc:=hid (HLb.below HBx.out)
   have HLO:Hid (LbOk wc a' n' c' tx' qs'):=hid (HL5.1.keepsC (Zs.below (HBA.trans (HBx.mono hwA))))
   have HXc:Hid (wc.heap[x]?=wo.heap[x]?):=hid (HBc.block x hxo)
   have hxc:x<wc.heap.size:=by have:=HBc.size;omega
   clear HGA HIA HLb HBA HBx HG5 HI5
   obtain⟨r0,r1,r2,r3,r4,r5,hr⟩:=Zhi (vals++[s.v])
   have HR:Hid (talC (vals++[s.v])=[.int .i64 r0,.int .i64 r1,.int .i64 r2,.int .i64 r3,.int .i64 r4,.int .i64 r5]):=hr
   clear hr
   have HSVO:Hid (vOk s.v):=hid HSO.vok
   have HMc:=hid (HMG.moved HXc.out)
   have HGSc:Hid (∀g∈gs,GEnOk wc g/\g.vals.length<=k):=hid (fun g hg=>⟨(HGS.1 g hg).1.keepsC (Zs.below HBc.out),(HGS.1 g hg).2⟩)
   have hup:∃(es':Array MapEntry) (cl':Nat) (gs':List GEn),(∀W:World,W.heap[x]?=wc.heap[x]?->(Instr.mapUpdate 279 (.map (some x)) (.string tx') (.agg #[.slice a' n' c',.string tx',.int .i64 r0,.int .i64 r1,.int .i64 r2,.int .i64 r3,.int .i64 r4,.int .i64 r5])).run Tryz.prog W=.ok () (setBlock W x (.map es' cl')))/\
     (∀W:World,x<W.heap.size->MapG (setBlock W x (.map es' cl')) x gs' es' cl')/\gs'.length<=k+1/\(∀g∈gs',GEnOk wc g/\g.vals.length<=k+1)/\gs'.map GEn.grp=grpV (bs.map bl) (l.take (k+1)):=by
    obtain⟨o,ho⟩:∃o:GEn,o=⟨a',n',c',tx',qs',vals++[s.v]⟩:=⟨_,rfl⟩
    have hov:o.val=.agg #[.slice a' n' c',.string tx',.int .i64 r0,.int .i64 r1,.int .i64 r2,.int .i64 r3,.int .i64 r4,.int .i64 r5]:=by
     rw[ho];exact Zp4 ⟨a',n',c',tx',qs',vals++[s.v]⟩ HR.out
    have hook:GEnOk wc o/\o.vals.length<=k+1:=by
     rw[ho]
     refine⟨⟨HLO.out,fun z hz=>?_⟩,?_⟩
     ·rcases List.mem_append.1 hz with hz|hz
      ·exact HVL.2 z hz
      ·rw[List.mem_singleton]at hz;subst hz;exact HSVO.out
     ·have:=HVL.1;simp;omega
    have hst:=Ztj (fun g hg=>(HGSc.out g hg).1) (o:=⟨a',n',c',tx',qs',[]⟩) HLO.out s.v
    have hke:qs'.map blP=Zz s.labs (bs.map bl):=HL5.2
    rcases HCASE.out with ⟨h1,h2,h3,h4⟩|⟨j,hj,h1,h2,h3,e,h4,h5,h6⟩
    ·refine⟨_,_,gs++[o],fun W hW=>?_,fun W hW=>HMc.push hW o (by rw[ho];exact hxl5) (by rw[ho];exact h3),by simp;omega,fun g hg=>?_,?_⟩
     ·have:=Zzp HMc.out hxl5 h1 o.val W hW
      rw[hov]at this
      rw[hov,ho]
      exact this
     ·rcases List.mem_append.1 hg with hg|hg
      ·exact⟨(HGSc.out g hg).1,by have:=(HGSc.out g hg).2;omega⟩
      ·rw[List.mem_singleton]at hg;subst hg;exact hook
     ·have:=hst.2 h2
      rw[HTK.out,<-hke,<-HGS.2,<-this,ho,h4];rfl
    ·refine⟨_,_,gs.set j o,fun W hW=>?_,fun W hW=>HMc.mod hW o (by rw[ho];exact hxl5) h4 (by rw[ho];exact h5),by rw[List.length_set];omega,fun g hg=>?_,?_⟩
     ·have:=Zzo HMc.out hxl5 h4 h5 h6 o.val W hW
      rw[hov]at this
      rw[hov,ho]
      exact this
     ·rcases List.mem_or_eq_of_mem_set hg with hg|rfl
      ·exact⟨(HGSc.out g hg).1,by have:=(HGSc.out g hg).2;omega⟩
      ·exact hook
     ·have:=hst.1 j hj h1 h3
      rw[HTK.out,<-hke,<-HGS.2,<-this,ho,h2]
   obtain⟨es',cl',gs',hu1,hu2,hu3,hu4,hu5⟩:=hup
   have HU1:Hid _:=hid hu1
   have HU2:Hid _:=hid hu2
   have HU4:Hid (∀g∈gs',GEnOk wc g/\g.vals.length<=k+1):=hu4
   have HU5:Hid (gs'.map GEn.grp=grpV (bs.map bl) (l.take (k+1))):=hu5
   have HVL2:Hid (vals.length<=10000/\∀y∈vals,vOk y):=hid ⟨by have:=HVL.1;omega,HVL.2⟩
   have HMX:Hid (MapX wo x):=hid ⟨es,cl,HMG.heap⟩
   clear hu1 hu2 hu4 hu5 HCASE HMc HGSc HVL HMG HGS HLO HL5
   have c0:=HGc.cell 0
   have b0:=HLc.cell 0
   have b1:=HLc.cell 1
   have y2:=HIc.cell 2
   have m0:=HT.cell 0
   have m1:=HT.cell 1
   have m2:=HT.cell 2
   have m3:=HT.cell 3
   have m4:=HT.cell 4
   have m5:=HT.cell 5
   simp only[Zget]at c0 b0 b1 y2 m0 m1 m2 m3 m4 m5
   have hwc:=HBc.size
   have HNX:Hid (gb≠x/\w5.heap.size≠x/\wo.heap.size≠x/\Bt≠x):=hid ⟨hgx,by omega,by omega,by omega⟩
   have HSB : Hid (∀ W, BelX x wc.heap.size wc W -> W.cell? ⟨gb, 0, none⟩ = some (.map (some x)) /\ W.cell? ⟨w5.heap.size, 0, none⟩ = some (.slice a' n' c') /\ W.cell? ⟨w5.heap.size, 1, none⟩ = some (.string tx') /\ W.cell? ⟨wo.heap.size, 2, none⟩ = some (.int .i64 s.v) /\ W.cell? ⟨Bt, 0, none⟩ = some (.int .i64 t0) /\ W.cell? ⟨Bt, 1, none⟩ = some (.int .i64 t1) /\ W.cell? ⟨Bt, 2, none⟩ = some (.int .i64 t2) /\ W.cell? ⟨Bt, 3, none⟩ = some (.int .i64 t3) /\ W.cell? ⟨Bt, 4, none⟩ = some (.int .i64 t4) /\ W.cell? ⟨Bt, 5, none⟩ = some (.int .i64 t5)) := hid (fun W hW => by
     obtain⟨n1,n2,n3,n4⟩:=HNX.out
     have g1:=HGc.belX hW n1
     have g2:=HLc.belX hW n2
     have g3:=HIc.belX hW n3
     have g4:=HT.belX hW n4
     exact⟨g1.cell 0,g2.cell 0,g2.cell 1,g3.cell 2,g4.cell 0,g4.cell 1,g4.cell 2,g4.cell 3,g4.cell 4,g4.cell 5⟩)
   go_upto_region 7 with fail
   go_region_held3 (fun W => W.cell? ⟨gb, 0, none⟩ = some (.map (some x)) /\ W.cell? ⟨w5.heap.size, 0, none⟩ = some (.slice a' n' c') /\ W.cell? ⟨w5.heap.size, 1, none⟩ = some (.string tx') /\ W.cell? ⟨wo.heap.size, 2, none⟩ = some (.int .i64 s.v) /\ W.cell? ⟨Bt, 0, none⟩ = some (.int .i64 t0) /\ W.cell? ⟨Bt, 1, none⟩ = some (.int .i64 t1) /\ W.cell? ⟨Bt, 2, none⟩ = some (.int .i64 t2) /\ W.cell? ⟨Bt, 3, none⟩ = some (.int .i64 t3) /\ W.cell? ⟨Bt, 4, none⟩ = some (.int .i64 t4) /\ W.cell? ⟨Bt, 5, none⟩ = some (.int .i64 t5)) (first | exact ⟨c0, b0, b1, y2, m0, m1, m2, m3, m4, m5⟩ | exact HS8.out | exact HS9.out _ | exact HT8.out _ | exact HT9.out _ _ | go_keep) (first
     | (go_at_call 151
        refine(ZfJ _ _ _ _ _).mono ?_
        rintro e w7 ⟨rfl,o7,hw7⟩)
     | (go_at_call 206
        refine(Zzi vals s.v HVL2.1 HVL2.2 HSVO.out t0 t1 t2 t3 t4 t5 r0 r1 r2 r3 r4 r5 HTAL.out HR.out _).mono ?_
        rintro e w8 ⟨rfl,hb8⟩
        have HB8:Hid (Below wc.heap.size wc w8):=hid (by first|exact⟨hb8.os,hb8.tape,hb8.output,hb8.size,hb8.block⟩|exact(((Below.refl wc.heap.size wc).drew).alloc (Nat.le_refl _) _).trans (hb8.mono (by simp)))
        have HS8:=hid (HSB.out w8 (BelX.of HB8.out))
        have HS9:=hid (fun o=>HSB.out (w8.alloc o) (BelX.of (HB8.alloc HB8.size o)))
        have HT8:=hid (fun M=>HSB.out (setBlock w8 x M) ((BelX.of HB8.out).trans (BelX.set _ _ _ _)))
        have HT9:=hid (fun o M=>HSB.out (setBlock (w8.alloc o) x M) ((BelX.of (HB8.alloc HB8.size o)).trans (BelX.set _ _ _ _)))
        have q0:=HU1.out w8 (HB8.block x hxc)
        have q1:=fun o=>HU1.out (w8.alloc o) ((Zeu (by have:=HB8.size;omega) o).trans (HB8.block x hxc))
        clear hb8))
   have HFIN : Hid (∀ W9, Below wc.heap.size wc W9 -> MapG (setBlock W9 x (.map es' cl')) x gs' es' cl' /\ (∀ g ∈ gs', GEnOk (setBlock W9 x (.map es' cl')) g /\ g.vals.length <= k + 1) /\ BelX x w.heap.size w (setBlock W9 x (.map es' cl'))) := hid (fun W9 h9 => by
     have hbx:BelX x wc.heap.size wc (setBlock W9 x (.map es' cl')):=(BelX.of h9).trans (BelX.set _ _ _ _)
     have hmx:MapX wc x:=by
       obtain⟨q1,q2,hq⟩:=HMX.out
       exact⟨q1,q2,HXc.trans hq⟩
     refine⟨HU2.out W9 (by have:=h9.size;omega),fun g hg=>⟨(HU4.out g hg).1.keepsC (Zs.belX hbx hmx),(HU4.out g hg).2⟩,HB.trans (((BelX.of HBc.out).mono hwr).trans (hbx.mono (by omega)))⟩)
   all_goals
    obtain⟨f1,f2,f3⟩:=HFIN.out w8 HB8.out
    have F1:Hid _:=hid f1
    have F2:Hid _:=hid (And.intro f2 HU5.out)
    have F3:Hid _:=hid f3
    clear f1 f2 f3
    go_wp2
    go_roundw
    case rel=>exact⟨k+1,gs',es',cl',by omega,by go_num,hu3,F1,F2,F3⟩
    case measure=>simp[intOf];omega
  ·obtain rfl:k=is.length:=by omega
   have HGP:Hid (gs.map GEn.grp=grpV (bs.map bl) l):=hid (by have:=HGS.2;rwa [List.take_of_length_le (by rw[HV.len'];omega)]at this)
   have HGK:Hid (∀g∈gs,GEnOk wo g/\g.vals.length<=is.length):=hid HGS.1
   have hesz:es.size=gs.length:=HMG.len
   have c0:=HGo.cell 0
   simp only[List.getElem?_cons_zero]at c0
   have hml:=fun T=>ZuY HMG.heap T
   rw[hesz]at hml
   have hxo:x<wo.heap.size:=by omega
   clear HGS
   go_wp2_with (at_make;refine wpList_make_own _ rfl _ _ 283 rfl w.heap.size 286 i0 _ 3 Tryz.underlying283 hi hz0 hz1 _ _ _ gs.length rfl rfl rfl ?b2 ?b3 ?b4 ?_)
   case b2=>rw[hz2];omega
   case b3=>unfold maxLen;omega
   case b4=>exact hwr
   intro w2 hown2 hgrow2
   have HB2:Hid (Below wo.heap.size wo w2):=hid ((Below.refl _ _).grown hgrow2 (Nat.le_refl _) (fun q hq=>by cases hq))
   have HM2:=hid (HMG.moved (HB2.block x hxo))
   have HG2:=hid (HGo.below HB2.out)
   clear hgrow2 c0 hml
   have c0:=HG2.cell 0
   simp only[List.getElem?_cons_zero]at c0
   have hrg:=run_range_map (P:=Tryz.prog) w2 279 9 351 x es cl Tryz.underlying279 HM2.heap
   go_wp2
   have HB2w:Hid (BelX x w.heap.size w w2):=hid (HB.trans ((BelX.of HB2.out).mono hwr))
   have HGK2:Hid (∀g∈gs,GEnOk w2 g/\g.vals.length<=is.length):=hid (fun g hg=>⟨(HGK.out g hg).1.keepsC (Zs.below HB2.out),(HGK.out g hg).2⟩)
   have hw2:=HB2.size
   clear hrg c0
   go_loopg [13] gs.length (fun kx v wr=>∃(js:List Nat) (seen:Array Nat) (c9:Nat),(leftOf es seen).size<=kx/\js.length+(leftOf es seen).size<=gs.length/\wr.ownsRow w.heap.size 286 3 v js.length (encs (js.map fun j=>gItm op (gs.getD j default)))/\Hid (wr.heap[w2.heap.size]?=some (.mapIter (some x) cl seen c9)/\cl<=c9)/\Hid (MapG wr x gs es cl)/\Hid (Went es gs.length js seen)/\Hid (∀g∈gs,GEnOk wr g/\g.vals.length<=is.length)/\Hid (BelX x w.heap.size w wr)/\w2.heap.size<wr.heap.size)
   case atStart=>
    have hba:Below w2.heap.size w2 (w2.alloc (.mapIter (some x) cl #[] cl)):=Zbal
    have hle:(leftOf es #[]).size<=gs.length:=by unfold leftOf;rw[<-hesz];exact Array.size_filter_le
    exact⟨[],#[],cl,hle,by simpa using hle,Zw hown2 hba,hid ⟨heap_alloc_new _ _,Nat.le_refl _⟩,hid (HM2.moved (hba.block x (by omega))),hid ⟨List.nodup_nil,by simp,rfl⟩,hid (fun g hg=>⟨(HGK2.out g hg).1.keepsC (Zs.below hba),(HGK2.out g hg).2⟩),hid (HB2w.trans ((BelX.of hba).mono (by omega))),by simp⟩
   case round=>
    obtain⟨js,seen,c9,hkx,hjs,hown,HIT,HMr,HWT,HGr,HBr,hrl2⟩:=hrel
    have hxr:x<wr.heap.size:=by have:=HBr.size;omega
    have hnx:=fun ty=>run_next_at (P:=Tryz.prog) wr ty w2.heap.size x cl c9 seen es cl HIT.1 HMr.heap HMr.stm.1 HIT.2
    rcases hnx 0 with ⟨hl0,hrun⟩|⟨e,he,w1',hw1',hrun⟩
    ·have hperm:=HWT.all HMr.out hl0
     have hel:=ZzP op hperm
     rw[HGP.out]at hel
     have HGSo := hid (Ztg op (bs.map bl) l (fun e he => by
       rw[<-HV.els]at he
       obtain⟨i,hi,rfl⟩:=List.mem_map.1 he
       exact(HV.ok i hi).lb.wf) _ hel)
     have hlen:(js.map fun j=>gItm op (gs.getD j default)).length=js.length:=List.length_map _
     rw[<-hlen]at hown
     have HSI := hid (Zlt w.heap.size _ (js.map fun j => gItm op (gs.getD j default)) wr hown (HBr.size) (by rw [hlen]; omega) (fun i hi => by
       obtain⟨j,hj,rfl⟩:=List.mem_map.1 hi
       have hjl:=HWT.lt j hj
       have eg:gs.getD j default=gs[j]:=by rw[List.getD_eq_getElem?_getD,List.getElem?_eq_getElem hjl];rfl
       rw[eg]
       exact⟨(HGr.out _ (List.getElem_mem hjl)).1.lb,ZgN _⟩) HGSo.1)
     rw[HGSo.2]at HSI
     clear hown hel hperm hnx
     go_wp2_with fail
     refine HSI.mono ?_
     rintro e w5 ⟨rfl,is',H5⟩
     have HBf:Hid (BelX x w.heap.size w w5):=hid (HBr.trans (BelX.of H5.2))
     have HMf:Hid (MapX w5 x):=hid ⟨es,cl,(H5.2.block x hxl).trans HMr.heap⟩
     go_wp2
     go_ret
     exact⟨_,is',rfl,hid ⟨H5.1,HMf.out⟩,HBf.out⟩
    ·obtain⟨j,hj,hej,hwt⟩:=HWT.step HMr.out he
     obtain⟨_,hek,hev⟩:=HMr.at hej
     have hes:=(Zoa he).1
     have hlp:=Zub he
     have HWT2:Hid (Went es gs.length (js++[j]) (seen.push e.born)):=hwt
     obtain⟨W3,hW3⟩:∃W3,W3=setBlock w1' w2.heap.size (.mapIter (some x) cl (seen.push e.born) cl):=⟨_,rfl⟩
     rw[<-hW3]at hrun
     have hw1h:w1'.heap=wr.heap:=by rcases hw1' with rfl|rfl <;> rfl
     have hr3:W3.heap[w2.heap.size]?=some (.mapIter (some x) cl (seen.push e.born) cl):=by rw[hW3];simp[setBlock,hw1h,hrl2]
     have hb3:∀i,i≠w2.heap.size->W3.heap[i]?=wr.heap[i]?:=fun i hi=>by rw[hW3];simp[setBlock,hw1h,Ne.symm hi]
     have hs3:W3.heap.size=wr.heap.size:=by rw[hW3];simp[setBlock,hw1h]
     have hbel3:Below w.heap.size wr W3:=⟨by rw[hW3];rcases hw1' with rfl|rfl <;> rfl,by rw[hW3];rcases hw1' with rfl|rfl <;> rfl,by rw[hW3];rcases hw1' with rfl|rfl <;> rfl,by omega,fun i hi=>hb3 i (by omega)⟩
     have hk3:Zs wr W3:=fun b c T fr hb=>(hb3 b (fun e'=>by subst e';rw[HIT.1]at hb;cases hb)).trans hb
     have hx3:W3.heap[x]?=wr.heap[x]?:=hb3 x (by omega)
     have HM3:=hid (HMr.moved hx3)
     have hen:=run_entry_at (P:=Tryz.prog) W3 w2.heap.size x cl seen es cl e hr3 HM3.heap hes HM3.stm.2.1
     have eg:gs.getD j default=gs[j]:=by rw[List.getD_eq_getElem?_getD,List.getElem?_eq_getElem hj];rfl
     have HIS:Hid ((js++[j]).map (fun j=>gItm op (gs.getD j default))=js.map (fun j=>gItm op (gs.getD j default))++[gItm op gs[j]]):=hid (by rw[List.map_append,List.map_singleton,eg])
     have HGJ:Hid (GEnOk W3 gs[j]/\(gs[j]).vals.length<=10000):=hid ⟨(HGr.out _ (List.getElem_mem hj)).1.keepsC hk3,by have:=(HGr.out _ (List.getElem_mem hj)).2;omega⟩
     have HG3:Hid (∀g∈gs,GEnOk W3 g/\g.vals.length<=is.length):=hid (fun g hg=>⟨(HGr.out g hg).1.keepsC hk3,(HGr.out g hg).2⟩)
     have HB3:Hid (BelX x w.heap.size w W3):=hid (HBr.trans (BelX.of hbel3))
     have hown3:=hk3.own hown
     have HIT3:Hid (W3.heap[w2.heap.size]?=some (.mapIter (some x) cl (seen.push e.born) cl)):=hr3
     generalize gs[j]=g at *
     obtain⟨t0,t1,t2,t3,t4,t5,htal⟩:=Zhi g.vals
     have HTAL:Hid (talC g.vals=[.int .i64 t0,.int .i64 t1,.int .i64 t2,.int .i64 t3,.int .i64 t4,.int .i64 t5]):=htal
     rw[hev,Zp4 g htal,hek]at hrun hen
     obtain⟨one,hone⟩:∃one,one=cutV (Zek op g.vals):=⟨_,rfl⟩
     have HONE:Hid (one=cutV (Zek op g.vals)):=hone
     have hrl3:w2.heap.size<W3.heap.size:=by omega
     clear hs3 hrl2 hxr
     clear hnx hown hk3 hx3 hr3 hb3 hbel3 hW3 hw1' hw1h hek hev hes he hwt htal hone HMr HGr HBr HIT eg hej hj
     go_upto_region 13 with fail
     refine Z9 fun wr' hW=>?_
     have hbW:Below W3.heap.size W3 wr':=by rw[hW];exact Zbal
     have HX:Hid (BAt wr' W3.heap.size [.slice g.a g.n g.c,.string g.tx,.int .i64 t0,.int .i64 t1,.int .i64 t2,.int .i64 t3,.int .i64 t4,.int .i64 t5] 351):=hid (by rw[hW];exact Go.Deep.blk_alloc_new _ _)
     have hownI:=Zw hown3 hbW
     have HBI:Hid (Below W3.heap.size W3 wr'):=hid hbW
     clear hW hbW hown3 hrun hen
     have hwI:=HBI.size
     have hw3s:=HB3.size
     have HSB:Hid (∀w',BAt w' W3.heap.size [.slice g.a g.n g.c,.string g.tx,.int .i64 t0,.int .i64 t1,.int .i64 t2,.int .i64 t3,.int .i64 t4,.int .i64 t5] 351->w'.cell? ⟨W3.heap.size,0,none⟩=some (.slice g.a g.n g.c)/\w'.cell? ⟨W3.heap.size,1,none⟩=some (.string g.tx)/\w'.cell? ⟨W3.heap.size,2,none⟩=some (.int .i64 t0)/\w'.cell? ⟨W3.heap.size,3,none⟩=some (.int .i64 t1)/\w'.cell? ⟨W3.heap.size,4,none⟩=some (.int .i64 t2)/\w'.cell? ⟨W3.heap.size,5,none⟩=some (.int .i64 t3)/\w'.cell? ⟨W3.heap.size,6,none⟩=some (.int .i64 t4)/\w'.cell? ⟨W3.heap.size,7,none⟩=some (.int .i64 t5)):=hid (fun w' h1=>⟨h1.cell 0,h1.cell 1,h1.cell 2,h1.cell 3,h1.cell 4,h1.cell 5,h1.cell 6,h1.cell 7⟩)
     refine Zcm 10 (fun w'=>w'.cell? ⟨W3.heap.size,0,none⟩=some (.slice g.a g.n g.c)/\w'.cell? ⟨W3.heap.size,1,none⟩=some (.string g.tx)/\w'.cell? ⟨W3.heap.size,2,none⟩=some (.int .i64 t0)/\w'.cell? ⟨W3.heap.size,3,none⟩=some (.int .i64 t1)/\w'.cell? ⟨W3.heap.size,4,none⟩=some (.int .i64 t2)/\w'.cell? ⟨W3.heap.size,5,none⟩=some (.int .i64 t3)/\w'.cell? ⟨W3.heap.size,6,none⟩=some (.int .i64 t4)/\w'.cell? ⟨W3.heap.size,7,none⟩=some (.int .i64 t5)) (by kernel_rfl) (by exact HSB.out _ HX.out) (fun hHeld=>?_)
     refine Zd 0 hHeld (h:=?_)
     refine Zd 1 hHeld (h:=?_)
     refine Zd 2 hHeld (h:=?_)
     refine Zd 3 hHeld (h:=?_)
     refine Zd 4 hHeld (h:=?_)
     refine Zd 5 hHeld (h:=?_)
     refine Zbr (i:=6) (by kernel_rfl) rfl (fun K hK=>?_)
     go_simp
     refine(ZpX op (by omega) _ HGJ.2 HGJ.1.vok t0 t1 t2 t3 t4 t5 HTAL.out _).mono ?_
     rintro e5 w5 ⟨rfl,hb5⟩
     have HB5:Hid (Below wr'.heap.size wr' w5):=hid ⟨hb5.os,hb5.tape,hb5.output,hb5.size,hb5.block⟩
     have HX5:=hid (HX.below HB5.out)
     clear hb5
     rw[<-HONE.out]
     go_simp
     refine hK.out _ _ (HSB.out _ HX5.out) (fun hHeld=>?_)
     clear hK K
     try simp only[Act.put,Zset]
     refine Zd 7 hHeld (h:=?_)
     refine Zbr (i:=8) (by kernel_rfl) rfl (fun K hK=>?_)
     have HBA:Hid (∀o,Below w5.heap.size w5 (w5.alloc o)):=hid (fun o=>Zbal)
     go_simp
     refine hK.out _ _ (HSB.out _ (HX5.below (HBA.out _))) (fun hHeld=>?_)
     clear hK K
     try simp only[Act.put,Zset]
     refine Zbr (i:=9) (by kernel_rfl) rfl (fun K hK=>?_)
     have hown5:=Zw hownI HB5.out
     have hw5:=HB5.size
     refine Ze3 rfl (.tmp 66) (.tmp 74) 283 rfl w.heap.size 286 i0 _ 3 48 Tryz.underlying283 hi hz0 hz1 hz2 rfl (by decide) _ js.length (encs (js.map fun j=>gItm op (gs.getD j default))) (by simp[Act.eval]) (hown5.alloc _) ⟨w5.heap.size,0,none⟩ 1 1 [.slice g.a g.n g.c,.string g.tx,.int .i64 one] (by simp[Act.eval]) rfl ?h2 ?h3 ?h4 ?h5 ?h6 ?_
     case h2=>exact ZdH rfl
     case h3=>intro u hu;simp at hu;rcases hu with rfl|rfl|rfl <;> rfl
     case h4=>unfold maxLen;omega
     case h5=>omega
     case h6=>simp;omega
     intro v6 w6 hown6 hgrow6 _
     have hb36:Below W3.heap.size W3 (w5.alloc (.cells #[.slice g.a g.n g.c,.string g.tx,.int .i64 one] 286)):=(HBI.trans (HB5.mono hwI)).trans ((HBA.out _).mono (by omega))
     have hkb:Z1 286 W3 w6:=(Z1.below hb36 _).trans (Z1.grown hgrow6 (hown5.alloc _))
     have hoth : ∀ (q : Nat) (o : Obj), W3.heap[q]? = some o -> (∀ c t fr, o ≠ .cells c t fr) -> w6.heap[q]? = some o := fun q o hq ho => by
       have hql:=(Array.getElem?_eq_some_iff.1 hq).1
       have h1:=(hb36.block q hql).trans hq
       exact(hgrow6.block q (by have:=hb36.size;omega) (ZvU (hown5.alloc _) h1 ho)).trans h1
     have HM6:=hid (HM3.moved ((hoth x _ HM3.heap (fun c t fr h=>by cases h)).trans HM3.heap.symm))
     have HIT6:Hid (w6.heap[w2.heap.size]?=some (.mapIter (some x) cl (seen.push e.born) cl)/\cl<=cl):=hid ⟨hoth _ _ HIT3.out (fun c t fr h=>by cases h),Nat.le_refl _⟩
     have HG6:Hid (∀g∈gs,GEnOk w6 g/\g.vals.length<=is.length):=hid (fun z hz=>⟨⟨(HG3.out z hz).1.lb.kb hkb (by decide),(HG3.out z hz).1.vok⟩,(HG3.out z hz).2⟩)
     have HB6:Hid (BelX x w.heap.size w w6):=hid (HB3.trans (BelX.of ((hb36.mono hw3s).grown hgrow6 (by have:=hb36.size;omega) (fun q hq=>(hown5.lt q hq).1))))
     have hs6:w2.heap.size<w6.heap.size:=by have:=hb36.size;have:=hgrow6.size;omega
     have hown7 : w6.ownsRow w.heap.size 286 3 v6 (js ++ [j]).length (encs ((js ++ [j]).map fun j => gItm op (gs.getD j default))) := by
       rw[HIS.out,ZgQ,List.length_append]
       unfold gItm
       rw[<-HONE.out]
       exact hown6
     have HX6:Hid (BAt w6 W3.heap.size [.slice g.a g.n g.c,.string g.tx,.int .i64 t0,.int .i64 t1,.int .i64 t2,.int .i64 t3,.int .i64 t4,.int .i64 t5] 351):=hid (Z1.grown hgrow6 (hown5.alloc _) _ _ _ _ (by decide) (HX5.below (HBA.out _)))
     refine hK.out _ _ (HSB.out _ HX6.out) (fun hHeld=>?_)
     clear hK K
     try simp only[Act.put,Zset]
     refine Zcq (by kernel_rfl) (by kernel_rfl) rfl (by kernel_rfl) (fun K hK=>?_)
     go_simp
     refine hK.out _ _ ?_
     clear hK K hgrow6 hown6 hown5 hownI hkb hoth hb36
     go_wp2
     go_roundg (leftOf es (seen.push e.born)).size
     case measure=>omega
     case rel=>exact⟨js++[j],seen.push e.born,cl,Nat.le_refl _,by simp;omega,hown7,HIT6,HM6,HWT2,HG6,HB6,hs6⟩
end Go.Proofs.YtcdgkkfipdoeeaaGreatDoor
