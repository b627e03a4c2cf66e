/- Parts. -/
import Derived.Test.YtkodhpilkaihjaaGreatDoorF18
set_option maxRecDepth 100000
set_option maxHeartbeats 8000000
set_option linter.unusedSimpArgs false
namespace Go.Proofs.YtkodhpilkaihjaaGreatDoor
open Go.RowKit LS
def fdT(ys:List Itm)(y:List UInt8):Option Itm:=ys.find? fun j=>decide (bl j.tx=y)
theorem Zpe{ys:List Itm}(hs:TxS ys){k:Nat}(hk:k<ys.length){y:List UInt8}(h:bl (ys[k]).tx=y):fdT ys y=some ys[k]:=by
 unfold fdT
 rw[List.find?_eq_some_iff_getElem]
 refine⟨by simpa using h,k,hk,rfl,fun j hj=>?_⟩
 have e:=List.pairwise_iff_getElem.1 hs j k (by omega) hk hj
 simp only[Bool.not_eq_true',decide_eq_false_iff_not]
 intro e2
 rw[e2,h,Zda]at e
 cases e
theorem Zpd{ys:List Itm}{y:List UInt8}(h:∀i∈ys,bl i.tx≠y):fdT ys y=none:=by
 unfold fdT
 rw[List.find?_eq_none]
 intro x hx
 simpa using h x hx
def FdIs(ys:List Itm)(y:List UInt8)(x:Int)(ok:Bool):Prop:=(ok=true/\∃j∈ys,fdT ys y=some j/\x=j.v)∨(ok=false/\fdT ys y=none)
theorem Zpg(v:Value)(is:List Itm)(a:Option Addr)(n c:Nat)(tx:ByteArray)(w:World)(hrow:w.ownsRow 0 344 3 v is.length (encs is))(hlen:is.length<=1000)(hs:TxS is) :
  Calls Tryz.prog 251 #[v,.agg #[.slice a n c,.string tx]] w fun e w'=>∃(x:Int) (ok:Bool),e=.returned (.tuple #[.int .i64 x,.bool ok])/\Hid (FdIs is (bl tx) x ok)/\Below w.heap.size w w':=by
 obtain⟨ra,rcp,rfl⟩:=Zr hrow
 have HR:Hid (w.ownsRow 0 344 3 (.slice ra is.length rcp) is.length (encs is)):=hrow
 have HS:Hid (TxS is):=hs
 clear hrow hs
 go_enter Tryz.func251,Tryz.ntmps251
 go_wp2_with fail
 refine(Zfm _ _ _ _ _).mono ?_
 rintro e w5 ⟨rfl,o5,hw5⟩
 have HB:Hid (Below w.heap.size w w5):=hid (by rw[hw5];exact Zbal.alloc (by simp) _)
 clear hw5
 go_wp2_with fail
 refine(Zn9 _ is tx _ (Zm HR.out HB.out) hlen HS.out).mono ?_
 rintro e w6 ⟨k,ok,rfl,HK,hb6⟩
 have HB6:Hid (Below w.heap.size w w6):=hid (HB.trans (hb6.mono HB.size))
 clear hb6 HB
 rcases HK.out with ⟨rfl,hk,hkt⟩|⟨rfl,hn⟩
 ·have hg:∃g,ra=some ⟨g,0,none⟩:=by
   obtain⟨g,cp',h⟩:=ZV HR.out (by omega)
   injection h with h1;exact⟨g,h1⟩
  obtain⟨g,rfl⟩:=hg
  have d3:=Zj (Zm HR.out HB6.out) _ _ (ZeA is k hk).2.2
  have HF:Hid (FdIs is (bl tx) (is[k]).v true):=hid (Or.inl ⟨rfl,is[k],List.getElem_mem hk,Zpe HS.out hk hkt,rfl⟩)
  have hkz:(k:Int)<(is.length:Int):=by omega
  clear hkt HK
  generalize(is[k]).v=x at *
  go_wp2
  go_ret2
  exact⟨x,true,rfl,HF,HB6.out⟩
 ·have HF:Hid (FdIs is (bl tx) 0 false):=hid (Or.inr ⟨rfl,Zpd hn⟩)
  clear hn HK
  go_wp2
  go_ret2
  exact⟨0,false,rfl,HF,HB6.out⟩
def wItm(op:Nat)(ys:List Itm)(i:Itm):Option Itm:=(fdT ys (bl i.tx)).map fun j=>{ i with v:=twoV op i.v j.v }
theorem Zpt{α β:Type}(f:α->Option β)(l:List α)(a:α):(l++[a]).filterMap f=l.filterMap f++(f a).toList:=by
 rw[List.filterMap_append]
 cases h:f a <;> simp[h]
theorem ZkF{α:Type}{p q:α->Bool} : ∀ {l:List α},(∀a∈l,p a=q a)->l.find? p=l.find? q
 | [],_=>rfl
 | a :: l, h => by
   rw[List.find?_cons,List.find?_cons,h a (by simp),ZkF (l:=l) (fun b hb=>h b (List.mem_cons_of_mem _ hb))]
theorem ZvV{op:Nat}{w:World}{ys:List Itm}(hy:∀j∈ys,ItmOk w j){i:Itm}(hi:ItmOk w i):(wItm op ys i).map Itm.el=vvF op (ys.map Itm.el) i.el:=by
 unfold wItm vvF fdT
 rw[List.find?_map,Option.map_map,Option.map_map]
 have e : ys.find? (fun j => decide (bl j.tx = bl i.tx)) = ys.find? ((fun f => decide (wrt i.el.1 = wrt f.1)) ∘ Itm.el) := by
   refine ZkF (fun j hj=>?_)
   show decide (bl j.tx=bl i.tx)=decide (wrt i.labs=wrt j.labs)
   unfold Itm.labs
   rw[<-hi.lb.txt,<-(hy j hj).lb.txt,decide_eq_decide]
   exact⟨fun h=>h.symm,fun h=>h.symm⟩
 rw[e]
 rfl
theorem Zm8{op:Nat}{w:World}{ys:List Itm}(hy:∀j∈ys,ItmOk w j):∀ {xs:List Itm},(∀i∈xs,ItmOk w i)->(xs.filterMap (wItm op ys)).map Itm.el=(xs.map Itm.el).filterMap (vvF op (ys.map Itm.el))
 | [],_=>rfl
 | i :: xs, h => by
   have e1:=ZvV (op:=op) hy (h i (by simp))
   have e2:=Zm8 (op:=op) hy (xs:=xs) (fun j hj=>h j (List.mem_cons_of_mem _ hj))
   rw[List.map_cons,List.filterMap_cons,List.filterMap_cons]
   rw[<-e1]
   cases wItm op ys i with
   | none=>exact e2
   | some z=>simp only[Option.map_some,List.map_cons,e2]
theorem VecV.txs{w:World}{v:Value}{l:List El}{is:List Itm}(h:VecV w v l is)(hs:Srt l):TxS is:=by
 unfold Srt at hs
 rw[<-h.els,List.pairwise_map]at hs
 unfold TxS
 refine List.Pairwise.imp_of_mem ?_ hs
 intro a b ha hb hab
 rw[(h.ok a ha).lb.txt,(h.ok b hb).lb.txt]
 exact hab
theorem Zv5(op:Nat)(hop:op<=3)(v y:Value)(l m:List El)(is ys:List Itm)(w:World)(hv:VecV w v l is)(hy:VecV w y m ys)(hsm:Srt m) :
  Calls Tryz.prog 215 #[v,y,.int .i64 (op+1:Nat)] w fun e w'=>∃v' is',e=.returned v'/\Hid (VecV w' v' (l.filterMap (vvF op m)) is')/\Below w.heap.size w w':=by
 obtain⟨i0,hi,hz0,hz1,hz2⟩:=info_parts Tryz.infoItem
 obtain⟨ra,rcp,rfl⟩:=Zr hv.row
 obtain⟨ya,ycp,rfl⟩:=Zr hy.row
 have HV:Hid (VecV w (.slice ra is.length rcp) l is):=hv
 have HY:Hid (VecV w (.slice ya ys.length ycp) m ys):=hy
 have HTY:Hid (TxS ys):=hid (hy.txs hsm)
 have hrl:is.length<=1000:=hv.len
 have hyl:ys.length<=1000:=hy.len
 obtain⟨oz,hoz⟩:∃oz:Int,oz=((op+1:Nat):Int):=⟨_,rfl⟩
 rw[<-hoz]
 have HOZ:Hid (oz=((op+1:Nat):Int)):=hoz
 clear hv hy hsm hoz
 go_enter Tryz.func215,Tryz.ntmps215
 go_wp2
 go_loopw [7, 14] (fun v i wr => ∃ (k : Nat) (os : List Itm), k <= is.length /\ i = .int .i64 k /\ os.length <= k /\ wr.ownsRow w.heap.size 344 3 v os.length (encs os) /\ Hid (os = (is.take k).filterMap (wItm op ys)) /\ Hid ((∀ i ∈ is, ItmOk wr i) /\ ∀ i ∈ ys, ItmOk wr i) /\ Hid (Below w.heap.size w wr))
   (fun _ i _=>is.length - (intOf i).toNat)
 case atStart=>exact⟨0,[],Nat.zero_le _,rfl,Nat.zero_le _,World.ownsRow_nil _ _ _ _,hid rfl,hid ⟨HV.ok,HY.ok⟩,hid (Below.refl _ _)⟩
 case round=>
  rename World=>wo
  obtain⟨k,os,hk,rfl,hosk,hown,HOS,HOK,HB⟩:=hrel
  have hwr:=HB.size
  by_cases hlt:k<is.length
  ·have hg:∃g,ra=some ⟨g,0,none⟩:=by
    obtain⟨g,cp',h⟩:=ZV HV.row (by omega)
    injection h with h1;exact⟨g,h1⟩
   obtain⟨vg,rfl⟩:=hg
   have HVR:=hid (Zm HV.row HB.out)
   obtain⟨f1,f2,f3⟩:=ZeA is k hlt
   have d1:=Zj HVR.out _ _ f1
   have d2:=Zj HVR.out _ _ f2
   have d3:=Zj HVR.out _ _ f3
   have HTK:Hid ((is.take (k+1)).filterMap (wItm op ys)=(is.take k).filterMap (wItm op ys)++(wItm op ys is[k]).toList):=hid (by
    rw[List.take_succ_eq_append_getElem hlt];exact Zpt _ _ _)
   have HSV:Hid (vOk (is[k]).v):=hid (HOK.1 _ (List.getElem_mem hlt)).vok
   generalize is[k]=s at *
   clear f1 f2 f3
   have hkz:(k:Int)<(is.length:Int):=by omega
   go_wp2_with fail
   refine Zn fun W hW=>?_
   have hbW:Below wo.heap.size wo W:=by rw[hW];exact Zbal
   have HXW:Hid (BAt W wo.heap.size [.slice s.a s.n s.c,.string s.tx,.int .i64 s.v] 344):=hid (by rw[hW];exact Go.Deep.blk_alloc_new _ _)
   have HBW:Hid (Below w.heap.size w W):=hid (HB.trans (hbW.mono hwr))
   have HNE:=hid (fun q hq=>(hown.lt q hq).2)
   have hownW:=Zm hown hbW
   have HOKW:Hid ((∀i∈is,ItmOk W i)/\∀i∈ys,ItmOk W i):=hid ⟨fun i hi=>(HOK.1 i hi).below hbW,fun i hi=>(HOK.2 i hi).below hbW⟩
   clear hW hbW hown HB HOK HVR d1 d2 d3
   refine(Zpg _ ys s.a s.n s.c s.tx _ (Zm HY.row HBW.out) hyl HTY.out).mono ?_
   rintro e wr ⟨x,ok,rfl,HFD,hb5⟩
   have HX:=hid (HXW.below hb5)
   have HBI:Hid (Below w.heap.size w wr):=hid (HBW.trans (hb5.mono HBW.size))
   have hownI:=Zm hownW hb5
   have HOKI:Hid ((∀i∈is,ItmOk wr i)/\∀i∈ys,ItmOk wr i):=hid ⟨fun i hi=>(HOKW.1 i hi).below hb5,fun i hi=>(HOKW.2 i hi).below hb5⟩
   clear hb5 HXW HBW hownW HOKW
   have hwI:=HBI.size
   rcases HFD.out with ⟨rfl,j,hj,hfd,rfl⟩|⟨rfl,hfd⟩
   ·have HTK2:Hid ((is.take (k+1)).filterMap (wItm op ys)=os++[{ s with v:=twoV op s.v j.v }]):=hid (by
     rw[HTK.out,<-HOS.out];unfold wItm;rw[hfd];rfl)
    have HJV:Hid (vOk j.v):=hid (HOKI.2 j hj).vok
    clear hfd HFD hj
    go_upto_region 7 with fail
    have HSB:Hid (∀w',BAt w' wo.heap.size [.slice s.a s.n s.c,.string s.tx,.int .i64 s.v] 344->w'.cell? ⟨wo.heap.size,0,none⟩=some (.slice s.a s.n s.c)/\w'.cell? ⟨wo.heap.size,1,none⟩=some (.string s.tx)/\w'.cell? ⟨wo.heap.size,2,none⟩=some (.int .i64 s.v)):=hid (fun w' h1=>⟨h1.cell 0,h1.cell 1,h1.cell 2⟩)
    refine Zb0 11 (fun w'=>w'.cell? ⟨wo.heap.size,0,none⟩=some (.slice s.a s.n s.c)/\w'.cell? ⟨wo.heap.size,1,none⟩=some (.string s.tx)/\w'.cell? ⟨wo.heap.size,2,none⟩=some (.int .i64 s.v)) (by kernel_rfl) (by exact HSB.out _ HX.out) (fun hHeld=>?_)
    refine Zc (i:=0) (d:=26) (v:=?v0) rfl rfl (by kernel_rfl) (fun _ _ _ h=>h) (Or.inl ⟨by rfl,?hy0⟩) hHeld ?rs0
    case hy0=>(intro w hSw;go_simp;try with_reducible rfl)
    case rs0=>
    try simp only[Act.put,Zset]
    refine Zc (i:=1) (d:=27) (v:=?v1) rfl rfl (by kernel_rfl) (fun _ _ _ h=>h) (Or.inl ⟨by rfl,?hy1⟩) hHeld ?rs1
    case hy1=>(intro w hSw;go_simp;try with_reducible rfl)
    case rs1=>
    try simp only[Act.put,Zset]
    refine Zc (i:=2) (d:=28) (v:=?v2) rfl rfl (by kernel_rfl) (fun _ _ _ h=>h) (Or.inl ⟨by rfl,?hy2⟩) hHeld ?rs2
    case hy2=>(intro w hSw;go_simp;try with_reducible rfl)
    case rs2=>
    try simp only[Act.put,Zset]
    refine Zc (i:=3) (d:=29) (v:=?v3) rfl rfl (by kernel_rfl) (fun _ _ _ h=>h) (Or.inl ⟨by rfl,?hy3⟩) hHeld ?rs3
    case hy3=>(intro w hSw;go_simp;try with_reducible rfl)
    case rs3=>
    try simp only[Act.put,Zset]
    refine Zc (i:=4) (d:=30) (v:=?v4) rfl rfl (by kernel_rfl) (fun _ _ _ h=>h) (Or.inl ⟨by rfl,?hy4⟩) hHeld ?rs4
    case hy4=>(intro w hSw;go_simp;try with_reducible rfl)
    case rs4=>
    try simp only[Act.put,Zset]
    refine Zc (i:=5) (d:=31) (v:=?v5) rfl rfl (by kernel_rfl) (fun _ _ _ h=>h) (Or.inl ⟨by rfl,?hy5⟩) hHeld ?rs5
    case hy5=>(intro w hSw;go_simp;try with_reducible rfl)
    case rs5=>
    try simp only[Act.put,Zset]
    refine Zc (i:=6) (d:=32) (v:=?v6) rfl rfl (by kernel_rfl) (fun _ _ _ h=>h) (Or.inl ⟨by rfl,?hy6⟩) hHeld ?rs6
    case hy6=>(intro w hSw;go_simp;try with_reducible rfl)
    case rs6=>
    try simp only[Act.put,Zset]
    refine ZbN (i:=7) (by kernel_rfl) rfl (fun K hK=>?_)
    go_simp
    rw[HOZ.out]
    refine(ZhG op hop s.v j.v HSV.out HJV.out _).mono ?_
    rintro e w5 ⟨rfl,rfl⟩
    rw[<-HOZ.out]
    go_simp
    refine hK.out _ _ (HSB.out _ HX.out) (fun hHeld=>?_)
    clear hK K
    try simp only[Act.put,Zset]
    refine Zc (i:=8) (d:=34) (v:=?v8) rfl rfl (by kernel_rfl) (fun _ _ _ h=>h) (Or.inl ⟨by rfl,?hy8⟩) hHeld ?rs8
    case hy8=>(intro w hSw;go_simp;try with_reducible rfl)
    case rs8=>
    try simp only[Act.put,Zset]
    refine ZbN (i:=9) (by kernel_rfl) rfl (fun K hK=>?_)
    have HBA:Hid (∀o,Below wr.heap.size wr (wr.drew.alloc o)):=hid (fun o=>((Below.refl wr.heap.size wr).drew).alloc (Nat.le_refl _) _)
    go_simp
    refine hK.out _ _ (HSB.out _ (HX.below (HBA.out _))) (fun hHeld=>?_)
    clear hK K
    try simp only[Act.put,Zset]
    refine ZbN (i:=10) (by kernel_rfl) rfl (fun K hK=>?_)
    refine Zhx rfl (.tmp 26) (.tmp 35) 342 rfl w.heap.size 344 i0 _ 3 48 Tryz.underlying342 hi hz0 hz1 hz2 rfl (by decide) _ os.length (encs os) (by simp[Act.eval]) (Zm hownI (HBA.out _)) ⟨wr.heap.size,0,none⟩ 1 1 [.slice s.a s.n s.c,.string s.tx,.int .i64 (twoV op s.v j.v)] (by simp[Act.eval]) rfl ?h2 ?h3 ?h4 ?h5 ?h6 ?_
    case h2=>exact Zcu rfl
    case h3=>intro u hu;simp at hu;rcases hu with rfl|rfl|rfl <;> rfl
    case h4=>unfold maxLen;omega
    case h5=>omega
    case h6=>simp;omega
    intro v6 w6 hown6 hgrow6 hwhere6
    have hkb:=(ZY.below (HBA.out _) 344).trans (ZY.grown hgrow6 (Zm hownI (HBA.out _)))
    have HNI:Hid ((∀i∈is,ItmOk w6 i)/\∀i∈ys,ItmOk w6 i):=hid ⟨fun i hi=>(HOKI.1 i hi).kb hkb (by decide),fun i hi=>(HOKI.2 i hi).kb hkb (by decide)⟩
    have HB6:Hid (Below w.heap.size w w6):=hid ((HBI.trans ((HBA.out _).mono hwI)).grown hgrow6 (by simp;omega) (fun q hq=>(hownI.lt q hq).1))
    have hown7:w6.ownsRow w.heap.size 344 3 v6 (os++[{ s with v:=twoV op s.v j.v }]).length (encs (os++[{ s with v:=twoV op s.v j.v }])):=by
     rw[ZfU,List.length_append];exact hown6
    have HX6:Hid (BAt w6 wo.heap.size [.slice s.a s.n s.c,.string s.tx,.int .i64 s.v] 344):=hid ((HX.below (HBA.out _)).grown hgrow6 (fun e=>by have:=HNE.out _ e.symm;omega))
    refine hK.out _ _ (HSB.out _ HX6.out) (fun hHeld=>?_)
    clear hK K
    try simp only[Act.put,Zset]
    refine ZbW (by kernel_rfl) (by kernel_rfl) rfl (by kernel_rfl) (fun K hK=>?_)
    go_simp
    refine hK.out _ _ ?_
    clear hK K hgrow6 hown6 hownI hwhere6 hkb
    go_wp2
    go_roundw
    case rel=>exact⟨k+1,_,by omega,by go_num,by simp;omega,hown7,hid HTK2.symm,HNI,HB6⟩
    case measure=>simp[intOf];omega
   ·have HTK2:Hid (os=(is.take (k+1)).filterMap (wItm op ys)):=hid (by
     rw[HTK.out,<-HOS.out];unfold wItm;rw[hfd];simp)
    clear hfd HFD
    go_wp2
    go_roundw
    case rel=>exact⟨k+1,os,by omega,by go_num,by omega,hownI,HTK2,HOKI,HBI⟩
    case measure=>simp[intOf];omega
  ·obtain rfl:k=is.length:=by omega
   have HVV:Hid (VecV wo _ (l.filterMap (vvF op m)) os):=hid (by
    have e:=HOS.out
    rw[List.take_length]at e
    refine⟨hown.mono (Nat.zero_le _),by rw[e,Zm8 HOK.2 HOK.1,HV.els,HY.els],fun i hi=>?_,by omega⟩
    rw[e]at hi
    obtain⟨z,hz,hzi⟩:=List.mem_filterMap.1 hi
    unfold wItm at hzi
    obtain⟨q,hq,rfl⟩:=Option.map_eq_some_iff.1 hzi
    exact⟨(HOK.1 z hz).lb,ZhF op _ _ (HOK.1 z hz).vok⟩)
   clear hown
   go_wp2
   go_ret
   exact⟨_,_,rfl,HVV,HB.out⟩
theorem asSS(v:Value)(w:World):(Instr.typeAssert (.iface 340 v) 223 340 true).run Tryz.prog w=.ok (.tuple #[v,.bool true]) w:=by kernel_rfl
theorem asVS(v:Value)(w:World):(Instr.typeAssert (.iface 342 v) 223 340 true).run Tryz.prog w=.ok (.tuple #[.int .i64 0,.bool false]) w:=by kernel_rfl
theorem asVV(v:Value)(w:World):(Instr.typeAssert (.iface 342 v) 223 342 true).run Tryz.prog w=.ok (.tuple #[v,.bool true]) w:=by kernel_rfl
theorem Zsk (x : Int) (hx : vOk x) (w : World) : Calls Tryz.prog 211 #[.int .i64 x] w fun e w' => e = .returned (.int .i64 (-x)) /\ Below w.heap.size w w' := by
  unfold vOk at hx
  go_enter Tryz.func211,Tryz.ntmps211
  go_wp2
  go_ret
  exact⟨rfl,Below.refl _ _⟩
theorem ZlG{x:Int}(h:vOk x):vOk (-x):=by unfold vOk at *;omega
theorem Zl5 (v : Value) (V : VV) (w : World) (h : ValP w v V) : Calls Tryz.prog 160 #[v] w fun e w' => ∃ v', e = .returned v' /\ Hid (ValP w' v' (negV V)) /\ Below w.heap.size w w' := by
  cases V with
  | sc n=>
    obtain⟨rfl,hn⟩:=h
    have HN:Hid (vOk (-n)):=hid (ZlG hn)
    have h1:=asSS (.int .i64 n)
    unfold vOk at hn
    go_enter Tryz.func160,Tryz.ntmps160
    go_wp2
    go_ret
    exact⟨_,rfl,hid ⟨rfl,HN.out⟩,Below.refl _ _⟩
  | vec l=>
    obtain⟨s,is,rfl,hv⟩:=h
    have HV:Hid (VecV w s l is):=hv
    have h1:=asVS s
    have h2:=asVV s
    have eg:∀args w,(callFunc 211 args).run Tryz.prog w=.ok (.enter 211 args) w:=enters_of Tryz.func211 (by kernel_rfl) rfl
    have HE:=hid (Zii s l is 211 #[] (fun x=>-x) w HV.out eg (fun W _ x hx=>Zsk x hx W) (fun x hx=>ZlG hx))
    clear hv eg
    go_enter Tryz.func160,Tryz.ntmps160
    go_wp2_with (go_at_call 210;refine HE.mono ?_;rintro e w5 ⟨v',is',rfl,HV5,hb5⟩)
    go_ret
    exact⟨_,rfl,hid ⟨v',is',rfl,HV5.out⟩,hb5⟩
theorem ZnG (op : Nat) (hop : op <= 3) (a x : Int) (ha : vOk a) (hx : vOk x) (b1 b2 : Nat) (w : World) (h1 : w.cell? ⟨b1, 0, none⟩ = some (.int .i64 (op + 1 : Nat))) (h2 : w.cell? ⟨b2, 0, none⟩ = some (.int .i64 a)) : Calls Tryz.prog 213 #[.int .i64 x, .pointer (some ⟨b1, 0, none⟩), .pointer (some ⟨b2, 0, none⟩)] w fun e w' => e = .returned (.int .i64 (twoV op a x)) /\ Below w.heap.size w w' := by
  obtain⟨oz,hoz⟩:∃oz:Int,oz=((op+1:Nat):Int):=⟨_,rfl⟩
  rw[<-hoz]at h1
  have HA:Hid (∀W,Calls Tryz.prog 212 #[.int .i64 oz,.int .i64 a,.int .i64 x] W fun e w'=>e=.returned (.int .i64 (twoV op a x))/\w'=W):=hid (fun W=>by rw[hoz];exact ZhG op hop a x ha hx W)
  clear ha hx hoz
  go_enter Tryz.func213,Tryz.ntmps213
  go_wp2_with (go_at_call 212;refine(HA.out _).mono ?_;rintro e w' ⟨rfl,rfl⟩)
  go_ret
  exact⟨rfl,Below.refl _ _⟩
theorem ZnH (op : Nat) (hop : op <= 3) (a x : Int) (ha : vOk a) (hx : vOk x) (b1 b2 : Nat) (w : World) (h1 : w.cell? ⟨b1, 0, none⟩ = some (.int .i64 (op + 1 : Nat))) (h2 : w.cell? ⟨b2, 0, none⟩ = some (.int .i64 a)) : Calls Tryz.prog 214 #[.int .i64 x, .pointer (some ⟨b1, 0, none⟩), .pointer (some ⟨b2, 0, none⟩)] w fun e w' => e = .returned (.int .i64 (twoV op x a)) /\ Below w.heap.size w w' := by
  obtain⟨oz,hoz⟩:∃oz:Int,oz=((op+1:Nat):Int):=⟨_,rfl⟩
  rw[<-hoz]at h1
  have HA:Hid (∀W,Calls Tryz.prog 212 #[.int .i64 oz,.int .i64 x,.int .i64 a] W fun e w'=>e=.returned (.int .i64 (twoV op x a))/\w'=W):=hid (fun W=>by rw[hoz];exact ZhG op hop x a hx ha W)
  clear ha hx hoz
  go_enter Tryz.func214,Tryz.ntmps214
  go_wp2_with (go_at_call 212;refine(HA.out _).mono ?_;rintro e w' ⟨rfl,rfl⟩)
  go_ret
  exact⟨rfl,Below.refl _ _⟩
theorem Zm0(w:World)(x y:Value)(s t:TypeId):BAt ((w.alloc (.cells #[x] s)).alloc (.cells #[y] t)) w.heap.size [x] s/\BAt ((w.alloc (.cells #[x] s)).alloc (.cells #[y] t)) (w.heap.size+1) [y] t:=by
 refine⟨(Zbal.block _ (by simp)).trans (Go.Deep.blk_alloc_new _ _),?_⟩
 have:=Go.Deep.blk_alloc_new (w.alloc (.cells #[x] s)) (.cells #[y] t)
 rw[Go.Deep.nblk_alloc]at this
 exact this
theorem Zl0 (op : Nat) (hop : op <= 3) (x y : Value) (X Y : VV) (w : World) (hx : ValP w x X) (hy : ValP w y Y) (hsy : VOk 1000 Y) : Calls Tryz.prog 162 #[.int .i64 (op + 1 : Nat), x, y] w fun e w' => ∃ v', e = .returned v' /\ Hid (ValP w' v' (Zdk op X Y)) /\ Below w.heap.size w w' := by
  obtain⟨oz,hoz⟩:∃oz:Int,oz=((op+1:Nat):Int):=⟨_,rfl⟩
  rw[<-hoz]
  have HOZ:Hid (oz=((op+1:Nat):Int)):=hoz
  clear hoz
  have eg1:∀args w,(callFunc 213 args).run Tryz.prog w=.ok (.enter 213 args) w:=enters_of Tryz.func213 (by kernel_rfl) rfl
  have eg2:∀args w,(callFunc 214 args).run Tryz.prog w=.ok (.enter 214 args) w:=enters_of Tryz.func214 (by kernel_rfl) rfl
  have EG1:Hid _:=hid eg1
  have EG2:Hid _:=hid eg2
  clear eg1 eg2
  cases X with
  | sc a=>
    obtain⟨rfl,ha⟩:=hx
    have h1:=asSS (.int .i64 a)
    cases Y with
    | sc b=>
      obtain⟨rfl,hb⟩:=hy
      have h2:=asSS (.int .i64 b)
      have HA:Hid (∀W,Calls Tryz.prog 212 #[.int .i64 oz,.int .i64 a,.int .i64 b] W fun e w'=>e=.returned (.int .i64 (twoV op a b))/\w'=W):=hid (fun W=>by rw[HOZ.out];exact ZhG op hop a b ha hb W)
      have HVO:Hid (vOk (twoV op a b)):=hid (ZhF op a b ha)
      clear ha hb
      go_enter Tryz.func162,Tryz.ntmps162
      go_wp2_with (go_at_call 212;refine(HA.out _).mono ?_;rintro e w' ⟨rfl,rfl⟩)
      go_ret
      exact⟨_,rfl,hid ⟨rfl,HVO.out⟩,(by repeat first|exact Below.refl _ _|assumption|refine Below.alloc ?_ ?_ _|refine Below.setCell ?_ ?_ _|refine Zg ?_ _|refine Below.drew ?_|omega|(simp;omega)|simp)⟩
    | vec m=>
      obtain⟨s,is,rfl,hv⟩:=hy
      have HV:Hid (VecV w s m is):=hv
      have HA:Hid (vOk a):=ha
      have h2:=asVS s
      have h3:=asVV s
      clear hv ha
      go_enter Tryz.func162,Tryz.ntmps162
      go_wp2_with fail
      refine Zn fun W hW=>?_
      have hbW:Below w.heap.size w W:=by rw[hW];exact Zbal.alloc (by simp) _
      have HBX:Hid (W.cell? ⟨w.heap.size,0,none⟩=some (.int .i64 oz)/\W.cell? ⟨w.heap.size+1,0,none⟩=some (.int .i64 a)):=hid (by rw[hW];obtain⟨g1,g2⟩:=Zm0 w (.int .i64 oz) (.int .i64 a) 263 340;exact⟨g1.cell 0,g2.cell 0⟩)
      clear hW
      refine(Zii s m is 213 #[.pointer (some ⟨w.heap.size,0,none⟩),.pointer (some ⟨w.heap.size+1,0,none⟩)] (fun z=>twoV op a z) W (HV.below hbW) EG1.out (fun W' hW' z hz=>ZnG op hop a z HA.out hz _ _ W' (by rw[<-HOZ.out];exact(Zh.below hW').cell HBX.1) ((Zh.below hW').cell HBX.2)) (fun z _=>ZhF op a z HA.out)).mono ?_
      rintro e w5 ⟨v',is',rfl,HV5,hb5⟩
      have hb6:=hbW.trans (hb5.mono hbW.size)
      go_wp2
      go_ret
      exact⟨_,rfl,hid ⟨v',is',rfl,HV5.out⟩,hb6⟩
  | vec l=>
    obtain⟨s,is,rfl,hv⟩:=hx
    have HV:Hid (VecV w s l is):=hv
    have h1:=asVS s
    have h2:=asVV s
    clear hv
    cases Y with
    | sc b=>
      obtain⟨rfl,hb⟩:=hy
      have h3:=asSS (.int .i64 b)
      have HA:Hid (vOk b):=hb
      clear hb
      go_enter Tryz.func162,Tryz.ntmps162
      go_wp2_with fail
      refine Zn fun W hW=>?_
      have hbW:Below w.heap.size w W:=by rw[hW];exact Zbal.alloc (by simp) _
      have HBX:Hid (W.cell? ⟨w.heap.size,0,none⟩=some (.int .i64 oz)/\W.cell? ⟨w.heap.size+1,0,none⟩=some (.int .i64 b)):=hid (by rw[hW];obtain⟨g1,g2⟩:=Zm0 w (.int .i64 oz) (.int .i64 b) 263 340;exact⟨g1.cell 0,g2.cell 0⟩)
      clear hW
      refine(Zii s l is 214 #[.pointer (some ⟨w.heap.size,0,none⟩),.pointer (some ⟨w.heap.size+1,0,none⟩)] (fun z=>twoV op z b) W (HV.below hbW) EG2.out (fun W' hW' z hz=>ZnH op hop b z HA.out hz _ _ W' (by rw[<-HOZ.out];exact(Zh.below hW').cell HBX.1) ((Zh.below hW').cell HBX.2)) (fun z hz=>ZhF op z b hz)).mono ?_
      rintro e w5 ⟨v',is',rfl,HV5,hb5⟩
      have hb6:=hbW.trans (hb5.mono hbW.size)
      go_wp2
      go_ret
      exact⟨_,rfl,hid ⟨v',is',rfl,HV5.out⟩,hb6⟩
    | vec m=>
      obtain⟨s2,is2,rfl,hv2⟩:=hy
      have HV2:Hid (VecV w s2 m is2):=hv2
      have HSM:Hid (Srt m):=hid hsy.1
      have h3:=asVS s2
      have h4:=asVV s2
      clear hv2 hsy
      go_enter Tryz.func162,Tryz.ntmps162
      go_wp2_with fail
      refine Zn fun W hW=>?_
      have hbW:Below w.heap.size w W:=by rw[hW];exact Zbal
      clear hW
      rw[HOZ.out]
      refine(Zv5 op hop s s2 l m is is2 W (HV.below hbW) (HV2.below hbW) HSM.out).mono ?_
      rw[<-HOZ.out]
      rintro e w5 ⟨v',is',rfl,HV5,hb5⟩
      have hb6:=hbW.trans (hb5.mono hbW.size)
      have HV6:Hid (ValP w5 (.iface 342 v') (Zdk op (.vec l) (.vec m))):=hid (by rw[ZjH op l m HSM.out];exact⟨v',is',rfl,HV5.out⟩)
      go_wp2
      go_ret
      exact⟨_,rfl,HV6,hb6⟩
def NmS(bs:List ByteArray):Prop:=bs.Pairwise fun a b=>Op.bytesLess (bl b) (bl a)=false
theorem NmS.le {bs : List ByteArray} (h : NmS bs) {i j : Nat} (hi : i <= j) (hj : j < bs.length) : Op.bytesLess (bl bs[j]) (bl (bs[i]'(by omega))) = false := by
  rcases Nat.lt_or_ge i j with h1|h1
  · exact List.pairwise_iff_getElem.1 h i j (by omega) hj h1
  · obtain rfl:i=j:=by omega
    exact Zda _
theorem ZjP{x y z:List UInt8}(h1:Op.bytesLess y x=false)(h2:Op.bytesLess y z=true):Op.bytesLess x z=true:=by
 cases h3:Op.bytesLess x y with
 | true=>exact Zdy _ _ _ h3 h2
 | false=>rw[Zdz _ _ h3 h1];exact h2
theorem Zip(bs:List ByteArray)(j:Nat)(hj:j<bs.length):(ZZ bs)[j]?=some (.string bs[j]):=by
 unfold ZZ;rw[List.getElem?_map,List.getElem?_eq_getElem hj];rfl
theorem ZlH{bs:List ByteArray}(hs:NmS bs){y:List UInt8}{k:Nat}(h1:∀j (h:j<bs.length),j<k->Op.bytesLess (bl bs[j]) y=true)(h2:∀j (h:j<bs.length),k<=j->Op.bytesLess (bl bs[j]) y=false)(hm:y∈bs.map bl):∃h:k<bs.length,bl bs[k]=y:=by
 obtain⟨b,hb,rfl⟩:=List.mem_map.1 hm
 obtain⟨j,hj,rfl⟩:=List.mem_iff_getElem.1 hb
 have hkj:k<=j:=by
  rcases Nat.lt_or_ge j k with h|h
  ·have:=h1 j hj h
   rw[Zda]at this;cases this
  ·exact h
 exact⟨by omega,Zdz _ _ (h2 k (by omega) (Nat.le_refl _)) (hs.le hkj hj)⟩
theorem Zoa(v:Value)(bs:List ByteArray)(tx:ByteArray)(w:World)(hrow:w.ownsRow 0 9 1 v bs.length (ZZ bs))(hlen:bs.length<=100000)(hs:NmS bs) :
  Calls Tryz.prog 255 #[v,.string tx] w fun e w'=>∃k:Nat,e=.returned (.tuple #[.int .i64 k,.bool (decide (bl tx∈bs.map bl))])/\w'=w:=by
 obtain⟨ra,rcp,rfl⟩:=Zr hrow
 have HR:Hid (w.ownsRow 0 9 1 (.slice ra bs.length rcp) bs.length (ZZ bs)):=hrow
 have HS:Hid (NmS bs):=hs
 obtain⟨fd,hfd⟩:∃fd,fd=decide (bl tx∈bs.map bl):=⟨_,rfl⟩
 rw[<-hfd]
 have HFD:Hid (fd=decide (bl tx∈bs.map bl)):=hfd
 clear hrow hs hfd
 go_enter Tryz.func255,Tryz.ntmps255
 go_wp2
 go_loopg [7,8] bs.length (fun kx s5 s6 wr=>∃lo hi:Nat,s5=.int .i64 lo/\s6=.int .i64 hi/\lo<=hi/\hi<=bs.length/\hi - lo<=kx/\wr=w/\Hid ((∀j (h:j<bs.length),j<lo->Op.bytesLess (bl bs[j]) (bl tx)=true)/\(∀j (h:j<bs.length),hi<=j->Op.bytesLess (bl bs[j]) (bl tx)=false)))
 case atStart=>exact⟨0,bs.length,rfl,rfl,Nat.zero_le _,Nat.le_refl _,by omega,rfl,hid ⟨fun j _ h=>absurd h (Nat.not_lt_zero _),fun j h h'=>by omega⟩⟩
 case round=>
  obtain⟨lo,hi,rfl,rfl,hlh,hin,hg,rfl,I⟩:=hrel
  by_cases hlt:lo<hi
  ·have hml:(lo+hi) / 2<bs.length:=by omega
   have hg:∃g,ra=some ⟨g,0,none⟩:=by
    obtain⟨g,cp',h⟩:=ZV HR.out (by omega)
    injection h with h1;exact⟨g,h1⟩
   obtain⟨g,rfl⟩:=hg
   have d1:=Zj HR.out _ _ (Zip bs ((lo+hi) / 2) hml)
   have hmz:(((lo+hi) / 2:Nat):Int)=((lo:Int)+(hi:Int)) / 2:=by omega
   have hmn:(((lo:Int)+(hi:Int)) / 2).toNat=(lo+hi) / 2:=by omega
   have hc:=Zrg bs[(lo+hi) / 2] tx
   have HM1:Hid (Op.bytesLess (bl bs[(lo+hi) / 2]) (bl tx)=true->∀i (h:i<bs.length),i<=(lo+hi) / 2->Op.bytesLess (bl bs[i]) (bl tx)=true):=hid (fun hl i h h'=>ZjP (HS.le h' hml) hl)
   have HM2 : Hid (Op.bytesLess (bl bs[(lo + hi) / 2]) (bl tx) = false -> ∀ i (h : i < bs.length), (lo + hi) / 2 <= i -> Op.bytesLess (bl bs[i]) (bl tx) = false) := hid (fun hl i h h' => by
     cases hb:Op.bytesLess (bl bs[i]) (bl tx)with
     | false=>rfl
     | true=>rw[ZjP (HS.le h' h) hb]at hl;cases hl)
   generalize bs[(lo+hi) / 2]=x at *
   cases hx:Op.bytesLess (bl x) (bl tx)with
   | true=>
    rw[hx]at hc
    have HX:=hid (HM1.out hx)
    clear hx
    go_wp2_with (go_at_call 279;refine(hc _).mono ?_;rintro e w' ⟨rfl,rfl⟩)
    go_roundg (hi - ((lo+hi) / 2+1))
    case measure=>omega
    case rel=>
     exact⟨(lo+hi) / 2+1,hi,by rw[show((lo:Int)+(hi:Int)) / 2+1=(((lo+hi) / 2+1:Nat):Int) by omega],rfl,by omega,hin,Nat.le_refl _,rfl,hid ⟨fun j h h'=>HX.out j h (by omega),I.2⟩⟩
   | false=>
    rw[hx]at hc
    have HX:=hid (HM2.out hx)
    clear hx
    go_wp2_with (go_at_call 279;refine(hc _).mono ?_;rintro e w' ⟨rfl,rfl⟩)
    go_roundg ((lo+hi) / 2 - lo)
    case measure=>omega
    case rel=>
     exact⟨lo,(lo+hi) / 2,rfl,by rw[show((lo:Int)+(hi:Int)) / 2=(((lo+hi) / 2:Nat):Int) by omega],by omega,by omega,Nat.le_refl _,rfl,hid ⟨I.1,HX.out⟩⟩
  ·obtain rfl:hi=lo:=by omega
   by_cases hll:hi<bs.length
   ·have hg:∃g,ra=some ⟨g,0,none⟩:=by
     obtain⟨g,cp',h⟩:=ZV HR.out (by omega)
     injection h with h1;exact⟨g,h1⟩
    obtain⟨g,rfl⟩:=hg
    have d1:=Zj HR.out _ _ (Zip bs hi hll)
    have he:(bs[hi].toList == tx.toList)=fd:=by
     rw[Zh4,HFD.out,decide_eq_decide]
     constructor
     ·intro h;rw[<-h];exact List.mem_map.2 ⟨_,List.getElem_mem hll,rfl⟩
     ·intro h;exact(ZlH HS.out I.1 I.2 h).2
    clear HFD
    generalize bs[hi]=x at *
    cases fd
    ·go_wp2_with (go_at_call 284;refine(ZlE _ _).mono ?_;rintro e w' ⟨rfl,rfl⟩)
     go_ret2
     exact⟨hi,rfl,rfl⟩
    ·go_wp2_with (go_at_call 284;refine(ZlE _ _).mono ?_;rintro e w' ⟨rfl,rfl⟩)
     go_ret2
     exact⟨hi,rfl,rfl⟩
   ·have he:fd=false:=by
     rw[HFD.out,decide_eq_false_iff_not]
     intro h
     exact hll (ZlH HS.out I.1 I.2 h).1
    subst he
    go_wp2
    go_ret2
    exact⟨hi,rfl,rfl⟩
theorem Zqo(l:List Lab)(p:Lab)(ns:List (List UInt8)):Zv (l++[p]) ns=if p.1∈ns then Zv l ns++[p] else Zv l ns:=by
 unfold Zv
 rw[List.filter_append]
 split
 ·rename_i h;rw[List.filter_cons_of_pos (by simpa using h)];rfl
 ·rename_i h;rw[List.filter_cons_of_neg (by simpa using h)];simp
theorem Zrb(a:Option Addr)(n c:Nat)(tx:ByteArray)(qs:List (ByteArray×ByteArray))(nv:Value)(bs:List ByteArray)(w:World)(hl:LbOk w a n c tx qs)(hn:w.ownsRow 0 9 1 nv bs.length (ZZ bs))(hbl:bs.length<=100000)(hs:NmS bs) :
  Calls Tryz.prog 219 #[.agg #[.slice a n c,.string tx],nv] w fun e w'=>∃(a':Option Addr) (n' c':Nat) (tx':ByteArray) (qs':List (ByteArray×ByteArray)),e=.returned (.agg #[.slice a' n' c',.string tx'])/\Hid (LbOk w' a' n' c' tx' qs'/\qs'.map blP=Zv (qs.map blP) (bs.map bl))/\Below w.heap.size w w':=by
 obtain⟨i0,hi,hz0,hz1,hz2⟩:=info_parts Tryz.infoLabel
 have hqn:qs.length=n:=by have:=hl.row.1.1;rw[ZgW]at this;omega
 subst hqn
 obtain⟨na,ncp,rfl⟩:=Zr hn
 have HL:Hid (LbOk w a qs.length c tx qs):=hl
 have hn6:qs.length<=6001:=hl.row.2.1
 have HBS:Hid (∀W,Below w.heap.size w W->∀nm:ByteArray,Calls Tryz.prog 255 #[.slice na bs.length ncp,.string nm] W fun e w'=>∃k:Nat,e=.returned (.tuple #[.int .i64 k,.bool (decide (bl nm∈bs.map bl))])/\w'=W):=hid (fun W hW nm=>Zoa _ bs nm W (Zm hn hW) hbl hs)
 clear hl hn hs
 go_enter Tryz.func219,Tryz.ntmps219
 go_wp2
 go_loopw [5, 13] (fun v i wr => ∃ (k : Nat) (os : List (ByteArray × ByteArray)), k <= qs.length /\ i = .int .i64 k /\ os.length <= k /\ wr.ownsRow (w.heap.size + 2) 394 2 v os.length (ZbD os) /\ Hid (os.map blP = Zv ((qs.take k).map blP) (bs.map bl) /\ ∀ p ∈ os, p ∈ qs) /\ Hid (BAt wr w.heap.size [.slice a qs.length c, .string tx] 206) /\ Hid (BAt wr (w.heap.size + 1) [.slice none 0 0, .string ⟨#[]⟩] 206) /\ Hid (Below w.heap.size w wr))
   (fun _ i _=>qs.length - (intOf i).toNat)
 case atStart=>
  obtain⟨g1,g2⟩:BAt ((w.alloc (.cells #[.slice a qs.length c,.string tx] 206)).alloc (.cells #[.slice none 0 0,.string ⟨#[]⟩] 206)) w.heap.size [.slice a qs.length c,.string tx] 206/\BAt ((w.alloc (.cells #[.slice a qs.length c,.string tx] 206)).alloc (.cells #[.slice none 0 0,.string ⟨#[]⟩] 206)) (w.heap.size+1) [.slice none 0 0,.string ⟨#[]⟩] 206:=by
   refine⟨(Zbal.block _ (by simp)).trans (Go.Deep.blk_alloc_new _ _),?_⟩
   have:=Go.Deep.blk_alloc_new (w.alloc (.cells #[.slice a qs.length c,.string tx] 206)) (.cells #[.slice none 0 0,.string ⟨#[]⟩] 206)
   rw[Go.Deep.nblk_alloc]at this
   exact this
  exact⟨0,[],Nat.zero_le _,rfl,Nat.zero_le _,World.ownsRow_nil _ _ _ _,hid ⟨rfl,fun p hp=>by cases hp⟩,hid g1,hid g2,hid (Zbal.alloc (by simp) _)⟩
 case round=>
  rename World=>wo
  obtain⟨k,os,hk,rfl,hosk,hown,HOS,HB0,HB1,HB⟩:=hrel
  have hwr:=HB.size
  have hw0:=HB0.lt
  have hw1:=HB1.lt
  by_cases hlt:k<qs.length
  ·have hg:∃g,a=some ⟨g,0,none⟩:=by
    obtain⟨g,cp',h⟩:=ZV HL.row.1 (by omega)
    injection h with h1;exact⟨g,h1⟩
   obtain⟨g,rfl⟩:=hg
   have HVR:=hid (Zm HL.row.1 HB.out)
   obtain⟨f1,f2⟩:=ZgV qs k
   rw[List.getElem?_eq_getElem hlt]at f1 f2
   have d1:=Zj HVR.out _ _ f1
   have d2:=Zj HVR.out _ _ f2
   have HTK:Hid (Zv ((qs.take (k+1)).map blP) (bs.map bl)=if bl (qs[k]).1∈bs.map bl then Zv ((qs.take k).map blP) (bs.map bl)++[blP qs[k]] else Zv ((qs.take k).map blP) (bs.map bl)):=hid (by
    rw[List.take_succ_eq_append_getElem hlt,List.map_append];exact Zqo _ _ _)
   have HMQ:Hid (qs[k]∈qs):=hid (List.getElem_mem hlt)
   generalize qs[k]=q at *
   obtain⟨x,y⟩:=q
   simp only at d1 d2
   clear f1 f2 HVR
   have hkz:(k:Int)<(qs.length:Int):=by omega
   go_wp2_with fail
   refine Zn fun W hW=>?_
   have hbW:Below wo.heap.size wo W:=by rw[hW];exact Zbal
   have HX:Hid (BAt W wo.heap.size [.string x,.string y] 394):=hid (by rw[hW];exact Go.Deep.blk_alloc_new _ _)
   have HBW:Hid (Below w.heap.size w W):=hid (HB.trans (hbW.mono hwr))
   have HNE:=hid (fun q hq=>(hown.lt q hq).2)
   have hownW:=Zm hown hbW
   have HB0W:=hid (HB0.below hbW)
   have HB1W:=hid (HB1.below hbW)
   clear hW hbW hown HB d1 d2 HB0 HB1
   refine(HBS.out W HBW.out x).mono ?_
   rintro e w5 ⟨kk,rfl,rfl⟩
   have hwx:=HX.lt
   by_cases hm:bl x∈bs.map bl
   ·rw[decide_eq_true hm]
    have HTK2 : Hid ((os ++ [(x, y)]).map blP = Zv ((qs.take (k + 1)).map blP) (bs.map bl) /\ ∀ p ∈ os ++ [(x, y)], p ∈ qs) := hid ⟨by rw [HTK.out, if_pos hm, List.map_append, HOS.1]; rfl, fun p hp => by
      rcases List.mem_append.1 hp with hp|hp
      · exact HOS.2 p hp
      · rw[List.mem_singleton]at hp;subst hp;exact HMQ.out⟩
    clear hm
    have x0:=HX.cell 0
    have x1:=HX.cell 1
    simp only[Zget]at x0 x1
    go_wp2_with (at_builtin;refine wpList_append_own _ rfl (.tmp 25) (.tmp 27) 204 rfl (w.heap.size+2) 394 i0 (.agg #[.string ByteArray.empty,.string ByteArray.empty]) 2 32 Tryz.underlying204 hi hz0 hz1 hz2 rfl (by decide) _ _ _ rfl (hownW.alloc _) ⟨w5.heap.size,0,none⟩ 1 1 [.string x,.string y] rfl rfl ?c1 ?c2 ?c3 ?c4 ?c5 ?_)
    case c1=>exact Zcu rfl
    case c2=>intro u hu;simp at hu;rcases hu with rfl|rfl <;> rfl
    case c3=>unfold maxLen;omega
    case c4=>omega
    case c5=>simp;omega
    intro v6 w6 hown6 hgrow6 _
    have hbA:∀o,Below w5.heap.size w5 (w5.alloc o):=fun o=>Zbal
    have hkb:=(ZY.below (hbA _) 394).trans (ZY.grown hgrow6 (hownW.alloc _))
    have HB6:Hid (Below w.heap.size w w6):=hid ((HBW.alloc (by omega) _).grown hgrow6 (by simp;omega) (fun q hq=>by have:=(hownW.lt q hq).1;omega))
    have hown7:w6.ownsRow (w.heap.size+2) 394 2 v6 (os++[(x,y)]).length (ZbD (os++[(x,y)])):=by
     rw[ZkI,List.length_append];exact hown6
    have HB06:Hid (BAt w6 w.heap.size [.slice (some ⟨g,0,none⟩) qs.length c,.string tx] 206):=hid (hkb _ _ _ _ (by decide) HB0W.out)
    have HB16:Hid (BAt w6 (w.heap.size+1) [.slice none 0 0,.string ⟨#[]⟩] 206):=hid (hkb _ _ _ _ (by decide) HB1W.out)
    clear hgrow6 hown6 hownW hkb x0 x1 hbA
    go_wp2
    go_roundw
    case rel=>exact⟨k+1,_,by omega,by go_num,by simp;omega,hown7,HTK2,HB06,HB16,HB6⟩
    case measure=>simp[intOf];omega
   ·rw[decide_eq_false hm]
    have HTK2:Hid (os.map blP=Zv ((qs.take (k+1)).map blP) (bs.map bl)/\∀p∈os,p∈qs):=hid ⟨by rw[HTK.out,if_neg hm];exact HOS.1,HOS.2⟩
    clear hm
    go_wp2
    go_roundw
    case rel=>exact⟨k+1,os,by omega,by go_num,by omega,hownW,HTK2,HB0W,HB1W,HBW⟩
    case measure=>simp[intOf];omega
  ·obtain rfl:k=qs.length:=by omega
   have HK:Hid (os.map blP=Zv (qs.map blP) (bs.map bl)):=hid (by have:=HOS.1;rwa [List.take_length]at this)
   have HWF:Hid (ZcW (os.map blP)):=hid (by rw[HK.out];exact HL.wf.kept _)
   have HSZ:Hid (∀p∈os,p.1.size<=6000/\p.2.size<=6000):=hid (fun p hp=>HL.row.2.2 p (HOS.2 p hp))
   obtain⟨va,vcp,hva⟩:=Zr hown
   subst hva
   have y0:=HB0.cell 0
   have y1:=HB0.cell 1
   have z0:=HB1.cell 0
   have z1:=HB1.cell 1
   have fz0:=HB1.frozen 0
   have fz1:=HB1.frozen 1
   simp only[Zget]at y0 y1 z0 z1
   by_cases hle:os.length=qs.length
   ·have hez:((os.length:Int) == (qs.length:Int))=true:=by simp[hle]
    have HEQ:Hid (qs.map blP=Zv (qs.map blP) (bs.map bl)):=hid (by
     unfold Zv
     refine(List.filter_eq_self.2 ?_).symm
     have h1:=HK.out
     have h2:(Zv (qs.map blP) (bs.map bl)).length=(qs.map blP).length:=by rw[<-h1,List.length_map,List.length_map,hle]
     unfold Zv at h2
     exact List.length_filter_eq_length_iff.1 h2)
    have HLo:Hid (LbOk wo a qs.length c tx qs):=hid (HL.keepsC (Zh.below HB.out))
    have HLS : Hid (∀ x y, LbOk ((wo.setCell ⟨w.heap.size + 1, 0, none⟩ x).setCell ⟨w.heap.size + 1, 1, none⟩ y) a qs.length c tx qs) := hid (fun x y => ⟨⟨Zf6 HLo.row.1 (fun j hj => by
      have hne:j≠w.heap.size+1:=by rintro rfl;exact ZcA HLo.row.1 HB1.out (by decide) hj.symm
      rw[Go.Deep.blk_setCell_other _ _ _ _ hne,Go.Deep.blk_setCell_other _ _ _ _ hne]),HLo.row.2⟩,HLo.txt,HLo.wf⟩)
    clear hown
    go_wp2
    exact bodyPost_ret (v:=.agg #[.slice a qs.length c,.string tx]) (by simp[results,Tryz.results219,go_sem,z0,z1]) rfl ⟨a,qs.length,c,tx,qs,rfl,hid ⟨HLS.out _ _,HEQ.out⟩,(HB.setCell (p:=⟨w.heap.size+1,0,none⟩) (by show w.heap.size<=w.heap.size+1;omega) _).setCell (p:=⟨w.heap.size+1,1,none⟩) (by show w.heap.size<=w.heap.size+1;omega) _⟩
   ·have hez:((os.length:Int) == (qs.length:Int))=false:=by rw[beq_eq_false_iff_ne];omega
    have HRO:Hid (ZbO wo 0 (.slice va os.length vcp) os.length os):=hid ⟨hown.mono (Nat.zero_le _),by omega,HSZ.out⟩
    clear hown
    go_wp2_with fail
    refine(ZlX va os.length vcp _ os HRO.out).mono ?_
    rintro e w5 ⟨a',c',rfl,hr5,hb5⟩
    have HB15:=hid (HB1.below hb5)
    have HB5:Hid (Below w.heap.size w w5):=hid (HB.trans (hb5.mono hwr))
    have HL5:Hid (LbOk w5 a' os.length c' ⟨(ZL os).toArray⟩ os):=hid ⟨hr5,by rw[Ziy];rfl,HWF.out⟩
    have HLS : Hid (∀ x y, LbOk ((w5.setCell ⟨w.heap.size + 1, 0, none⟩ x).setCell ⟨w.heap.size + 1, 1, none⟩ y) a' os.length c' ⟨(ZL os).toArray⟩ os) := hid (fun x y => ⟨⟨Zf6 HL5.row.1 (fun j hj => by
      have hne:j≠w.heap.size+1:=by rintro rfl;exact ZcA HL5.row.1 HB15.out (by decide) hj.symm
      rw[Go.Deep.blk_setCell_other _ _ _ _ hne,Go.Deep.blk_setCell_other _ _ _ _ hne]),HL5.row.2⟩,HL5.txt,HL5.wf⟩)
    clear y0 y1 z0 z1 fz0 fz1 hr5 hb5
    have z0:=HB15.cell 0
    have z1:=HB15.cell 1
    have fz0:=HB15.frozen 0
    have fz1:=HB15.frozen 1
    simp only[Zget]at z0 z1
    go_wp2
    exact bodyPost_ret (v:=.agg #[.slice a' os.length c',.string ⟨(ZL os).toArray⟩]) (by simp[results,Tryz.results219,go_sem,z0,z1]) rfl ⟨a',os.length,c',_,os,rfl,hid ⟨HLS.out _ _,HK.out⟩,(HB5.setCell (p:=⟨w.heap.size+1,0,none⟩) (by show w.heap.size<=w.heap.size+1;omega) _).setCell (p:=⟨w.heap.size+1,1,none⟩) (by show w.heap.size<=w.heap.size+1;omega) _⟩
end Go.Proofs.YtkodhpilkaihjaaGreatDoor
