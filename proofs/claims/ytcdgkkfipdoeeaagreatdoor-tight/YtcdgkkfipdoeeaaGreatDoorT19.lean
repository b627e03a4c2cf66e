/- Parts. -/
import Derived.Test.YtcdgkkfipdoeeaaGreatDoorT18
import Derived.Test.YtcdgkkfipdoeeaaGreatDoorT06
import Derived.Test.YtcdgkkfipdoeeaaGreatDoorT12
import Derived.Test.YtcdgkkfipdoeeaaGreatDoorT11
set_option maxRecDepth 100000
set_option maxHeartbeats 8000000
set_option linter.unusedSimpArgs false
namespace Go.Proofs.YtcdgkkfipdoeeaaGreatDoor
open Go.RowKit LS
def fdT(ys:List Itm)(y:List UInt8):Option Itm:=ys.find? fun j=>decide (bl j.tx=y)
theorem ZsH{ys:List Itm}(hs:TxS ys){k:Nat}(hk:k<ys.length){y:List UInt8}(h:bl (ys[k]).tx=y):fdT ys y=some ys[k]:=by
 unfold fdT
 rw[List.find?_eq_some_iff_getElem]
 refine⟨by simpa using h,k,hk,rfl,fun j hj=>?_⟩
 have e:=List.pairwise_iff_getElem.1 hs j k (by omega) hk hj
 simp only[Bool.not_eq_true',decide_eq_false_iff_not]
 intro e2
 rw[e2,h,ZcE]at e
 cases e
theorem ZsG{ys:List Itm}{y:List UInt8}(h:∀i∈ys,bl i.tx≠y):fdT ys y=none:=by
 unfold fdT
 rw[List.find?_eq_none]
 intro x hx
 simpa using h x hx
def FdIs(ys:List Itm)(y:List UInt8)(x:Int)(ok:Bool):Prop:=(ok=true/\∃j∈ys,fdT ys y=some j/\x=j.v)∨(ok=false/\fdT ys y=none)
theorem ZsJ(v:Value)(is:List Itm)(a:Option Addr)(n c:Nat)(tx:ByteArray)(w:World)(hrow:w.ownsRow 0 286 3 v is.length (encs is))(hlen:is.length<=1000)(hs:TxS is) :
  Calls Tryz.prog 230 #[v,.agg #[.slice a n c,.string tx]] w fun e w'=>∃(x:Int) (ok:Bool),e=.returned (.tuple #[.int .i64 x,.bool ok])/\Hid (FdIs is (bl tx) x ok)/\Below w.heap.size w w':=by
 obtain⟨ra,rcp,rfl⟩:=Zv hrow
 have HR:Hid (w.ownsRow 0 286 3 (.slice ra is.length rcp) is.length (encs is)):=hrow
 have HS:Hid (TxS is):=hs
 clear hrow hs
 go_enter Tryz.func230,Tryz.ntmps230
 go_wp2_with fail
 refine(ZfJ _ _ _ _ _).mono ?_
 rintro e w5 ⟨rfl,o5,hw5⟩
 have HB:Hid (Below w.heap.size w w5):=hid (by rw[hw5];exact Zbal.alloc (by simp) _)
 clear hw5
 go_wp2_with fail
 refine(Zrm _ is tx _ (Zw HR.out HB.out) hlen HS.out).mono ?_
 rintro e w6 ⟨k,ok,rfl,HK,hb6⟩
 have HB6:Hid (Below w.heap.size w w6):=hid (HB.trans (hb6.mono HB.size))
 clear hb6 HB
 rcases HK.out with ⟨rfl,hk,hkt⟩|⟨rfl,hn⟩
 ·have hg:∃g,ra=some ⟨g,0,none⟩:=by
   obtain⟨g,cp',h⟩:=ZW HR.out (by omega)
   injection h with h1;exact⟨g,h1⟩
  obtain⟨g,rfl⟩:=hg
  have d3:=Zr (Zw HR.out HB6.out) _ _ (ZeS is k hk).2.2
  have HF:Hid (FdIs is (bl tx) (is[k]).v true):=hid (Or.inl ⟨rfl,is[k],List.getElem_mem hk,ZsH HS.out hk hkt,rfl⟩)
  have hkz:(k:Int)<(is.length:Int):=by omega
  clear hkt HK
  generalize(is[k]).v=x at *
  go_wp2
  go_ret2
  exact⟨x,true,rfl,HF,HB6.out⟩
 ·have HF:Hid (FdIs is (bl tx) 0 false):=hid (Or.inr ⟨rfl,ZsG hn⟩)
  clear hn HK
  go_wp2
  go_ret2
  exact⟨0,false,rfl,HF,HB6.out⟩
def wItm(op:Nat)(ys:List Itm)(i:Itm):Option Itm:=(fdT ys (bl i.tx)).map fun j=>{ i with v:=twoV op i.v j.v }
theorem ZsW{α β:Type}(f:α->Option β)(l:List α)(a:α):(l++[a]).filterMap f=l.filterMap f++(f a).toList:=by
 rw[List.filterMap_append]
 cases h:f a <;> simp[h]
theorem Zm4{α:Type}{p q:α->Bool} : ∀ {l:List α},(∀a∈l,p a=q a)->l.find? p=l.find? q
 | [],_=>rfl
 | a :: l, h => by
   rw[List.find?_cons,List.find?_cons,h a (by simp),Zm4 (l:=l) (fun b hb=>h b (List.mem_cons_of_mem _ hb))]
theorem ZzI{op:Nat}{w:World}{ys:List Itm}(hy:∀j∈ys,ItmOk w j){i:Itm}(hi:ItmOk w i):(wItm op ys i).map Itm.el=vvF op (ys.map Itm.el) i.el:=by
 unfold wItm vvF fdT
 rw[List.find?_map,Option.map_map,Option.map_map]
 have e : ys.find? (fun j => decide (bl j.tx = bl i.tx)) = ys.find? ((fun f => decide (wrt i.el.1 = wrt f.1)) ∘ Itm.el) := by
   refine Zm4 (fun j hj=>?_)
   show decide (bl j.tx=bl i.tx)=decide (wrt i.labs=wrt j.labs)
   unfold Itm.labs
   rw[<-hi.lb.txt,<-(hy j hj).lb.txt,decide_eq_decide]
   exact⟨fun h=>h.symm,fun h=>h.symm⟩
 rw[e]
 rfl
theorem Zp8{op:Nat}{w:World}{ys:List Itm}(hy:∀j∈ys,ItmOk w j):∀ {xs:List Itm},(∀i∈xs,ItmOk w i)->(xs.filterMap (wItm op ys)).map Itm.el=(xs.map Itm.el).filterMap (vvF op (ys.map Itm.el))
 | [],_=>rfl
 | i :: xs, h => by
   have e1:=ZzI (op:=op) hy (h i (by simp))
   have e2:=Zp8 (op:=op) hy (xs:=xs) (fun j hj=>h j (List.mem_cons_of_mem _ hj))
   rw[List.map_cons,List.filterMap_cons,List.filterMap_cons]
   rw[<-e1]
   cases wItm op ys i with
   | none=>exact e2
   | some z=>simp only[Option.map_some,List.map_cons,e2]
theorem VecV.txs{w:World}{v:Value}{l:List El}{is:List Itm}(h:VecV w v l is)(hs:Srt l):TxS is:=by
 unfold Srt at hs
 rw[<-h.els,List.pairwise_map]at hs
 unfold TxS
 refine List.Pairwise.imp_of_mem ?_ hs
 intro a b ha hb hab
 rw[(h.ok a ha).lb.txt,(h.ok b hb).lb.txt]
 exact hab
theorem ZzV(op:Nat)(hop:op<=3)(v y:Value)(l m:List El)(is ys:List Itm)(w:World)(hv:VecV w v l is)(hy:VecV w y m ys)(hsm:Srt m) :
  Calls Tryz.prog 201 #[v,y,.int .i64 (op+1:Nat)] w fun e w'=>∃v' is',e=.returned v'/\Hid (VecV w' v' (l.filterMap (vvF op m)) is')/\Below w.heap.size w w':=by
 obtain⟨i0,hi,hz0,hz1,hz2⟩:=info_parts Tryz.infoItem
 obtain⟨ra,rcp,rfl⟩:=Zv hv.row
 obtain⟨ya,ycp,rfl⟩:=Zv hy.row
 have HV:Hid (VecV w (.slice ra is.length rcp) l is):=hv
 have HY:Hid (VecV w (.slice ya ys.length ycp) m ys):=hy
 have HTY:Hid (TxS ys):=hid (hy.txs hsm)
 have hrl:is.length<=1000:=hv.len
 have hyl:ys.length<=1000:=hy.len
 obtain⟨oz,hoz⟩:∃oz:Int,oz=((op+1:Nat):Int):=⟨_,rfl⟩
 rw[<-hoz]
 have HOZ:Hid (oz=((op+1:Nat):Int)):=hoz
 clear hv hy hsm hoz
 go_enter Tryz.func201,Tryz.ntmps201
 go_wp2
 go_loopw [7, 14] (fun v i wr => ∃ (k : Nat) (os : List Itm), k <= is.length /\ i = .int .i64 k /\ os.length <= k /\ wr.ownsRow w.heap.size 286 3 v os.length (encs os) /\ Hid (os = (is.take k).filterMap (wItm op ys)) /\ Hid ((∀ i ∈ is, ItmOk wr i) /\ ∀ i ∈ ys, ItmOk wr i) /\ Hid (Below w.heap.size w wr))
   (fun _ i _=>is.length - (intOf i).toNat)
 case atStart=>exact⟨0,[],Nat.zero_le _,rfl,Nat.zero_le _,World.ownsRow_nil _ _ _ _,hid rfl,hid ⟨HV.ok,HY.ok⟩,hid (Below.refl _ _)⟩
 case round=>
  rename World=>wo
  obtain⟨k,os,hk,rfl,hosk,hown,HOS,HOK,HB⟩:=hrel
  have hwr:=HB.size
  by_cases hlt:k<is.length
  ·have hg:∃g,ra=some ⟨g,0,none⟩:=by
    obtain⟨g,cp',h⟩:=ZW HV.row (by omega)
    injection h with h1;exact⟨g,h1⟩
   obtain⟨vg,rfl⟩:=hg
   have HVR:=hid (Zw HV.row HB.out)
   obtain⟨f1,f2,f3⟩:=ZeS is k hlt
   have d1:=Zr HVR.out _ _ f1
   have d2:=Zr HVR.out _ _ f2
   have d3:=Zr HVR.out _ _ f3
   have HTK:Hid ((is.take (k+1)).filterMap (wItm op ys)=(is.take k).filterMap (wItm op ys)++(wItm op ys is[k]).toList):=hid (by
    rw[List.take_succ_eq_append_getElem hlt];exact ZsW _ _ _)
   have HSV:Hid (vOk (is[k]).v):=hid (HOK.1 _ (List.getElem_mem hlt)).vok
   generalize is[k]=s at *
   clear f1 f2 f3
   have hkz:(k:Int)<(is.length:Int):=by omega
   go_wp2_with fail
   refine ZK fun W hW=>?_
   have hbW:Below wo.heap.size wo W:=by rw[hW];exact Zbal
   have HXW:Hid (BAt W wo.heap.size [.slice s.a s.n s.c,.string s.tx,.int .i64 s.v] 286):=hid (by rw[hW];exact Go.Deep.blk_alloc_new _ _)
   have HBW:Hid (Below w.heap.size w W):=hid (HB.trans (hbW.mono hwr))
   have HNE:=hid (fun q hq=>(hown.lt q hq).2)
   have hownW:=Zw hown hbW
   have HOKW:Hid ((∀i∈is,ItmOk W i)/\∀i∈ys,ItmOk W i):=hid ⟨fun i hi=>(HOK.1 i hi).below hbW,fun i hi=>(HOK.2 i hi).below hbW⟩
   clear hW hbW hown HB HOK HVR d1 d2 d3
   refine(ZsJ _ ys s.a s.n s.c s.tx _ (Zw HY.row HBW.out) hyl HTY.out).mono ?_
   rintro e wr ⟨x,ok,rfl,HFD,hb5⟩
   have HX:=hid (HXW.below hb5)
   have HBI:Hid (Below w.heap.size w wr):=hid (HBW.trans (hb5.mono HBW.size))
   have hownI:=Zw hownW hb5
   have HOKI:Hid ((∀i∈is,ItmOk wr i)/\∀i∈ys,ItmOk wr i):=hid ⟨fun i hi=>(HOKW.1 i hi).below hb5,fun i hi=>(HOKW.2 i hi).below hb5⟩
   clear hb5 HXW HBW hownW HOKW
   have hwI:=HBI.size
   rcases HFD.out with ⟨rfl,j,hj,hfd,rfl⟩|⟨rfl,hfd⟩
   ·have HTK2:Hid ((is.take (k+1)).filterMap (wItm op ys)=os++[{ s with v:=twoV op s.v j.v }]):=hid (by
     rw[HTK.out,<-HOS.out];unfold wItm;rw[hfd];rfl)
    have HJV:Hid (vOk j.v):=hid (HOKI.2 j hj).vok
    clear hfd HFD hj
    go_upto_region 7 with fail
    have HSB:Hid (∀w',BAt w' wo.heap.size [.slice s.a s.n s.c,.string s.tx,.int .i64 s.v] 286->w'.cell? ⟨wo.heap.size,0,none⟩=some (.slice s.a s.n s.c)/\w'.cell? ⟨wo.heap.size,1,none⟩=some (.string s.tx)/\w'.cell? ⟨wo.heap.size,2,none⟩=some (.int .i64 s.v)):=hid (fun w' h1=>⟨h1.cell 0,h1.cell 1,h1.cell 2⟩)
    refine Zcm 11 (fun w'=>w'.cell? ⟨wo.heap.size,0,none⟩=some (.slice s.a s.n s.c)/\w'.cell? ⟨wo.heap.size,1,none⟩=some (.string s.tx)/\w'.cell? ⟨wo.heap.size,2,none⟩=some (.int .i64 s.v)) (by kernel_rfl) (by exact HSB.out _ HX.out) (fun hHeld=>?_)
    refine Zd 0 hHeld (h:=?_)
    refine Zd 1 hHeld (h:=?_)
    refine Zd 2 hHeld (h:=?_)
    refine Zd 3 hHeld (h:=?_)
    refine Zd 4 hHeld (h:=?_)
    refine Zd 5 hHeld (h:=?_)
    refine Zd 6 hHeld (h:=?_)
    refine Zbr (i:=7) (by kernel_rfl) rfl (fun K hK=>?_)
    go_simp
    rw[HOZ.out]
    refine(ZiY op hop s.v j.v HSV.out HJV.out _).mono ?_
    rintro e w5 ⟨rfl,rfl⟩
    rw[<-HOZ.out]
    go_simp
    refine hK.out _ _ (HSB.out _ HX.out) (fun hHeld=>?_)
    clear hK K
    try simp only[Act.put,Zset]
    refine Zd 8 hHeld (h:=?_)
    refine Zbr (i:=9) (by kernel_rfl) rfl (fun K hK=>?_)
    have HBA:Hid (∀o,Below wr.heap.size wr (wr.drew.alloc o)):=hid (fun o=>((Below.refl wr.heap.size wr).drew).alloc (Nat.le_refl _) _)
    go_simp
    refine hK.out _ _ (HSB.out _ (HX.below (HBA.out _))) (fun hHeld=>?_)
    clear hK K
    try simp only[Act.put,Zset]
    refine Zbr (i:=10) (by kernel_rfl) rfl (fun K hK=>?_)
    refine Ze3 rfl (.tmp 26) (.tmp 35) 284 rfl w.heap.size 286 i0 _ 3 48 Tryz.underlying284 hi hz0 hz1 hz2 rfl (by decide) _ os.length (encs os) (by simp[Act.eval]) (Zw hownI (HBA.out _)) ⟨wr.heap.size,0,none⟩ 1 1 [.slice s.a s.n s.c,.string s.tx,.int .i64 (twoV op s.v j.v)] (by simp[Act.eval]) rfl ?h2 ?h3 ?h4 ?h5 ?h6 ?_
    case h2=>exact ZdH rfl
    case h3=>intro u hu;simp at hu;rcases hu with rfl|rfl|rfl <;> rfl
    case h4=>unfold maxLen;omega
    case h5=>omega
    case h6=>simp;omega
    intro v6 w6 hown6 hgrow6 hwhere6
    have hkb:=(Z1.below (HBA.out _) 286).trans (Z1.grown hgrow6 (Zw hownI (HBA.out _)))
    have HNI:Hid ((∀i∈is,ItmOk w6 i)/\∀i∈ys,ItmOk w6 i):=hid ⟨fun i hi=>(HOKI.1 i hi).kb hkb (by decide),fun i hi=>(HOKI.2 i hi).kb hkb (by decide)⟩
    have HB6:Hid (Below w.heap.size w w6):=hid ((HBI.trans ((HBA.out _).mono hwI)).grown hgrow6 (by simp;omega) (fun q hq=>(hownI.lt q hq).1))
    have hown7:w6.ownsRow w.heap.size 286 3 v6 (os++[{ s with v:=twoV op s.v j.v }]).length (encs (os++[{ s with v:=twoV op s.v j.v }])):=by
     rw[ZgQ,List.length_append];exact hown6
    have HX6:Hid (BAt w6 wo.heap.size [.slice s.a s.n s.c,.string s.tx,.int .i64 s.v] 286):=hid ((HX.below (HBA.out _)).grown hgrow6 (fun e=>by have:=HNE.out _ e.symm;omega))
    refine hK.out _ _ (HSB.out _ HX6.out) (fun hHeld=>?_)
    clear hK K
    try simp only[Act.put,Zset]
    refine Zcq (by kernel_rfl) (by kernel_rfl) rfl (by kernel_rfl) (fun K hK=>?_)
    go_simp
    refine hK.out _ _ ?_
    clear hK K hgrow6 hown6 hownI hwhere6 hkb
    go_wp2
    go_roundw
    case rel=>exact⟨k+1,_,by omega,by go_num,by simp;omega,hown7,hid HTK2.symm,HNI,HB6⟩
    case measure=>simp[intOf];omega
   ·have HTK2:Hid (os=(is.take (k+1)).filterMap (wItm op ys)):=hid (by
     rw[HTK.out,<-HOS.out];unfold wItm;rw[hfd];simp)
    clear hfd HFD
    go_wp2
    go_roundw
    case rel=>exact⟨k+1,os,by omega,by go_num,by omega,hownI,HTK2,HOKI,HBI⟩
    case measure=>simp[intOf];omega
  ·obtain rfl:k=is.length:=by omega
   have HVV:Hid (VecV wo _ (l.filterMap (vvF op m)) os):=hid (by
    have e:=HOS.out
    rw[List.take_length]at e
    refine⟨hown.mono (Nat.zero_le _),by rw[e,Zp8 HOK.2 HOK.1,HV.els,HY.els],fun i hi=>?_,by omega⟩
    rw[e]at hi
    obtain⟨z,hz,hzi⟩:=List.mem_filterMap.1 hi
    unfold wItm at hzi
    obtain⟨q,hq,rfl⟩:=Option.map_eq_some_iff.1 hzi
    exact⟨(HOK.1 z hz).lb,Zhn op _ _ (HOK.1 z hz).vok⟩)
   clear hown
   go_wp2
   go_ret
   exact⟨_,_,rfl,HVV,HB.out⟩
theorem asSS(v:Value)(w:World):(Instr.typeAssert (.iface 282 v) 196 282 true).run Tryz.prog w=.ok (.tuple #[v,.bool true]) w:=by kernel_rfl
theorem asVS(v:Value)(w:World):(Instr.typeAssert (.iface 284 v) 196 282 true).run Tryz.prog w=.ok (.tuple #[.int .i64 0,.bool false]) w:=by kernel_rfl
theorem asVV(v:Value)(w:World):(Instr.typeAssert (.iface 284 v) 196 284 true).run Tryz.prog w=.ok (.tuple #[v,.bool true]) w:=by kernel_rfl
theorem Zvg (x : Int) (hx : vOk x) (w : World) : Calls Tryz.prog 197 #[.int .i64 x] w fun e w' => e = .returned (.int .i64 (-x)) /\ Below w.heap.size w w' := by
  unfold vOk at hx
  go_enter Tryz.func197,Tryz.ntmps197
  go_wp2
  go_ret
  exact⟨rfl,Below.refl _ _⟩
theorem ZoF{x:Int}(h:vOk x):vOk (-x):=by unfold vOk at *;omega
theorem Zo1 (v : Value) (V : VV) (w : World) (h : ValP w v V) : Calls Tryz.prog 152 #[v] w fun e w' => ∃ v', e = .returned v' /\ Hid (ValP w' v' (negV V)) /\ Below w.heap.size w w' := by
  cases V with
  | sc n=>
    obtain⟨rfl,hn⟩:=h
    have HN:Hid (vOk (-n)):=hid (ZoF hn)
    have h1:=asSS (.int .i64 n)
    unfold vOk at hn
    go_enter Tryz.func152,Tryz.ntmps152
    go_wp2
    go_ret
    exact⟨_,rfl,hid ⟨rfl,HN.out⟩,Below.refl _ _⟩
  | vec l=>
    obtain⟨s,is,rfl,hv⟩:=h
    have HV:Hid (VecV w s l is):=hv
    have h1:=asVS s
    have h2:=asVV s
    have eg:∀args w,(callFunc 197 args).run Tryz.prog w=.ok (.enter 197 args) w:=enters_of Tryz.func197 (by kernel_rfl) rfl
    have HE:=hid (ZjQ s l is 197 #[] (fun x=>-x) w HV.out eg (fun W _ x hx=>Zvg x hx W) (fun x hx=>ZoF hx))
    clear hv eg
    go_enter Tryz.func152,Tryz.ntmps152
    go_wp2_with (go_at_call 196;refine HE.mono ?_;rintro e w5 ⟨v',is',rfl,HV5,hb5⟩)
    go_ret
    exact⟨_,rfl,hid ⟨v',is',rfl,HV5.out⟩,hb5⟩
theorem ZqW (op : Nat) (hop : op <= 3) (a x : Int) (ha : vOk a) (hx : vOk x) (b1 b2 : Nat) (w : World) (h1 : w.cell? ⟨b1, 0, none⟩ = some (.int .i64 (op + 1 : Nat))) (h2 : w.cell? ⟨b2, 0, none⟩ = some (.int .i64 a)) : Calls Tryz.prog 199 #[.int .i64 x, .pointer (some ⟨b1, 0, none⟩), .pointer (some ⟨b2, 0, none⟩)] w fun e w' => e = .returned (.int .i64 (twoV op a x)) /\ Below w.heap.size w w' := by
  obtain⟨oz,hoz⟩:∃oz:Int,oz=((op+1:Nat):Int):=⟨_,rfl⟩
  rw[<-hoz]at h1
  have HA:Hid (∀W,Calls Tryz.prog 198 #[.int .i64 oz,.int .i64 a,.int .i64 x] W fun e w'=>e=.returned (.int .i64 (twoV op a x))/\w'=W):=hid (fun W=>by rw[hoz];exact ZiY op hop a x ha hx W)
  clear ha hx hoz
  go_enter Tryz.func199,Tryz.ntmps199
  go_wp2_with (go_at_call 198;refine(HA.out _).mono ?_;rintro e w' ⟨rfl,rfl⟩)
  go_ret
  exact⟨rfl,Below.refl _ _⟩
theorem ZqX (op : Nat) (hop : op <= 3) (a x : Int) (ha : vOk a) (hx : vOk x) (b1 b2 : Nat) (w : World) (h1 : w.cell? ⟨b1, 0, none⟩ = some (.int .i64 (op + 1 : Nat))) (h2 : w.cell? ⟨b2, 0, none⟩ = some (.int .i64 a)) : Calls Tryz.prog 200 #[.int .i64 x, .pointer (some ⟨b1, 0, none⟩), .pointer (some ⟨b2, 0, none⟩)] w fun e w' => e = .returned (.int .i64 (twoV op x a)) /\ Below w.heap.size w w' := by
  obtain⟨oz,hoz⟩:∃oz:Int,oz=((op+1:Nat):Int):=⟨_,rfl⟩
  rw[<-hoz]at h1
  have HA:Hid (∀W,Calls Tryz.prog 198 #[.int .i64 oz,.int .i64 x,.int .i64 a] W fun e w'=>e=.returned (.int .i64 (twoV op x a))/\w'=W):=hid (fun W=>by rw[hoz];exact ZiY op hop x a hx ha W)
  clear ha hx hoz
  go_enter Tryz.func200,Tryz.ntmps200
  go_wp2_with (go_at_call 198;refine(HA.out _).mono ?_;rintro e w' ⟨rfl,rfl⟩)
  go_ret
  exact⟨rfl,Below.refl _ _⟩
theorem Zp1(w:World)(x y:Value)(s t:TypeId):BAt ((w.alloc (.cells #[x] s)).alloc (.cells #[y] t)) w.heap.size [x] s/\BAt ((w.alloc (.cells #[x] s)).alloc (.cells #[y] t)) (w.heap.size+1) [y] t:=by
 refine⟨(Zbal.block _ (by simp)).trans (Go.Deep.blk_alloc_new _ _),?_⟩
 have:=Go.Deep.blk_alloc_new (w.alloc (.cells #[x] s)) (.cells #[y] t)
 rw[Go.Deep.nblk_alloc]at this
 exact this
theorem ZoV (op : Nat) (hop : op <= 3) (x y : Value) (X Y : VV) (w : World) (hx : ValP w x X) (hy : ValP w y Y) (hsy : VOk 1000 Y) : Calls Tryz.prog 154 #[.int .i64 (op + 1 : Nat), x, y] w fun e w' => ∃ v', e = .returned v' /\ Hid (ValP w' v' (Zfe op X Y)) /\ Below w.heap.size w w' := by
  obtain⟨oz,hoz⟩:∃oz:Int,oz=((op+1:Nat):Int):=⟨_,rfl⟩
  rw[<-hoz]
  have HOZ:Hid (oz=((op+1:Nat):Int)):=hoz
  clear hoz
  have eg1:∀args w,(callFunc 199 args).run Tryz.prog w=.ok (.enter 199 args) w:=enters_of Tryz.func199 (by kernel_rfl) rfl
  have eg2:∀args w,(callFunc 200 args).run Tryz.prog w=.ok (.enter 200 args) w:=enters_of Tryz.func200 (by kernel_rfl) rfl
  have EG1:Hid _:=hid eg1
  have EG2:Hid _:=hid eg2
  clear eg1 eg2
  cases X with
  | sc a=>
    obtain⟨rfl,ha⟩:=hx
    have h1:=asSS (.int .i64 a)
    cases Y with
    | sc b=>
      obtain⟨rfl,hb⟩:=hy
      have h2:=asSS (.int .i64 b)
      have HA:Hid (∀W,Calls Tryz.prog 198 #[.int .i64 oz,.int .i64 a,.int .i64 b] W fun e w'=>e=.returned (.int .i64 (twoV op a b))/\w'=W):=hid (fun W=>by rw[HOZ.out];exact ZiY op hop a b ha hb W)
      have HVO:Hid (vOk (twoV op a b)):=hid (Zhn op a b ha)
      clear ha hb
      go_enter Tryz.func154,Tryz.ntmps154
      go_wp2_with (go_at_call 198;refine(HA.out _).mono ?_;rintro e w' ⟨rfl,rfl⟩)
      go_ret
      exact⟨_,rfl,hid ⟨rfl,HVO.out⟩,belB⟩
    | vec m=>
      obtain⟨s,is,rfl,hv⟩:=hy
      have HV:Hid (VecV w s m is):=hv
      have HA:Hid (vOk a):=ha
      have h2:=asVS s
      have h3:=asVV s
      clear hv ha
      go_enter Tryz.func154,Tryz.ntmps154
      go_wp2_with fail
      refine ZK fun W hW=>?_
      have hbW:Below w.heap.size w W:=by rw[hW];exact Zbal.alloc (by simp) _
      have HBX:Hid (W.cell? ⟨w.heap.size,0,none⟩=some (.int .i64 oz)/\W.cell? ⟨w.heap.size+1,0,none⟩=some (.int .i64 a)):=hid (by rw[hW];obtain⟨g1,g2⟩:=Zp1 w (.int .i64 oz) (.int .i64 a) 111 282;exact⟨g1.cell 0,g2.cell 0⟩)
      clear hW
      refine(ZjQ s m is 199 #[.pointer (some ⟨w.heap.size,0,none⟩),.pointer (some ⟨w.heap.size+1,0,none⟩)] (fun z=>twoV op a z) W (HV.below hbW) EG1.out (fun W' hW' z hz=>ZqW op hop a z HA.out hz _ _ W' (by rw[<-HOZ.out];exact(Zs.below hW').cell HBX.1) ((Zs.below hW').cell HBX.2)) (fun z _=>Zhn op a z HA.out)).mono ?_
      rintro e w5 ⟨v',is',rfl,HV5,hb5⟩
      have hb6:=hbW.trans (hb5.mono hbW.size)
      go_wp2
      go_ret
      exact⟨_,rfl,hid ⟨v',is',rfl,HV5.out⟩,hb6⟩
  | vec l=>
    obtain⟨s,is,rfl,hv⟩:=hx
    have HV:Hid (VecV w s l is):=hv
    have h1:=asVS s
    have h2:=asVV s
    clear hv
    cases Y with
    | sc b=>
      obtain⟨rfl,hb⟩:=hy
      have h3:=asSS (.int .i64 b)
      have HA:Hid (vOk b):=hb
      clear hb
      go_enter Tryz.func154,Tryz.ntmps154
      go_wp2_with fail
      refine ZK fun W hW=>?_
      have hbW:Below w.heap.size w W:=by rw[hW];exact Zbal.alloc (by simp) _
      have HBX:Hid (W.cell? ⟨w.heap.size,0,none⟩=some (.int .i64 oz)/\W.cell? ⟨w.heap.size+1,0,none⟩=some (.int .i64 b)):=hid (by rw[hW];obtain⟨g1,g2⟩:=Zp1 w (.int .i64 oz) (.int .i64 b) 111 282;exact⟨g1.cell 0,g2.cell 0⟩)
      clear hW
      refine(ZjQ s l is 200 #[.pointer (some ⟨w.heap.size,0,none⟩),.pointer (some ⟨w.heap.size+1,0,none⟩)] (fun z=>twoV op z b) W (HV.below hbW) EG2.out (fun W' hW' z hz=>ZqX op hop b z HA.out hz _ _ W' (by rw[<-HOZ.out];exact(Zs.below hW').cell HBX.1) ((Zs.below hW').cell HBX.2)) (fun z hz=>Zhn op z b hz)).mono ?_
      rintro e w5 ⟨v',is',rfl,HV5,hb5⟩
      have hb6:=hbW.trans (hb5.mono hbW.size)
      go_wp2
      go_ret
      exact⟨_,rfl,hid ⟨v',is',rfl,HV5.out⟩,hb6⟩
    | vec m=>
      obtain⟨s2,is2,rfl,hv2⟩:=hy
      have HV2:Hid (VecV w s2 m is2):=hv2
      have HSM:Hid (Srt m):=hid hsy.1
      have h3:=asVS s2
      have h4:=asVV s2
      clear hv2 hsy
      go_enter Tryz.func154,Tryz.ntmps154
      go_wp2_with fail
      refine ZK fun W hW=>?_
      have hbW:Below w.heap.size w W:=by rw[hW];exact Zbal
      clear hW
      rw[HOZ.out]
      refine(ZzV op hop s s2 l m is is2 W (HV.below hbW) (HV2.below hbW) HSM.out).mono ?_
      rw[<-HOZ.out]
      rintro e w5 ⟨v',is',rfl,HV5,hb5⟩
      have hb6:=hbW.trans (hb5.mono hbW.size)
      have HV6:Hid (ValP w5 (.iface 284 v') (Zfe op (.vec l) (.vec m))):=hid (by rw[Zl0 op l m HSM.out];exact⟨v',is',rfl,HV5.out⟩)
      go_wp2
      go_ret
      exact⟨_,rfl,HV6,hb6⟩
section
variable {w0 w w' w1 w2:World} {X:GX} {nv uv sv rv nv' uv' sv' rv':Value} {sl sl':List SelC} {rl rl':List RowC} {g g':Gq} {T:TypeId} {x n:Nat}
def GW(w0 w:World)(X:GX)(g:Gq):Prop:=∃nv uv sv rv sl rl,GI w0 w X nv uv sv rv sl rl g
theorem GP.gw(h:GP w0 w w' X g):GW w0 w' X g:=by obtain⟨a,b,c,d,e,f,h1,_⟩:=h;exact⟨a,b,c,d,e,f,h1⟩
theorem GP.kt(h:GP w0 w w' X g):KT w w':=by obtain⟨a,b,c,d,e,f,_,h1⟩:=h;exact h1
theorem GW.below(h:GW w0 w X g)(hb:Below w.heap.size w w'):GW w0 w' X g:=by obtain⟨a,b,c,d,e,f,h1⟩:=h;exact⟨a,b,c,d,e,f,h1.below hb⟩
theorem GW.add(h:GW w0 w X g)(z:Nq)(hz:NOne g.nodes.length z)(hl:g.nodes.length<=500000) :
  Calls Tryz.prog 120 #[.pointer (some ⟨X.gb,0,none⟩),.agg #[.int .i64 z.op,.int .i64 z.arg,.int .i64 (nI z.fs),.int .i64 (nI z.sn)]] w fun e w'=>e=.returned (.int .i64 ((addQ z g).1:Nat))/\Hid (GP w0 w w' X (addQ z g).2):=by
 obtain⟨a,b,c,d,e,f,h1⟩:=h
 exact ZqP h1 z hz hl
theorem GW.nok(h:GW w0 w X g):NOk g.nodes:=by obtain⟨a,b,c,d,e,f,h1⟩:=h;exact h1.nok
theorem ZoN{v:Int}(h:vOk v)(n:Nat):NOne n ⟨0,v,none,none⟩:=⟨fun t ht=>(by cases ht),fun _=>rfl,fun h=>(by cases h),fun h=>(by cases h),Nat.zero_le _,⟨h.1,h.2⟩,fun h=>absurd rfl h⟩
theorem ZfR{op:Nat}{arg:Int}{a n:Nat}(ho:op<=9)(ha:a<n)(h0:0<=arg)(h1:arg<=1000000000):NOne n ⟨op,arg,some a,none⟩:=⟨fun t ht=>by simp[Zg]at ht;omega,fun h=>(by cases h),fun _=>⟨a,rfl⟩,fun h=>by have:op=10:=h;omega,by show op<=10;omega,⟨by show -1000000000<=arg;omega,h1⟩,fun _=>h0⟩
theorem Zg6{op:Nat}{arg:Int}{a b n:Nat}(ho:op<=10)(ha:a<n)(hb:b<n)(h0:0<=arg)(h1:arg<=1000000000):NOne n ⟨op,arg,some a,some b⟩:=⟨fun t ht=>by simp[Zg]at ht;omega,fun h=>(by cases h),fun _=>⟨a,rfl⟩,fun _=>⟨a,b,rfl,rfl⟩,ho,⟨by show -1000000000<=arg;omega,h1⟩,fun _=>h0⟩
theorem Zio{op:Nat}{arg:Int}{n:Nat}(ho:op<=3)(h0:0<=arg)(h1:arg<=1000000000):NOne n ⟨op,arg,none,none⟩:=⟨fun t ht=>(by cases ht),fun _=>rfl,fun h=>by have:op=4:=h;omega,fun h=>by have:op=10:=h;omega,by show op<=10;omega,⟨by show -1000000000<=arg;omega,h1⟩,fun _=>h0⟩
theorem ZmA(h:GW w0 w X g){v:Int}(hv:vOk v)(hl:g.nodes.length<=500000) :
  Calls Tryz.prog 117 #[.pointer (some ⟨X.gb,0,none⟩),.int .i64 v] w fun e w'=>e=.returned (.int .i64 ((Zcf v g).1:Nat))/\Hid (GP w0 w w' X (Zcf v g).2):=by
 have HA:=hid (h.add ⟨0,v,none,none⟩ (ZoN hv _) hl)
 unfold Zcf
 clear h
 simp only[nI]at HA
 go_enter Tryz.func117,Tryz.ntmps117
 go_wp2_with fail
 refine HA.mono ?_
 rintro e w1 ⟨rfl,HP⟩
 go_wp2
 go_ret
 exact⟨rfl,HP⟩
theorem GW.node(h:GW w0 w X g){n:Nat}(hn:n<g.nodes.length):∃nb nc,w.cell? ⟨X.gb,2,none⟩=some (.slice (some ⟨nb,0,none⟩) g.nodes.length nc)/\w.cell? ⟨X.gb,0,none⟩=some (.bool g.fold)/\X.gb<w.heap.size/\nb<w.heap.size/\w.cell? ⟨nb,n*4,none⟩=some (.int .i64 (g.nodes.getD n nq0).op)/\w.cell? ⟨nb,n*4+1,none⟩=some (.int .i64 (g.nodes.getD n nq0).arg)/\w.cell? ⟨nb,n*4+2,none⟩=some (.int .i64 (nI (g.nodes.getD n nq0).fs))/\w.cell? ⟨nb,n*4+3,none⟩=some (.int .i64 (nI (g.nodes.getD n nq0).sn)):=by
 obtain⟨nv,uv,sv,rv,sl,rl,h1⟩:=h
 obtain⟨f,hj,_⟩:=h1.j
 obtain⟨nb,nc,hnv⟩:=ZW hj.nod (by omega)
 subst hnv
 have q : ∀ j, j < 4 -> (g.nodes.flatMap nodC)[n * 4 + j]? = (nodC (g.nodes.getD n nq0))[j]? := fun j hj => by
   rw[ZfF nodC 4 (fun _=>rfl) g.nodes n j hn hj];simp[hn]
 exact⟨nb,nc,hj.box.cell 2,hj.box.cell 0,hj.box.lt,Zbq hj.nod,Zr hj.nod _ _ (q 0 (by decide)),Zr hj.nod _ _ (q 1 (by decide)),Zr hj.nod _ _ (q 2 (by decide)),Zr hj.nod _ _ (q 3 (by decide))⟩
theorem Zkk(h:GW w0 w X g)(n:Nat)(hn:n<g.nodes.length) :
  Calls Tryz.prog 177 #[.pointer (some ⟨X.gb,0,none⟩),.int .i64 n] w fun e w'=>e=.returned (.tuple #[.int .i64 (g.nodes.getD n nq0).arg,.bool (Zbh n g).isSome])/\Below w.heap.size w w':=by
 obtain⟨nb,nc,b2,b0,hgl,hnl,q0,q1,q2,q3⟩:=h.node hn
 have HQ:Hid ((Zbh n g).isSome=(g.fold && decide ((g.nodes.getD n nq0).op=0))):=hid (by
  unfold Zbh
  generalize g.nodes.getD n nq0=z
  generalize g.fold=fo
  cases fo <;> by_cases h2:z.op=0 <;> simp[h2])
 have hnz:(n:Int)<g.nodes.length:=by omega
 generalize g.nodes.getD n nq0=z at *
 generalize g.nodes.length=L at *
 generalize(Zbh n g).isSome=r at *
 generalize g.fold=fo at *
 generalize nI z.fs=z2 at *
 generalize nI z.sn=z3 at *
 clear h
 go_enter Tryz.func177,Tryz.ntmps177
 cases fo with
 | false=>
  go_upto_region 2 with fail
  go_region
  go_wp2
  go_ret2
  exact⟨by rw[HQ.out];rfl,belB⟩
 | true=>
  go_upto_region 2 with fail
  go_region
  go_wp2
  go_ret2
  refine⟨?_,belB⟩
  rw[HQ.out,show decide (z.op=0)=((z.op:Int) == 0) by rw[Bool.eq_iff_iff];simp]
  rfl
theorem Zh9{v:Int}(h:Zbh n g=some v):v=(g.nodes.getD n nq0).arg:=by
 unfold Zbh at h
 split at h
 ·injection h with h;exact h.symm
 ·cases h
theorem NOk.vok(h:NOk g.nodes)(hn:n<g.nodes.length):vOk (g.nodes.getD n nq0).arg:=by
 have:=(h n hn).ar
 simpa [hn,vOk] using this
theorem Znh(h:GW w0 w X g){v:Int}(hv:vOk v)(hl:g.nodes.length<=500000) :
  Calls Tryz.prog 178 #[.pointer (some ⟨X.gb,0,none⟩),.iface 282 (.int .i64 v)] w fun e w'=>e=.returned (.int .i64 ((Zcf v g).1:Nat))/\Hid (GP w0 w w' X (Zcf v g).2):=by
 have HA:=hid (ZmA h hv hl)
 have h1:=asSS (.int .i64 v)
 clear h
 go_enter Tryz.func178,Tryz.ntmps178
 go_wp2_with fail
 refine HA.mono ?_
 rintro e w1 ⟨rfl,HP⟩
 go_wp2
 go_ret
 exact⟨rfl,HP⟩
theorem ZrJ(h:GW w0 w X g)(n:Nat)(hn:n<g.nodes.length)(hl:g.nodes.length<=500000) :
  Calls Tryz.prog 118 #[.pointer (some ⟨X.gb,0,none⟩),.int .i64 n] w fun e w'=>e=.returned (.int .i64 ((negQ n g).1:Nat))/\Hid (GP w0 w w' X (negQ n g).2):=by
 have HG:=hid h
 have HK:=hid (Zkk h n hn)
 have HV:=hid (h.nok.vok hn)
 clear h
 go_enter Tryz.func118,Tryz.ntmps118
 go_wp2_with fail
 refine HK.mono ?_
 rintro e w1 ⟨rfl,hb1⟩
 have HG1:=hid (HG.below hb1)
 have HK1:=hid (KT.below hb1)
 clear HK hb1 HG
 cases hq:Zbh n g with
 | some v=>
  have hv:=Zh9 hq
  have HQ:Hid (negQ n g=Zcf (-v) g):=hid (by unfold negQ;rw[hq])
  rw[<-hv]at HV ⊢
  simp only[Option.isSome_some]
  clear hq hv
  go_wp2_with fail
  refine(Zo1 (.iface 282 (.int .i64 v)) (.sc v) w1 ⟨rfl,HV.out⟩).mono ?_
  rintro e w2 ⟨v2,rfl,HP2,hb2⟩
  obtain⟨hv2,hvo⟩:=HP2.out
  subst hv2
  have HF:=hid (Znh (HG1.below hb2) hvo hl)
  have HK2:=hid (HK1.trans (KT.below hb2))
  clear HP2 hb2
  go_wp2_with fail
  refine HF.mono ?_
  rintro e w3 ⟨rfl,HP3⟩
  go_wp2
  go_ret
  rw[HQ.out]
  exact⟨rfl,hid (GP.step HK2.out HP3.out)⟩
 | none=>
  have HQ:Hid (negQ n g=addQ ⟨4,0,some n,none⟩ g):=hid (by unfold negQ;rw[hq])
  simp only[Option.isSome_none]
  have HA:=hid (HG1.add ⟨4,0,some n,none⟩ (ZfR (by decide) hn (by decide) (by decide)) hl)
  simp only[nI]at HA
  clear hq
  go_wp2_with fail
  refine HA.mono ?_
  rintro e w3 ⟨rfl,HP3⟩
  go_wp2
  go_ret
  rw[HQ.out]
  exact⟨rfl,hid (GP.step HK1.out HP3.out)⟩
def Zfo(o x y:Nat)(g:Gq):Nat×Gq:=if o=0 then addQ ⟨10,0,some x,some y⟩ g else Z0 (o - 1) x y g
theorem Zsb(h:GW w0 w X g)(o x y:Nat)(ho:o<=4)(hx:x<g.nodes.length)(hy:y<g.nodes.length)(hl:g.nodes.length<=500000) :
  Calls Tryz.prog 119 #[.pointer (some ⟨X.gb,0,none⟩),.int .i64 o,.int .i64 x,.int .i64 y] w fun e w'=>e=.returned (.int .i64 ((Zfo o x y g).1:Nat))/\Hid (GP w0 w w' X (Zfo o x y g).2):=by
 by_cases h0:o=0
 ·subst h0
  have HA:=hid (h.add ⟨10,0,some x,some y⟩ (Zg6 (by decide) hx hy (by decide) (by decide)) hl)
  have HQ:Hid (Zfo 0 x y g=addQ ⟨10,0,some x,some y⟩ g):=hid rfl
  simp only[nI]at HA
  clear h
  go_enter Tryz.func119,Tryz.ntmps119
  go_wp2_with fail
  refine HA.mono ?_
  rintro e w3 ⟨rfl,HP3⟩
  go_wp2
  go_ret
  rw[HQ.out]
  exact⟨rfl,HP3⟩
 ·obtain⟨p,rfl⟩:∃p,o=p+1:=⟨o - 1,by omega⟩
  have HQ:Hid (Zfo (p+1) x y g=Z0 p x y g):=hid (by unfold Zfo;rw[if_neg h0];rfl)
  have hoz:((p+1:Nat):Int)≠0:=by omega
  have HG:=hid h
  have HVX:=hid (h.nok.vok hx)
  have HVY:=hid (h.nok.vok hy)
  clear h h0
  have hsub:IntKind.i64.wrap (((p+1:Nat):Int) - 1)=p:=by rw[IntKind.wrap_i64];omega
  obtain⟨oz,hozd⟩:∃oz:Int,oz=((p+1:Nat):Int):=⟨_,rfl⟩
  rw[<-hozd]at hsub hoz ⊢
  have HOZ:=hid hozd
  clear hozd
  have HKX:=hid (Zkk HG.out x hx)
  obtain⟨ax,hax⟩:∃ax,ax=(g.nodes.getD x nq0).arg:=⟨_,rfl⟩
  obtain⟨ay,hay⟩:∃ay,ay=(g.nodes.getD y nq0).arg:=⟨_,rfl⟩
  rw[<-hax]at HKX HVX
  rw[<-hay]at HVY
  have HAX:=hid hax
  have HAY:=hid hay
  clear hax hay
  go_enter Tryz.func119,Tryz.ntmps119
  go_wp2_with fail
  refine HKX.mono ?_
  rintro e w1 ⟨rfl,hb1⟩
  have HG1:=hid (HG.below hb1)
  have HK1:=hid (KT.below hb1)
  clear HKX hb1 HG
  have HKY:=hid (Zkk HG1.out y hy)
  rw[<-HAY.out]at HKY
  go_wp2_with fail
  refine HKY.mono ?_
  rintro e w2 ⟨rfl,hb2⟩
  have HG2:=hid (HG1.below hb2)
  have HK2:=hid (HK1.trans (KT.below hb2))
  clear HKY hb2 HG1 HK1
  have HADD:Hid (Calls Tryz.prog _ _ w2 _):=hid (HG2.add ⟨3,p,some x,some y⟩ (Zg6 (by decide) hx hy (by omega) (by omega)) hl)
  simp only[nI]at HADD
  cases hqx:Zbh x g with
  | none=>
   have HQ2:Hid (Z0 p x y g=addQ ⟨3,p,some x,some y⟩ g):=hid (by unfold Z0;rw[hqx])
   simp only[Option.isSome_none]
   go_wp2_with fail
   refine HADD.mono ?_
   rintro e w3 ⟨rfl,HP3⟩
   go_wp2
   go_ret
   rw[HQ.out,HQ2.out]
   exact⟨rfl,hid (GP.step HK2.out HP3.out)⟩
  | some u=>
   cases hqy:Zbh y g with
   | none=>
    have HQ2:Hid (Z0 p x y g=addQ ⟨3,p,some x,some y⟩ g):=hid (by unfold Z0;rw[hqx,hqy])
    simp only[Option.isSome_none,Option.isSome_some]
    go_wp2_with fail
    refine HADD.mono ?_
    rintro e w3 ⟨rfl,HP3⟩
    go_wp2
    go_ret
    rw[HQ.out,HQ2.out]
    exact⟨rfl,hid (GP.step HK2.out HP3.out)⟩
   | some v=>
    have HQ2:Hid (Z0 p x y g=Zcf (twoV p u v) g):=hid (by unfold Z0;rw[hqx,hqy])
    have hu:=(Zh9 hqx).trans HAX.symm
    have hv:=(Zh9 hqy).trans HAY.symm
    subst hu hv
    simp only[Option.isSome_some]
    clear hqx hqy HADD HAX HAY
    have HAR:=hid (ZoV p (by omega) (.iface 282 (.int .i64 u)) (.iface 282 (.int .i64 v)) (.sc u) (.sc v) w2 ⟨rfl,HVX.out⟩ ⟨rfl,HVY.out⟩ trivial)
    rw[<-HOZ.out]at HAR
    go_wp2_with fail
    refine HAR.mono ?_
    rintro e w3 ⟨v3,rfl,HP3,hb3⟩
    obtain⟨hv3,hvo⟩:=HP3.out
    subst hv3
    have HF:=hid (Znh (HG2.below hb3) hvo hl)
    have HK3:=hid (HK2.trans (KT.below hb3))
    clear HP3 hb3 HAR
    go_wp2_with fail
    refine HF.mono ?_
    rintro e w4 ⟨rfl,HP4⟩
    go_wp2
    go_ret
    rw[HQ.out,HQ2.out]
    exact⟨rfl,hid (GP.step HK3.out HP4.out)⟩
end
end Go.Proofs.YtcdgkkfipdoeeaaGreatDoor
namespace Go.Proofs.YtcdgkkfipdoeeaaGreatDoor
open Go.RowKit LS
theorem Zgp(v:Value)(w:World):(Instr.typeAssert (.iface 119 v) 44 119 true).run Tryz.prog w=.ok (.tuple #[v,.bool true]) w:=by kernel_rfl
theorem Zji(v:Value)(w:World):(Instr.typeAssert (.iface 119 v) 44 121 true).run Tryz.prog w=.ok (.tuple #[.agg #[.nilIface],.bool false]) w:=by kernel_rfl
theorem Zjj(v:Value)(w:World):(Instr.typeAssert (.iface 119 v) 44 116 true).run Tryz.prog w=.ok (.tuple #[.agg #[.int .i64 0,.nilIface,.nilIface],.bool false]) w:=by kernel_rfl
theorem Zjh(v:Value)(w:World):(Instr.typeAssert (.iface 119 v) 44 124 true).run Tryz.prog w=.ok (.tuple #[.agg #[.string ByteArray.empty,.slice none 0 0,.nilIface],.bool false]) w:=by kernel_rfl
theorem Zjl(v:Value)(w:World):(Instr.typeAssert (.iface 119 v) 44 150 true).run Tryz.prog w=.ok (.tuple #[.agg #[.string ByteArray.empty,.string ByteArray.empty,.slice none 0 0,.int .i64 0],.bool false]) w:=by kernel_rfl
theorem Zjk(v:Value)(w:World):(Instr.typeAssert (.iface 119 v) 44 148 true).run Tryz.prog w=.ok (.tuple #[.agg #[.string ByteArray.empty,.slice none 0 0],.bool false]) w:=by kernel_rfl
theorem Zgo(v:Value)(w:World):(Instr.typeAssert (.iface 121 v) 44 119 true).run Tryz.prog w=.ok (.tuple #[.agg #[.int .i64 0],.bool false]) w:=by kernel_rfl
theorem Zgn(v:Value)(w:World):(Instr.typeAssert (.iface 121 v) 44 121 true).run Tryz.prog w=.ok (.tuple #[v,.bool true]) w:=by kernel_rfl
theorem Zje(v:Value)(w:World):(Instr.typeAssert (.iface 121 v) 44 116 true).run Tryz.prog w=.ok (.tuple #[.agg #[.int .i64 0,.nilIface,.nilIface],.bool false]) w:=by kernel_rfl
theorem Zjd(v:Value)(w:World):(Instr.typeAssert (.iface 121 v) 44 124 true).run Tryz.prog w=.ok (.tuple #[.agg #[.string ByteArray.empty,.slice none 0 0,.nilIface],.bool false]) w:=by kernel_rfl
theorem Zjg(v:Value)(w:World):(Instr.typeAssert (.iface 121 v) 44 150 true).run Tryz.prog w=.ok (.tuple #[.agg #[.string ByteArray.empty,.string ByteArray.empty,.slice none 0 0,.int .i64 0],.bool false]) w:=by kernel_rfl
theorem Zjf(v:Value)(w:World):(Instr.typeAssert (.iface 121 v) 44 148 true).run Tryz.prog w=.ok (.tuple #[.agg #[.string ByteArray.empty,.slice none 0 0],.bool false]) w:=by kernel_rfl
theorem Zfy(v:Value)(w:World):(Instr.typeAssert (.iface 116 v) 44 119 true).run Tryz.prog w=.ok (.tuple #[.agg #[.int .i64 0],.bool false]) w:=by kernel_rfl
theorem Zfx(v:Value)(w:World):(Instr.typeAssert (.iface 116 v) 44 121 true).run Tryz.prog w=.ok (.tuple #[.agg #[.nilIface],.bool false]) w:=by kernel_rfl
theorem Zfz(v:Value)(w:World):(Instr.typeAssert (.iface 116 v) 44 116 true).run Tryz.prog w=.ok (.tuple #[v,.bool true]) w:=by kernel_rfl
theorem Zjm(v:Value)(w:World):(Instr.typeAssert (.iface 116 v) 44 124 true).run Tryz.prog w=.ok (.tuple #[.agg #[.string ByteArray.empty,.slice none 0 0,.nilIface],.bool false]) w:=by kernel_rfl
theorem Zjo(v:Value)(w:World):(Instr.typeAssert (.iface 116 v) 44 150 true).run Tryz.prog w=.ok (.tuple #[.agg #[.string ByteArray.empty,.string ByteArray.empty,.slice none 0 0,.int .i64 0],.bool false]) w:=by kernel_rfl
theorem Zjn(v:Value)(w:World):(Instr.typeAssert (.iface 116 v) 44 148 true).run Tryz.prog w=.ok (.tuple #[.agg #[.string ByteArray.empty,.slice none 0 0],.bool false]) w:=by kernel_rfl
theorem Zgl(v:Value)(w:World):(Instr.typeAssert (.iface 124 v) 44 119 true).run Tryz.prog w=.ok (.tuple #[.agg #[.int .i64 0],.bool false]) w:=by kernel_rfl
theorem Zgk(v:Value)(w:World):(Instr.typeAssert (.iface 124 v) 44 121 true).run Tryz.prog w=.ok (.tuple #[.agg #[.nilIface],.bool false]) w:=by kernel_rfl
theorem Zgm(v:Value)(w:World):(Instr.typeAssert (.iface 124 v) 44 116 true).run Tryz.prog w=.ok (.tuple #[.agg #[.int .i64 0,.nilIface,.nilIface],.bool false]) w:=by kernel_rfl
theorem Zgj(v:Value)(w:World):(Instr.typeAssert (.iface 124 v) 44 124 true).run Tryz.prog w=.ok (.tuple #[v,.bool true]) w:=by kernel_rfl
theorem Zjc(v:Value)(w:World):(Instr.typeAssert (.iface 124 v) 44 150 true).run Tryz.prog w=.ok (.tuple #[.agg #[.string ByteArray.empty,.string ByteArray.empty,.slice none 0 0,.int .i64 0],.bool false]) w:=by kernel_rfl
theorem Zjb(v:Value)(w:World):(Instr.typeAssert (.iface 124 v) 44 148 true).run Tryz.prog w=.ok (.tuple #[.agg #[.string ByteArray.empty,.slice none 0 0],.bool false]) w:=by kernel_rfl
theorem Zgy(v:Value)(w:World):(Instr.typeAssert (.iface 150 v) 44 119 true).run Tryz.prog w=.ok (.tuple #[.agg #[.int .i64 0],.bool false]) w:=by kernel_rfl
theorem Zgx(v:Value)(w:World):(Instr.typeAssert (.iface 150 v) 44 121 true).run Tryz.prog w=.ok (.tuple #[.agg #[.nilIface],.bool false]) w:=by kernel_rfl
theorem Zgz(v:Value)(w:World):(Instr.typeAssert (.iface 150 v) 44 116 true).run Tryz.prog w=.ok (.tuple #[.agg #[.int .i64 0,.nilIface,.nilIface],.bool false]) w:=by kernel_rfl
theorem Zgw(v:Value)(w:World):(Instr.typeAssert (.iface 150 v) 44 124 true).run Tryz.prog w=.ok (.tuple #[.agg #[.string ByteArray.empty,.slice none 0 0,.nilIface],.bool false]) w:=by kernel_rfl
theorem ZgA(v:Value)(w:World):(Instr.typeAssert (.iface 150 v) 44 150 true).run Tryz.prog w=.ok (.tuple #[v,.bool true]) w:=by kernel_rfl
theorem Zjp(v:Value)(w:World):(Instr.typeAssert (.iface 150 v) 44 148 true).run Tryz.prog w=.ok (.tuple #[.agg #[.string ByteArray.empty,.slice none 0 0],.bool false]) w:=by kernel_rfl
theorem Zgs(v:Value)(w:World):(Instr.typeAssert (.iface 148 v) 44 119 true).run Tryz.prog w=.ok (.tuple #[.agg #[.int .i64 0],.bool false]) w:=by kernel_rfl
theorem Zgr(v:Value)(w:World):(Instr.typeAssert (.iface 148 v) 44 121 true).run Tryz.prog w=.ok (.tuple #[.agg #[.nilIface],.bool false]) w:=by kernel_rfl
theorem Zgt(v:Value)(w:World):(Instr.typeAssert (.iface 148 v) 44 116 true).run Tryz.prog w=.ok (.tuple #[.agg #[.int .i64 0,.nilIface,.nilIface],.bool false]) w:=by kernel_rfl
theorem Zgq(v:Value)(w:World):(Instr.typeAssert (.iface 148 v) 44 124 true).run Tryz.prog w=.ok (.tuple #[.agg #[.string ByteArray.empty,.slice none 0 0,.nilIface],.bool false]) w:=by kernel_rfl
theorem Zgv(v:Value)(w:World):(Instr.typeAssert (.iface 148 v) 44 150 true).run Tryz.prog w=.ok (.tuple #[.agg #[.string ByteArray.empty,.string ByteArray.empty,.slice none 0 0,.int .i64 0],.bool false]) w:=by kernel_rfl
theorem Zgu(v:Value)(w:World):(Instr.typeAssert (.iface 148 v) 44 148 true).run Tryz.prog w=.ok (.tuple #[v,.bool true]) w:=by kernel_rfl
end Go.Proofs.YtcdgkkfipdoeeaaGreatDoor
