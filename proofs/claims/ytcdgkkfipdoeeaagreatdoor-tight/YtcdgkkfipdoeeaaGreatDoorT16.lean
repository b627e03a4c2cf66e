/- Parts. -/
import Derived.Test.YtcdgkkfipdoeeaaGreatDoorT15
import Derived.Test.YtcdgkkfipdoeeaaGreatDoorT05
import Derived.Test.YtcdgkkfipdoeeaaGreatDoorT04
import Derived.Test.YtcdgkkfipdoeeaaGreatDoorT12
import Derived.Shelf.SlGeneric
import Derived.Shelf.SlSortCmp.WholeK
import Derived.Ground.SlsfProg
import Derived.Test.YtcdgkkfipdoeeaaGreatDoorProg
import Derived.Test.YtcdgkkfipdoeeaaGreatDoorTX
import Derived.Deep.RegionHeld3
import Derived.Deep.DrawnRows
set_option maxRecDepth 100000
set_option maxHeartbeats 4000000
namespace Go.Proofs.YtcdgkkfipdoeeaaGreatDoor
open Go.RowKit LS
structure Str where
 a:Option Addr
 n:Nat
 c:Nat
 tx:ByteArray
 qs:List (ByteArray×ByteArray)
 sa:Option Addr
 sc:Nat
 sams:List (Int×Int)
def Str.enc(s:Str):List Value:=[.slice s.a s.n s.c,.string s.tx,.slice s.sa s.sams.length s.sc]
def Str.pr(s:Str):List Lab×List (Int×Int):=(s.qs.map blP,s.sams)
structure StrOk (w:World) (s:Str):Prop where
 lb:LbOk w s.a s.n s.c s.tx s.qs
 sam:SamV w s.sa s.sams
 ne:s.sams≠[]
 len:s.sams.length<=6001
 ok:∀x∈s.sams,smOk x
theorem StrOk.kb{t:TypeId}{w w':World}{s:Str}(h:StrOk w s)(hk:Z1 t w w')(h1:378≠t)(h2:358≠t):StrOk w' s:=⟨h.lb.kb hk h1,h.sam.kb hk h2,h.ne,h.len,h.ok⟩
theorem StrOk.keepsC{w w':World}{s:Str}(h:StrOk w s)(hk:Zs w w'):StrOk w' s:=⟨h.lb.keepsC hk,h.sam.keepsC hk,h.ne,h.len,h.ok⟩
def encR(l:List Str):List Value:=(l.map Str.enc).flatten
theorem Zsv(l m:List Str):encR (l++m)=encR l++encR m:=by unfold encR;rw[List.map_append,List.flatten_append]
theorem ZmQ(l:List Str)(j:Nat)(hj:j<l.length):(encR l)[j*3]?=some (.slice l[j].a l[j].n l[j].c)/\(encR l)[j*3+1]?=some (.string l[j].tx)/\(encR l)[j*3+2]?=some (.slice l[j].sa l[j].sams.length l[j].sc):=by
 induction l generalizing j with
 | nil=>simp at hj
 | cons a l ih=>
  have e:encR (a::l)=.slice a.a a.n a.c::.string a.tx::.slice a.sa a.sams.length a.sc::encR l:=rfl
  cases j with
  | zero=>rw[e];exact⟨rfl,rfl,rfl⟩
  | succ j=>
   have h:=ih j (by simpa using hj)
   rw[e,show(j+1)*3=j*3+1+1+1 by omega]
   simpa using h
structure RngV (w:World) (v:Value) (rs:List Str):Prop where
 row:w.ownsRow 0 356 3 v rs.length (encR rs)
 ok:∀s∈rs,StrOk w s
theorem RngV.keepsC{w w':World}{v:Value}{rs:List Str}(h:RngV w v rs)(hk:Zs w w'):RngV w' v rs:=⟨hk.own h.row,fun s hs=>(h.ok s hs).keepsC hk⟩
theorem RngV.below{w w':World}{v:Value}{rs:List Str}(h:RngV w v rs)(hb:Below w.heap.size w w'):RngV w' v rs:=h.keepsC (Zs.below hb)
def Zbx(st:List Ser)(a:Nd)(n t:Int):List (List Lab×List (Int×Int)):=(st.filter fun s=>Zct a s && !(ZbI s.sams n t).isEmpty).map fun s=>(s.labs,ZbI s.sams n t)
theorem ZwF(st:List Ser)(s:Ser)(a:Nd)(n t:Int):Zbx (st++[s]) a n t=if Zct a s && !(ZbI s.sams n t).isEmpty then Zbx st a n t++[(s.labs,ZbI s.sams n t)] else Zbx st a n t:=by
 unfold Zbx
 rw[List.filter_append,List.map_append]
 split
 ·rename_i h;rw[List.filter_cons_of_pos (by simpa using h)];rfl
 ·rename_i h;rw[List.filter_cons_of_neg (by simpa using h)];simp
theorem Zo4(st:List Ser)(a:Nd)(n t:Int):(Zbx st a n t).length<=st.length:=by
 unfold Zbx;rw[List.length_map];exact List.length_filter_le _ _
theorem Zwk (st : List Ser) (a : Nd) (op : Option Nat) (n t : Int) : ZdO st a op n t = (Zbx st a n t).map fun p => (p.1, oneV op p.2) := by
  unfold ZdO Zbx;rw[List.map_map];rfl
def encS(l:List Srs):List Value:=(l.map Srs.enc).flatten
theorem Zsw(l:List Srs)(j:Nat)(hj:j<l.length):(encS l)[j*4]?=some (.string l[j].nm)/\(encS l)[j*4+1]?=some (.slice l[j].a l[j].n l[j].c)/\(encS l)[j*4+2]?=some (.string l[j].tx)/\(encS l)[j*4+3]?=some (.slice l[j].sa l[j].sams.length l[j].sc):=by
 induction l generalizing j with
 | nil=>simp at hj
 | cons a l ih=>
  have e:encS (a::l)=.string a.nm::.slice a.a a.n a.c::.string a.tx::.slice a.sa a.sams.length a.sc::encS l:=rfl
  cases j with
  | zero=>rw[e];exact⟨rfl,rfl,rfl,rfl⟩
  | succ j=>
   have h:=ih j (by simpa using hj)
   rw[e,show(j+1)*4=j*4+1+1+1+1 by omega]
   simpa using h
structure StoP (w:World) (v:Value) (ss:List Srs):Prop where
 row:w.ownsRow 0 271 4 v ss.length (encS ss)
 ok:∀s∈ss,SrsOk w s
 len:ss.length<=30
theorem StoP.keepsC{w w':World}{v:Value}{ss:List Srs}(h:StoP w v ss)(hk:Zs w w'):StoP w' v ss:=⟨hk.own h.row,fun s hs=>(h.ok s hs).keepsC hk,h.len⟩
theorem StoP.below{w w':World}{v:Value}{ss:List Srs}(h:StoP w v ss)(hb:Below w.heap.size w w'):StoP w' v ss:=h.keepsC (Zs.below hb)
theorem Tryz.infoStretch:(Tryz.prog.info? 356).map (fun i=>(i.zero,i.size,i.bytes))=some (some (.agg #[.slice none 0 0,.string ByteArray.empty,.slice none 0 0]),3,64):=by kernel_rfl
theorem Zo2(sv:Value)(ss:List Srs)(nm:ByteArray)(la:Option Addr)(ln lc:Nat)(nd:Nd)(n t:Int)(w:World)(hst:StoP w sv ss)(hnm:bl nm=nd.name)(hc:ZI w (.slice la ln lc) nd.conds)(hn0:0<=n)(hn1:n<=1000)(ht0 : -1000000<=t)(ht1:t<=1000000) :
  Calls Tryz.prog 160 #[sv,.agg #[.string nm,.slice la ln lc],.int .i64 n,.int .i64 t] w fun e w'=>∃v rs,e=.returned v/\Hid (RngV w' v rs/\rs.map Str.pr=Zbx (ss.map Srs.ser) nd n t)/\Below w.heap.size w w':=by
 obtain⟨i0,hi,hz0,hz1,hz2⟩:=info_parts Tryz.infoStretch
 obtain⟨sa,scp,rfl⟩:=Zv hst.row
 have HST:Hid (StoP w (.slice sa ss.length scp) ss):=hst
 have hss:ss.length<=30:=hst.len
 have HNM:Hid (bl nm=nd.name):=hnm
 have HC:Hid (ZI w (.slice la ln lc) nd.conds):=hc
 clear hst hnm hc
 go_enter Tryz.func160,Tryz.ntmps160
 go_wp2
 go_loopw [9, 15] (fun v i wr => ∃ (k : Nat) (rs : List Str), k <= ss.length /\ i = .int .i64 k /\ rs.length <= k /\ wr.ownsRow (w.heap.size + 1) 356 3 v rs.length (encR rs) /\ Hid ((∀ s ∈ rs, StrOk wr s) /\ rs.map Str.pr = Zbx ((ss.take k).map Srs.ser) nd n t) /\ Hid (BAt wr w.heap.size [.string nm, .slice la ln lc] 148) /\ Hid (Below w.heap.size w wr))
   (fun _ i _=>ss.length - (intOf i).toNat)
 case atStart=>exact⟨0,[],Nat.zero_le _,rfl,Nat.zero_le _,World.ownsRow_nil _ _ _ _,hid ⟨(by intro s hs;cases hs),by simp[Zbx]⟩,hid (Go.Deep.blk_alloc_new w _),hid Zbal⟩
 case round=>
  obtain⟨k,rs,hk,rfl,hrk,hown,HR,HBX,HB⟩:=hrel
  by_cases hlt:k<ss.length
  ·have hg:∃g,sa=some ⟨g,0,none⟩:=by
    obtain⟨g,cp',h⟩:=ZW HST.row (by omega)
    injection h with h1;exact⟨g,h1⟩
   obtain⟨g,rfl⟩:=hg
   have HSr:=hid (HST.below HB.out)
   obtain⟨f1,f2,f3,f4⟩:=Zsw ss k hlt
   have d1:=Zr HSr.row _ _ f1
   have d2:=Zr HSr.row _ _ f2
   have d3:=Zr HSr.row _ _ f3
   have d4:=Zr HSr.row _ _ f4
   have HSO:Hid (SrsOk wr ss[k]):=hid (HSr.ok _ (List.getElem_mem hlt))
   have HNX:Hid (Zbx ((ss.take (k+1)).map Srs.ser) nd n t=if Zct nd (ss[k]).ser && !(ZbI (ss[k]).sams n t).isEmpty then Zbx ((ss.take k).map Srs.ser) nd n t++[((ss[k]).qs.map blP,ZbI (ss[k]).sams n t)] else Zbx ((ss.take k).map Srs.ser) nd n t):=hid (by
    rw[List.take_succ_eq_append_getElem hlt,List.map_append];exact ZwF _ _ _ _ _)
   generalize ss[k]=s at *
   clear f1 f2 f3 f4 HSr
   have hkz:(k:Int)<(ss.length:Int):=by omega
   have x0:=HBX.cell 0
   have x1:=HBX.cell 1
   simp only[Zget]at x0 x1
   have hwb:=HBX.lt
   go_wp2_with fail
   refine ZK fun W hW=>?_
   have hbW:Below wr.heap.size wr W:=by rw[hW];exact Zbal
   have HBW:Hid (Below w.heap.size w W):=HB.trans (hbW.mono HB.size)
   have HSX:Hid (BAt W wr.heap.size [.string s.nm,.slice s.a s.n s.c,.string s.tx,.slice s.sa s.sams.length s.sc] 271):=hid (by rw[hW];exact Go.Deep.blk_alloc_new _ _)
   have HBXW:=hid (HBX.below hbW)
   have hownW:=Zw hown hbW
   have HRW:Hid ((∀s∈rs,StrOk W s)/\rs.map Str.pr=Zbx ((ss.take k).map Srs.ser) nd n t):=hid ⟨fun s hs=>(HR.1 s hs).keepsC (Zs.below hbW),HR.2⟩
   have HSOW:=hid (HSO.keepsC (Zs.below hbW))
   clear hW hbW hown HR HBX x0 x1 d1 d2 d3 d4 HSO HB
   refine(Zwx nm la ln lc nd s _ HNM.out (HC.below HBW.out) HSOW.lb).mono ?_
   rintro e w1 ⟨rfl,hb1⟩
   have HB1:Hid (Below w.heap.size w w1):=HBW.trans (hb1.mono HBW.size)
   have HSX1:=hid (HSX.below hb1)
   have HBX1:=hid (HBXW.below hb1)
   have hown1:=Zw hownW hb1
   have HR1:Hid ((∀s∈rs,StrOk w1 s)/\rs.map Str.pr=Zbx ((ss.take k).map Srs.ser) nd n t):=hid ⟨fun s hs=>(HRW.1 s hs).keepsC (Zs.below hb1),HRW.2⟩
   have HSO1:=hid (HSOW.keepsC (Zs.below hb1))
   clear hb1 HBW HSX HBXW hownW HRW HSOW
   cases hp:Zct nd s.ser with
   | false=>
    have HF:Hid ((∀s∈rs,StrOk w1 s)/\rs.map Str.pr=Zbx ((ss.take (k+1)).map Srs.ser) nd n t):=hid ⟨HR1.1,by rw[HNX.out,hp];exact HR1.2⟩
    clear hp
    go_wp2
    go_roundw
    case rel=>exact⟨k+1,rs,by omega,by go_num,by omega,hown1,HF,HBX1,HB1⟩
    case measure=>simp[intOf];omega
   | true=>
    have HP:Hid (Zct nd s.ser=true):=hp
    clear hp
    have x0:=HSX1.cell 0
    have x1:=HSX1.cell 1
    have x2:=HSX1.cell 2
    have x3:=HSX1.cell 3
    simp only[Zget]at x0 x1 x2 x3
    go_wp2_with fail
    refine(ZwD s.sc s.sa s.sams n t w1 HSO1.tm HSO1.len HSO1.cap hn0 hn1 ht0 ht1 HSO1.sam).mono ?_
    rintro e w2 ⟨av',cp',rfl,HSV,hb2⟩
    have HB2:Hid (Below w.heap.size w w2):=HB1.trans (hb2.mono HB1.size)
    have HSX2:=hid (HSX1.below hb2)
    have HBX2:=hid (HBX1.below hb2)
    have hown2:=Zw hown1 hb2
    have HR2:Hid ((∀s∈rs,StrOk w2 s)/\rs.map Str.pr=Zbx ((ss.take k).map Srs.ser) nd n t):=hid ⟨fun s hs=>(HR1.1 s hs).keepsC (Zs.below hb2),HR1.2⟩
    have HSO2:=hid (HSO1.keepsC (Zs.below hb2))
    clear hb2 HB1 HSX1 HBX1 hown1 HR1 HSO1 x0 x1 x2 x3
    obtain⟨wl,hwl⟩:∃wl,ZbI s.sams n t=wl:=⟨_,rfl⟩
    rw[hwl]at HSV HNX ⊢
    by_cases he:wl=[]
    ·have HF:Hid ((∀s∈rs,StrOk w2 s)/\rs.map Str.pr=Zbx ((ss.take (k+1)).map Srs.ser) nd n t):=hid ⟨HR2.1,by rw[HNX.out,he];simpa using HR2.2⟩
     subst he
     go_wp2
     go_roundw
     case rel=>exact⟨k+1,rs,by omega,by go_num,by omega,hown2,HF,HBX2,HB2⟩
     case measure=>simp[intOf];omega
    ·have hwlen:0<wl.length:=List.length_pos_iff.2 he
     have HF0:Hid (Zbx ((ss.take (k+1)).map Srs.ser) nd n t=Zbx ((ss.take k).map Srs.ser) nd n t++[(s.qs.map blP,wl)]):=hid (by
      rw[HNX.out,HP.out,if_pos];simpa using he)
     have HNE:Hid (StrOk w2 ⟨s.a,s.n,s.c,s.tx,s.qs,av',cp',wl⟩):=hid ⟨HSO2.lb,HSV.out,he,by
      have:wl.length<=s.sams.length:=by rw[<-hwl];exact List.length_filter_le _ _
      have:=HSO2.len
      show wl.length<=6001
      omega,fun x hx=>HSO2.ok x (by rw[<-hwl]at hx;exact(List.mem_filter.1 hx).1)⟩
     have hwz:(0:Int)<(wl.length:Int):=by omega
     have x0:=HSX2.cell 0
     have x1:=HSX2.cell 1
     have x2:=HSX2.cell 2
     have x3:=HSX2.cell 3
     simp only[Zget]at x0 x1 x2 x3
     have hw2:=HB2.size
     have hw3:=HBX2.lt
     clear hwl he HNX HP HSV
     go_wp2_with (at_builtin;refine wpList_append_own _ rfl (.tmp 31) (.tmp 36) 299 rfl (w.heap.size+1) 356 i0 (.agg #[.slice none 0 0,.string ByteArray.empty,.slice none 0 0]) 3 64 Tryz.underlying299 hi hz0 hz1 hz2 rfl (by decide) _ _ _ rfl (hown2.alloc _) ⟨w2.heap.size,0,none⟩ 1 1 [.slice s.a s.n s.c,.string s.tx,.slice av' wl.length cp'] rfl rfl ?c1 ?c2 ?c3 ?c4 ?c5 ?_)
     case c1=>exact ZrA (by simp) (by simp) (by simp)
     case c2=>intro u hu;simp at hu;rcases hu with rfl|rfl|rfl <;> rfl
     case c3=>unfold maxLen;omega
     case c4=>omega
     case c5=>simp;omega
     intro v' w3 hown3 hgrow _
     have hb3:Below w.heap.size w w3:=(HB2.alloc (by omega) _).grown hgrow (by simp;omega) (fun q hq=>by have:=(hown2.lt q hq).1;omega)
     have hkb:∀o,Z1 356 w2 (w2.alloc o):=fun o=>Z1.below Zbal _
     have hkb3:=(hkb _).trans (Z1.grown hgrow (hown2.alloc _))
     have hown4:w3.ownsRow (w.heap.size+1) 356 3 v' (rs++[(⟨s.a,s.n,s.c,s.tx,s.qs,av',cp',wl⟩:Str)]).length (encR (rs++[(⟨s.a,s.n,s.c,s.tx,s.qs,av',cp',wl⟩:Str)])):=by
      rw[Zsv,List.length_append];exact hown3
     have HF : Hid ((∀ z ∈ rs ++ [(⟨s.a, s.n, s.c, s.tx, s.qs, av', cp', wl⟩ : Str)], StrOk w3 z) /\ (rs ++ [(⟨s.a, s.n, s.c, s.tx, s.qs, av', cp', wl⟩ : Str)]).map Str.pr = Zbx ((ss.take (k + 1)).map Srs.ser) nd n t) := hid ⟨fun z hz => by
       rcases List.mem_append.1 hz with hz|hz
       · exact(HR2.1 z hz).kb hkb3 (by decide) (by decide)
       · rw[List.mem_singleton]at hz;subst hz;exact HNE.kb hkb3 (by decide) (by decide),by rw[HF0.out,List.map_append,HR2.2];rfl⟩
     have HBX3:Hid (BAt w3 w.heap.size [.string nm,.slice la ln lc] 148):=hid (hkb3 _ _ _ _ (by decide) HBX2.out)
     clear hown2 hgrow hown3 hkb hkb3 x0 x1 x2 x3
     have HB3:Hid _:=hid hb3
     clear hb3
     go_wp2
     go_roundw
     case rel=>exact⟨k+1,_,by omega,by go_num,by simp;omega,hown4,HF,HBX3,HB3⟩
     case measure=>simp[intOf];omega
  ·obtain rfl:k=ss.length:=by omega
   have HF:Hid ((∀s∈rs,StrOk wr s)/\rs.map Str.pr=Zbx (ss.map Srs.ser) nd n t):=hid ⟨HR.1,by have:=HR.2;rwa [List.take_length]at this⟩
   go_wp2
   go_ret
   exact⟨_,rs,rfl,hid ⟨⟨hown.mono (Nat.zero_le _),HF.1⟩,HF.2⟩,HB.out⟩
def cmpV(x y:List UInt8):Int:=if Op.bytesLess x y then -1 else if Op.bytesLess y x then 1 else 0
theorem Zim (s : ByteArray) (w : World) : Calls Tryz.prog 268 #[.string s] w fun e w' => e = .returned (.bool false) /\ w' = w := by
  go_enter Tryz.func268,Tryz.ntmps268
  go_wp2
  go_ret
  exact⟨by simp,rfl⟩
theorem ZoD (s : ByteArray) (w : World) : Calls Tryz.prog 266 #[.string s] w fun e w' => e = .returned (.bool false) /\ w' = w := by
  go_enter Tryz.func266,Tryz.ntmps266
  go_wp2
  go_ret
  exact⟨by simp,rfl⟩
theorem Zml (a b : ByteArray) (w : World) : Calls Tryz.prog 237 #[.string a, .string b] w fun e w' => e = .returned (.int .i64 (cmpV (bl a) (bl b))) /\ w' = w := by
  obtain⟨r,hr⟩:∃r,r=cmpV (bl a) (bl b):=⟨_,rfl⟩
  rw[<-hr]
  unfold cmpV at hr
  rw[<-ZbH,<-ZbH]at hr
  obtain⟨p,hp⟩:∃p,Op.bytesLess a.toList b.toList=p:=⟨_,rfl⟩
  obtain⟨q,hq⟩:∃q,Op.bytesLess b.toList a.toList=q:=⟨_,rfl⟩
  rw[hp,hq]at hr
  have HR:Hid (r=if p=true then -1 else if q=true then 1 else 0):=hr
  clear hr
  cases p
  · cases q
    · obtain rfl:r=0:=HR.out
      have he:(a.toList == b.toList)=true:=by rw[beq_iff_eq];exact Zdq _ _ hp hq
      clear HR
      go_enter Tryz.func237,Tryz.ntmps237
      go_wp2_with (go_at_call 268;refine(Zim _ _).mono ?_;rintro e w' ⟨rfl,rfl⟩)
      go_ret
      exact⟨rfl,rfl⟩
    · obtain rfl:r=1:=HR.out
      have he:(a.toList == b.toList)=false:=by rw[beq_eq_false_iff_ne];intro e;rw[e,ZcE]at hq;cases hq
      clear HR
      go_enter Tryz.func237,Tryz.ntmps237
      go_wp2_with (go_at_call 268;refine(Zim _ _).mono ?_;rintro e w' ⟨rfl,rfl⟩)
      go_ret
      exact⟨rfl,rfl⟩
  · obtain rfl:r=-1:=HR.out
    clear HR
    go_enter Tryz.func237,Tryz.ntmps237
    go_wp2_with (go_at_call 268;refine(Zim _ _).mono ?_;rintro e w' ⟨rfl,rfl⟩)
    go_ret
    exact⟨rfl,rfl⟩
theorem Zuc (a b : ByteArray) (w : World) : Calls Tryz.prog 262 #[.string a, .string b] w fun e w' => e = .returned (.bool (Op.bytesLess (bl a) (bl b))) /\ w' = w := by
  rw[<-ZbH,<-ZbH]
  generalize hp:Op.bytesLess a.toList b.toList=p
  go_enter Tryz.func262,Tryz.ntmps262
  go_wp2_with (go_at_call 268;refine(Zim _ _).mono ?_;rintro e w' ⟨rfl,rfl⟩)
  go_ret
  exact⟨by first|rfl|simp[hp],rfl⟩
theorem Zd1{s:ByteArray}{a:Array UInt8}(h:bl s=a.toList):s=⟨a⟩:=by
 cases s with
 | mk d=>unfold bl at h;simp at h;rw[h]
theorem Zow (wd : ByteArray) (op : Nat) (hop : op <= 4) (h : bl wd = ZV.getD op []) (w : World) : Calls Tryz.prog 124 #[.string wd] w fun e w' => e = .returned (.int .i64 op) /\ w' = w := by
  rcases(by omega:op=0∨op=1∨op=2∨op=3∨op=4)with rfl|rfl|rfl|rfl|rfl
  · obtain rfl:=Zd1 (a:=#[116,111,116,97,108]) h
    go_enter Tryz.func124,Tryz.ntmps124
    go_wp2
    go_ret
    exact⟨rfl,rfl⟩
  · obtain rfl:=Zd1 (a:=#[112,101,97,107]) h
    go_enter Tryz.func124,Tryz.ntmps124
    go_wp2
    go_ret
    exact⟨rfl,rfl⟩
  · obtain rfl:=Zd1 (a:=#[108,111,119]) h
    go_enter Tryz.func124,Tryz.ntmps124
    go_wp2
    go_ret
    exact⟨rfl,rfl⟩
  · obtain rfl:=Zd1 (a:=#[115,105,122,101]) h
    go_enter Tryz.func124,Tryz.ntmps124
    go_wp2
    go_ret
    exact⟨rfl,rfl⟩
  · obtain rfl:=Zd1 (a:=#[114,105,115,101]) h
    go_enter Tryz.func124,Tryz.ntmps124
    go_wp2
    go_ret
    exact⟨rfl,rfl⟩
theorem Zov (wd : ByteArray) (op : Nat) (hop : op <= 3) (h : bl wd = ZG.getD op []) (w : World) : Calls Tryz.prog 124 #[.string wd] w fun e w' => e = .returned (.int .i64 op) /\ w' = w := by
  rcases(by omega:op=0∨op=1∨op=2∨op=3)with rfl|rfl|rfl|rfl
  · obtain rfl:=Zd1 (a:=#[115,117,109]) h
    go_enter Tryz.func124,Tryz.ntmps124
    go_wp2
    go_ret
    exact⟨rfl,rfl⟩
  · obtain rfl:=Zd1 (a:=#[109,97,120]) h
    go_enter Tryz.func124,Tryz.ntmps124
    go_wp2
    go_ret
    exact⟨rfl,rfl⟩
  · obtain rfl:=Zd1 (a:=#[109,105,110]) h
    go_enter Tryz.func124,Tryz.ntmps124
    go_wp2
    go_ret
    exact⟨rfl,rfl⟩
  · obtain rfl:=Zd1 (a:=#[99,111,117,110,116]) h
    go_enter Tryz.func124,Tryz.ntmps124
    go_wp2
    go_ret
    exact⟨rfl,rfl⟩
end Go.Proofs.YtcdgkkfipdoeeaaGreatDoor
namespace Go.Proofs
open Go.Shelf
def Tryz.sortItem_ren:Go.Shelf.Ren:=⟨fun|6=>235|15=>233|14=>267|28=>265|29=>241|20=>281|21=>282|22=>283|23=>284|24=>285|25=>286|26=>287|27=>288|46=>290|47=>277|48=>278|49=>291|50=>292|57=>293|n=>n,fun|22=>283|24=>286|25=>388|3=>3|39=>225|0=>0|53=>160|55=>363|4=>4|46=>400|45=>399|50=>106|5=>5|9=>9|66=>414|70=>418|76=>427|77=>37|n=>n,fun|n=>n⟩
theorem Tryz.sortItem:Go.Proofs.SlLaysF0.n6 Tryz.prog Tryz.sortItem_ren:={
 mixed:=by kernel_rfl
 f6:=⟨Tryz.f235.name,by decide,Tryz.func235.trans (congrArg some (by kernel_rfl))⟩
 f14:=⟨Tryz.f267.name,by decide,Tryz.func267.trans (congrArg some (by kernel_rfl))⟩
 f15:=Tryz.func233.trans (congrArg some (by kernel_rfl))
 f20:=⟨Tryz.f281.name,by decide,Tryz.func281.trans (congrArg some (by kernel_rfl))⟩
 f21:=⟨Tryz.f282.name,by decide,Tryz.func282.trans (congrArg some (by kernel_rfl))⟩
 f22:=⟨Tryz.f283.name,by decide,Tryz.func283.trans (congrArg some (by kernel_rfl))⟩
 f23:=⟨Tryz.f284.name,by decide,Tryz.func284.trans (congrArg some (by kernel_rfl))⟩
 f24:=⟨Tryz.f285.name,by decide,Tryz.func285.trans (congrArg some (by kernel_rfl))⟩
 f25:=⟨Tryz.f286.name,by decide,Tryz.func286.trans (congrArg some (by kernel_rfl))⟩
 f26:=⟨Tryz.f287.name,by decide,Tryz.func287.trans (congrArg some (by kernel_rfl))⟩
 f27:=⟨Tryz.f288.name,by decide,Tryz.func288.trans (congrArg some (by kernel_rfl))⟩
 f28:=Tryz.func265.trans (congrArg some (by kernel_rfl))
 f29:=Tryz.func241.trans (congrArg some (by kernel_rfl))
 f46:=⟨Tryz.f290.name,by decide,Tryz.func290.trans (congrArg some (by kernel_rfl))⟩
 f47:=Tryz.func277.trans (congrArg some (by kernel_rfl))
 f48:=Tryz.func278.trans (congrArg some (by kernel_rfl))
 f49:=⟨Tryz.f291.name,by decide,Tryz.func291.trans (congrArg some (by kernel_rfl))⟩
 f50:=⟨Tryz.f292.name,by decide,Tryz.func292.trans (congrArg some (by kernel_rfl))⟩
 f57:=⟨Tryz.f293.name,by decide,Tryz.func293.trans (congrArg some (by kernel_rfl))⟩
 t0:=Tryz.underlying0
 a0:=Tryz.isAgg0
 z0:=Tryz.sizeOf0
 v0:=Tryz.zeroValue0
 t3:=Tryz.underlying3
 a3:=Tryz.isAgg3
 z3:=Tryz.sizeOf3
 v3:=Tryz.zeroValue3
 t4:=Tryz.underlying4
 a4:=Tryz.isAgg4
 z4:=Tryz.sizeOf4
 v4:=Tryz.zeroValue4
 t5:=Tryz.underlying5
 a5:=Tryz.isAgg5
 z5:=Tryz.sizeOf5
 v5:=Tryz.zeroValue5
 t9:=Tryz.underlying9
 a9:=Tryz.isAgg9
 z9:=Tryz.sizeOf9
 v9:=Tryz.zeroValue9
 t22:=Tryz.underlying283
 a22:=Tryz.isAgg283
 z22:=Tryz.sizeOf283
 v22:=Tryz.zeroValue283
 t25:=Tryz.underlying388
 a25:=Tryz.isAgg388
 z25:=Tryz.sizeOf388
 v25:=Tryz.zeroValue388
 t39:=Tryz.underlying225
 a39:=Tryz.isAgg225
 z39:=Tryz.sizeOf225
 v39:=Tryz.zeroValue225
 t45:=Tryz.underlying399
 a45:=Tryz.isAgg399
 z45:=Tryz.sizeOf399
 v45:=Tryz.zeroValue399
 t46:=Tryz.underlying400
 a46:=Tryz.isAgg400
 z46:=Tryz.sizeOf400
 v46:=Tryz.zeroValue400
 t50:=Tryz.underlying106
 a50:=Tryz.isAgg106
 z50:=Tryz.sizeOf106
 v50:=Tryz.zeroValue106
 t53:=Tryz.underlying160
 a53:=Tryz.isAgg160
 z53:=Tryz.sizeOf160
 v53:=Tryz.zeroValue160
 t55:=Tryz.underlying363
 a55:=Tryz.isAgg363
 z55:=Tryz.sizeOf363
 v55:=Tryz.zeroValue363
 t66:=Tryz.underlying414
 a66:=Tryz.isAgg414
 z66:=Tryz.sizeOf414
 v66:=Tryz.zeroValue414
 t70:=Tryz.underlying418
 a70:=Tryz.isAgg418
 z70:=Tryz.sizeOf418
 v70:=Tryz.zeroValue418
 t76:=Tryz.underlying427
 a76:=Tryz.isAgg427
 z76:=Tryz.sizeOf427
 v76:=Tryz.zeroValue427
 t77:=Tryz.underlying37
 a77:=Tryz.isAgg37
 z77:=Tryz.sizeOf37
 v77:=Tryz.zeroValue37 }
end Go.Proofs
namespace Go.Proofs.YtcdgkkfipdoeeaaGreatDoor
open Go.RowKit LS
def GrB(W w':World):Prop:=∃q os,w'=Sort.grow (W.drewN q) os
theorem GrB.trans{a b c:World}(h:GrB a b)(k:GrB b c):GrB a c:=by
 obtain⟨q1,o1,rfl⟩:=h
 obtain⟨q2,o2,rfl⟩:=k
 exact⟨q1+q2,o1++o2,by simp[Sort.grow,World.drewN,Nat.add_assoc]⟩
theorem GrB.alloc(W:World)(o:Obj):GrB W (W.alloc o):=⟨0,#[o],by rw[Sort.alloc_eq_grow];rfl⟩
theorem GrB.drew(W:World):GrB W W.drew:=⟨1,#[],by rw[Sort.grow_empty];rfl⟩
theorem ZxT (x y : Itm) (w : World) : Calls Tryz.prog 236 #[.agg #[.slice x.a x.n x.c, .string x.tx, .int .i64 x.v], .agg #[.slice y.a y.n y.c, .string y.tx, .int .i64 y.v]] w fun e w' => e = .returned (.int .i64 (cmpV (bl x.tx) (bl y.tx))) /\ GrB w w' := by
  obtain⟨xa,xn,xc,xt,xq,xv⟩:=x
  obtain⟨ya,yn,yc,yt,yq,yv⟩:=y
  simp only
  go_enter Tryz.func236,Tryz.ntmps236
  go_upto_region 1 with fail
  refine Z9 fun W hW=>?_
  have HG:Hid (GrB w W):=hid (by rw[hW];exact(GrB.alloc _ _).trans (GrB.alloc _ _))
  have HX:Hid (BAt W w.heap.size [.slice xa xn xc,.string xt,.int .i64 xv] 286):=hid (by rw[hW];exact(Zbal.block _ (by simp)).trans (Go.Deep.blk_alloc_new _ _))
  have HY:Hid (BAt W (w.heap.size+1) [.slice ya yn yc,.string yt,.int .i64 yv] 286):=hid (by rw[hW];have:=Go.Deep.blk_alloc_new (w.alloc (.cells #[.slice xa xn xc,.string xt,.int .i64 xv] 286)) (.cells #[.slice ya yn yc,.string yt,.int .i64 yv] 286);rw[Go.Deep.nblk_alloc]at this;exact this)
  clear hW
  have x0:=HX.cell 0
  have x1:=HX.cell 1
  have y0:=HY.cell 0
  have y1:=HY.cell 1
  simp only[Zget]at x0 x1 y0 y1
  go_region_held3 (fun w' => w'.cell? ⟨w.heap.size, 0, none⟩ = some (.slice xa xn xc) /\ w'.cell? ⟨w.heap.size, 1, none⟩ = some (.string xt) /\ w'.cell? ⟨w.heap.size + 1, 0, none⟩ = some (.slice ya yn yc) /\ w'.cell? ⟨w.heap.size + 1, 1, none⟩ = some (.string yt)) (first | exact ⟨x0, x1, y0, y1⟩ | go_keep) (first
    | (go_at_call 151
       refine(ZfJ _ _ _ _ _).mono ?_
       rintro e w5 ⟨rfl,o5,hw5⟩)
    | (go_at_call 237
       refine(Zml _ _ _).mono ?_
       rintro e w6 ⟨rfl,hw6⟩))
  all_goals
    go_wp2
    go_ret
    exact⟨rfl,HG.trans (((GrB.alloc _ _).trans (GrB.alloc _ _)).trans (GrB.drew _))⟩
theorem ZgK(x y:List UInt8):decide (cmpV x y<0)=Op.bytesLess x y:=by
 unfold cmpV
 cases h:Op.bytesLess x y
 ·cases h2:Op.bytesLess y x <;> simp
 ·simp
theorem ZxV : Sort.SWO (ltOf fun x y : Itm => cmpV (bl x.tx) (bl y.tx)) where
  irrefl x:=by unfold ltOf;rw[ZgK];exact ZcE _
  trans x y z h1 h2:=by unfold ltOf at *;rw[ZgK]at *;exact ZdG _ _ _ h1 h2
  ntrans x y z h1 h2:=by
    unfold ltOf at *
    rw[ZgK]at *
    cases h:Op.bytesLess (bl x.tx) (bl z.tx)with
    | false=>rfl
    | true=>
      cases h3:Op.bytesLess (bl z.tx) (bl y.tx)with
      | true=>rw[ZdG _ _ _ h h3]at h1;cases h1
      | false=>
        have e:=Zdq _ _ h2 h3
        rw[e,h]at h1;cases h1
theorem Zm7(d:Array Itm):(Sort.flatK Itm.enc 3 d).toList=encs d.toList:=by
 refine List.ext_getElem? (fun t=>?_)
 by_cases ht:t<d.size*3
 ·have hj:t / 3<d.toList.length:=by rw[Array.length_toList];omega
  have hj2:t / 3<d.size:=by omega
  obtain⟨g0,g1,g2⟩:=ZeS d.toList (t / 3) hj
  have e:(Sort.flatK Itm.enc 3 d).toList[t]?=some (Itm.enc d[t / 3]!)[t % 3]!:=by
   rw[Array.getElem?_toList,<-Sort.get_flatK _ _ _ t ht]
   rw[getElem!_pos _ t (by rw[Sort.size_flatK];exact ht),Array.getElem?_eq_getElem (by rw[Sort.size_flatK];exact ht)]
  rw[e,getElem!_pos d (t / 3) hj2]
  rw[Array.getElem_toList]at g0 g1 g2
  rcases(by omega:t % 3=0∨t % 3=1∨t % 3=2)with h|h|h
  ·rw[show t / 3*3=t by omega]at g0
   rw[h,g0];rfl
  ·rw[show t / 3*3+1=t by omega]at g1
   rw[h,g1];rfl
  ·rw[show t / 3*3+2=t by omega]at g2
   rw[h,g2];rfl
 ·rw[List.getElem?_eq_none (by rw[Array.length_toList,Sort.size_flatK];omega),List.getElem?_eq_none (by rw[ZjR,Array.length_toList];omega)]
theorem Zyk(cur F:Array Value)(h:F.size<=cur.size):(Sort.putCells id 0 F cur).toList.take F.size=F.toList:=by
 apply List.ext_getElem?
 intro j
 by_cases hj:j<F.size
 ·rw[List.getElem?_take_of_lt hj,Array.getElem?_toList]
  simp[Sort.putCells,hj,show j<cur.size by omega]
 ·rw[List.getElem?_take_eq_none (by omega),List.getElem?_eq_none (by simp;omega)]
theorem Ztn{w:World}{g n:Nat}{os:Array Obj}{cur F:Array Value}{e:TypeId}{fr:Nat×Nat}(hb:w.heap[g]?=some (.cells cur e fr)) :
  (Sort.grow (Sort.putRow id (Sort.ahead w n) g 0 F) os).heap[g]?=some (.cells (Sort.putCells id 0 F cur) e fr):=by
 have hg:g<w.heap.size:=(Array.getElem?_eq_some_iff.1 hb).1
 rw[Sort.heap_grow_old _ _ (by simpa using hg)]
 simp[Sort.putRow,Sort.mapBlock,Sort.ahead,Array.getElem?_modify,hb,Sort.onCells]
theorem Zth{w:World}{g n:Nat}{os:Array Obj}(F:Array Value):w.grownBy (Sort.grow (Sort.putRow id (Sort.ahead w n) g 0 F) os) (some g):=by
 refine⟨rfl,rfl,rfl,by simp,fun k hk hne=>?_⟩
 rw[Sort.heap_grow_old _ _ (by simpa using hk)]
 have:g≠k:=fun e=>hne (by rw[e])
 simp[Sort.putRow,Sort.mapBlock,Sort.ahead,Array.getElem?_modify,this]
theorem Ztz (p : Option Addr) (cap : Nat) (fv : Value) (w : World) : Calls Tryz.prog 281 #[.slice p 0 cap, .int .i64 0, .int .i64 0, fv] w fun e w' => e = .returned (.tuple #[]) /\ w' = w := by
  go_enter Tryz.func281,Tryz.ntmps281
  go_wp2
  refine wp_loop_rounds 1 ?_
  rw[rounds_succ]
  go_wp2
  go_end0
  exact⟨rfl,rfl⟩
theorem Zwg (p : Option Addr) (cap : Nat) (lim : Int) (fv : Value) (w : World) : Calls Tryz.prog 267 #[.slice p 0 cap, .int .i64 0, .int .i64 0, .int .i64 lim, fv] w fun e w' => e = .returned (.tuple #[]) /\ w' = w := by
  have hi:=fun W=>Ztz p cap fv W
  go_enter Tryz.func267,Tryz.ntmps267
  go_wp2
  refine wp_loop_rounds 1 ?_
  rw[rounds_succ]
  go_wp2_with (go_at_call 281;refine(hi _).mono ?_;rintro e w' ⟨rfl,rfl⟩)
  (try simp only[Exit.inBlock,Exit.then]);refine bodyPost_ret (results_none rfl _ _ _) rfl ?_
  exact⟨rfl,rfl⟩
theorem ZxY (p : Option Addr) (cap : Nat) (fv : Value) (w : World) : Calls Tryz.prog 235 #[.slice p 0 cap, fv] w fun e w' => e = .returned (.tuple #[]) /\ w' = w := by
  have hp:=fun lim W=>Zwg p cap lim fv W
  have hl:∀W,Calls Tryz.prog 233 #[.int .u64 0] W fun e w'=>e=.returned (.int .i64 (Lib.bitLen 0:Nat))/\w'=W:=fun W=>Tryz.bits_Len 0 W (by omega) (by omega)
  go_enter Tryz.func235,Tryz.ntmps235
  go_wp2_with (first|(go_at_call 233;refine(hl _).mono ?_;rintro e w' ⟨rfl,rfl⟩)|(go_at_call 267;refine(hp _ _).mono ?_;rintro e w' ⟨rfl,rfl⟩))
  go_end0
  exact⟨rfl,rfl⟩
theorem ZxU(base:Nat)(v:Value)(is:List Itm)(w:World)(hrow:w.ownsRow base 286 3 v is.length (encs is))(hlen:is.length<=1000) :
  Calls Tryz.prog 208 #[v] w fun e w'=>∃is',e=.returned v/\Hid (is'.Perm is/\(is'.Pairwise fun a b=>Op.bytesLess (bl b.tx) (bl a.tx)=false)/\w'.ownsRow base 286 3 v is'.length (encs is')/\w.grownBy w' v.ownBlock):=by
 by_cases h0:is.length=0
 ·obtain rfl:is=[]:=List.eq_nil_of_length_eq_zero h0
  obtain⟨av,cp,rfl⟩:=Zv hrow
  have HR:Hid _:=hid hrow
  clear hrow h0
  go_enter Tryz.func208,Tryz.ntmps208
  go_wp2_with (go_at_call 235;refine(ZxY _ _ _ _).mono ?_;rintro e w' ⟨rfl,rfl⟩)
  go_ret
  exact⟨[],rfl,hid ⟨List.Perm.refl _,List.Pairwise.nil,HR.out,⟨rfl,rfl,rfl,Nat.le_refl _,fun _ _ _=>rfl⟩⟩⟩
 ·obtain⟨g,cp,rfl⟩:=ZW hrow (by omega)
  rcases hrow.2 with ⟨hv,_⟩|⟨g',cap,cur,hv,hbase,hh,r1,r2,r3,r4⟩
  ·cases hv
  injection hv with e1 e2 e3
  injection e1 with e1
  injection e1 with e1
  subst e1 e3
  have hgl:g<w.heap.size:=(Array.getElem?_eq_some_iff.1 hh).1
  have hH:Sort.HoldsK Itm.enc 3 w g 0 is.toArray:=by
   intro j hj
   rw[Sort.size_flatK]at hj
   have hj2:j<(encs is).length:=by rw[ZjR];simpa using hj
   refine⟨?_,by simp[World.frozen?,hh]⟩
   have e:=Zr hrow j _ (List.getElem?_eq_getElem hj2)
   rw[Nat.zero_add,e]
   have e2:(Sort.flatK Itm.enc 3 is.toArray).toList[j]?=(encs is)[j]?:=by rw[Zm7]
   rw[List.getElem?_eq_getElem hj2,Array.getElem?_toList,Array.getElem?_eq_getElem (by rw[Sort.size_flatK];exact hj)]at e2
   rw[getElem!_pos _ j (by rw[Sort.size_flatK];exact hj),Option.some.inj e2]
   rfl
  have eg:∀args w,(callFunc 236 args).run Tryz.prog w=.ok (.enter 236 args) w:=enters_of Tryz.func236 (by kernel_rfl) rfl
  have hcmp:CmpLays Tryz.prog 236 #[] Itm.enc 3 (fun x y=>cmpV (bl x.tx) (bl y.tx)) g 0 is.toArray.size w:=fun _ _ _ _ x y=>ZxT x y _
  have hcon:=AnyQ.slices_SortFunc Tryz.sortItem 3 Tryz.isAgg286 Tryz.sizeOf286 Itm.enc (fun _=>rfl) (fun x v hv=>by simp[Itm.enc]at hv;rcases hv with rfl|rfl|rfl <;> rfl) (fun x y=>cmpV (bl x.tx) (bl y.tx)) ZxV 236 #[] g 0 cp is.toArray w eg hcmp hH hgl (by simp;omega)
  change Calls Tryz.prog 235 _ _ _ at hcon
  rw[List.size_toArray]at hcon
  have HC:Hid _:=hid hcon
  have HX:Hid (base<=g/\w.heap[g]?=some (.cells cur 286 (0,0))/\is.length<=cp/\cp<=maxLen/\cur.size=cp*3):=hid ⟨hbase,hh,r1,r2,r3⟩
  clear hcon hcmp eg hH hrow hh hbase r1 r2 r3 r4
  go_enter Tryz.func208,Tryz.ntmps208
  go_wp2_with (go_at_call 235;refine HC.mono ?_;rintro e w' ⟨rfl,d',n,os,hp,hs,rfl⟩)
  go_ret
  obtain⟨q1,q2,q3,q4,q5⟩:=HX.out
  have hsz:d'.size=is.length:=by rw[hp.1];simp
  have hperm:d'.toList.Perm is:=by
   have:=hp.2.2
   rwa [Array.extract_eq_self_of_le (by omega),Array.extract_eq_self_of_le (by simp)]at this
  refine⟨d'.toList,rfl,hid ⟨hperm,?_,?_,?_⟩⟩
  ·rw[List.pairwise_iff_getElem]
   intro i j hi hj hij
   rw[Array.length_toList]at hi hj
   have:=hs i j (Nat.zero_le _) hij (by omega)
   unfold ltOf at this
   rw[ZgK,getElem!_pos d' i hi,getElem!_pos d' j hj]at this
   simpa using this
  ·change (Sort.grow (Sort.putRow id (Sort.ahead w n) g 0 (Sort.flatK Itm.enc 3 d')) os).ownsRow _ _ _ _ _ _
   have hl:d'.toList.length=is.length:=by rw[Array.length_toList,hsz]
   rw[hl]
   refine⟨by rw[ZjR,hl],Or.inr ⟨g,cp,Sort.putCells id 0 (Sort.flatK Itm.enc 3 d') cur,rfl,q1,Ztn q2,q3,q4,by simp[Sort.putCells,q5],?_⟩⟩
   have:=Zyk cur (Sort.flatK Itm.enc 3 d') (by rw[Sort.size_flatK,hsz];omega)
   rw[Sort.size_flatK,Zm7,hsz]at this
   exact this
  ·exact Zth _
theorem Zlt(base:Nat)(v:Value)(is:List Itm)(w:World)(hrow:w.ownsRow base 286 3 v is.length (encs is))(hbs:base<=w.heap.size)(hlen:is.length<=1000)(hok:∀i∈is,ItmOk w i)(hd:DstE (is.map Itm.el)) :
  Calls Tryz.prog 208 #[v] w fun e w'=>e=.returned v/\∃is',Hid (VecV w' v ((is.map Itm.el).foldl Zb9 []) is'/\Below base w w'):=by
 refine(ZxU base v is w hrow hlen).mono ?_
 rintro e w' ⟨is',rfl,H⟩
 obtain⟨h1,h2,h3,h4⟩:=H.out
 have hkb:=Z1.grown h4 hrow
 have hok':∀i∈is',ItmOk w' i:=fun i hi=>(hok i (h1.mem_iff.1 hi)).kb hkb (by decide)
 refine⟨rfl,is',hid ⟨⟨h3.mono (Nat.zero_le _),?_,hok',by rw[h1.length_eq];exact hlen⟩,?_⟩⟩
 ·refine ZxX hd (h1.map _) ?_
  rw[List.pairwise_map]
  refine List.Pairwise.imp_of_mem ?_ h2
  intro a b ha hb hab
  have ea:=(hok' a ha).lb.txt
  have eb:=(hok' b hb).lb.txt
  show Op.bytesLess (wrt b.labs) (wrt a.labs)=false
  unfold Itm.labs
  rw[<-ea,<-eb];exact hab
 ·exact(Below.refl base w).grown h4 hbs (fun q hq=>(hrow.lt q hq).1)
theorem RngV.kb{t:TypeId}{w w':World}{v:Value}{rs:List Str}(h:RngV w v rs)(hk:Z1 t w w')(h0:356≠t)(h1:378≠t)(h2:358≠t):RngV w' v rs:=⟨hk.own h.row h0,fun s hs=>(h.ok s hs).kb hk h1 h2⟩
def Str.itm(s:Str)(v:Int):Itm:=⟨s.a,s.n,s.c,s.tx,s.qs,v⟩
theorem ZnG{w:World}{s:Str}(h:StrOk w s){v:Int}(hv:vOk v):ItmOk w (s.itm v):=⟨h.lb,hv⟩
theorem ZkT(op:Option Nat)(l:List (Int×Int))(hl:∀x∈l,smOk x):vOk (oneV op l):=by
 cases op with
 | some o=>exact ZgN _
 | none=>
  unfold oneV vOk
  simp only
  cases l with
  | nil=>decide
  | cons a l=>
   rw[List.getLastD_cons,<-List.getLast_eq_getLastD (a:=a) (by simp:a::l≠[])]
   exact(hl _ (List.getLast_mem _)).2.2
def itms(op:Option Nat)(rs:List Str):List Itm:=rs.map fun s=>s.itm (oneV op s.sams)
theorem ZnH(op:Option Nat)(rs:List Str)(st:List Ser)(nd:Nd)(n t:Int)(h:rs.map Str.pr=Zbx st nd n t):(itms op rs).map Itm.el=ZdO st nd op n t:=by
 rw[Zwk,<-h]
 unfold itms
 rw[List.map_map,List.map_map]
 rfl
theorem Zxk{s:Str}(h:s.sams≠[]):∃hj:s.sams.length - 1<s.sams.length,oneV none s.sams=(s.sams[s.sams.length - 1]).2:=by
 have hl:0<s.sams.length:=List.length_pos_iff.2 h
 refine⟨by omega,?_⟩
 unfold oneV
 simp only
 rw[<-List.getLast_eq_getElem h]
 rw[List.getLastD_eq_getLast?,List.getLast?_eq_some_getLast h]
 rfl
theorem Zwu(sv:Value)(ss:List Srs)(nm:ByteArray)(la:Option Addr)(ln lc:Nat)(nd:Nd)(t:Int)(w:World)(hst:StoP w sv ss)(hds:Dst (ss.map Srs.ser))(hnm:bl nm=nd.name)(hc:ZI w (.slice la ln lc) nd.conds)(ht0 : -1000000<=t)(ht1:t<=1000000) :
  Calls Tryz.prog 161 #[sv,.agg #[.string nm,.slice la ln lc],.int .i64 t] w fun e w'=>∃v is,e=.returned v/\Hid (VecV w' v (ZdV (ss.map Srs.ser) nd none 10 t) is)/\Below w.heap.size w w':=by
 obtain⟨i0,hi,hz0,hz1,hz2⟩:=info_parts Tryz.infoItem
 obtain⟨sa,scp,rfl⟩:=Zv hst.row
 have HPR:Hid (∀W,Below w.heap.size w W->Calls Tryz.prog 160 #[.slice sa ss.length scp,.agg #[.string nm,.slice la ln lc],.int .i64 10,.int .i64 t] W _):=hid (fun W hW=>Zo2 (.slice sa ss.length scp) ss nm la ln lc nd 10 t W (hst.below hW) hnm (hc.below hW) (by decide) (by decide) ht0 ht1)
 have HDS:Hid (Dst (ss.map Srs.ser)):=hds
 have HSL:Hid (ss.length<=30):=hst.len
 clear hst hnm hc hds
 go_enter Tryz.func161,Tryz.ntmps161
 go_wp2_with fail
 refine(HPR.out _ belB).mono ?_
 rintro e w1 ⟨rv,rs,rfl,HR,hb1⟩
 have HB1:Hid (Below w.heap.size w w1):=hid (Below.trans belB (hb1.mono (by simp)))
 obtain⟨ra,rcp,rfl⟩:=Zv HR.1.row
 have hrl:rs.length<=30:=by
  have h1:=congrArg List.length HR.2
  rw[List.length_map]at h1
  have h2:=Zo4 (ss.map Srs.ser) nd 10 t
  rw[List.length_map]at h2
  have:=HSL.out
  omega
 clear hb1 HPR HSL
 have hw1:=HB1.size
 go_wp2
 go_loopw [7, 16] (fun v i wr => ∃ k : Nat, k <= rs.length /\ i = .int .i64 k /\ wr.ownsRow w.heap.size 286 3 v k (encs (itms none (rs.take k))) /\ Hid (RngV wr (.slice ra rs.length rcp) rs) /\ Hid (Below w.heap.size w wr))
   (fun _ i _=>rs.length - (intOf i).toNat)
 case atStart=>exact⟨0,Nat.zero_le _,rfl,World.ownsRow_nil _ _ _ _,hid HR.1,HB1⟩
 case round=>
  obtain⟨k,hk,rfl,hown,HRr,HB⟩:=hrel
  have hwr:=HB.size
  by_cases hlt:k<rs.length
  ·have hg:∃g,ra=some ⟨g,0,none⟩:=by
    obtain⟨g,cp',h⟩:=ZW HRr.row (by omega)
    injection h with h1;exact⟨g,h1⟩
   obtain⟨g,rfl⟩:=hg
   obtain⟨f1,f2,f3⟩:=ZmQ rs k hlt
   have d1:=Zr HRr.row _ _ f1
   have d2:=Zr HRr.row _ _ f2
   have d3:=Zr HRr.row _ _ f3
   have HSO:Hid (StrOk wr rs[k]):=hid (HRr.ok _ (List.getElem_mem hlt))
   have HTK:Hid (itms none (rs.take (k+1))=itms none (rs.take k)++[(rs[k]).itm (oneV none (rs[k]).sams)]):=hid (by
    rw[List.take_succ_eq_append_getElem hlt];unfold itms;rw[List.map_append];rfl)
   generalize rs[k]=s at *
   clear f1 f2 f3
   have hkz:(k:Int)<(rs.length:Int):=by omega
   obtain⟨hj,hone⟩:=Zxk HSO.ne
   obtain⟨sg,soff,hsa,hsam⟩:=HSO.sam.resolve_left HSO.ne
   obtain⟨m1,m2⟩:=hsam.cells _ hj
   have hsl:=HSO.len
   have HVO:Hid (vOk (oneV none s.sams)):=hid (ZkT none _ HSO.ok)
   have HONE:Hid (oneV none s.sams=(s.sams[s.sams.length - 1]).2):=hone
   clear hone hsam
   rw[hsa]at d3
   obtain⟨sm,hsm⟩:∃sm,s.sams.length=sm+1:=⟨s.sams.length - 1,by omega⟩
   have hjz:((s.sams.length:Int) - 1)=(sm:Int):=by omega
   rw[hsm]at d3 hsl
   have e1:s.sams.length - 1=sm:=by omega
   have m1':wr.cell? ⟨sg,soff+sm*2,none⟩=some (.int .i64 (s.sams[s.sams.length - 1]).1):=by rw[<-e1];exact m1
   have m2':wr.cell? ⟨sg,soff+sm*2+1,none⟩=some (.int .i64 (oneV none s.sams)):=by rw[HONE.out,<-e1];exact m2
   clear m1 m2 hjz hsm e1 HONE
   generalize(s.sams[s.sams.length - 1]).1=tmx at *
   generalize oneV none s.sams=one at *
   have hsmz:((sm:Int)+1 - 1)=(sm:Int):=by omega
   have hsgl:sg<wr.heap.size:=World.block_lt_of_cell? _ _ m1'
   have n1:∀o,(wr.alloc o).cell? ⟨sg,soff+sm*2,none⟩=some (.int .i64 tmx):=fun o=>by rw[World.cell?_alloc_lt _ _ _ hsgl];exact m1'
   have n2:∀o,(wr.alloc o).cell? ⟨sg,soff+sm*2+1,none⟩=some (.int .i64 one):=fun o=>by rw[World.cell?_alloc_lt _ _ _ hsgl];exact m2'
   go_wp2_with (at_builtin;refine wpList_append_own _ rfl (.tmp 28) (.tmp 34) 283 rfl w.heap.size 286 i0 (.agg #[.slice none 0 0,.string ByteArray.empty,.int .i64 0]) 3 48 Tryz.underlying283 hi hz0 hz1 hz2 rfl (by decide) _ _ _ rfl (((hown.alloc _).alloc _).alloc _) ⟨wr.heap.size+2,0,none⟩ 1 1 [.slice s.a s.n s.c,.string s.tx,.int .i64 one] rfl rfl ?c1 ?c2 ?c3 ?c4 ?c5 ?_)
   case c1=>exact ZdH (by simp)
   case c2=>intro u hu;simp at hu;rcases hu with rfl|rfl|rfl <;> rfl
   case c3=>unfold maxLen;omega
   case c4=>omega
   case c5=>simp;omega
   intro v' w3 hown3 hgrow _
   have hb3:Below w.heap.size w w3:=(((HB.alloc (by omega) _).alloc (by simp;omega) _).alloc (by simp;omega) _).grown hgrow (by simp;omega) (fun q hq=>(hown.lt q hq).1)
   have hkb:∀o o' o'',Z1 286 wr (((wr.alloc o).alloc o').alloc o''):=fun o o' o''=>Z1.below ((Zbal.alloc (by simp) _).alloc (by simp;omega) _) _
   have hkb3:=(hkb _ _ _).trans (Z1.grown hgrow (((hown.alloc _).alloc _).alloc _))
   have hown4:w3.ownsRow w.heap.size 286 3 v' (k+1) (encs (itms none (rs.take (k+1)))):=by
    rw[HTK.out,ZgQ];exact hown3
   have HR3:=hid (HRr.kb hkb3 (by decide) (by decide) (by decide))
   clear hown hgrow hown3 hkb hkb3 d1 d2 d3 m1' m2'
   have HB3:Hid _:=hid hb3
   clear hb3
   go_wp2
   go_roundw
   case rel=>exact⟨k+1,by omega,by go_num,hown4,HR3,HB3⟩
   case measure=>simp[intOf];omega
  ·obtain rfl:k=rs.length:=by omega
   rw[List.take_length]at hown
   have HEL:Hid ((itms none rs).map Itm.el=ZdO (ss.map Srs.ser) nd none 10 t):=hid (ZnH none rs _ nd 10 t HR.2)
   have hlen:(itms none rs).length=rs.length:=by unfold itms;rw[List.length_map]
   rw[<-hlen]at hown
   have HSI := hid (Zlt w.heap.size _ (itms none rs) wr hown hwr (by omega) (fun i hi => by
     unfold itms at hi
     obtain⟨s,hs,rfl⟩:=List.mem_map.1 hi
     exact ZnG (HRr.ok s hs) (ZkT none _ (HRr.ok s hs).ok)) (by rw[HEL.out];exact Zk8 HDS.out nd none 10 t))
   rw[HEL.out]at HSI
   clear hown
   go_wp2_with fail
   refine HSI.mono ?_
   rintro e w5 ⟨rfl,is',H5⟩
   have HB5:Hid (Below w.heap.size w w5):=hid (HB.trans H5.2)
   have HV5:Hid (VecV w5 _ (ZdV (ss.map Srs.ser) nd none 10 t) is'):=hid (by rw[ZlG];exact H5.1)
   go_wp2
   go_ret
   exact⟨_,is',rfl,HV5,HB5.out⟩
end Go.Proofs.YtcdgkkfipdoeeaaGreatDoor
