/- Parts. -/
import Derived.Test.YtpbemaaghbbocaaGreatDoorE20
import Derived.Test.YtpbemaaghbbocaaGreatDoorE17
import Derived.Deep.Onto
import Derived.Test.YtpbemaaghbbocaaGreatDoorE00
namespace Go.Proofs.YtpbemaaghbbocaaGreatDoor
open Go.RowKit LS
theorem RngV.kb{t:TypeId}{w w':World}{v:Value}{rs:List Str}(h:RngV w v rs)(hk:ZV t w w')(h0:311≠t)(h1:320≠t)(h2:313≠t):RngV w' v rs:=⟨hk.own h.row h0,fun s hs=>(h.ok s hs).kb hk h1 h2⟩
def Str.itm(s:Str)(v:Int):Itm:=⟨s.a,s.n,s.c,s.tx,s.qs,v⟩
theorem Zjn{w:World}{s:Str}(h:StrOk w s){v:Int}(hv:vOk v):ItmOk w (s.itm v):=⟨h.lb,hv⟩
theorem Zhr(op:Option Nat)(l:List (Int×Int))(hl:∀x∈l,smOk x):vOk (oneV op l):=by
 cases op with
 | some o=>exact Zeo _
 | none=>
  unfold oneV vOk
  simp only
  cases l with
  | nil=>decide
  | cons a l=>
   rw[List.getLastD_cons,←List.getLast_eq_getLastD (a:=a) (by simp:a::l≠[])]
   exact(hl _ (List.getLast_mem _)).2.2
def itms(op:Option Nat)(rs:List Str):List Itm:=rs.map fun s=>s.itm (oneV op s.sams)
theorem Zjo(op:Option Nat)(rs:List Str)(st:List Ser)(nd:Nd)(n t:Int)(h:rs.map Str.pr=Zbr st nd n t):(itms op rs).map Itm.el=Zdq st nd op n t:=by
 rw[ZqL,←h]
 unfold itms
 rw[List.map_map,List.map_map]
 rfl
theorem ZrO{s:Str}(h:s.sams≠[]):∃hj:s.sams.length - 1<s.sams.length,oneV none s.sams=(s.sams[s.sams.length - 1]).2:=by
 have hl:0<s.sams.length:=List.length_pos_iff.2 h
 refine⟨by omega,?_⟩
 unfold oneV
 simp only
 rw[←List.getLast_eq_getElem h]
 rw[List.getLastD_eq_getLast?,List.getLast?_eq_some_getLast h]
 rfl
set_option maxRecDepth 100000 in
set_option maxHeartbeats 4000000 in
theorem ZqZ(sv:Value)(ss:List Srs)(nm:ByteArray)(la:Option Addr)(ln lc:Nat)(nd:Nd)(t:Int)(w:World)(hst:StoP w sv ss)(hds:Dst (ss.map Srs.ser))(hnm:bl nm=nd.name)(hc:ZZ w (.slice la ln lc) nd.conds)(ht0 : -1000000≤t)(ht1:t≤1000000) :
  Calls Tryz.prog 135 #[sv,.agg #[.string nm,.slice la ln lc],.int .i64 t] w fun e w'=>∃v is,e=.returned v∧Hid (VecV w' v (ZbA (ss.map Srs.ser) nd none 10 t) is)∧Below w.heap.size w w':=by
 obtain⟨i0,hi,hz0,hz1,hz2⟩:=info_parts Tryz.infoItem
 obtain⟨sa,scp,rfl⟩:=Zj hst.row
 have HPR:Hid (∀W,Below w.heap.size w W→Calls Tryz.prog 134 #[.slice sa ss.length scp,.agg #[.string nm,.slice la ln lc],.int .i64 10,.int .i64 t] W _):=hid (fun W hW=>Zkh (.slice sa ss.length scp) ss nm la ln lc nd 10 t W (hst.below hW) hnm (hc.below hW) (by decide) (by decide) ht0 ht1)
 have HDS:Hid (Dst (ss.map Srs.ser)):=hds
 have HSL:Hid (ss.length≤30):=hst.len
 clear hst hnm hc hds
 go_enter Tryz.func135,Tryz.ntmps135
 go_wp2_with fail
 refine(HPR.out _ (by repeat first|exact Below.refl _ _|assumption|refine Below.alloc ?_ ?_ _|refine Below.setCell ?_ ?_ _|refine Zk ?_ _|refine Below.drew ?_|omega|(simp;omega)|simp)).mono ?_
 rintro e w1 ⟨rv,rs,rfl,HR,hb1⟩
 have HB1:Hid (Below w.heap.size w w1):=hid (Below.trans (by repeat first|exact Below.refl _ _|assumption|refine Below.alloc ?_ ?_ _|refine Below.setCell ?_ ?_ _|refine Zk ?_ _|refine Below.drew ?_|omega|(simp;omega)|simp) (hb1.mono (by simp)))
 obtain⟨ra,rcp,rfl⟩:=Zj HR.1.row
 have hrl:rs.length≤30:=by
  have h1:=congrArg List.length HR.2
  rw[List.length_map]at h1
  have h2:=Zkn (ss.map Srs.ser) nd 10 t
  rw[List.length_map]at h2
  have:=HSL.out
  omega
 clear hb1 HPR HSL
 have hw1:=HB1.size
 go_wp2
 go_loopw [7, 16] (fun v i wr => ∃ k : Nat, k ≤ rs.length ∧ i = .int .i64 k ∧ wr.ownsRow w.heap.size 255 3 v k (encs (itms none (rs.take k))) ∧ Hid (RngV wr (.slice ra rs.length rcp) rs) ∧ Hid (Below w.heap.size w wr))
   (fun _ i _=>rs.length - (intOf i).toNat)
 case atStart=>exact⟨0,Nat.zero_le _,rfl,World.ownsRow_nil _ _ _ _,hid HR.1,HB1⟩
 case round=>
  obtain⟨k,hk,rfl,hown,HRr,HB⟩:=hrel
  have hwr:=HB.size
  by_cases hlt:k<rs.length
  ·have hg:∃g,ra=some ⟨g,0,none⟩:=by
    obtain⟨g,cp',h⟩:=Zy HRr.row (by omega)
    injection h with h1;exact⟨g,h1⟩
   obtain⟨g,rfl⟩:=hg
   obtain⟨f1,f2,f3⟩:=ZiO rs k hlt
   have d1:=Zn HRr.row _ _ f1
   have d2:=Zn HRr.row _ _ f2
   have d3:=Zn HRr.row _ _ f3
   have HSO:Hid (StrOk wr rs[k]):=hid (HRr.ok _ (List.getElem_mem hlt))
   have HTK:Hid (itms none (rs.take (k+1))=itms none (rs.take k)++[(rs[k]).itm (oneV none (rs[k]).sams)]):=hid (by
    rw[List.take_succ_eq_append_getElem hlt];unfold itms;rw[List.map_append];rfl)
   generalize rs[k]=s at *
   clear f1 f2 f3
   have hkz:(k:Int)<(rs.length:Int):=by omega
   obtain⟨hj,hone⟩:=ZrO HSO.ne
   obtain⟨sg,soff,hsa,hsam⟩:=HSO.sam.resolve_left HSO.ne
   obtain⟨m1,m2⟩:=hsam.cells _ hj
   have hsl:=HSO.len
   have HVO:Hid (vOk (oneV none s.sams)):=hid (Zhr none _ HSO.ok)
   have HONE:Hid (oneV none s.sams=(s.sams[s.sams.length - 1]).2):=hone
   clear hone hsam
   rw[hsa]at d3
   obtain⟨sm,hsm⟩:∃sm,s.sams.length=sm+1:=⟨s.sams.length - 1,by omega⟩
   have hjz:((s.sams.length:Int) - 1)=(sm:Int):=by omega
   rw[hsm]at d3 hsl
   have e1:s.sams.length - 1=sm:=by omega
   have m1':wr.cell? ⟨sg,soff+sm*2,none⟩=some (.int .i64 (s.sams[s.sams.length - 1]).1):=by rw[←e1];exact m1
   have m2':wr.cell? ⟨sg,soff+sm*2+1,none⟩=some (.int .i64 (oneV none s.sams)):=by rw[HONE.out,←e1];exact m2
   clear m1 m2 hjz hsm e1 HONE
   generalize(s.sams[s.sams.length - 1]).1=tmx at *
   generalize oneV none s.sams=one at *
   have hsmz:((sm:Int)+1 - 1)=(sm:Int):=by omega
   have hsgl:sg<wr.heap.size:=World.block_lt_of_cell? _ _ m1'
   have n1:∀o,(wr.alloc o).cell? ⟨sg,soff+sm*2,none⟩=some (.int .i64 tmx):=fun o=>by rw[World.cell?_alloc_lt _ _ _ hsgl];exact m1'
   have n2:∀o,(wr.alloc o).cell? ⟨sg,soff+sm*2+1,none⟩=some (.int .i64 one):=fun o=>by rw[World.cell?_alloc_lt _ _ _ hsgl];exact m2'
   go_wp2_with (at_builtin;refine wpList_append_own _ rfl (.tmp 28) (.tmp 34) 252 rfl w.heap.size 255 i0 (.agg #[.slice none 0 0,.string ByteArray.empty,.int .i64 0]) 3 48 Tryz.underlying252 hi hz0 hz1 hz2 rfl (by decide) _ _ _ rfl (((hown.alloc _).alloc _).alloc _) ⟨wr.heap.size+2,0,none⟩ 1 1 [.slice s.a s.n s.c,.string s.tx,.int .i64 one] rfl rfl ?c1 ?c2 ?c3 ?c4 ?c5 ?_)
   case c1=>exact Zbg (by simp)
   case c2=>intro u hu;simp at hu;rcases hu with rfl|rfl|rfl <;> rfl
   case c3=>unfold maxLen;omega
   case c4=>omega
   case c5=>simp;omega
   intro v' w3 hown3 hgrow _
   have hb3:Below w.heap.size w w3:=(((HB.alloc (by omega) _).alloc (by simp;omega) _).alloc (by simp;omega) _).grown hgrow (by simp;omega) (fun q hq=>(hown.lt q hq).1)
   have hkb:∀o o' o'',ZV 255 wr (((wr.alloc o).alloc o').alloc o''):=fun o o' o''=>ZV.below ((Zbal.alloc (by simp) _).alloc (by simp;omega) _) _
   have hkb3:=(hkb _ _ _).trans (ZV.grown hgrow (((hown.alloc _).alloc _).alloc _))
   have hown4:w3.ownsRow w.heap.size 255 3 v' (k+1) (encs (itms none (rs.take (k+1)))):=by
    rw[HTK.out,Ze8];exact hown3
   have HR3:=hid (HRr.kb hkb3 (by decide) (by decide) (by decide))
   clear hown hgrow hown3 hkb hkb3 d1 d2 d3 m1' m2'
   have HB3:Hid _:=hid hb3
   clear hb3
   go_wp2
   go_roundw
   case rel=>exact⟨k+1,by omega,by go_num,hown4,HR3,HB3⟩
   case measure=>simp[intOf];omega
  ·obtain rfl:k=rs.length:=by omega
   rw[List.take_length]at hown
   have HEL:Hid ((itms none rs).map Itm.el=Zdq (ss.map Srs.ser) nd none 10 t):=hid (Zjo none rs _ nd 10 t HR.2)
   have hlen:(itms none rs).length=rs.length:=by unfold itms;rw[List.length_map]
   rw[←hlen]at hown
   have HSI := hid (ZhG w.heap.size _ (itms none rs) wr hown hwr (by omega) (fun i hi => by
     unfold itms at hi
     obtain⟨s,hs,rfl⟩:=List.mem_map.1 hi
     exact Zjn (HRr.ok s hs) (Zhr none _ (HRr.ok s hs).ok)) (by rw[HEL.out];exact Zhw HDS.out nd none 10 t))
   rw[HEL.out]at HSI
   clear hown
   go_wp2_with fail
   refine HSI.mono ?_
   rintro e w5 ⟨rfl,is',H5⟩
   have HB5:Hid (Below w.heap.size w w5):=hid (HB.trans H5.2)
   have HV5:Hid (VecV w5 _ (ZbA (ss.map Srs.ser) nd none 10 t) is'):=hid (by rw[ZhP];exact H5.1)
   go_wp2
   go_ret
   exact⟨_,is',rfl,HV5,HB5.out⟩
set_option maxHeartbeats 400000 in
theorem Zkp(s:ByteArray)(m:Int)(w:World)(hs:s.size≤6000)(hm:w.cell? ⟨14,0,none⟩=some (.int .i64 m)) :
  Calls Tryz.prog 139 #[.string s] w fun e w' => ∃ (a : Option Addr) (n cap : Nat) (ok : Bool), e = .returned (.tuple #[.slice a n cap, .bool ok]) ∧
    Hid (ok=(ZY (bl s)).isSome∧(ok=true→∃qs,ZbB w' 0 (.slice a n cap) n qs∧ZY (bl s)=some (qs.map blP)))∧Below w.heap.size w w':=by
 cases he:s.toList.isEmpty
 ·have hne:=Zeu he
  have hF:ZY (bl s)=ZS [] [] (split 44 (bl s)):=by unfold ZY;rw[if_neg hne]
  rw[hF]
  exact Zrs s m w hs hm he
 ·have HF:Hid (ZY (bl s)=some []):=hid (by rw[ZdW he];rfl)
  go_enter Tryz.func139,Tryz.ntmps139
  go_wp2
  go_ret2
  exact⟨none,0,0,true,rfl,⟨by rw[HF.out];rfl,fun _=>⟨[],⟨World.ownsRow_nil _ _ _ _,by omega,fun p hp=>nomatch hp⟩,HF.out⟩⟩,Below.refl _ _⟩
theorem Zrq{s:ByteArray}(m:Int)(w:World)(hs:s.size≤6000)(hm:w.cell? ⟨14,0,none⟩=some (.int .i64 m))(h:(ZY (bl s)).isSome=false) :
  Calls Tryz.prog 139 #[.string s] w fun e w'=>∃(a:Option Addr) (n cap:Nat),e=.returned (.tuple #[.slice a n cap,.bool false])∧Below w.heap.size w w':=by
 refine(Zkp s m w hs hm).mono ?_
 rintro e w' ⟨a,n,cap,ok,rfl,hok,hb⟩
 exact⟨a,n,cap,by rw[hok.1,h],hb⟩
theorem Zrr{s:ByteArray}(m:Int)(w:World)(hs:s.size≤6000)(hm:w.cell? ⟨14,0,none⟩=some (.int .i64 m))(h:(ZY (bl s)).isSome=true) :
  Calls Tryz.prog 139 #[.string s] w fun e w'=>∃(a:Option Addr) (n cap:Nat) (qs:List (ByteArray×ByteArray)),e=.returned (.tuple #[.slice a n cap,.bool true])∧Hid (ZbB w' 0 (.slice a n cap) n qs∧ZY (bl s)=some (qs.map blP))∧Below w.heap.size w w':=by
 refine(Zkp s m w hs hm).mono ?_
 rintro e w' ⟨a,n,cap,ok,rfl,hok,hb⟩
 have e:ok=true:=by rw[hok.1,h]
 subst e
 obtain⟨qs,h1,h2⟩:=hok.2 rfl
 exact⟨a,n,cap,qs,rfl,⟨h1,h2⟩,hb⟩
theorem box4{w w1:World}{x y z u:Value}{t:TypeId}(hb:Below (w.heap.size+1) (w.alloc (.cells #[x,y,z,u] t)) w1) :
  w1.cell? ⟨w.heap.size,0,none⟩=some x∧w1.cell? ⟨w.heap.size,1,none⟩=some y∧w1.cell? ⟨w.heap.size,2,none⟩=some z∧w1.cell? ⟨w.heap.size,3,none⟩=some u∧
  w1.frozen? ⟨w.heap.size,0,none⟩=false∧w1.frozen? ⟨w.heap.size,1,none⟩=false∧w1.frozen? ⟨w.heap.size,2,none⟩=false∧w1.frozen? ⟨w.heap.size,3,none⟩=false:=by
 have h:w1.heap[w.heap.size]?=some (.cells #[x,y,z,u] t (0,0)):=(hb.block _ (by omega)).trans (Go.Deep.blk_alloc_new _ _)
 refine⟨?_,?_,?_,?_,?_,?_,?_,?_⟩ <;> simp[World.cell?,World.frozen?,h]
theorem Zrw{s:ByteArray}(m:Int)(w:World)(hs:s.size≤6000)(hm:w.cell? ⟨14,0,none⟩=some (.int .i64 m))(h:Zbe (bl s)=none) :
  Calls Tryz.prog 140 #[.string s] w fun e w'=>∃sv:Value,e=.returned (.tuple #[sv,.bool false])∧Below w.heap.size w w':=by
 refine(Zkr s m w hs hm).mono ?_
 rintro e w' ⟨sv,ok,rfl,hok,hb⟩
 rcases hok.out with ⟨_,_,_,_,_,h',_⟩|⟨h',_⟩
 ·rw[h]at h';cases h'
 ·exact⟨sv,by rw[h'],hb⟩
theorem Zrx{s:ByteArray}{n:Nat}(m:Int)(w:World)(hs:s.size≤6000)(hm:w.cell? ⟨14,0,none⟩=some (.int .i64 m))(h:Zbe (bl s)=some n) :
  Calls Tryz.prog 140 #[.string s] w fun e w'=>∃a cap,e=.returned (.tuple #[.slice a n cap,.bool true])∧Hid (w'.ownsRow w.heap.size 313 2 (.slice a n cap) n (ZK (ZcQ (bl s))))∧Below w.heap.size w w':=by
 refine(Zkr s m w hs hm).mono ?_
 rintro e w' ⟨sv,ok,rfl,hok,hb⟩
 rcases hok.out with ⟨h1,a,n',cap,h2,h',h3⟩|⟨_,h'⟩
 ·rw[h]at h';obtain rfl:=Option.some.inj h'
  exact⟨a,cap,by rw[h1,h2],by rw[←h2];exact h3,hb⟩
 ·rw[h]at h';cases h'
def Zcm(w:World)(l:List UInt8)(nm:ByteArray)(lv:Value)(tx:ByteArray)(sv:Value)(sn:Nat):Prop:=∃(inside:List UInt8) (qs:List (ByteArray×ByteArray)),line l=some (bl nm,inside,sn)∧ZY inside=some (qs.map blP)∧ZbB w 0 lv qs.length qs∧bl tx=ZQ qs∧w.ownsRow 0 313 2 sv sn (ZK (Zbm l))
theorem Zcm.below{w w':World}{l:List UInt8}{nm:ByteArray}{lv:Value}{tx:ByteArray}{sv:Value}{sn:Nat}(h:Zcm w l nm lv tx sv sn)(hb:Below w.heap.size w w'):Zcm w' l nm lv tx sv sn:=by
 obtain⟨i,qs,h1,h2,h3,h4,h5⟩:=h;exact⟨i,qs,h1,h2,h3.below hb,h4,Zw h5 hb⟩
theorem Zcm.other{w w':World}{l:List UInt8}{nm:ByteArray}{lv:Value}{tx:ByteArray}{sv:Value}{sn:Nat}(h:Zcm w l nm lv tx sv sn){a:Nat}{c:Array Value}{fr:Nat×Nat}(hq:w.heap[a]?=some (.cells c 199 fr))(hg:∀j,j≠a→w'.heap[j]?=w.heap[j]?):Zcm w' l nm lv tx sv sn:=by
 obtain⟨i,qs,h1,h2,h3,h4,h5⟩:=h
 exact⟨i,qs,h1,h2,⟨Zfk h3.1 (fun j hj=>hg j (fun e=>ZE h3.1 hq (by decide) (by rw[hj,e]))),h3.2⟩,h4,Zfk h5 (fun j hj=>hg j (fun e=>ZE h5 hq (by decide) (by rw[hj,e])))⟩
def ZeC(w:World)(l:List UInt8)(nm:ByteArray)(lv:Value)(tx:ByteArray)(sv:Value)(sn:Nat)(ok:Bool):Prop:=(ok=true∧Zcm w l nm lv tx sv sn)∨(ok=false∧line l=none)
theorem Zov{w w':World}{m:Int}{B:Nat}(hm:w.cell? ⟨14,0,none⟩=some (.int .i64 m))(hb:Below B w w')(hB:14<B):w'.cell? ⟨14,0,none⟩=some (.int .i64 m):=
 (hb.cell (p:=⟨_,0,none⟩) hB).trans hm
set_option maxRecDepth 100000 in
set_option maxHeartbeats 2000000 in
theorem Zry(s:ByteArray)(m:Int)(w:World)(hs:s.size≤6000)(hm:w.cell? ⟨14,0,none⟩=some (.int .i64 m)) :
  Calls Tryz.prog 89 #[.string s] w fun e w' => ∃ (nm : ByteArray) (a : Option Addr) (n cap : Nat) (tx : ByteArray) (sa : Option Addr) (sn sc : Nat) (ok : Bool), e = .returned (.tuple #[.agg #[.string nm, .slice a n cap, .string tx, .slice sa sn sc], .bool ok]) ∧
    Hid (ZeC w' (bl s) nm (.slice a n cap) tx (.slice sa sn sc) sn ok)∧Below w.heap.size w w':=by
 have hgl:=World.block_lt_of_cell? _ _ hm
 have hm1 : ∀ o, (w.alloc o).cell? ⟨14, 0, none⟩ = some (.int .i64 m) := fun o => by
   rw[World.cell?_alloc_lt _ _ _ hgl];exact hm
 have hm2:∀o (j:Nat),((w.alloc o).drewN j).cell? ⟨14,0,none⟩=some (.int .i64 m):=fun o j=>hm1 o
 cases hc:cut 123 (bl s)with
 | none=>
  have HS:Hid (∀W nm lv tx sv,ZeC W (bl s) nm lv tx sv 0 false):=hid (fun _ _ _ _ _=>Or.inr ⟨rfl,Zfi hc⟩)
  have HC:Hid (cut 123 (bl s)=none):=hc
  clear hc
  go_enter Tryz.func89,Tryz.ntmps89
  go_wp2_with fail
  refine(ZeH m _ hs (hm1 _) HC.out).mono ?_
  rintro e w' ⟨a,b,rfl,hab,j,rfl⟩
  have hsb:b.size≤6000:=by rw[Z5 hab.2];simp
  go_wp2_with fail
  refine(ZeH m _ hsb (hm2 _ _) (by rw[hab.2];rfl)).mono ?_
  rintro e w' ⟨a2,b2,rfl,hab2,j2,rfl⟩
  go_wp2
  exact bodyPost_ret (v:=.tuple #[.agg #[.string ⟨#[]⟩,.slice none 0 0,.string ⟨#[]⟩,.slice none 0 0],.bool false]) (by simp[results,Tryz.results89,go_sem]) rfl ⟨⟨#[]⟩,none,0,0,⟨#[]⟩,none,0,0,false,rfl,hid (HS.out _ _ _ _ _),(by repeat first|exact Below.refl _ _|assumption|refine Below.alloc ?_ ?_ _|refine Below.setCell ?_ ?_ _|refine Zk ?_ _|refine Below.drew ?_|omega|(simp;omega)|simp)⟩
 | some p=>
  obtain⟨x,r⟩:=p
  have hxl:x.length≤s.size∧r.length≤s.size:=by rw[←Zg,(ZcI hc).1];simp;omega
  have HC:Hid (cut 123 (bl s)=some (x,r)):=hc
  clear hc
  cases hc2:cut 125 r with
  | none=>
   have HS:Hid (∀W nm lv tx sv,ZeC W (bl s) nm lv tx sv 0 false):=hid (fun _ _ _ _ _=>Or.inr ⟨rfl,ZeJ HC.out hc2⟩)
   have HC2:Hid (cut 125 r=none):=hc2
   clear hc2
   go_enter Tryz.func89,Tryz.ntmps89
   go_wp2_with fail
   refine(ZdD m _ hs (hm1 _) HC.out).mono ?_
   rintro e w' ⟨a,b,rfl,hab,j,rfl⟩
   have hsb:b.size≤6000:=by rw[Z5 hab.2];omega
   go_wp2_with fail
   refine(ZeH m _ hsb (hm2 _ _) (by rw[hab.2];exact HC2.out)).mono ?_
   rintro e w' ⟨a2,b2,rfl,hab2,j2,rfl⟩
   go_wp2
   exact bodyPost_ret (v:=.tuple #[.agg #[.string ⟨#[]⟩,.slice none 0 0,.string ⟨#[]⟩,.slice none 0 0],.bool false]) (by simp[results,Tryz.results89,go_sem]) rfl ⟨⟨#[]⟩,none,0,0,⟨#[]⟩,none,0,0,false,rfl,hid (HS.out _ _ _ _ _),(by repeat first|exact Below.refl _ _|assumption|refine Below.alloc ?_ ?_ _|refine Below.setCell ?_ ?_ _|refine Zk ?_ _|refine Below.drew ?_|omega|(simp;omega)|simp)⟩
  | some q=>
   obtain⟨y,z⟩:=q
   have hyl:y.length≤r.length∧z.length≤r.length:=by rw[(ZcI hc2).1];simp;omega
   have HC2:Hid (cut 125 r=some (y,z)):=hc2
   have hline:=ZeK HC.out hc2
   clear hc2
   cases hn:Zx x
   ·have HS:Hid (∀W nm lv tx sv,ZeC W (bl s) nm lv tx sv 0 false):=hid (fun _ _ _ _ _=>Or.inr ⟨rfl,by rw[hline,hn];rfl⟩)
    have HN:Hid (Zx x=false):=hn
    clear hn hline
    go_enter Tryz.func89,Tryz.ntmps89
    go_wp2_with fail
    refine(ZdD m _ hs (hm1 _) HC.out).mono ?_
    rintro e w' ⟨a,b,rfl,hab,j,rfl⟩
    have hsa:a.size≤6000:=by rw[Z5 hab.1];omega
    have hsb:b.size≤6000:=by rw[Z5 hab.2];omega
    go_wp2_with fail
    refine(ZdD m _ hsb (hm2 _ _) (by rw[hab.2];exact HC2.out)).mono ?_
    rintro e w' ⟨a2,b2,rfl,hab2,j2,rfl⟩
    go_wp2_with fail
    refine(Zgq (b:=false) _ hsa (by rw[hab.1];exact HN.out)).mono ?_
    rintro e w' ⟨rfl,rfl⟩
    go_wp2
    exact bodyPost_ret (v:=.tuple #[.agg #[.string ⟨#[]⟩,.slice none 0 0,.string ⟨#[]⟩,.slice none 0 0],.bool false]) (by simp[results,Tryz.results89,go_sem]) rfl ⟨⟨#[]⟩,none,0,0,⟨#[]⟩,none,0,0,false,rfl,hid (HS.out _ _ _ _ _),(by repeat first|exact Below.refl _ _|assumption|refine Below.alloc ?_ ?_ _|refine Below.setCell ?_ ?_ _|refine Zk ?_ _|refine Below.drew ?_|omega|(simp;omega)|simp)⟩
   ·have HN:Hid (Zx x=true):=hn
    rw[hn]at hline
    clear hn
    go_enter Tryz.func89,Tryz.ntmps89
    have Hline:Hid _:=hline
    clear hline
    go_wp2_with fail
    refine(ZdD m _ hs (hm1 _) HC.out).mono ?_
    rintro e w' ⟨a,b,rfl,hab,j,rfl⟩
    have hsa:a.size≤6000:=by rw[Z5 hab.1];omega
    have hsb:b.size≤6000:=by rw[Z5 hab.2];omega
    go_wp2_with fail
    refine(ZdD m _ hsb (hm2 _ _) (by rw[hab.2];exact HC2.out)).mono ?_
    rintro e w' ⟨a2,b2,rfl,hab2,j2,rfl⟩
    have hsa2:a2.size≤6000:=by rw[Z5 hab2.1];omega
    have hsb2:b2.size≤6000:=by rw[Z5 hab2.2];omega
    go_wp2_with fail
    refine(Zgq (b:=true) _ hsa (by rw[hab.1];exact HN.out)).mono ?_
    rintro e w' ⟨rfl,rfl⟩
    cases hlb:(ZY y).isSome
    ·have HS:Hid (∀W nm lv tx sv,ZeC W (bl s) nm lv tx sv 0 false):=hid (fun _ _ _ _ _=>Or.inr ⟨rfl,by rw[Hline.out,hlb];rfl⟩)
     have HL:Hid ((ZY y).isSome=false):=hlb
     clear hlb
     go_wp2_with fail
     refine(Zrq m _ hsa2 (hm2 _ _) (by rw[hab2.1];exact HL.out)).mono ?_
     rintro e w3 ⟨la,ln,lc,rfl,hb3⟩
     have hb3':Below (w.heap.size+1) (w.alloc (.cells #[.string ⟨#[]⟩,.slice none 0 0,.string ⟨#[]⟩,.slice none 0 0] 199)) w3:=(ZgA hb3).mono (B':=w.heap.size+1) (by simp)
     have hB3:Below w.heap.size w w3:=((Below.refl w.heap.size w).alloc (Nat.le_refl _) _).trans (hb3'.mono (by omega))
     obtain⟨k0,k1,k2,k3,g0,g1,g2,g3⟩:=box4 hb3'
     clear hb3 hb3'
     go_wp2
     exact bodyPost_ret (v:=.tuple #[.agg #[.string ⟨#[]⟩,.slice none 0 0,.string ⟨#[]⟩,.slice none 0 0],.bool false]) (by simp[results,Tryz.results89,go_sem,k0,k1,k2,k3]) rfl ⟨⟨#[]⟩,none,0,0,⟨#[]⟩,none,0,0,false,rfl,hid (HS.out _ _ _ _ _),(by repeat first|exact Below.refl _ _|assumption|refine Below.alloc ?_ ?_ _|refine Below.setCell ?_ ?_ _|refine Zk ?_ _|refine Below.drew ?_|omega|(simp;omega)|simp)⟩
    ·have HL:Hid ((ZY y).isSome=true):=hlb
     rw[hlb]at Hline
     clear hlb
     go_wp2_with fail
     refine(Zrr m _ hsa2 (hm2 _ _) (by rw[hab2.1];exact HL.out)).mono ?_
     rintro e w3 ⟨la,ln,lc,qs,rfl,HQ,hb3⟩
     have hz3:w.heap.size+1≤w3.heap.size:=by have:=hb3.size;simp at this;omega
     have hm3:w3.cell? ⟨14,0,none⟩=some (.int .i64 m):=Zov (hm2 _ _) hb3 (by simp;omega)
     have hb3':Below (w.heap.size+1) (w.alloc (.cells #[.string ⟨#[]⟩,.slice none 0 0,.string ⟨#[]⟩,.slice none 0 0] 199)) w3:=(ZgA hb3).mono (B':=w.heap.size+1) (by simp)
     have hB3:Below w.heap.size w w3:=((Below.refl w.heap.size w).alloc (Nat.le_refl _) _).trans (hb3'.mono (by omega))
     clear hb3
     cases hsm:Zbe z with
     | none=>
      have HS:Hid (∀W nm lv tx sv,ZeC W (bl s) nm lv tx sv 0 false):=hid (fun _ _ _ _ _=>Or.inr ⟨rfl,by rw[Hline.out,hsm];rfl⟩)
      have HM:Hid (Zbe z=none):=hsm
      clear hsm
      go_wp2_with fail
      refine(Zrw m _ hsb2 hm3 (by rw[hab2.2];exact HM.out)).mono ?_
      rintro e w4 ⟨sv,rfl,hb4⟩
      obtain⟨k0,k1,k2,k3,g0,g1,g2,g3⟩:=box4 (hb3'.trans (hb4.mono hz3))
      have hB4:Below w.heap.size w w4:=hB3.trans (hb4.mono (by omega))
      clear hb3' hb4 hB3
      go_wp2
      exact bodyPost_ret (v:=.tuple #[.agg #[.string ⟨#[]⟩,.slice none 0 0,.string ⟨#[]⟩,.slice none 0 0],.bool false]) (by simp[results,Tryz.results89,go_sem,k0,k1,k2,k3]) rfl ⟨⟨#[]⟩,none,0,0,⟨#[]⟩,none,0,0,false,rfl,hid (HS.out _ _ _ _ _),(by repeat first|exact Below.refl _ _|assumption|refine Below.alloc ?_ ?_ _|refine Below.setCell ?_ ?_ _|refine Zk ?_ _|refine Below.drew ?_|omega|(simp;omega)|simp)⟩
     | some n=>
      have HS:Hid (line (bl s)=some (x,y,n)):=hid (by rw[Hline.out,hsm];rfl)
      have HSA:Hid (Zbm (bl s)=ZcQ z):=hid (Zkx HN.out HC.out HC2.out)
      have HM:Hid (Zbe z=some n):=hsm
      clear hsm
      go_wp2_with fail
      refine(Zrx m _ hsb2 hm3 (by rw[hab2.2];exact HM.out)).mono ?_
      rintro e w4 ⟨sa,sc,rfl,HSR,hb4⟩
      have HR4:Hid (ZbB w4 0 (.slice la ln lc) ln qs):=ZbB.below HQ.1 hb4
      have hb44:=hb3'.trans (hb4.mono hz3)
      have hz4:w.heap.size+1≤w4.heap.size:=Nat.le_trans hz3 hb4.size
      have hB4:Below w.heap.size w w4:=hB3.trans (hb4.mono (by omega))
      clear hb3' hb4 hB3
      go_wp2_with fail
      refine(Zka _ _ _ w4 qs HR4.out).mono ?_
      rintro e w5 ⟨oa,oc,rfl,hr5,hb5⟩
      have hqn:qs.length=ln:=by have:=HR4.1.1;rw[ZfS]at this;omega
      have HSV:Hid (Zcm w5 (bl s) a (.slice oa ln oc) ⟨(ZQ qs).toArray⟩ (.slice sa n sc) n):=hid ⟨y,qs,by rw[HS.out,hab.1],by rw[←hab2.1];exact HQ.2,by rw[hqn];exact hr5,Zc4 _,by rw[HSA.out,←hab2.2];exact Zw (Zhv HSR.out) hb5⟩
      clear hqn
      obtain⟨k0,k1,k2,k3,g0,g1,g2,g3⟩:=box4 (hb44.trans (hb5.mono hz4))
      have HBX:Hid (w5.heap[w.heap.size]?=some (.cells #[.string ⟨#[]⟩,.slice none 0 0,.string ⟨#[]⟩,.slice none 0 0] 199 (0,0))):=hid (((hb44.trans (hb5.mono hz4)).block _ (by omega)).trans (Go.Deep.blk_alloc_new _ _))
      have hB5:Below w.heap.size w w5:=hB4.trans (hb5.mono (by omega))
      clear hb44 hb5 hr5 hB4
      go_wp2
      exact bodyPost_ret (v:=.tuple #[.agg #[.string a,.slice oa ln oc,.string ⟨(ZQ qs).toArray⟩,.slice sa n sc],.bool true]) (by simp[results,Tryz.results89,go_sem,k0,k1,k2,k3]) rfl ⟨a,oa,ln,oc,_,sa,n,sc,true,rfl,hid (Or.inl ⟨rfl,HSV.other HBX.out (fun j hj=>by first|rfl|(repeat rw[Go.Deep.blk_setCell_other _ _ _ _ (by exact hj)]))⟩),(by repeat first|exact Below.refl _ _|assumption|refine Below.alloc ?_ ?_ _|refine Below.setCell ?_ ?_ _|refine Zk ?_ _|refine Below.drew ?_|omega|(simp;omega)|simp)⟩
theorem Zio(i:Int)(what:Value)(w:World) :
  Calls Tryz.prog 90 #[.int .i64 i,.iface 389 what] w fun e w'=>e=.returned (.iface 94 (.pointer (some ⟨w.heap.size,0,none⟩)))∧w'=w.alloc (.cells #[.string ⟨#[108,105,110,101]⟩,.int .i64 i,.iface 389 what] 98):=by
 go_enter Tryz.func90,Tryz.ntmps90
 go_wp2
 go_ret
 exact⟨rfl,rfl⟩
theorem Tryz.infoSeries:(Tryz.prog.info? 199).map (fun i=>(i.zero,i.size,i.bytes))=some (some (.agg #[.string ByteArray.empty,.slice none 0 0,.string ByteArray.empty,.slice none 0 0]),4,80):=by kernel_rfl
theorem Zmy{W:World}{a:Nat}{u v x z:Value}(h0:W.cell? ⟨a,0,none⟩=some u)(h1:W.cell? ⟨a,1,none⟩=some v)(h2:W.cell? ⟨a,2,none⟩=some x)(h3:W.cell? ⟨a,3,none⟩=some z):∀j y,[u,v,x,z][j]?=some y→W.cell? ((⟨a,0,none⟩:Addr).add j)=some y:=by
 intro j y hj
 rw[Zdy]
 match j,hj with
 | 0,hj=>simp at hj;subst hj;exact h0
 | 1,hj=>simp at hj;subst hj;exact h1
 | 2,hj=>simp at hj;subst hj;exact h2
 | 3,hj=>simp at hj;subst hj;exact h3
def Zb5:List (Value×Value×Value)→List Value
 | []=>[]
 | r::rs=>r.1::r.2.1::r.2.2::Zb5 rs
theorem ZnX(a b:List (Value×Value×Value)):Zb5 (a++b)=Zb5 a++Zb5 b:=by
 induction a with
 | nil=>rfl
 | cons r a ih=>simp[Zb5,ih]
theorem Zi4(rs:List (Value×Value×Value))(j:Nat):(Zb5 rs)[j*3]?=rs[j]?.map (·.1)∧(Zb5 rs)[j*3+1]?=rs[j]?.map (·.2.1)∧(Zb5 rs)[j*3+2]?=rs[j]?.map (·.2.2):=by
 induction rs generalizing j with
 | nil=>simp[Zb5]
 | cons r rs ih=>
  cases j with
  | zero=>simp[Zb5]
  | succ j=>
   obtain⟨h1,h2,h3⟩:=ih j
   refine⟨?_,?_,?_⟩
   ·rw[show(j+1)*3=j*3+1+1+1 by omega];simpa [Zb5] using h1
   ·rw[show(j+1)*3+1=j*3+1+1+1+1 by omega];simpa [Zb5] using h2
   ·rw[show(j+1)*3+2=j*3+2+1+1+1 by omega];simpa [Zb5] using h3
def Zbw:List (Value×Value×Value×Value)→List Value
 | []=>[]
 | r::rs=>r.1::r.2.1::r.2.2.1::r.2.2.2::Zbw rs
theorem ZnY(a b:List (Value×Value×Value×Value)):Zbw (a++b)=Zbw a++Zbw b:=by
 induction a with
 | nil=>rfl
 | cons r a ih=>simp[Zbw,ih]
theorem ZnZ(rs:List (Value×Value×Value×Value))(j:Nat):(Zbw rs)[j*4]?=rs[j]?.map (·.1)∧(Zbw rs)[j*4+1]?=rs[j]?.map (·.2.1)∧(Zbw rs)[j*4+2]?=rs[j]?.map (·.2.2.1)∧(Zbw rs)[j*4+3]?=rs[j]?.map (·.2.2.2):=by
 induction rs generalizing j with
 | nil=>simp[Zbw]
 | cons r rs ih=>
  cases j with
  | zero=>simp[Zbw]
  | succ j=>
   obtain⟨h1,h2,h3,h4⟩:=ih j
   refine⟨?_,?_,?_,?_⟩
   ·rw[show(j+1)*4=j*4+1+1+1+1 by omega];simpa [Zbw] using h1
   ·rw[show(j+1)*4+1=j*4+1+1+1+1+1 by omega];simpa [Zbw] using h2
   ·rw[show(j+1)*4+2=j*4+2+1+1+1+1 by omega];simpa [Zbw] using h3
   ·rw[show(j+1)*4+3=j*4+3+1+1+1+1 by omega];simpa [Zbw] using h4
def Zdw(rs:List (Value×Value×Value×Value))(es:List Entry):Prop:=rs.length=es.length∧∀j (h:j<es.length),∃nm a n c tx sa sc,rs[j]?=some (.string nm,.slice a n c,.string tx,.slice sa (es[j]).count sc)
theorem Zdw.snoc{rs:List (Value×Value×Value×Value)}{es:List Entry}(h:Zdw rs es)(x:Entry)(nm:ByteArray)(a:Option Addr)(n c:Nat)(tx:ByteArray)(sa:Option Addr)(sc:Nat) :
  Zdw (rs++[(.string nm,.slice a n c,.string tx,.slice sa x.count sc)]) (es++[x]):=by
 refine⟨by simp[h.1],fun j hj=>?_⟩
 by_cases hlt:j<es.length
 ·obtain⟨nm',a',n',c',tx',sa',sc',e⟩:=h.2 j hlt
  exact⟨nm',a',n',c',tx',sa',sc',by rw[List.getElem?_append_left (by rw[h.1];exact hlt),e,List.getElem_append_left hlt]⟩
 ·have hj':j=es.length:=by simp at hj;omega
  subst hj'
  refine⟨nm,a,n,c,tx,sa,sc,?_⟩
  rw[List.getElem?_append_right (by rw[h.1];exact Nat.le_refl _),h.1];simp
theorem Zcm.grown{w w':World}{l:List UInt8}{nm:ByteArray}{lv:Value}{tx:ByteArray}{sv:Value}{sn:Nat}(h:Zcm w l nm lv tx sv sn){b:Nat}{e:TypeId}{s:Nat}{v:Value}{n:Nat}{xs:List Value}(hg:w.grownBy w' v.ownBlock)(hv:w.ownsRow b e s v n xs)(h1:320≠e)(h2:313≠e):Zcm w' l nm lv tx sv sn:=by
 obtain⟨i,qs,e1,e2,e3,e4,e5⟩:=h
 exact⟨i,qs,e1,e2,⟨e3.1.kept hg (Zed e3.1 hv h1),e3.2⟩,e4,e5.kept hg (Zed e5 hv h2)⟩
def AllV(w:World)(rs:List (Value×Value×Value×Value))(es:List Entry)(ps:List (List UInt8)):Prop:=∀j (h:j<es.length),∃(nm:ByteArray) (a:Option Addr) (n c:Nat) (tx:ByteArray) (sa:Option Addr) (sc:Nat),rs[j]?=some (.string nm,.slice a n c,.string tx,.slice sa (es[j]).count sc)∧Zcm w (ps.getD (es[j]).at_ []) nm (.slice a n c) tx (.slice sa (es[j]).count sc) (es[j]).count∧line (ps.getD (es[j]).at_ [])=some ((es[j]).name,(es[j]).inside,(es[j]).count)
theorem AllV.below {w w' : World} {rs : List (Value × Value × Value × Value)} {es : List Entry} {ps : List (List UInt8)} (h : AllV w rs es ps) (hb : Below w.heap.size w w') : AllV w' rs es ps := fun j hj => by
  obtain⟨nm,a,n,c,tx,sa,sc,e1,e2,e3⟩:=h j hj;exact⟨nm,a,n,c,tx,sa,sc,e1,e2.below hb,e3⟩
theorem AllV.grown {w w' : World} {rs : List (Value × Value × Value × Value)} {es : List Entry} {ps : List (List UInt8)} (h : AllV w rs es ps) {b : Nat} {e : TypeId} {s : Nat} {v : Value} {n : Nat} {xs : List Value} (hg : w.grownBy w' v.ownBlock) (hv : w.ownsRow b e s v n xs) (h1 : 320 ≠ e) (h2 : 313 ≠ e) : AllV w' rs es ps := fun j hj => by
  obtain⟨nm,a,n,c,tx,sa,sc,e1,e2,e3⟩:=h j hj;exact⟨nm,a,n,c,tx,sa,sc,e1,e2.grown hg hv h1 h2,e3⟩
theorem AllV.snoc{w:World}{rs:List (Value×Value×Value×Value)}{es:List Entry}{ps:List (List UInt8)}(hl:rs.length=es.length)(h:AllV w rs es ps)(z:Entry)(nm:ByteArray)(a:Option Addr)(n c:Nat)(tx:ByteArray)(sa:Option Addr)(sc:Nat)
  (h1:Zcm w (ps.getD z.at_ []) nm (.slice a n c) tx (.slice sa z.count sc) z.count) (h2:line (ps.getD z.at_ [])=some (z.name,z.inside,z.count)):AllV w (rs++[(.string nm,.slice a n c,.string tx,.slice sa z.count sc)]) (es++[z]) ps:=fun j hj=>by
 by_cases hlt:j<es.length
 ·obtain⟨nm',a',n',c',tx',sa',sc',e1,e2⟩:=h j hlt
  refine⟨nm',a',n',c',tx',sa',sc',?_⟩
  rw[List.getElem?_append_left (by rw[hl];exact hlt),List.getElem_append_left hlt]
  exact⟨e1,e2⟩
 ·have hj':j=es.length:=by simp at hj;omega
  subst hj'
  refine⟨nm,a,n,c,tx,sa,sc,?_⟩
  rw[List.getElem?_append_right (by rw[hl];exact Nat.le_refl _),hl]
  simp only[Nat.sub_self,List.getElem?_cons_zero,List.getElem_append_right (Nat.le_refl _),List.getElem_cons_zero]
  exact⟨trivial,h1,h2⟩
set_option maxRecDepth 100000 in
set_option maxHeartbeats 2000000 in
theorem Zrt(g:Nat)(ps:List (List UInt8))(n:Nat)(A:Nat→Addr)(m:Int)(w:World)(hn:Hid (n=ps.length))(hn6:n≤6001)(hp6:Hid (∀i,i<ps.length→(ps.getD i []).length≤6000))(hrow:ZeD w g ps)(hv:Vars w A m) :
  Calls Tryz.prog 43 #[.slice (some ⟨g, 0, none⟩) n n] w fun e w' => Below w.heap.size w w' ∧
    ((∃(i:Nat) (fa:Nat),e=.returned (.tuple #[.slice none 0 0,.iface 94 (.pointer (some ⟨fa,0,none⟩))])∧w'.heap[fa]?=some (.cells #[.string ⟨#[108,105,110,101]⟩,.int .i64 i,.iface 389 (.pointer (some (A 4)))] 98 (0,0))∧Hid (ZI 0 [] ps=.inl i))∨
     (∃(v:Value) (es:List Entry) (rs:List (Value×Value×Value×Value)),e=.returned (.tuple #[v,.nilIface])∧w'.ownsRow 0 199 4 v es.length (Zbw rs)∧Hid (Zdw rs es∧ZI 0 [] ps=.inr es)∧Hid (AllV w' rs es ps))):=by
 obtain⟨i0,hi,hz0,hz1,hz2⟩:=info_parts Tryz.infoSeries
 have hgl:g<w.heap.size:=hrow.1
 go_enter Tryz.func43,Tryz.ntmps43
 go_wp2
 go_loopw [4, 11] (fun v i wr => ∃ (k : Nat) (es : List Entry) (rs : List (Value × Value × Value × Value)), k ≤ n ∧ i = .int .i64 k ∧ es.length ≤ k ∧ wr.ownsRow w.heap.size 199 4 v es.length (Zbw rs) ∧ Hid (Zdw rs es ∧ ZI 0 [] ps = ZI k es (ps.drop k)) ∧ Hid (AllV wr rs es ps) ∧ Below w.heap.size w wr)
   (fun _ i _=>n - (intOf i).toNat)
 case atStart=>exact⟨0,[],[],Nat.zero_le _,rfl,Nat.zero_le _,World.ownsRow_nil _ _ _ _,⟨⟨rfl,fun j h=>by simp at h⟩,rfl⟩,hid (fun j h=>by simp at h),Below.refl _ _⟩
 case round=>
  obtain⟨k,es,rs,hk,rfl,hek,hown,HA,HAV,hbr⟩:=hrel
  have hwr:w.heap.size≤wr.heap.size:=hbr.size
  have hvr:=hv.below hbr
  by_cases hlt:k<n
  ·have hkl:k<ps.length:=by rw[←hn.out];exact hlt
   obtain⟨sk,hck,hsk⟩:=(hrow.below hbr hgl).2 k hkl
   have hsk6:sk.size≤6000:=by rw[Z5 hsk];exact hp6.out k hkl
   have HK:Hid (bl sk=ps.getD k []):=hsk
   clear hsk
   cases he:sk.toList.isEmpty
   ·have HNE:Hid (ps.getD k []≠[]):=by rw[←HK.out];exact Zeu he
    have hmr:=hvr.max
    have hst:=hvr.sent 4 (by decide)
    go_wp2_with fail
    refine(Zry sk m _ hsk6 hmr).mono ?_
    rintro e w2 ⟨nm,la,ln,lc,tx,sa,sn,sc,ok,rfl,hser,hb2⟩
    have hst2:w2.cell? ⟨4,0,none⟩=some (.iface 389 (.pointer (some (A 4)))):=(hvr.below hb2).sent _ (by decide)
    have hst3:∀o,(w2.alloc o).cell? ⟨4,0,none⟩=some (.iface 389 (.pointer (some (A 4)))):=fun o=>((hvr.below hb2).alloc o).sent _ (by decide)
    have hbw:Below w.heap.size w w2:=hbr.trans (hb2.mono hwr)
    have hw2:w.heap.size≤w2.heap.size:=hbw.size
    have hown2:=Zw hown hb2
    clear hst hmr hvr
    cases ok
    ·have HF:Hid (ZI 0 [] ps=.inl k):=hid (by
      rw[HA.2];refine ZjH hkl HNE.out ?_
      rw[←HK.out]
      rcases hser.out with ⟨h,_⟩|⟨_,h⟩
      ·cases h
      ·exact h)
     go_wp2_with (go_at_call 90;refine(Zio _ _ _).mono ?_;rintro e w' ⟨rfl,rfl⟩)
     go_ret2
     refine⟨(by repeat first|exact Below.refl _ _|assumption|refine Below.alloc ?_ ?_ _|refine Below.setCell ?_ ?_ _|refine Zk ?_ _|refine Below.drew ?_|omega|(simp;omega)|simp),Or.inl ⟨k,w2.heap.size+1,rfl,?_,HF⟩⟩
     rw[show w2.heap.size+1=(w2.alloc (.cells #[.string nm,.slice la ln lc,.string tx,.slice sa sn sc] 199)).heap.size by simp]
     exact Array.getElem?_push_size
    ·have HSV:Hid (Zcm w2 (bl sk) nm (.slice la ln lc) tx (.slice sa sn sc) sn):=hid (by
      rcases hser.out with ⟨_,h⟩|⟨h,_⟩
      ·exact h
      ·cases h)
     obtain⟨na,ins,hli⟩:∃name inside,line (bl sk)=some (name,inside,sn):=by
      obtain⟨ins,qs,h,_⟩:=HSV.out;exact⟨_,ins,h⟩
     have HAV2:Hid (AllV w2 (rs++[(.string nm,.slice la ln lc,.string tx,.slice sa sn sc)]) (es++[⟨k,na,ins,sn⟩]) ps):=hid (AllV.snoc HA.1.1 (HAV.below hb2) ⟨k,na,ins,sn⟩ nm la ln lc tx sa sc (by show Zcm w2 (ps.getD k []) nm (.slice la ln lc) tx (.slice sa sn sc) sn;rw[←HK.out];exact HSV.out) (by show line (ps.getD k [])=some (na,ins,sn);rw[←HK.out];exact hli))
     have HF:Hid (Zdw (rs++[(.string nm,.slice la ln lc,.string tx,.slice sa sn sc)]) (es++[⟨k,na,ins,sn⟩])∧ZI 0 [] ps=ZI (k+1) (es++[⟨k,na,ins,sn⟩]) (ps.drop (k+1))):=
      ⟨HA.1.snoc ⟨k,na,ins,sn⟩ nm la ln lc tx sa sc,by rw[HA.2];exact ZjI hkl HNE.out (by rw[←HK.out];exact hli)⟩
     clear hli hser
     go_wp2_with (at_builtin;refine wpList_append_own _ rfl (.tmp 28) (.tmp 30) 60 rfl w.heap.size 199 i0 (.agg #[.string ByteArray.empty,.slice none 0 0,.string ByteArray.empty,.slice none 0 0]) 4 80 Tryz.underlying60 hi hz0 hz1 hz2 rfl (by decide) _ _ _ rfl ((hown2.alloc _).alloc _) ⟨w2.heap.size+1,0,none⟩ 1 1 [.string nm,.slice la ln lc,.string tx,.slice sa sn sc] rfl rfl ?c1 ?c2 ?c3 ?c4 ?c5 ?_)
     case c1=>exact Zmy (by simp) (by simp) (by simp) (by simp)
     case c2=>intro u hu;simp at hu;rcases hu with rfl|rfl|rfl|rfl <;> rfl
     case c3=>unfold maxLen;omega
     case c4=>omega
     case c5=>simp;omega
     intro v' w3 hown3 hgrow _
     have hb3:Below w.heap.size w w3:=((hbw.alloc (by omega) _).alloc (by simp;omega) _).grown hgrow (by simp;omega) (fun q hq=>(hown2.lt q hq).1)
     have hown4:w3.ownsRow w.heap.size 199 4 v' (es++[(⟨k,na,ins,sn⟩:Entry)]).length (Zbw (rs++[(.string nm,.slice la ln lc,.string tx,.slice sa sn sc)])):=by
      rw[ZnY,List.length_append];exact hown3
     have hb23:∀o o':Obj,Below w2.heap.size w2 ((w2.alloc o).alloc o'):=fun o o'=>Zbal.alloc (by simp) _
     have HAV3:Hid (AllV w3 (rs++[(.string nm,.slice la ln lc,.string tx,.slice sa sn sc)]) (es++[⟨k,na,ins,sn⟩]) ps):=hid ((HAV2.below (hb23 _ _)).grown hgrow ((hown2.alloc _).alloc _) (by decide) (by decide))
     clear hown2 hown hgrow hown3 hb23
     go_wp2
     go_roundw
     case rel=>exact⟨k+1,_,_,by omega,by go_num,by simp;omega,hown4,HF,HAV3,hb3⟩
     case measure=>simp[intOf];omega
   ·have HF:Hid (Zdw rs es∧ZI 0 [] ps=ZI (k+1) es (ps.drop (k+1))):=
     ⟨HA.1,by rw[HA.2];exact ZjJ hkl (by rw[←HK.out];exact ZdW he)⟩
    go_wp2
    go_roundw
    case rel=>exact⟨k+1,es,rs,by omega,by go_num,by omega,hown,HF,HAV,hbr⟩
    case measure=>simp[intOf];omega
  ·have HF:Hid (Zdw rs es∧ZI 0 [] ps=.inr es):=⟨HA.1,by rw[HA.2];exact ZjK (by rw[←hn.out];exact hlt)⟩
   go_wp2
   go_ret2
   exact⟨hbr,Or.inr ⟨_,es,rs,rfl,hown.mono (Nat.zero_le _),HF,HAV⟩⟩
end Go.Proofs.YtpbemaaghbbocaaGreatDoor
