/- Parts. -/
import Derived.Test.YtpbemaaghbbocaaGreatDoorE22
import Derived.Test.YtpbemaaghbbocaaGreatDoorE08
import Derived.BigQuiet
import Derived.Deep.QuietTactic
import Derived.Test.YtpbemaaghbbocaaGreatDoorE06
import Derived.Test.YtpbemaaghbbocaaGreatDoorE15
namespace Go.Proofs.YtpbemaaghbbocaaGreatDoor
open Go.RowKit LS
theorem Tryz.infoRSm:(Tryz.prog.info? 220).map (fun i=>(i.zero,i.size,i.bytes))=some (some (.agg #[.int .i64 0,.int .i64 0]),2,16):=by kernel_rfl
theorem Zdi{w0 w w':World}{v:Value}(h:Below w0.heap.size w0 w)(hg:w.grownBy w' v.ownBlock)(hv:∀q,v.ownBlock=some q→w0.heap.size≤q):Below w0.heap.size w0 w':=by
 refine⟨hg.os.trans h.os,hg.tape.trans h.tape,hg.output.trans h.output,Nat.le_trans h.size hg.size,?_⟩
 intro j hj
 rw[hg.block j (Nat.lt_of_lt_of_le hj h.size) (fun e=>by have:=hv j e.symm;omega),h.block j hj]
theorem BAt.ownGrown{w w':World}{a:Nat}{c:List Value}{t:TypeId}(h:BAt w a c t){base:Nat}{e:TypeId}{sz:Nat}{v:Value}{n:Nat}{xs:List Value}(ho:w.ownsRow base e sz v n xs)(hg:w.grownBy w' v.ownBlock)(ht:t≠e):BAt w' a c t:=
 (hg.block a h.lt (ZE ho h ht)).trans h
theorem Ztx(l:List (Int×Int))(k:Nat)(h:k<l.length)(n t:Int):ZF (l.take (k+1)) n t=ZF (l.take k) n t++(if t - n<l[k].1∧l[k].1≤t then [l[k]] else []):=by
 unfold ZF
 rw[List.take_succ_eq_append_getElem h,List.filter_append]
 congr 1
 by_cases hc:t - n<l[k].1∧l[k].1≤t
 ·rw[if_pos hc];simp[hc.1,hc.2]
 ·rw[if_neg hc]
  have:(decide (t - n<l[k].1) && decide (l[k].1≤t))=false:=by
   rw[Bool.and_eq_false_iff,decide_eq_false_iff_not,decide_eq_false_iff_not]
   by_cases h1:t - n<l[k].1
   ·right;intro h2;exact hc ⟨h1,h2⟩
   ·exact Or.inl h1
  simp only[List.filter_cons,this,List.filter_nil];rfl
theorem Zll(l:List (Int×Int))(n t:Int):(ZF l n t).length≤l.length:=List.length_filter_le _ _
set_option maxRecDepth 100000 in
set_option maxHeartbeats 4000000 in
theorem Zty(nm:ByteArray)(lv:Value)(la:Option Addr)(ln lc:Nat)(hlv:lv=.slice la ln lc)(sv:Value)(l:List (Int×Int))(n t:Int)(hn0:0≤n)(hn1:n≤1000)(ht0 : -1000000≤t)(ht1:t≤1000000)(w:World)(h:SamsV w sv l) :
  Calls Tryz.prog 101 #[.agg #[.string nm,lv,sv],.int .i64 n,.int .i64 t] w fun e w'=>∃rv:Value,e=.returned rv∧Hid (SamsV w' rv (ZF l n t))∧Below w.heap.size w w':=by
 obtain⟨sa,sc,rfl⟩:=Zj h.own
 subst hlv
 have HS:Hid (SamsV w (.slice sa l.length sc) l):=h
 have hlen:=h.len
 obtain⟨i0,hi,hz0,hz1,hz2⟩:=info_parts Tryz.infoRSm
 clear h
 go_enter Tryz.func101,Tryz.ntmps101
 go_wp2
 go_loopg [7,8] l.length (fun gk v7 v8 wr=>∃k:Nat,k≤l.length∧gk=l.length - k∧v8=.int .i64 k∧Hid (wr.ownsRow (w.heap.size+1) 220 2 v7 (ZF (l.take k) n t).length (ZK (ZF (l.take k) n t)))∧Hid (Below w.heap.size w wr)∧Hid (BAt wr w.heap.size [.string nm,.slice la ln lc,.slice sa l.length sc] 122))
 case atStart=>exact⟨0,Nat.zero_le _,rfl,rfl,World.ownsRow_nil _ _ _ _,hid Zbal,hid (Go.Deep.blk_alloc_new _ _)⟩
 case round=>
  obtain⟨k,hk,hgk,rfl,HO,HB,HBX⟩:=hrel
  have b2:=HBX.cell 2
  simp only[Zget]at b2
  obtain⟨av,cp,hv⟩:=Zj HO.out
  subst hv
  by_cases hlt:k<l.length
  ·obtain⟨g,cpx,hg⟩:=Zy HS.own (by omega)
   injection hg with hg1 _ hg2
   subst hg1 hg2
   have HSr:Hid (SamsV wr (.slice (some ⟨g,0,none⟩) l.length sc) l):=HS.below HB.out
   have r0:=Zn HSr.own _ _ (by rw[(Zfa l k).1,List.getElem?_eq_getElem hlt];rfl)
   have r1:=Zn HSr.own _ _ (by rw[(Zfa l k).2,List.getElem?_eq_getElem hlt];rfl)
   have HSN:=hid (Ztx l k hlt n t)
   have hxo:=HS.ok l[k] (List.getElem_mem hlt)
   unfold smOk at hxo
   obtain⟨⟨x,y⟩,hxy⟩:∃p,p=l[k]:=⟨_,rfl⟩
   rw[←hxy]at r0 r1 HSN hxo
   simp only at r0 r1 HSN hxo
   obtain⟨o1,o2,o3,o4⟩:=hxo
   have hwl:=Zll (l.take k) n t
   rw[List.length_take]at hwl
   clear hxy
   go_upto_region 6 with fail
   refine Z1 fun W hW=>?_
   have hbW:Below wr.heap.size wr W:=by rw[hW];exact Zbal
   have HX:Hid (BAt W wr.heap.size [.int .i64 x,.int .i64 y] 220):=hid (by rw[hW];exact Go.Deep.blk_alloc_new _ _)
   have HOW:=hid (Zw HO.out hbW)
   have HBW:Hid (Below w.heap.size w W):=HB.trans (hbW.mono HB.size)
   have HBXW:=hid (HBX.below hbW)
   have hzW:wr.heap.size<W.heap.size:=HX.lt
   have hz0':=HB.size
   clear hW hbW HO HB HBX r0 r1 b2 HSr
   have x0:=HX.cell 0
   have x1:=HX.cell 1
   simp only[Zget]at x0 x1
   by_cases hc1:t - n<x
   ·by_cases hc2:x≤t
    ·go_wp2_with (at_builtin;refine wpList_append_own _ rfl (.tmp 34) (.tmp 36) 120 rfl (w.heap.size+1) 220 i0 (.agg #[.int .i64 0,.int .i64 0]) 2 16 Tryz.underlying120 hi hz0 hz1 hz2 rfl (by decide) _ _ _ rfl (HOW.alloc _) ⟨W.heap.size,0,none⟩ 1 1 [.int .i64 x,.int .i64 y] rfl rfl (Zbg rfl) ?c2 ?c3 ?c4 ?c5 ?_)
     case c2=>exact⟨rfl,rfl⟩
     case c3=>unfold maxLen;omega
     case c4=>omega
     case c5=>omega
     intro v' w6 hown6 hgrow _
     have HB6:Hid (Below w.heap.size w w6):=hid (Zdi (HBW.alloc HBW.size _) hgrow (fun q hq=>by have:=(HOW.lt q hq).1;omega))
     have HBX6:=hid (BAt.ownGrown (HBXW.below Zbal) (HOW.alloc _) hgrow (by decide))
     have HO6:Hid (w6.ownsRow (w.heap.size+1) 220 2 v' (ZF (l.take (k+1)) n t).length (ZK (ZF (l.take (k+1)) n t))):=hid (by
      rw[HSN.out,if_pos ⟨hc1,hc2⟩,ZgV,List.length_append];exact hown6)
     clear hown6 hgrow
     go_wp2
     go_roundg (l.length - (k+1))
     case measure=>omega
     case rel=>exact⟨k+1,by omega,rfl,by go_num,HO6,HB6,HBX6⟩
    ·have HO6:Hid (W.ownsRow (w.heap.size+1) 220 2 (.slice av (ZF (l.take k) n t).length cp) (ZF (l.take (k+1)) n t).length (ZK (ZF (l.take (k+1)) n t))):=hid (by
      rw[HSN.out,if_neg (fun h=>hc2 h.2),List.append_nil];exact HOW.out)
     go_wp2
     go_roundg (l.length - (k+1))
     case measure=>omega
     case rel=>exact⟨k+1,by omega,rfl,by go_num,HO6,HBW,HBXW⟩
   ·have HO6:Hid (W.ownsRow (w.heap.size+1) 220 2 (.slice av (ZF (l.take k) n t).length cp) (ZF (l.take (k+1)) n t).length (ZK (ZF (l.take (k+1)) n t))):=hid (by
     rw[HSN.out,if_neg (fun h=>hc1 h.1),List.append_nil];exact HOW.out)
    go_wp2
    go_roundg (l.length - (k+1))
    case measure=>omega
    case rel=>exact⟨k+1,by omega,rfl,by go_num,HO6,HBW,HBXW⟩
  ·obtain rfl:k=l.length:=by omega
   have HO9:Hid (wr.ownsRow 0 220 2 (.slice av (ZF (l.take l.length) n t).length cp) (ZF l n t).length (ZK (ZF l n t))):=hid (by
    have:=ZdH HO.out;rw[List.take_length]at this ⊢;exact this)
   go_wp2
   go_ret
   exact⟨_,rfl,⟨HO9.out,Nat.le_trans (Zll _ _ _) hlen,fun x hx=>HS.ok x ((List.mem_filter.1 hx).1)⟩,HB.out⟩
set_option maxHeartbeats 400000 in
theorem Zrm(s:ByteArray)(w:World)(hs:s.size≤6000) :
  Calls Tryz.prog 99 #[.string s] w fun e w' => ∃ (a : Option Addr) (n cap : Nat) (ok : Bool), e = .returned (.tuple #[.slice a n cap, .bool ok]) ∧
    Hid ((ok=true∧Zbe (bl s)=some n)∨(ok=false∧Zbe (bl s)=none))∧Hid (ok=true→w'.ownsRow w.heap.size 220 2 (.slice a n cap) n (ZK (ZcQ (bl s))))∧Below w.heap.size w w':=by
 cases he:s.toList.isEmpty
 ·have hne:=Zeu he
  cases hl:bl s with
  | nil=>exact absurd hl hne
  | cons b t=>
   by_cases hb:b=32
   ·subst hb
    have hF:Zbe (32::t)=ZR (-1) 0 (split 32 t):=by unfold Zbe;simp[ZT]
    rw[hF]
    exact Zrn s t w hs he hl
   ·have HF:Hid (Zbe (b::t)=none):=hid (by unfold Zbe;simp[ZT,hb])
    have HL:Hid (bl s=b::t):=hl
    clear hl hne
    go_enter Tryz.func99,Tryz.ntmps99
    go_wp2_with fail
    refine(Zfq s 32 _ _ rfl hs).mono ?_
    rintro e w1 ⟨g,n,cp,bs,rfl,hn,hg0,hgl,hcells,hsp,hb1⟩
    have hb0:0<bs.length:=by
     have:bs.length=(split 32 (bl s)).length:=by rw[←hsp.out,List.length_map]
     rw[this];exact List.length_pos_iff.2 (Zez 32 (bl s))
    have hn0:0<n:=by omega
    have hc0:w1.cell? ⟨g,0,none⟩=some (.string bs[0]):=hcells.out 0 hb0
    have he0:bs[0].toList.isEmpty=false:=by
     rw[ZO,ZeN hsp.out 0 hb0,HL.out,Zfx 32 b t (by simp[hb])]
     cases split 32 t <;> rfl
    generalize bs[0]=s0 at hc0 he0
    have HN:Hid (n=bs.length):=hn
    clear hn
    go_wp2
    go_ret2
    exact⟨none,0,0,false,rfl,Or.inr ⟨rfl,HF.out⟩,hid (fun h=>by cases h),hb1⟩
 ·have HF:Hid (Zbe (bl s)=some 0):=hid (by rw[ZdW he];rfl)
  go_enter Tryz.func99,Tryz.ntmps99
  go_wp2
  go_ret2
  have HE:Hid (ZcQ (bl s)=[]):=hid (by rw[ZdW he];rfl)
  exact⟨none,0,0,true,rfl,Or.inl ⟨rfl,HF.out⟩,hid (fun _=>by rw[HE.out];exact World.ownsRow_nil _ _ _ _),Below.refl _ _⟩
set_option maxHeartbeats 400000 in
theorem Zrg(s:ByteArray)(w:World)(hs:s.size≤6000) :
  Calls Tryz.prog 98 #[.string s] w fun e w' => ∃ (a : Option Addr) (n cap : Nat) (ok : Bool), e = .returned (.tuple #[.slice a n cap, .bool ok]) ∧
    ((ok=true∧∃qs,w'.ownsRow w.heap.size 216 2 (.slice a n cap) qs.length (ZbD qs)∧Hid (ZY (bl s)=some (qs.map bl2)))∨(ok=false∧Hid (ZY (bl s)=none)))∧Below w.heap.size w w':=by
 cases he:s.toList.isEmpty
 ·have hF:ZY (bl s)=ZS [] [] (split 44 (bl s)):=by unfold ZY;rw[if_neg (Zeu he)]
  rw[hF]
  exact Zrh s w hs he
 ·have HF:Hid (ZY (bl s)=some (([]:List (ByteArray×ByteArray)).map bl2)):=hid (by rw[ZdW he];rfl)
  go_enter Tryz.func98,Tryz.ntmps98
  go_wp2
  go_ret2
  exact⟨none,0,0,true,rfl,Or.inl ⟨rfl,[],World.ownsRow_nil _ _ _ _,HF⟩,Below.refl _ _⟩
theorem ZpE{l:List UInt8}{a b:Nat}(ha:LS.seek 123 l=some a)(hb:LS.seek 125 l=some b)(hab:a<b) :
  cut 123 l=some (l.take a,l.drop (a+1))∧cut 125 (l.drop (a+1))=some ((l.take b).drop (a+1),l.drop (b+1)):=by
 refine⟨Ze7 ha,?_⟩
 obtain⟨x,y,hl,hx,hn⟩:=Zeh hb
 have e1:l.drop (a+1)=x.drop (a+1)++125::y:=by rw[hl,List.drop_append_of_le_length (by omega)]
 have e2:l.take b=x:=by rw[hl,←hx];simp
 have e3:l.drop (b+1)=y:=by rw[hl,←hx];simp
 rw[e1,e2,e3]
 exact ZgJ (fun h=>hn (List.mem_of_mem_drop h))
theorem ZpC{l:List UInt8}{a b:Nat}(ha:LS.seek 123 l=some a)(hb:LS.seek 125 l=some b)(hba:b<a):line l=none:=by
 obtain⟨x,y,hl,hx,hn⟩:=Zeh hb
 have hnm:Zx (l.take a)=false:=by
  have:(l.take a).all Zm=false:=by
   rw[List.all_eq_false]
   refine⟨125,?_,by decide⟩
   rw[List.mem_iff_getElem?]
   refine⟨b,?_⟩
   rw[List.getElem?_take,if_pos hba,hl,←hx];simp
  unfold Zx;rw[this];rfl
 have hc:=Ze7 ha
 cases hc2:cut 125 (l.drop (a+1))with
 | none=>exact ZeJ hc hc2
 | some q=>obtain⟨y,z⟩:=q;rw[ZeK hc hc2,hnm];rfl
theorem ZpF{l:List UInt8}{a:Nat}(ha:LS.seek 123 l=some a)(hb:LS.seek 125 l=none):line l=none:=by
 have hn:=(Zfw 125 l).1 hb
 refine ZeJ (Ze7 ha) ?_
 exact ZfN ((Zfw _ _).2 (fun h=>hn (List.mem_of_mem_drop h)))
theorem Zmm{w w1:World}{x y z x' y' z':Value}{t:TypeId}(hb:Below (w.heap.size+1+1) ((w.alloc (.cells #[x,y,z] t)).alloc (.cells #[x',y',z'] t)) w1) :
  (w1.cell? ⟨w.heap.size,0,none⟩=some x∧w1.cell? ⟨w.heap.size,1,none⟩=some y∧w1.cell? ⟨w.heap.size,2,none⟩=some z∧
  w1.frozen? ⟨w.heap.size,0,none⟩=false∧w1.frozen? ⟨w.heap.size,1,none⟩=false∧w1.frozen? ⟨w.heap.size,2,none⟩=false)∧
  (w1.cell? ⟨w.heap.size+1,0,none⟩=some x'∧w1.cell? ⟨w.heap.size+1,1,none⟩=some y'∧w1.cell? ⟨w.heap.size+1,2,none⟩=some z'∧
  w1.frozen? ⟨w.heap.size+1,0,none⟩=false∧w1.frozen? ⟨w.heap.size+1,1,none⟩=false∧w1.frozen? ⟨w.heap.size+1,2,none⟩=false):=by
 have h2:∀o,w1.cell? ⟨w.heap.size+1,o,none⟩=((w.alloc (.cells #[x,y,z] t)).alloc (.cells #[x',y',z'] t)).cell? ⟨w.heap.size+1,o,none⟩:=fun o=>hb.cell (p:=⟨_,o,none⟩) (Nat.lt_succ_self _)
 have f2:∀o,w1.frozen? ⟨w.heap.size+1,o,none⟩=((w.alloc (.cells #[x,y,z] t)).alloc (.cells #[x',y',z'] t)).frozen? ⟨w.heap.size+1,o,none⟩:=fun o=>hb.frozen (p:=⟨_,o,none⟩) (Nat.lt_succ_self _)
 have b1:Below (w.heap.size+1) (w.alloc (.cells #[x,y,z] t)) w1:=((Below.refl _ _).alloc (by simp) _).trans (hb.mono (by omega))
 obtain⟨k0,k1,k2,g0,g1,g2⟩:=box3 b1
 exact⟨⟨k0,k1,k2,g0,g1,g2⟩,by simp[h2,f2]⟩
set_option maxRecDepth 100000 in
set_option maxHeartbeats 2000000 in
theorem Zri(s:ByteArray)(w:World)(hs:s.size≤6000) :
  Calls Tryz.prog 51 #[.string s] w fun e w' => ∃ (nm : ByteArray) (la : Option Addr) (ln lc : Nat) (sa : Option Addr) (sn sc : Nat) (ok : Bool), e = .returned (.tuple #[.agg #[.string nm, .slice la ln lc, .slice sa sn sc], .bool ok]) ∧
    ((ok=true∧∃(inside:List UInt8) (qs:List (ByteArray×ByteArray)),w'.ownsRow w.heap.size 216 2 (.slice la ln lc) qs.length (ZbD qs)∧Hid (line (bl s)=some (bl nm,inside,sn)∧ZY inside=some (qs.map bl2)∧w'.ownsRow w.heap.size 220 2 (.slice sa sn sc) sn (ZK (Zbm (bl s)))))∨(ok=false∧Hid (line (bl s)=none)))∧Below w.heap.size w w':=by
 cases ha:LS.seek 123 (bl s)with
 | none=>
  have HL:Hid (line (bl s)=none):=Zfi (ZfN ha)
  have HA:Hid (LS.seek 123 (bl s)=none):=ha
  clear ha
  cases hb:LS.seek 125 (bl s)with
  | none=>
   have HB:Hid (LS.seek 125 (bl s)=none):=hb
   clear hb
   go_enter Tryz.func51,Tryz.ntmps51
   go_wp2_with fail
   refine(Zeg (c:=123) _ _ rfl hs HA.out).mono ?_
   rintro e w2 ⟨rfl,rfl⟩
   go_wp2_with fail
   refine(Zeg (c:=125) _ _ rfl hs HB.out).mono ?_
   rintro e w2 ⟨rfl,rfl⟩
   go_wp2
   exact bodyPost_ret (v:=.tuple #[.agg #[.string ⟨#[]⟩,.slice none 0 0,.slice none 0 0],.bool false]) (by simp[results,Tryz.results51,go_sem]) rfl ⟨⟨#[]⟩,none,0,0,none,0,0,false,rfl,Or.inr ⟨rfl,HL⟩,(by repeat first|exact Below.refl _ _|assumption|refine Below.alloc ?_ ?_ _|refine Below.setCell ?_ ?_ _|refine Zk ?_ _|refine Below.drew ?_|omega|(simp;omega)|simp)⟩
  | some b=>
   have HB:Hid (LS.seek 125 (bl s)=some b):=hb
   clear hb
   go_enter Tryz.func51,Tryz.ntmps51
   go_wp2_with fail
   refine(Zeg (c:=123) _ _ rfl hs HA.out).mono ?_
   rintro e w2 ⟨rfl,rfl⟩
   go_wp2_with fail
   refine(Zdd (c:=125) _ _ rfl hs HB.out).mono ?_
   rintro e w2 ⟨rfl,rfl⟩
   go_wp2
   exact bodyPost_ret (v:=.tuple #[.agg #[.string ⟨#[]⟩,.slice none 0 0,.slice none 0 0],.bool false]) (by simp[results,Tryz.results51,go_sem]) rfl ⟨⟨#[]⟩,none,0,0,none,0,0,false,rfl,Or.inr ⟨rfl,HL⟩,(by repeat first|exact Below.refl _ _|assumption|refine Below.alloc ?_ ?_ _|refine Below.setCell ?_ ?_ _|refine Zk ?_ _|refine Below.drew ?_|omega|(simp;omega)|simp)⟩
 | some a=>
  have HA:Hid (LS.seek 123 (bl s)=some a):=ha
  have ha6:a<s.size:=by rw[←Zg];exact ZeU ha
  clear ha
  cases hb:LS.seek 125 (bl s)with
  | none=>
   have HL:Hid (line (bl s)=none):=ZpF HA.out hb
   have HB:Hid (LS.seek 125 (bl s)=none):=hb
   clear hb
   go_enter Tryz.func51,Tryz.ntmps51
   go_wp2_with fail
   refine(Zdd (c:=123) _ _ rfl hs HA.out).mono ?_
   rintro e w2 ⟨rfl,rfl⟩
   go_wp2_with fail
   refine(Zeg (c:=125) _ _ rfl hs HB.out).mono ?_
   rintro e w2 ⟨rfl,rfl⟩
   go_wp2
   exact bodyPost_ret (v:=.tuple #[.agg #[.string ⟨#[]⟩,.slice none 0 0,.slice none 0 0],.bool false]) (by simp[results,Tryz.results51,go_sem]) rfl ⟨⟨#[]⟩,none,0,0,none,0,0,false,rfl,Or.inr ⟨rfl,HL⟩,(by repeat first|exact Below.refl _ _|assumption|refine Below.alloc ?_ ?_ _|refine Below.setCell ?_ ?_ _|refine Zk ?_ _|refine Below.drew ?_|omega|(simp;omega)|simp)⟩
  | some b=>
   have HB:Hid (LS.seek 125 (bl s)=some b):=hb
   have hb6:b<s.size:=by rw[←Zg];exact ZeU hb
   have hab0:a≠b:=by
    intro e;subst e
    obtain⟨x,y,e1,e2,_⟩:=Zeh hb
    obtain⟨x',y',e3,e4,_⟩:=Zeh HA.out
    have h1:(bl s)[a]?=some 125:=by rw[e1,←e2];simp
    have h2:(bl s)[a]?=some 123:=by rw[e3,←e4];simp
    rw[h1]at h2;exact absurd h2 (by decide)
   clear hb
   by_cases hba:b<a
   ·have HL:Hid (line (bl s)=none):=ZpC HA.out HB.out hba
    go_enter Tryz.func51,Tryz.ntmps51
    go_wp2_with fail
    refine(Zdd (c:=123) _ _ rfl hs HA.out).mono ?_
    rintro e w2 ⟨rfl,rfl⟩
    go_wp2_with fail
    refine(Zdd (c:=125) _ _ rfl hs HB.out).mono ?_
    rintro e w2 ⟨rfl,rfl⟩
    go_wp2
    exact bodyPost_ret (v:=.tuple #[.agg #[.string ⟨#[]⟩,.slice none 0 0,.slice none 0 0],.bool false]) (by simp[results,Tryz.results51,go_sem]) rfl ⟨⟨#[]⟩,none,0,0,none,0,0,false,rfl,Or.inr ⟨rfl,HL⟩,(by repeat first|exact Below.refl _ _|assumption|refine Below.alloc ?_ ?_ _|refine Below.setCell ?_ ?_ _|refine Zk ?_ _|refine Below.drew ?_|omega|(simp;omega)|simp)⟩
   ·have hab:a<b:=by omega
    have hab1:a+1≤b:=hab
    clear hab0
    have e0:bl (s.extract 0 a)=(bl s).take a:=by rw[ZbR];simp
    have e1:bl (s.extract (a+1) b)=((bl s).take b).drop (a+1):=ZbR s (a+1) b
    have e2:bl (s.extract (b+1) s.size)=(bl s).drop (b+1):=by rw[ZbR,List.take_of_length_le (by rw[Zg];exact Nat.le_refl _)]
    have HLine : Hid (line (bl s) = if Zx (bl (s.extract 0 a)) && (ZY (bl (s.extract (a + 1) b))).isSome then (Zbe (bl (s.extract (b + 1) s.size))).map (fun n => (bl (s.extract 0 a), bl (s.extract (a + 1) b), n)) else none) := hid (by
      obtain⟨c1,c2⟩:=ZpE HA.out HB.out hab
      rw[e0,e1,e2];exact ZeK c1 c2)
    have HSA1:Hid (Zbm (bl s)=ZcQ (bl (s.extract (b+1) s.size))):=hid (by unfold Zbm;rw[HB.out,e2])
    clear e0 e1 e2
    have hx6:(s.extract 0 a).size≤6000:=by rw[ByteArray.size_extract];omega
    have hy6:(s.extract (a+1) b).size≤6000:=by rw[ByteArray.size_extract];omega
    have hz6:(s.extract (b+1) s.size).size≤6000:=by rw[ByteArray.size_extract];omega
    have ha7:a≤s.size:=Nat.le_of_lt ha6
    have hb7:b≤s.size:=Nat.le_of_lt hb6
    have hb8:b+1≤s.size:=hb6
    go_enter Tryz.func51,Tryz.ntmps51
    go_wp2_with fail
    refine(Zdd (c:=123) _ _ rfl hs HA.out).mono ?_
    rintro e w2 ⟨rfl,rfl⟩
    go_wp2_with fail
    refine(Zdd (c:=125) _ _ rfl hs HB.out).mono ?_
    rintro e w2 ⟨rfl,rfl⟩
    go_wp2_with fail
    obtain⟨b0,hb0⟩:∃b0,Zx (bl (s.extract 0 a))=b0:=⟨_,rfl⟩
    refine(Zhz _ hx6 hb0).mono ?_
    rintro e w2 ⟨rfl,rfl⟩
    rw[hb0]at HLine
    have HN:Hid _:=hb0
    clear hb0
    go_wp2_with fail
    refine(Zrg _ _ hy6).mono ?_
    rintro e w3 ⟨la,ln,lc,ok1,rfl,hlab,hb3⟩
    have hb3':Below (w.heap.size+1+1) ((w.alloc (.cells #[.string ⟨#[]⟩,.slice none 0 0,.slice none 0 0] 122)).alloc (.cells #[.string (s.extract 0 a),.slice none 0 0,.slice none 0 0] 122)) w3:=hb3.mono (B':=w.heap.size+1+1) (by simp)
    have hz3:w.heap.size+1+1≤w3.heap.size:=by have:=hb3.size;simp at this;omega
    clear hb3
    go_wp2_with fail
    refine(Zrm _ _ hz6).mono ?_
    rintro e w4 ⟨sa,sn,sc,ok2,rfl,hsam,hsro,hb4⟩
    have hb4':=hb3'.trans (hb4.mono hz3)
    obtain⟨⟨k0,k1,k2,g0,g1,g2⟩,⟨m0,m1,m2,n0,n1,n2⟩⟩:=Zmm hb4'
    have hB4:Below w.heap.size w w4:=(((Below.refl w.heap.size w).alloc (Nat.le_refl _) _).alloc (by simp) _).trans (hb4'.mono (by omega))
    clear hb4' hb3'
    have hres:(b0 && ok1 && ok2)=true∧(∃qs,w4.ownsRow (w.heap.size+1+1) 216 2 (.slice la ln lc) qs.length (ZbD qs)∧Hid (line (bl s)=some (bl (s.extract 0 a),bl (s.extract (a+1) b),sn)∧ZY (bl (s.extract (a+1) b))=some (qs.map bl2)∧w4.ownsRow (w.heap.size+1+1) 220 2 (.slice sa sn sc) sn (ZK (Zbm (bl s)))))∨((b0 && ok1 && ok2)=false∧Hid (line (bl s)=none)):=by
     have HLo:=HLine.out
     rcases hlab with ⟨rfl,qs,hown,hl⟩|⟨rfl,hl⟩
     ·rcases hsam.out with ⟨rfl,hsm⟩|⟨rfl,hsm⟩
      ·cases b0
       ·exact Or.inr ⟨rfl,by rw[HLo];rfl⟩
       ·refine Or.inl ⟨rfl,qs,Zw (hown.mono (by simp)) hb4,by rw[HLo,hl.out,hsm];rfl,hl.out,by rw[HSA1.out];exact(hsro.out rfl).mono hz3⟩
      ·exact Or.inr ⟨by cases b0 <;> rfl,by rw[HLo,hl.out,hsm];cases b0 <;> rfl⟩
     ·exact Or.inr ⟨by cases b0 <;> cases ok2 <;> rfl,by rw[HLo,hl.out];cases b0 <;> rfl⟩
    clear hlab hsam hsro hb4 HLine HN
    obtain⟨okk,hokk⟩:∃okk,(b0 && ok1 && ok2)=okk:=⟨_,rfl⟩
    rw[hokk]at hres
    have hend:∀W:World,W=((((w4.setCell ⟨w.heap.size+1,1,none⟩ (.slice la ln lc)).setCell ⟨w.heap.size+1,2,none⟩ (.slice sa sn sc)).setCell ⟨w.heap.size,0,none⟩ (.string (s.extract 0 a))).setCell ⟨w.heap.size,1,none⟩ (.slice la ln lc)).setCell ⟨w.heap.size,2,none⟩ (.slice sa sn sc)→
      ((okk=true∧∃(inside:List UInt8) (qs:List (ByteArray×ByteArray)),W.ownsRow w.heap.size 216 2 (.slice la ln lc) qs.length (ZbD qs)∧Hid (line (bl s)=some (bl (s.extract 0 a),inside,sn)∧ZY inside=some (qs.map bl2)∧W.ownsRow w.heap.size 220 2 (.slice sa sn sc) sn (ZK (Zbm (bl s)))))∨(okk=false∧Hid (line (bl s)=none)))∧Below w.heap.size w W:=by
     rintro W rfl
     refine⟨?_,(by repeat first|exact Below.refl _ _|assumption|refine Below.alloc ?_ ?_ _|refine Below.setCell ?_ ?_ _|refine Zk ?_ _|refine Below.drew ?_|omega|(simp;omega)|simp)⟩
     rcases hres with ⟨h1,qs,hown,h2⟩|h
     ·refine Or.inl ⟨h1,_,qs,?_,h2.1,h2.2.1,?_⟩
      ·refine World.ownsRow.mono (base:=w.heap.size+1+1) ?_ (by omega)
       exact ownsRow_setCell_below (ownsRow_setCell_below (ownsRow_setCell_below (ownsRow_setCell_below (ownsRow_setCell_below hown (by simp) _) (by simp) _) (by simp;omega) _) (by simp;omega) _) (by simp;omega) _
      ·refine World.ownsRow.mono (base:=w.heap.size+1+1) ?_ (by omega)
       exact ownsRow_setCell_below (ownsRow_setCell_below (ownsRow_setCell_below (ownsRow_setCell_below (ownsRow_setCell_below h2.2.2 (by simp) _) (by simp) _) (by simp;omega) _) (by simp;omega) _) (by simp;omega) _
     ·exact Or.inr h
    clear hres hB4
    have Hend:Hid _:=hend
    clear hend
    have Hok:Hid _:=hokk
    clear hokk
    cases b0 <;> cases ok1 <;> cases ok2
    all_goals
     obtain rfl:=Hok.out
     go_wp2
     exact bodyPost_ret (v:=.tuple #[.agg #[.string (s.extract 0 a),.slice la ln lc,.slice sa sn sc],.bool _]) (by simp[results,Tryz.results51,go_sem,k0,k1,k2]) rfl ⟨s.extract 0 a,la,ln,lc,sa,sn,sc,_,rfl,(Hend.out _ rfl).1,(Hend.out _ rfl).2⟩
def ZcU(ps:List (List UInt8×List UInt8)):Nat→List UInt8
 | 0=>[]
 | k+1=>(if 0<k then ZcU ps k++[44] else ZcU ps k)++(ps.getD k ([],[])).1++[61]++(ps.getD k ([],[])).2
theorem Zb8(a b:ByteArray):bl (a++b)=bl a++bl b:=by simp[bl]
set_option maxRecDepth 100000 in
set_option maxHeartbeats 1000000 in
theorem Zkl(v:Value)(base:Nat)(qs:List (ByteArray×ByteArray))(w:World)(hown:w.ownsRow base 216 2 v qs.length (ZbD qs))(hl:qs.length≤6001)(hq:Hid (∀q∈qs,q.1.size≤6000∧q.2.size≤6000)) :
  Calls Tryz.prog 52 #[v] w fun e w'=>∃r:ByteArray,e=.returned (.string r)∧Hid (bl r=ZcU (qs.map bl2) qs.length)∧∃n,w'=w.drewN n:=by
 obtain⟨av,cp,rfl⟩:=Zj hown
 go_enter Tryz.func52,Tryz.ntmps52
 go_wp2
 go_loopw [3,4] (fun sv i wr=>∃(k:Nat) (r:ByteArray) (nd:Nat),k≤qs.length∧i=.int .i64 k∧sv=.string r∧r.size≤12002*k∧Hid (bl r=ZcU (qs.map bl2) k)∧wr=w.drewN nd) (fun _ i _=>qs.length - (intOf i).toNat)
 case atStart=>exact⟨0,⟨#[]⟩,0,Nat.zero_le _,rfl,rfl,Nat.le_refl _,rfl,rfl⟩
 case round=>
  obtain⟨k,r,nd,hk,rfl,rfl,hrs,HR,rfl⟩:=hrel
  by_cases hlt:k<qs.length
  ·obtain⟨f1,f2⟩:=Ze9 qs k
   have hqk:qs[k]?=some qs[k]:=List.getElem?_eq_getElem hlt
   rw[hqk]at f1 f2
   have hg:∃g,av=some ⟨g,0,none⟩:=by
    obtain⟨g,cp',h⟩:=Zy hown (by omega)
    injection h with h1;exact⟨g,h1⟩
   obtain⟨g,rfl⟩:=hg
   have c1:w.cell? ⟨g,k*2,none⟩=some (.string (qs[k]).1):=Zn hown _ _ f1
   have c2:w.cell? ⟨g,k*2+1,none⟩=some (.string (qs[k]).2):=Zn hown _ _ f2
   have HP:Hid ((qs.map bl2).getD k ([],[])=(bl (qs[k]).1,bl (qs[k]).2)):=hid (by simp[hlt,bl2])
   have hq2:=hq.out _ (List.getElem_mem hlt)
   generalize(qs[k]).1=x at *
   generalize(qs[k]).2=y at *
   clear hqk f1 f2
   by_cases h0:0<k
   ·have HF:Hid (bl (((r++⟨#[44]⟩)++x)++⟨#[61]⟩++y)=ZcU (qs.map bl2) (k+1)):=hid (by
     rw[ZcU,if_pos h0,HP.out,Zb8,Zb8,Zb8,Zb8,HR.out];rfl)
    have hsz:(((r++⟨#[44]⟩)++x)++⟨#[61]⟩++y).size≤12002*(k+1):=by simp only[ByteArray.size_append];have e44:(⟨#[44]⟩:ByteArray).size=1:=rfl;have e61:(⟨#[61]⟩:ByteArray).size=1:=rfl;omega
    have a1:∀W,(Op.stringOp .add r ⟨#[44]⟩).run Tryz.prog W=.ok (.string (r++⟨#[44]⟩)) W:=fun W=>run_string_add_sum W r ⟨#[44]⟩ (by have e44:(⟨#[44]⟩:ByteArray).size=1:=rfl;omega)
    have a2:∀W,(Op.stringOp .add (r++⟨#[44]⟩) x).run Tryz.prog W=.ok (.string ((r++⟨#[44]⟩)++x)) W:=fun W=>run_string_add_sum W _ _ (by simp only[ByteArray.size_append];have e44:(⟨#[44]⟩:ByteArray).size=1:=rfl;omega)
    have a3:∀W,(Op.stringOp .add ((r++⟨#[44]⟩)++x) ⟨#[61]⟩).run Tryz.prog W=.ok (.string (((r++⟨#[44]⟩)++x)++⟨#[61]⟩)) W:=fun W=>run_string_add_sum W _ _ (by simp only[ByteArray.size_append];have e44:(⟨#[44]⟩:ByteArray).size=1:=rfl;have e61:(⟨#[61]⟩:ByteArray).size=1:=rfl;omega)
    have a4:∀W,(Op.stringOp .add (((r++⟨#[44]⟩)++x)++⟨#[61]⟩) y).run Tryz.prog W=.ok (.string ((((r++⟨#[44]⟩)++x)++⟨#[61]⟩)++y)) W:=fun W=>run_string_add_sum W _ _ (by simp only[ByteArray.size_append];have e44:(⟨#[44]⟩:ByteArray).size=1:=rfl;have e61:(⟨#[61]⟩:ByteArray).size=1:=rfl;omega)
    go_wp2
    go_quiet (fail)
    go_wp2
    go_roundw
    case rel=>exact⟨k+1,_,_,by omega,by go_num,rfl,hsz,HF,rfl⟩
    case measure=>simp[intOf];omega
   ·have HF:Hid (bl ((r++x)++⟨#[61]⟩++y)=ZcU (qs.map bl2) (k+1)):=hid (by
     rw[ZcU,if_neg h0,HP.out,Zb8,Zb8,Zb8,HR.out];rfl)
    have hsz:((r++x)++⟨#[61]⟩++y).size≤12002*(k+1):=by simp only[ByteArray.size_append];have e61:(⟨#[61]⟩:ByteArray).size=1:=rfl;omega
    have a2:∀W,(Op.stringOp .add r x).run Tryz.prog W=.ok (.string (r++x)) W:=fun W=>run_string_add_sum W _ _ (by omega)
    have a3:∀W,(Op.stringOp .add (r++x) ⟨#[61]⟩).run Tryz.prog W=.ok (.string ((r++x)++⟨#[61]⟩)) W:=fun W=>run_string_add_sum W _ _ (by simp only[ByteArray.size_append];have e61:(⟨#[61]⟩:ByteArray).size=1:=rfl;omega)
    have a4:∀W,(Op.stringOp .add ((r++x)++⟨#[61]⟩) y).run Tryz.prog W=.ok (.string (((r++x)++⟨#[61]⟩)++y)) W:=fun W=>run_string_add_sum W _ _ (by simp only[ByteArray.size_append];have e61:(⟨#[61]⟩:ByteArray).size=1:=rfl;omega)
    go_wp2
    go_quiet (fail)
    go_wp2
    go_roundw
    case rel=>exact⟨k+1,_,_,by omega,by go_num,rfl,hsz,HF,rfl⟩
    case measure=>simp[intOf];omega
  ·obtain rfl:k=qs.length:=by omega
   go_wp2
   go_ret
   exact⟨r,rfl,HR,nd,rfl⟩
theorem Zn1 (l : List (ByteArray × ByteArray × Bool)) (j : Nat) : (ZW l)[j * 3]? = l[j]?.map (fun c => .string c.1) ∧ (ZW l)[j * 3 + 1]? = l[j]?.map (fun c => .string c.2.1) ∧ (ZW l)[j * 3 + 2]? = l[j]?.map (fun c => .bool c.2.2) := by
  induction l generalizing j with
  | nil=>simp[ZW]
  | cons r l ih=>
    obtain⟨x,y,z⟩:=r
    cases j with
    | zero=>simp[ZW]
    | succ j=>
      obtain⟨h1,h2,h3⟩:=ih j
      refine⟨?_,?_,?_⟩
      · rw[show(j+1)*3=j*3+1+1+1 by omega];simpa [ZW] using h1
      · rw[show(j+1)*3+1=j*3+1+1+1+1 by omega];simpa [ZW] using h2
      · rw[show(j+1)*3+2=j*3+2+1+1+1 by omega];simpa [ZW] using h3
theorem Zcf.zero{w:World}{p:PV}{ns:List (List UInt8)}(h:Zcf w 0 p ns):∃bs:List ByteArray,p.bn=bs.length∧w.ownsRow 0 9 1 (.slice p.ba bs.length p.bc) bs.length (bs.map .string)∧bs.map bl=ns:=by
 obtain⟨bs,h1,h2⟩:=h
 obtain⟨av,cp,hv⟩:=Zj h1
 injection hv with _ hv _
 exact⟨bs,hv,by rw[←hv];rw[←hv]at h1;exact h1,h2⟩
theorem ZrD{w:World}{b:Nat}{av:Option Addr}{cp:Nat}{n:Nat}(h:w.cell? ⟨b,0,none⟩=some (.slice av (n+1:Nat) cp))(hn:n+1≤301) :
  Calls Tryz.prog 30 #[.pointer (some ⟨b,0,none⟩)] w fun e w'=>e=.returned (.int .i64 n)∧w'=w:=by
 go_enter Tryz.func30,Tryz.ntmps30
 go_wp2
 go_ret
 exact⟨Zb7 (by omega),rfl⟩
structure LabsV (w:World) (v:Value) (l:List Lab) (qs:List (ByteArray×ByteArray)):Prop where
 own:w.ownsRow 0 216 2 v qs.length (ZbD qs)
 say:qs.map bl2=l
 len:qs.length≤6001
 ok:∀q∈qs,q.1.size≤6000∧q.2.size≤6000
theorem LabsV.below{w w':World}{v:Value}{l:List Lab}{qs:List (ByteArray×ByteArray)}(h:LabsV w v l qs)(hb:Below w.heap.size w w'):LabsV w' v l qs:=⟨Zw h.own hb,h.say,h.len,h.ok⟩
theorem Zlo(l:List Lab)(n:List UInt8)(k:Nat)(h:∀p∈l.take k,p.1≠n):Zce l n=Zce (l.drop k) n:=by
 induction l generalizing k with
 | nil=>simp
 | cons p l ih=>
  cases k with
  | zero=>rfl
  | succ k=>
   have h1:=h p (by simp)
   rw[Zce,if_neg h1]
   exact ih k (fun q hq=>h q (by simp[hq]))
theorem Zd6{a b:ByteArray}(h:bl a=bl b):a=b:=by
 cases a with | mk x => cases b with | mk y =>
   have:x=y:=by
     have h1:x.toList=y.toList:=h
     exact Array.toList_inj.mp h1
   rw[this]
theorem Zem(a b:ByteArray):(a.toList == b.toList)=decide (bl a=bl b):=by
 rw[ZO,ZO]
 by_cases h:bl a=bl b
 ·simp[h]
 ·simp[h]
theorem ZtD(l:List Lab)(qs:List (ByteArray×ByteArray))(h:qs.map bl2=l)(n:List UInt8)(k:Nat)(hk:k<qs.length)(h0:∀q∈qs.take k,bl q.1≠n)(h1:bl (qs[k]).1=n):Zce l n=bl (qs[k]).2:=by
 subst h
 rw[Zlo _ n k (by intro p hp;rw[←List.map_take]at hp;obtain⟨q,hq,rfl⟩:=List.mem_map.mp hp;exact h0 q hq)]
 rw[←List.map_drop,List.drop_eq_getElem_cons hk,List.map_cons,Zce,if_pos (show(bl2 qs[k]).1=n from h1)];rfl
theorem ZtF(l:List Lab)(qs:List (ByteArray×ByteArray))(h:qs.map bl2=l)(n:List UInt8)(h0:∀q∈qs,bl q.1≠n):Zce l n=[]:=by
 subst h
 rw[Zlo _ n qs.length (by intro p hp;rw[←List.map_take,List.take_length]at hp;obtain⟨q,hq,rfl⟩:=List.mem_map.mp hp;exact h0 q hq)]
 rw[←List.map_drop,List.drop_length];rfl
set_option maxRecDepth 100000 in
set_option maxHeartbeats 4000000 in
theorem ZtC(v:Value)(l:List Lab)(qs:List (ByteArray×ByteArray))(nm:ByteArray)(w:World)(h:LabsV w v l qs) :
  Calls Tryz.prog 149 #[v,.string nm] w fun e w'=>∃r:ByteArray,e=.returned (.string r)∧Hid (bl r=Zce l (bl nm))∧∃n,w'=w.drewN n:=by
 obtain⟨av,cp,rfl⟩:=Zj h.own
 have HS:Hid (LabsV w (.slice av qs.length cp) l qs):=h
 have hlen:=h.len
 clear h
 go_enter Tryz.func149,Tryz.ntmps149
 go_wp2
 go_loopw [5] (fun i wr=>∃(k:Nat) (nd:Nat),k≤qs.length∧i=.int .i64 k∧Hid (∀q∈qs.take k,bl q.1≠bl nm)∧wr=w.drewN nd) (fun i _=>qs.length - (intOf i).toNat)
 case atStart=>exact⟨0,0,Nat.zero_le _,rfl,hid (by intro q hq;simp at hq),rfl⟩
 case round=>
  obtain⟨k,nd,hk,rfl,HR,rfl⟩:=hrel
  by_cases hlt:k<qs.length
  ·have hg:∃g,av=some ⟨g,0,none⟩:=by
    obtain⟨g,cp',h⟩:=Zy HS.own (by omega)
    injection h with h1;exact⟨g,h1⟩
   obtain⟨g,rfl⟩:=hg
   have c1:w.cell? ⟨g,k*2,none⟩=some (.string (qs[k]).1):=Zn HS.own _ _ (by rw[(Ze9 qs k).1,List.getElem?_eq_getElem hlt];rfl)
   have c2:w.cell? ⟨g,k*2+1,none⟩=some (.string (qs[k]).2):=Zn HS.own _ _ (by rw[(Ze9 qs k).2,List.getElem?_eq_getElem hlt];rfl)
   by_cases hq:bl (qs[k]).1=bl nm
   ·have HW:=hid (ZtD l qs HS.say (bl nm) k hlt HR.out hq)
    have he:((qs[k]).1.toList == nm.toList)=true:=by rw[Zem];simp[hq]
    generalize(qs[k]).1=x at *
    generalize(qs[k]).2=y at *
    go_wp2
    go_ret
    exact⟨_,rfl,hid HW.symm,_,rfl⟩
   ·have he:((qs[k]).1.toList == nm.toList)=false:=by rw[Zem];simp[hq]
    have HN:Hid (∀q∈qs.take (k+1),bl q.1≠bl nm):=hid (by
     intro q hq'
     rw[List.take_succ_eq_append_getElem hlt]at hq'
     rcases List.mem_append.mp hq' with h|h
     ·exact HR.out q h
     ·rw[List.mem_singleton]at h;subst h;exact hq)
    generalize(qs[k]).1=x at *
    generalize(qs[k]).2=y at *
    go_wp2
    go_roundw
    case rel=>exact⟨k+1,_,by omega,by go_num,HN,rfl⟩
    case measure=>simp[intOf];omega
  ·obtain rfl:k=qs.length:=by omega
   have HW:=hid (ZtF l qs HS.say (bl nm) (by have:=HR.out;rwa [List.take_length]at this))
   go_wp2
   go_ret
   exact⟨_,rfl,hid HW.symm,_,rfl⟩
set_option maxHeartbeats 4000000 in
theorem Zgo (op : Nat) (hop : op ≤ 3) (a b : Int) (ha : vOk a) (hb : vOk b) (w : World) : Calls Tryz.prog 106 #[.int .i64 op, .int .i64 a, .int .i64 b] w fun e w' => e = .returned (.int .i64 (twoV op a b)) ∧ w' = w := by
  obtain⟨a1,a2⟩:=ha
  obtain⟨b1,b2⟩:=hb
  rcases(by omega:op=0∨op=1∨op=2∨op=3)with rfl|rfl|rfl|rfl
  · rw[ZkW]
    go_enter Tryz.func106,Tryz.ntmps106
    go_wp2_with (go_at_call 102;refine(Zfs _ _).mono ?_;rintro e w' ⟨rfl,rfl⟩)
    go_ret
    exact⟨rfl,rfl⟩
  · rw[ZkX]
    go_enter Tryz.func106,Tryz.ntmps106
    go_wp2_with (go_at_call 102;refine(Zfs _ _).mono ?_;rintro e w' ⟨rfl,rfl⟩)
    go_ret
    exact⟨rfl,rfl⟩
  · have hm:(Go.IntKind.i64).wrap (a*b)=a*b:=by
      have h3:=ZjW a b a1 a2 b1 b2
      generalize a*b=ab at *
      rw[IntKind.wrap_i64];omega
    rw[ZkY]
    go_enter Tryz.func106,Tryz.ntmps106
    go_wp2_with (go_at_call 102;refine(Zfs _ _).mono ?_;rintro e w' ⟨rfl,rfl⟩)
    go_ret
    exact⟨rfl,rfl⟩
  · have hq1:(a.tdiv b).natAbs≤a.natAbs:=by rw[Int.natAbs_tdiv];exact Nat.div_le_self _ _
    have hq:(Go.IntKind.i64).wrap (a.tdiv b)=a.tdiv b:=by rw[IntKind.wrap_i64];omega
    by_cases h0:b=0
    · subst h0
      rw[Zk0]
      go_enter Tryz.func106,Tryz.ntmps106
      go_wp2
      go_ret
      exact⟨rfl,rfl⟩
    · rw[ZkZ a b h0]
      go_enter Tryz.func106,Tryz.ntmps106
      go_wp2
      go_ret
      exact⟨rfl,rfl⟩
end Go.Proofs.YtpbemaaghbbocaaGreatDoor
