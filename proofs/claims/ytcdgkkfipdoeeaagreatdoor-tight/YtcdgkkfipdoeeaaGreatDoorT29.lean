/- Parts. -/
import Derived.Test.YtcdgkkfipdoeeaaGreatDoorT27
import Derived.Test.YtcdgkkfipdoeeaaGreatDoorT28
import Derived.Test.YtcdgkkfipdoeeaaGreatDoorT17
import Derived.Maps.OwnSet
import Derived.Test.YtcdgkkfipdoeeaaGreatDoorT26
import Derived.Test.YtcdgkkfipdoeeaaGreatDoorT12
set_option maxRecDepth 100000
set_option maxHeartbeats 8000000
namespace Go.Proofs.YtcdgkkfipdoeeaaGreatDoor
open Go.RowKit LS
theorem Ze6{k j:Nat}{x:List UInt8}(h2:k≠2)(h4:k≠4)(h5:k<=5):Zdg ⟨k,x,j⟩/\(⟨k,x,j⟩:Tok).kind<=5:=⟨⟨fun h=>absurd h h2,fun h=>absurd h h4⟩,h5⟩
theorem ZzQ{j:Nat}{x:List UInt8}(h:x.all Zk=true):Zdg ⟨2,x,j⟩/\(⟨2,x,j⟩:Tok).kind<=5:=⟨⟨fun _=>h,fun h=>absurd (show(2:Nat)=4 from h) (by decide)⟩,by show(2:Nat)<=5;decide⟩
theorem Zqd{j:Nat}{x:List UInt8}(h:x.all (fun c=>!Zk c)=true):Zdg ⟨4,x,j⟩/\(⟨4,x,j⟩:Tok).kind<=5:=⟨⟨fun h=>absurd (show(4:Nat)=2 from h) (by decide),fun _=>h⟩,by show(4:Nat)<=5;decide⟩
theorem Zuv(l:List UInt8)(j:Nat)(c:UInt8)(r:List UInt8):Zdg (lexC l j c r).1/\(lexC l j c r).1.kind<=5:=by
 unfold lexC
 split
 ·split
  ·exact Ze6 (by decide) (by decide) (by decide)
  ·exact Ze6 (by decide) (by decide) (by decide)
 ·rename_i hd
  split
  ·split
   ·exact Ze6 (by decide) (by decide) (by decide)
   ·exact ZzQ (Zlj Zk _)
  ·rename_i hl
   split
   ·split
    ·exact Ze6 (by decide) (by decide) (by decide)
    ·split
     ·exact Ze6 (by decide) (by decide) (by decide)
     ·exact Ze6 (by decide) (by decide) (by decide)
   ·split
    ·exact Zqd (by decide)
    ·split
     ·refine Zqd ?_
      show([c].all fun c=>!Zk c)=true
      have:Zk c=false:=Bool.eq_false_iff.2 hl
      simp[this]
     ·exact Ze6 (by decide) (by decide) (by decide)
theorem Zur(l:List UInt8)(i:Nat):Zdg (Zo l i).1/\(Zo l i).1.kind<=5:=by
 unfold Zo lexJ
 split
 ·exact Ze6 (by decide) (by decide) (by decide)
 ·exact Zuv _ _ _ _
theorem ZpW(l:List UInt8):∀(n i:Nat),i<=l.length->l.length+1<=n+i->Zd0 (ZH l n i)
 | 0,i,h1,h2=>absurd h2 (by omega)
 | n + 1, i, h1, h2 => by
   show Zd0 (if (Zo l i).1.kind=0∨(Zo l i).1.kind=5 then [(Zo l i).1] else (Zo l i).1::ZH l n (Zo l i).2)
   by_cases h:(Zo l i).1.kind=0∨(Zo l i).1.kind=5
   · rw[if_pos h];exact h
   · rw[if_neg h]
     have hg:=Zih l i h1
     have hw:=Zur l i
     have ih:=ZpW l n (Zo l i).2 hg.2 (by have:=hg.1 (fun e=>h (Or.inl e));omega)
     cases hr:ZH l n (Zo l i).2 with
     | nil=>rw[hr]at ih;exact ih.elim
     | cons u m=>
       rw[hr]at ih
       exact⟨by have:=hw.2;omega,hw.1,ih⟩
theorem Zra{w w':World}{b B:Nat}(h:w.grownBy w' (some b))(hb:B<=b)(hB:B<=w.heap.size):Below B w w':=
 ⟨h.os,h.tape,h.output,h.size,fun j hj=>h.block j (by omega) (fun e=>by injection e with e;omega)⟩
def RdIs(w:World)(lg sy dp tp:Addr)(r:Except (Nat×Nat) Tr)(pv v:Value):Prop:=match r with
 | .ok t=>v=.nilIface/\Ze w t pv
 | .error x=>(x=(1,0)/\v=.iface 432 (.pointer (some lg)))∨(x=(4,0)/\v=.iface 432 (.pointer (some tp)))∨(x.1=2/\Zcd w v x.2 sy)∨(x.1=3/\Zcd w v x.2 dp)
theorem RdIs.error{w:World}{lg sy dp tp:Addr}{r:Except (Nat×Nat) Tr}{pv v:Value}{x:Nat×Nat}(hr:r=.error x)(h:(x=(1,0)/\v=.iface 432 (.pointer (some lg)))∨(x=(4,0)/\v=.iface 432 (.pointer (some tp)))∨(x.1=2/\Zcd w v x.2 sy)∨(x.1=3/\Zcd w v x.2 dp)):RdIs w lg sy dp tp r pv v:=by subst hr;exact h
theorem RdIs.fine{w:World}{lg sy dp tp:Addr}{r:Except (Nat×Nat) Tr}{pv v:Value}{t:Tr}(hr:r=.ok t)(h:v=.nilIface/\Ze w t pv):RdIs w lg sy dp tp r pv v:=by subst hr;exact h
structure Sents (w:World) (lg sy dp tp:Addr):Prop where
 lg:w.cell? ⟨0,0,none⟩=some (.iface 432 (.pointer (some lg)))
 sy:w.cell? ⟨1,0,none⟩=some (.iface 432 (.pointer (some sy)))
 dp:w.cell? ⟨2,0,none⟩=some (.iface 432 (.pointer (some dp)))
 tp:w.cell? ⟨3,0,none⟩=some (.iface 432 (.pointer (some tp)))
theorem Sents.below{w w':World}{lg sy dp tp:Addr}(h:Sents w lg sy dp tp)(hb:Below w.heap.size w w'):Sents w' lg sy dp tp:=
 ⟨(hb.cell (p:=⟨_,0,none⟩) (World.block_lt_of_cell? _ _ h.lg)).trans h.lg,(hb.cell (p:=⟨_,0,none⟩) (World.block_lt_of_cell? _ _ h.sy)).trans h.sy,(hb.cell (p:=⟨_,0,none⟩) (World.block_lt_of_cell? _ _ h.dp)).trans h.dp,(hb.cell (p:=⟨_,0,none⟩) (World.block_lt_of_cell? _ _ h.tp)).trans h.tp⟩
theorem Zll(s:ByteArray)(w:World)(hlim:s.size<=9223372036854775807){lg sy dp tp:Addr}(hS:Sents w lg sy dp tp) :
  Calls Tryz.prog 17 #[.string s] w fun e w'=>∃pv v:Value,e=.returned (.tuple #[pv,v])/\Hid (RdIs w' lg sy dp tp (ZB (bl s)) pv v)/\Below w.heap.size w w':=by
 by_cases hl:300<s.size
 ·have HR:Hid (ZB (bl s)=.error (1,0)):=hid (by unfold ZB;rw[Zi,if_pos hl])
  have hd:(300:Int)<s.size:=by omega
  have hlg:=hS.lg
  clear hS
  go_enter Tryz.func17,Tryz.ntmps17
  go_wp2
  go_region
  all_goals
   go_wp2
   go_ret2
   exact⟨_,_,rfl,RdIs.error HR.out (Or.inl ⟨rfl,rfl⟩),belB⟩
 ·have hl3:s.size<=300:=by omega
  have hd:¬((300:Int)<s.size):=by omega
  obtain⟨ts,hts⟩:∃ts,ts=ZH (bl s) ((bl s).length+1) 0:=⟨_,rfl⟩
  have HLN:Hid (ts.length<=301):=hid (by
   have:=Zoc (bl s) ((bl s).length+1) 0 (Nat.zero_le _)
   rw[<-hts,Zi]at this
   omega)
  have HWF:Hid (Zd0 ts):=hid (by rw[hts];exact ZpW _ _ _ (Nat.zero_le _) (by omega))
  have HRQ:Hid (ZB (bl s)=match Zj (10*ts.length+5) false 0 .nil ts 0 with
   | .error e=>.error e
   | .ok (t,r)=>if (LS.hd r).kind=0 then (if Zf t=0 then .error (4,0)else .ok t)else .error (2,(LS.hd r).at_)):=hid (by
   unfold ZB;rw[Zi,if_neg hl,<-Zi,<-hts]
   cases Zj (10*ts.length+5) false 0 .nil ts 0 with
   | error e=>rfl
   | ok x=>rfl)
  have HS:Hid (Sents w lg sy dp tp):=hS
  have HTS:Hid (ts=ZH (bl s) ((bl s).length+1) 0):=hts
  clear hts hS hl
  go_enter Tryz.func17,Tryz.ntmps17
  go_wp2_with fail
  refine(Zux s w hl3).mono ?_
  rintro e w1 ⟨v,ps,rfl,hown,hall,hb1⟩
  rw[<-HTS.out]at hall
  have HPL:Hid (ps.length=ts.length):=hall.length
  have hpp:0<ps.length:=by rw[HPL.out];exact HWF.head.2.1
  obtain⟨g,cp,rfl⟩:=ZW hown hpp
  have HO1:Hid (w1.ownsRow 0 74 4 (.slice (some ⟨g,0,none⟩) ps.length cp) ps.length (Zbg ps)):=hown
  have HB1:Hid (Below w.heap.size w w1):=hb1
  have HS1:Hid (Sents w1 lg sy dp tp):=HS.below hb1
  clear hown hb1
  go_wp2_with fail
  refine ZK fun W hW=>?_
  have hbW:Below w1.heap.size w1 W:=by rw[hW];exact Zbal
  have HBW:Hid (Below w.heap.size w W):=HB1.trans (hbW.mono HB1.size)
  have HSW:Hid (Sents W lg sy dp tp):=HS1.below hbW
  have HK:Hid (RK W ⟨w1.heap.size,g,cp,ps,sy,dp⟩ 0 ts):=hid ⟨⟨by rw[hW];exact Go.Deep.blk_alloc_new _ _,Zw HO1.out hbW,hpp⟩,hall.out,HWF.out,by show ps.length<=302;rw[HPL.out];have:=HLN.out;omega,HSW.sy,HSW.dp⟩
  have hzW:w1.heap.size<W.heap.size:=by rw[hW];simp
  have hz1:w.heap.size<=w1.heap.size:=HB1.size
  clear hW hbW HO1 hall HS1 HB1
  refine((ZlX (10*ts.length+5)).1 0 (by decide) (10*ts.length+5) (Nat.le_refl _) W ⟨w1.heap.size,g,cp,ps,sy,dp⟩ 0 ts 0 HK.out (by decide) (by show 10*ts.length+5<=10*ts.length+5+0;omega)).mono ?_
  rintro e w2 ⟨pv,v,rfl,hif,hres,hg2⟩
  have hb2:Below w.heap.size W w2:=Zra hg2 hz1 (by omega)
  have HB2:Hid (Below w.heap.size w w2):=HBW.trans hb2
  have HS2:Hid (Sents w2 lg sy dp tp):=HS.below HB2.out
  clear hg2 hb2
  cases hpr:Zj (10*ts.length+5) false 0 .nil ts 0 with
  | error er=>
   have HE:=hid (hres.err hpr)
   obtain⟨fa,rfl⟩:=HE.shape
   have HPE:Hid (ZB (bl s)=.error er):=hid (by rw[HRQ.out,hpr])
   clear hres hpr
   go_wp2
   go_ret2
   exact⟨_,_,rfl,RdIs.error HPE.out (Or.inr (Or.inr HE.out)),HB2.out⟩
  | ok pr=>
   obtain⟨t,r⟩:=pr
   obtain⟨rfl,⟨k2,hk2⟩,hv2⟩:=hres.good hpr
   have HK2:Hid (RK w2 ⟨w1.heap.size,g,cp,ps,sy,dp⟩ k2 r):=hk2
   have HV2:Hid (Ze w2 t pv):=hv2
   have HRQ2:Hid (ZB (bl s)=if (LS.hd r).kind=0 then (if Zf t=0 then .error (4,0)else .ok t)else .error (2,(LS.hd r).at_)):=hid (by rw[HRQ.out,hpr])
   obtain⟨ty,u,hsh⟩:=Ze.shape hv2
   subst hsh
   clear hres hpr hk2 hv2 hif HRQ
   go_wp2_with fail
   refine(ZdU HK2.out).mono ?_
   rintro e w3 ⟨⟨kd,at_,tx,tv⟩,rfl,ht,hb3⟩
   have HB3:Hid (Below w.heap.size w w3):=HB2.trans (hb3.mono HB2.size)
   have HK3:=hid (HK2.below hb3)
   have HV3:Hid (Ze w3 t (.iface ty u)):=HV2.below hb3
   clear hb3 HB2 HK2 HV2
   have hpk:=Zey HK3.wf.head.2.2
   by_cases hk0:(LS.hd r).kind=0
   ·have hkd:kd=4:=by have:=ht.1;simp only at this;rw[this,hpk.2.2.2.2.2 hk0]
    subst hkd
    have HRQ3:Hid (ZB (bl s)=if Zf t=0 then .error (4,0)else .ok t):=hid (by rw[HRQ2.out,if_pos hk0])
    have hf:∀W:World,(Instr.field 74 (.agg #[.int .i64 4,.int .i64 at_,.string tx,.int .i64 tv]) 0).run Tryz.prog W=.ok (.int .i64 4) W:=fun _=>rfl
    clear hk0 hpk ht
    go_wp2_with fail
    refine(Zkj t w3 _ tp HV3.out (HS.below HB3.out).tp).mono ?_
    rintro e w4 ⟨kd,err,rfl,hkr,hb4⟩
    have HB4:Hid (Below w.heap.size w w4):=HB3.trans (hb4.mono HB3.size)
    have HV4:Hid (Ze w4 t (.iface ty u)):=HV3.below hb4
    clear hb4
    rcases hkr.out with ⟨h0,rfl⟩|⟨h0,rfl,rfl⟩|⟨h0,rfl,rfl⟩
    ·have HRX:Hid (ZB (bl s)=.error (4,0)):=hid (by rw[HRQ3.out,if_pos h0])
     clear hkr h0
     go_wp2
     go_ret2
     exact⟨_,_,rfl,RdIs.error HRX.out (Or.inr (Or.inl ⟨rfl,rfl⟩)),HB4.out⟩
    all_goals
     have HRX:Hid (ZB (bl s)=.ok t):=hid (by rw[HRQ3.out,if_neg (by omega)])
     clear hkr h0
     go_wp2
     go_ret2
     exact⟨_,_,rfl,RdIs.fine HRX.out ⟨rfl,HV4.out⟩,HB4.out⟩
   ·have hkd:((kd:Int) != 4)=true:=by
     rw[bne_iff_ne];intro e
     exact hk0 (hpk.2.2.2.2.1 (by have:=ht.1;simp only at this;omega))
    have HRX:Hid (ZB (bl s)=.error (2,(LS.hd r).at_)):=hid (by rw[HRQ2.out,if_neg hk0])
    have hf:∀W:World,(Instr.field 74 (.agg #[.int .i64 kd,.int .i64 at_,.string tx,.int .i64 tv]) 0).run Tryz.prog W=.ok (.int .i64 kd) W:=fun _=>rfl
    clear hk0 hpk
    go_wp2_with fail
    refine(ZeP HK3.out).mono ?_
    rintro e wE ⟨v,rfl,HE,hbE⟩
    obtain⟨fa,rfl⟩:=HE.shape
    have HBE:Hid (Below w.heap.size w wE):=HB3.trans (hbE.mono HB3.size)
    clear hbE
    go_wp2
    go_ret2
    exact⟨_,_,rfl,RdIs.error HRX.out (Or.inr (Or.inr HE.out)),HBE.out⟩
open Go.RowKit Go.Maps Go.WideMaps LS
def Zc7(l:List UInt8):List UInt8:=match cut 125 l with|some p=>p.1|none=>l
def ZbA:Nat->List (List UInt8)->List (List UInt8)->Option Nat
 | _,_,[]=>none
 | i,seen,x::xs=>if x=[] then ZbA (i+1) seen xs else if seen.contains (Zc7 x)then some i else ZbA (i+1) (seen++[Zc7 x]) xs
theorem Zy9{i:Nat}{seen ps:List (List UInt8)}(hk:i<ps.length)(h:ps.getD i []=[]):ZbA i seen (ps.drop i)=ZbA (i+1) seen (ps.drop (i+1)):=by
 have e:ps.getD i []=ps[i]:=by simp[hk]
 rw[List.drop_eq_getElem_cons hk,ZbA,<-e,if_pos h]
theorem Zzb{i:Nat}{seen ps:List (List UInt8)}(hk:i<ps.length)(h:ps.getD i []≠[])(hs:seen.contains (Zc7 (ps.getD i []))=true):ZbA i seen (ps.drop i)=some i:=by
 have e:ps.getD i []=ps[i]:=by simp[hk]
 rw[List.drop_eq_getElem_cons hk,ZbA,<-e,if_neg h,if_pos hs]
theorem Zzc{i:Nat}{seen ps:List (List UInt8)}(hk:i<ps.length)(h:ps.getD i []≠[])(hs:seen.contains (Zc7 (ps.getD i []))=false):ZbA i seen (ps.drop i)=ZbA (i+1) (seen++[Zc7 (ps.getD i [])]) (ps.drop (i+1)):=by
 have e:ps.getD i []=ps[i]:=by simp[hk]
 rw[List.drop_eq_getElem_cons hk,ZbA,<-e,if_neg h,if_neg (by rw[hs];exact Bool.false_ne_true)]
theorem Zza{i:Nat}{seen ps:List (List UInt8)}(hk:¬i<ps.length):ZbA i seen (ps.drop i)=none:=by
 rw[List.drop_of_length_le (by omega)];rfl
theorem law9:Keyed Tryz.prog 9:=string_keyed Tryz.underlying9
theorem ZqK(w:World):(zeroValue 277).run Tryz.prog w=.ok (.agg #[]) w:=by kernel_rfl
def Sd(seen:List (List UInt8)):DataW Unit:=setOf (.agg []) (seen.map Lit.string)
theorem ZqO(seen:List (List UInt8))(x:List UInt8):Sd (seen++[x])=(Sd seen).put (.string x) (.agg []):=by
 unfold Sd;rw[List.map_append,List.map_cons,List.map_nil,setOf_snoc]
theorem ZtB(seen:List (List UInt8)):∀x∈seen.map Lit.string,WideAt.IsKeyLit x:=by
 intro x hx
 obtain⟨y,_,rfl⟩:=List.mem_map.1 hx
 trivial
theorem Ztl(seen:List (List UInt8))(x:List UInt8):Maps.has (Sd seen) (.string x)=seen.contains x:=by
 unfold Sd
 rw[has_setOf _ _ _ (ZtB seen)]
 induction seen with
 | nil=>rfl
 | cons a l ih=>
  rw[List.map_cons,List.any_cons,ih,List.contains_cons]
  congr 1
  show(a == x)=(x == a)
  exact BEq.comm
theorem Zsd{s:ByteArray}(m:Int)(w:World)(hs:s.size<=6000)(hm:w.cell? ⟨14,0,none⟩=some (.int .i64 m)) :
  Calls Tryz.prog 150 #[.string s,.string ⟨#[125]⟩] w fun e w'=>∃(a b:ByteArray) (f:Bool),e=.returned (.tuple #[.string a,.string b,.bool f])/\Hid (bl a=Zc7 (bl s))/\a.size<=6000/\∃n,w'=w.drewN n:=by
 cases hc:cut 125 (bl s)with
 | none=>
  refine(ZfB m w hs hm hc).mono ?_
  rintro e w' ⟨a,b,rfl,hab,hw⟩
  exact⟨a,b,_,rfl,hid (by unfold Zc7;rw[hc];exact hab.1),by rw[Z7 hab.1,Zi];exact hs,hw⟩
 | some p=>
  obtain⟨x,y⟩:=p
  refine(Zd6 m w hs hm hc).mono ?_
  rintro e w' ⟨a,b,rfl,hab,hw⟩
  refine⟨a,b,_,rfl,hid (by unfold Zc7;rw[hc];exact hab.1),?_,hw⟩
  have:(bl s).length=x.length+(y.length+1):=by rw[(Zdh hc).1];simp
  rw[Z7 hab.1];rw[Zi]at this;omega
theorem ZuQ(g:Nat)(ps:List (List UInt8))(n:Nat)(A:Nat->Addr)(m:Int)(w:World)(hn:Hid (n=ps.length))(hn6:n<=6001)(hp6:Hid (∀i,i<ps.length->(ps.getD i []).length<=6000))(hrow:Zfa w g ps)(hv:Vars w A m) :
  Calls Tryz.prog 88 #[.slice (some ⟨g, 0, none⟩) n n] w fun e w' => Below w.heap.size w w' /\
    ((∃(i:Nat) (fa:Nat),e=.returned (.iface 81 (.pointer (some ⟨fa,0,none⟩)))/\w'.heap[fa]?=some (.cells #[.string ⟨#[108,105,110,101]⟩,.int .i64 i,.iface 432 (.pointer (some (A 5)))] 85 (0,0))/\Hid (ZbA 0 [] ps=some i))∨
     (e=.returned .nilIface/\Hid (ZbA 0 [] ps=none))):=by
 have hmm:=@run_makeMap Tryz.prog
 have hgl:g<w.heap.size:=hrow.1
 go_enter Tryz.func88,Tryz.ntmps88
 go_wp2
 go_loopw [14] (fun i wr => ∃ (k : Nat) (seen : List (List UInt8)), k <= n /\ i = .int .i64 k /\ wr.ownsMap Tryz.prog 9 unitElem w.heap.size k (Sd seen) /\ Hid (ZbA 0 [] ps = ZbA k seen (ps.drop k)) /\ Below w.heap.size w wr /\ w.heap.size + 1 <= wr.heap.size)
   (fun i _=>n - (intOf i).toNat)
 case atStart=>exact⟨0,[],Nat.zero_le _,rfl,World.ownsMap_made _ _ _ _,rfl,Zbal,by simp⟩
 case round=>
  obtain⟨k,seen,hk,rfl,hown,HA,hbr,hwr⟩:=hrel
  have hvr:=hv.below hbr
  by_cases hlt:k<n
  ·have hkl:k<ps.length:=by rw[<-hn.out];exact hlt
   obtain⟨sk,hck,hsk⟩:=(hrow.below hbr hgl).2 k hkl
   have hsk6:sk.size<=6000:=by rw[Z7 hsk];exact hp6.out k hkl
   have HK:Hid (bl sk=ps.getD k []):=hsk
   clear hsk
   cases he:sk.toList.isEmpty
   ·have HNE:Hid (ps.getD k []≠[]):=by rw[<-HK.out];exact Zin he
    have hmr:=hvr.max
    go_wp2_with fail
    refine(Zsd m _ hsk6 hmr).mono ?_
    rintro e w2 ⟨a,b,f,rfl,ha,ha6,j,rfl⟩
    have hst3:∀o,((wr.alloc o).drewN j).cell? ⟨5,0,none⟩=some (.iface 432 (.pointer (some (A 5)))):=fun o=>(hvr.alloc o).sent _ (by decide)
    have hst4:∀o,(wr.alloc o).cell? ⟨5,0,none⟩=some (.iface 432 (.pointer (some (A 5)))):=fun o=>(hvr.alloc o).sent _ (by decide)
    have hst5:∀o,((wr.drewN j).alloc o).cell? ⟨5,0,none⟩=some (.iface 432 (.pointer (some (A 5)))):=fun o=>((hvr.drewN j).alloc o).sent _ (by decide)
    have hkey:keyOf Tryz.prog 9 (.string a)=some (.string a.data.toList):=keyOf_string_mk Tryz.underlying9 (by unfold maxLen;omega)
    have hhas:Maps.has (Sd seen) (.string a.data.toList)=seen.contains (Zc7 (ps.getD k [])):=by
     rw[Ztl];show seen.contains (bl a)=_;rw[ha.out,HK.out]
    have hownd:(wr.drewN j).ownsMap Tryz.prog 9 unitElem w.heap.size k (Sd seen):=hown
    clear hmr hvr
    cases hs:seen.contains (Zc7 (ps.getD k []))
    ·have HF:Hid (ZbA 0 [] ps=ZbA (k+1) (seen++[Zc7 (ps.getD k [])]) (ps.drop (k+1))):=hid (by rw[HA.out];exact Zzc hkl HNE.out hs)
     rw[hs]at hhas
     clear hs
     go_wp2_with (first
       | (at_lookup;refine wpList_lookup_own_unit _ rfl _ _ 274 rfl 9 277 law9 Tryz.underlying274 (ZqK _) w.heap.size k _ rfl hownd _ _ rfl hkey ?_)
       | (at_mapUpdate;refine wpList_mapUpdate_own _ rfl _ _ _ 274 rfl 9 277 law9 Tryz.underlying274 (unitElem (H:=Unit)) w.heap.size k _ rfl (hownd.alloc _) (by unfold maxLen;omega) _ _ _ rfl rfl hkey _ [] unitElem_mk ?_;intro w1 hown1 hgrow1))
     have s1:=hgrow1.size
     simp at s1
     go_roundw
     case rel=>
      refine⟨k+1,_,by omega,by go_num,?_,HF,?_,by omega⟩
      ·rw[ZqO,<-HK.out,<-ha.out];exact hown1
      ·exact((ZgD hbr j).alloc (by simp;omega) _).grown hgrow1 (by simp;omega) (fun q hq=>by cases hq;exact Nat.le_refl _)
     case measure=>simp[intOf];omega
    ·have HF:Hid (ZbA 0 [] ps=some k):=hid (by rw[HA.out];exact Zzb hkl HNE.out hs)
     rw[hs]at hhas
     clear hs
     go_wp2_with (first
       | (at_lookup;refine wpList_lookup_own_unit _ rfl _ _ 274 rfl 9 277 law9 Tryz.underlying274 (ZqK _) w.heap.size k _ rfl hownd _ _ rfl hkey ?_)
       | (go_at_call 149;refine(Zl2 _ _ _).mono ?_;rintro e w' ⟨rfl,rfl⟩))
     go_ret
     refine⟨belB,Or.inl ⟨k,wr.heap.size+1,rfl,?_,HF⟩⟩
     rw[show wr.heap.size+1=(wr.alloc (.cells #[] 277)).heap.size by simp]
     exact Array.getElem?_push_size
   ·have HF:Hid (ZbA 0 [] ps=ZbA (k+1) seen (ps.drop (k+1))):=hid (by rw[HA.out];exact Zy9 hkl (by rw[<-HK.out];exact Zg5 he))
    go_wp2
    go_roundw
    case rel=>exact⟨k+1,seen,by omega,by go_num,hown.mono (Nat.le_succ _),HF,hbr,hwr⟩
    case measure=>simp[intOf];omega
  ·have HF:Hid (ZbA 0 [] ps=none):=hid (by rw[HA.out];exact Zza (by rw[<-hn.out];exact hlt))
   go_wp2
   go_ret
   exact⟨hbr,Or.inr ⟨rfl,HF⟩⟩
def Zbp(l:List UInt8):Nat×Nat:=
 if 6000<l.length then (1,0)else match Z8 0 [] (split 10 l)with
  | .inl i=>(5,i)
  | .inr es => match ZbA 0 [] (split 10 l) with
    | some i=>(6,i)
    | none=>if 30<es.length∨200<Zck es es.length then (7,0)else (0,0)
def Zft(w:World)(A:Nat->Addr)(err:Value)(r:Nat×Nat):Prop:=
 (err=.nilIface/\r=(0,0))∨
 (err=.iface 432 (.pointer (some (A 0)))/\r=(1,0))∨
 (err=.iface 432 (.pointer (some (A 6)))/\r=(7,0))∨
 (∃i fa:Nat,err=.iface 81 (.pointer (some ⟨fa,0,none⟩))/\r=(5,i)/\w.cell? ⟨fa,1,none⟩=some (.int .i64 i)/\w.cell? ⟨fa,2,none⟩=some (.iface 432 (.pointer (some (A 4)))))∨
 (∃i fa:Nat,err=.iface 81 (.pointer (some ⟨fa,0,none⟩))/\r=(6,i)/\w.cell? ⟨fa,1,none⟩=some (.int .i64 i)/\w.cell? ⟨fa,2,none⟩=some (.iface 432 (.pointer (some (A 5)))))
theorem Zmd{w:World}{fa:Nat}{x y z:Value}{t:TypeId}(h:w.heap[fa]?=some (.cells #[x,y,z] t (0,0))):w.cell? ⟨fa,1,none⟩=some y/\w.cell? ⟨fa,2,none⟩=some z:=by
 simp[World.cell?,h]
theorem Zxf{last:Int}{n:Nat}{ps:List (List UInt8)}{k:Nat}(h:ZbP last n ps=some k):k<=n+ps.length:=by
 induction ps generalizing last n with
 | nil=>simp[ZbP]at h;omega
 | cons x xs ih=>
  unfold ZbP at h
  cases hs:ZcT x with
  | none=>rw[hs]at h;cases h
  | some t=>
   rw[hs]at h
   simp only at h
   split at h
   ·cases h
   ·have:=ih h;simp;omega
theorem Zxh{l:List UInt8}{n:Nat}(h:Zca l=some n):n<=l.length+1:=by
 unfold Zca at h
 have h3:=Zlx 32 l
 generalize Zbi 32 l=st at h h3
 obtain⟨r,f⟩:=st
 simp only at h h3
 split at h
 ·have:=Option.some.inj h;omega
 ·split at h
  ·have h1:=Zxf h;have h2:=ZiO 32 r;omega
  ·cases h
theorem ZuG{l a b:List UInt8}{n:Nat}(h:line l=some (a,b,n)):n<=l.length+1:=by
 cases hc:cut 123 l with
 | none=>rw[Zij hc]at h;cases h
 | some p=>
  obtain⟨x,r⟩:=p
  cases hc2:cut 125 r with
  | none=>rw[Zii hc hc2]at h;cases h
  | some q=>
   obtain⟨y,z⟩:=q
   rw[Zik hc hc2]at h
   have h1:z.length<=l.length:=by
    rw[(Zdh hc).1,(Zdh hc2).1];simp;omega
   split at h
   ·cases hs:Zca z with
    | none=>rw[hs]at h;cases h
    | some k=>
     rw[hs]at h
     simp at h
     have:=Zxh hs
     omega
   ·cases h
theorem Zoi{i:Nat}{acc es:List Entry}{ps:List (List UInt8)}(h:Z8 i acc ps=.inr es)(ha:∀e∈acc,e.count<=6001)(hp:∀p∈ps,p.length<=6000) :
  es.length<=acc.length+ps.length/\∀e∈es,e.count<=6001:=by
 induction ps generalizing i acc with
 | nil=>
  simp only[Z8,Sum.inr.injEq]at h
  subst h;exact⟨by simp,ha⟩
 | cons x xs ih=>
  unfold Z8 at h
  split at h
  ·have:=ih h ha (fun p hp'=>hp p (by simp[hp']));exact⟨by simp;omega,this.2⟩
  ·cases hl:line x with
   | none=>rw[hl]at h;cases h
   | some t=>
    obtain⟨a,b,n⟩:=t
    rw[hl]at h
    simp only at h
    have h6:=hp x (by simp)
    have hn:=ZuG hl
    have := ih h (fun e he => by
      rcases List.mem_append.1 he with he|he
      · exact ha e he
      · simp at he;subst he;show n<=6001;omega) (fun p hp'=>hp p (by simp[hp']))
    exact⟨by have:=this.1;simp at this ⊢;omega,this.2⟩
theorem ZwZ(s:ByteArray)(A:Nat->Addr)(m:Int)(w:World)(hv:Vars w A m)(hs:6000<s.size)(hs2:s.size<=maxLen) :
  Calls Tryz.prog 40 #[.string s] w fun e w'=>∃sv err,e=.returned (.tuple #[sv,err])/\Hid (Zft w' A err (1,0))/\Below w.heap.size w w':=by
 unfold maxLen at hs2
 have hg:=hv.sent 0 (by decide)
 go_enter Tryz.func40,Tryz.ntmps40
 go_wp2
 go_region
 all_goals (try go_wp2)
 all_goals (go_ret2;exact⟨_,_,rfl,Or.inr (Or.inl ⟨rfl,rfl⟩),belB⟩)
def Zhr(w:World)(v:Value)(l:List UInt8):Prop:=∃(es:List Entry) (rs:List (Value×Value×Value×Value)),Z8 0 [] (split 10 l)=.inr es/\es.length<=30/\w.ownsRow 0 271 4 v es.length (ZbK rs)/\AllV w rs es (split 10 l)
theorem Zw3(s:ByteArray)(A:Nat->Addr)(m:Int)(w:World)(hv:Vars w A m)(hs:s.size<=6000) :
  Calls Tryz.prog 40 #[.string s] w fun e w'=>∃sv err,e=.returned (.tuple #[sv,err])/\Hid (Zft w' A err (Zbp (bl s)))/\Below w.heap.size w w'/\Hid ((Zbp (bl s)).1=0->Zhr w' sv (bl s)):=by
 have hL:Hid (∀x,(match Z8 0 [] (split 10 (bl s))with
  | .inl i=>(5,i)
  | .inr es => match ZbA 0 [] (split 10 (bl s)) with
    | some i=>(6,i)
    | none=>if 30<es.length∨200<Zck es es.length then (7,0)else (0,0))=x->Zbp (bl s)=x):=by
  intro x hx;unfold Zbp;rw[if_neg (by rw[Zi];omega)];exact hx
 have hn6:(split 10 (bl s)).length<=6001:=by have:=ZiO 10 (bl s);rw[Zi]at this;omega
 have hp6 : Hid (∀ i, i < (split 10 (bl s)).length -> ((split 10 (bl s)).getD i []).length <= 6000) := fun i hi => by
   have:=ZiN 10 (bl s) i hi;rw[Zi]at this;omega
 go_enter Tryz.func40,Tryz.ntmps40
 go_wp2_with fail
 refine(Zlu 10 s m _ hs hv.max).mono ?_
 rintro e w1 ⟨n,rfl,hn,hrow,hb1⟩
 have HN:Hid (n=(split 10 (bl s)).length):=hn
 have hn7:n<=6001:=by omega
 have hw1:w.heap.size<w1.heap.size:=hrow.1
 clear hn hn6
 have hv1:=hv.below hb1
 go_wp2_with fail
 refine(ZwQ w.heap.size (split 10 (bl s)) n A m _ HN hn7 hp6 hrow hv1).mono ?_
 rintro e w2 ⟨hb2,hcase⟩
 have hv2:=hv1.below hb2
 have hB2:Below w.heap.size w w2:=hb1.trans (hb2.mono hb1.size)
 rcases hcase with ⟨i,fa,rfl,hfa,hl⟩|⟨v,es,rs,rfl,hown,hl,HAV⟩
 ·obtain⟨c1,c2⟩:=Zmd hfa
  have HZ:Hid (Zbp (bl s)=(5,i)):=hid (hL.out (5,i) (by rw[hl.out]))
  have HR:Hid (Zft w2 A (.iface 81 (.pointer (some ⟨fa,0,none⟩))) (Zbp (bl s))):=by
   rw[hL.out (5,i) (by rw[hl.out])]
   exact Or.inr (Or.inr (Or.inr (Or.inl ⟨i,fa,rfl,rfl,c1,c2⟩)))
  clear c1 c2 hfa
  go_wp2
  go_ret2
  exact⟨_,_,rfl,HR,hB2,hid (fun h=>by rw[HZ.out]at h;cases h)⟩
 ·have hbd := Zoi hl.2 (fun e he => by simp at he) (fun p hp => by
    have:=ZpD 10 (bl s) p hp;rw[Zi]at this;omega)
  have hrow2:=hrow.below hb2 hw1
  go_wp2_with fail
  refine(ZuQ w.heap.size (split 10 (bl s)) n A m _ HN hn7 hp6 hrow2 hv2).mono ?_
  rintro e w3 ⟨hb3,hcase3⟩
  have hv3:=hv2.below hb3
  have hB3:Below w.heap.size w w3:=hB2.trans (hb3.mono hB2.size)
  rcases hcase3 with ⟨i,fa,rfl,hfa,ht⟩|⟨rfl,ht⟩
  ·obtain⟨c1,c2⟩:=Zmd hfa
   have HZ:Hid (Zbp (bl s)=(6,i)):=hid (hL.out (6,i) (by rw[hl.2];simp only[ht.out]))
   have HR:Hid (Zft w3 A (.iface 81 (.pointer (some ⟨fa,0,none⟩))) (Zbp (bl s))):=by
    rw[hL.out (6,i) (by rw[hl.2];simp only[ht.out])]
    exact Or.inr (Or.inr (Or.inr (Or.inr ⟨i,fa,rfl,rfl,c1,c2⟩)))
   clear c1 c2 hfa
   go_wp2
   go_ret2
   exact⟨_,_,rfl,HR,hB3,hid (fun h=>by rw[HZ.out]at h;cases h)⟩
  ·have hown3:=Zw hown hb3
   have hle:es.length<=6001:=by have:=hbd.1;simp at this;have:=HN.out;omega
   have HC:Hid (∀e∈es,e.count<=6001):=hbd.2
   have hsum:=ZpN es hbd.2 es.length
   have HM:Hid (Zbp (bl s)=if 30<es.length∨200<Zck es es.length then (7,0)else (0,0)):=hL.out _ (by rw[hl.2];simp only[ht.out])
   have hR:Hid (ZdZ rs es):=hl.1
   have hg3:=hv3.sent 6 (by decide)
   obtain⟨av,cp,rfl⟩:=Zv hown
   have HLN:Hid (Z8 0 [] (split 10 (bl s))=.inr es):=hl.2
   have HAV3:=hid (HAV.below hb3)
   clear hbd hown hl
   by_cases h30:30<es.length
   ·have hd:decide (30<(es.length:Int))=true:=by simp;omega
    have HR:Hid (Zbp (bl s)=(7,0)):=hid (by rw[HM.out,if_pos (Or.inl h30)])
    go_wp2
    go_region
    all_goals (try go_wp2)
    all_goals (go_ret2;exact⟨_,_,rfl,(by rw[HR.out];exact Or.inr (Or.inr (Or.inl ⟨rfl,rfl⟩))),belB,hid (fun h=>by rw[HR.out]at h;cases h)⟩)
   ·have hd:decide (30<(es.length:Int))=false:=by simp;omega
    go_wp2_with fail
    refine(Zsa _ es rs _ hown3 hR HC hle).mono ?_
    rintro e w4 ⟨rfl,hb4⟩
    have hB4:Below w.heap.size w w4:=hB3.trans (hb4.mono hB3.size)
    have hg4:=(hv3.below hb4).sent 6 (by decide)
    by_cases h200:200<Zck es es.length
    ·have HR:Hid (Zbp (bl s)=(7,0)):=hid (by rw[HM.out,if_pos (Or.inr h200)])
     have hd2:decide (200<(Zck es es.length:Int))=true:=by simp;omega
     go_wp2
     go_region
     all_goals (try go_wp2)
     all_goals (go_ret2;exact⟨_,_,rfl,(by rw[HR.out];exact Or.inr (Or.inr (Or.inl ⟨rfl,rfl⟩))),belB,hid (fun h=>by rw[HR.out]at h;cases h)⟩)
    ·have HR:Hid (Zbp (bl s)=(0,0)):=hid (by rw[HM.out,if_neg (by rintro(h|h) <;> omega)])
     have hd2:decide (200<(Zck es es.length:Int))=false:=by simp;omega
     go_wp2
     go_ret2
     exact⟨_,_,rfl,(by rw[HR.out];exact Or.inl ⟨rfl,rfl⟩),hB4,hid (fun _=>⟨es,rs,HLN.out,by omega,Zw hown3 hb4,HAV3.below hb4⟩)⟩
def ZdM:List (List UInt8)->List UInt8
 | []=>[]
 | [x]=>x
 | x::y::r=>x++44::ZdM (y::r)
theorem Zkh(x:List UInt8)(l:List (List UInt8))(h:l≠[]):ZdM (x::l)=x++44::ZdM l:=by
 cases l with
 | nil=>exact absurd rfl h
 | cons y r=>rfl
theorem ZtG(p:List UInt8)(l:List (List UInt8))(h:l≠[]):ZdM (pre p l)=p++ZdM l:=by
 cases l with
 | nil=>exact absurd rfl h
 | cons y r=>
  cases r with
  | nil=>rfl
  | cons z t=>simp[pre,ZdM]
theorem ZtJ(l:List UInt8):ZdM (split 44 l)=l:=by
 induction l with
 | nil=>rfl
 | cons b l ih=>
  by_cases hb:b=44
  ·subst hb;rw[Zhf,Zkh _ _ (Zhg 44 l),ih];rfl
  ·rw[ZiP 44 b l (by simp[hb]),ZtG _ _ (Zhg 44 l),ih];rfl
theorem ZtH(xs:List (List UInt8))(x:List UInt8)(h:xs≠[]):ZdM (xs++[x])=ZdM xs++44::x:=by
 induction xs with
 | nil=>exact absurd rfl h
 | cons y r ih=>
  cases r with
  | nil=>rfl
  | cons z t=>
   rw[List.cons_append,Zkh y (z::t++[x]) (by simp),ih (by simp),Zkh y (z::t) (by simp)];simp
def wr1(p:List UInt8×List UInt8):List UInt8:=p.1++[61]++p.2
theorem ZAa(ps:List (List UInt8×List UInt8))(k:Nat)(hk:k<=ps.length):Ze8 ps k=ZdM ((ps.take k).map wr1):=by
 induction k with
 | zero=>rfl
 | succ k ih=>
  have ih':=ih (by omega)
  have e:ps.getD k ([],[])=ps[k]:=by simp[show k<ps.length by omega]
  rw[Ze8,e,List.take_succ_eq_append_getElem (by omega),List.map_append,List.map_cons,List.map_nil]
  by_cases h0:0<k
  ·rw[if_pos h0,ZtH _ _ (by intro h;have h3:=congrArg List.length h;rw[List.length_map,List.length_take]at h3;simp only[List.length_nil]at h3;omega),ih']
   simp[wr1]
  ·obtain rfl:k=0:=by omega
   simp[Ze8,ZdM,wr1]
theorem ZtW{last x:List UInt8}{p:List UInt8×List UInt8}(h:ZdN last x=some p):x=wr1 p:=by
 unfold ZdN at h
 cases hc:cut 61 x with
 | none=>rw[hc]at h;cases h
 | some q=>
  obtain⟨n,v⟩:=q
  rw[hc]at h
  simp only at h
  split at h
  ·have:=Option.some.inj h;subst this
   rw[(Zdh hc).1];simp[wr1]
  ·cases h
theorem ZtZ{last:List UInt8}{acc ps:List (List UInt8×List UInt8)}{xs:List (List UInt8)}(h:Zbw last acc xs=some ps):∃qs,ps=acc++qs/\xs=qs.map wr1:=by
 induction xs generalizing last acc with
 | nil=>simp only[Zbw,Option.some.injEq]at h;exact⟨[],by simp[h],rfl⟩
 | cons x xs ih=>
  unfold Zbw at h
  cases hl:ZdN last x with
  | none=>rw[hl]at h;cases h
  | some p=>
   rw[hl]at h
   obtain⟨qs,e1,e2⟩:=ih h
   exact⟨p::qs,by rw[e1];simp,by rw[e2,List.map_cons,ZtW hl]⟩
theorem ZAb{l:List UInt8}{ps:List (List UInt8×List UInt8)}(h:ZbV l=some ps):Ze8 ps ps.length=l:=by
 unfold ZbV at h
 split at h
 ·rename_i hl;have:=Option.some.inj h;subst this;rw[hl];rfl
 ·obtain⟨qs,e1,e2⟩:=ZtZ h
  simp at e1;subst e1
  rw[ZAa _ _ (Nat.le_refl _),List.take_length,<-e2,ZtJ]
def Zdu(e:Entry):List UInt8:=e.name++123::e.inside
theorem ZoH{n:List UInt8}(h:ZA n=true):(123:UInt8)∉n:=by
 intro hm
 unfold ZA at h
 rw[Bool.and_eq_true]at h
 have:=List.all_eq_true.1 h.1 _ hm
 exact absurd this (by decide)
theorem ZtM{e f:Entry}(he:ZA e.name=true)(hf:ZA f.name=true):Zdu e=Zdu f ↔ e.name=f.name/\e.inside=f.inside:=by
 constructor
 ·intro h
  have h1:=Zf0 123 e.name e.inside (ZoH he)
  have h2:=Zf0 123 f.name f.inside (ZoH hf)
  unfold Zdu at h
  rw[h,h2]at h1
  have hl:=Option.some.inj h1
  have:=List.append_inj h hl.symm
  exact⟨this.1,(List.cons.inj this.2).2⟩
 ·rintro⟨h1,h2⟩;unfold Zdu;rw[h1,h2]
theorem ZuH{l a b:List UInt8}{n:Nat}(h:line l=some (a,b,n)):ZA a=true/\(ZbV b).isSome=true/\Zc7 l=a++123::b:=by
 cases hc:cut 123 l with
 | none=>rw[Zij hc]at h;cases h
 | some p=>
  obtain⟨x,r⟩:=p
  cases hc2:cut 125 r with
  | none=>rw[Zii hc hc2]at h;cases h
  | some q=>
   obtain⟨y,z⟩:=q
   rw[Zik hc hc2]at h
   split at h
   ·rename_i hok
    rw[Bool.and_eq_true]at hok
    cases hs:Zca z with
    | none=>rw[hs]at h;cases h
    | some k=>
     rw[hs]at h
     simp only[Option.map_some,Option.some.injEq,Prod.mk.injEq]at h
     obtain⟨rfl,rfl,rfl⟩:=h
     refine⟨hok.1,hok.2,?_⟩
     have hl:l=(x++123::y)++125::z:=by rw[(Zdh hc).1,(Zdh hc2).1];simp
     have hnx:(125:UInt8)∉x:=by
      intro hm
      have h1:=hok.1
      unfold ZA at h1
      rw[Bool.and_eq_true]at h1
      exact absurd (List.all_eq_true.1 h1.1 _ hm) (by decide)
     have hn:(125:UInt8)∉x++123::y:=by
      simp only[List.mem_append,List.mem_cons,not_or]
      exact⟨hnx,by decide,(Zdh hc2).2⟩
     unfold Zc7
     rw[hl,ZmF hn]
   ·cases h
def ZeQ:List Entry->List Entry->Option Nat
 | _,[]=>none
 | seen,e::r=>if (seen.map Zdu).contains (Zdu e)then some e.at_ else ZeQ (seen++[e]) r
theorem Zze{i:Nat}{acc es:List Entry}{ps:List (List UInt8)}(h:Z8 i acc ps=.inr es):∃rest,es=acc++rest/\ZbA i (acc.map Zdu) ps=ZeQ acc rest:=by
 induction ps generalizing i acc with
 | nil=>simp only[Z8,Sum.inr.injEq]at h;exact⟨[],by simp[h],rfl⟩
 | cons x xs ih=>
  unfold Z8 at h
  unfold ZbA
  split at h
  ·rename_i hx;rw[if_pos hx];exact ih h
  ·rename_i hx
   rw[if_neg hx]
   cases hl:line x with
   | none=>rw[hl]at h;cases h
   | some t=>
    obtain⟨a,b,n⟩:=t
    rw[hl]at h
    simp only at h
    obtain⟨rest,e1,e2⟩:=ih h
    refine⟨⟨i,a,b,n⟩::rest,by rw[e1];simp,?_⟩
    have hk:Zc7 x=Zdu ⟨i,a,b,n⟩:=(ZuH hl).2.2
    rw[hk,ZeQ]
    split
    ·rfl
    ·rw[List.map_append]at e2;exact e2
theorem Zzf{es:List Entry}{ps:List (List UInt8)}(h:Z8 0 [] ps=.inr es):ZbA 0 [] ps=ZeQ [] es:=by
 obtain⟨rest,e1,e2⟩:=Zze h
 simp at e1;subst e1;exact e2
def serE(P:List (List UInt8))(e:Entry):Ser:=⟨e.name,(ZbV e.inside).getD [],ZcU (P.getD e.at_ [])⟩
def Zf6(l:List UInt8):List Ser:=match Z8 0 [] (split 10 l)with
 | .inr es=>es.map (serE (split 10 l))
 | .inl _=>[]
theorem Zxj(l:List UInt8):∀x∈ZcU l,smOk x:=by
 intro x hx
 unfold ZcU at hx
 split at hx
 ·rename_i b _
  cases hd:l.drop (b+1)with
  | nil=>rw[hd]at hx;cases hx
  | cons c t=>
   rw[hd]at hx
   obtain⟨y,_,rfl⟩:=List.mem_map.1 hx
   exact ZxP y
 ·cases hx
theorem Zmf{α:Type}(Q:Nat->α->Prop):∀n:Nat,(∀j,j<n->∃z,Q j z)->∃zs:List α,zs.length=n/\∀j (h:j<zs.length),Q j zs[j]
 | 0,_=>⟨[],rfl,fun j h=>absurd h (Nat.not_lt_zero _)⟩
 | n + 1, h => by
   obtain⟨zs,h1,h2⟩:=Zmf Q n (fun j hj=>h j (by omega))
   obtain⟨z,hz⟩:=h n (by omega)
   refine⟨zs++[z],by simp[h1],fun j hj=>?_⟩
   by_cases hlt:j<zs.length
   · rw[List.getElem_append_left hlt];exact h2 j hlt
   · have hj':j=zs.length:=by simp at hj;omega
     subst hj'
     rw[List.getElem_append_right (Nat.le_refl _)]
     simp only[Nat.sub_self,List.getElem_cons_zero]
     rw[h1];exact hz
theorem ZmO : ∀ (rest seen : List Entry), ZeQ seen rest = none -> (rest.Pairwise fun a b => Zdu a ≠ Zdu b) /\ ∀ e ∈ rest, ∀ s ∈ seen, Zdu s ≠ Zdu e
  | [],_,_=>⟨List.Pairwise.nil,fun _ h=>by cases h⟩
  | e :: rest, seen, h => by
    unfold ZeQ at h
    split at h
    · cases h
    · rename_i hn
      obtain⟨h1,h2⟩:=ZmO rest (seen++[e]) h
      refine⟨List.pairwise_cons.2 ⟨fun b hb=>h2 b hb e (by simp),h1⟩,fun f hf s hs=>?_⟩
      rcases List.mem_cons.1 hf with rfl|hf
      · intro he
        refine hn ?_
        rw[List.contains_iff_mem,<-he]
        exact List.mem_map.2 ⟨s,hs,rfl⟩
      · exact h2 f hf s (List.mem_append_left _ hs)
theorem Zqy{l:List UInt8}{ps:List Lab}(h:ZbV l=some ps):wrt ps=l:=by
 have:=ZAb h
 rwa [Zqx ps _ (Nat.le_refl _),List.take_length]at this
end Go.Proofs.YtcdgkkfipdoeeaaGreatDoor
