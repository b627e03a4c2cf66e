/- Parts. -/
import Derived.Test.YtpbemaaghbbocaaGreatDoorE36
import Derived.Test.YtpbemaaghbbocaaGreatDoorE42
import Derived.Test.YtpbemaaghbbocaaGreatDoorE23
import Derived.Test.YtpbemaaghbbocaaGreatDoorE37
namespace Go.Proofs.YtpbemaaghbbocaaGreatDoor
open Go.RowKit LS
theorem ZlE(tm:Int)(ht:vOk tm)(v:Value)(V:VV)(w:World)(h:ValV w v V)(hk:VOk 1000 V) :
  Calls Tryz.prog 28 #[.int .i64 tm,v] w fun e w'=>∃r:ByteArray,e=.returned (.string r)∧Hid (bl r=Zdh tm V)∧r.size≤2000000000000∧Below w.heap.size w w':=by
 cases V with
 | sc n=>
  obtain⟨⟨fa,fc,rfl,hF⟩,hn⟩:=h
  exact ZlF tm ht n hn fa 0 fc w
 | vec l=>
  obtain⟨ea,ec,zs,rfl,hE,hl⟩:=h
  have hlen:zs.length≤1000:=by have:=hk.2;rw[←hl,List.length_map]at this;exact this
  rw[←hl]
  exact ZlG tm ht 0 _ zs w hE hlen
def Z9:List (List UInt8)→List UInt8
 | []=>[]
 | [a]=>a
 | a::b::l=>a++10::Z9 (b::l)
theorem Zjr:∀(l:List (List UInt8)) (x:List UInt8),Z9 (l++[x])=(if l.isEmpty then [] else Z9 l++[10])++x
 | [],x=>rfl
 | [a],x=>by simp[Z9]
 | a :: b :: l, x => by
   have:=Zjr (b::l) x
   rw[List.cons_append,List.cons_append,Z9,←List.cons_append,this,Z9]
   simp
def Zbx(st:List Ser)(t:Tr)(tm:Int):List UInt8:=Zdh tm (sayT st tm t)
def Zca(q s:List UInt8)(f l st:Int):List UInt8×Nat×Nat:=match Zbd q with
 | .error x=>([],x.1,x.2)
 | .ok t => if (ZD s).1 ≠ 0 then ([], (ZD s).1, (ZD s).2) else match ZbY f l st with
   | none=>([],8,0)
   | some ts=>(Z9 (ts.map (Zbx (Zde s) t)),0,0)
theorem ZmO(s:ByteArray)(w:World)(hs:s.size≤maxLen) :
  Calls Tryz.prog 26 #[.string s] w fun e w'=>∃v,e=.returned (.tuple #[v,.int .i64 (ZD (bl s)).1,.int .i64 (ZD (bl s)).2])∧Below w.heap.size w w'∧Hid ((ZD (bl s)).1=0→Zdv w' v (bl s)∧s.size≤6000):=by
 by_cases h:s.size≤6000
 ·refine(Zrk s w h).mono ?_
  rintro e w' ⟨v,h1,h2,h3⟩
  exact⟨v,h1,h2,hid (fun h0=>⟨h3.out h0,h⟩)⟩
 ·have e:ZD (bl s)=(1,0):=by unfold ZD;rw[if_pos (by rw[Zg];omega)]
  rw[e]
  refine(Zrj s w (by omega) hs).mono ?_
  rintro e' w' ⟨v,h1,h2⟩
  exact⟨v,h1,h2,hid (fun h0=>by cases h0)⟩
theorem ZsL (f l st : Int) (w : World) : Calls Tryz.prog 27 #[.agg #[.int .i64 f, .int .i64 l, .int .i64 st]] w fun e w' => ∃ v ok : Value, e = .returned (.tuple #[v, ok]) ∧ Hid (ZhZ w' f l st v ok) ∧ Below w.heap.size w w' := by
  by_cases h:badT f l st
  · refine(ZsM f l st w h).mono ?_
    rintro e w' ⟨rfl,hb⟩
    exact⟨_,_,rfl,hid (Or.inl ⟨rfl,by unfold ZbY;rw[if_pos h]⟩),hb⟩
  · exact ZsN f l st w h
set_option linter.unusedSimpArgs false in
set_option maxRecDepth 100000 in
set_option maxHeartbeats 8000000 in
theorem ZnD(q s:ByteArray)(f l st:Int)(w:World)(hlim:q.size≤9223372036854775807)(hs:s.size≤maxLen) :
  Calls Tryz.prog 16 #[.string q,.string s,.agg #[.int .i64 f,.int .i64 l,.int .i64 st]] w fun e w'=>∃(r:ByteArray) (c p:Nat),e=.returned (.tuple #[.string r,.int .i64 c,.int .i64 p])∧Hid (Zca (bl q) (bl s) f l st=(bl r,c,p))∧Below w.heap.size w w':=by
 have HRD:Hid (∀W,Calls Tryz.prog 25 #[.string q] W _):=hid (fun W=>ZrA q W hlim)
 have HLD:Hid (∀W,Calls Tryz.prog 26 #[.string s] W _):=hid (fun W=>ZmO s W hs)
 go_enter Tryz.func16,Tryz.ntmps16
 go_wp2_with fail
 refine(HRD.out _).mono ?_
 rintro e w1 ⟨⟨v,c,p,rfl,hres⟩,hb⟩
 have HB0:Hid (Below w.heap.size w w1):=hid (Zbal.trans (hb.mono (by simp)))
 have HBX:Hid (BAt w1 w.heap.size [.int .i64 f,.int .i64 l,.int .i64 st] 46):=hid ((hb.block _ (by simp)).trans (Go.Deep.blk_alloc_new w _))
 clear hb
 cases hq:Zbd (bl q)with
 | error x=>
  obtain⟨rfl,rfl,hc0,rfl⟩:=hres.1 x hq
  have HQ:Hid (Zca (bl q) (bl s) f l st=([],x.1,x.2)):=hid (by unfold Zca;rw[hq])
  have hc:((x.1:Int) != 0)=true:=by rw[bne_iff_ne];omega
  clear hres hq
  go_wp2
  go_ret3
  exact⟨_,_,_,rfl,HQ,HB0.out⟩
 | ok t=>
  obtain⟨rfl,rfl,b,rfl,hbl,hri⟩:=hres.2 t hq
  have HRI:Hid (ZhX w1 b t):=hri
  have HTQ:Hid (winT t∧Zc t≠0):=hid (Zkq hq)
  have HEQ:Hid (∀x,(if (ZD (bl s)).1≠0 then ([],(ZD (bl s)).1,(ZD (bl s)).2)else match ZbY f l st with
   | none=>([],8,0)
   | some ts=>(Z9 (ts.map (Zbx (Zde (bl s)) t)),0,0))=x→Zca (bl q) (bl s) f l st=x):=hid (fun x hx=>by unfold Zca;rw[hq];exact hx)
  clear hres hq hri hbl
  go_wp2_with fail
  refine(HLD.out _).mono ?_
  rintro e w2 ⟨sv,rfl,hb2,HL2⟩
  have HB2:Hid (Below w.heap.size w w2):=hid (HB0.trans (hb2.mono HB0.size))
  have HB12:Hid (Below w1.heap.size w1 w2):=hid hb2
  have HBX2:=hid (HBX.below hb2)
  clear hb2 HLD HRD
  generalize hlr:ZD (bl s)=lr at *
  obtain⟨lc,lp⟩:=lr
  simp only at HL2 HEQ
  by_cases hc:lc=0
  ·subst hc
   obtain⟨hlv,hsz⟩:=HL2.out rfl
   obtain⟨ss,hsto,hpl,hds,hsl⟩:=Zdv.sto (by rw[Zg];exact hsz) hlv
   have HST:Hid (StoV w2 sv ss):=hsto
   have HPS:Hid (Zp ss=Zde (bl s)∧Dst (Zp ss)∧ss.length≤1000):=hid ⟨hpl,by rw[hpl];exact hds,by omega⟩
   clear HL2 hlv hsz hsto hpl hds hsl hlr
   have x0:=HBX2.cell 0
   have x1:=HBX2.cell 1
   have x2:=HBX2.cell 2
   simp only[Zget]at x0 x1 x2
   go_wp2_with fail
   refine(ZsL f l st _).mono ?_
   rintro e w3 ⟨tv,okv,rfl,HTI,hb3⟩
   have HB3:Hid (Below w.heap.size w w3):=hid (HB2.trans (hb3.mono HB2.size))
   have HB13:Hid (Below w1.heap.size w1 w3):=hid (HB12.trans (hb3.mono HB12.size))
   have HST3:=hid (HST.below hb3)
   clear hb3 x0 x1 x2 HBX HBX2 HST HB2 HB12
   rcases HTI.out with ⟨rfl,htn⟩|⟨rfl,ts,hts,htl,htb,hown⟩
   ·have HQ:Hid (Zca (bl q) (bl s) f l st=([],8,0)):=hid (HEQ.out _ (by rw[if_neg (by simp),htn]))
    clear htn
    go_wp2
    go_ret3
    exact⟨_,8,0,rfl,HQ,HB3.out⟩
   ·have HQ:Hid (Zca (bl q) (bl s) f l st=(Z9 (ts.map (Zbx (Zp ss) t)),0,0)):=hid (HEQ.out _ (by rw[if_neg (by simp),hts,HPS.1]))
    obtain⟨ta,tc,rfl⟩:=Zj hown
    have HTW:Hid (w3.ownsRow 0 2 1 (.slice ta ts.length tc) ts.length (ts.map (.int .i64))):=hown
    have HTB:Hid (∀t∈ts,-1000000≤t∧t≤1000000):=htb
    obtain⟨pv,n,xs,hrow,hn,hrep,hwf,hnil,hwt⟩:=HRI.out
    have HRW:Hid (RowAt w3 b pv (n+1) xs∧Rep w3 xs t n∧wfT t∧isNil t=false∧wT t≤100000∧n+1≤301):=hid ⟨hrow.below HB13.out,Rep.below HB13.out t n hrep,hwf,hnil,hwt,hn⟩
    obtain⟨pa,pc,rfl⟩:=Zj hrow.own
    obtain⟨sa,sc,rfl⟩:=Zj HST3.own
    clear hts htb hown hrow hn hrep hwf hnil hwt HTI HEQ HRI
    go_wp2
    go_loopg [15,16] ts.length (fun gk v15 v16 wr=>∃(k:Nat) (r:ByteArray),k≤ts.length∧gk=ts.length - k∧v16=.int .i64 k∧v15=.string r∧r.size≤2000000000001*k∧Hid (bl r=Z9 ((ts.take k).map (Zbx (Zp ss) t)))∧Hid (Below w3.heap.size w3 wr))
    case atStart=>exact⟨0,_,Nat.zero_le _,rfl,rfl,rfl,Nat.le_refl _,hid rfl,Below.refl _ _⟩
    case round=>
     obtain⟨k,r,hk,hgk,rfl,rfl,hrs,HR,HBW⟩:=hrel
     by_cases hlt:k<ts.length
     ·obtain⟨g,cpx,hg⟩:=Zy HTW.out (by omega)
      injection hg with hg1 _ hg2
      subst hg1 hg2
      have HSN : Hid (∀ x : List UInt8, x = Zbx (Zp ss) t ts[k] → Z9 ((ts.take (k + 1)).map (Zbx (Zp ss) t)) = (if k = 0 then [] else Z9 ((ts.take k).map (Zbx (Zp ss) t)) ++ [10]) ++ x) := hid (fun x hx => by
        rw[List.take_succ_eq_append_getElem hlt,List.map_append,List.map_singleton,Zjr,←hx]
        congr 1
        by_cases h0:k=0
        · subst h0;rfl
        · rw[if_neg h0,if_neg]
          rw[List.isEmpty_iff]
          intro he
          have:=congrArg List.length he
          rw[List.length_map,List.length_take,List.length_nil]at this
          omega)
      have hcell:wr.cell? ⟨g,k,none⟩=some (.int .i64 ts[k]):=Zn (Zw HTW.out HBW.out) k _ (by rw[List.getElem?_map,List.getElem?_eq_getElem hlt];rfl)
      have HTK:Hid (-1000000≤ts[k]∧ts[k]≤1000000):=hid (HTB.out _ (List.getElem_mem hlt))
      have hgl:=ZbJ (Zw HTW.out HBW.out)
      generalize ts[k]=tm at *
      obtain⟨ln,hln⟩:∃ln:ByteArray,ln=⟨(Zbx (Zp ss) t tm).toArray⟩:=⟨_,rfl⟩
      have HLN:Hid (bl ln=Zbx (Zp ss) t tm):=hid (by rw[hln,ZgC])
      clear hln
      have HRT : Hid (∀ W', W' = wr.drew → Calls Tryz.prog 30 #[.pointer (some ⟨b, 0, none⟩)] W' fun e w' => e = .returned (.int .i64 n) ∧ w' = W') := hid (fun W' hW' => by
        have:=(HRW.1.below HBW.out).cell
        exact ZrD (by rw[hW'];exact this) HRW.2.2.2.2.2)
      have HSY : Hid (∀ W', W' = wr.drew → Calls Tryz.prog 29 #[.pointer (some ⟨b, 0, none⟩), .int .i64 n, .slice sa ss.length sc, .int .i64 tm] W' fun e w' => ∃ (b4 : Bool) (n4 : Int) (e4 : Option Addr) (m4 c4 : Nat), e = .returned (.agg #[.bool b4, .int .i64 n4, .slice e4 m4 c4]) ∧ Hid (ValV w' (.agg #[.bool b4, .int .i64 n4, .slice e4 m4 c4]) (sayT (Zp ss) tm t)) ∧ Hid (Below wr.heap.size wr w')) := hid (fun W' hW' => by
        have hbd:Below wr.heap.size wr W':=by rw[hW'];exact(Below.refl _ _).drew
        have hb9:Below w3.heap.size w3 W':=HBW.trans (hbd.mono HBW.size)
        refine(ZhC HTK.1 HTK.2 HPS.2.1 HPS.2.2 t HRW.2.2.1 HRW.2.2.2.2.1 HTQ.1 HRW.2.2.2.1 HTQ.2 n W' (.slice sa ss.length sc) (HRW.1.below hb9) (Rep.below hb9 t n HRW.2.1) (HST3.below hb9)).mono ?_
        rintro e w9 ⟨v9,rfl,HE9,hb10⟩
        obtain⟨b3,n3,e3,m3,c3,rfl,_⟩:=HE9.shape
        exact⟨b3,n3,e3,m3,c3,rfl,HE9,hbd.trans (hb10.mono hbd.size)⟩)
      have HAW : Hid (∀ W' u, Below wr.heap.size wr W' → ValV W' u (sayT (Zp ss) tm t) → Calls Tryz.prog 28 #[.int .i64 tm, u] W' fun e w' => e = .returned (.string ln) ∧ ln.size ≤ 2000000000000 ∧ Hid (Below wr.heap.size wr w')) := hid (fun W' u hb hu => by
        refine(ZlE tm (by have:=HTK.out;unfold vOk;omega) u _ W' hu (ZeT HPS.2 tm t)).mono ?_
        rintro e w9 ⟨r9,rfl,HR9,hs9,hb9⟩
        obtain rfl:r9=ln:=Zd6 (HR9.trans HLN.symm)
        exact⟨rfl,hs9,hb.trans (hb9.mono hb.size)⟩)
      have HKE:Hid (∀W',Below wr.heap.size wr W'→W'.cell? ⟨g,k,none⟩=some (.int .i64 tm)):=hid (fun W' hb=>(hb.cell (p:=⟨g,k,none⟩) hgl).trans hcell)
      have hS0:wr.drew.cell? ⟨g,k,none⟩=some (.int .i64 tm):=hcell
      have HSZ:Hid (r.size≤2000000000001*k):=hrs
      clear hcell hgl hrs
      by_cases h0:k=0
      ·have HSM:Hid (Z9 ((ts.take (k+1)).map (Zbx (Zp ss) t))=bl r++Zbx (Zp ss) t tm):=hid (by
        rw[HSN.out _ rfl,if_pos h0,HR.out,h0];rfl)
       have hrs2:r.size≤2000000000001*k+1:=by have:=HSZ.out;omega
       subst h0
       generalize r=rr at *
       go_upto_region 16 with fail
       refine Zc3 16 (fun w'=>w'.cell? ⟨g,0,none⟩=some (.int .i64 tm)) (by kernel_rfl) (by exact hS0) (fun hHeld=>?_)
       clear hS0
       refine Zd (i:=0) (d:=54) (v:=?v0) rfl rfl (by kernel_rfl) (fun _ _ _ h=>h) (Or.inl ⟨by rfl,?hy0⟩) hHeld ?rs0
       case hy0=>(intro w hSw;go_simp;try with_reducible rfl)
       case rs0=>
       try simp only[Act.put,Zset]
       refine Zd (i:=1) (d:=55) (v:=?v1) rfl rfl (by kernel_rfl) (fun _ _ _ h=>h) (Or.inl ⟨by rfl,?hy1⟩) hHeld ?rs1
       case hy1=>(intro w hSw;go_simp;try with_reducible rfl)
       case rs1=>
       try simp only[Act.put,Zset]
       refine Zd (i:=2) (d:=56) (v:=?v2) rfl rfl (by kernel_rfl) (fun _ _ _ h=>h) (Or.inl ⟨by rfl,?hy2⟩) hHeld ?rs2
       case hy2=>(intro w hSw;go_simp;try with_reducible rfl)
       case rs2=>
       try simp only[Act.put,Zset]
       refine Zd (i:=3) (d:=57) (v:=?v3) rfl rfl (by kernel_rfl) (fun _ _ _ h=>h) (Or.inl ⟨by rfl,?hy3⟩) hHeld ?rs3
       case hy3=>(intro w hSw;go_simp;try with_reducible rfl)
       case rs3=>
       try simp only[Act.put,Zset]
       refine Zd (i:=4) (d:=58) (v:=?v4) rfl rfl (by kernel_rfl) (fun _ _ _ h=>h) (Or.inl ⟨by rfl,?hy4⟩) hHeld ?rs4
       case hy4=>(intro w hSw;go_simp;try with_reducible rfl)
       case rs4=>
       try simp only[Act.put,Zset]
       refine Zd (i:=5) (d:=59) (v:=?v5) rfl rfl (by kernel_rfl) (fun _ _ _ h=>h) (Or.inl ⟨by rfl,?hy5⟩) hHeld ?rs5
       case hy5=>(intro w hSw;go_simp;try with_reducible rfl)
       case rs5=>
       try simp only[Act.put,Zset]
       refine Zd (i:=6) (d:=60) (v:=?v6) rfl rfl (by kernel_rfl) (fun _ _ _ h=>h) (Or.inl ⟨by rfl,?hy6⟩) hHeld ?rs6
       case hy6=>(intro w hSw;go_simp;try with_reducible rfl)
       case rs6=>
       try simp only[Act.put,Zset]
       refine Zd (i:=8) (d:=62) (v:=?v8) rfl rfl (by kernel_rfl) (fun _ _ _ h=>h) (Or.inl ⟨by rfl,?hy8⟩) hHeld ?rs8
       case hy8=>(intro w hSw;go_simp;try with_reducible rfl)
       case rs8=>
       try simp only[Act.put,Zset]
       refine Zd (i:=9) (d:=63) (v:=?v9) rfl rfl (by kernel_rfl) (fun _ _ _ h=>h) (Or.inl ⟨by rfl,?hy9⟩) hHeld ?rs9
       case hy9=>(intro w hSw;go_simp;try with_reducible rfl)
       case rs9=>
       try simp only[Act.put,Zset]
       refine Zd (i:=10) (d:=64) (v:=?v10) rfl rfl (by kernel_rfl) (fun _ _ _ h=>h) (Or.inl ⟨by rfl,?hy10⟩) hHeld ?rs10
       case hy10=>(intro w hSw;go_simp;try with_reducible rfl)
       case rs10=>
       try simp only[Act.put,Zset]
       refine Zd (i:=11) (d:=65) (v:=?v11) rfl rfl (by kernel_rfl) (fun _ _ _ h=>h) (Or.inl ⟨by rfl,?hy11⟩) hHeld ?rs11
       case hy11=>(intro w hSw;go_simp;try with_reducible rfl)
       case rs11=>
       try simp only[Act.put,Zset]
       refine Zd (i:=12) (d:=66) (v:=?v12) rfl rfl (by kernel_rfl) (fun _ _ _ h=>h) (Or.inl ⟨by rfl,?hy12⟩) hHeld ?rs12
       case hy12=>(intro w hSw;go_simp;try with_reducible rfl)
       case rs12=>
       try simp only[Act.put,Zset]
       refine Z0 (i:=7) (by kernel_rfl) rfl (fun K hK=>?_)
       go_simp
       refine(HRT.out _ rfl).mono ?_
       rintro e w1 ⟨rfl,rfl⟩
       go_simp
       refine hK.out _ _ hHeld (fun hHeld=>?_)
       clear hK K
       try simp only[Act.put,Zset]
       refine Z0 (i:=13) (by kernel_rfl) rfl (fun K hK=>?_)
       go_simp
       refine(HSY.out _ rfl).mono ?_
       rintro e w5 ⟨b4,n4,e4,m4,c4,rfl,HE5,HB5⟩
       have hHeld5:=HKE.out w5 HB5.out
       go_simp
       refine hK.out _ _ hHeld5 (fun hHeld=>?_)
       clear hK K
       try simp only[Act.put,Zset]
       refine Z0 (i:=14) (by kernel_rfl) rfl (fun K hK=>?_)
       go_simp
       refine(HAW.out w5 _ HB5.out HE5.out).mono ?_
       rintro e w6 ⟨rfl,hls,HB6⟩
       have hHeld6:=HKE.out w6 HB6.out
       have a1:∀W,(Op.stringOp .add rr ln).run Tryz.prog W=.ok (.string (rr++ln)) W:=fun W=>run_string_add_sum W _ _ (by omega)
       have hsz6:(rr++ln:ByteArray).size≤2000000000001*(0+1):=by rw[ByteArray.size_append];omega
       have HE6:Hid (bl (rr++ln)=Z9 ((ts.take (0+1)).map (Zbx (Zp ss) t))):=hid (by rw[HSM.out,Zb8,HLN.out])
       go_simp
       refine hK.out _ _ hHeld6 (fun hHeld=>?_)
       clear hK K
       try simp only[Act.put,Zset]
       refine Zd (i:=15) (d:=69) (v:=?v15) rfl rfl (by kernel_rfl) (fun _ _ _ h=>h) (Or.inl ⟨by rfl,?hy15⟩) hHeld ?rs15
       case hy15=>(intro w hSw;go_simp;try with_reducible rfl)
       case rs15=>
       try simp only[Act.put,Zset]
       refine Zc9 (by kernel_rfl) (by kernel_rfl) rfl (by kernel_rfl) (fun K hK=>?_)
       go_simp
       refine hK.out _ _ ?_
       clear hK K
       go_wp2
       go_roundg (ts.length - (0+1))
       case measure=>omega
       case rel=>exact⟨0+1,_,by omega,rfl,by go_num,rfl,hsz6,HE6,hid (HBW.trans (HB6.mono HBW.size))⟩
      ·have h1:(0:Int)<k:=by omega
       have a0:∀W,(Op.stringOp .add r ⟨#[10]⟩).run Tryz.prog W=.ok (.string (r++⟨#[10]⟩)) W:=fun W=>run_string_add_sum W _ _ (by have:=HSZ.out;show r.size+1≤_;omega)
       have HSM:Hid (Z9 ((ts.take (k+1)).map (Zbx (Zp ss) t))=bl (r++⟨#[10]⟩)++Zbx (Zp ss) t tm):=hid (by
        rw[HSN.out _ rfl,if_neg h0,Zb8,HR.out];rfl)
       have hrs2:(r++⟨#[10]⟩:ByteArray).size≤2000000000001*k+1:=by have:=HSZ.out;rw[ByteArray.size_append];show r.size+1≤_;omega
       go_upto_region 16 with fail
       clear a0 h1 h0
       generalize r++⟨#[10]⟩=rr at *
       refine Zc3 16 (fun w'=>w'.cell? ⟨g,k,none⟩=some (.int .i64 tm)) (by kernel_rfl) (by exact hS0) (fun hHeld=>?_)
       clear hS0
       refine Zd (i:=0) (d:=54) (v:=?vb0) rfl rfl (by kernel_rfl) (fun _ _ _ h=>h) (Or.inl ⟨by rfl,?hyb0⟩) hHeld ?rsb0
       case hyb0=>(intro w hSw;go_simp;try with_reducible rfl)
       case rsb0=>
       try simp only[Act.put,Zset]
       refine Zd (i:=1) (d:=55) (v:=?vb1) rfl rfl (by kernel_rfl) (fun _ _ _ h=>h) (Or.inl ⟨by rfl,?hyb1⟩) hHeld ?rsb1
       case hyb1=>(intro w hSw;go_simp;try with_reducible rfl)
       case rsb1=>
       try simp only[Act.put,Zset]
       refine Zd (i:=2) (d:=56) (v:=?vb2) rfl rfl (by kernel_rfl) (fun _ _ _ h=>h) (Or.inl ⟨by rfl,?hyb2⟩) hHeld ?rsb2
       case hyb2=>(intro w hSw;go_simp;try with_reducible rfl)
       case rsb2=>
       try simp only[Act.put,Zset]
       refine Zd (i:=3) (d:=57) (v:=?vb3) rfl rfl (by kernel_rfl) (fun _ _ _ h=>h) (Or.inl ⟨by rfl,?hyb3⟩) hHeld ?rsb3
       case hyb3=>(intro w hSw;go_simp;try with_reducible rfl)
       case rsb3=>
       try simp only[Act.put,Zset]
       refine Zd (i:=4) (d:=58) (v:=?vb4) rfl rfl (by kernel_rfl) (fun _ _ _ h=>h) (Or.inl ⟨by rfl,?hyb4⟩) hHeld ?rsb4
       case hyb4=>(intro w hSw;go_simp;try with_reducible rfl)
       case rsb4=>
       try simp only[Act.put,Zset]
       refine Zd (i:=5) (d:=59) (v:=?vb5) rfl rfl (by kernel_rfl) (fun _ _ _ h=>h) (Or.inl ⟨by rfl,?hyb5⟩) hHeld ?rsb5
       case hyb5=>(intro w hSw;go_simp;try with_reducible rfl)
       case rsb5=>
       try simp only[Act.put,Zset]
       refine Zd (i:=6) (d:=60) (v:=?vb6) rfl rfl (by kernel_rfl) (fun _ _ _ h=>h) (Or.inl ⟨by rfl,?hyb6⟩) hHeld ?rsb6
       case hyb6=>(intro w hSw;go_simp;try with_reducible rfl)
       case rsb6=>
       try simp only[Act.put,Zset]
       refine Zd (i:=8) (d:=62) (v:=?vb8) rfl rfl (by kernel_rfl) (fun _ _ _ h=>h) (Or.inl ⟨by rfl,?hyb8⟩) hHeld ?rsb8
       case hyb8=>(intro w hSw;go_simp;try with_reducible rfl)
       case rsb8=>
       try simp only[Act.put,Zset]
       refine Zd (i:=9) (d:=63) (v:=?vb9) rfl rfl (by kernel_rfl) (fun _ _ _ h=>h) (Or.inl ⟨by rfl,?hyb9⟩) hHeld ?rsb9
       case hyb9=>(intro w hSw;go_simp;try with_reducible rfl)
       case rsb9=>
       try simp only[Act.put,Zset]
       refine Zd (i:=10) (d:=64) (v:=?vb10) rfl rfl (by kernel_rfl) (fun _ _ _ h=>h) (Or.inl ⟨by rfl,?hyb10⟩) hHeld ?rsb10
       case hyb10=>(intro w hSw;go_simp;try with_reducible rfl)
       case rsb10=>
       try simp only[Act.put,Zset]
       refine Zd (i:=11) (d:=65) (v:=?vb11) rfl rfl (by kernel_rfl) (fun _ _ _ h=>h) (Or.inl ⟨by rfl,?hyb11⟩) hHeld ?rsb11
       case hyb11=>(intro w hSw;go_simp;try with_reducible rfl)
       case rsb11=>
       try simp only[Act.put,Zset]
       refine Zd (i:=12) (d:=66) (v:=?vb12) rfl rfl (by kernel_rfl) (fun _ _ _ h=>h) (Or.inl ⟨by rfl,?hyb12⟩) hHeld ?rsb12
       case hyb12=>(intro w hSw;go_simp;try with_reducible rfl)
       case rsb12=>
       try simp only[Act.put,Zset]
       refine Z0 (i:=7) (by kernel_rfl) rfl (fun K hK=>?_)
       go_simp
       refine(HRT.out _ rfl).mono ?_
       rintro e w1 ⟨rfl,rfl⟩
       go_simp
       refine hK.out _ _ hHeld (fun hHeld=>?_)
       clear hK K
       try simp only[Act.put,Zset]
       refine Z0 (i:=13) (by kernel_rfl) rfl (fun K hK=>?_)
       go_simp
       refine(HSY.out _ rfl).mono ?_
       rintro e w5 ⟨b4,n4,e4,m4,c4,rfl,HE5,HB5⟩
       have hHeld5:=HKE.out w5 HB5.out
       go_simp
       refine hK.out _ _ hHeld5 (fun hHeld=>?_)
       clear hK K
       try simp only[Act.put,Zset]
       refine Z0 (i:=14) (by kernel_rfl) rfl (fun K hK=>?_)
       go_simp
       refine(HAW.out w5 _ HB5.out HE5.out).mono ?_
       rintro e w6 ⟨rfl,hls,HB6⟩
       have hHeld6:=HKE.out w6 HB6.out
       have a1:∀W,(Op.stringOp .add rr ln).run Tryz.prog W=.ok (.string (rr++ln)) W:=fun W=>run_string_add_sum W _ _ (by omega)
       have hsz6:(rr++ln:ByteArray).size≤2000000000001*(k+1):=by rw[ByteArray.size_append];omega
       have HE6:Hid (bl (rr++ln)=Z9 ((ts.take (k+1)).map (Zbx (Zp ss) t))):=hid (by rw[HSM.out,Zb8,HLN.out])
       go_simp
       refine hK.out _ _ hHeld6 (fun hHeld=>?_)
       clear hK K
       try simp only[Act.put,Zset]
       refine Zd (i:=15) (d:=69) (v:=?vb15) rfl rfl (by kernel_rfl) (fun _ _ _ h=>h) (Or.inl ⟨by rfl,?hyb15⟩) hHeld ?rsb15
       case hyb15=>(intro w hSw;go_simp;try with_reducible rfl)
       case rsb15=>
       try simp only[Act.put,Zset]
       refine Zc9 (by kernel_rfl) (by kernel_rfl) rfl (by kernel_rfl) (fun K hK=>?_)
       go_simp
       refine hK.out _ _ ?_
       clear hK K
       go_wp2
       go_roundg (ts.length - (k+1))
       case measure=>omega
       case rel=>exact⟨k+1,_,by omega,rfl,by go_num,rfl,hsz6,HE6,hid (HBW.trans (HB6.mono HBW.size))⟩
     ·obtain rfl:k=ts.length:=by omega
      rw[List.take_length]at HR
      go_wp2
      go_ret3
      exact⟨r,0,0,rfl,hid (by rw[HQ.out,HR.out]),hid (HB3.trans (HBW.mono HB3.size))⟩
  ·have hne:((lc:Int) != 0)=true:=by rw[bne_iff_ne];omega
   have HQ:Hid (Zca (bl q) (bl s) f l st=([],lc,lp)):=hid (HEQ.out _ (by rw[if_pos hc]))
   clear hc hlr
   go_wp2
   go_ret3
   exact⟨_,lc,lp,rfl,HQ,HB2.out⟩
set_option maxRecDepth 100000 in
set_option maxHeartbeats 2000000 in
theorem Zp8 (w : World) : Calls Tryz.prog 85 #[] w fun e w' => e = .returned (.pointer (some ⟨w.heap.size + 1, 0, none⟩)) ∧ Hid (MapX w' w.heap.size) ∧ Hid (BAt w' (w.heap.size + 1) [.map (some w.heap.size)] 250) ∧ w'.heap.size = w.heap.size + 2 ∧ Below w.heap.size w w' := by
  have hmm:=@run_makeMap Tryz.prog
  go_enter Tryz.func85,Tryz.ntmps85
  go_wp2
  go_ret
  have h1:Below w.heap.size w (w.alloc (.map #[] 0)):=Zbal
  refine⟨rfl,hid ⟨#[],0,(Zbal.block _ (by simp)).trans (Go.Deep.blk_alloc_new _ _)⟩,hid ?_,by simp,h1.alloc (by simp) _⟩
  have:=Go.Deep.blk_alloc_new (w.alloc (.map #[] 0)) (.cells #[.map (some w.heap.size)] 250)
  rw[Go.Deep.nblk_alloc]at this
  exact this
theorem MapX.below{w w':World}{x:Nat}(h:MapX w x)(hb:Below w.heap.size w w'):MapX w' x:=by
 obtain⟨es,cl,hx⟩:=h
 exact⟨es,cl,(hb.block x (Array.getElem?_eq_some_iff.1 hx).1).trans hx⟩
theorem MapX.grown{w w':World}{x:Nat}{r:Option Nat}(h:MapX w x)(hg:w.grownBy w' r)(hn:some x≠r):MapX w' x:=by
 obtain⟨es,cl,hx⟩:=h
 exact⟨es,cl,(hg.block x (Array.getElem?_eq_some_iff.1 hx).1 hn).trans hx⟩
theorem BAt.set1{w:World}{a:Nat}{p q r x:Value}{t:TypeId}(h:BAt w a [p,q,r] t):BAt (w.setCell ⟨a,1,none⟩ x) a [p,x,r] t:=by
 unfold BAt at h
 unfold BAt
 simp only[World.setCell,Array.getElem?_modify,h,if_true,Option.map_some];rfl
theorem Zjp:∀l:List (List UInt8),Lib.join l [10]=Z9 l
 | []=>rfl
 | [a]=>by simp[Lib.join,List.intercalate,Z9]
 | a :: b :: l => by
   have ih:=Zjp (b::l)
   rw[Z9,←ih]
   simp[Lib.join,List.intercalate]
theorem Zjq{n:Nat} : ∀l:List (List UInt8),(∀x∈l,x.length≤n)→(Z9 l).length≤l.length*(n+1)
 | [],_=>Nat.zero_le _
 | [a],h=>by have:=h a (by simp);simp only[Z9,List.length_cons,List.length_nil];omega
 | a :: b :: l, h => by
   have ih:=Zjq (b::l) (fun x hx=>h x (List.mem_cons_of_mem _ hx))
   have ha:=h a (by simp)
   have e:(Z9 (a::b::l)).length=a.length+((Z9 (b::l)).length+1):=by rw[Z9,List.length_append,List.length_cons]
   rw[e,List.length_cons,Nat.succ_mul]
   omega
theorem ZoU{w:World}{v:Value}{B:Nat}(bs:List ByteArray)(h:w.ownsRow B 9 1 v bs.length (Z8 bs))(hl:bs.length≤50)(hs:∀b∈bs,b.size≤40000000000) :
  Calls Tryz.prog 82 #[v,.string ⟨#[10]⟩] w fun e w'=>∃s:ByteArray,e=.returned (.string s)∧Hid (bl s=Z9 (bs.map bl))∧Below w.heap.size w w':=by
 by_cases hz:bs.length=0
 ·obtain⟨la,lc,rfl⟩:=Zj h
  rw[hz]
  refine(Tryz.strings_Join_none la lc ⟨#[10]⟩ w).mono ?_
  rintro e w' ⟨rfl,rfl⟩
  have:bs=[]:=List.eq_nil_of_length_eq_zero hz
  subst this
  exact⟨_,rfl,hid rfl,Below.refl _ _⟩
 ·obtain⟨g,lc,rfl⟩:=Zy h (by omega)
  have hj:Lib.join (bs.map (·.data.toList)) [10]=Z9 (bs.map bl):=Zjp _
  have hcm:=Zjq (n:=40000000000) (bs.map bl) (fun x hx=>by obtain⟨b,hb,rfl⟩:=List.mem_map.1 hx;rw[Zg];exact hs b hb)
  rw[List.length_map]at hcm
  have hcm2:(Z9 (bs.map bl)).length≤140737488355328:=by omega
  have hcap:bs.length≤lc:=by
   rcases h.2 with ⟨e,_⟩|⟨g',cap,cur,e,_,_,hc,_⟩
   ·cases e
   ·injection e with _ _ e;subst e;exact hc
  rw[←hj]at hcm2
  refine(Tryz.strings_Join g 0 lc bs ⟨#[10]⟩ w ?_ (ZbJ h) (by omega) hcap hcm2).mono ?_
  ·intro j x hj
   rw[Nat.zero_add]
   exact Zn h j _ (by show(bs.map Value.string)[j]?=_;rw[List.getElem?_map,hj];rfl)
  ·rintro e w' ⟨rfl,hb⟩
   exact⟨_,rfl,hid (by show bl (ByteArray.mk (Lib.join (bs.map (·.data.toList)) [10]).toArray)=_;rw[Zc4,hj]),hb⟩
set_option linter.unusedSimpArgs false in
set_option maxRecDepth 100000 in
set_option maxHeartbeats 8000000 in
theorem ZlD(t:Tr)(ts:List Int)(ss:List Srs)(pv sv tv:Value)(w:World)(hts:ts.length≤50)(htr:∀t∈ts,-1000000≤t∧t≤1000000)(hrow:w.ownsRow 0 3 1 tv ts.length (ts.map (Value.int .i64)))(hP:Zo w t pv)(hS:StoP w sv ss)
  (hsay:∀x mb gb tm,-1000000≤tm→tm≤1000000→ZbM x mb gb sv ss tm t) (hok:∀tm,VOk 30 (sayT (ss.map Srs.ser) tm t)) (hp:Zb3 w) (hB:20≤w.heap.size) :
  Calls Tryz.prog 41 #[pv,sv,tv] w fun e w'=>∃r:ByteArray,e=.returned (.string r)∧Hid (bl r=Z9 (ts.map (Zbx (ss.map Srs.ser) t)))∧Below w.heap.size w w':=by
 obtain⟨i0,hi,hz0,hz1,hz2⟩:=info_parts Tryz.infoStrG
 obtain⟨ta,tcp,rfl⟩:=Zj hrow
 obtain⟨sa,scp,rfl⟩:=Zj hS.row
 obtain⟨pty,pu,rfl⟩:=hP.shape
 have HP:Hid (Zb3 w):=hp
 have HNG:Hid (20≤w.heap.size):=hB
 have HTR:Hid (∀t∈ts,-1000000≤t∧t≤1000000):=htr
 have HROW:=hid hrow
 have HPV:=hid hP
 have HSV:=hid hS
 have HSAY:=hid hsay
 have HOK:=hid hok
 clear hp hB htr hrow hP hS hsay hok
 go_enter Tryz.func41,Tryz.ntmps41
 go_wp2_with fail
 refine(Zp8 w).mono ?_
 rintro e w1 ⟨rfl,HM1,HG1,hs1,hb1⟩
 have HB1:=hid hb1
 have HS1:=hid hs1
 clear hb1 hs1
 go_wp2_with (at_make;refine wpList_make_own _ rfl _ _ 31 rfl (w.heap.size+3) 9 i0 _ 1 Tryz.underlying31 hi hz0 hz1 _ _ _ ts.length rfl rfl rfl ?b2 ?b3 ?b4 ?_)
 case b2=>rw[hz2];omega
 case b3=>unfold maxLen;omega
 case b4=>simp;have:=HS1.out;omega
 intro w2 hown2 hgrow2
 have hs1:=HS1.out
 have HBm:Hid (BAt w2 w1.heap.size [.slice sa ss.length scp,.int .i64 0,.pointer (some ⟨w.heap.size+1,0,none⟩)] 188):=hid (BAt.grown (Go.Deep.blk_alloc_new _ _) hgrow2 (by simp))
 have HBg:Hid (BAt w2 (w.heap.size+1) [.map (some w.heap.size)] 250):=hid ((HG1.alloc _).grown hgrow2 (by simp))
 have HMx:Hid (MapX w2 w.heap.size):=hid ((HM1.below Zbal).grown hgrow2 (by simp))
 have HB2:Hid (Below w.heap.size w w2):=hid ((HB1.alloc (by omega) _).grown hgrow2 (by simp;omega) (fun q hq=>by cases hq))
 have HO2:=hid hown2
 clear hgrow2 hown2
 generalize w1.heap.size=mb at *
 subst hs1
 clear HM1 HG1 HB1 HS1
 go_wp2
 go_loopw [8,19] (fun v i wr=>∃(k:Nat) (rs:List ByteArray) (tm:Int),k≤ts.length∧i=.int .i64 k∧rs.length=k∧Hid (wr.ownsRow (w.heap.size+3) 9 1 v rs.length (Z8 rs))∧Hid (rs.map bl=(ts.take k).map (Zbx (ss.map Srs.ser) t))∧Hid (∀r∈rs,r.size≤40000000000)∧Hid (BAt wr (w.heap.size+2) [.slice sa ss.length scp,.int .i64 tm,.pointer (some ⟨w.heap.size+1,0,none⟩)] 188)∧Hid (BAt wr (w.heap.size+1) [.map (some w.heap.size)] 250)∧Hid (MapX wr w.heap.size)∧Hid (Below w.heap.size w wr)) (fun _ i _=>ts.length - (intOf i).toNat)
 case atStart=>exact⟨0,[],0,Nat.zero_le _,rfl,rfl,HO2,hid rfl,hid (fun r hr=>by cases hr),HBm,HBg,HMx,HB2⟩
 case round=>
  rename World=>wo
  obtain⟨k,rs,tm,hk,rfl,hrk,HO,HL,HZ,HBm,HBg,HMx,HB⟩:=hrel
  have hwo:=HB.size
  have hmo:=HBm.lt
  by_cases hlt:k<ts.length
  ·have hg:∃g,ta=some ⟨g,0,none⟩:=by
    obtain⟨g,cp',h⟩:=Zy HROW.out (by omega)
    injection h with h1;exact⟨g,h1⟩
   obtain⟨tg,rfl⟩:=hg
   have d1:=Zn (Zw HROW.out HB.out) k (.int .i64 ts[k]) (by rw[List.getElem?_map,List.getElem?_eq_getElem hlt];rfl)
   have HTK:Hid ((ts.take (k+1)).map (Zbx (ss.map Srs.ser) t)=(ts.take k).map (Zbx (ss.map Srs.ser) t)++[Zbx (ss.map Srs.ser) t ts[k]]):=hid (by rw[List.take_succ_eq_append_getElem hlt,List.map_append];rfl)
   have HTT:=hid (HTR.out _ (List.getElem_mem hlt))
   generalize ts[k]=tk at *
   have hkz:(k:Int)<(ts.length:Int):=by omega
   have y1:=HBm.cell 1
   have fz1:=HBm.frozen 1
   simp only[Zget]at y1
   go_wp2_with fail
   refine Zbf fun W hW=>?_
   have HBW:Hid (Below w.heap.size w W):=hid (by rw[hW];exact HB.setCell (by simp) _)
   have hwW:=HBW.size
   have HMO : Hid (MOk w.heap.size (w.heap.size + 2) (w.heap.size + 1) (.slice sa ss.length scp) ss tk W) := hid ⟨by rw [hW]; exact HBm.set1, by rw [hW]; exact HBg.other (by simp) _, by
     obtain⟨es,cl,hx⟩:=HMx.out
     exact⟨es,cl,by rw[hW];exact(Go.Deep.blk_setCell_other _ _ _ _ (by simp)).trans hx⟩,HSV.below HBW.out⟩
   have HOW:Hid (W.ownsRow (w.heap.size+3) 9 1 u8 rs.length (Z8 rs)):=hid (by rw[hW];exact ownsRow_setCell_below HO.out (by simp) _)
   have HPW:=hid (HPV.keepsC (Zv.below HBW.out))
   clear hW HB HO HBm HBg HMx y1 fz1 d1
   refine(HSAY.out w.heap.size (w.heap.size+2) (w.heap.size+1) tk HTT.1 HTT.2 (.iface pty pu) W HMO.out HPW.out).mono ?_
   rintro e w5 ⟨v5,rfl,HV5,HM5,HX5⟩
   have HO5:=hid ((Zv.belX HX5.out HMO.map).own HOW.out)
   have HB5:Hid (Below w.heap.size w w5):=hid (HBW.trans ((HX5.mono hwW).below (Nat.le_refl _)))
   have HP5:=hid (HP.low HB5.out HNG.out)
   have hw5:=HB5.size
   clear HMO HOW HPW HBW HX5
   go_wp2_with fail
   refine(ZpB tk (by have:=HTT.out;unfold vOk;omega) v5 _ w5 HV5.out (HOK.out tk) HP5.out (by have:=HNG.out;omega)).mono ?_
   rintro e w6 ⟨r6,rfl,HR6,hz6,hb6⟩
   have HO6:=hid (Zw HO5.out hb6)
   have HB6:Hid (Below w.heap.size w w6):=hid (HB5.trans (hb6.mono hw5))
   have HM6:=hid (HM5.below hb6)
   have HZ6:=hid hz6
   have hw6:=HB6.size
   have hm6:=HM6.m.lt
   clear hb6 hz6 HO5 HB5 HM5 HP5 HV5
   go_wp2_with (at_builtin;refine wpList_append_own _ rfl (.tmp 25) (.tmp 30) 31 rfl (w.heap.size+3) 9 i0 (.string ByteArray.empty) 1 16 Tryz.underlying31 hi hz0 hz1 hz2 rfl (by decide) _ _ _ rfl (HO6.alloc _) ⟨w6.heap.size,0,none⟩ 1 1 [.string r6] rfl rfl ?c1 ?c2 ?c3 ?c4 ?c5 ?_)
   case c1=>exact Zbg rfl
   case c2=>intro u hu;simp at hu;subst hu;rfl
   case c3=>unfold maxLen;omega
   case c4=>omega
   case c5=>simp;omega
   intro v7 w7 hown7 hgrow7 _
   have HO7:Hid (w7.ownsRow (w.heap.size+3) 9 1 v7 (rs++[r6]).length (Z8 (rs++[r6]))):=hid (by rw[ZfU,List.length_append,hrk];exact hown7)
   have hne:∀a,a<w.heap.size+3→some a≠u8.ownBlock:=fun a ha e=>by have:=(HO6.lt a e.symm).1;omega
   have HBm7:=hid ((HM6.m.alloc _).grown hgrow7 (hne _ (by omega)))
   have HBg7:=hid ((HM6.g.alloc _).grown hgrow7 (hne _ (by omega)))
   have HMx7:=hid ((HM6.map.below Zbal).grown hgrow7 (hne _ (by omega)))
   have HB7:Hid (Below w.heap.size w w7):=hid ((HB6.alloc (by omega) _).grown hgrow7 (by simp;omega) (fun q hq=>by have:=(HO6.lt q hq).1;omega))
   have HL7:Hid ((rs++[r6]).map bl=(ts.take (k+1)).map (Zbx (ss.map Srs.ser) t)):=hid (by rw[HTK.out,List.map_append,HL.out,List.map_singleton,HR6.out];rfl)
   have HZ7 : Hid (∀ r ∈ rs ++ [r6], r.size ≤ 40000000000) := hid (fun r hr => by
     rcases List.mem_append.1 hr with h|h
     · exact HZ.out r h
     · rw[List.mem_singleton]at h;subst h;exact HZ6.out)
   clear hgrow7 hown7 hne
   go_wp2
   go_roundw
   case rel=>exact⟨k+1,rs++[r6],tk,by omega,by go_num,by simp;omega,HO7,HL7,HZ7,HBm7,HBg7,HMx7,HB7⟩
   case measure=>simp[intOf];omega
  ·obtain rfl:k=ts.length:=by omega
   have HL':Hid (rs.map bl=ts.map (Zbx (ss.map Srs.ser) t)):=hid (by have:=HL.out;rwa [List.take_length]at this)
   go_wp2_with fail
   refine(ZoU rs HO.out (by omega) HZ.out).mono ?_
   rintro e w5 ⟨r5,rfl,HR5,hb5⟩
   have HB5:Hid (Below w.heap.size w w5):=hid (HB.trans (hb5.mono hwo))
   clear hb5
   go_wp2
   go_ret
   exact⟨_,rfl,hid (by rw[HR5.out,HL'.out]),HB5.out⟩
end Go.Proofs.YtpbemaaghbbocaaGreatDoor
