/- Parts. -/
import Derived.Test.YtkodhpilkaihjaaGreatDoorF05
import Derived.Test.YtkodhpilkaihjaaGreatDoorF26
import Derived.Test.YtkodhpilkaihjaaGreatDoorF06
set_option maxHeartbeats 4000000
set_option maxRecDepth 100000
namespace Go.Proofs.YtkodhpilkaihjaaGreatDoor
open Go.RowKit LS
abbrev RdAt (w:World) (b:Nat) (s:ByteArray) (p:Nat):Prop:=BAt w b [.string s,.int .i64 p] 178
abbrev Zbt (w:World) (ca:Addr):Prop:=w.cell? ⟨8,0,none⟩=some (.iface 491 (.pointer (some ca)))
def RdC{α:Type}(V:World->α->Value->Prop)(Z:Value->Prop)(w:World)(b:Nat)(s:ByteArray)(ca:Addr)(r:RdR α)(v err:Value):Prop:=match r with
 | .ok x=>err=.nilIface/\V w x.1 v/\RdAt w b s x.2
 | .error x=>x.1=9/\ZB w err x.2 ca/\Z v/\∃p:Nat,RdAt w b s p
theorem RdC.ok{α:Type}{V:World->α->Value->Prop}{Z:Value->Prop}{w:World}{b:Nat}{s:ByteArray}{ca:Addr}{r:RdR α}{v err:Value}(h:RdC V Z w b s ca r v err){x:α×Nat}(hr:r=.ok x):err=.nilIface/\V w x.1 v/\RdAt w b s x.2:=by subst hr;exact h
theorem RdC.err{α:Type}{V:World->α->Value->Prop}{Z:Value->Prop}{w:World}{b:Nat}{s:ByteArray}{ca:Addr}{r:RdR α}{v err:Value}(h:RdC V Z w b s ca r v err){x:Nat×Nat}(hr:r=.error x):x.1=9/\ZB w err x.2 ca/\Z v/\∃p:Nat,RdAt w b s p:=by subst hr;exact h
theorem RdC.mkOk{α:Type}{V:World->α->Value->Prop}{Z:Value->Prop}{w:World}{b:Nat}{s:ByteArray}{ca:Addr}{r:RdR α}{v err:Value}{x:α×Nat}(hr:r=.ok x)(h:err=.nilIface/\V w x.1 v/\RdAt w b s x.2):RdC V Z w b s ca r v err:=by subst hr;exact h
theorem RdC.mkErr{α:Type}{V:World->α->Value->Prop}{Z:Value->Prop}{w:World}{b:Nat}{s:ByteArray}{ca:Addr}{r:RdR α}{v err:Value}{x:Nat×Nat}(hr:r=.error x)(h:x.1=9/\ZB w err x.2 ca/\Z v/\∃p:Nat,RdAt w b s p):RdC V Z w b s ca r v err:=by subst hr;exact h
theorem Zbt.grown{w w':World}{ca:Addr}{b:Nat}(h:Zbt w ca)(hg:w.grownBy w' (some b))(hb:20<=b):Zbt w' ca:=by
 have hl:8<w.heap.size:=World.block_lt_of_cell? _ _ h
 have e := hg.block _ hl (by intro e; injection e with e; have : 8 < 20 := by decide
                             omega)
 unfold Zbt at h ⊢
 unfold World.cell? at h ⊢
 simp only at h ⊢
 rw[e];exact h
theorem Zbt.below{w w':World}{ca:Addr}(h:Zbt w ca)(hb:Below w.heap.size w w'):Zbt w' ca:=
 (hb.cell (p:=⟨_,0,none⟩) (World.block_lt_of_cell? _ _ h)).trans h
theorem RdAt.step{w:World}{b:Nat}{s:ByteArray}{p:Nat}(h:RdAt w b s p)(q:Nat):RdAt (w.setCell ⟨b,1,none⟩ (.int .i64 (q:Int))) b s q:=by
 unfold RdAt BAt at h ⊢
 simp only[World.setCell,Array.getElem?_modify,h,if_true,Option.map_some];rfl
theorem ZB.shape{w:World}{v:Value}{p:Int}{a:Addr}(h:ZB w v p a):∃fa:Nat,v=.iface 115 (.pointer (some ⟨fa,0,none⟩)):=ZB.lt h
theorem ZeO(i:Int)(ca:Addr)(w:World)(hc:Zbt w ca) :
  Calls Tryz.prog 76 #[.int .i64 i] w fun e w'=>∃v,e=.returned v/\Hid (ZB w' v i ca)/\Below w.heap.size w w':=by
 have hc':w.cell? ⟨8,0,none⟩=some (.iface 491 (.pointer (some ca))):=hc
 clear hc
 go_enter Tryz.func76,Tryz.ntmps76
 go_wp2_with fail
 refine(Zh0 i _ w).mono ?_
 rintro e w' ⟨rfl,rfl⟩
 have HE:Hid (ZB (w.alloc (.cells #[.string ⟨#[98,121,116,101]⟩,.int .i64 i,.iface 491 (.pointer (some ca))] 119)) (.iface 115 (.pointer (some ⟨w.heap.size,0,none⟩))) i ca):=hid ⟨_,rfl,Go.Deep.blk_alloc_new _ _⟩
 go_wp2
 go_ret
 exact⟨_,rfl,HE,Zbal⟩
def SVt(_:World)(a:List UInt8)(v:Value):Prop:=∃t:ByteArray,v=.string t/\bl t=a
def SZv(v:Value):Prop:=v=.string ⟨#[]⟩
theorem Zi5(s:ByteArray)(p n b:Nat)(ca:Addr)(w:World)(hr:RdAt w b s p)(hc:Zbt w ca)(hp:p<=s.size)(hs:s.size<=maxLen)(hn:n<=70000) :
  Calls Tryz.prog 144 #[.pointer (some ⟨b,0,none⟩),.int .i64 n] w fun e w'=>∃v err,e=.returned (.tuple #[v,err])/\Hid (RdC SVt SZv w' b s ca (ZbT (bl s) p n) v err)/\w.grownBy w' (some b):=by
 unfold maxLen at hs
 have HR:Hid (RdAt w b s p):=hr
 have HC:Hid (Zbt w ca):=hc
 have HRD:Hid (RdAt w.drew b s p):=hid (hr.below ((Below.refl _ _).drew))
 have c0:w.cell? ⟨b,0,none⟩=some (.string s):=HR.cell 0
 have c1:w.cell? ⟨b,1,none⟩=some (.int .i64 p):=HR.cell 1
 have f1:w.frozen? ⟨b,1,none⟩=false:=HR.frozen 1
 clear hr hc
 by_cases h:s.size<p+n
 ·have hd:(s.size:Int) - p<n:=by omega
  have HX:Hid (ZbT (bl s) p n=.error (9,s.size)):=hid (by unfold ZbT;rw[if_pos (by rw[Ze];exact h),Ze])
  clear h
  go_enter Tryz.func144,Tryz.ntmps144
  go_wp2
  go_region
  all_goals
   go_wp2_with fail
   refine(ZeO _ ca _ (HC.below ((Below.refl _ _).drew))).mono ?_
   rintro e w1 ⟨v,rfl,hv,hb1⟩
   have HE:=hid (ZB.shape hv.out)
   have HF:Hid (RdC SVt SZv w1 b s ca (ZbT (bl s) p n) (.string ⟨#[]⟩) v):=hid (RdC.mkErr HX.out ⟨rfl,hv.out,rfl,p,HRD.below hb1⟩)
   have HG:Hid (w.grownBy w1 (some b)):=hid (Zu (((Below.refl w.heap.size w).drew).trans hb1))
   obtain⟨fa,rfl⟩:=HE.out
   clear hv hb1
   go_wp2
   go_ret2
   exact⟨_,_,rfl,HF,HG.out⟩
 ·have hd:¬(s.size:Int) - p<n:=by omega
  have HX:Hid (ZbT (bl s) p n=.ok (bl (s.extract p (p+n)),p+n)):=hid (by unfold ZbT;rw[if_neg (by rw[Ze];omega),ZmI])
  have HF:Hid (RdAt (w.drew.setCell ⟨b,1,none⟩ (.int .i64 ((p+n:Nat):Int))) b s (p+n)):=hid (RdAt.step HRD.out _)
  have HG:Hid (w.grownBy (w.drew.setCell ⟨b,1,none⟩ (.int .i64 ((p+n:Nat):Int))) (some b)):=hid (Zo (Zc2 (Zbc _ _)) (Or.inl rfl) _)
  have hpn:p+n<=s.size:=by omega
  go_enter Tryz.func144,Tryz.ntmps144
  go_wp2
  go_region
  all_goals
   go_wp2
   go_region
   all_goals
    go_wp2
    go_ret2
    exact⟨_,_,rfl,hid (RdC.mkOk HX.out ⟨rfl,⟨_,rfl,rfl⟩,HF.below ((Below.refl _ _).drew)⟩),Zc2 HG.out⟩
def NV(_:World)(a:Nat)(v:Value):Prop:=v=.int .i64 a
def NZ(v:Value):Prop:=v=.int .i64 0
theorem ZsB{a c:Nat}(ha:a<16777216)(hc:c<256):bits .or .i64 ((a:Int)*256) (c:Int)=((256*a+c:Nat):Int):=by
 have h1:(BitVec.ofInt 64 ((a:Int)*256)).toNat=a*256:=by
  rw[show((a:Int)*256)=((a*256:Nat):Int) by omega,BitVec.ofInt_natCast,BitVec.toNat_ofNat];exact Nat.mod_eq_of_lt (by omega)
 have h2:(BitVec.ofInt 64 (c:Int)).toNat=c:=by
  rw[BitVec.ofInt_natCast,BitVec.toNat_ofNat];exact Nat.mod_eq_of_lt (by omega)
 have h3:a*256 ||| c=256*a+c:=by
  have:=Nat.two_pow_add_eq_or_of_lt (i:=8) (b:=c) hc a
  rw[show(2:Nat) ^ 8=256 from rfl]at this
  rw[Nat.mul_comm a 256];exact this.symm
 show IntKind.i64.wrap ((BitVec.ofInt 64 ((a:Int)*256) ||| BitVec.ofInt 64 (c:Int)).toNat:Int)=_
 rw[BitVec.toNat_or,h1,h2,h3,IntKind.wrap_i64]
 omega
theorem Zgb(s:ByteArray)(p n b:Nat)(ca:Addr)(w:World)(hr:RdAt w b s p)(hc:Zbt w ca)(hp:p<=s.size)(hs:s.size<=maxLen)(hn:n<=4) :
  Calls Tryz.prog 75 #[.pointer (some ⟨b,0,none⟩),.int .i64 n] w fun e w'=>∃v err,e=.returned (.tuple #[v,err])/\Hid (RdC NV NZ w' b s ca (Z8 (bl s) p n) v err)/\w.grownBy w' (some b):=by
 have HT:Hid (Calls Tryz.prog 144 #[.pointer (some ⟨b,0,none⟩),.int .i64 n] w _):=hid (Zi5 s p n b ca w hr hc hp hs (by omega))
 clear hr hc hs
 go_enter Tryz.func75,Tryz.ntmps75
 go_wp2_with fail
 refine HT.mono ?_
 rintro e w1 ⟨v,err,rfl,HC,HG⟩
 cases ht:ZbT (bl s) p n with
 | error x=>
  obtain⟨h1,h2,rfl,h4⟩:=HC.err ht
  obtain⟨fa,rfl⟩:=ZB.shape h2
  have HF:Hid (RdC NV NZ w1 b s ca (Z8 (bl s) p n) (.int .i64 0) (.iface 115 (.pointer (some ⟨fa,0,none⟩)))):=hid (RdC.mkErr (x:=x) (by unfold Z8;rw[ht]) ⟨h1,h2,rfl,h4⟩)
  clear HC HT ht h1 h2 h4
  go_wp2
  go_loop [8,18] (fun v i=>v=.int .i64 0/\i=.int .i64 0) (fun _ _=>0)
  case atStart=>exact⟨rfl,rfl⟩
  case round=>
   obtain⟨rfl,rfl⟩:=hrel
   go_wp2
   go_ret2
   exact⟨_,_,rfl,HF,HG⟩
 | ok x=>
  obtain⟨rfl,⟨t,rfl,htb⟩,h3⟩:=HC.ok ht
  obtain⟨hle,hx1,hx2⟩:=ZfF ht
  have hts:t.size<=4:=by rw[ZO htb,hx1,Zhz hle];exact hn
  have HF:Hid (RdC NV NZ w1 b s ca (Z8 (bl s) p n) (.int .i64 (back (bl t))) .nilIface):=hid (RdC.mkOk (x:=(back x.1,x.2)) (by unfold Z8;rw[ht]) ⟨rfl,by rw[htb];rfl,h3⟩)
  clear HC HT ht h3 htb hx1 hx2 hle
  go_wp2
  go_loop [8,18] (fun v i=>∃k:Nat,k<=t.size/\i=.int .i64 k/\v=.int .i64 (back ((bl t).take k))) (fun _ i=>t.size - (intOf i).toNat)
  case atStart=>exact⟨0,Nat.zero_le _,rfl,rfl⟩
  case round=>
   obtain⟨k,hk,rfl,rfl⟩:=hrel
   obtain⟨h0,hh0⟩:∃h0,back ((bl t).take k)=h0:=⟨_,rfl⟩
   have HH0:Hid (back ((bl t).take k)=h0):=hh0
   rw[hh0]
   clear hh0
   by_cases hlt:k<t.size
   ·have hb:h0<16777216:=by
     have:back ((bl t).take k)<256 ^ 3:=Zev (by rw[List.length_take];omega)
     rw[HH0.out]at this;exact this
    have hc:=t[k].toNat_lt
    have hor:=ZsB hb hc
    have HNX:Hid (back ((bl t).take (k+1))=256*h0+t[k].toNat):=hid (by rw[ZfE t k hlt,Zh1,HH0.out])
    clear HH0
    go_wp2
    go_round
    case rel=>exact⟨k+1,by omega,by go_num,by rw[HNX.out];go_num⟩
    case measure=>simp[intOf];omega
   ·have HZ:Hid (back (bl t)=h0):=hid (by rw[<-HH0.out,List.take_of_length_le (by rw[Ze];omega)])
    clear HH0
    go_wp2
    go_ret2
    exact⟨_,_,rfl,by rw[<-HZ.out];exact HF,HG⟩
def Zc8(l:List UInt8):RdR Unit:=if l.head?≠some 103 then .error (9,0)else .ok ((),1)
theorem ZpT(s:ByteArray)(h:0<s.size):(bl s).head?=some s[0]:=by
 rw[List.head?_eq_getElem?,List.getElem?_eq_getElem (by rw[Ze];exact h),Zfd s 0 h]
theorem ZtF(s:ByteArray)(b:Nat)(ca:Addr)(w:World)(hr:RdAt w b s 0)(hc:Zbt w ca)(hb:20<=b)(hs:s.size<=maxLen) :
  Calls Tryz.prog 135 #[.pointer (some ⟨b,0,none⟩)] w fun e w'=>∃err,e=.returned err/\Hid (RdC (fun _ _ _=>True) (fun _=>True) w' b s ca (Zc8 (bl s)) .nilIface err)/\w.grownBy w' (some b):=by
 have HT:Hid (Calls Tryz.prog 144 #[.pointer (some ⟨b,0,none⟩),.int .i64 (1:Nat)] w _):=hid (Zi5 s 0 1 b ca w hr hc (Nat.zero_le _) hs (by omega))
 have HC0:Hid (Zbt w ca):=hc
 clear hr hc hs
 go_enter Tryz.func135,Tryz.ntmps135
 go_wp2_with fail
 refine HT.mono ?_
 rintro e w1 ⟨v,err,rfl,HC,HG⟩
 cases ht:ZbT (bl s) 0 1 with
 | error x=>
  obtain⟨h1,h2,rfl,h4⟩:=HC.err ht
  obtain⟨fa,rfl⟩:=ZB.shape h2
  have hx:s.size=0/\x=(9,0):=by
   unfold ZbT at ht
   rw[Ze]at ht
   split at ht
   ·injection ht with ht;exact⟨by omega,by rw[<-ht];congr 1;omega⟩
   ·cases ht
  have HF : Hid (RdC (fun _ _ _ => True) (fun _ => True) w1 b s ca (Zc8 (bl s)) .nilIface (.iface 115 (.pointer (some ⟨fa, 0, none⟩)))) := hid (RdC.mkErr (x := (9, 0)) (by
    unfold Zc8;rw[if_pos]
    rw[List.eq_nil_of_length_eq_zero (l:=bl s) (by rw[Ze];exact hx.1)];simp) ⟨rfl,by rw[hx.2]at h2;exact h2,trivial,h4⟩)
  clear HC HT ht h1 h2 h4 hx
  go_wp2
  go_ret
  exact⟨_,rfl,HF,HG⟩
 | ok x=>
  obtain⟨rfl,⟨t,rfl,htb⟩,h3⟩:=HC.ok ht
  obtain⟨hle,hx1,hx2⟩:=ZfF ht
  rw[Ze]at hle
  have hts:t.size=1:=by rw[ZO htb,hx1,Zhz (by rw[Ze];exact hle)]
  have ht0:some t[0]=(bl s).head?:=by
   rw[<-ZpT t (by omega),htb,hx1]
   unfold sub
   rw[List.drop_zero,List.head?_take,if_neg (by decide)]
  have HR1:Hid (RdAt w1 b s 1):=hid (by rw[hx2]at h3;exact h3)
  have HC1:Hid (Zbt w1 ca):=hid (HC0.grown HG hb)
  by_cases h103:t[0]=103
  ·have HF:Hid (RdC (fun _ _ _=>True) (fun _=>True) w1 b s ca (Zc8 (bl s)) .nilIface .nilIface):=hid (RdC.mkOk (x:=((),1)) (by unfold Zc8;rw[<-ht0,h103];rfl) ⟨rfl,trivial,HR1.out⟩)
   have hn:((t[0].toNat:Int) != 103)=false:=by rw[h103];rfl
   clear HC HT ht h3 htb hx1 hx2 hle ht0 h103
   go_wp2
   go_ret
   exact⟨_,rfl,HF,HG⟩
  ·have hn:((t[0].toNat:Int) != 103)=true:=by
    rw[bne_iff_ne];intro e;exact h103 (UInt8.toNat_inj.1 (by show _=103;omega))
   have HX:Hid (Zc8 (bl s)=.error (9,0)):=hid (by
    unfold Zc8;rw[<-ht0,if_pos];intro e;injection e with e;exact h103 e)
   clear HC HT ht h3 htb hx1 hx2 hle ht0 h103
   go_wp2_with fail
   refine(ZeO _ ca _ HC1.out).mono ?_
   rintro e w2 ⟨v,rfl,hv,hb2⟩
   have HF:Hid (RdC (fun _ _ _=>True) (fun _=>True) w2 b s ca (Zc8 (bl s)) .nilIface v):=hid (RdC.mkErr HX.out ⟨rfl,hv.out,trivial,1,HR1.below hb2⟩)
   have HG2:Hid (w.grownBy w2 (some b)):=hid (Zef HG hb2)
   obtain⟨fa,rfl⟩:=ZB.shape hv.out
   clear hv hb2
   go_wp2
   go_ret
   exact⟨_,rfl,HF,HG2.out⟩
def KV(_:World)(a:Int)(v:Value):Prop:=v=.int .i64 a
theorem ZuE{v:Nat}(hv:v<4294967296):wrap32 (v:Int)=Zdt v:=by
 unfold Zdt wrap32
 split <;> omega
theorem ZtH(s:ByteArray)(p b:Nat)(ca:Addr)(w:World)(hr:RdAt w b s p)(hc:Zbt w ca)(hb:20<=b)(hp:p<=s.size)(hs:s.size<=maxLen) :
  Calls Tryz.prog 137 #[.pointer (some ⟨b,0,none⟩)] w fun e w'=>∃v err,e=.returned (.tuple #[v,err])/\Hid (RdC KV NZ w' b s ca (Zbw (bl s) p) v err)/\w.grownBy w' (some b):=by
 have HT:Hid (Calls Tryz.prog 75 #[.pointer (some ⟨b,0,none⟩),.int .i64 (4:Nat)] w _):=hid (Zgb s p 4 b ca w hr hc hp hs (by omega))
 have HC0:Hid (Zbt w ca):=hc
 have c1:w.cell? ⟨b,1,none⟩=some (.int .i64 p):=hr.cell 1
 clear hr hc hs
 go_enter Tryz.func137,Tryz.ntmps137
 go_wp2_with fail
 refine HT.mono ?_
 rintro e w1 ⟨v,err,rfl,HC,HG⟩
 clear c1 HT
 cases ht:Z8 (bl s) p 4 with
 | error x=>
  obtain⟨h1,h2,rfl,h4⟩:=HC.err ht
  obtain⟨fa,rfl⟩:=ZB.shape h2
  have HF:Hid (RdC KV NZ w1 b s ca (Zbw (bl s) p) (.int .i64 0) (.iface 115 (.pointer (some ⟨fa,0,none⟩)))):=hid (RdC.mkErr (x:=x) (by unfold Zbw;rw[ht]) ⟨h1,h2,rfl,h4⟩)
  clear HC ht h1 h2 h4
  go_wp2
  go_ret2
  exact⟨_,_,rfl,HF,HG⟩
 | ok x=>
  obtain⟨x1,x2⟩:=x
  obtain⟨rfl,rfl,h3⟩:=HC.ok ht
  have hlt:=(Zd3 ht).2.2.2
  simp only at h3 hlt
  have HR1:=hid h3
  have hlt:x1<4294967296:=hlt
  have hcv:=ZuE hlt
  have hbd:=ZuD hlt
  have HX:Hid (Zbw (bl s) p=if Zdt x1 < -1000000000∨1000000000<Zdt x1 then .error (9,p)else .ok (Zdt x1,x2)):=hid (by unfold Zbw;rw[ht])
  have HC1:Hid (Zbt w1 ca):=hid (HC0.grown HG hb)
  clear HC ht h3
  generalize Zdt x1=z at *
  by_cases hz:z < -1000000000∨1000000000<z
  ·have HY:Hid (Zbw (bl s) p=.error (9,p)):=hid (by rw[HX.out,if_pos hz])
   have hz1:(decide (z < -1000000000) || decide (1000000000<z))=true:=by simpa using hz
   clear HX
   by_cases hz2:z < -1000000000
   all_goals
    have hw6:wrap64 z=z:=by unfold wrap64;omega
    go_wp2_with fail
    refine(ZeO _ ca _ HC1.out).mono ?_
    rintro e w2 ⟨v,rfl,hv,hb2⟩
    have HF:Hid (RdC KV NZ w2 b s ca (Zbw (bl s) p) (.int .i64 0) v):=hid (RdC.mkErr HY.out ⟨rfl,hv.out,rfl,_,HR1.below hb2⟩)
    have HG2:Hid (w.grownBy w2 (some b)):=hid (Zef HG hb2)
    obtain⟨fa,rfl⟩:=ZB.shape hv.out
    clear hv hb2
    go_wp2
    go_ret2
    exact⟨_,_,rfl,HF,HG2.out⟩
  ·have HY:Hid (Zbw (bl s) p=.ok (z,x2)):=hid (by rw[HX.out,if_neg hz])
   have hz1 : -1000000000<=z:=by omega
   have hz2:z<=1000000000:=by omega
   have hw6:wrap64 z=z:=by unfold wrap64;omega
   have HF:Hid (RdC KV NZ w1 b s ca (Zbw (bl s) p) (.int .i64 z) .nilIface):=hid (RdC.mkOk HY.out ⟨rfl,rfl,HR1.out⟩)
   clear HX hz
   go_wp2
   go_ret2
   exact⟨_,_,rfl,HF,HG⟩
theorem RdC.kept{α:Type}{V:World->α->Value->Prop}{Z:Value->Prop}{w w':World}{b:Nat}{s:ByteArray}{ca:Addr}{r:RdR α}{v err:Value}(h:RdC V Z w b s ca r v err){a:Nat}{c:List Value}{t:TypeId}(hg:w.grownBy w' (some a))(hq:BAt w a c t)(h1:t≠178)(h2:t≠119)(hV:∀x,V w x v->V w' x v):RdC V Z w' b s ca r v err:=by
 have hb : ∀ p, RdAt w b s p -> RdAt w' b s p := fun p hp => hp.grown hg (fun e => by
   injection e with e;subst e
   unfold RdAt at hp;unfold BAt at hp hq;rw[hp]at hq;injection hq with hq;injection hq with _ e2;exact h1 e2.symm)
 cases r with
 | ok x=>exact⟨h.1,hV _ h.2.1,hb _ h.2.2⟩
 | error x=>
  obtain⟨h1,h3,h4,p,h5⟩:=h
  exact⟨h1,h3.grown hg hq h2,h4,p,hb _ h5⟩
theorem Zhr(w:World)(a:Nat)(x y:Value):w.grownBy (set2 w a x y) (some a):=Zo (Zo (Zbc w (some a)) (Or.inl rfl) _) (Or.inl rfl) _
def IV(_:World)(a:Nat×Nat)(v:Value):Prop:=v=.agg #[.int .i64 a.1,.int .i64 a.2]
def IZ(v:Value):Prop:=∃x y:Int,v=.agg #[.int .i64 x,.int .i64 y]
theorem RdC.errMap{α β:Type}{V:World->α->Value->Prop}{Z:Value->Prop}{V':World->β->Value->Prop}{Z':Value->Prop}{w:World}{b:Nat}{s:ByteArray}{ca:Addr}{r:RdR α}{r':RdR β}{v v' err:Value}{x:Nat×Nat}(h:RdC V Z w b s ca r v err)(hr:r=.error x)(hr':r'=.error x)(hz:Z' v'):RdC V' Z' w b s ca r' v' err:=by
 obtain⟨h1,h2,_,h4⟩:=h.err hr
 exact RdC.mkErr hr' ⟨h1,h2,hz,h4⟩
theorem RdC.errShape{α:Type}{V:World->α->Value->Prop}{Z:Value->Prop}{w:World}{b:Nat}{s:ByteArray}{ca:Addr}{r:RdR α}{v err:Value}{x:Nat×Nat}(h:RdC V Z w b s ca r v err)(hr:r=.error x):∃fa:Nat,err=.iface 115 (.pointer (some ⟨fa,0,none⟩)):=ZB.shape (h.err hr).2.1
theorem ZtY(s:ByteArray)(p b:Nat)(ca:Addr)(w:World)(hr:RdAt w b s p)(hc:Zbt w ca)(hb:20<=b)(hp:p<=s.size)(hs:s.size<=maxLen) :
  Calls Tryz.prog 143 #[.pointer (some ⟨b,0,none⟩)] w fun e w'=>∃v err,e=.returned (.tuple #[v,err])/\Hid (RdC IV IZ w' b s ca (Zbi (bl s) p) v err)/\w.grownBy w' (some b):=by
 have hbl:=hr.lt
 have HT:Hid (∀(p n:Nat) (w:World),RdAt w b s p->Zbt w ca->p<=s.size->n<=4->Calls Tryz.prog 75 #[.pointer (some ⟨b,0,none⟩),.int .i64 n] w _):=hid (fun p n w h1 h2 h3 h4=>Zgb s p n b ca w h1 h2 h3 hs h4)
 have HC0:Hid (Zbt w ca):=hc
 have HR0:=hid hr
 have c1:w.cell? ⟨b,1,none⟩=some (.int .i64 p):=hr.cell 1
 clear hr hc hs
 go_enter Tryz.func143,Tryz.ntmps143
 go_wp2_with fail
 refine Zn fun W hW=>?_
 have hbW:Below w.heap.size w W:=by rw[hW];exact Zbal
 have HXW:Hid (BAt W w.heap.size [.int .i64 0,.int .i64 0] 184):=hid (by rw[hW];exact Go.Deep.blk_alloc_new _ _)
 have HGW:Hid (w.grownBy W (some b)):=hid (Zu hbW)
 have HCW:=hid (HC0.below hbW)
 have HRW:=hid (HR0.below hbW)
 clear hW hbW c1
 refine(HT.out p 1 W HRW.out HCW.out hp (by omega)).mono ?_
 rintro e w1 ⟨v,err,rfl,HC,hg1⟩
 have HG1:Hid (w.grownBy w1 (some b)):=hid (Zf HGW.out hg1)
 have HX1:=hid (HXW.grown hg1 (by intro e;injection e with e;omega))
 have HC1:Hid (Zbt w1 ca):=hid (HCW.grown hg1 hb)
 clear hg1 HGW HXW HCW HRW
 cases ht:Z8 (bl s) p 1 with
 | error x=>
  obtain⟨fa,rfl⟩:=HC.errShape ht
  have HF:Hid (RdC IV IZ w1 b s ca (Zbi (bl s) p) (.agg #[.int .i64 0,.int .i64 0]) (.iface 115 (.pointer (some ⟨fa,0,none⟩)))):=hid (HC.errMap ht (by unfold Zbi;rw[ht]) ⟨0,0,rfl⟩)
  obtain⟨_,_,rfl,_⟩:=HC.err ht
  clear HC ht
  have f0:=HX1.frozen 0
  have f1:=HX1.frozen 1
  have c0:=HX1.cell 0
  have c1:=HX1.cell 1
  simp only[Zget]at c0 c1
  go_wp2
  change bodyPost _ _ _ _ _ (set2 w1 w.heap.size (.int .i64 0) (.int .i64 0))
  have st:=Zds HX1.out (x:=.int .i64 0) (y:=.int .i64 0)
  have s0:=st.cell 0
  have s1:=st.cell 1
  simp only[Zget]at s0 s1
  have HE2:=hid (HF.kept (Zhr w1 w.heap.size (.int .i64 0) (.int .i64 0)) HX1.out (by decide) (by decide) (fun _ h=>h))
  have HGX:=hid (Ze5 HG1.out (Nat.le_refl _) (.int .i64 0) (.int .i64 0))
  generalize set2 w1 w.heap.size (.int .i64 0) (.int .i64 0)=WX at *
  exact bodyPost_ret (v:=.tuple #[.agg #[.int .i64 0,.int .i64 0],.iface 115 (.pointer (some ⟨fa,0,none⟩))]) (by simp[results,Tryz.results143,go_sem,s0,s1]) rfl ⟨_,_,rfl,HE2,HGX.out⟩
 | ok x=>
  obtain⟨op,q⟩:=x
  obtain⟨rfl,rfl,hq⟩:=HC.ok ht
  have hlt:=(Zd3 ht).2.2.2
  have hql:q<=s.size:=by have:=Zd3 ht;rw[Ze]at this;simp only at this;omega
  simp only at hq hlt
  have hlt:op<256:=hlt
  have HR1:=hid hq
  have HX:Hid (Zbi (bl s) p=if 13<op then .error (9,p)else match Z8 (bl s) q 2 with
   | .error e=>.error e
   | .ok y=>.ok ((op,y.1),y.2)):=hid (by unfold Zbi;rw[ht];rfl)
  clear HC ht hq
  have f0:=HX1.frozen 0
  have f1:=HX1.frozen 1
  have c0:=HX1.cell 0
  have c1:=HX1.cell 1
  simp only[Zget]at c0 c1
  by_cases h13:13<op
  ·have HY:Hid (Zbi (bl s) p=.error (9,p)):=hid (by rw[HX.out,if_pos h13])
   have hd:(13:Int)<op:=by omega
   clear HX
   go_wp2_with fail
   refine(ZeO _ ca _ HC1.out).mono ?_
   rintro e w2 ⟨v,rfl,hv,hb2⟩
   have HF:Hid (RdC IV IZ w2 b s ca (Zbi (bl s) p) (.agg #[.int .i64 0,.int .i64 0]) v):=hid (RdC.mkErr HY.out ⟨rfl,hv.out,⟨0,0,rfl⟩,_,HR1.below hb2⟩)
   have HG2:Hid (w.grownBy w2 (some b)):=hid (Zef HG1.out hb2)
   have HX2:=hid (HX1.below hb2)
   obtain⟨fa,rfl⟩:=ZB.shape hv.out
   clear hv hb2 f0 f1 c0 c1
   have f0:=HX2.frozen 0
   have f1:=HX2.frozen 1
   have c0:=HX2.cell 0
   have c1:=HX2.cell 1
   simp only[Zget]at c0 c1
   go_wp2
   change bodyPost _ _ _ _ _ (set2 w2 w.heap.size (.int .i64 0) (.int .i64 0))
   have st:=Zds HX2.out (x:=.int .i64 0) (y:=.int .i64 0)
   have s0:=st.cell 0
   have s1:=st.cell 1
   simp only[Zget]at s0 s1
   have HE2:=hid (HF.kept (Zhr w2 w.heap.size (.int .i64 0) (.int .i64 0)) HX2.out (by decide) (by decide) (fun _ h=>h))
   have HGX:=hid (Ze5 HG2.out (Nat.le_refl _) (.int .i64 0) (.int .i64 0))
   generalize set2 w2 w.heap.size (.int .i64 0) (.int .i64 0)=WX at *
   exact bodyPost_ret (v:=.tuple #[.agg #[.int .i64 0,.int .i64 0],.iface 115 (.pointer (some ⟨fa,0,none⟩))]) (by simp[results,Tryz.results143,go_sem,s0,s1]) rfl ⟨_,_,rfl,HE2,HGX.out⟩
  ·have hd:¬(13:Int)<op:=by omega
   have HY:Hid (Zbi (bl s) p=match Z8 (bl s) q 2 with
    | .error e=>.error e
    | .ok y=>.ok ((op,y.1),y.2)):=hid (by rw[HX.out,if_neg h13])
   clear HX
   go_wp2_with fail
   refine(HT.out q 2 w1 HR1.out HC1.out hql (by omega)).mono ?_
   rintro e w2 ⟨v,err,rfl,HC,hg2⟩
   have HG2:Hid (w.grownBy w2 (some b)):=hid (Zf HG1.out hg2)
   have HX2:=hid (HX1.grown hg2 (by intro e;injection e with e;omega))
   clear hg2 f0 f1 c0 c1
   have f0:=HX2.frozen 0
   have f1:=HX2.frozen 1
   have c0:=HX2.cell 0
   have c1:=HX2.cell 1
   simp only[Zget]at c0 c1
   obtain⟨a,hva,hif,HF⟩:∃a:Nat,v=.int .i64 a/\(err=.nilIface∨∃fa:Nat,err=.iface 115 (.pointer (some ⟨fa,0,none⟩)))/\Hid (RdC IV IZ w2 b s ca (Zbi (bl s) p) (.agg #[.int .i64 op,.int .i64 a]) err):=by
    cases ht:Z8 (bl s) q 2 with
    | error x=>
     obtain⟨_,_,hz,_⟩:=HC.err ht
     exact⟨0,hz,Or.inr (HC.errShape ht),hid (HC.errMap ht (by rw[HY.out,ht]) ⟨_,_,rfl⟩)⟩
    | ok x=>
     obtain⟨h1,h2,h3⟩:=HC.ok ht
     exact⟨x.1,h2,Or.inl h1,hid (RdC.mkOk (x:=((op,x.1),x.2)) (by rw[HY.out,ht]) ⟨h1,rfl,h3⟩)⟩
   subst hva
   clear HC HY
   rcases hif with rfl|⟨fa,rfl⟩
   all_goals
    go_wp2
    change bodyPost _ _ _ _ _ (set2 w2 w.heap.size (.int .i64 op) (.int .i64 a))
    have st:=Zds HX2.out (x:=.int .i64 op) (y:=.int .i64 a)
    have s0:=st.cell 0
    have s1:=st.cell 1
    simp only[Zget]at s0 s1
    have HE2:=hid (HF.kept (Zhr w2 w.heap.size (.int .i64 op) (.int .i64 a)) HX2.out (by decide) (by decide) (fun _ h=>h))
    have HGX:=hid (Ze5 HG2.out (Nat.le_refl _) (.int .i64 op) (.int .i64 a))
    generalize set2 w2 w.heap.size (.int .i64 op) (.int .i64 a)=WX at *
   ·exact bodyPost_ret (v:=.tuple #[.agg #[.int .i64 op,.int .i64 a],.nilIface]) (by simp[results,Tryz.results143,go_sem,s0,s1]) rfl ⟨_,_,rfl,HE2,HGX.out⟩
   ·exact bodyPost_ret (v:=.tuple #[.agg #[.int .i64 op,.int .i64 a],.iface 115 (.pointer (some ⟨fa,0,none⟩))]) (by simp[results,Tryz.results143,go_sem,s0,s1]) rfl ⟨_,_,rfl,HE2,HGX.out⟩
theorem Zmj(s:ByteArray)(p b:Nat)(ca:Addr)(w:World)(hr:RdAt w b s p)(hc:Zbt w ca)(hb:20<=b)(hp:p<=s.size)(hs:s.size<=maxLen) :
  Calls Tryz.prog 196 #[.pointer (some ⟨b,0,none⟩)] w fun e w'=>∃v err,e=.returned (.tuple #[v,err])/\Hid (RdC SVt SZv w' b s ca (Zb8 (bl s) p) v err)/\w.grownBy w' (some b):=by
 have HT:Hid (Calls Tryz.prog 75 #[.pointer (some ⟨b,0,none⟩),.int .i64 (2:Nat)] w _):=hid (Zgb s p 2 b ca w hr hc hp hs (by omega))
 have HK:Hid (∀(p n:Nat) (w:World),RdAt w b s p->Zbt w ca->p<=s.size->n<=70000->Calls Tryz.prog 144 #[.pointer (some ⟨b,0,none⟩),.int .i64 n] w _):=hid (fun p n w h1 h2 h3 h4=>Zi5 s p n b ca w h1 h2 h3 hs h4)
 have HC0:Hid (Zbt w ca):=hc
 clear hr hc hs
 go_enter Tryz.func196,Tryz.ntmps196
 go_wp2_with fail
 refine HT.mono ?_
 rintro e w1 ⟨v,err,rfl,HC,HG⟩
 clear HT
 cases ht:Z8 (bl s) p 2 with
 | error x=>
  obtain⟨fa,rfl⟩:=HC.errShape ht
  have HF:Hid (RdC SVt SZv w1 b s ca (Zb8 (bl s) p) (.string ⟨#[]⟩) (.iface 115 (.pointer (some ⟨fa,0,none⟩)))):=hid (HC.errMap ht (by unfold Zb8;rw[ht]) rfl)
  obtain⟨_,_,rfl,_⟩:=HC.err ht
  clear HC ht
  go_wp2
  go_ret2
  exact⟨_,_,rfl,HF,HG⟩
 | ok x=>
  obtain⟨n,q⟩:=x
  obtain⟨rfl,rfl,hq⟩:=HC.ok ht
  have hlt:=(Zd3 ht).2.2.2
  have hql:q<=s.size:=by have:=Zd3 ht;rw[Ze]at this;simp only at this;omega
  simp only at hq hlt
  have hlt:n<65536:=hlt
  have HR1:=hid hq
  have HC1:Hid (Zbt w1 ca):=hid (HC0.grown HG hb)
  have HX:Hid (Zb8 (bl s) p=ZbT (bl s) q n):=hid (by unfold Zb8;rw[ht])
  clear HC ht hq
  go_wp2_with fail
  refine(HK.out q n w1 HR1.out HC1.out hql (by omega)).mono ?_
  rintro e w2 ⟨v,err,rfl,HC,hg2⟩
  have HG2:Hid (w.grownBy w2 (some b)):=hid (Zf HG hg2)
  have HF:Hid (RdC SVt SZv w2 b s ca (Zb8 (bl s) p) v err):=hid (by rw[HX.out];exact HC.out)
  obtain⟨⟨t,hvt⟩,hif⟩:(∃t:ByteArray,v=.string t)/\(err=.nilIface∨∃fa:Nat,err=.iface 115 (.pointer (some ⟨fa,0,none⟩))):=by
   cases ht:ZbT (bl s) q n with
   | error x=>
    obtain⟨_,_,hz,_⟩:=HC.err ht
    exact⟨⟨_,hz⟩,Or.inr (HC.errShape ht)⟩
   | ok x=>
    obtain⟨h1,⟨t,h2,_⟩,h3⟩:=HC.ok ht
    exact⟨⟨t,h2⟩,Or.inl h1⟩
  subst hvt
  clear hg2 HC HX
  rcases hif with rfl|⟨fa,rfl⟩
  all_goals
   go_wp2
   go_ret2
   exact⟨_,_,rfl,HF,HG2.out⟩
def OneC{α:Type}(f:FuncId)(V:World->α->Value->Prop)(Z:Value->Prop)(w0:World)(b:Nat)(s:ByteArray)(ca:Addr)(one:Nat->RdR α):Prop:=
 ∀(p:Nat) (w:World),Below w0.heap.size w0 w->RdAt w b s p->p<=s.size->
  Calls Tryz.prog f #[.pointer (some ⟨b,0,none⟩)] w fun e w'=>∃v err,e=.returned (.tuple #[v,err])/\Hid (RdC V Z w' b s ca (one p) v err)/\w.grownBy w' (some b)
theorem ZbQ{w0 w w':World}{b:Nat}(h:Below w0.heap.size w0 w)(hg:w.grownBy w' (some b))(hb:w0.heap.size<=b):Below w0.heap.size w0 w':=
 h.trans ⟨hg.os,hg.tape,hg.output,hg.size,fun k hk=>hg.block k (Nat.lt_of_lt_of_le hk h.size) (by intro e;injection e with e;omega)⟩
def RowZ(v:Value):Prop:=v=.slice none 0 0
def ZdP(w:World)(cs:List Int)(v:Value):Prop:=w.ownsRow 0 3 1 v cs.length (cs.map (.int .i64))
theorem Tryz.infoIntV:(Tryz.prog.info? 3).map (fun i=>(i.zero,i.size,i.bytes))=some (some (.int .i64 0),1,8):=by kernel_rfl
theorem Tryz.infoIns:(Tryz.prog.info? 184).map (fun i=>(i.zero,i.size,i.bytes))=some (some (.agg #[.int .i64 0,.int .i64 0]),2,16):=by kernel_rfl
theorem Zhm{w w':World}{b base:Nat}{e:TypeId}{sz:Nat}{v:Value}{n:Nat}{xs:List Value}(h:w.ownsRow base e sz v n xs)(hg:w.grownBy w' (some b))(hb:b<base):w'.ownsRow base e sz v n xs:=
 h.kept hg (Or.inr (fun e=>by have:=(h.lt b e).1;omega))
theorem Zr2(s:ByteArray)(p n b:Nat)(ca:Addr)(w0 w:World)(h0:Below w0.heap.size w0 w)(hb:w0.heap.size<=b)(hr:RdAt w b s p)(hp:p<=s.size)(hn:n<=65535)(one:Nat->RdR Int)(h1:OneC 137 KV NZ w0 b s ca one)(hq:∀p x,one p=.ok x->p<=s.size->x.2<=s.size) :
  Calls Tryz.prog 136 #[.pointer (some ⟨b,0,none⟩),.int .i64 n,.func (.func 137) #[] #[]] w fun e w'=>∃v err,e=.returned (.tuple #[v,err])/\Hid (RdC ZdP RowZ w' b s ca (many one p n) v err)/\w.grownBy w' (some b):=by
 have hbl:=hr.lt
 obtain⟨i0,hi,hz0,hz1,hz2⟩:=info_parts Tryz.infoIntV
 have H1:=hid h1
 have HQ:=hid hq
 have H0:=hid h0
 have HR:=hid hr
 have HB0:=hid hb
 clear hr h1 hq h0 hb
 go_enter Tryz.func136,Tryz.ntmps136
 go_wp2
 go_loopw [8, 12] (fun v i wr => ∃ (k q : Nat) (xs : List Int), k <= n /\ i = .int .i64 k /\ q <= s.size /\ Hid (many one p k = .ok (xs, q)) /\ Hid (RdAt wr b s q) /\ xs.length = k /\ wr.ownsRow w.heap.size 3 1 v xs.length (xs.map (.int .i64)) /\ Hid (w.grownBy wr (some b)))
   (fun _ i _=>n - (intOf i).toNat)
 case atStart=>exact⟨0,p,[],Nat.zero_le _,rfl,hp,hid rfl,HR,rfl,World.ownsRow_nil _ _ _ _,hid (Zbc _ _)⟩
 case round=>
  obtain⟨k,q,xs,hk,rfl,hq,HM,HRr,hxl,hown,HG⟩:=hrel
  have HXL:=hid hxl
  clear hxl
  by_cases hlt:k<n
  ·have hlz:(k:Int)<n:=by omega
   obtain⟨av,cp,rfl⟩:=Zr hown
   have HO:=hid hown
   clear hown
   go_wp2_with fail
   refine(H1.out q wr (ZbQ H0.out HG.out HB0.out) HRr.out hq).mono ?_
   rintro e w1 ⟨v,err,rfl,HC,hg1⟩
   have HG1:Hid (w.grownBy w1 (some b)):=hid (Zf HG.out hg1)
   have hown1:=Zhm HO.out hg1 hbl
   clear hg1 HO HG HRr
   cases ho:one q with
   | error x=>
    obtain⟨fa,rfl⟩:=HC.errShape ho
    have HF:Hid (RdC ZdP RowZ w1 b s ca (many one p n) (.slice none 0 0) (.iface 115 (.pointer (some ⟨fa,0,none⟩)))):=hid (HC.errMap ho (Zfo HM.out ho n hlt) rfl)
    have hz:=(HC.err ho).2.2.1
    obtain rfl:=hz
    clear HC ho hown1
    go_wp2
    go_ret2
    exact⟨_,_,rfl,HF,HG1.out⟩
   | ok x=>
    obtain⟨y,q2⟩:=x
    obtain⟨rfl,hv,hr1⟩:=HC.ok ho
    have HM1:=hid (Zhd HM.out ho)
    have hq2:=HQ.out q (y,q2) ho hq
    have HR1:=hid hr1
    simp only at hq2
    have hw1:w.heap.size<=w1.heap.size:=HG1.size
    obtain rfl:=hv
    clear HC ho hr1 HM
    go_wp2_with (at_builtin;refine wpList_append_own _ rfl (.tmp 23) (.tmp 25) 53 rfl w.heap.size 3 i0 (.int .i64 0) 1 8 Tryz.underlying53 hi hz0 hz1 hz2 rfl (by decide) _ _ _ rfl (hown1.alloc _) ⟨w1.heap.size,0,none⟩ 1 1 [.int .i64 y] rfl rfl ?c1 ?c2 ?c3 ?c4 ?c5 ?_)
    case c1=>exact Zcu rfl
    case c2=>intro u hu;simp at hu;rw[hu];rfl
    case c3=>have:=HXL.out;unfold maxLen;omega
    case c4=>have:=HXL.out;omega
    case c5=>have:=HXL.out;simp;omega
    intro v' w3 hown3 hgrow _
    have HG3:Hid (w.grownBy w3 (some b)):=hid (ZeC (ZbE HG1.out _) hgrow (fun z hz=>(hown1.lt z hz).1))
    have HR3:Hid (RdAt w3 b s q2):=hid ((HR1.below Zbal).grown hgrow (fun e=>by have:=(hown1.lt b e.symm).1;omega))
    have hown4:w3.ownsRow w.heap.size 3 1 v' (xs++[y]).length ((xs++[y]).map (.int .i64)):=by
     rw[List.length_append,List.map_append];exact hown3
    clear hown1 hgrow hown3
    go_wp2
    go_roundw
    case rel=>exact⟨k+1,q2,xs++[y],by omega,by go_num,hq2,HM1,HR3,by rw[List.length_append,HXL.out];rfl,hown4,HG3⟩
    case measure=>simp[intOf];omega
  ·obtain rfl:k=n:=by omega
   obtain⟨av,cp,rfl⟩:=Zr hown
   have HF:Hid (RdC ZdP RowZ wr b s ca (many one p k) (.slice av xs.length cp) .nilIface):=hid (RdC.mkOk HM.out ⟨rfl,ZeY hown,HRr.out⟩)
   clear hown
   go_wp2
   go_ret2
   exact⟨_,_,rfl,HF,HG.out⟩
end Go.Proofs.YtkodhpilkaihjaaGreatDoor
