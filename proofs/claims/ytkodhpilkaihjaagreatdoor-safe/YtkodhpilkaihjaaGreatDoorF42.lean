/- Parts. -/
import Derived.Test.YtkodhpilkaihjaaGreatDoorF41
import Derived.Test.YtkodhpilkaihjaaGreatDoorF23
import Derived.Test.YtkodhpilkaihjaaGreatDoorF26
import Derived.Lib.ConvBytes
import Derived.Test.YtkodhpilkaihjaaGreatDoorF17
import Derived.Test.YtkodhpilkaihjaaGreatDoorF25
import Derived.Test.YtkodhpilkaihjaaGreatDoorF01
import Derived.Lib.SmallJoins
import Derived.OpenShut
set_option linter.unusedSimpArgs false
set_option maxRecDepth 100000
set_option maxHeartbeats 16000000
namespace Go.Proofs.YtkodhpilkaihjaaGreatDoor
open Go.RowKit LS
theorem ZmP{l:List UInt8}{p n:Nat}{x:Nat×Nat}(h:ZbT l p n=.error x):x.1=9:=by
 unfold ZbT at h
 split at h
 ·injection h with h;subst h;rfl
 ·cases h
theorem Zhh{l:List UInt8}{p n:Nat}{x:Nat×Nat}(h:Z8 l p n=.error x):x.1=9:=by
 unfold Z8 at h
 cases ht:ZbT l p n with
 | error e=>rw[ht]at h;injection h with h;subst h;exact ZmP ht
 | ok y=>rw[ht]at h;cases h
theorem ZmO{l:List UInt8}{p:Nat}{x:Nat×Nat}(h:Zb8 l p=.error x):x.1=9:=by
 unfold Zb8 at h
 cases ht:Z8 l p 2 with
 | error e=>rw[ht]at h;injection h with h;subst h;exact Zhh ht
 | ok y=>rw[ht]at h;exact ZmP h
theorem ZoA{l:List UInt8}{p:Nat}{x:Nat×Nat}(h:Zbw l p=.error x):x.1=9:=by
 unfold Zbw at h
 cases ht:Z8 l p 4 with
 | error e=>rw[ht]at h;injection h with h;subst h;exact Zhh ht
 | ok y=>
  rw[ht]at h
  simp only at h
  split at h
  ·injection h with h;subst h;rfl
  ·cases h
theorem Ztc{l:List UInt8}{p:Nat}{x:Nat×Nat}(h:Zbz l p=.error x):x.1=9:=by
 unfold Zbz at h
 cases ht:Zb8 l p with
 | error e=>rw[ht]at h;injection h with h;subst h;exact ZmO ht
 | ok y=>
  rw[ht]at h
  simp only at h
  split at h
  ·injection h with h;subst h;rfl
  ·cases h
theorem ZpG{l:List UInt8}{p:Nat}{x:Nat×Nat}(h:Zbx l p=.error x):x.1=9:=by
 unfold Zbx at h
 cases ht:Zb8 l p with
 | error e=>rw[ht]at h;injection h with h;subst h;exact ZmO ht
 | ok y=>
  rw[ht]at h
  simp only at h
  split at h
  ·injection h with h;subst h;rfl
  ·cases h
theorem Zp7{l:List UInt8}{p:Nat}{x:Nat×Nat}(h:Zbi l p=.error x):x.1=9:=by
 unfold Zbi at h
 cases ht:Z8 l p 1 with
 | error e=>rw[ht]at h;injection h with h;subst h;exact Zhh ht
 | ok y=>
  rw[ht]at h
  simp only at h
  split at h
  ·injection h with h;subst h;rfl
  ·cases hu:Z8 l y.2 2 with
   | error e=>rw[hu]at h;injection h with h;subst h;exact Zhh hu
   | ok z=>rw[hu]at h;cases h
theorem Zf3{α:Type}{one:Nat->RdR α}{p:Nat}(h1:∀q x,one q=.error x->x.1=9):∀ {k:Nat} {x:Nat×Nat},many one p k=.error x->x.1=9
 | 0,x,h=>by cases h
 | k + 1, x, h => by
   unfold many at h
   cases hm:many one p k with
   | error e=>rw[hm]at h;injection h with h;subst h;exact Zf3 h1 hm
   | ok y=>
     rw[hm]at h
     simp only at h
     cases ho:one y.2 with
     | error e=>rw[ho]at h;injection h with h;subst h;exact h1 _ _ ho
     | ok z=>rw[ho]at h;cases h
theorem ZoM{l:List UInt8}{x:Nat×Nat}(h:Zbg l=.error x):x.1≠0:=by
 unfold Zbg at h
 cases hn:Zcy l with
 | error e=>
  rw[hn]at h
  injection h with h;subst h
  unfold Zcy at hn
  split at hn
  ·injection hn with hn;subst hn;simp
  ·split at hn
   ·injection hn with hn;subst hn;simp
   ·cases hn
 | ok n=>
  rw[hn]at h
  simp only at h
  cases h1:many (Zbw l) 9 n.1 with
  | error e=>rw[h1]at h;injection h with h;subst h;rw[Zf3 (fun _ _=>ZoA) h1];decide
  | ok cs=>
   rw[h1]at h
   simp only at h
   cases h2:many (Zbz l) cs.2 n.2.1 with
   | error e=>rw[h2]at h;injection h with h;subst h;rw[Zf3 (fun _ _=>Ztc) h2];decide
   | ok ps=>
    rw[h2]at h
    simp only at h
    cases h3:many (Zbx l) ps.2 n.2.2.1 with
    | error e=>rw[h3]at h;injection h with h;subst h;rw[Zf3 (fun _ _=>ZpG) h3];decide
    | ok gs=>
     rw[h3]at h
     simp only at h
     cases h4:many (Zbi l) gs.2 n.2.2.2 with
     | error e=>rw[h4]at h;injection h with h;subst h;rw[Zf3 (fun _ _=>Zp7) h4];decide
     | ok is=>
      rw[h4]at h
      simp only at h
      split at h
      ·injection h with h;subst h;simp
      ·split at h
       ·injection h with h;subst h;simp
       ·split at h
        ·injection h with h;subst h;simp
        ·cases h
theorem Zmi{c:CodeQ} : ∀ {k:Nat} {x:Nat×Nat},ZbL c k=.error x->x.1=11
 | 0,x,h=>by cases h
 | k + 1, x, h => by
   unfold ZbL at h
   cases hm:ZbL c k with
   | error e=>rw[hm]at h;injection h with h;subst h;exact Zmi hm
   | ok y=>
     rw[hm]at h
     simp only at h
     split at h
     · cases h
     · injection h with h;subst h;rfl
theorem Zl2{c:CodeQ} : ∀ {k:Nat} {x:Nat×Nat},Zbd c k=.error x->x.1=12
 | 0,x,h=>by cases h
 | k + 1, x, h => by
   unfold Zbd at h
   cases hm:Zbd c k with
   | error e=>rw[hm]at h;injection h with h;subst h;exact Zl2 hm
   | ok y=>
     rw[hm]at h
     simp only[ZeH]at h
     split at h
     · split at h
       · injection h with h;subst h;rfl
       · split at h
         · injection h with h;subst h;rfl
         · cases h
     · cases h
theorem Zlm{l:List UInt8}{x:Nat×Nat}(h:Zbj l=.error x):x.1≠0:=by
 unfold Zbj at h
 cases hd:Zbg l with
 | error e=>rw[hd]at h;injection h with h;subst h;exact ZoM hd
 | ok c=>
  rw[hd]at h
  simp only at h
  cases hv:Zcq c with
  | ok y=>rw[hv]at h;cases h
  | error e=>
   rw[hv]at h
   injection h with h;subst h
   unfold Zcq at hv
   cases hr:ZbL c c.ins.length with
   | error e=>rw[hr]at hv;injection hv with hv;subst hv;rw[Zmi hr];decide
   | ok u=>
    rw[hr]at hv
    simp only at hv
    cases hh:ZcQ c with
    | ok m=>rw[hh]at hv;cases hv
    | error e=>
     rw[hh]at hv
     injection hv with hv;subst hv
     unfold ZcQ at hh
     cases hp:Zbd c c.ins.length with
     | error e=>rw[hp]at hh;injection hh with hh;subst hh;rw[Zl2 hp];decide
     | ok y=>
      rw[hp]at hh
      simp only at hh
      split at hh
      ·cases hh
      ·injection hh with hh;subst hh;simp
theorem ZrT{l:List UInt8}{y:CodeQ×Nat×Nat}(h:Zbj l=.ok y):0<l.length:=by
 unfold Zbj at h
 cases hd:Zbg l with
 | error e=>rw[hd]at h;cases h
 | ok c=>obtain⟨n,h1,_⟩:=Zig hd;omega
theorem Zkd(n:Int):decI n≠[]:=by
 unfold decI
 split
 ·exact fun h=>nomatch h
 ·rw[decS]
  split
  ·exact fun h=>nomatch h
  ·intro h;simp at h
theorem ZnD(t:Int):∀v:VV,Zc7 t v≠[]
 | .sc n=>fun h=>Zkd t (by unfold Zc7 at h;simp at h)
 | .vec l=>fun h=>Zkd t (by unfold Zc7 at h;exact(List.append_eq_nil_iff.1 h).1)
theorem Zvg{f l s:Int}{ts:List Int}(h:Zb9 f l s=some ts):ts≠[]:=by
 by_cases hb:badT f l s
 ·unfold Zb9 at h;rw[if_pos hb]at h;cases h
 ·rw[ZmV hb]at h
  split at h
  ·cases h
  ·injection h with h
   subst h
   intro h2
   have h3:cnt l s f=0:=by
    have:=congrArg List.length h2
    simpa using this
   unfold badT at hb
   unfold cnt at h3
   rw[if_pos (by omega)]at h3
   omega
theorem ZmR{st:List Ser}{c:CodeQ} : ∀ {ts:List Int} {f:Nat} {z:List (List UInt8)×Nat},Zbo st c f ts=some z->z.1.length=ts.length/\∀x∈z.1,x≠[]
 | [],f,z,h=>by injection h with h;subst h;exact⟨rfl,fun x hx=>nomatch hx⟩
 | t :: ts, f, z, h => by
   unfold Zbo at h
   cases hr:runE st t c f 0 mq0 with
   | none=>rw[hr]at h;cases h
   | some x=>
     rw[hr]at h
     simp only at h
     cases ht:Zbo st c x.1 ts with
     | none=>rw[ht]at h;cases h
     | some y=>
       rw[ht]at h
       injection h with h;subst h
       obtain⟨h1,h2⟩:=ZmR ht
       refine⟨by simp[h1],fun u hu=>?_⟩
       rcases List.mem_cons.1 hu with rfl|hu
       · exact ZnD _ _
       · exact h2 u hu
theorem Zqg:∀ {l:List (List UInt8)},l≠[]->(∀x∈l,x≠[])->ZbJ l≠[]
 | [],h,_=>absurd rfl h
 | [a],_,h=>by simpa [ZbJ] using h a (by simp)
 | a :: b :: l, _, h => by
   intro h2
   rw[ZbJ]at h2
   exact h a (by simp) (List.append_eq_nil_iff.1 h2).1
theorem Zo2{cd s:List UInt8}{f l st fuel:Int}{y:CodeQ×Nat×Nat}(h:Zbj cd=.ok y)(hf:0<=fuel/\fuel<=1000000)(hl:(Zy s).1=0){ts:List Int}(ht:Zb9 f l st=some ts):(∃r,r≠[]/\Zb6 cd s f l st fuel=(r,0,0))∨Zb6 cd s f l st fuel=([],13,0):=by
 have e:=Zkw fuel h hl ht
 rw[if_neg (by omega)]at e
 cases hz:Zbo (ZdN s) y.1 fuel.toNat ts with
 | none=>right;rw[e,hz];rfl
 | some z=>
  left
  obtain⟨h1,h2⟩:=ZmR hz
  refine⟨ZbJ z.1,Zqg (fun h3=>Zvg ht ?_) h2,by rw[e,hz];rfl⟩
  rw[h3]at h1
  exact List.eq_nil_of_length_eq_zero h1.symm
theorem Zo3{cd s:List UInt8}{f l st fuel:Int}{y:CodeQ×Nat×Nat}(h:Zbj cd=.ok y)(hl:(Zy s).1≠0):Zb6 cd s f l st fuel=([],(Zy s).1,(Zy s).2):=by
 unfold Zb6
 rw[h]
 simp only
 rw[if_pos hl]
theorem Zo4{cd s:List UInt8}{f l st fuel:Int}{y:CodeQ×Nat×Nat}(h:Zbj cd=.ok y)(hl:(Zy s).1=0)(ht:Zb9 f l st=none):Zb6 cd s f l st fuel=([],8,0):=by
 unfold Zb6
 rw[h]
 simp only
 rw[if_neg (by rw[hl];simp),ht]
theorem Zo1{cd s:List UInt8}{f l st fuel:Int}{x:Nat×Nat}(h:Zbj cd=.error x):Zb6 cd s f l st fuel=([],x.1,x.2):=by
 unfold Zb6
 rw[h]
theorem ZtV:∃t,Z4 [49]=.ok t:=by
 cases h:Z4 [49]with
 | ok t=>exact⟨t,rfl⟩
 | error e=>
  have h1:(match Z4 [49]with|.ok _=>true|.error _=>false)=true:=by kernel_rfl
  rw[h]at h1
  cases h1
theorem ZoZ(f l st:Int):(Zdn [49] [] f l st).2.1=if (Zb9 f l st).isNone then 8 else 0:=by
 obtain⟨t,ht⟩:=ZtV
 have h0:(Zy []).1=0:=by kernel_rfl
 unfold Zdn
 rw[ht]
 simp only
 rw[if_neg (by rw[h0];simp)]
 cases Zb9 f l st <;> rfl
def BytR(w:World)(g:Nat)(l:List UInt8):Prop:=∃C:Array Value,w.heap[g]?=some (.cells C 5 (C.size,C.size+1))/\l.length<=C.size/\∀j (h:j<l.length),C[j]?=some (.int .u8 (l[j].toNat:Int))
theorem BytR.cell{w:World}{g:Nat}{l:List UInt8}(h:BytR w g l)(j:Nat)(hj:j<l.length):w.cell? ⟨g,j,none⟩=some (.int .u8 (l[j].toNat:Int)):=by
 obtain⟨C,h1,_,h3⟩:=h
 simp[World.cell?,h1,h3 j hj]
theorem BytR.frozen{w:World}{g:Nat}{l:List UInt8}(h:BytR w g l)(j:Nat)(hj:j<l.length):w.frozen? ⟨g,j,none⟩=false:=by
 obtain⟨C,h1,h2,_⟩:=h
 simp[World.frozen?,h1]
 omega
theorem BytR.lt{w:World}{g:Nat}{l:List UInt8}(h:BytR w g l):g<w.heap.size:=by
 obtain⟨C,h1,_⟩:=h
 exact(Array.getElem?_eq_some_iff.1 h1).1
theorem BytR.below{w w':World}{g:Nat}{l:List UInt8}(h:BytR w g l)(hb:Below w.heap.size w w'):BytR w' g l:=by
 obtain⟨C,h1,h2,h3⟩:=h
 exact⟨C,(hb.block g (Array.getElem?_eq_some_iff.1 h1).1).trans h1,h2,h3⟩
theorem BytR.set{w:World}{g:Nat}{l:List UInt8}(h:BytR w g l)(i:Nat)(d:UInt8):BytR (w.setCell ⟨g,i,none⟩ (.int .u8 (d.toNat:Int))) g (l.set i d):=by
 obtain⟨C,h1,h2,h3⟩:=h
 refine⟨C.setIfInBounds i (.int .u8 (d.toNat:Int)),?_,by simpa using h2,fun j hj=>?_⟩
 ·simp only[World.setCell,Array.getElem?_modify,h1,if_true,Option.map_some]
  simp
 ·rw[List.length_set]at hj
  rw[Array.getElem?_setIfInBounds,List.getElem_set]
  by_cases e:i=j
  ·rw[if_pos e,if_pos e,if_pos (by omega)]
  ·rw[if_neg e,if_neg e];exact h3 j hj
theorem BytR.made(w:World)(s:ByteArray):BytR (Lib.bytesWorld w 5 s) w.heap.size (bl s):=by
 refine⟨Lib.bytesCells w 5 s,Lib.bytesWorld_at_new w 5 s,?_,fun j hj=>?_⟩
 ·rw[Ze];simp[Lib.bytesCells]
 ·have hj2:j<s.size:=by rw[Ze]at hj;exact hj
  unfold Lib.bytesCells
  rw[Array.getElem?_append_left (by simpa using hj2)]
  simp[bl,hj2]
theorem BytR.conv{w:World}{g cap:Nat}{l:List UInt8}(h:BytR w g l):(convert 41 9 (.slice (some ⟨g,0,none⟩) l.length cap)).run Tryz.prog w=.ok (.string ⟨l.toArray⟩) w:=by
 refine run_convert_bytes_back _ _ _ 5 ⟨g,0,none⟩ cap l Tryz.underlying41 Tryz.underlying5 Tryz.underlying9 ?_
 intro j hj
 have h1:=h.cell j hj
 by_cases h0:j=0
 ·subst h0;exact h1
 ·simpa [Addr.add,h0] using h1
theorem Zof(c:UInt8){k:Nat}(h0:1<=k)(h1:k<=255):∃d:UInt8,c≠d/\bits .xor .u8 (c.toNat:Int) (k:Int)=(d.toNat:Int):=by
 have hc:=c.toNat_lt
 have hx:c.toNat ^^^ k<256:=Nat.xor_lt_two_pow (n:=8) hc (by omega)
 refine⟨UInt8.ofNat (c.toNat ^^^ k),fun e=>?_,?_⟩
 ·have h2:=congrArg UInt8.toNat e
  rw[UInt8.toNat_ofNat_of_lt' (by exact hx)]at h2
  have h3:=congrArg (c.toNat ^^^ ·) h2
  simp only[Nat.xor_self,<-Nat.xor_assoc,Nat.zero_xor]at h3
  omega
 ·rw[UInt8.toNat_ofNat_of_lt' (by exact hx)]
  exact u8_xor_nat _ _ hc (by omega)
theorem Zog{l:List UInt8}{i:Nat}(h:i<l.length)(d:UInt8):l=l.take i++l[i]::l.drop (i+1)/\l.set i d=l.take i++d::l.drop (i+1):=by
 refine⟨?_,?_⟩
 ·rw[List.getElem_cons_drop,List.take_append_drop]
 ·rw[List.set_eq_take_append_cons_drop,if_pos h]
theorem Zpw(s:ByteArray)(A:Nat->Addr)(m:Int)(w:World)(hv:Vars w A m)(hs:s.size<=maxLen) :
  Calls Tryz.prog 11 #[.string s] w fun e w'=>e=.returned (.tuple #[.int .i64 (Zy (bl s)).1,.int .i64 (Zy (bl s)).2])/\Below w.heap.size w w':=by
 refine ZrL s A m (Zy (bl s)) w hv ?_
 by_cases h:s.size<=6000
 ·refine hid ((Zmf s A m w hv h).mono ?_)
  rintro e w' ⟨sv,err,h1,h2,h3,_⟩
  exact⟨sv,err,h1,h2,h3⟩
 ·have e:Zy (bl s)=(1,0):=by unfold Zy;rw[if_pos (by rw[Ze];omega)]
  rw[e]
  exact Zme s A m w hv (by omega) hs
theorem Zt8(cd s:ByteArray)(f l st fuel at_ bs:Int)(A:Nat->Addr)(m:Int)(w:World)(hv:Vars w A m)(ht:Zx w)(hB:20<=w.heap.size)(hcd:cd.size<=maxLen)(hs:s.size<=maxLen)(hf1 : -9223372036854775808<=fuel)(hf2:fuel<=9223372036854775807)(ha1 : -9223372036854775808<=at_)(ha2:at_<=9223372036854775807)(hb1 : -9223372036854775808<=bs)(hb2:bs<=9223372036854775807) :
  Calls Tryz.prog 5 #[.string cd,.string s,.agg #[.int .i64 f,.int .i64 l,.int .i64 st],.int .i64 fuel,.int .i64 at_,.int .i64 bs] w fun e w'=>e=.returned (.bool true)/\Below w.heap.size w w':=by
 have HA:Hid (∀W,Below w.heap.size w W->Calls Tryz.prog 9 #[] W _):=hid (fun W hb=>ZnO A m W (hv.below hb) (ht.low hb hB) (Nat.le_trans hB hb.size))
 have HVF:Hid (∀(p:ByteArray) W,p.size<=maxLen->Below w.heap.size w W->Calls Tryz.prog 10 #[.string p] W _):=hid (fun p W hp hb=>Zpy p A m W (hv.below hb) (ht.low hb hB) (Nat.le_trans hB hb.size) hp)
 have HL:Hid (∀W,Below w.heap.size w W->Calls Tryz.prog 11 #[.string s] W fun e w'=>e=.returned (.tuple #[.int .i64 (Zy (bl s)).1,.int .i64 (Zy (bl s)).2])/\Below W.heap.size W w'):=hid (fun W hb=>Zpw s A m W (hv.below hb) hs)
 have HE:Hid (∀W,Below w.heap.size w W->Calls Tryz.prog 12 #[.string ⟨#[49]⟩,.string ⟨#[]⟩,.agg #[.int .i64 f,.int .i64 l,.int .i64 st]] W _):=hid (fun W hb=>ZkK ⟨#[49]⟩ ⟨#[]⟩ f l st A m W (hv.below hb) (ht.low hb hB) (Nat.le_trans hB hb.size) (by decide) (by decide))
 have HX:Hid (∀(fu:Int) W,Below w.heap.size w W->Calls Tryz.prog 13 #[.string cd,.string s,.agg #[.int .i64 f,.int .i64 l,.int .i64 st],.int .i64 fu] W _):=hid (fun fu W hb=>Zpu cd s f l st fu A m W (hv.below hb) (ht.low hb hB) (Nat.le_trans hB hb.size) hcd hs)
 have HPF:=hid (fun W=>ZiX fuel 1000001 hf1 hf2 (by decide) (by decide) W)
 have HCD:=hid hcd
 have HPR:=hid (Zfw fuel 1000001 (by decide))
 clear hv ht hB hs hcd hf1 hf2
 go_enter Tryz.func5,Tryz.ntmps5
 go_wp2_with fail
 refine Zn fun W hW=>?_
 have hbW:Below w.heap.size w W:=by rw[hW];exact Zbal
 have HSP:Hid (BAt W w.heap.size [.int .i64 f,.int .i64 l,.int .i64 st] 26):=hid (by rw[hW];exact Go.Deep.blk_alloc_new _ _)
 refine(HA.out W hbW).mono ?_
 rintro e w1 ⟨rfl,hb1'⟩
 have HB1:Hid (Below w.heap.size w w1):=hid (hbW.trans (hb1'.mono hbW.size))
 have HS1:=hid (HSP.below hb1')
 clear hb1' hbW hW HA HSP
 go_wp2_with fail
 refine(HVF.out cd w1 HCD.out HB1.out).mono ?_
 rintro e w2 ⟨va,vb,ve,vp,rfl,HVQ,hb2'⟩
 have HB2:Hid (Below w.heap.size w w2):=hid (HB1.trans (hb2'.mono HB1.size))
 have HS2:=hid (HS1.below hb2')
 clear hb2' HB1 HS1
 go_wp2_with fail
 refine Zn fun W3 hW3=>?_
 have hb3:Below w2.heap.size w2 W3:=by rw[hW3];exact Zbal
 have HB3:Hid (Below w.heap.size w W3):=hid (HB2.trans (hb3.mono HB2.size))
 have HS3:=hid (HS2.below hb3)
 clear hb3 hW3 HB2 HS2
 generalize w2.heap.size=nb at *
 refine(HL.out W3 HB3.out).mono ?_
 rintro e w4 ⟨rfl,hb4⟩
 have HB4:Hid (Below w.heap.size w w4):=hid (HB3.trans (hb4.mono HB3.size))
 have HS4:=hid (HS3.below hb4)
 clear hb4 HB3 HS3 HL
 have x0:=HS4.cell 0
 have x1:=HS4.cell 1
 have x2:=HS4.cell 2
 simp only[Zget]at x0 x1 x2
 have hxl:=HS4.lt
 go_wp2_with fail
 clear x0 x1 x2 hxl
 refine(HE.out w4 HB4.out).mono ?_
 rintro e w5 ⟨er,ec,ep,rfl,HEQ,hb5⟩
 have HEC:Hid (ec=if (Zb9 f l st).isNone then 8 else 0):=hid (by have h1:=ZoZ f l st;have h2:=HEQ.out;rw[show bl ⟨#[49]⟩=[49] from rfl,show bl ⟨#[]⟩=[] from rfl]at h2;rw[h2]at h1;exact h1)
 have HB5:Hid (Below w.heap.size w w5):=hid (HB4.trans (hb5.mono HB4.size))
 have HS5:=hid (HS4.below hb5)
 clear hb5 HB4 HS4 HE HEQ
 have hxl:=HS5.lt
 go_upto_region 5 with fail
 have HD:Hid (Below w5.heap.size w5 w5.drew):=hid (Below.refl _ _).drew
 have HSD:=hid (HS5.below HD.out)
 have HBD:Hid (Below w.heap.size w w5.drew):=hid (HB5.trans (HD.mono HB5.size))
 refine Zb0 12 (fun w'=>w'.cell? ⟨w.heap.size,0,none⟩=some (.int .i64 f)/\w'.cell? ⟨w.heap.size,1,none⟩=some (.int .i64 l)/\w'.cell? ⟨w.heap.size,2,none⟩=some (.int .i64 st)) (by kernel_rfl) (by exact⟨HSD.cell 0,HSD.cell 1,HSD.cell 2⟩) (fun hHeld=>?_)
 refine Zc (i:=0) (d:=49) (v:=?va0) rfl rfl (by kernel_rfl) (fun _ _ _ h=>h) (Or.inl ⟨by rfl,?hya0⟩) hHeld ?rsa0
 case hya0=>(intro w hSw;go_simp;try with_reducible rfl)
 case rsa0=>
 try simp only[Zset]
 refine Zc (i:=1) (d:=50) (v:=?va1) rfl rfl (by kernel_rfl) (fun _ _ _ h=>h) (Or.inl ⟨by rfl,?hya1⟩) hHeld ?rsa1
 case hya1=>(intro w hSw;go_simp;try with_reducible rfl)
 case rsa1=>
 try simp only[Zset]
 refine Zc (i:=2) (d:=51) (v:=?va2) rfl rfl (by kernel_rfl) (fun _ _ _ h=>h) (Or.inl ⟨by rfl,?hya2⟩) hHeld ?rsa2
 case hya2=>(intro w hSw;go_simp;try with_reducible rfl)
 case rsa2=>
 try simp only[Zset]
 refine Zc (i:=3) (d:=52) (v:=?va3) rfl rfl (by kernel_rfl) (fun _ _ _ h=>h) (Or.inl ⟨by rfl,?hya3⟩) hHeld ?rsa3
 case hya3=>(intro w hSw;go_simp;try with_reducible rfl)
 case rsa3=>
 try simp only[Zset]
 refine ZbN (i:=4) (by kernel_rfl) rfl (fun K hK=>?_)
 go_simp
 refine(HPF.out _).mono ?_
 rintro e wq ⟨rfl,rfl⟩
 go_simp
 refine hK.out _ _ ⟨HSD.cell 0,HSD.cell 1,HSD.cell 2⟩ (fun hHeld=>?_)
 clear hK K
 try simp only[Act.put,Zset]
 refine ZbN (i:=5) (by kernel_rfl) rfl (fun K hK=>?_)
 go_simp
 refine(HX.out _ _ HBD.out).mono ?_
 rintro e w6 ⟨xr,xc,xp,rfl,HXQ,hb6⟩
 go_simp
 have HS6:=hid (HSD.below hb6)
 have HB6:Hid (Below w.heap.size w w6):=hid (HBD.trans (hb6.mono HBD.size))
 refine hK.out _ _ ⟨HS6.cell 0,HS6.cell 1,HS6.cell 2⟩ (fun hHeld=>?_)
 clear hK K hb6 HSD HBD HD HS5 HB5 hxl HX HPF
 try simp only[Act.put,Zset]
 refine Zc (i:=6) (d:=48) (v:=?va6) rfl rfl (by kernel_rfl) (fun _ _ _ h=>h) (Or.inl ⟨by rfl,?hya6⟩) hHeld ?rsa6
 case hya6=>(intro w hSw;go_simp;try with_reducible rfl)
 case rsa6=>
 try simp only[Zset]
 refine Zc (i:=7) (d:=55) (v:=?va7) rfl rfl (by kernel_rfl) (fun _ _ _ h=>h) (Or.inl ⟨by rfl,?hya7⟩) hHeld ?rsa7
 case hya7=>(intro w hSw;go_simp;try with_reducible rfl)
 case rsa7=>
 try simp only[Zset]
 refine Zc (i:=8) (d:=56) (v:=?va8) rfl rfl (by kernel_rfl) (fun _ _ _ h=>h) (Or.inl ⟨by rfl,?hya8⟩) hHeld ?rsa8
 case hya8=>(intro w hSw;go_simp;try with_reducible rfl)
 case rsa8=>
 try simp only[Zset]
 refine Zc (i:=9) (d:=57) (v:=?va9) rfl rfl (by kernel_rfl) (fun _ _ _ h=>h) (Or.inl ⟨by rfl,?hya9⟩) hHeld ?rsa9
 case hya9=>(intro w hSw;go_simp;try with_reducible rfl)
 case rsa9=>
 try simp only[Zset]
 refine Zc (i:=10) (d:=22) (v:=?va10) rfl rfl (by kernel_rfl) (fun _ _ _ h=>h) (Or.inl ⟨by rfl,?hya10⟩) hHeld ?rsa10
 case hya10=>(intro w hSw;go_simp;try with_reducible rfl)
 case rsa10=>
 try simp only[Zset]
 refine Zc (i:=11) (d:=23) (v:=?va11) rfl rfl (by kernel_rfl) (fun _ _ _ h=>h) (Or.inl ⟨by rfl,?hya11⟩) hHeld ?rsa11
 case hya11=>(intro w hSw;go_simp;try with_reducible rfl)
 case rsa11=>
 try simp only[Zset]
 refine ZbW (by kernel_rfl) (by kernel_rfl) rfl (by kernel_rfl) (fun K hK=>?_)
 go_simp
 refine hK.out _ _ ?_
 clear hK K hHeld HS6
 cases hlk:Zbj (bl cd)with
 | error x=>
  have h1:=HVQ.out
  rw[hlk]at h1
  have h2:(0,0,x.1,x.2)=(va,vb,ve,vp):=h1
  injection h2 with _ h2
  injection h2 with _ h2
  injection h2 with h3 h4
  subst h3 h4
  have hne:=Zlm hlk
  have h5:=HXQ.symm.trans (Zo1 hlk)
  injection h5 with h6 h7
  injection h7 with h7 h8
  subst h7 h8
  obtain rfl:xr=⟨#[]⟩:=Zfe h6
  have hne2:¬((x.1:Int)=0):=by omega
  clear HVQ h1 hlk HXQ h6
  go_wp2
  go_ret
  exact⟨rfl,HB6.out⟩
 | ok y=>
  have h1:=HVQ.out
  rw[hlk]at h1
  have h2:(y.2.1,y.2.2,0,0)=(va,vb,ve,vp):=h1
  injection h2 with _ h2
  injection h2 with _ h2
  injection h2 with h3 h4
  subst h3 h4
  have HLK:=hid hlk
  have hlen:=ZrT hlk
  rw[Ze]at hlen
  clear HVQ h1 hlk
  go_upto_region 10 with fail
  have hcv:=Lib.run_convert_string_bytes w6 9 41 5 cd Tryz.underlying9 Tryz.underlying41 Tryz.underlying5
  have HR7:=hid (BytR.made w6 cd)
  have HB7:Hid (Below w.heap.size w (Lib.bytesWorld w6 5 cd)):=hid (HB6.trans ((show Below w6.heap.size w6 (Lib.bytesWorld w6 5 cd) from⟨rfl,rfl,rfl,by rw[Lib.bytesWorld_size];omega,fun k hk=>Lib.bytesWorld_at_old _ _ _ _ hk⟩).mono HB6.size))
  have hR7l:=HR7.lt
  generalize hw7:Lib.bytesWorld w6 5 cd=w7 at *
  clear hw7
  have hcl:(bl cd).length=cd.size:=Ze cd
  obtain⟨ai,hai⟩:∃ai:Nat,Zdd at_ cd.size=ai:=⟨(Zdd at_ cd.size).toNat,by have:=Zfw at_ cd.size (by omega);omega⟩
  have hai1:ai<(bl cd).length:=by have:=Zfw at_ cd.size (by omega);rw[hcl];omega
  obtain⟨bi,hbi⟩:∃bi:Nat,Zdd bs 255=bi:=⟨(Zdd bs 255).toNat,by have:=Zfw bs 255 (by omega);omega⟩
  have hbi1:bi<255:=by have:=Zfw bs 255 (by omega);omega
  have HPA:Hid (∀W,Calls Tryz.prog 14 #[.int .i64 at_,.int .i64 cd.size] W fun e w'=>e=.returned (.int .i64 (ai:Int))/\w'=W):=hid (fun W=>by rw[<-hai];exact ZiX at_ cd.size ha1 ha2 (by omega) (by have:=HCD.out;unfold maxLen at this;omega) W)
  have HPB:Hid (∀W,Calls Tryz.prog 14 #[.int .i64 bs,.int .i64 255] W fun e w'=>e=.returned (.int .i64 (bi:Int))/\w'=W):=hid (fun W=>by rw[<-hbi];exact ZiX bs 255 hb1 hb2 (by decide) (by decide) W)
  obtain⟨d,hd1,hd2⟩:=Zof (bl cd)[ai] (k:=bi+1) (by omega) (by omega)
  have hat:=Zog hai1 d
  obtain⟨er,her⟩:∃er,Zbj ((bl cd).set ai d)=.error er:=by
   have h5:=HLK.out
   rw[hat.1]at h5
   rw[hat.2]
   exact ZrV hd1 h5
  have HER:=hid her
  have HCT:=hid (Zlm her)
  have hsl:((bl cd).set ai d).length=cd.size:=by rw[List.length_set,hcl]
  have HSL:=hid hsl
  have HR8:=hid (fun W (h:BytR W w6.heap.size (bl cd))=>h.set ai d)
  have c0:=HR7.cell ai hai1
  have HFZ:=hid (HR7.frozen ai hai1)
  have haiI:(ai:Int)<(cd.size:Int):=by rw[hcl]at hai1;omega
  generalize(bl cd)[ai]=cb at *
  generalize hln:(bl cd).set ai d=ln at *
  clear hat her hsl ha1 ha2 hb1 hb2 hai hbi hln
  go_wp2_with fail
  refine(HPA.out _).mono ?_
  rintro e wq ⟨rfl,rfl⟩
  go_upto_region 12 with fail
  have fz:wq.drew.frozen? ⟨w6.heap.size,ai,none⟩=false:=HFZ.out
  have hw1:IntKind.i64.wrap (1+(bi:Int))=1+(bi:Int):=by rw[IntKind.wrap_i64];omega
  have hw2:IntKind.u8.wrap (1+(bi:Int))=1+(bi:Int):=by rw[IntKind.wrap_u8'];omega
  have hd3:bits .xor .u8 (cb.toNat:Int) (1+(bi:Int))=(d.toNat:Int):=by rw[<-hd2];congr 1;omega
  have HRD:=hid ((HR8.out wq HR7.out).below (Below.refl _ _).drew)
  have HBD:Hid (Below w.heap.size w (wq.setCell ⟨w6.heap.size,ai,none⟩ (.int .u8 (d.toNat:Int))).drew):=hid (HB7.setCell (by have:=HB6.size;exact this) _).drew
  have HCU:Hid (wq.drew.cell? ⟨w6.heap.size,ai,none⟩=some (.int .u8 (cb.toNat:Int))):=hid c0
  generalize grownCap w6 cd.size 0 5=gc at *
  generalize w6.heap.size=gb at *
  clear hd2 HR8 HFZ hcv hHeld
  refine Zb0 12 (fun w'=>w'.cell? ⟨gb,ai,none⟩=some (.int .u8 (cb.toNat:Int))) (by kernel_rfl) (by exact c0) (fun hHeld=>?_)
  clear c0
  refine Zc (i:=0) (d:=75) (v:=?vb0) rfl rfl (by kernel_rfl) (fun _ _ _ h=>h) (Or.inl ⟨by rfl,?hyb0⟩) hHeld ?rsb0
  case hyb0=>(intro w hSw;go_simp;try with_reducible rfl)
  case rsb0=>
  try simp only[Zset]
  refine Zc (i:=1) (d:=76) (v:=?vb1) rfl rfl (by kernel_rfl) (fun _ _ _ h=>h) (Or.inl ⟨by rfl,?hyb1⟩) hHeld ?rsb1
  case hyb1=>(intro w hSw;go_simp;try with_reducible rfl)
  case rsb1=>
  try simp only[Zset]
  refine Zc (i:=2) (d:=77) (v:=?vb2) rfl rfl (by kernel_rfl) (fun _ _ _ h=>h) (Or.inl ⟨by rfl,?hyb2⟩) hHeld ?rsb2
  case hyb2=>(intro w hSw;go_simp;try with_reducible rfl)
  case rsb2=>
  try simp only[Zset]
  refine Zc (i:=3) (d:=78) (v:=?vb3) rfl rfl (by kernel_rfl) (fun _ _ _ h=>h) (Or.inl ⟨by rfl,?hyb3⟩) hHeld ?rsb3
  case hyb3=>(intro w hSw;go_simp;try with_reducible rfl)
  case rsb3=>
  try simp only[Zset]
  refine Zc (i:=4) (d:=79) (v:=?vb4) rfl rfl (by kernel_rfl) (fun _ _ _ h=>h) (Or.inl ⟨by rfl,?hyb4⟩) hHeld ?rsb4
  case hyb4=>(intro w hSw;go_simp;try with_reducible rfl)
  case rsb4=>
  try simp only[Zset]
  refine Zc (i:=5) (d:=80) (v:=?vb5) rfl rfl (by kernel_rfl) (fun _ _ _ h=>h) (Or.inl ⟨by rfl,?hyb5⟩) hHeld ?rsb5
  case hyb5=>(intro w hSw;go_simp;try with_reducible rfl)
  case rsb5=>
  try simp only[Zset]
  refine Zc (i:=6) (d:=81) (v:=?vb6) rfl rfl (by kernel_rfl) (fun _ _ _ h=>h) (Or.inl ⟨by rfl,?hyb6⟩) hHeld ?rsb6
  case hyb6=>(intro w hSw;go_simp;try with_reducible rfl)
  case rsb6=>
  try simp only[Zset]
  refine ZbN (i:=7) (by kernel_rfl) rfl (fun K hK=>?_)
  go_simp
  refine(HPB.out _).mono ?_
  rintro e wp ⟨rfl,rfl⟩
  go_simp
  refine hK.out _ _ HCU.out (fun hHeld=>?_)
  clear hK K
  try simp only[Act.put,Zset]
  refine Zc (i:=8) (d:=83) (v:=?vb8) rfl rfl (by kernel_rfl) (fun _ _ _ h=>h) (Or.inl ⟨by rfl,?hyb8⟩) hHeld ?rsb8
  case hyb8=>(intro w hSw;go_simp;try with_reducible rfl)
  case rsb8=>
  try simp only[Zset]
  refine Zc (i:=9) (d:=84) (v:=?vb9) rfl rfl (by kernel_rfl) (fun _ _ _ h=>h) (Or.inl ⟨by rfl,?hyb9⟩) hHeld ?rsb9
  case hyb9=>(intro w hSw;go_simp;try with_reducible rfl)
  case rsb9=>
  try simp only[Zset]
  refine Zc (i:=10) (d:=85) (v:=?vb10) rfl rfl (by kernel_rfl) (fun _ _ _ h=>h) (Or.inl ⟨by rfl,?hyb10⟩) hHeld ?rsb10
  case hyb10=>(intro w hSw;go_simp;try with_reducible rfl)
  case rsb10=>
  try simp only[Zset]
  refine Zc (i:=11) (d:=86) (v:=?vb11) rfl rfl (by kernel_rfl) (fun _ _ _ h=>h) (Or.inl ⟨by rfl,?hyb11⟩) hHeld ?rsb11
  case hyb11=>(intro w hSw;go_simp;try with_reducible rfl)
  case rsb11=>
  try simp only[Zset]
  refine ZbW (by kernel_rfl) (by kernel_rfl) rfl (by kernel_rfl) (fun K hK=>?_)
  go_simp
  refine hK.out _ _ ?_
  clear hK K hHeld HPB fz hw1 hw2 hd3 HCU
  go_upto_region 13 with fail
  refine ZK fun W9 hW9=>?_
  rw[<-hW9]at HRD HBD
  clear hW9
  have hcv2:(convert 41 9 (.slice (some ⟨gb,0,none⟩) cd.size gc)).run Tryz.prog W9=.ok (.string ⟨ln.toArray⟩) W9:=by rw[<-HSL.out];exact HRD.conv
  go_wp2_with fail
  refine(HVF.out ⟨ln.toArray⟩ W9 (by show ln.toArray.size<=maxLen;rw[List.size_toArray,HSL.out];exact HCD.out) HBD.out).mono ?_
  rintro e w10 ⟨va2,vb2,ve2,vp2,rfl,HV2,hb10⟩
  have HB10:Hid (Below w.heap.size w w10):=hid (HBD.trans (hb10.mono HBD.size))
  have h1:=HV2.out
  rw[Zbu,HER.out]at h1
  have h2:(0,0,er.1,er.2)=(va2,vb2,ve2,vp2):=h1
  injection h2 with h3 h2
  injection h2 with h4 h2
  injection h2 with h5 h6
  subst h3 h4 h5 h6
  have hne:¬((er.1:Int)=0):=by have:=HCT.out;omega
  clear h1 HV2 hb10 HBD HRD hcv2 HVF
  obtain⟨lc,hlc⟩:∃lc,(Zy (bl s)).1=lc:=⟨_,rfl⟩
  obtain⟨lp,hlp⟩:∃lp,(Zy (bl s)).2=lp:=⟨_,rfl⟩
  have HLC:=hid hlc
  rw[hlc,hlp]
  clear hlc hlp
  by_cases hl0:lc=0
  ·subst hl0
   cases ht:Zb9 f l st with
   | none=>
    have h7:=HXQ.symm.trans (Zo4 HLK.out HLC.out ht)
    injection h7 with h8 h9
    injection h9 with h9 h10
    subst h9 h10
    obtain rfl:xr=⟨#[]⟩:=Zfe h8
    obtain rfl:ec=8:=by rw[HEC.out,ht];rfl
    clear h8 HXQ HLK HER HEC ht
    go_wp2
    go_ret
    exact⟨rfl,HB10.alloc (by exact HB10.size) _⟩
   | some ts=>
    obtain rfl:ec=0:=by rw[HEC.out,ht];rfl
    rcases Zo2 HLK.out (fuel:=Zdd fuel 1000001) (by have:=HPR.out;omega) HLC.out ht with ⟨r,hr,h7⟩|h7
    ·have h7:=HXQ.symm.trans h7
     injection h7 with h8 h9
     injection h9 with h9 h10
     subst h9 h10
     have hxr:¬xr=⟨#[]⟩:=fun e=>hr (by rw[<-h8,e];rfl)
     have hxA:(xr.toList == (⟨#[]⟩:ByteArray).toList)=false:=by rw[Zn0];exact decide_eq_false hxr
     have hxE:(⟨#[]⟩:ByteArray).toList=[]:=by kernel_rfl
     have hxB:(xr.toList == [])=false:=by rw[<-hxE];exact hxA
     have hxC:¬xr.toList=[]:=fun e=>by rw[e]at hxB;cases hxB
     clear h8 HXQ HLK HER HEC ht hr
     go_wp2
     go_ret
     exact⟨rfl,HB10.alloc (by exact HB10.size) _⟩
    ·have h7:=HXQ.symm.trans h7
     injection h7 with h8 h9
     injection h9 with h9 h10
     subst h9 h10
     obtain rfl:xr=⟨#[]⟩:=Zfe h8
     clear h8 HXQ HLK HER HEC ht
     go_wp2
     go_ret
     exact⟨rfl,HB10.alloc (by exact HB10.size) _⟩
  ·have h7:=HXQ.symm.trans (Zo3 HLK.out (by rw[HLC.out];exact hl0))
   rw[HLC.out]at h7
   injection h7 with h8 h9
   injection h9 with h9 h10
   subst h9
   obtain rfl:xr=⟨#[]⟩:=Zfe h8
   have hl1:¬((xc:Int)=0):=by omega
   clear h8 HXQ HLK HER HEC h10
   go_wp2
   go_ret
   exact⟨rfl,HB10.alloc (by exact HB10.size) _⟩
open Go.ChangeShapes Go.WideShapes Go.ChangeAt Go.RowKit LS
theorem ZjT:Tryz.prog.cellsOf 26=3:=by kernel_rfl
section
open Go.Joins
variable {H:Type} {enc:TypeId×Value->H} {w:World} {base:Nat} {spare:Nat->Bool} {held:Bool}
theorem Zsz{r:Reach}{b0:Nat}{v:Value}{d:DataW H}{p:List MemPlace}(hv:Value.okWide Tryz.prog w r b0 26 v)(h:DataW.Trod enc Tryz.prog w base spare held 26 v d p) :
  ∃f l s:Int,v=.agg #[.int .i64 f,.int .i64 l,.int .i64 s]/\d=.agg [.lit (.int .i64 f),.lit (.int .i64 l),.lit (.int .i64 s)]/\p=[]/\(Lit.int .i64 f).wf=true/\(Lit.int .i64 l).wf=true/\(Lit.int .i64 s).wf=true:=by
 obtain⟨c0,c1,c2,y0,y1,y2,m,rfl,rfl,rfl,hy0,hy1,hy2⟩:=open_agg3 Tryz.underlying26 (by kernel_rfl) ZjT hv h
 obtain⟨a,e0,rfl,wa⟩:=DataW.trod_int Tryz.underlying3 hy0
 obtain⟨b,e1,rfl,wb⟩:=DataW.trod_int Tryz.underlying3 hy1
 obtain⟨c,e2,rfl,wc⟩:=DataW.trod_int Tryz.underlying3 hy2
 simp at e0 e1 e2
 subst e0 e1 e2
 exact⟨a,b,c,rfl,rfl,rfl,wa,wb,wc⟩
theorem ZuA{f l s:Int}(wf:(Lit.int .i64 f).wf=true)(wl:(Lit.int .i64 l).wf=true)(ws:(Lit.int .i64 s).wf=true) :
  DataW.Trod enc Tryz.prog w base spare held 26 (.agg #[.int .i64 f,.int .i64 l,.int .i64 s]) (.agg [.lit (.int .i64 f),.lit (.int .i64 l),.lit (.int .i64 s)]) []:=
 shut_agg3 (y0:=(.lit (.int .i64 f),[])) (y1:=(.lit (.int .i64 l),[])) (y2:=(.lit (.int .i64 s),[])) Tryz.underlying26 (by kernel_rfl) ZjT ⟨1,by simp[DataW.trod,Tryz.underlying3,wf]⟩ ⟨1,by simp[DataW.trod,Tryz.underlying3,wl]⟩ ⟨1,by simp[DataW.trod,Tryz.underlying3,ws]⟩
theorem Zvi{H:Type}{enc:TypeId×Value->H}{w:World}{base:Nat}{spare:Nat->Bool}{held:Bool}{t0 t1 t2 t3 t4 t5:TypeId}{args:Array Value}{ds:List (DataW H)}{ps:List MemPlace}(h:DataW.TrodAll enc Tryz.prog w base spare held [t0,t1,t2,t3,t4,t5] args.toList ds ps) :
  ∃v0 v1 v2 v3 v4 v5 d0 d1 d2 d3 d4 d5 p0 p1 p2 p3 p4 p5,args=#[v0,v1,v2,v3,v4,v5]/\ds=[d0,d1,d2,d3,d4,d5]/\ps=p0++(p1++(p2++(p3++(p4++(p5++[])))))/\DataW.Trod enc Tryz.prog w base spare held t0 v0 d0 p0/\DataW.Trod enc Tryz.prog w base spare held t1 v1 d1 p1/\DataW.Trod enc Tryz.prog w base spare held t2 v2 d2 p2/\DataW.Trod enc Tryz.prog w base spare held t3 v3 d3 p3/\DataW.Trod enc Tryz.prog w base spare held t4 v4 d4 p4/\DataW.Trod enc Tryz.prog w base spare held t5 v5 d5 p5:=by
 obtain⟨v0,l0,d0,e0,p0,q0,ha,rfl,rfl,h0,h⟩:=trodAll_cons h
 obtain⟨v1,l1,d1,e1,p1,q1,rfl,rfl,rfl,h1,h⟩:=trodAll_cons h
 obtain⟨v2,l2,d2,e2,p2,q2,rfl,rfl,rfl,h2,h⟩:=trodAll_cons h
 obtain⟨v3,l3,d3,e3,p3,q3,rfl,rfl,rfl,h3,h⟩:=trodAll_cons h
 obtain⟨v4,l4,d4,e4,p4,q4,rfl,rfl,rfl,h4,h⟩:=trodAll_cons h
 obtain⟨v5,l5,d5,e5,p5,q5,rfl,rfl,rfl,h5,h⟩:=trodAll_cons h
 obtain⟨rfl,rfl,rfl⟩:=trodAll_nil h
 exact⟨v0,v1,v2,v3,v4,v5,d0,d1,d2,d3,d4,d5,p0,p1,p2,p3,p4,p5,by rw[<-Array.toArray_toList (xs:=args),ha],rfl,rfl,h0,h1,h2,h3,h4,h5⟩
end
end Go.Proofs.YtkodhpilkaihjaaGreatDoor
