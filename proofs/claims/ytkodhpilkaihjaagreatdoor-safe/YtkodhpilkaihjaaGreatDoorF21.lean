/- Parts. -/
import Derived.Test.YtkodhpilkaihjaaGreatDoorF20
import Derived.Lib.ConvBytes
set_option linter.all false
set_option maxRecDepth 100000
set_option maxHeartbeats 16000000
namespace Go.Proofs.YtkodhpilkaihjaaGreatDoor
open Go.RowKit LS Go.Proofs.Tryz
variable {c:CodeQ}{y:CodeQ×Nat×Nat}{f fuel st:Int}{cd l s:LB}{ts:List Int}{g p:Nat}{x:Nat×Nat}{w:World}
theorem ZFm{n:Nat}(h:Zcg l p n=.error x):x.1=9:=by
 unfold Zcg at h;split at h
 ·injection h with h;subst h;rfl
 ·cases h
theorem ZFc{n:Nat}(h:Zbr l p n=.error x):x.1=9:=by
 unfold Zbr at h;cases a:Zcg l p n with
 | error e=>rw[a]at h;injection h with h;subst h;exact ZFm a
 | ok y=>rw[a]at h;cases h
theorem ZFl(h:ZcH l p=.error x):x.1=9:=by
 unfold ZcH at h;cases a:Zbr l p 2 with
 | error e=>rw[a]at h;injection h with h;subst h;exact ZFc a
 | ok y=>rw[a]at h;exact ZFm h
theorem ZFp(h:ZbW l p=.error x):x.1=9:=by
 unfold ZbW at h;cases a:Zbr l p 4 with
 | error e=>rw[a]at h;injection h with h;subst h;exact ZFc a
 | ok y=>
  rw[a]at h;simp only at h;split at h
  ·injection h with h;subst h;rfl
  ·cases h
theorem ZFE(h:Zb4 l p=.error x):x.1=9:=by
 unfold Zb4 at h;cases a:ZcH l p with
 | error e=>rw[a]at h;injection h with h;subst h;exact ZFl a
 | ok y=>
  rw[a]at h;simp only at h;split at h
  ·injection h with h;subst h;rfl
  ·cases h
theorem ZFz(h:ZbX l p=.error x):x.1=9:=by
 unfold ZbX at h;cases a:ZcH l p with
 | error e=>rw[a]at h;injection h with h;subst h;exact ZFl a
 | ok y=>
  rw[a]at h;simp only at h;split at h
  ·injection h with h;subst h;rfl
  ·cases h
theorem ZFA(h:ZbN l p=.error x):x.1=9:=by
 unfold ZbN at h;cases a:Zbr l p 1 with
 | error e=>rw[a]at h;injection h with h;subst h;exact ZFc a
 | ok y=>
  rw[a]at h;simp only at h;split at h
  ·injection h with h;subst h;rfl
  ·cases c:Zbr l y.2 2 with
   | error e=>rw[c]at h;injection h with h;subst h;exact ZFc c
   | ok z=>rw[c]at h;cases h
theorem ZE9{α:Type}{one:Nat->RdR α}(d:∀q x,one q=.error x->x.1=9):∀ {k:Nat} {x:Nat×Nat},many one p k=.error x->x.1=9
 | 0,x,h=>by cases h
 | k + 1, x, h => by
   unfold many at h;cases a:many one p k with
   | error e=>rw[a]at h;injection h with h;subst h;exact ZE9 d a
   | ok y=>
     rw[a]at h;simp only at h;cases c:one y.2 with
     | error e=>rw[c]at h;injection h with h;subst h;exact d _ _ c
     | ok z=>rw[c]at h;cases h
theorem ZFq(h:Zb7 l=.error x):x.1≠0/\x.1≠13:=by
 unfold Zb7 at h;cases a:Zc8 l with
 | error e=>
  rw[a]at h;injection h with h;subst h;unfold Zc8 at a;split at a
  ·injection a with a;subst a;simp
  ·split at a
   ·injection a with a;subst a;simp
   ·cases a
 | ok n=>
  rw[a]at h;simp only at h;cases c:many (ZbW l) 9 n.1 with
  | error e=>rw[c]at h;injection h with h;subst h;rw[ZE9 (fun _ _=>ZFp) c];decide
  | ok cs=>
   rw[c]at h;simp only at h;cases d:many (Zb4 l) cs.2 n.2.1 with
   | error e=>rw[d]at h;injection h with h;subst h;rw[ZE9 (fun _ _=>ZFE) d];decide
   | ok ps=>
    rw[d]at h;simp only at h;cases f:many (ZbX l) ps.2 n.2.2.1 with
    | error e=>rw[f]at h;injection h with h;subst h;rw[ZE9 (fun _ _=>ZFz) f];decide
    | ok gs=>
     rw[f]at h;simp only at h;cases g:many (ZbN l) gs.2 n.2.2.2 with
     | error e=>rw[g]at h;injection h with h;subst h;rw[ZE9 (fun _ _=>ZFA) g];decide
     | ok is=>
      rw[g]at h;simp only at h;split at h
      ·injection h with h;subst h;simp
      ·split at h
       ·injection h with h;subst h;simp
       ·split at h
        ·injection h with h;subst h;simp
        ·cases h
theorem ZFj : ∀ {k:Nat} {x:Nat×Nat},Zcp c k=.error x->x.1=11
 | 0,x,h=>by cases h
 | k + 1, x, h => by
   unfold Zcp at h;cases a:Zcp c k with
   | error e=>rw[a]at h;injection h with h;subst h;exact ZFj a
   | ok y=>
     rw[a]at h;simp only at h;split at h
     · cases h
     · injection h with h;subst h;rfl
theorem ZFi : ∀ {k:Nat} {x:Nat×Nat},Zbx c k=.error x->x.1=12
 | 0,x,h=>by cases h
 | k + 1, x, h => by
   unfold Zbx at h;cases a:Zbx c k with
   | error e=>rw[a]at h;injection h with h;subst h;exact ZFi a
   | ok y=>
     rw[a]at h;simp only[Zfx]at h;split at h
     · split at h
       · injection h with h;subst h;rfl
       · split at h
         · injection h with h;subst h;rfl
         · cases h
     · cases h
theorem ZFh(h:ZcR l=.error x):x.1≠0/\x.1≠13:=by
 unfold ZcR at h;cases hd:Zb7 l with
 | error e=>rw[hd]at h;injection h with h;subst h;exact ZFq hd
 | ok c=>
  rw[hd]at h;simp only at h;cases a:ZcT c with
  | ok y=>rw[a]at h;cases h
  | error e=>
   rw[a]at h;injection h with h;subst h;unfold ZcT at a;cases f:Zcp c c.jz.length with
   | error e=>rw[f]at a;injection a with a;subst a;rw[ZFj f];decide
   | ok u=>
    rw[f]at a;simp only at a;cases d:Zdj c with
    | ok m=>rw[d]at a;cases a
    | error e=>
     rw[d]at a;injection a with a;subst a;unfold Zdj at d;cases g:Zbx c c.jz.length with
     | error e=>rw[g]at d;injection d with d;subst d;rw[ZFi g];decide
     | ok y=>
      rw[g]at d;simp only at d;split at d
      ·cases d
      ·injection d with d;subst d;simp
theorem ZXC(h:ZcR l=.ok y):0<l.length:=by
 unfold ZcR at h;cases hd:Zb7 l with
 | error e=>rw[hd]at h;cases h
 | ok c=>obtain⟨n,a,_⟩:=ZXn hd;omega
theorem ZXq(n:Int):decI n≠[]:=by
 unfold decI;split
 ·exact fun h=>(by cases h)
 ·rw[decS];split
  ·exact fun h=>(by cases h)
  ·intro h;simp at h
theorem ZXt{t:Int}:∀v:VV,Zel t v≠[]
 | .inl n=>fun h=>ZXq t (by unfold Zel at h;simp at h)
 | .inr l=>fun h=>ZXq t (by unfold Zel at h;exact(Yhk.1 h).1)
theorem ZFF{l s:Int}(h:Zdr f l s=some ts):ts≠[]:=by
 by_cases a:badT f l s
 ·unfold Zdr at h;rw[if_pos a]at h;cases h
 ·rw[ZsN a]at h;split at h
  ·cases h
  ·injection h with h;subst h;intro d
   have c:cnt l s f=0:=by
    have:=congrArg List.length d;simpa using this
   unfold badT at a;unfold cnt at c;rw[if_pos Om]at c;omega
theorem ZXs{st:List Ser} : ∀ {ts:List Int} {f:Nat} {z:List (LB)×Nat},ZbO st c f ts=some z->z.1.length=ts.length/\∀x∈z.1,x≠[]
 | [],f,z,h=>by injection h with h;subst h;exact⟨rfl,fun x g=>(by cases g)⟩
 | t :: ts, f, z, h => by
   unfold ZbO at h;cases e:runE st t c f 0 mq0 with
   | none=>rw[e]at h;cases h
   | some x=>
     rw[e]at h;simp only at h;cases a:ZbO st c x.1 ts with
     | none=>rw[a]at h;cases h
     | some y=>
       rw[a]at h;injection h with h;subst h;obtain⟨i,j⟩:=ZXs a;refine⟨by simp[i],fun u d=>?_⟩;rcases Yau.1 d with rfl|d
       · exact ZXt _
       · exact j u d
theorem ZXB:∀ {l:List (LB)},l≠[]->(∀x∈l,x≠[])->Zcn l≠[]
 | [],h,_=>absurd rfl h
 | [a],_,h=>by simpa [Zcn] using h a (by simp)
 | a :: b :: l, _, h => by
   intro c;rw[Zcn]at c;exact h a (by simp) (Yhk.1 c).1
theorem ZXA{l:Int}(h:ZcR cd=.ok y)(k:0<=fuel/\fuel<=1000000)(g:(Zbp s).1=0)(c:Zdr f l st=some ts):(∃r,r≠[]/\Zdy cd s f l st fuel=(r,0,0))∨Zdy cd s f l st fuel=([],13,0):=by
 have e:=ZvU fuel h g c;rw[if_neg Om]at e;cases a:ZbO (Ze6 s) y.1 fuel.toNat ts with
 | none=>right;rw[e,a];rfl
 | some z=>
  left
  obtain⟨d,i⟩:=ZXs a;refine⟨Zcn z.1,ZXB (fun j=>ZFF c ?_) i,by rw[e,a];rfl⟩;rw[j]at d;exact Ya3 d.symm
theorem ZFt{l:Int}(h:ZcR cd=.ok y)(a:(Zbp s).1≠0):Zdy cd s f l st fuel=([],(Zbp s).1,(Zbp s).2):=by
 unfold Zdy;rw[h];simp only;rw[if_pos a]
theorem ZFu{l:Int}(h:ZcR cd=.ok y)(a:(Zbp s).1=0)(c:Zdr f l st=none):Zdy cd s f l st fuel=([],8,0):=by
 unfold Zdy;rw[h];simp only;rw[if_neg (by rw[a];simp),c]
theorem ZFs{l:Int}(h:ZcR cd=.error x):Zdy cd s f l st fuel=([],x.1,x.2):=by
 unfold Zdy;rw[h]
theorem ZXE:∃t,ZD [49]=.ok t:=by
 cases h:ZD [49]with
 | ok t=>exact⟨t,rfl⟩
 | error e=>
  have a:(match ZD [49]with|.ok _=>true|.error _=>false)=true:=by kernel_rfl
  rw[h]at a;cases a
theorem ZPw(f l st:Int):(ZdK [49] [] f l st).2.1=if (Zdr f l st).isNone then 8 else 0:=by
 obtain⟨t,a⟩:=ZXE;have c:(Zbp []).1=0:=by kernel_rfl
 unfold ZdK;rw[a];simp only;rw[if_neg (by rw[c];simp)];cases Zdr f l st <;> rfl
def BytR(w:World)(g:Nat)(l:LB):Prop:=∃C:Array Value,w.heap[g]?=some (.cells C 5 (C.size,C.size+1))/\l.length<=C.size/\∀j (h:j<l.length),C[j]?=some (.int .u8 (l[j].toNat:Int))
theorem BytR.cell(h:BytR w g l)(j:Nat)(a:j<l.length):w.cell? ⟨g,j,none⟩=some (.int .u8 (l[j].toNat:Int)):=by
 obtain⟨C,c,_,d⟩:=h;simp[World.cell?,c,d j a]
theorem BytR.frozen(h:BytR w g l)(j:Nat)(c:j<l.length):w.frozen? ⟨g,j,none⟩=false:=by
 obtain⟨C,a,d,_⟩:=h;simp[World.frozen?,a];omega
theorem BytR.lt(h:BytR w g l):g<w.heap.size:=by
 obtain⟨C,a,_⟩:=h;exact(Yae.1 a).1
theorem BytR.below{w':World}(h:BytR w g l)(c:BW w w'):BytR w' g l:=by
 obtain⟨C,a,d,e⟩:=h;exact⟨C,(c.block g (Yae.1 a).1).trans a,d,e⟩
theorem BytR.set(h:BytR w g l)(i:Nat)(d:UInt8):BytR (w.setCell ⟨g,i,none⟩ (.int .u8 (d.toNat:Int))) g (l.set i d):=by
 obtain⟨C,c,f,k⟩:=h;refine⟨C.setIfInBounds i (.int .u8 (d.toNat:Int)),?_,by simpa using f,fun j a=>?_⟩
 ·simp only[World.setCell,Ybn,c,if_true,Ybf];simp
 ·rw[Yat]at a;rw[Array.getElem?_setIfInBounds,List.getElem_set];by_cases e:i=j
  ·rw[if_pos e,if_pos e,if_pos Om]
  ·rw[if_neg e,if_neg e];exact k j a
theorem BytR.made(w:World)(s:BA):BytR (Lib.bytesWorld w 5 s) w.heap.size (bl s):=by
 refine⟨Lib.bytesCells w 5 s,Lib.bytesWorld_at_new w 5 s,?_,fun j c=>?_⟩
 ·rw[Zd];simp[Lib.bytesCells]
 ·have a:j<s.size:=by rw[Zd]at c;exact c
  unfold Lib.bytesCells;rw[Array.getElem?_append_left (by simpa using a)];simp[bl,a]
theorem BytR.conv{cap:Nat}(h:BytR w g l):(convert 41 9 (.slice (some ⟨g,0,none⟩) l.length cap)).run prog w=.ok (.string ⟨l.toArray⟩) w:=by
 refine run_convert_bytes_back _ _ _ 5 ⟨g,0,none⟩ cap l underlying41 underlying5 underlying9 ?_;intro j d;have a:=h.cell j d;by_cases c:j=0
 ·subst c;exact a
 ·simpa [Addr.add,c] using a
theorem ZXx(c:UInt8){k:Nat}(i:1<=k)(j:k<=255):∃d:UInt8,c≠d/\bits .xor .u8 (c.toNat:Int) (k:Int)=(d.toNat:Int):=by
 have a:=c.toNat_lt;have f:c.toNat ^^^ k<256:=Yhi (n:=8) a Om;refine⟨UInt8.ofNat (c.toNat ^^^ k),fun e=>?_,?_⟩
 ·have g:=congrArg UInt8.toNat e;rw[Yhj (by exact f)]at g;have h:=congrArg (c.toNat ^^^ ·) g;simp only[Nat.xor_self,<-Yhl,Nat.zero_xor]at h;omega
 ·rw[Yhj (by exact f)];exact u8_xor_nat _ _ a Om
theorem ZXy{i:Nat}(h:i<l.length)(d:UInt8):l=l.take i++l[i]::l.drop (i+1)/\l.set i d=l.take i++d::l.drop (i+1):=by
 refine⟨?_,?_⟩
 ·rw[List.getElem_cons_drop,Ycn]
 ·rw[List.set_eq_take_append_cons_drop,if_pos h]
theorem ZQ6(s:BA)(A:Nat->Addr)(m:Int)(w:World)(a:Vars w A m)(c:s.size<=maxLen) :
  CP 11 #[.string s] w fun e u=>e=.returned (.tuple #[Vi (Zbp (bl s)).1,Vi (Zbp (bl s)).2])/\BW w u:=by
 refine ZRN s A m (Zbp (bl s)) w a ?_;by_cases h:s.size<=6000
 ·refine hid ((ZBt s A m w a h).mono ?_);rintro e u ⟨sv,err,d,f,g,_⟩;exact⟨sv,err,d,f,g⟩
 ·have e:Zbp (bl s)=(1,0):=by unfold Zbp;rw[if_pos (by rw[Zd];omega)]
  rw[e];exact ZBr s A m w a Om c
