/- Parts. -/
import Derived.Test.YtkodhpilkaihjaaGreatDoorF02
import Derived.Test.YtkodhpilkaihjaaGreatDoorF16
import Derived.Test.YtkodhpilkaihjaaGreatDoorF13
import Derived.Test.YtkodhpilkaihjaaGreatDoorF03
import Derived.Deep.LoopGhost
import Derived.Deep.QuietTactic
import Derived.BigQuiet
import Derived.Test.YtkodhpilkaihjaaGreatDoorF06
import Derived.Test.YtkodhpilkaihjaaGreatDoorF05
import Derived.Test.YtkodhpilkaihjaaGreatDoorF10
import Derived.Deep.RegionHeld3
import Derived.Deep.DrawnRows
import Derived.Deep.CutBlock
import Derived.Test.YtkodhpilkaihjaaGreatDoorF11
import Derived.Test.YtkodhpilkaihjaaGreatDoorF15
set_option maxHeartbeats 2000000
namespace Go.Proofs.YtkodhpilkaihjaaGreatDoor
open Go.RowKit LS
def Zy(l:List UInt8):Nat×Nat:=
 if 6000<l.length then (1,0)else match Z3 0 [] (split 10 l)with
  | .inl i=>(5,i)
  | .inr es => match ZbB 0 [] (split 10 l) with
    | some i=>(6,i)
    | none=>if 30<es.length∨200<Zci es es.length then (7,0)else (0,0)
def Zdx(w:World)(A:Nat->Addr)(err:Value)(r:Nat×Nat):Prop:=
 (err=.nilIface/\r=(0,0))∨
 (err=.iface 491 (.pointer (some (A 0)))/\r=(1,0))∨
 (err=.iface 491 (.pointer (some (A 6)))/\r=(7,0))∨
 (∃i fa:Nat,err=.iface 115 (.pointer (some ⟨fa,0,none⟩))/\r=(5,i)/\w.cell? ⟨fa,1,none⟩=some (.int .i64 i)/\w.cell? ⟨fa,2,none⟩=some (.iface 491 (.pointer (some (A 4)))))∨
 (∃i fa:Nat,err=.iface 115 (.pointer (some ⟨fa,0,none⟩))/\r=(6,i)/\w.cell? ⟨fa,1,none⟩=some (.int .i64 i)/\w.cell? ⟨fa,2,none⟩=some (.iface 491 (.pointer (some (A 5)))))
theorem ZjU{w:World}{fa:Nat}{x y z:Value}{t:TypeId}(h:w.heap[fa]?=some (.cells #[x,y,z] t (0,0))):w.cell? ⟨fa,1,none⟩=some y/\w.cell? ⟨fa,2,none⟩=some z:=by
 simp[World.cell?,h]
theorem ZrL(s:ByteArray)(A:Nat->Addr)(m:Int)(r:Nat×Nat)(w:World)(hv:Vars w A m)
  (hread:Hid (Calls Tryz.prog 24 #[.string s] w fun e w'=>∃sv err,e=.returned (.tuple #[sv,err])/\Hid (Zdx w' A err r)/\Below w.heap.size w w')) :
  Calls Tryz.prog 11 #[.string s] w fun e w'=>e=.returned (.tuple #[.int .i64 r.1,.int .i64 r.2])/\Below w.heap.size w w':=by
 go_enter Tryz.func11,Tryz.ntmps11
 go_wp2_with fail
 refine hread.mono ?_
 rintro e w1 ⟨sv,err,rfl,herr,hb1⟩
 have hv1:=hv.below hb1
 rcases herr.out with ⟨rfl,rfl⟩|⟨rfl,rfl⟩|⟨rfl,rfl⟩|⟨i,fa,rfl,rfl,h1,h2⟩|⟨i,fa,rfl,rfl,h1,h2⟩
 ·go_wp2_with (first|(go_at_call 22;refine(Zf5 A m _ hv1).mono ?_;rintro e w' ⟨rfl,rfl⟩)|(go_at_call 23;refine(Zf9 _).mono ?_;rintro e w' ⟨rfl,hb2⟩))
  go_ret2
  exact⟨rfl,hb1.trans (hb2.mono hb1.size)⟩
 ·go_wp2_with (first|(go_at_call 22;refine(Zhj A m _ hv1).mono ?_;rintro e w' ⟨rfl,rfl⟩)|(go_at_call 23;refine(Zde A m _ _ hv1).mono ?_;rintro e w' ⟨rfl,hb2⟩))
  go_ret2
  exact⟨rfl,hb1.trans (hb2.mono hb1.size)⟩
 ·go_wp2_with (first|(go_at_call 22;refine(ZiM A m _ hv1).mono ?_;rintro e w' ⟨rfl,rfl⟩)|(go_at_call 23;refine(Zde A m _ _ hv1).mono ?_;rintro e w' ⟨rfl,hb2⟩))
  go_ret2
  exact⟨rfl,hb1.trans (hb2.mono hb1.size)⟩
 ·go_wp2_with (first|(go_at_call 22;refine(ZiN A m _ hv1 fa h2).mono ?_;rintro e w' ⟨rfl,rfl⟩)|(go_at_call 23;refine(Zdf A m fa i _ hv1 h1).mono ?_;rintro e w' ⟨rfl,hb2⟩))
  go_ret2
  exact⟨rfl,hb1.trans (hb2.mono hb1.size)⟩
 ·go_wp2_with (first|(go_at_call 22;refine(ZiO A m _ hv1 fa h2).mono ?_;rintro e w' ⟨rfl,rfl⟩)|(go_at_call 23;refine(Zdf A m fa i _ hv1 h1).mono ?_;rintro e w' ⟨rfl,hb2⟩))
  go_ret2
  exact⟨rfl,hb1.trans (hb2.mono hb1.size)⟩
theorem Zuc{last:Int}{n:Nat}{ps:List (List UInt8)}{k:Nat}(h:ZbM last n ps=some k):k<=n+ps.length:=by
 induction ps generalizing last n with
 | nil=>simp[ZbM]at h;omega
 | cons x xs ih=>
  unfold ZbM at h
  cases hs:ZcT x with
  | none=>rw[hs]at h;cases h
  | some t=>
   rw[hs]at h
   simp only at h
   split at h
   ·cases h
   ·have:=ih h;simp;omega
theorem Zue{l:List UInt8}{n:Nat}(h:Zb4 l=some n):n<=l.length+1:=by
 unfold Zb4 at h
 have h3:=Zjm 32 l
 generalize Zbk 32 l=st at h h3
 obtain⟨r,f⟩:=st
 simp only at h h3
 split at h
 ·have:=Option.some.inj h;omega
 ·split at h
  ·have h1:=Zuc h;have h2:=ZfA 32 r;omega
  ·cases h
theorem ZrC{l a b:List UInt8}{n:Nat}(h:line l=some (a,b,n)):n<=l.length+1:=by
 cases hc:cut 123 l with
 | none=>rw[Zhb hc]at h;cases h
 | some p=>
  obtain⟨x,r⟩:=p
  cases hc2:cut 125 r with
  | none=>rw[Zha hc hc2]at h;cases h
  | some q=>
   obtain⟨y,z⟩:=q
   rw[Zhc hc hc2]at h
   have h1:z.length<=l.length:=by
    rw[(Zdb hc).1,(Zdb hc2).1];simp;omega
   split at h
   ·cases hs:Zb4 z with
    | none=>rw[hs]at h;cases h
    | some k=>
     rw[hs]at h
     simp at h
     have:=Zue hs
     omega
   ·cases h
theorem Zlk{i:Nat}{acc es:List Entry}{ps:List (List UInt8)}(h:Z3 i acc ps=.inr es)(ha:∀e∈acc,e.count<=6001)(hp:∀p∈ps,p.length<=6000) :
  es.length<=acc.length+ps.length/\∀e∈es,e.count<=6001:=by
 induction ps generalizing i acc with
 | nil=>
  simp only[Z3,Sum.inr.injEq]at h
  subst h;exact⟨by simp,ha⟩
 | cons x xs ih=>
  unfold Z3 at h
  split at h
  ·have:=ih h ha (fun p hp'=>hp p (by simp[hp']));exact⟨by simp;omega,this.2⟩
  ·cases hl:line x with
   | none=>rw[hl]at h;cases h
   | some t=>
    obtain⟨a,b,n⟩:=t
    rw[hl]at h
    simp only at h
    have h6:=hp x (by simp)
    have hn:=ZrC hl
    have := ih h (fun e he => by
      rcases List.mem_append.1 he with he|he
      · exact ha e he
      · simp at he;subst he;show n<=6001;omega) (fun p hp'=>hp p (by simp[hp']))
    exact⟨by have:=this.1;simp at this ⊢;omega,this.2⟩
theorem Zme(s:ByteArray)(A:Nat->Addr)(m:Int)(w:World)(hv:Vars w A m)(hs:6000<s.size)(hs2:s.size<=maxLen) :
  Calls Tryz.prog 24 #[.string s] w fun e w'=>∃sv err,e=.returned (.tuple #[sv,err])/\Hid (Zdx w' A err (1,0))/\Below w.heap.size w w':=by
 unfold maxLen at hs2
 have hg:=hv.sent 0 (by decide)
 go_enter Tryz.func24,Tryz.ntmps24
 go_wp2
 go_region
 all_goals (try go_wp2)
 all_goals (go_ret2;exact⟨_,_,rfl,Or.inr (Or.inl ⟨rfl,rfl⟩),(by repeat first|exact Below.refl _ _|assumption|refine Below.alloc ?_ ?_ _|refine Below.setCell ?_ ?_ _|refine Zg ?_ _|refine Below.drew ?_|omega|(simp;omega)|simp)⟩)
def Zgq(w:World)(v:Value)(l:List UInt8):Prop:=∃(es:List Entry) (rs:List (Value×Value×Value×Value)),Z3 0 [] (split 10 l)=.inr es/\es.length<=30/\w.ownsRow 0 209 4 v es.length (ZbH rs)/\AllV w rs es (split 10 l)
theorem Zmf(s:ByteArray)(A:Nat->Addr)(m:Int)(w:World)(hv:Vars w A m)(hs:s.size<=6000) :
  Calls Tryz.prog 24 #[.string s] w fun e w'=>∃sv err,e=.returned (.tuple #[sv,err])/\Hid (Zdx w' A err (Zy (bl s)))/\Below w.heap.size w w'/\Hid ((Zy (bl s)).1=0->Zgq w' sv (bl s)):=by
 have hL:Hid (∀x,(match Z3 0 [] (split 10 (bl s))with
  | .inl i=>(5,i)
  | .inr es => match ZbB 0 [] (split 10 (bl s)) with
    | some i=>(6,i)
    | none=>if 30<es.length∨200<Zci es es.length then (7,0)else (0,0))=x->Zy (bl s)=x):=by
  intro x hx;unfold Zy;rw[if_neg (by rw[Ze];omega)];exact hx
 have hn6:(split 10 (bl s)).length<=6001:=by have:=ZfA 10 (bl s);rw[Ze]at this;omega
 have hp6 : Hid (∀ i, i < (split 10 (bl s)).length -> ((split 10 (bl s)).getD i []).length <= 6000) := fun i hi => by
   have:=Zhu 10 (bl s) i hi;rw[Ze]at this;omega
 go_enter Tryz.func24,Tryz.ntmps24
 go_wp2_with fail
 refine(Zjd 10 s m _ hs hv.max).mono ?_
 rintro e w1 ⟨n,rfl,hn,hrow,hb1⟩
 have HN:Hid (n=(split 10 (bl s)).length):=hn
 have hn7:n<=6001:=by omega
 have hw1:w.heap.size<w1.heap.size:=hrow.1
 clear hn hn6
 have hv1:=hv.below hb1
 go_wp2_with fail
 refine(ZtN w.heap.size (split 10 (bl s)) n A m _ HN hn7 hp6 hrow hv1).mono ?_
 rintro e w2 ⟨hb2,hcase⟩
 have hv2:=hv1.below hb2
 have hB2:Below w.heap.size w w2:=hb1.trans (hb2.mono hb1.size)
 rcases hcase with ⟨i,fa,rfl,hfa,hl⟩|⟨v,es,rs,rfl,hown,hl,HAV⟩
 ·obtain⟨c1,c2⟩:=ZjU hfa
  have HZ:Hid (Zy (bl s)=(5,i)):=hid (hL.out (5,i) (by rw[hl.out]))
  have HR:Hid (Zdx w2 A (.iface 115 (.pointer (some ⟨fa,0,none⟩))) (Zy (bl s))):=by
   rw[hL.out (5,i) (by rw[hl.out])]
   exact Or.inr (Or.inr (Or.inr (Or.inl ⟨i,fa,rfl,rfl,c1,c2⟩)))
  clear c1 c2 hfa
  go_wp2
  go_ret2
  exact⟨_,_,rfl,HR,hB2,hid (fun h=>by rw[HZ.out]at h;cases h)⟩
 ·have hbd := Zlk hl.2 (fun e he => by simp at he) (fun p hp => by
    have:=Zje 10 (bl s) p hp;rw[Ze]at this;omega)
  have hrow2:=hrow.below hb2 hw1
  go_wp2_with fail
  refine(ZrN w.heap.size (split 10 (bl s)) n A m _ HN hn7 hp6 hrow2 hv2).mono ?_
  rintro e w3 ⟨hb3,hcase3⟩
  have hv3:=hv2.below hb3
  have hB3:Below w.heap.size w w3:=hB2.trans (hb3.mono hB2.size)
  rcases hcase3 with ⟨i,fa,rfl,hfa,ht⟩|⟨rfl,ht⟩
  ·obtain⟨c1,c2⟩:=ZjU hfa
   have HZ:Hid (Zy (bl s)=(6,i)):=hid (hL.out (6,i) (by rw[hl.2];simp only[ht.out]))
   have HR:Hid (Zdx w3 A (.iface 115 (.pointer (some ⟨fa,0,none⟩))) (Zy (bl s))):=by
    rw[hL.out (6,i) (by rw[hl.2];simp only[ht.out])]
    exact Or.inr (Or.inr (Or.inr (Or.inr ⟨i,fa,rfl,rfl,c1,c2⟩)))
   clear c1 c2 hfa
   go_wp2
   go_ret2
   exact⟨_,_,rfl,HR,hB3,hid (fun h=>by rw[HZ.out]at h;cases h)⟩
  ·have hown3:=Zm hown hb3
   have hle:es.length<=6001:=by have:=hbd.1;simp at this;have:=HN.out;omega
   have HC:Hid (∀e∈es,e.count<=6001):=hbd.2
   have hsum:=ZmK es hbd.2 es.length
   have HM:Hid (Zy (bl s)=if 30<es.length∨200<Zci es es.length then (7,0)else (0,0)):=hL.out _ (by rw[hl.2];simp only[ht.out])
   have hR:Hid (ZdU rs es):=hl.1
   have hg3:=hv3.sent 6 (by decide)
   obtain⟨av,cp,rfl⟩:=Zr hown
   have HLN:Hid (Z3 0 [] (split 10 (bl s))=.inr es):=hl.2
   have HAV3:=hid (HAV.below hb3)
   clear hbd hown hl
   by_cases h30:30<es.length
   ·have hd:decide (30<(es.length:Int))=true:=by simp;omega
    have HR:Hid (Zy (bl s)=(7,0)):=hid (by rw[HM.out,if_pos (Or.inl h30)])
    go_wp2
    go_region
    all_goals (try go_wp2)
    all_goals (go_ret2;exact⟨_,_,rfl,(by rw[HR.out];exact Or.inr (Or.inr (Or.inl ⟨rfl,rfl⟩))),(by repeat first|exact Below.refl _ _|assumption|refine Below.alloc ?_ ?_ _|refine Below.setCell ?_ ?_ _|refine Zg ?_ _|refine Below.drew ?_|omega|(simp;omega)|simp),hid (fun h=>by rw[HR.out]at h;cases h)⟩)
   ·have hd:decide (30<(es.length:Int))=false:=by simp;omega
    go_wp2_with fail
    refine(ZoI _ es rs _ hown3 hR HC hle).mono ?_
    rintro e w4 ⟨rfl,hb4⟩
    have hB4:Below w.heap.size w w4:=hB3.trans (hb4.mono hB3.size)
    have hg4:=(hv3.below hb4).sent 6 (by decide)
    by_cases h200:200<Zci es es.length
    ·have HR:Hid (Zy (bl s)=(7,0)):=hid (by rw[HM.out,if_pos (Or.inr h200)])
     have hd2:decide (200<(Zci es es.length:Int))=true:=by simp;omega
     go_wp2
     go_region
     all_goals (try go_wp2)
     all_goals (go_ret2;exact⟨_,_,rfl,(by rw[HR.out];exact Or.inr (Or.inr (Or.inl ⟨rfl,rfl⟩))),(by repeat first|exact Below.refl _ _|assumption|refine Below.alloc ?_ ?_ _|refine Below.setCell ?_ ?_ _|refine Zg ?_ _|refine Below.drew ?_|omega|(simp;omega)|simp),hid (fun h=>by rw[HR.out]at h;cases h)⟩)
    ·have HR:Hid (Zy (bl s)=(0,0)):=hid (by rw[HM.out,if_neg (by rintro(h|h) <;> omega)])
     have hd2:decide (200<(Zci es es.length:Int))=false:=by simp;omega
     go_wp2
     go_ret2
     exact⟨_,_,rfl,(by rw[HR.out];exact Or.inl ⟨rfl,rfl⟩),hB4,hid (fun _=>⟨es,rs,HLN.out,by omega,Zm hown3 hb4,HAV3.below hb4⟩)⟩
def ZdE:List (List UInt8)->List UInt8
 | []=>[]
 | [x]=>x
 | x::y::r=>x++44::ZdE (y::r)
theorem Ziv(x:List UInt8)(l:List (List UInt8))(h:l≠[]):ZdE (x::l)=x++44::ZdE l:=by
 cases l with
 | nil=>exact absurd rfl h
 | cons y r=>rfl
theorem Zqe(p:List UInt8)(l:List (List UInt8))(h:l≠[]):ZdE (pre p l)=p++ZdE l:=by
 cases l with
 | nil=>exact absurd rfl h
 | cons y r=>
  cases r with
  | nil=>rfl
  | cons z t=>simp[pre,ZdE]
theorem Zqh(l:List UInt8):ZdE (split 44 l)=l:=by
 induction l with
 | nil=>rfl
 | cons b l ih=>
  by_cases hb:b=44
  ·subst hb;rw[Zgg,Ziv _ _ (Zgh 44 l),ih];rfl
  ·rw[Zhv 44 b l (by simp[hb]),Zqe _ _ (Zgh 44 l),ih];rfl
theorem Zqf(xs:List (List UInt8))(x:List UInt8)(h:xs≠[]):ZdE (xs++[x])=ZdE xs++44::x:=by
 induction xs with
 | nil=>exact absurd rfl h
 | cons y r ih=>
  cases r with
  | nil=>rfl
  | cons z t=>
   rw[List.cons_append,Ziv y (z::t++[x]) (by simp),ih (by simp),Ziv y (z::t) (by simp)];simp
def wr1(p:List UInt8×List UInt8):List UInt8:=p.1++[61]++p.2
theorem Zwh(ps:List (List UInt8×List UInt8))(k:Nat)(hk:k<=ps.length):ZeM ps k=ZdE ((ps.take k).map wr1):=by
 induction k with
 | zero=>rfl
 | succ k ih=>
  have ih':=ih (by omega)
  have e:ps.getD k ([],[])=ps[k]:=by simp[show k<ps.length by omega]
  rw[ZeM,e,List.take_succ_eq_append_getElem (by omega),List.map_append,List.map_cons,List.map_nil]
  by_cases h0:0<k
  ·rw[if_pos h0,Zqf _ _ (by intro h;have h3:=congrArg List.length h;rw[List.length_map,List.length_take]at h3;simp only[List.length_nil]at h3;omega),ih']
   simp[wr1]
  ·obtain rfl:k=0:=by omega
   simp[ZeM,ZdE,wr1]
theorem Zq4{last x:List UInt8}{p:List UInt8×List UInt8}(h:ZdF last x=some p):x=wr1 p:=by
 unfold ZdF at h
 cases hc:cut 61 x with
 | none=>rw[hc]at h;cases h
 | some q=>
  obtain⟨n,v⟩:=q
  rw[hc]at h
  simp only at h
  split at h
  ·have:=Option.some.inj h;subst this
   rw[(Zdb hc).1];simp[wr1]
  ·cases h
theorem Zq7{last:List UInt8}{acc ps:List (List UInt8×List UInt8)}{xs:List (List UInt8)}(h:Zby last acc xs=some ps):∃qs,ps=acc++qs/\xs=qs.map wr1:=by
 induction xs generalizing last acc with
 | nil=>simp only[Zby,Option.some.injEq]at h;exact⟨[],by simp[h],rfl⟩
 | cons x xs ih=>
  unfold Zby at h
  cases hl:ZdF last x with
  | none=>rw[hl]at h;cases h
  | some p=>
   rw[hl]at h
   obtain⟨qs,e1,e2⟩:=ih h
   exact⟨p::qs,by rw[e1];simp,by rw[e2,List.map_cons,Zq4 hl]⟩
theorem Zwi{l:List UInt8}{ps:List (List UInt8×List UInt8)}(h:ZbS l=some ps):ZeM ps ps.length=l:=by
 unfold ZbS at h
 split at h
 ·rename_i hl;have:=Option.some.inj h;subst this;rw[hl];rfl
 ·obtain⟨qs,e1,e2⟩:=Zq7 h
  simp at e1;subst e1
  rw[Zwh _ _ (Nat.le_refl _),List.take_length,<-e2,Zqh]
def Zdq(e:Entry):List UInt8:=e.name++123::e.inside
theorem ZlI{n:List UInt8}(h:ZC n=true):(123:UInt8)∉n:=by
 intro hm
 unfold ZC at h
 rw[Bool.and_eq_true]at h
 have:=List.all_eq_true.1 h.1 _ hm
 exact absurd this (by decide)
theorem Zqp{e f:Entry}(he:ZC e.name=true)(hf:ZC f.name=true):Zdq e=Zdq f ↔ e.name=f.name/\e.inside=f.inside:=by
 constructor
 ·intro h
  have h1:=Zgd 123 e.name e.inside (ZlI he)
  have h2:=Zgd 123 f.name f.inside (ZlI hf)
  unfold Zdq at h
  rw[h,h2]at h1
  have hl:=Option.some.inj h1
  have:=List.append_inj h hl.symm
  exact⟨this.1,(List.cons.inj this.2).2⟩
 ·rintro⟨h1,h2⟩;unfold Zdq;rw[h1,h2]
theorem ZrD{l a b:List UInt8}{n:Nat}(h:line l=some (a,b,n)):ZC a=true/\(ZbS b).isSome=true/\Zc3 l=a++123::b:=by
 cases hc:cut 123 l with
 | none=>rw[Zhb hc]at h;cases h
 | some p=>
  obtain⟨x,r⟩:=p
  cases hc2:cut 125 r with
  | none=>rw[Zha hc hc2]at h;cases h
  | some q=>
   obtain⟨y,z⟩:=q
   rw[Zhc hc hc2]at h
   split at h
   ·rename_i hok
    rw[Bool.and_eq_true]at hok
    cases hs:Zb4 z with
    | none=>rw[hs]at h;cases h
    | some k=>
     rw[hs]at h
     simp only[Option.map_some,Option.some.injEq,Prod.mk.injEq]at h
     obtain⟨rfl,rfl,rfl⟩:=h
     refine⟨hok.1,hok.2,?_⟩
     have hl:l=(x++123::y)++125::z:=by rw[(Zdb hc).1,(Zdb hc2).1];simp
     have hnx:(125:UInt8)∉x:=by
      intro hm
      have h1:=hok.1
      unfold ZC at h1
      rw[Bool.and_eq_true]at h1
      exact absurd (List.all_eq_true.1 h1.1 _ hm) (by decide)
     have hn:(125:UInt8)∉x++123::y:=by
      simp only[List.mem_append,List.mem_cons,not_or]
      exact⟨hnx,by decide,(Zdb hc2).2⟩
     unfold Zc3
     rw[hl,Zj9 hn]
   ·cases h
def Zez:List Entry->List Entry->Option Nat
 | _,[]=>none
 | seen,e::r=>if (seen.map Zdq).contains (Zdq e)then some e.at_ else Zez (seen++[e]) r
theorem Zvs{i:Nat}{acc es:List Entry}{ps:List (List UInt8)}(h:Z3 i acc ps=.inr es):∃rest,es=acc++rest/\ZbB i (acc.map Zdq) ps=Zez acc rest:=by
 induction ps generalizing i acc with
 | nil=>simp only[Z3,Sum.inr.injEq]at h;exact⟨[],by simp[h],rfl⟩
 | cons x xs ih=>
  unfold Z3 at h
  unfold ZbB
  split at h
  ·rename_i hx;rw[if_pos hx];exact ih h
  ·rename_i hx
   rw[if_neg hx]
   cases hl:line x with
   | none=>rw[hl]at h;cases h
   | some t=>
    obtain⟨a,b,n⟩:=t
    rw[hl]at h
    simp only at h
    obtain⟨rest,e1,e2⟩:=ih h
    refine⟨⟨i,a,b,n⟩::rest,by rw[e1];simp,?_⟩
    have hk:Zc3 x=Zdq ⟨i,a,b,n⟩:=(ZrD hl).2.2
    rw[hk,Zez]
    split
    ·rfl
    ·rw[List.map_append]at e2;exact e2
theorem Zvt{es:List Entry}{ps:List (List UInt8)}(h:Z3 0 [] ps=.inr es):ZbB 0 [] ps=Zez [] es:=by
 obtain⟨rest,e1,e2⟩:=Zvs h
 simp at e1;subst e1;exact e2
theorem Zc9{a b:ByteArray}(h:bl a=bl b):a=b:=by
 cases a with | mk x => cases b with | mk y =>
   have:x=y:=by
     have h1:x.toList=y.toList:=h
     exact Array.toList_inj.mp h1
   rw[this]
theorem Znk(l:List Lab):∀k,k<=l.length->ZeM l k=wrt (l.take k)
 | 0,_=>rfl
 | k + 1, h => by
   have hk:k<l.length:=h
   rw[ZeM,Znk l k (by omega)]
   unfold wrt
   rw[List.take_succ_eq_append_getElem hk,List.map_append,List.map_singleton,Zj2]
   have hg:l.getD k ([],[])=l[k]:=by rw[List.getD_eq_getElem?_getD,List.getElem?_eq_getElem hk];rfl
   rw[hg]
   by_cases h0:0<k
   · rw[if_pos h0,if_neg]
     · simp[lab1]
     · rw[List.isEmpty_iff]
       intro e
       have:=congrArg List.length e
       rw[List.length_map,List.length_take,List.length_nil]at this
       omega
   · obtain rfl:k=0:=by omega
     simp[lab1,commas]
def serE(P:List (List UInt8))(e:Entry):Ser:=⟨e.name,(ZbS e.inside).getD [],ZcU (P.getD e.at_ [])⟩
def ZdN(l:List UInt8):List Ser:=match Z3 0 [] (split 10 l)with
 | .inr es=>es.map (serE (split 10 l))
 | .inl _=>[]
theorem Zug(l:List UInt8):∀x∈ZcU l,smOk x:=by
 intro x hx
 unfold ZcU at hx
 split at hx
 ·rename_i b _
  cases hd:l.drop (b+1)with
  | nil=>rw[hd]at hx;cases hx
  | cons c t=>
   rw[hd]at hx
   obtain⟨y,_,rfl⟩:=List.mem_map.1 hx
   exact ZuI y
 ·cases hx
theorem ZjW{α:Type}(Q:Nat->α->Prop):∀n:Nat,(∀j,j<n->∃z,Q j z)->∃zs:List α,zs.length=n/\∀j (h:j<zs.length),Q j zs[j]
 | 0,_=>⟨[],rfl,fun j h=>absurd h (Nat.not_lt_zero _)⟩
 | n + 1, h => by
   obtain⟨zs,h1,h2⟩:=ZjW Q n (fun j hj=>h j (by omega))
   obtain⟨z,hz⟩:=h n (by omega)
   refine⟨zs++[z],by simp[h1],fun j hj=>?_⟩
   by_cases hlt:j<zs.length
   · rw[List.getElem_append_left hlt];exact h2 j hlt
   · have hj':j=zs.length:=by simp at hj;omega
     subst hj'
     rw[List.getElem_append_right (Nat.le_refl _)]
     simp only[Nat.sub_self,List.getElem_cons_zero]
     rw[h1];exact hz
theorem Zkk : ∀ (rest seen : List Entry), Zez seen rest = none -> (rest.Pairwise fun a b => Zdq a ≠ Zdq b) /\ ∀ e ∈ rest, ∀ s ∈ seen, Zdq s ≠ Zdq e
  | [],_,_=>⟨List.Pairwise.nil,fun _ h=>by cases h⟩
  | e :: rest, seen, h => by
    unfold Zez at h
    split at h
    · cases h
    · rename_i hn
      obtain⟨h1,h2⟩:=Zkk rest (seen++[e]) h
      refine⟨List.pairwise_cons.2 ⟨fun b hb=>h2 b hb e (by simp),h1⟩,fun f hf s hs=>?_⟩
      rcases List.mem_cons.1 hf with rfl|hf
      · intro he
        refine hn ?_
        rw[List.contains_iff_mem,<-he]
        exact List.mem_map.2 ⟨s,hs,rfl⟩
      · exact h2 f hf s (List.mem_append_left _ hs)
theorem Znl{l:List UInt8}{ps:List Lab}(h:ZbS l=some ps):wrt ps=l:=by
 have:=Zwi h
 rwa [Znk ps _ (Nat.le_refl _),List.take_length]at this
theorem Zmr:∀(xs:List (List UInt8)) (last:Int) (n m:Nat),ZbM last n xs=some m->(∀x∈xs.map smV,last<x.1)/\TmS (xs.map smV)/\m=n+xs.length
 | [], last, n, m, h => by
   simp only[ZbM,Option.some.injEq]at h
   exact⟨(fun x hx=>by cases hx),List.Pairwise.nil,by simp[h]⟩
 | x :: xs, last, n, m, h => by
   unfold ZbM at h
   cases hs:ZcT x with
   | none=>rw[hs]at h;cases h
   | some t=>
     rw[hs]at h
     simp only at h
     split at h
     · cases h
     · rename_i hlt
       obtain⟨i1,i2,i3⟩:=Zmr xs t (n+1) m h
       have hx1:(smV x).1=(t:Int):=by
         unfold ZcT at hs
         unfold smV
         cases hc:cut 58 x with
         | none=>rw[hc]at hs;cases hs
         | some p=>
           obtain⟨a,d⟩:=p
           rw[hc]at hs
           simp only at hs ⊢
           cases hn:ZE 1000000 a with
           | none=>rw[hn]at hs;cases hs
           | some tm=>
             rw[hn]at hs
             simp only at hs
             split at hs
             · rw[Zfs hn];injection hs with hs;rw[hs]
             · cases hs
       refine⟨fun y hy=>?_,?_,by simp;omega⟩
       · rcases List.mem_cons.1 hy with rfl|hy
         · rw[hx1];omega
         · have:=i1 y hy;omega
       · exact List.pairwise_cons.2 ⟨fun y hy=>by rw[hx1];exact i1 y hy,i2⟩
theorem Zuf{z:List UInt8}{n:Nat}(h:Zb4 z=some n):TmS (ZdJ z)/\(ZdJ z).length=n:=by
 unfold Zb4 at h
 cases z with
 | nil=>simp at h;exact⟨List.Pairwise.nil,by simp[ZdJ,h]⟩
 | cons c t=>
  by_cases hc:(c == 32)=true
  ·have hs:Zbk 32 (c::t)=(t,true):=if_pos hc
   rw[hs]at h
   simp only[reduceCtorEq,if_false,if_true]at h
   obtain⟨_,h2,h3⟩:=Zmr _ _ _ _ h
   exact⟨h2,by simp[ZdJ,h3]⟩
  ·have hs:Zbk 32 (c::t)=(c::t,false):=if_neg hc
   rw[hs]at h
   simp at h
theorem ZiD{l nm ins:List UInt8}{n:Nat}(h:line l=some (nm,ins,n)):ZC nm=true/\(ZbS ins).isSome=true/\TmS (ZcU l)/\(ZcU l).length=n:=by
 cases hc:cut 123 l with
 | none=>rw[Zhb hc]at h;cases h
 | some p=>
  obtain⟨x,r⟩:=p
  cases hc2:cut 125 r with
  | none=>rw[Zha hc hc2]at h;cases h
  | some q=>
   obtain⟨y,z⟩:=q
   rw[Zhc hc hc2]at h
   split at h
   ·rename_i hb
    rw[Bool.and_eq_true]at hb
    cases hs:Zb4 z with
    | none=>rw[hs]at h;cases h
    | some k=>
     rw[hs]at h
     simp only[Option.map_some,Option.some.injEq,Prod.mk.injEq]at h
     obtain⟨rfl,rfl,rfl⟩:=h
     have:=Zuf hs
     rw[Zms hb.1 hc hc2]
     exact⟨hb.1,hb.2,this⟩
   ·cases h
theorem Zt9{w:World}{sa:Option Addr}{sc n:Nat}{l:List (Int×Int)}(h:w.ownsRow 0 398 2 (.slice sa n sc) n (Zb2 l))(hn:l.length=n):SamV w sa l/\n<=sc:=by
 by_cases hz:l=[]
 ·subst hz
  refine⟨Or.inl rfl,?_⟩
  rw[<-hn];exact Nat.zero_le _
 ·have hp:0<n:=by rw[<-hn];exact List.length_pos_iff.2 hz
  rcases h.2 with ⟨_,e⟩|⟨g,cap,cur,e,_,h3,h4,_,_,h7⟩
  ·omega
  ·injection e with e1 _ e3
   subst e1 e3
   refine⟨Or.inr ⟨g,0,rfl,cur,(0,0),h3,fun j hj=>?_⟩,h4⟩
   have hg:=Zpq l j
   rw[List.getElem?_eq_getElem hj]at hg
   have hc : ∀ i, i < n * 2 -> cur[i]? = (Zb2 l)[i]? := fun i hi => by
     rw[<-h7,List.getElem?_take,if_pos hi,Array.getElem?_toList]
   rw[Nat.zero_add,hc _ (by omega),hc _ (by omega)]
   exact hg
theorem ZoY(zs:List Srs)(rs:List (Value×Value×Value×Value))(hl:rs.length=zs.length)(h:∀j (hj:j<zs.length),rs[j]?=some (.string zs[j].nm,.slice zs[j].a zs[j].n zs[j].c,.string zs[j].tx,.slice zs[j].sa zs[j].sams.length zs[j].sc)):encS zs=ZbH rs:=by
 induction zs generalizing rs with
 | nil => cases rs with
   | nil=>rfl
   | cons _ _=>simp at hl
 | cons z zs ih=>
  cases rs with
  | nil=>simp at hl
  | cons r rs=>
   have h0:=h 0 (by simp)
   simp only[List.getElem?_cons_zero,List.getElem_cons_zero,Option.some.injEq]at h0
   subst h0
   rw[ZbH,<-ih rs (by simpa using hl) (fun j hj=>by have:=h (j+1) (by simp;omega);simpa using this)]
   rfl
theorem Zpj(rs:List (Value×Value×Value×Value)):(ZbH rs).length=rs.length*4:=by
 induction rs with
 | nil=>rfl
 | cons r rs ih=>simp only[ZbH,List.length_cons,ih];omega
theorem ZrM{l:List UInt8}{es:List Entry}(h:(Zy l).1=0)(he:Z3 0 [] (split 10 l)=.inr es):Zez [] es=none/\l.length<=6000:=by
 unfold Zy at h
 split at h
 ·cases h
 ·rename_i h6
  rw[he]at h
  simp only at h
  rw[Zvt he]at h
  cases hd:Zez [] es with
  | none=>exact⟨rfl,by omega⟩
  | some i=>rw[hd]at h;cases h
theorem Zgq.sto{w:World}{v:Value}{l:List UInt8}(h0:(Zy l).1=0)(h:Zgq w v l):∃ss:List Srs,StoP w v ss/\ss.map Srs.ser=ZdN l/\Dst (ss.map Srs.ser)/\ss.length<=30:=by
 obtain⟨es,rs,h1,h2,h3,h5⟩:=h
 obtain⟨hd,hll⟩:=ZrM h0 h1
 have h7 : ∀ j (hj : j < es.length), (es[j]).count <= 6001 := fun j hj => (Zlk h1 (by simp) (fun p hp => by
   obtain⟨i,hi,rfl⟩:=List.mem_iff_getElem.1 hp
   have:=Zhu 10 l i hi
   rw[List.getD_eq_getElem?_getD,List.getElem?_eq_getElem hi,Option.getD_some]at this
   omega)).2 _ (List.getElem_mem hj)
 have hrl:rs.length=es.length:=by have:=h3.1;rw[Zpj]at this;omega
 have hch := ZjW (fun j (z : Srs) => ∃ hj : j < es.length, rs[j]? = some (.string z.nm, .slice z.a z.n z.c, .string z.tx, .slice z.sa z.sams.length z.sc) /\ z.ser = serE (split 10 l) es[j] /\ SrsOk w z) es.length (fun j hj => by
   obtain⟨nm,a,n,c,tx,sa,sc,e1,⟨ins,qs,g1,g2,g3,g4,g5⟩,e3⟩:=h5 j hj
   rw[e3]at g1
   simp only[Option.some.injEq,Prod.mk.injEq]at g1
   obtain⟨b1,b2,_⟩:=g1
   obtain⟨c1,c2,c3,c4⟩:=ZiD e3
   have hn:n=qs.length:=by obtain⟨_,_,e⟩:=Zr g3.1;injection e
   obtain⟨s1,s2⟩:=Zt9 g5 c4
   have hlen:(qs.map blP).length<=6001:=by rw[List.length_map];exact g3.2.1
   refine⟨⟨nm,a,n,c,tx,qs,sa,sc,ZcU ((split 10 l).getD (es[j]).at_ [])⟩,hj,?_,?_,?_⟩
   · show rs[j]?=some (.string nm,.slice a n c,.string tx,.slice sa (ZcU ((split 10 l).getD (es[j]).at_ [])).length sc)
     rw[e1,c4]
   · show(⟨bl nm,qs.map blP,ZcU ((split 10 l).getD (es[j]).at_ [])⟩:Ser)=⟨(es[j]).name,(ZbS (es[j]).inside).getD [],ZcU ((split 10 l).getD (es[j]).at_ [])⟩
     rw[b1,b2,g2];rfl
   · exact⟨⟨by rw[hn];rw[hn]at g3;exact g3,by rw[g4];exact Ziy qs,Zra g2 hlen⟩,s1,c3,by show(ZcU _).length<=_;rw[c4];exact h7 j hj,by show(ZcU _).length<=_;rw[c4];exact s2,Zug _⟩)
 obtain⟨zs,hz1,hz2⟩:=hch
 have hst:ZdN l=es.map (serE (split 10 l)):=by unfold ZdN;rw[h1]
 have hsr:zs.map Srs.ser=ZdN l:=by
  rw[hst]
  refine List.ext_getElem (by rw[List.length_map,List.length_map,hz1]) (fun j h1' h2'=>?_)
  rw[List.getElem_map,List.getElem_map]
  exact(hz2 j (by simpa using h1')).2.2.1
 refine⟨zs,⟨?_,fun z hz=>?_,by omega⟩,hsr,?_,by omega⟩
 ·have:=ZoY zs rs (by rw[hrl,hz1]) (fun j hj=>(hz2 j hj).2.1)
  rw[this,hz1];exact h3
 ·obtain⟨j,hj,rfl⟩:=List.mem_iff_getElem.1 hz
  exact(hz2 j hj).2.2.2
 ·rw[hsr,hst]
  unfold Dst
  rw[List.pairwise_map]
  refine List.Pairwise.imp_of_mem ?_ (Zkk es [] hd).1
  intro a b ha hb hne hh
  obtain⟨i,hi,rfl⟩:=List.mem_iff_getElem.1 ha
  obtain⟨k,hk,rfl⟩:=List.mem_iff_getElem.1 hb
  obtain⟨_,_,_,_,_,_,_,_,_,e1⟩:=h5 i hi
  obtain⟨_,_,_,_,_,_,_,_,_,e2⟩:=h5 k hk
  obtain⟨n1,l1,_⟩:=ZiD e1
  obtain⟨n2,l2,_⟩:=ZiD e2
  obtain⟨p1,l1⟩:=Option.isSome_iff_exists.1 l1
  obtain⟨p2,l2⟩:=Option.isSome_iff_exists.1 l2
  refine hne ((Zqp n1 n2).2 ⟨hh.1,?_⟩)
  have hw:=hh.2
  unfold serE at hw
  simp only[l1,l2,Option.getD_some]at hw
  rw[Znl l1,Znl l2]at hw
  exact hw
theorem Vars.sents{w:World}{A:Nat->Addr}{m:Int}(h:Vars w A m):Sents w (A 0) (A 1) (A 2) (A 3):=
 ⟨h.sent _ (by decide),h.sent _ (by decide),h.sent _ (by decide),h.sent _ (by decide)⟩
theorem ZB.cells{w:World}{v:Value}{p:Int}{a:Addr}(h:ZB w v p a):∃fa:Nat,v=.iface 115 (.pointer (some ⟨fa,0,none⟩))/\w.cell? ⟨fa,1,none⟩=some (.int .i64 p)/\w.cell? ⟨fa,2,none⟩=some (.iface 491 (.pointer (some a))):=by
 obtain⟨fa,h1,h2⟩:=h
 exact⟨fa,h1,by simp[World.cell?,h2],by simp[World.cell?,h2]⟩
def Zer(w:World)(A:Nat->Addr)(err:Value)(c p:Nat):Prop:=
 (err=.nilIface/\c=0/\p=0)∨
 (err=.iface 491 (.pointer (some (A 0)))/\c=1/\p=0)∨
 (err=.iface 491 (.pointer (some (A 3)))/\c=4/\p=0)∨
 (err=.iface 491 (.pointer (some (A 6)))/\c=7/\p=0)∨
 (err=.iface 491 (.pointer (some (A 7)))/\c=8/\p=0)∨
 (∃fa:Nat,err=.iface 115 (.pointer (some ⟨fa,0,none⟩))/\w.cell? ⟨fa,1,none⟩=some (.int .i64 p)/\
  ((c=2/\w.cell? ⟨fa,2,none⟩=some (.iface 491 (.pointer (some (A 1)))))∨
   (c=3/\w.cell? ⟨fa,2,none⟩=some (.iface 491 (.pointer (some (A 2)))))∨
   (c=5/\w.cell? ⟨fa,2,none⟩=some (.iface 491 (.pointer (some (A 4)))))∨
   (c=6/\w.cell? ⟨fa,2,none⟩=some (.iface 491 (.pointer (some (A 5)))))))
theorem Zer.rd{w:World}{A:Nat->Addr}{r:Except (Nat×Nat) Tr}{x:Nat×Nat}{pv v:Value}(hr:r=.error x)(h:RdIs w (A 0) (A 1) (A 2) (A 3) r pv v):Zer w A v x.1 x.2/\∃ty u,v=.iface ty u:=by
 subst hr
 rcases h with ⟨rfl,rfl⟩|⟨rfl,rfl⟩|⟨hx,he⟩|⟨hx,he⟩
 ·exact⟨Or.inr (Or.inl ⟨rfl,rfl,rfl⟩),_,_,rfl⟩
 ·exact⟨Or.inr (Or.inr (Or.inl ⟨rfl,rfl,rfl⟩)),_,_,rfl⟩
 ·obtain⟨fa,rfl,h1,h2⟩:=he.cells
  exact⟨Or.inr (Or.inr (Or.inr (Or.inr (Or.inr ⟨fa,rfl,h1,Or.inl ⟨hx,h2⟩⟩)))),_,_,rfl⟩
 ·obtain⟨fa,rfl,h1,h2⟩:=he.cells
  exact⟨Or.inr (Or.inr (Or.inr (Or.inr (Or.inr ⟨fa,rfl,h1,Or.inr (Or.inl ⟨hx,h2⟩)⟩)))),_,_,rfl⟩
theorem Zer.ld{w:World}{A:Nat->Addr}{v:Value}{r:Nat×Nat}(h:Zdx w A v r):(r.1=0/\v=.nilIface)∨(r.1≠0/\Zer w A v r.1 r.2/\∃ty u,v=.iface ty u):=by
 rcases h with ⟨rfl,rfl⟩|⟨rfl,rfl⟩|⟨rfl,rfl⟩|⟨i,fa,rfl,rfl,h1,h2⟩|⟨i,fa,rfl,rfl,h1,h2⟩
 ·exact Or.inl ⟨rfl,rfl⟩
 ·exact Or.inr ⟨by simp,Or.inr (Or.inl ⟨rfl,rfl,rfl⟩),_,_,rfl⟩
 ·exact Or.inr ⟨by simp,Or.inr (Or.inr (Or.inr (Or.inl ⟨rfl,rfl,rfl⟩))),_,_,rfl⟩
 ·exact Or.inr ⟨by simp,Or.inr (Or.inr (Or.inr (Or.inr (Or.inr ⟨fa,rfl,h1,Or.inr (Or.inr (Or.inl ⟨rfl,h2⟩))⟩)))),_,_,rfl⟩
 ·exact Or.inr ⟨by simp,Or.inr (Or.inr (Or.inr (Or.inr (Or.inr ⟨fa,rfl,h1,Or.inr (Or.inr (Or.inr ⟨rfl,h2⟩))⟩)))),_,_,rfl⟩
theorem ZmG(s:ByteArray)(A:Nat->Addr)(m:Int)(w:World)(hv:Vars w A m)(hs:s.size<=maxLen) :
  Calls Tryz.prog 24 #[.string s] w fun e w'=>∃sv err,e=.returned (.tuple #[sv,err])/\Hid (Zdx w' A err (Zy (bl s)))/\Below w.heap.size w w'/\Hid ((Zy (bl s)).1=0->Zgq w' sv (bl s)):=by
 by_cases h:s.size<=6000
 ·exact Zmf s A m w hv h
 ·have e:Zy (bl s)=(1,0):=by unfold Zy;rw[if_pos (by rw[Ze];omega)]
  rw[e]
  refine(Zme s A m w hv (by omega) hs).mono ?_
  rintro e' w' ⟨v,err,h1,h2,h3⟩
  exact⟨v,err,h1,h2,h3,hid (fun h=>by cases h)⟩
theorem Zke(n:Nat):(decS n).length<=n+1:=by
 induction n using Nat.strongRecOn with
 | ind n ih=>
  by_cases h:n<=9
  ·rw[ZgU h];simp
  ·rw[Zic h,List.length_append]
   have:=ih (n / 10) (by omega)
   simp only[List.length_cons,List.length_nil]
   omega
theorem Zib(n:Int)(h:vOk n):(decI n).length<=1000000002:=by
 unfold vOk at h
 unfold decI
 split
 ·have:=Zke n.natAbs
  rw[List.length_append,List.length_singleton];omega
 ·have:=Zke n.toNat
  omega
section
variable {P:Program} {ops:Array Oper} {Q:Exit->Act->World->Prop} {md:Region.Mode} {S:World->Prop} {k:Nat}
def ZcB(P:Program)(md:Region.Mode)(ops:Array Oper)(Q:Exit->Act->World->Prop)(S:World->Prop)(k:Nat):Nat->Array Bool->Act->World->Prop
 | 0,ls,a,w=>Region.ready md ops ls=[]/\Q .normal a w
 | f + 1, ls, a, w => (Region.ready md ops ls = [] -> Q .normal a w) /\ ∀ i ∈ Region.ready md ops ls,
     wpOp P ops Q i (fun a' w'=>((ls.setIfInBounds i true).getD k true=false->S w')/\ZcB P md ops Q S k f (ls.setIfInBounds i true) a' w') a w
theorem ZcB.any:∀(f:Nat) (ls:Array Bool) (a:Act) (w:World),ZcB P md ops Q S k f ls a w->wpAny P md ops Q f ls a w
 | 0,_,_,_,h=>h
 | f+1,_,_,_,h=>⟨h.1,fun i hi=>wpOp_mono (fun _ _ h'=>ZcB.any f _ _ _ h'.2) (h.2 i hi)⟩
def Ze8(md:Region.Mode)(ops:Array Oper)(ls:Array Bool):Bool:=
 (List.range ops.size).all fun j=>!ls.getD j true || ((ops[j]?).map (·.after.all fun e=>!Region.binds md e || ls.getD e.on false)).getD false
def Zgp(md:Region.Mode)(ops:Array Oper)(i:Nat):Nat->Nat->Bool
 | 0,_=>false
 | n+1,j=>((ops[j]?).map (·.after.any fun e=>Region.binds md e && (e.on == i || Zgp md ops i n e.on))).getD false
theorem ZmE{ls:Array Bool} : Ze8 md ops ls=true ↔ ∀j o,ops[j]?=some o->ls.getD j true=true->∀e∈o.after,Region.binds md e=true->ls.getD e.on false=true:=by
 unfold Ze8
 rw[List.all_eq_true]
 constructor
 ·intro h j o ho hj e he hb
  have h1:=h j (List.mem_range.2 (Array.getElem?_eq_some_iff.1 ho).1)
  rw[hj,ho]at h1
  simp only[Bool.not_true,Bool.false_or,Option.map_some,Option.getD_some,Array.all_eq_true']at h1
  have h2:=h1 e he
  rw[hb]at h2
  simpa using h2
 ·intro h j hj
  rw[List.mem_range]at hj
  have ho:ops[j]?=some ops[j]:=Array.getElem?_eq_getElem hj
  cases hl:ls.getD j true with
  | false=>rfl
  | true=>
   rw[ho]
   simp only[Bool.not_true,Bool.false_or,Option.map_some,Option.getD_some,Array.all_eq_true']
   intro e he
   cases hb:Region.binds md e with
   | false=>rfl
   | true=>simpa using h j _ ho hl e he hb
theorem Zuz{ls:Array Bool}{j:Nat}(h:Ze8 md ops ls=true)(hj:j∈Region.ready md ops ls):Ze8 md ops (ls.setIfInBounds j true)=true:=by
 rw[ZmE]at h ⊢
 intro i o ho hi e he hb
 obtain⟨_,oj,hoj,hall⟩:=mem_ready.1 hj
 by_cases hij:j=i
 ·subst hij
  rw[hoj]at ho
  injection ho with ho
  subst ho
  exact getD_set_true (hall e he hb)
 ·rw[getD_set_ne true hij]at hi
  exact getD_set_true (h i o ho hi e he hb)
theorem Znc{ls:Array Bool}{i:Nat}(h:Ze8 md ops ls=true)(hi:ls.getD i true=false):∀(n j:Nat),Zgp md ops i n j=true->ls.getD j true=false
 | 0,_,hw=>by cases hw
 | n + 1, j, hw => by
   cases hl:ls.getD j true with
   | false=>rfl
   | true=>
     unfold Zgp at hw
     cases ho:ops[j]? with
     | none=>rw[ho]at hw;cases hw
     | some o=>
       rw[ho]at hw
       simp only[Option.map_some,Option.getD_some,Array.any_eq_true',Bool.and_eq_true,Bool.or_eq_true,beq_iff_eq]at hw
       obtain⟨e,he,hb,hor⟩:=hw
       have h1:=ZmE.1 h j o ho hl e he hb
       have h2:ls.getD e.on true=false:=by
         rcases hor with heq|hr
         · rw[heq];exact hi
         · exact Znc h hi n _ hr
       exfalso
       rcases Nat.lt_or_ge e.on ls.size with h'|h'
       · simp[h']at h1 h2;rw[h2]at h1;cases h1
       · simp[h']at h1
theorem Znj{i n:Nat}{oi:Oper}{v:Value}(hi:ops[i]?=some oi)(hsel:∀(j:Nat) (o:Oper) cs b,ops[j]?=some o->o.op≠.select cs b)
  (hQ:∀c a w,Q (.panic c) (a.put oi.dst v) w->Q (.panic c) a w) (hw:Zgp md ops i n k=true) (hik:i≠k) :
  ∀(f:Nat) (ls:Array Bool) (a:Act) (w:World),Ze8 md ops ls=true->
   (∀j oj,ops[j]?=some oj->j≠i->ls.getD j true=false->(∀e∈oj.after,Region.binds md e=true->e.on≠i)->oi.apart ops oj=true)->
   i∈Region.ready md ops ls->YieldsIf P ops S oi v a->S w->
   ZcB P md ops Q S k f (ls.setIfInBounds i true) (a.put oi.dst v) w->ZcB P md ops Q S k (f+1) ls a w
 | 0, ls, a, w, hsh, hfree, hr, hy, hS, H => by
   refine⟨fun h=>(by rw[h]at hr;cases hr),fun j hj=>?_⟩
   by_cases hji:j=i
   · subst hji;exact hy.wpOp hi hS ⟨fun _=>hS,H⟩
   · have h1:=ready_mono hj hji
     rw[H.1]at h1
     cases h1
 | f + 1, ls, a, w, hsh, hfree, hr, hy, hS, H => by
   refine⟨fun h=>(by rw[h]at hr;cases hr),fun j hj=>?_⟩
   by_cases hji:j=i
   · subst hji;exact hy.wpOp hi hS ⟨fun _=>hS,H⟩
   · have h1:=H.2 j (ready_mono hj hji)
     obtain⟨hjun,oj,hoj,hall⟩:=mem_ready.1 hj
     have hiun:=(mem_ready.1 hr).1
     have hnot : ∀ e ∈ oj.after, Region.binds md e = true -> e.on ≠ i := fun e he hb heq => by
       have h2:=hall e he hb
       rw[heq]at h2
       rcases Nat.lt_or_ge i ls.size with h'|h'
       · simp[h']at hiun h2;rw[hiun]at h2;cases h2
       · simp[h']at h2
     have hsh':=Zuz hsh hj
     have hiun':(ls.setIfInBounds j true).getD i true=false:=by rw[getD_set_ne true hji];exact hiun
     have hkun:(ls.setIfInBounds j true).getD k true=false:=Znc hsh' hiun' n k hw
     have h2:=wpOp_putIf hoj (hfree j oj hoj hji hjun hnot) (fun cs b=>hsel i oi cs b hi) (fun cs b=>hsel j oj cs b hoj) hQ hy h1
     refine wpOp_mono (fun a' w' h3=>?_) h2
     have hS':S w':=h3.2.1 (by rw[Array.setIfInBounds_comm _ _ (Ne.symm hji),getD_set_ne true hik];exact hkun)
     refine⟨fun _=>hS',Znj hi hsel hQ hw hik f (ls.setIfInBounds j true) a' w' hsh' (fun m om hm hmi hun hno=>hfree m om hm hmi ?_ hno) (ready_mono hr (Ne.symm hji)) h3.1 hS' ?_⟩
     · by_cases hjm:j=m
       · subst hjm;exact hjun
       · rw[getD_set_ne true hjm]at hun;exact hun
     · rw[Array.setIfInBounds_comm _ _ hji]
       exact h3.2.2
theorem Zc{i d:Nat}{oi:Oper}{v:Value}{f:Nat}{ls:Array Bool}{a:Act}{w:World}(hi:ops[i]?=some oi)(hd:oi.dst=some d)(hq:(Region.noSelect ops && Region.free md ops ls i && (Region.ready md ops ls).contains i && Zgp md ops i ops.size k && Ze8 md ops ls && i != k)=true)
  (hQ:∀c a w,Q (.panic c) (a.put oi.dst v) w->Q (.panic c) a w) (hy:YieldsIf P ops S oi v a) (hS:S w)
  (h:ZcB P md ops Q S k f (ls.setIfInBounds i true) { a with tmps:=a.tmps.setIfInBounds d v } w):ZcB P md ops Q S k (f+1) ls a w:=by
 simp only[Bool.and_eq_true,bne_iff_ne]at hq
 obtain⟨⟨⟨⟨⟨h1,h2⟩,h3⟩,h4⟩,h5⟩,h6⟩:=hq
 exact Znj hi (Region.noSelect_spec h1) hQ h4 h6 f ls a w h5 (Region.free_spec hi h2) (by simpa using h3) hy hS (by rw[hd];exact h)
theorem ZbN{i:Nat}{o:Oper}{f:Nat}{ls:Array Bool}{a:Act}{w:World}(hr:Region.ready md ops ls=[i])(ho:ops[i]?=some o)
  (h:∀K':Act->World->Prop,Shut (∀a w,S w->(S w->ZcB P md ops Q S k f (ls.setIfInBounds i true) a w)->K' a w)->if Region.wanted o (yielded ops a.tmps)=true then Oper.wp P o a w K' Q else K' (a.put o.dst undef) w):ZcB P md ops Q S k (f+1) ls a w:=by
 refine⟨fun h0=>(by rw[hr]at h0;cases h0),fun j hj=>?_⟩
 rw[hr,List.mem_singleton]at hj
 subst hj
 exact wpOp_step ho (fun K' hK=>h K' (fun a w hS hW=>hK a w ⟨fun _=>hS,hW hS⟩))
theorem ZbW{o:Oper}{f:Nat}{ls:Array Bool}{a:Act}{w:World}(hr:Region.ready md ops ls=[k])(hr2:Region.ready md ops (ls.setIfInBounds k true)=[])(ho:ops[k]?=some o)(hk:(ls.setIfInBounds k true).getD k true=true)
  (h:∀K':Act->World->Prop,Shut (∀a w,Q .normal a w->K' a w)->if Region.wanted o (yielded ops a.tmps)=true then Oper.wp P o a w K' Q else K' (a.put o.dst undef) w):ZcB P md ops Q S k (f+1) ls a w:=by
 refine⟨fun h0=>(by rw[hr]at h0;cases h0),fun j hj=>?_⟩
 rw[hr,List.mem_singleton]at hj
 subst hj
 refine wpOp_step ho (fun K' hK=>h K' (fun a w hq=>hK a w ⟨fun h0=>(by rw[hk]at h0;cases h0),?_⟩))
 cases f with
 | zero=>exact⟨hr2,hq⟩
 | succ f=>exact⟨fun _=>hq,fun j hj=>by rw[hr2]at hj;cases hj⟩
theorem Zb0{id:Nat}{a:Act}{w:World}(k:Nat)(S:World->Prop)(hm:P.follows .mixedOrders=true)(hS:S w.drew)(h:S w.drew->ZcB P .any ops Q S k ops.size (Array.replicate ops.size false) a w.drew):(Code.region id ops true).wp P Q a w:=
 wp_region_any hm (ZcB.any _ _ _ _ (h hS))
end
end Go.Proofs.YtkodhpilkaihjaaGreatDoor
