/- Parts. -/
import Derived.Test.YtcdgkkfipdoeeaaGreatDoorT03
import Derived.Test.YtcdgkkfipdoeeaaGreatDoorT04
import Derived.Test.YtcdgkkfipdoeeaaGreatDoorT10
import Derived.Test.YtcdgkkfipdoeeaaGreatDoorT02
import Derived.Test.YtcdgkkfipdoeeaaGreatDoorT09
import Derived.DeepKeys4
set_option maxRecDepth 100000
set_option maxHeartbeats 1000000
namespace Go.Proofs.YtcdgkkfipdoeeaaGreatDoor
open Go.RowKit LS
def ZcS(o:Nat):Nat:=if o=0 then 0 else if o<=2 then 1 else 2
def Zeg(o:Nat):List UInt8:=if o=0 then [111,114] else if o=1 then [43] else if o=2 then [45] else if o=3 then [42] else [47]
theorem Zlg (o : Nat) (ho : o <= 4) (w : World) : Calls Tryz.prog 53 #[.int .i64 o] w fun e w' => e = .returned (.int .i64 (ZcS o)) /\ w' = w := by
  have h:o=0∨o=1∨o=2∨o=3∨o=4:=by omega
  rcases h with rfl|rfl|rfl|rfl|rfl
  all_goals
    go_enter Tryz.func53,Tryz.ntmps53
    go_wp2
    go_ret
    exact⟨rfl,rfl⟩
theorem ZxG (o : Nat) (ho : o <= 4) (w : World) : Calls Tryz.prog 67 #[.int .i64 o] w fun e w' => e = .returned (.string ⟨(Zeg o).toArray⟩) /\ w' = w := by
  have h:o=0∨o=1∨o=2∨o=3∨o=4:=by omega
  rcases h with rfl|rfl|rfl|rfl|rfl
  all_goals
    go_enter Tryz.func67,Tryz.ntmps67
    go_wp2
    go_ret
    exact⟨rfl,rfl⟩
def ZgB(t:PTok):Bool:=if ((t.kd:Int) == 0)then true else if ((t.kd:Int) == 1)then !(t.tx.toList == [111,114]) && !(t.tx.toList == [98,121])else ZQ t ⟨#[45]⟩ || ZQ t ⟨#[40]⟩
theorem Zq8(t:PTok)(w:World) :
  Calls Tryz.prog 101 #[.agg #[.int .i64 t.kd,.int .i64 t.at_,.string t.tx,.int .i64 t.v]] w fun e w'=>e=.returned (.bool (ZgB t))/\Below w.heap.size w w':=by
 have HT0:Hid (TAt (w.alloc (.cells #[.int .i64 t.kd,.int .i64 t.at_,.string t.tx,.int .i64 t.v] 74)) w.heap.size t):=Go.Deep.blk_alloc_new _ _
 have HB0:Hid (Below w.heap.size w (w.alloc (.cells #[.int .i64 t.kd,.int .i64 t.at_,.string t.tx,.int .i64 t.v] 74))):=Zbal
 obtain⟨x0,h0⟩:∃x,((t.kd:Int) == 0)=x:=⟨_,rfl⟩
 obtain⟨x1,h1⟩:∃x,((t.kd:Int) == 1)=x:=⟨_,rfl⟩
 obtain⟨y1,g1⟩:∃x,(t.tx.toList == [111,114])=x:=⟨_,rfl⟩
 obtain⟨y2,g2⟩:∃x,(t.tx.toList == [98,121])=x:=⟨_,rfl⟩
 obtain⟨z1,f1⟩:∃x,ZQ t ⟨#[45]⟩=x:=⟨_,rfl⟩
 obtain⟨z2,f2⟩:∃x,ZQ t ⟨#[40]⟩=x:=⟨_,rfl⟩
 have HF:Hid (ZgB t=if x0 then true else if x1 then !y1 && !y2 else z1 || z2):=hid (by unfold ZgB;rw[h0,h1,g1,g2,f1,f2])
 have HZ:Hid (ZQ t ⟨#[45]⟩=z1/\ZQ t ⟨#[40]⟩=z2):=⟨f1,f2⟩
 rw[HF.out]
 clear HF f1 f2
 cases x0
 ·cases x1
  ·go_enter Tryz.func101,Tryz.ntmps101
   go_wp2_with fail
   refine(ZfL t _ HZ.1 w _ w.heap.size HT0.out HB0.out).mono ?_
   rintro e w1 ⟨rfl,HT1,HB1⟩
   clear HT0 HB0
   cases z1
   ·obtain⟨k0,k1,k2,k3⟩:=TAt.all HT1.out
    go_wp2_with fail
    clear k0 k1 k2 k3
    refine(ZfL t _ HZ.2 w w1 w.heap.size HT1.out HB1.out).mono ?_
    rintro e w2 ⟨rfl,HT2,HB2⟩
    cases z2
    ·go_wp2
     go_ret
     exact⟨rfl,HB2.out⟩
    ·go_wp2
     go_ret
     exact⟨rfl,HB2.out⟩
   ·go_wp2
    go_ret
    exact⟨rfl,HB1.out⟩
  ·cases y1 <;> cases y2
   all_goals
    go_enter Tryz.func101,Tryz.ntmps101
    go_wp2
    go_ret
    exact⟨rfl,HB0.out⟩
 ·go_enter Tryz.func101,Tryz.ntmps101
  go_wp2
  go_ret
  exact⟨rfl,HB0.out⟩
def opNo(a:Nd):Nat:=if a.kind=6 then 0 else a.op+1
def Ze(w:World):Tr->Value->Prop
 | .nil,_=>False
 | .node _ _ a l r,v=>
  (a.kind=0/\v=.iface 119 (.agg #[.int .i64 a.n]))∨
  (a.kind=1/\∃(nm:ByteArray) (la:Option Addr) (ln lc:Nat),v=.iface 148 (.agg #[.string nm,.slice la ln lc])/\bl nm=a.name/\ZI w (.slice la ln lc) a.conds)∨
  (a.kind=2/\∃(wd nm:ByteArray) (la:Option Addr) (ln lc:Nat),v=.iface 150 (.agg #[.string wd,.string nm,.slice la ln lc,.int .i64 a.n])/\bl wd=ZV.getD a.op []/\bl nm=a.name/\ZI w (.slice la ln lc) a.conds)∨
  (a.kind=3/\∃x,v=.iface 121 (.agg #[x])/\Ze w l x)∨
  (a.kind=5/\∃(wd:ByteArray) (la:Option Addr) (ln lc:Nat) (x:Value),v=.iface 124 (.agg #[.string wd,.slice la ln lc,x])/\bl wd=ZG.getD a.op []/\Z4 w (.slice la ln lc) a.by_/\Ze w l x)∨
  ((a.kind=4∨a.kind=6)/\∃x y,v=.iface 116 (.agg #[.int .i64 (opNo a),x,y])/\Ze w l x/\Ze w r y)
def ZdX(v:Value):Prop:=v=.nilIface∨∃(ty:TypeId) (u:Value),v=.iface ty u
theorem Ze.shape{w:World} : ∀ {t:Tr} {v:Value},Ze w t v->∃(ty:TypeId) (u:Value),v=.iface ty u
 | .nil,_,h=>h.elim
 | .node _ _ a l r, v, h => by
   rcases h with ⟨_,h⟩|⟨_,_,_,_,_,h,_⟩|⟨_,_,_,_,_,_,h,_⟩|⟨_,_,h,_⟩|⟨_,_,_,_,_,_,h,_⟩|⟨_,_,_,h,_⟩
   all_goals exact⟨_,_,h⟩
theorem ZI.below{w w':World}{v:Value}{ns:List (List UInt8×List UInt8×Bool)}(h:ZI w v ns)(hb:Below w.heap.size w w'):ZI w' v ns:=by
 obtain⟨bs,h1,h2⟩:=h;exact⟨bs,Zw h1 hb,h2⟩
theorem Z4.below{w w':World}{v:Value}{ns:List (List UInt8)}(h:Z4 w v ns)(hb:Below w.heap.size w w'):Z4 w' v ns:=by
 obtain⟨bs,h1,h2⟩:=h;exact⟨bs,Zw h1 hb,h2⟩
theorem Ze.mono{w w':World}(hc:∀v cs,ZI w v cs->ZI w' v cs)(hn:∀v ns,Z4 w v ns->Z4 w' v ns):∀(t:Tr) (v:Value),Ze w t v->Ze w' t v
 | .nil,_,h=>h
 | .node _ _ a l r, v, h => by
   have ihl:=Ze.mono hc hn l
   have ihr:=Ze.mono hc hn r
   rcases h with h|⟨h1,nm,la,ln,lc,h2,h3,h4⟩|⟨h1,wd,nm,la,ln,lc,h2,h3,h4,h5⟩|⟨h1,x,h2,h3⟩|⟨h1,wd,la,ln,lc,x,h2,h3,h4,h5⟩|⟨h1,x,y,h2,h3,h4⟩
   · exact Or.inl h
   · exact Or.inr (Or.inl ⟨h1,nm,la,ln,lc,h2,h3,hc _ _ h4⟩)
   · exact Or.inr (Or.inr (Or.inl ⟨h1,wd,nm,la,ln,lc,h2,h3,h4,hc _ _ h5⟩))
   · exact Or.inr (Or.inr (Or.inr (Or.inl ⟨h1,x,h2,ihl x h3⟩)))
   · exact Or.inr (Or.inr (Or.inr (Or.inr (Or.inl ⟨h1,wd,la,ln,lc,x,h2,h3,hn _ _ h4,ihl x h5⟩))))
   · exact Or.inr (Or.inr (Or.inr (Or.inr (Or.inr ⟨h1,x,y,h2,ihl x h3,ihr y h4⟩))))
theorem Ze.below{w w':World}{t:Tr}{v:Value}(h:Ze w t v)(hb:Below w.heap.size w w'):Ze w' t v:=Ze.mono (fun _ _ h=>h.below hb) (fun _ _ h=>h.below hb) t v h
theorem Ze.kept{w w':World}{t:Tr}{v:Value}(h:Ze w t v){b:Nat}(hg:w.grownBy w' (some b)){c:Array Value}{ty:TypeId}{fr:Nat×Nat}(hq:w.heap[b]?=some (.cells c ty fr))(h1:ty≠224)(h2:ty≠9):Ze w' t v:=
 Ze.mono (fun _ _ h=>h.kept hg hq h1) (fun _ _ h=>h.kept hg hq h2) t v h
theorem Ze.read{w w':World}{R:RS}{k:Nat}{ts:List Tok}{t:Tr}{v:Value}(h:Ze w t v)(hr:RK w R k ts)(hg:w.grownBy w' (some R.b)):Ze w' t v:=h.kept hg hr.rd.cells (by decide) (by decide)
theorem ZI.read{w w':World}{R:RS}{k:Nat}{ts:List Tok}{v:Value}{cs:List (List UInt8×List UInt8×Bool)}(h:ZI w v cs)(hr:RK w R k ts)(hg:w.grownBy w' (some R.b)):ZI w' v cs:=h.kept hg hr.rd.cells (by decide)
theorem Z4.read{w w':World}{R:RS}{k:Nat}{ts:List Tok}{v:Value}{cs:List (List UInt8)}(h:Z4 w v cs)(hr:RK w R k ts)(hg:w.grownBy w' (some R.b)):Z4 w' v cs:=h.kept hg hr.rd.cells (by decide)
theorem Res.err{α:Type}{R:RS}{V:World->α->Prop}{w:World}{r:Out α}{v:Value}(h:Res R V w r v){e:Nat×Nat}(hr:r=.error e):Zba w R e v:=by subst hr;exact h
theorem Res.good{α:Type}{R:RS}{V:World->α->Prop}{w:World}{r:Out α}{v:Value}(h:Res R V w r v){a:α}{ts:List Tok}(hr:r=.ok (a,ts)):v=.nilIface/\(∃k,RK w R k ts)/\V w a:=by subst hr;exact h
section
variable {w w' w1 w2:World} {T:TypeId} {b N x:Nat}
structure KB (T:TypeId) (w w':World):Prop where
 cells:∀(b:Nat) (cs:Array Value) (U:TypeId) (fr:Nat×Nat),w.heap[b]?=some (.cells cs U fr)->U≠T->w'.heap[b]?=some (.cells cs U fr)
 maps:∀(b:Nat) (es:Array MapEntry) (cl:Nat),w.heap[b]?=some (.map es cl)->w'.heap[b]?=some (.map es cl)
theorem KB.trans(h:KB T w w1)(q:KB T w1 w2):KB T w w2:=⟨fun b cs U fr h1 h2=>q.cells b cs U fr (h.cells b cs U fr h1 h2) h2,fun b es cl h1=>q.maps b es cl (h.maps b es cl h1)⟩
theorem KB.below(T:TypeId)(h:Below w.heap.size w w'):KB T w w':=⟨fun b _ _ _ hb _=>(h.block b (Array.getElem?_eq_some_iff.1 hb).1).trans hb,fun b _ _ hb=>(h.block b (Array.getElem?_eq_some_iff.1 hb).1).trans hb⟩
theorem KB.row {base : Nat} {sz : Nat} {v : Value} {n : Nat} {xs : List Value} (ho : w.ownsRow base T sz v n xs) (hg : w.grownBy w' v.ownBlock) : KB T w w' := ⟨fun b cs U fr hb hU => (hg.block b (Array.getElem?_eq_some_iff.1 hb).1 (Zdl ho hb hU)).trans hb, fun b es cl hb => (hg.block b (Array.getElem?_eq_some_iff.1 hb).1 (fun e => by
  obtain⟨cs,fr,h1⟩:=Zcg ho e.symm
  exact ZbO hb h1 rfl)).trans hb⟩
theorem KB.set{a:Nat}{l:List Value}(hb:BAt w a l T)(i:Nat)(v:Value):KB T w (w.setCell ⟨a,i,none⟩ v):=⟨fun b cs U fr h1 hU=>(Go.Deep.blk_setCell_other _ _ _ _ (fun e=>by subst e;exact hU (ZcF h1 hb))).trans h1,fun b es cl h1=>(Go.Deep.blk_setCell_other _ _ _ _ (fun e=>by subst e;exact ZbO h1 hb rfl)).trans h1⟩
theorem KB.setRow{base:Nat}{sz g m cp:Nat}{xs:List Value}(ho:w.ownsRow base T sz (.slice (some ⟨g,0,none⟩) m cp) m xs)(i:Nat)(v:Value):KB T w (w.setCell ⟨g,i,none⟩ v):=by
 obtain⟨cs,fr,h0⟩:=Zcg ho rfl
 exact⟨fun b cs U fr h1 hU=>(Go.Deep.blk_setCell_other _ _ _ _ (fun e=>by subst e;exact hU (ZcF h1 h0))).trans h1,fun b es cl h1=>(Go.Deep.blk_setCell_other _ _ _ _ (fun e=>by subst e;exact ZbO h1 h0 rfl)).trans h1⟩
theorem KB.own (h : KB T w w') {base : Nat} {e : TypeId} {sz : Nat} {v : Value} {n : Nat} {xs : List Value} (ho : w.ownsRow base e sz v n xs) (he : e ≠ T) : w'.ownsRow base e sz v n xs := ZeY ho (fun k hk => by
  obtain⟨cs,fr,h1⟩:=Zcg ho hk
  rw[h1];exact h.cells _ _ _ _ h1 he)
theorem KB.bat(h:KB T w w'){a:Nat}{l:List Value}{t:TypeId}(hb:BAt w a l t)(ht:t≠T):BAt w' a l t:=h.cells _ _ _ _ hb ht
structure KM (x:Nat) (w w':World):Prop where
 cells:∀(b:Nat) (cs:Array Value) (U:TypeId) (fr:Nat×Nat),w.heap[b]?=some (.cells cs U fr)->w'.heap[b]?=some (.cells cs U fr)
 maps:∀(b:Nat) (es:Array MapEntry) (cl:Nat),w.heap[b]?=some (.map es cl)->b≠x->w'.heap[b]?=some (.map es cl)
theorem KM.of {es0 : Array MapEntry} {cl0 : Nat} (hx : w.heap[x]? = some (.map es0 cl0)) (hg : w.grownBy w' (some x)) : KM x w w' := ⟨fun b cs U fr hb => (hg.block b (Array.getElem?_eq_some_iff.1 hb).1 (fun e => by
  injection e with e;subst e;exact ZbO hx hb rfl)).trans hb,fun b es cl hb hn=>(hg.block b (Array.getElem?_eq_some_iff.1 hb).1 (fun e=>hn (Option.some.inj e))).trans hb⟩
theorem KM.own (h : KM x w w') {base : Nat} {e : TypeId} {sz : Nat} {v : Value} {n : Nat} {xs : List Value} (ho : w.ownsRow base e sz v n xs) : w'.ownsRow base e sz v n xs := ZeY ho (fun k hk => by
  obtain⟨cs,fr,h1⟩:=Zcg ho hk
  rw[h1];exact h.cells _ _ _ _ h1)
variable {α:Type} {enc:α->Value} {kt mt:TypeId} {f:α->Option Int}
def MapK(w:World)(kt:TypeId)(b N:Nat)(enc:α->Value)(f:α->Option Int):Prop:=∃D:DataW Unit,w.ownsMap Tryz.prog kt eI b N D/\∀a kl,keyOf Tryz.prog kt (enc a)=some kl->(f a=none->Maps.has D kl=false)/\∀v,f a=some v->Maps.has D kl=true/\∀z,D.atKey kl z=.lit (.int .i64 v)
theorem MapK.obj(h:MapK w kt b N enc f):∃es cl,w.heap[b]?=some (.map es cl):=by
 obtain⟨D,⟨es,cl,h1,_⟩,_⟩:=h
 exact⟨es,cl,h1⟩
theorem MapK.move(h:MapK w kt b N enc f)(hh:w'.heap[b]?=w.heap[b]?):MapK w' kt b N enc f:=by
 obtain⟨D,⟨es,cl,h1,h2⟩,h3⟩:=h
 exact⟨D,⟨es,cl,hh.trans h1,h2⟩,h3⟩
theorem MapK.kb(h:MapK w kt b N enc f)(hk:KB T w w'):MapK w' kt b N enc f:=by
 obtain⟨es,cl,h1⟩:=h.obj
 exact h.move ((hk.maps _ _ _ h1).trans h1.symm)
theorem MapK.km(h:MapK w kt b N enc f)(hk:KM x w w')(hn:b≠x):MapK w' kt b N enc f:=by
 obtain⟨es,cl,h1⟩:=h.obj
 exact h.move ((hk.maps _ _ _ h1 hn).trans h1.symm)
theorem MapK.look(K:Maps.Keyed Tryz.prog kt)(ht:Tryz.prog.underlying mt=some (.map kt 3))(h:MapK w kt b N enc f){a:α}{kl:Lit}(ha:keyOf Tryz.prog kt (enc a)=some kl)(W:World)(hW:W.heap[b]?=w.heap[b]?):(Instr.lookup mt (.map (some b)) (enc a) true).run Tryz.prog W=.ok (.tuple #[.int .i64 ((f a).getD 0),.bool (f a).isSome]) W:=by
 obtain⟨D,h1,h3⟩:=h.move hW
 obtain⟨v,ps,hr,hv⟩:=h1.look_ok K ht (Tryz.zeroValue3 _) (plainElem_int Tryz.underlying3 (by decide)) ha
 obtain⟨c,rfl,hc,_⟩:=plainElem_int_inv Tryz.underlying3 hv
 have hc1:D.atKey kl (.lit (.int .i64 0))=.lit (.int .i64 c):=congrArg Prod.fst hc
 rw[hr]
 cases hf:f a with
 | none=>
  have h4:=(h3 a kl ha).1 hf
  rw[Maps.atKey_of_not_has h4]at hc1
  rw[h4,<-Zfn hc1];rfl
 | some u=>
  have h4:=(h3 a kl ha).2 u hf
  rw[h4.2]at hc1
  rw[h4.1,<-Zfn hc1];rfl
theorem MapK.put(K:Maps.Keyed Tryz.prog kt)(ht:Tryz.prog.underlying mt=some (.map kt 3))(hinj:∀a a',enc a=enc a'->a=a')(h:MapK w kt b N enc f)(hN:N<1000000000){a:α}{kl:Lit}(ha:keyOf Tryz.prog kt (enc a)=some kl){v:Int}(hv:(Lit.int .i64 v).wf=true){g:α->Option Int}(hg1:g a=some v)(hg2:∀a',a'≠a->g a'=f a')(W:World)(hW:W.heap[b]?=w.heap[b]?) :
  ∃W',(Instr.mapUpdate mt (.map (some b)) (enc a) (.int .i64 v)).run Tryz.prog W=.ok () W'/\MapK W' kt b (N+1) enc g/\W.grownBy W' (some b):=by
 obtain⟨D,h1,h3⟩:=h.move hW
 obtain⟨W',hr,ho,hg⟩:=h1.update K ht (by unfold maxLen;omega) ha (plainElem_int Tryz.underlying3 hv)
 have hm:=h1.isMap
 have hkl:WideAt.IsKeyLit kl:=K.key ha
 refine⟨W',hr,⟨_,ho,fun a' kl' ha'=>?_⟩,hg⟩
 by_cases e:a'=a
 ·subst e
  obtain rfl:kl'=kl:=Option.some.inj (ha'.symm.trans ha)
  rw[hg1]
  refine⟨fun h=>(by cases h),fun u hu=>?_⟩
  injection hu with hu
  subst hu
  exact⟨Maps.has_put_same hm hkl _,fun z=>Maps.atKey_put_same hm hkl _ z⟩
 ·have hne:kl'≠kl:=fun h=>e (hinj _ _ (K.inj (ha'.trans (by rw[h])) ha))
  rw[hg2 a' e]
  refine⟨fun h=>by rw[Maps.has_put_other hne];exact(h3 a' kl' ha').1 h,fun u hu=>?_⟩
  rw[Maps.has_put_other hne]
  exact⟨((h3 a' kl' ha').2 u hu).1,fun z=>by rw[Maps.atKey_put_other hne];exact((h3 a' kl' ha').2 u hu).2 z⟩
theorem MapK.made(w:World)(kt:TypeId)(enc:α->Value):MapK (w.alloc (.map #[] 0)) kt w.heap.size 0 enc (fun _=>none):=⟨.map [],World.ownsMap_made w _ _ _,fun a kl _=>⟨fun _=>rfl,fun v h=>(by cases h)⟩⟩
def nodV(z:Nq):Value:=.agg #[.int .i64 z.op,.int .i64 z.arg,.int .i64 (nI z.fs),.int .i64 (nI z.sn)]
theorem ZoA{a c:Option Nat}(h:nI a=nI c):a=c:=by
 cases a <;> cases c <;> simp only[nI]at h
 ·rfl
 ·omega
 ·omega
 ·exact congrArg some (by omega)
theorem Zvp(z y:Nq)(h:nodV z=nodV y):z=y:=by
 obtain⟨o1,a1,f1,s1⟩:=z
 obtain⟨o2,a2,f2,s2⟩:=y
 unfold nodV at h
 injection h with h
 have h':=congrArg Array.toList h
 simp only[List.cons.injEq]at h'
 obtain⟨h1,h2,h3,h4,_⟩:=h'
 injection h1 with _ h1
 injection h2 with _ h2
 injection h3 with _ h3
 injection h4 with _ h4
 simp only[Nq.mk.injEq]
 exact⟨Int.ofNat.inj h1,h2,ZoA h3,ZoA h4⟩
theorem Zt3:laidOutB Tryz.prog=true:=by kernel_rfl
theorem nodK:Maps.Keyed Tryz.prog 232:=Maps.Keyed.of_law (deep_law_laid Zt3 (m:=2) (by omega) (k:=232) (of_decide_eq_true (by kernel_rfl)) (by kernel_rfl) (by kernel_rfl))
theorem strK:Maps.Keyed Tryz.prog 9:=Maps.string_keyed Tryz.underlying9
theorem ZpL{s:ByteArray}(hs:s.size<=maxLen):∃kl,keyOf Tryz.prog 9 (.string s)=some kl:=by
 refine⟨.string s.data.toList,?_⟩
 simp[keyOf,Tryz.underlying9,mapKey,hs]
end
end Go.Proofs.YtcdgkkfipdoeeaaGreatDoor
namespace Go.Proofs.YtcdgkkfipdoeeaaGreatDoor
open Go.RowKit LS
theorem ZhZ(m:Nat){v:Int}(h:(Lit.int .i64 v).wf=true):Tryz.prog.keyLits (m+1) 3 [.int .i64 v]=some [.int .i64 v]:=by
 unfold Program.keyLits
 simp[Tryz.underlying3,h]
theorem Zvq{z:Nq}(h1:(Lit.int .i64 z.op).wf=true)(h2:(Lit.int .i64 z.arg).wf=true)(h3:(Lit.int .i64 (nI z.fs)).wf=true)(h4:(Lit.int .i64 (nI z.sn)).wf=true):∃kl,keyOf Tryz.prog 232 (nodV z)=some kl:=by
 have hs:∃m,Tryz.prog.types.size=m+1:=⟨Tryz.prog.types.size - 1,by kernel_rfl⟩
 obtain⟨m,hm⟩:=hs
 have hk:Tryz.prog.keyType 232=true:=by kernel_rfl
 have hc:Tryz.prog.cellsOf 232=4:=by kernel_rfl
 have hi:Tryz.prog.cellsOf 3=1:=by kernel_rfl
 have hl:Tryz.prog.keyLits (m+1+1) 232 [.int .i64 z.op,.int .i64 z.arg,.int .i64 (nI z.fs),.int .i64 (nI z.sn)]=some [.int .i64 z.op,.int .i64 z.arg,.int .i64 (nI z.fs),.int .i64 (nI z.sn)]:=by
  rw[Program.keyLits.eq_def]
  simp[Tryz.underlying232,hc,hi,ZhZ m h1,ZhZ m h2,ZhZ m h3,ZhZ m h4]
 have hf:(nodV z).formed Tryz.prog 232=true:=by simp[nodV,Value.formed,Tryz.underlying232,hc]
 have hcl:(nodV z).cells.toList=[.int .i64 z.op,.int .i64 z.arg,.int .i64 (nI z.fs),.int .i64 (nI z.sn)]:=rfl
 unfold keyOf
 rw[Tryz.underlying232]
 simp only[hk,hf,Bool.and_self,if_true,hm,hcl,hl,Option.map_some]
 exact⟨_,rfl⟩
abbrev SelC:=ByteArray×Option Addr×Nat×Nat×Nat
abbrev RowC:=Option Addr×Nat×Nat
def ZcC(s:SelC):List Value:=[.string s.1,.slice s.2.1 s.2.2.1 s.2.2.2.1,.int .i64 (s.2.2.2.2:Nat)]
def rowV(r:RowC):Value:=.slice r.1 r.2.1 r.2.2
def ZdW(w0:World)(s:SelC)(x:Nd×Nat):Prop:=bl s.1=x.1.name/\ZI w0 (.slice s.2.1 s.2.2.1 s.2.2.2.1) x.1.conds/\s.2.2.2.2=x.2
def Zcl(w0:World):List SelC->List (Nd×Nat)->Prop
 | [],[]=>True
 | s::ss,x::xs=>ZdW w0 s x/\Zcl w0 ss xs
 | _,_=>False
def Zbu(w:World):List RowC->List (List (List UInt8))->Prop
 | [],[]=>True
 | s::ss,x::xs=>Z4 w (rowV s) x/\Zbu w ss xs
 | _,_=>False
structure GX where
 base:Nat
 gb:Nat
 mb:Nat
 sm:Nat
 gm:Nat
def graC(X:GX)(g:Gq)(nv uv sv rv:Value):List Value:=[.bool g.fold,.bool g.share,nv,uv,.map (some X.mb),sv,rv,.map (some X.sm),.map (some X.gm)]
def idxV(l:List (List UInt8))(s:ByteArray):Option Int:=(idx (bl s) l).map Int.ofNat
structure GJ (w0 w:World) (X:GX) (nv uv sv rv:Value) (sl:List SelC) (rl:List RowC) (g:Gq) (kN:Nat) (f:Nq->Option Int) (ss gs:List (List UInt8)):Prop where
 box:BAt w X.gb (graC X g nv uv sv rv) 176
 nod:w.ownsRow X.base 232 4 nv g.nodes.length (g.nodes.flatMap nodC)
 use:w.ownsRow X.base 3 1 uv g.uses.length (g.uses.map intC)
 sel:w.ownsRow X.base 156 3 sv g.sels.length (sl.flatMap ZcC)
 grp:w.ownsRow X.base 122 1 rv g.grps.length (rl.map rowV)
 sok:Zcl w0 sl g.sels
 gok:Zbu w rl g.grps
 num:MapK w 232 X.mb kN nodV f
 smp:MapK w 9 X.sm ss.length Value.string (idxV ss)
 gmp:MapK w 9 X.gm gs.length Value.string (idxV gs)
 ne:X.mb≠X.sm/\X.mb≠X.gm/\X.sm≠X.gm
 bas:X.base=w0.heap.size/\X.base<=X.gb/\X.base<=X.mb/\X.base<=X.sm/\X.base<=X.gm
 bel:Below w0.heap.size w0 w
structure GI (w0 w:World) (X:GX) (nv uv sv rv:Value) (sl:List SelC) (rl:List RowC) (g:Gq):Prop where
 j:∃f,GJ w0 w X nv uv sv rv sl rl g g.nodes.length f (g.sels.map ZM) (g.grps.map commas)/\(g.share=true->∀x,f x=(idxN x g.nodes).map Int.ofNat)
 ulen:g.uses.length=g.nodes.length
 nok:NOk g.nodes
 ubd:∀j,g.uses.getD j 0<=2*g.nodes.length
def KT(w w':World):Prop:=∀(b:Nat) (cs:Array Value) (U:TypeId) (fr:Nat×Nat),w.heap[b]?=some (.cells cs U fr)->U∉[176,232,3,156,122]->w'.heap[b]?=some (.cells cs U fr)
section
variable {w0 w w' w1 w2:World} {X:GX} {nv uv sv rv nv' uv' sv' rv':Value} {sl sl':List SelC} {rl rl':List RowC} {g g':Gq} {T:TypeId} {x:Nat}
theorem KT.trans(h:KT w w1)(q:KT w1 w2):KT w w2:=fun b cs U fr h1 h2=>q b cs U fr (h b cs U fr h1 h2) h2
theorem KB.kt(h:KB T w w')(hT:T∈[176,232,3,156,122]):KT w w':=fun b cs U fr h1 h2=>h.cells b cs U fr h1 (fun e=>h2 (e ▸ hT))
theorem KM.kt(h:KM x w w'):KT w w':=fun b cs U fr h1 _=>h.cells b cs U fr h1
theorem KT.below(h:Below w.heap.size w w'):KT w w':=fun b _ _ _ hb _=>(h.block b (Array.getElem?_eq_some_iff.1 hb).1).trans hb
theorem KT.bat(h:KT w w'){a:Nat}{l:List Value}{t:TypeId}(hb:BAt w a l t)(ht:t∉[176,232,3,156,122]):BAt w' a l t:=h _ _ _ _ hb ht
def GP(w0 w w':World)(X:GX)(g:Gq):Prop:=∃nv uv sv rv sl rl,GI w0 w' X nv uv sv rv sl rl g/\KT w w'
theorem GP.step(h:KT w w1)(q:GP w0 w1 w2 X g):GP w0 w w2 X g:=by
 obtain⟨a,b,c,d,e,f,h1,h2⟩:=q
 exact⟨a,b,c,d,e,f,h1,h.trans h2⟩
theorem Zbu.mono(hn:∀v ns,Z4 w v ns->Z4 w' v ns):∀ {a:List RowC} {b:List (List (List UInt8))},Zbu w a b->Zbu w' a b
 | [],[],h=>h
 | _::_,_::_,⟨h1,h2⟩=>⟨hn _ _ h1,Zbu.mono hn h2⟩
theorem Zbu.kb{a:List RowC}{b:List (List (List UInt8))}(h:Zbu w a b)(hk:KB T w w')(hT:9≠T):Zbu w' a b:=h.mono (fun _ _ ⟨bs,h1,h2⟩=>⟨bs,hk.own h1 hT,h2⟩)
theorem Zbu.km{a:List RowC}{b:List (List (List UInt8))}(h:Zbu w a b)(hk:KM x w w'):Zbu w' a b:=h.mono (fun _ _ ⟨bs,h1,h2⟩=>⟨bs,hk.own h1,h2⟩)
theorem Zbu.len:∀ {a:List RowC} {b:List (List (List UInt8))},Zbu w a b->a.length=b.length
 | [],[],_=>rfl
 | _::_,_::_,⟨_,h⟩=>by rw[List.length_cons,List.length_cons,Zbu.len h]
theorem Zcl.len:∀ {a:List SelC} {b:List (Nd×Nat)},Zcl w0 a b->a.length=b.length
 | [],[],_=>rfl
 | _::_,_::_,⟨_,h⟩=>by rw[List.length_cons,List.length_cons,Zcl.len h]
theorem Zcl.snoc{s:SelC}{y:Nd×Nat}(hs:ZdW w0 s y):∀ {a:List SelC} {b:List (Nd×Nat)},Zcl w0 a b->Zcl w0 (a++[s]) (b++[y])
 | [],[],_=>⟨hs,trivial⟩
 | _::_,_::_,⟨h1,h2⟩=>⟨h1,Zcl.snoc hs h2⟩
theorem Zbu.snoc{s:RowC}{y:List (List UInt8)}(hs:Z4 w (rowV s) y):∀ {a:List RowC} {b:List (List (List UInt8))},Zbu w a b->Zbu w (a++[s]) (b++[y])
 | [],[],_=>⟨hs,trivial⟩
 | _::_,_::_,⟨h1,h2⟩=>⟨h1,Zbu.snoc hs h2⟩
variable {kN:Nat} {f f':Nq->Option Int} {ss gs:List (List UInt8)}
theorem Zep(h:Below w0.heap.size w0 w){r:Option Nat}(hg:w.grownBy w' r)(hr:∀k,r=some k->w0.heap.size<=k):Below w0.heap.size w0 w':=⟨hg.os.trans h.os,hg.tape.trans h.tape,hg.output.trans h.output,Nat.le_trans h.size hg.size,fun k hk=>(hg.block k (Nat.lt_of_lt_of_le hk h.size) (fun e=>by have:=hr k e.symm;omega)).trans (h.block k hk)⟩
theorem GJ.below(h:GJ w0 w X nv uv sv rv sl rl g kN f ss gs)(hb:Below w.heap.size w w'):GJ w0 w' X nv uv sv rv sl rl g kN f ss gs:=by
 have k:=KB.below 0 hb
 exact⟨h.box.below hb,Zw h.nod hb,Zw h.use hb,Zw h.sel hb,Zw h.grp hb,h.sok,h.gok.mono (fun _ _ h=>h.below hb),h.num.kb k,h.smp.kb k,h.gmp.kb k,h.ne,h.bas,h.bel.trans (hb.mono h.bel.size)⟩
theorem GI.below(h:GI w0 w X nv uv sv rv sl rl g)(hb:Below w.heap.size w w'):GI w0 w' X nv uv sv rv sl rl g:=by
 obtain⟨f,hf,hf2⟩:=h.j
 exact⟨⟨f,hf.below hb,hf2⟩,h.ulen,h.nok,h.ubd⟩
theorem GJ.numPut(h:GJ w0 w X nv uv sv rv sl rl g kN f ss gs)(hg:w.grownBy w' (some X.mb)){k':Nat}(hm:MapK w' 232 X.mb k' nodV f'):GJ w0 w' X nv uv sv rv sl rl g k' f' ss gs/\KT w w':=by
 obtain⟨es,cl,ho⟩:=h.num.obj
 have k:=KM.of ho hg
 exact⟨⟨k.cells _ _ _ _ h.box,k.own h.nod,k.own h.use,k.own h.sel,k.own h.grp,h.sok,h.gok.km k,hm,h.smp.km k h.ne.1.symm,h.gmp.km k h.ne.2.1.symm,h.ne,h.bas,Zep h.bel hg (fun j e=>by injection e with e;have:=h.bas;omega)⟩,k.kt⟩
theorem GJ.smPut(h:GJ w0 w X nv uv sv rv sl rl g kN f ss gs)(hg:w.grownBy w' (some X.sm)){ss':List (List UInt8)}(hm:MapK w' 9 X.sm ss'.length Value.string (idxV ss')):GJ w0 w' X nv uv sv rv sl rl g kN f ss' gs/\KT w w':=by
 obtain⟨es,cl,ho⟩:=h.smp.obj
 have k:=KM.of ho hg
 exact⟨⟨k.cells _ _ _ _ h.box,k.own h.nod,k.own h.use,k.own h.sel,k.own h.grp,h.sok,h.gok.km k,h.num.km k h.ne.1,hm,h.gmp.km k h.ne.2.2.symm,h.ne,h.bas,Zep h.bel hg (fun j e=>by injection e with e;have:=h.bas;omega)⟩,k.kt⟩
theorem GJ.gmPut(h:GJ w0 w X nv uv sv rv sl rl g kN f ss gs)(hg:w.grownBy w' (some X.gm)){gs':List (List UInt8)}(hm:MapK w' 9 X.gm gs'.length Value.string (idxV gs')):GJ w0 w' X nv uv sv rv sl rl g kN f ss gs'/\KT w w':=by
 obtain⟨es,cl,ho⟩:=h.gmp.obj
 have k:=KM.of ho hg
 exact⟨⟨k.cells _ _ _ _ h.box,k.own h.nod,k.own h.use,k.own h.sel,k.own h.grp,h.sok,h.gok.km k,h.num.km k h.ne.2.1,h.smp.km k h.ne.2.2,hm,h.ne,h.bas,Zep h.bel hg (fun j e=>by injection e with e;have:=h.bas;omega)⟩,k.kt⟩
theorem ZgC(h:Below w0.heap.size w0 w){a i:Nat}(ha:w0.heap.size<=a)(v:Value):Below w0.heap.size w0 (w.setCell ⟨a,i,none⟩ v):=h.setCell (p:=⟨a,i,none⟩) ha v
theorem GJ.nodApp(h:GJ w0 w X nv uv sv rv sl rl g kN f ss gs)(z:Nq)(hg:w.grownBy w1 nv.ownBlock)(ho:w1.ownsRow X.base 232 4 nv' (g.nodes.length+1) (g.nodes.flatMap nodC++nodC z)) :
  BAt w1 X.gb (graC X g nv uv sv rv) 176/\GJ w0 (w1.setCell ⟨X.gb,2,none⟩ nv') X nv' uv sv rv sl rl { g with nodes:=g.nodes++[z] } kN f ss gs/\KT w (w1.setCell ⟨X.gb,2,none⟩ nv'):=by
 have k1:=KB.row h.nod hg
 have hb:=k1.bat h.box (by decide)
 have k2:=KB.set hb 2 nv'
 refine⟨hb,⟨hb.setC 2 nv',?_,k2.own (k1.own h.use (by decide)) (by decide),k2.own (k1.own h.sel (by decide)) (by decide),k2.own (k1.own h.grp (by decide)) (by decide),h.sok,(h.gok.kb k1 (by decide)).kb k2 (by decide),(h.num.kb k1).kb k2,(h.smp.kb k1).kb k2,(h.gmp.kb k1).kb k2,h.ne,h.bas,ZgC (Zep h.bel hg (fun k e=>by have:=(h.nod.lt k e).1;have:=h.bas;omega)) (by have:=h.bas;omega) _⟩,(k1.kt (by decide)).trans (k2.kt (by decide))⟩
 have:=k2.own ho (by decide)
 simpa using this
theorem GJ.useApp(h:GJ w0 w X nv uv sv rv sl rl g kN f ss gs)(z:Nat)(hg:w.grownBy w1 uv.ownBlock)(ho:w1.ownsRow X.base 3 1 uv' (g.uses.length+1) (g.uses.map intC++[intC z])) :
  BAt w1 X.gb (graC X g nv uv sv rv) 176/\GJ w0 (w1.setCell ⟨X.gb,3,none⟩ uv') X nv uv' sv rv sl rl { g with uses:=g.uses++[z] } kN f ss gs/\KT w (w1.setCell ⟨X.gb,3,none⟩ uv'):=by
 have k1:=KB.row h.use hg
 have hb:=k1.bat h.box (by decide)
 have k2:=KB.set hb 3 uv'
 refine⟨hb,⟨hb.setC 3 uv',k2.own (k1.own h.nod (by decide)) (by decide),?_,k2.own (k1.own h.sel (by decide)) (by decide),k2.own (k1.own h.grp (by decide)) (by decide),h.sok,(h.gok.kb k1 (by decide)).kb k2 (by decide),(h.num.kb k1).kb k2,(h.smp.kb k1).kb k2,(h.gmp.kb k1).kb k2,h.ne,h.bas,ZgC (Zep h.bel hg (fun k e=>by have:=(h.use.lt k e).1;have:=h.bas;omega)) (by have:=h.bas;omega) _⟩,(k1.kt (by decide)).trans (k2.kt (by decide))⟩
 have:=k2.own ho (by decide)
 simpa using this
theorem GJ.selApp(h:GJ w0 w X nv uv sv rv sl rl g kN f ss gs)(z:SelC)(y:Nd×Nat)(hz:ZdW w0 z y)(hg:w.grownBy w1 sv.ownBlock)(ho:w1.ownsRow X.base 156 3 sv' (g.sels.length+1) (sl.flatMap ZcC++ZcC z)) :
  BAt w1 X.gb (graC X g nv uv sv rv) 176/\GJ w0 (w1.setCell ⟨X.gb,5,none⟩ sv') X nv uv sv' rv (sl++[z]) rl { g with sels:=g.sels++[y] } kN f ss gs/\KT w (w1.setCell ⟨X.gb,5,none⟩ sv'):=by
 have k1:=KB.row h.sel hg
 have hb:=k1.bat h.box (by decide)
 have k2:=KB.set hb 5 sv'
 refine⟨hb,⟨hb.setC 5 sv',k2.own (k1.own h.nod (by decide)) (by decide),k2.own (k1.own h.use (by decide)) (by decide),?_,k2.own (k1.own h.grp (by decide)) (by decide),h.sok.snoc hz,(h.gok.kb k1 (by decide)).kb k2 (by decide),(h.num.kb k1).kb k2,(h.smp.kb k1).kb k2,(h.gmp.kb k1).kb k2,h.ne,h.bas,ZgC (Zep h.bel hg (fun k e=>by have:=(h.sel.lt k e).1;have:=h.bas;omega)) (by have:=h.bas;omega) _⟩,(k1.kt (by decide)).trans (k2.kt (by decide))⟩
 have:=k2.own ho (by decide)
 simpa using this
theorem GJ.grpApp(h:GJ w0 w X nv uv sv rv sl rl g kN f ss gs)(z:RowC)(y:List (List UInt8))(hz:Z4 w (rowV z) y)(hg:w.grownBy w1 rv.ownBlock)(ho:w1.ownsRow X.base 122 1 rv' (g.grps.length+1) (rl.map rowV++[rowV z])) :
  BAt w1 X.gb (graC X g nv uv sv rv) 176/\GJ w0 (w1.setCell ⟨X.gb,6,none⟩ rv') X nv uv sv rv' sl (rl++[z]) { g with grps:=g.grps++[y] } kN f ss gs/\KT w (w1.setCell ⟨X.gb,6,none⟩ rv'):=by
 have k1:=KB.row h.grp hg
 have hb:=k1.bat h.box (by decide)
 have k2:=KB.set hb 6 rv'
 have hz2:Z4 (w1.setCell ⟨X.gb,6,none⟩ rv') (rowV z) y:=by
  obtain⟨bs,h1,h2⟩:=hz
  exact⟨bs,k2.own (k1.own h1 (by decide)) (by decide),h2⟩
 refine⟨hb,⟨hb.setC 6 rv',k2.own (k1.own h.nod (by decide)) (by decide),k2.own (k1.own h.use (by decide)) (by decide),k2.own (k1.own h.sel (by decide)) (by decide),?_,h.sok,((h.gok.kb k1 (by decide)).kb k2 (by decide)).snoc hz2,(h.num.kb k1).kb k2,(h.smp.kb k1).kb k2,(h.gmp.kb k1).kb k2,h.ne,h.bas,ZgC (Zep h.bel hg (fun k e=>by have:=(h.grp.lt k e).1;have:=h.bas;omega)) (by have:=h.bas;omega) _⟩,(k1.kt (by decide)).trans (k2.kt (by decide))⟩
 have:=k2.own ho (by decide)
 simpa using this
theorem GJ.useSet{ub uc:Nat}(h:GJ w0 w X nv (.slice (some ⟨ub,0,none⟩) g.uses.length uc) sv rv sl rl g kN f ss gs)(j v:Nat):GJ w0 (w.setCell ⟨ub,j,none⟩ (.int .i64 v)) X nv (.slice (some ⟨ub,0,none⟩) g.uses.length uc) sv rv sl rl { g with uses:=g.uses.set j v } kN f ss gs/\KT w (w.setCell ⟨ub,j,none⟩ (.int .i64 v)):=by
 have k2:=KB.setRow h.use j (.int .i64 v)
 refine⟨⟨k2.bat h.box (by decide),k2.own h.nod (by decide),?_,k2.own h.sel (by decide),k2.own h.grp (by decide),h.sok,h.gok.kb k2 (by decide),h.num.kb k2,h.smp.kb k2,h.gmp.kb k2,h.ne,h.bas,ZgC h.bel (by have:=(h.use.lt ub rfl).1;have:=h.bas;omega) _⟩,k2.kt (by decide)⟩
 have:=ZkY h.use j (.int .i64 v)
 rw[show(g.uses.map intC).set j (.int .i64 v)=(g.uses.set j v).map intC by rw[List.map_set];rfl]at this
 simpa using this
theorem GP.of(h:GI w0 w X nv uv sv rv sl rl g)(k:KT w1 w):GP w0 w1 w X g:=⟨_,_,_,_,_,_,h,k⟩
end
end Go.Proofs.YtcdgkkfipdoeeaaGreatDoor
namespace Go.Proofs.YtcdgkkfipdoeeaaGreatDoor
open Go.RowKit LS
section
variable {w0 w w' w1 w2:World} {X:GX} {nv uv sv rv nv' uv' sv' rv':Value} {sl sl':List SelC} {rl rl':List RowC} {g g':Gq} {T:TypeId} {x:Nat}
theorem Zi1{v:Int}(h1 : -9223372036854775808<=v)(h2:v<=9223372036854775807):(Lit.int .i64 v).wf=true:=by
 show(decide (IntKind.i64.min<=v) && decide (v<=IntKind.i64.max))=true
 rw[show IntKind.i64.min=-9223372036854775808 from rfl,show IntKind.i64.max=9223372036854775807 from rfl,Bool.and_eq_true]
 exact⟨decide_eq_true h1,decide_eq_true h2⟩
theorem ZoB{o:Option Nat}{N:Nat}(h:∀a,o=some a->a<N):nI o<=N:=by
 cases o with
 | none=>show(-1:Int)<=N;omega
 | some a=>have:=h a rfl;show(a:Int)<=N;omega
theorem NOne.key{n:Nat}{z:Nq}(h:NOne n z)(hn:n<=1000000):∃kl,keyOf Tryz.prog 232 (nodV z)=some kl:=by
 have hl:∀a,z.fs=some a->a<n:=fun a ha=>h.low a (by unfold Zg;rw[ha];cases z.sn <;> simp)
 have hs : ∀ a, z.sn = some a -> a < n := fun a ha => by
   cases hf:z.fs with
   | none=>rw[h.sn hf]at ha;cases ha
   | some b=>exact h.low a (by unfold Zg;rw[ha,hf];simp)
 have h1:=ZoB hl
 have h2:=ZoB hs
 have h3:=ZkF z.fs
 have h4:=ZkF z.sn
 have h5:=h.op
 have h6:=h.ar
 exact Zvq (Zi1 (by omega) (by omega)) (Zi1 (by omega) (by omega)) (Zi1 (by omega) (by omega)) (Zi1 (by omega) (by omega))
theorem Znu(a:Nq):∀(l:List Nq) (z:Nq),idxN z l=none->idxN a (l++[z])=if a=z then some l.length else idxN a l
 | [], z, _ => by
   by_cases h:z=a
   · subst h;simp[idxN]
   · simp[idxN,h,Ne.symm h]
 | y :: l, z, h => by
   unfold idxN at h
   by_cases e:y=z
   · rw[if_pos e]at h;cases h
   · rw[if_neg e]at h
     have h' : idxN z l = none := by cases hi : idxN z l with
       | none=>rfl
       | some i=>rw[hi]at h;cases h
     rw[List.cons_append,idxN,idxN,Znu a l z h']
     by_cases e2:y=a
     · subst e2;simp[e]
     · simp only[e2,if_false]
       by_cases e3:a=z
       · simp[e3]
       · simp[e3]
theorem Zfc{z:Nq}{i:Nat}(h:g.share=true)(hi:idxN z g.nodes=some i):addQ z g=(i,g):=by
 unfold addQ;rw[if_pos h,hi]
theorem Zfb{z:Nq}(h:g.share=true->idxN z g.nodes=none):addQ z g=(g.nodes.length,{ g with nodes:=g.nodes++[z],uses:=(Zg z).foldl bump (g.uses++[0]) }):=by
 unfold addQ
 cases hs:g.share with
 | false=>rfl
 | true=>rw[if_pos rfl,h hs]
theorem Zka{z:Nq} : ∀ {l:List Nq} {i:Nat},idxN z l=some i->i<l.length
 | [],i,h=>by cases h
 | y :: l, i, h => by
   unfold idxN at h
   by_cases e:y=z
   · rw[if_pos e]at h;injection h with h;subst h;simp
   · rw[if_neg e]at h
     cases hi:idxN z l with
     | none=>rw[hi]at h;cases h
     | some j=>rw[hi]at h;injection h with h;subst h;have:=Zka hi;simp;omega
theorem Zrq {u : List Nat} {m n : Nat} (h : ∀ j, u.getD j 0 <= m) : ∀ j, (bump u n).getD j 0 <= m + 1 := fun j => by
  unfold bump
  rw[Zet]
  have h1:=h j
  have h2:=h n
  split <;> omega
theorem ZjZ:∀(ts:List Nat) (u:List Nat) (m:Nat),(∀j,u.getD j 0<=m)->∀j,(ts.foldl bump u).getD j 0<=m+ts.length
 | [],u,m,h=>h
 | t :: ts, u, m, h => fun j => by
   have:=ZjZ ts (bump u t) (m+1) (Zrq h) j
   simp only[List.foldl_cons,List.length_cons]
   omega
theorem ZlY {u : List Nat} {m : Nat} (h : ∀ j, u.getD j 0 <= m) : ∀ j, (u ++ [0]).getD j 0 <= m := fun j => by
  rcases Nat.lt_or_ge j u.length with h1|h1
  · have:=h j
    simpa [List.getD_eq_getElem?_getD,List.getElem?_append_left h1] using this
  · rw[List.getD_eq_getElem?_getD,List.getElem?_append_right h1]
    rcases Nat.lt_or_ge (j - u.length) 1 with h2|h2
    · obtain h3:j - u.length=0:=by omega
      rw[h3];simp
    · simp[List.getElem?_eq_none (l:=[0]) h2]
theorem Zj0(ts u:List Nat):(ts.foldl bump u).length=u.length:=Zj2 (fun l x=>Zd3 l x) ts u
theorem NOk.snoc {l : List Nq} (h : NOk l) {z : Nq} (hz : NOne l.length z) : NOk (l ++ [z]) := fun i hi => by
  rcases Nat.lt_or_ge i l.length with h1|h1
  · rw[List.getElem_append_left h1];exact h i h1
  · obtain rfl:i=l.length:=by simp at hi;omega
    simpa using hz
theorem GI.added(h:GI w0 w X nv uv sv rv sl rl g){z:Nq}(hz:NOne g.nodes.length z)(hnew:g.share=true->idxN z g.nodes=none){f f':Nq->Option Int}(hf:g.share=true->∀x,f x=(idxN x g.nodes).map Int.ofNat)(hf1:f' z=some (g.nodes.length:Int))(hf2:∀y,y≠z->f' y=f y)(hj:GJ w0 w' X nv' uv' sv rv sl rl { g with nodes:=g.nodes++[z],uses:=(Zg z).foldl bump (g.uses++[0]) } (g.nodes.length+1) f' (g.sels.map ZM) (g.grps.map commas)) :
  GI w0 w' X nv' uv' sv rv sl rl (addQ z g).2:=by
 rw[Zfb hnew]
 refine⟨⟨f',by simpa using hj,fun hs y=>?_⟩,?_,h.nok.snoc hz,fun j=>?_⟩
 ·show f' y=(idxN y (g.nodes++[z])).map Int.ofNat
  rw[Znu y g.nodes z (hnew hs)]
  by_cases e:y=z
  ·subst e;rw[if_pos rfl,hf1];rfl
  ·rw[if_neg e,hf2 y e,hf hs]
 ·show((Zg z).foldl bump (g.uses++[0])).length=(g.nodes++[z]).length
  rw[Zj0,List.length_append,List.length_append,h.ulen];rfl
 ·have h1:=ZjZ (Zg z) (g.uses++[0]) (2*g.nodes.length) (ZlY h.ubd) j
  have h2:=Zhh z
  show((Zg z).foldl bump (g.uses++[0])).getD j 0<=2*(g.nodes++[z]).length
  rw[List.length_append]
  simp only[List.length_cons,List.length_nil]
  omega
end
end Go.Proofs.YtcdgkkfipdoeeaaGreatDoor
