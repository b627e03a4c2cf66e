/- Parts. -/
import Derived.Test.YtkodhpilkaihjaaGreatDoorF07
import Derived.Test.YtkodhpilkaihjaaGreatDoorF05
import Derived.Deep.LoopGhost
set_option maxRecDepth 100000
set_option maxHeartbeats 8000000
namespace Go.Proofs.YtkodhpilkaihjaaGreatDoor
open Go.RowKit LS
def Zed(f:FuncId)(args:Nat->List Value)(P:List Tok->Nat->Out Tr)(ok:List Tok->Prop):Prop:=∀(w:World) (R:RS) (k:Nat) (ts:List Tok) (deep:Nat),RK w R k ts->deep<=20->ok ts->
 Calls Tryz.prog f ⟨.pointer (some ⟨R.b,0,none⟩)::args deep⟩ w fun e w'=>∃(pv v:Value),e=.returned (.tuple #[pv,v])/\ZdR pv/\Hid (Res R (fun w' t=>Zd w' t pv) w' (P ts deep) v)/\w.grownBy w' (some R.b)
theorem Zn8 {rec : Nat -> List Tok -> Nat -> Out Tr} {m : Nat} (hp : Zed 68 (fun d => [.int .i64 0, .int .i64 (d + 1 : Nat)]) (rec 0) (fun ts => ts.length < m)) :
    Zed 186 (fun d=>[.int .i64 (d+1:Nat)]) (ZbU rec) (fun ts=>ts.length<=m):=by
  intro w R k ts deep h hd hts
  have H:Hid (RK w R k ts):=h
  have HD:Hid (deep<=20):=hd
  have HM:Hid (ts.length<=m):=hts
  clear h hd hts
  go_enter Tryz.func186,Tryz.ntmps186
  go_wp2_with fail
  refine(Zdv H.out ⟨#[40]⟩ (by decide) (by decide)).mono ?_
  rintro e w1 ⟨v,rfl,hres,hg⟩
  have HG1:Hid (w.grownBy w1 (some R.b)):=hg
  clear hg
  rcases Zep [40] ts with ⟨h1,htp⟩|⟨h1,htp⟩
  · obtain⟨rfl,⟨k1,hk1⟩,_⟩:=hres.good htp
    have HK1:Hid (RK w1 R k1 ts.tail):=hk1
    have HP1:Hid (ZbU rec ts deep=bnd (rec 0 ts.tail deep) fun a r=>bnd (Zp [41] r) fun _ r=>.ok (a,r)):=hid (by unfold ZbU;rw[htp];rfl)
    clear hres hk1 h1 htp
    go_wp2_with fail
    refine(hp w1 R k1 ts.tail deep HK1.out HD.out (by show ts.tail.length<m;have:=H.pos;have:=HM.out;rw[List.length_tail];omega)).mono ?_
    rintro e w2 ⟨pv,v,rfl,hif,hres,hg2⟩
    have HG2:Hid (w.grownBy w2 (some R.b)):=Zf HG1.out hg2
    clear hg2 HG1 HK1
    cases hrp:rec 0 ts.tail deep with
    | error er=>
      have HE:=hid (hres.err hrp)
      obtain⟨fa,rfl⟩:=HE.shape
      have HPE:Hid (ZbU rec ts deep=.error er):=hid (by rw[HP1.out,hrp];rfl)
      clear hres hrp
      go_wp2
      go_ret2
      exact⟨_,_,rfl,Or.inl rfl,by rw[HPE.out];exact HE,HG2.out⟩
    | ok pr=>
      obtain⟨t,r2⟩:=pr
      obtain⟨rfl,⟨k2,hk2⟩,hpv⟩:=hres.good hrp
      have HP2:Hid (ZbU rec ts deep=bnd (Zp [41] r2) fun _ r=>.ok (t,r)):=hid (by rw[HP1.out,hrp];rfl)
      have HK2:Hid (RK w2 R k2 r2):=hk2
      have HV2:Hid (Zd w2 t pv):=hpv
      clear hres hrp hk2 hpv HP1
      go_wp2_with fail
      refine(Zdv HK2.out ⟨#[41]⟩ (by decide) (by decide)).mono ?_
      rintro e w3 ⟨v,rfl,hres,hg3⟩
      have HG3:Hid (w.grownBy w3 (some R.b)):=Zf HG2.out hg3
      have HV3:Hid (Zd w3 t pv):=HV2.read HK2.out hg3
      have HIF:Hid (ZdR pv):=hif
      clear hg3 HG2 HV2 hif
      go_wp2
      go_ret2
      refine⟨_,_,rfl,HIF.out,?_,HG3.out⟩
      rw[HP2.out]
      rcases Zep [41] r2 with ⟨_,htp⟩|⟨_,htp⟩
      · obtain⟨h1,h2,_⟩:=hres.good htp
        rw[htp]
        exact⟨h1,h2,HV3.out⟩
      · have:=hres.err htp
        rw[htp]
        exact this
  · have HPE:Hid (ZbU rec ts deep=.error (2,(LS.hd ts).at_)):=hid (by unfold ZbU;rw[htp];rfl)
    have HE:=hid (hres.err htp)
    obtain⟨fa,rfl⟩:=HE.shape
    clear hres htp h1
    go_wp2
    go_ret2
    exact⟨_,_,rfl,Or.inl rfl,by rw[HPE.out];exact HE,HG1.out⟩
theorem ZkQ (rec : Nat -> List Tok -> Nat -> Out Tr) (g : Nat) (ts : List Tok) (deep : Nat) : Zcw rec g ts deep = bnd (Zp wBy ts) fun _ r => bnd (bnd (Zp [40] r) fun _ r => ZM (ZH 2) [41] (r.length + 1) [] r) fun ns r => bnd (ZbU rec r deep) fun a r => .ok (.node 0 0 ⟨5, g, 0, [], [], ns⟩ a .nil, r) := by
  unfold Zcw
  cases h1:Zp wBy ts with
  | error e=>rfl
  | ok p1=>
    obtain⟨a1,r1⟩:=p1
    simp only[bnd]
    cases h2:Zp [40] r1 with
    | error e=>rfl
    | ok p2=>rfl
theorem ZrJ {ts : List Tok} {ns : List (List UInt8)} {r : List Tok} (h : (bnd (Zp [40] ts) fun _ r => ZM (ZH 2) [41] (r.length + 1) [] r) = .ok (ns, r)) : r.length <= ts.length := by
  have hl:∀(n:Nat) (acc:List (List UInt8)) (ts:List Tok) (z:List (List UInt8)×List Tok),ZM (ZH 2) [41] n acc ts=.ok z->z.2.length<=ts.length:=by
    intro n
    induction n with
    | zero=>intro acc ts z h;cases h
    | succ n ih=>
      intro acc ts z h
      by_cases hc:isT [41] (hd ts)=true
      · rw[ZiE hc]at h;cases h;simp
      · have hc':isT [41] (hd ts)=false:=Bool.eq_false_iff.2 hc
        by_cases ha:acc=[]
        · subst ha
          rw[ZiF hc']at h
          cases hk:ZH 2 ts with
          | error e=>rw[hk]at h;cases h
          | ok p=>
            obtain⟨a,r⟩:=p
            rw[hk]at h
            have h1:=ih _ _ _ h
            have h2:=Zg4 hk
            subst h2
            simp at h1;omega
        · rw[ZiH hc' ha]at h
          rcases Zep [44] ts with ⟨_,htp⟩|⟨_,htp⟩
          · rw[htp]at h
            simp only[bnd]at h
            cases hk:ZH 2 ts.tail with
            | error e=>rw[hk]at h;cases h
            | ok p=>
              obtain⟨a,r⟩:=p
              rw[hk]at h
              have h1:=ih _ _ _ h
              have h2:=Zg4 hk
              subst h2
              simp at h1;omega
          · rw[htp]at h;cases h
  rcases Zep [40] ts with ⟨_,htp⟩|⟨_,htp⟩
  · rw[htp]at h
    have:=hl _ _ _ _ h
    simp at this;omega
  · rw[htp]at h;cases h
theorem ZpK {rec : Nat -> List Tok -> Nat -> Out Tr} {m : Nat} (hp : Zed 186 (fun d => [.int .i64 (d + 1 : Nat)]) (ZbU rec) (fun ts => ts.length <= m)) (wd : ByteArray) (g : Nat) (hwd : bl wd = Zbp.getD g []) :
    Zed 188 (fun d=>[.string wd,.int .i64 (d+1:Nat)]) (Zcw rec g) (fun ts=>ts.length<=m):=by
  intro w R k ts deep h hd hts
  have H:Hid (RK w R k ts):=h
  have HWD:Hid (bl wd=Zbp.getD g []):=hwd
  have HD:Hid (deep<=20):=hd
  have HM:Hid (ts.length<=m):=hts
  clear h hd hts hwd
  go_enter Tryz.func188,Tryz.ntmps188
  go_wp2_with fail
  refine(Zvb H.out ⟨#[98,121]⟩ (by decide) (by decide)).mono ?_
  rintro e w1 ⟨v,rfl,hres,hg⟩
  have HG1:Hid (w.grownBy w1 (some R.b)):=hg
  clear hg
  rcases Zep wBy ts with ⟨h1,htp⟩|⟨h1,htp⟩
  · obtain⟨rfl,⟨k1,hk1⟩,_⟩:=hres.good htp
    have HK1:Hid (RK w1 R k1 ts.tail):=hk1
    have HP1:Hid (Zcw rec g ts deep=bnd (bnd (Zp [40] ts.tail) fun _ r=>ZM (ZH 2) [41] (r.length+1) [] r) fun ns r=>bnd (ZbU rec r deep) fun a r=>.ok (.node 0 0 ⟨5,g,0,[],[],ns⟩ a .nil,r)):=hid (by rw[ZkQ,htp];rfl)
    clear hres hk1 h1 htp
    go_wp2_with fail
    refine(ZrK HK1.out ⟨#[40]⟩ ⟨#[41]⟩ (by decide) (by decide)).mono ?_
    rintro e w2 ⟨la,ln,lc,v,rfl,hres,hg2⟩
    have HG2:Hid (w.grownBy w2 (some R.b)):=Zf HG1.out hg2
    clear hg2 HG1 HK1
    cases hlp:(bnd (Zp [40] ts.tail) fun _ r=>ZM (ZH 2) [41] (r.length+1) [] r)with
    | error er=>
      have HE:=hid (hres.err hlp)
      obtain⟨fa,rfl⟩:=HE.shape
      have HPE:Hid (Zcw rec g ts deep=.error er):=hid (by rw[HP1.out,hlp];rfl)
      clear hres hlp
      go_wp2
      go_ret2
      exact⟨_,_,rfl,Or.inl rfl,by rw[HPE.out];exact HE,HG2.out⟩
    | ok pr=>
      obtain⟨ns,r2⟩:=pr
      obtain⟨rfl,⟨k2,hk2⟩,hns⟩:=hres.good hlp
      have HP2:Hid (Zcw rec g ts deep=bnd (ZbU rec r2 deep) fun a r=>.ok (.node 0 0 ⟨5,g,0,[],[],ns⟩ a .nil,r)):=hid (by rw[HP1.out,hlp];rfl)
      have HK2:Hid (RK w2 R k2 r2):=hk2
      have HN2:Hid (ZbP w2 (.slice la ln lc) ns):=hns
      have HL2:Hid (r2.length<=m):=hid (by have:=ZrJ hlp;have:=HM.out;rw[List.length_tail]at *;omega)
      clear hres hlp hk2 hns HP1
      go_wp2_with fail
      refine(hp w2 R k2 r2 deep HK2.out HD.out HL2.out).mono ?_
      rintro e w3 ⟨pv,v,rfl,hif,hres,hg3⟩
      have HG3:Hid (w.grownBy w3 (some R.b)):=Zf HG2.out hg3
      have HN3:Hid (ZbP w3 (.slice la ln lc) ns):=HN2.read HK2.out hg3
      clear hg3 HG2 HN2
      rcases hif with rfl|⟨ty,u,rfl⟩
      all_goals
        go_wp2
        go_ret2
        refine⟨_,_,rfl,Or.inr ⟨_,_,rfl⟩,?_,HG3.out⟩
        rw[HP2.out]
        cases hwp:ZbU rec r2 deep with
        | error er=>exact hres.err hwp
        | ok pr=>
          obtain⟨t,r3⟩:=pr
          obtain⟨h1,h2,h3⟩:=hres.good hwp
          exact⟨h1,h2,Or.inr (Or.inr (Or.inr (Or.inr (Or.inl ⟨rfl,wd,la,ln,lc,_,rfl,HWD.out,HN3.out,h3⟩))))⟩
  · have HPE:Hid (Zcw rec g ts deep=.error (2,(LS.hd ts).at_)):=hid (by rw[ZkQ,htp];rfl)
    have HE:=hid (hres.err htp)
    obtain⟨fa,rfl⟩:=HE.shape
    clear hres htp h1
    go_wp2
    go_ret2
    exact⟨_,_,rfl,Or.inl rfl,by rw[HPE.out];exact HE,HG1.out⟩
theorem Zis{w:List UInt8} : ∀ {l:List (List UInt8)} {g:Nat},idx w l=some g->l.getD g []=w
 | [],_,h=>by cases h
 | x :: l, g, h => by
   unfold idx at h
   by_cases hx:x=w
   · rw[if_pos hx]at h
     injection h with h
     subst h;exact hx
   · rw[if_neg hx]at h
     cases hi:idx w l with
     | none=>rw[hi]at h;cases h
     | some j=>
       rw[hi]at h
       injection h with h
       subst h
       exact Zis (l:=l) hi
theorem ZnW{p:PTok}{t:Tok}(h:ZcY p t)(hw:Zc6 t)(hk:t.kind<=5):ZfP p=ZfC t:=by
 have m1:=Zdr h hw hk (s:=⟨#[45]⟩) (by decide) (by decide)
 have m2:=Zdr h hw hk (s:=⟨#[40]⟩) (by decide) (by decide)
 have hx:p.tx.toList=t.txt:=by rw[Zba];exact h.2.2.1
 unfold ZfP ZfC
 have hp:=Zen hk
 have h1:=h.1
 by_cases k1:t.kind=1
 ·have e:((p.kd:Int) == 0)=true:=by rw[h1,hp.2.2.2.1.2 k1];rfl
  rw[e,k1];simp
 ·have e:((p.kd:Int) == 0)=false:=by
   rw[beq_eq_false_iff_ne];intro e
   exact k1 (hp.2.2.2.1.1 (by omega))
  rw[e,beq_eq_false_iff_ne.2 k1]
  by_cases k2:t.kind=2
  ·have e2:((p.kd:Int) == 1)=true:=by rw[h1,hp.2.1.2 k2];rfl
   have z1:isT [45] t=false:=by rw[<-show ZI p ⟨#[45]⟩=isT [45] t from m1];unfold ZI;rw[h1,hp.2.1.2 k2];rfl
   have z2:isT [40] t=false:=by rw[<-show ZI p ⟨#[40]⟩=isT [40] t from m2];unfold ZI;rw[h1,hp.2.1.2 k2];rfl
   rw[e2,z1,z2,k2,hx]
   unfold isT
   rw[k2]
   simp[wOr,wBy]
  ·have e2:((p.kd:Int) == 1)=false:=by
    rw[beq_eq_false_iff_ne];intro e
    exact k2 (hp.2.1.1 (by omega))
   rw[e2,beq_eq_false_iff_ne.2 k2,show ZI p ⟨#[45]⟩=isT [45] t from m1,show ZI p ⟨#[40]⟩=isT [40] t from m2]
   simp
theorem Zp3{rec:Nat->List Tok->Nat->Out Tr}{ts:List Tok}{d:Nat}(h:(hd ts).kind=1):Zce rec ts d=.ok (Zcz ⟨0,0,numV (hd ts).txt,[],[],[]⟩,ts.tail):=if_pos h
theorem Zp2 {rec : Nat -> List Tok -> Nat -> Out Tr} {ts : List Tok} {d : Nat} (h : ¬ (hd ts).kind = 1) (h2 : isT [45] (hd ts) = true) : Zce rec ts d = bnd (rec 3 ts.tail d) fun a r => .ok (.node 0 0 (nd0 3 0) a .nil, r) := by
  unfold Zce;rw[if_neg h,if_pos h2]
theorem Zp6{rec:Nat->List Tok->Nat->Out Tr}{ts:List Tok}{d:Nat}(h:¬(hd ts).kind=1)(h2:¬isT [45] (hd ts)=true)(h3:isT [40] (hd ts)=true):Zce rec ts d=ZbU rec ts d:=by
 unfold Zce;rw[if_neg h,if_neg h2,if_pos h3]
theorem Zp0{rec:Nat->List Tok->Nat->Out Tr}{ts:List Tok}{d g:Nat}(h:¬(hd ts).kind=1)(h2:¬isT [45] (hd ts)=true)(h3:¬isT [40] (hd ts)=true)(h4:idx (hd ts).txt Zbp=some g):Zce rec ts d=Zcw rec g ts.tail d:=by
 unfold Zce;rw[if_neg h,if_neg h2,if_neg h3,h4]
theorem Zp5{rec:Nat->List Tok->Nat->Out Tr}{ts:List Tok}{d o:Nat}(h:¬(hd ts).kind=1)(h2:¬isT [45] (hd ts)=true)(h3:¬isT [40] (hd ts)=true)(h4:idx (hd ts).txt Zbp=none)(h5:idx (hd ts).txt ZbF=some o):Zce rec ts d=winP o ts.tail:=by
 unfold Zce;rw[if_neg h,if_neg h2,if_neg h3,h4];simp only;rw[h5]
theorem Zp4 {rec : Nat -> List Tok -> Nat -> Out Tr} {ts : List Tok} {d : Nat} (h : ¬ (hd ts).kind = 1) (h2 : ¬ isT [45] (hd ts) = true) (h3 : ¬ isT [40] (hd ts) = true) (h4 : idx (hd ts).txt Zbp = none) (h5 : idx (hd ts).txt ZbF = none) : Zce rec ts d = bnd (selP ts) fun p r => .ok (Zcz p, r) := by
  unfold Zce;rw[if_neg h,if_neg h2,if_neg h3,h4];simp only;rw[h5]
theorem ZuZ{t:Tok}(h:ZfC t=true):¬(t.kind=0∨t.kind=5):=by
 rintro(h0|h0)
 all_goals
  unfold ZfC isT at h
  rw[h0]at h
  simp at h
theorem Zpc{rec:Nat->List Tok->Nat->Out Tr}{m:Nat}
  (hfa:Zed 123 (fun d=>[.int .i64 (d+1:Nat)]) (rec 3) (fun ts=>ts.length<m))
  (hbr:Zed 186 (fun d=>[.int .i64 (d+1:Nat)]) (ZbU rec) (fun ts=>ts.length<=m)) :
  Zed 123 (fun d=>[.int .i64 (d+1:Nat)]) (Zcj rec) (fun ts=>ts.length<=m):=by
 intro w R k ts deep h hdp hts
 have H:Hid (RK w R k ts):=h
 have HD:Hid (deep<=20):=hdp
 have HM:Hid (ts.length<=m):=hts
 have hbl:R.b<w.heap.size:=(Array.getElem?_eq_some_iff.1 h.rd.cells).1
 clear h hts
 go_enter Tryz.func123,Tryz.ntmps123
 go_wp2_with fail
 refine(ZdO H.out).mono ?_
 rintro e w1 ⟨⟨kd,at_,tx,tv⟩,rfl,ht,hb1⟩
 have HG1:Hid (w.grownBy w1 (some R.b)):=Zu hb1
 have HK1:Hid (RK w1 R k ts):=H.below hb1
 clear hb1
 go_upto_region 2 with fail
 refine ZK fun W2 hW2=>?_
 have hb2:Below w1.heap.size w1 W2:=by rw[hW2];exact Zbal
 have HT2:Hid (BAt W2 w1.heap.size [.int .i64 kd,.int .i64 at_,.string tx,.int .i64 tv] 167):=hid (by rw[hW2];exact Go.Deep.blk_alloc_new _ _)
 have HG2:Hid (w.grownBy W2 (some R.b)):=Zf HG1.out (Zu hb2)
 have HK2:Hid (RK W2 R k ts):=HK1.below hb2
 have hz1:R.b<w1.heap.size:=by have:=HG1.size;omega
 have HWF:=hid HK2.wf.head
 clear hW2 hb2 HG1 HK1
 have t0:=HT2.cell 0
 have t1:=HT2.cell 1
 have t2:=HT2.cell 2
 have t3:=HT2.cell 3
 simp only[Zget]at t0 t1 t2 t3
 go_wp2_with fail
 refine(ZnV ⟨kd,at_,tx,tv⟩ W2).mono ?_
 rintro e w3 ⟨rfl,hb3⟩
 rw[ZnW ht.out HWF.1 HWF.2.2]
 have HT3:=hid (HT2.below hb3)
 have HG3:Hid (w.grownBy w3 (some R.b)):=Zf HG2.out (Zu hb3)
 have HK3:Hid (RK w3 R k ts):=HK2.below hb3
 clear hb3 HT2 HG2 HK2 t0 t1 t2 t3
 cases hst:ZfC (LS.hd ts)
 ·have HPE:Hid (Zcj rec ts deep=.error (2,(LS.hd ts).at_)):=hid (by unfold Zcj;rw[if_neg (by rw[hst];decide)])
  clear hst
  go_wp2_with fail
  refine(Zey HK3.out).mono ?_
  rintro e wE ⟨v,rfl,HE,hbE⟩
  obtain⟨fa,rfl⟩:=HE.shape
  have HGE:Hid (w.grownBy wE (some R.b)):=Zf HG3.out (Zu hbE)
  clear hbE
  go_wp2
  go_ret2
  exact⟨_,_,rfl,Or.inl rfl,by rw[HPE.out];exact HE,HGE.out⟩
 ·have HLV:Hid (¬((LS.hd ts).kind=0∨(LS.hd ts).kind=5)):=ZuZ hst
  by_cases hd20:deep=20
  ·have HPE:Hid (Zcj rec ts deep=.error (3,(LS.hd ts).at_)):=hid (by unfold Zcj;rw[if_pos hst,if_pos hd20])
   subst hd20
   have t1:=HT3.cell 1
   simp only[Zget]at t1
   have hdg:=HK3.dp
   clear hst
   go_wp2_with fail
   refine(Zh0 _ _ _).mono ?_
   rintro e wE ⟨rfl,hwE⟩
   have HE:Hid (Z6 wE R (3,(LS.hd ts).at_) (.iface 115 (.pointer (some ⟨w3.heap.size,0,none⟩)))):=hid (Or.inr ⟨rfl,w3.heap.size,rfl,by rw[hwE];refine(Go.Deep.blk_alloc_new _ _).trans ?_;rw[show(at_:Int)=((LS.hd ts).at_:Int) from congrArg _ ht.2.1]⟩)
   have HGE:Hid (w.grownBy wE (some R.b)):=hid (by rw[hwE];exact ZbE HG3.out _)
   clear hwE
   go_wp2
   go_ret2
   exact⟨_,_,rfl,Or.inl rfl,by rw[HPE.out];exact HE,HGE.out⟩
  ·have hd19:deep<=19:=by omega
   have HPF:Hid (Zcj rec ts deep=Zce rec ts (deep+1)):=hid (by unfold Zcj;rw[if_pos hst,if_neg hd20])
   obtain⟨rc0,rc1,rfz,rcx⟩:=HK3.rd.all
   have hlt:=HK3.lt
   have hln:=HK3.len
   clear rcx hst hd20
   have t0:=HT3.cell 0
   have t1:=HT3.cell 1
   have t2:=HT3.cell 2
   have t3:=HT3.cell 3
   simp only[Zget]at t0 t1 t2 t3
   by_cases hk1:(LS.hd ts).kind=1
   ·have hkd:kd=0:=by have:=ht.1;rw[hk1]at this;exact this
    subst hkd
    have HTV:Hid ((tv:Int)=numV (LS.hd ts).txt):=ht.2.2.2 hk1
    have HPI:Hid (Zcj rec ts deep=.ok (Zcz ⟨0,0,numV (LS.hd ts).txt,[],[],[]⟩,ts.tail)):=hid (by rw[HPF.out,Zp3 hk1])
    clear hk1
    go_upto_region 8 with fail
    refine ZK fun W8 hW8=>?_
    have HK8:Hid (RK W8 R (k+1) ts.tail):=hid (by rw[hW8];exact HK3.step HLV.out)
    have HG8:Hid (w.grownBy W8 (some R.b)):=hid (by rw[hW8];exact Zo HG3.out (Or.inl rfl) _)
    have HT8:Hid (BAt W8 w1.heap.size [.int .i64 (0:Nat),.int .i64 at_,.string tx,.int .i64 tv] 167):=hid (by rw[hW8];exact HT3.other (by show w1.heap.size≠R.b;omega) _)
    clear hW8 rc0 rc1 rfz t0 t1 t2 t3
    have t3:=HT8.cell 3
    simp only[Zget]at t3
    go_wp2
    go_ret2
    exact⟨_,_,rfl,Or.inr ⟨_,_,rfl⟩,by rw[HPI.out];exact⟨rfl,⟨_,HK8.out⟩,Or.inl ⟨rfl,by rw[<-HTV.out];rfl⟩⟩,HG8.out⟩
   ·have hkd:((kd:Int) == 0)=false:=by
     rw[beq_eq_false_iff_ne];intro e
     exact hk1 ((Zen HWF.2.2).2.2.2.1.1 (by have:=ht.1;simp only at this;omega))
    have HK1N:Hid (¬(LS.hd ts).kind=1):=hk1
    clear hk1
    go_wp2_with fail
    refine(ZeS ht.out HWF.1 HWF.2.2 ⟨#[45]⟩ (by decide) (by decide) w3).mono ?_
    rintro e w4 ⟨rfl,hb4⟩
    have HT4:=hid (HT3.below hb4)
    have HG4:Hid (w.grownBy w4 (some R.b)):=Zf HG3.out (Zu hb4)
    have HK4:Hid (RK w4 R k ts):=HK3.below hb4
    clear hb4 HT3 HG3 HK3 t0 t1 t2 t3 rc0 rc1 rfz
    obtain⟨rc0,rc1,rfz,rcx⟩:=HK4.rd.all
    have t0:=HT4.cell 0
    have t1:=HT4.cell 1
    have t2:=HT4.cell 2
    have t3:=HT4.cell 3
    simp only[Zget]at t0 t1 t2 t3
    clear rcx
    by_cases hmn:isT [45] (LS.hd ts)=true
    ·rw[show isT (bl ⟨#[45]⟩) (LS.hd ts)=true from hmn]
     have HPI:Hid (Zcj rec ts deep=bnd (rec 3 ts.tail (deep+1)) fun a r=>.ok (.node 0 0 (nd0 3 0) a .nil,r)):=hid (by rw[HPF.out,Zp2 HK1N.out hmn])
     clear hmn
     go_upto_region 11 with fail
     refine ZK fun W8 hW8=>?_
     have HK8:Hid (RK W8 R (k+1) ts.tail):=hid (by rw[hW8];exact HK4.step HLV.out)
     have HG8:Hid (w.grownBy W8 (some R.b)):=hid (by rw[hW8];exact Zo HG4.out (Or.inl rfl) _)
     clear hW8 rc0 rc1 rfz t0 t1 t2 t3 HK4 HG4 HT4
     go_wp2_with fail
     refine(hfa W8 R (k+1) ts.tail (deep+1) HK8.out (by omega) (by show ts.tail.length<m;have:=H.pos;have:=HM.out;rw[List.length_tail];omega)).mono ?_
     rintro e w9 ⟨pv,v,rfl,hif,hres,hg9⟩
     have HG9:Hid (w.grownBy w9 (some R.b)):=Zf HG8.out hg9
     clear hg9
     rcases hif with rfl|⟨ty,u,rfl⟩
     all_goals
      go_wp2
      go_ret2
      refine⟨_,_,rfl,Or.inr ⟨_,_,rfl⟩,?_,HG9.out⟩
      rw[HPI.out]
      cases hrp:rec 3 ts.tail (deep+1)with
      | error er=>exact hres.err hrp
      | ok pr=>
       obtain⟨t,r3⟩:=pr
       obtain⟨h1,h2,h3⟩:=hres.good hrp
       exact⟨h1,h2,Or.inr (Or.inr (Or.inr (Or.inl ⟨rfl,_,rfl,h3⟩)))⟩
    ·rw[show isT (bl ⟨#[45]⟩) (LS.hd ts)=false from Bool.eq_false_iff.2 hmn]
     have HMN:Hid (¬isT [45] (LS.hd ts)=true):=hmn
     clear hmn
     go_wp2_with fail
     refine(ZeS ht.out HWF.1 HWF.2.2 ⟨#[40]⟩ (by decide) (by decide) w4).mono ?_
     rintro e w5 ⟨rfl,hb5⟩
     have HT5:=hid (HT4.below hb5)
     have HG5:Hid (w.grownBy w5 (some R.b)):=Zf HG4.out (Zu hb5)
     have HK5:Hid (RK w5 R k ts):=HK4.below hb5
     clear hb5 HT4 HG4 HK4 t0 t1 t2 t3 rc0 rc1 rfz
     obtain⟨rc0,rc1,rfz,rcx⟩:=HK5.rd.all
     have t2:=HT5.cell 2
     simp only[Zget]at t2
     clear rcx
     by_cases hop:isT [40] (LS.hd ts)=true
     ·rw[show isT (bl ⟨#[40]⟩) (LS.hd ts)=true from hop]
      have HPI:Hid (Zcj rec ts deep=ZbU rec ts (deep+1)):=hid (by rw[HPF.out,Zp6 HK1N.out HMN.out hop])
      clear hop
      go_wp2_with fail
      refine(hbr w5 R k ts (deep+1) HK5.out (by omega) HM.out).mono ?_
      rintro e w9 ⟨pv,v,rfl,hif,hres,hg9⟩
      have HG9:Hid (w.grownBy w9 (some R.b)):=Zf HG5.out hg9
      have HIF:Hid (ZdR pv):=hif
      clear hg9 hif
      go_wp2
      go_ret2
      exact⟨_,_,rfl,HIF.out,by rw[HPI.out];exact hres,HG9.out⟩
     ·rw[show isT (bl ⟨#[40]⟩) (LS.hd ts)=false from Bool.eq_false_iff.2 hop]
      have HOPN:Hid (¬isT [40] (LS.hd ts)=true):=hop
      have HTX:Hid (bl tx=(LS.hd ts).txt):=ht.2.2.1
      clear hop
      go_wp2_with fail
      refine(ZkY tx _).mono ?_
      rintro e wq ⟨rfl,rfl⟩
      rw[HTX.out]
      cases hgi:idx (LS.hd ts).txt Zbp with
      | some g=>
       have HPI:Hid (Zcj rec ts deep=Zcw rec g ts.tail (deep+1)):=hid (by rw[HPF.out,Zp0 HK1N.out HMN.out HOPN.out hgi])
       have HWD:Hid (bl tx=Zbp.getD g []):=hid (by rw[Zis hgi,HTX.out])
       rw[show(some g).isSome=true from rfl]
       clear hgi
       go_upto_region 17 with fail
       refine ZK fun W8 hW8=>?_
       have HK8:Hid (RK W8 R (k+1) ts.tail):=hid (by rw[hW8];exact HK5.step HLV.out)
       have HG8:Hid (w.grownBy W8 (some R.b)):=hid (by rw[hW8];exact Zo HG5.out (Or.inl rfl) _)
       have HT8:Hid (BAt W8 w1.heap.size [.int .i64 kd,.int .i64 at_,.string tx,.int .i64 tv] 167):=hid (by rw[hW8];exact HT5.other (by show w1.heap.size≠R.b;omega) _)
       clear hW8 rc0 rc1 rfz t2 HK5 HG5 HT5
       have t2:=HT8.cell 2
       simp only[Zget]at t2
       go_wp2_with fail
       refine(ZpK hbr tx g HWD.out W8 R (k+1) ts.tail (deep+1) HK8.out (by omega) (by show ts.tail.length<=m;have:=HM.out;rw[List.length_tail];omega)).mono ?_
       rintro e w9 ⟨pv,v,rfl,hif,hres,hg9⟩
       have HG9:Hid (w.grownBy w9 (some R.b)):=Zf HG8.out hg9
       have HIF:Hid (ZdR pv):=hif
       clear hg9 hif
       go_wp2
       go_ret2
       exact⟨_,_,rfl,HIF.out,by rw[HPI.out];exact hres,HG9.out⟩
      | none=>
       rw[show(none:Option Nat).isSome=false from rfl]
       have HGN:Hid (idx (LS.hd ts).txt Zbp=none):=hgi
       clear hgi
       go_wp2_with fail
       refine(Zk0 tx _).mono ?_
       rintro e wq ⟨rfl,rfl⟩
       rw[HTX.out]
       cases hoi:idx (LS.hd ts).txt ZbF with
       | some o=>
        have HPI:Hid (Zcj rec ts deep=winP o ts.tail):=hid (by rw[HPF.out,Zp5 HK1N.out HMN.out HOPN.out HGN.out hoi])
        have HWD:Hid (bl tx=ZbF.getD o []):=hid (by rw[Zis hoi,HTX.out])
        rw[show(some o).isSome=true from rfl]
        clear hoi
        go_upto_region 20 with fail
        refine ZK fun W8 hW8=>?_
        have HK8:Hid (RK W8 R (k+1) ts.tail):=hid (by rw[hW8];exact HK5.step HLV.out)
        have HG8:Hid (w.grownBy W8 (some R.b)):=hid (by rw[hW8];exact Zo HG5.out (Or.inl rfl) _)
        have HT8:Hid (BAt W8 w1.heap.size [.int .i64 kd,.int .i64 at_,.string tx,.int .i64 tv] 167):=hid (by rw[hW8];exact HT5.other (by show w1.heap.size≠R.b;omega) _)
        clear hW8 rc0 rc1 rfz t2 HK5 HG5 HT5
        have t2:=HT8.cell 2
        simp only[Zget]at t2
        go_wp2_with fail
        refine(Zv4 HK8.out tx o HWD.out).mono ?_
        rintro e w9 ⟨pv,v,rfl,hif,hres,hg9⟩
        have HG9:Hid (w.grownBy w9 (some R.b)):=Zf HG8.out hg9
        have HIF:Hid (ZdR pv):=hif
        clear hg9 hif
        go_wp2
        go_ret2
        exact⟨_,_,rfl,HIF.out,by rw[HPI.out];exact hres,HG9.out⟩
       | none=>
        rw[show(none:Option Nat).isSome=false from rfl]
        have HPI:Hid (Zcj rec ts deep=bnd (selP ts) fun p r=>.ok (Zcz p,r)):=hid (by rw[HPF.out,Zp4 HK1N.out HMN.out HOPN.out HGN.out hoi])
        clear hoi
        go_wp2_with fail
        refine(Zmz HK5.out).mono ?_
        rintro e w9 ⟨nm,la,ln,lc,v,rfl,hres,hg9⟩
        have HG9:Hid (w.grownBy w9 (some R.b)):=Zf HG5.out hg9
        clear hg9
        go_wp2
        go_ret2
        refine⟨_,_,rfl,Or.inr ⟨_,_,rfl⟩,?_,HG9.out⟩
        rw[HPI.out]
        cases hsp:selP ts with
        | error er=>exact hres.err hsp
        | ok pr=>
         obtain⟨nd,r3⟩:=pr
         obtain⟨h1,h2,h3,h4⟩:=hres.good hsp
         exact⟨h1,h2,Or.inr (Or.inl ⟨(ZhE hsp).2.1,nm,la,ln,lc,rfl,h3,h4⟩)⟩
theorem Zsy{p:PTok}{u:Tok}(h:ZcY p u)(hw:Zc6 u)(hk:u.kind<=5){lv:Nat}(hl:lv<=2){kd op:Nat}(ho:LS.opAt lv u=some (kd,op)):∃j,opOf p=some j/\j<=4/\ZcS j=lv/\opNo (nd0 kd op)=j/\(kd=4∨kd=6)/\¬(u.kind=0∨u.kind=5):=by
 have m0:ZcV p ⟨#[111,114]⟩=isT wOr u:=Zjv h hw hk (s:=⟨#[111,114]⟩) (by decide) (by decide)
 have m1:ZI p ⟨#[43]⟩=isT [43] u:=Zdr h hw hk (s:=⟨#[43]⟩) (by decide) (by decide)
 have m2:ZI p ⟨#[45]⟩=isT [45] u:=Zdr h hw hk (s:=⟨#[45]⟩) (by decide) (by decide)
 have m3:ZI p ⟨#[42]⟩=isT [42] u:=Zdr h hw hk (s:=⟨#[42]⟩) (by decide) (by decide)
 have m4:ZI p ⟨#[47]⟩=isT [47] u:=Zdr h hw hk (s:=⟨#[47]⟩) (by decide) (by decide)
 unfold opOf
 rw[m0,m1,m2,m3,m4]
 unfold LS.opAt at ho
 rcases(by omega:lv=0∨lv=1∨lv=2)with rfl|rfl|rfl
 ·by_cases a:isT wOr u=true
  ·rw[if_pos rfl,if_pos a]at ho
   injection ho with ho;injection ho with h1 h2;subst h1 h2
   rw[if_pos a]
   exact⟨0,rfl,by decide,rfl,rfl,Or.inr rfl,ZdD a⟩
  ·rw[if_pos rfl,if_neg a]at ho;cases ho
 ·rw[if_neg (by decide),if_pos rfl]at ho
  by_cases a:isT [43] u=true
  ·rw[if_pos a]at ho
   injection ho with ho;injection ho with h1 h2;subst h1 h2
   rw[Zei a (u:=wOr) (by decide),if_neg (by decide),if_pos a]
   exact⟨1,rfl,by decide,rfl,rfl,Or.inl rfl,ZdD a⟩
  ·rw[if_neg a]at ho
   by_cases b:isT [45] u=true
   ·rw[if_pos b]at ho
    injection ho with ho;injection ho with h1 h2;subst h1 h2
    rw[Zei b (u:=wOr) (by decide),if_neg (by decide),if_neg a,if_pos b]
    exact⟨2,rfl,by decide,rfl,rfl,Or.inl rfl,ZdD b⟩
   ·rw[if_neg b]at ho;cases ho
 ·rw[if_neg (by decide),if_neg (by decide)]at ho
  by_cases a:isT [42] u=true
  ·rw[if_pos a]at ho
   injection ho with ho;injection ho with h1 h2;subst h1 h2
   rw[Zei a (u:=wOr) (by decide),if_neg (by decide),Zei a (u:=[43]) (by decide),if_neg (by decide),Zei a (u:=[45]) (by decide),if_neg (by decide),if_pos a]
   exact⟨3,rfl,by decide,rfl,rfl,Or.inl rfl,ZdD a⟩
  ·rw[if_neg a]at ho
   by_cases b:isT [47] u=true
   ·rw[if_pos b]at ho
    injection ho with ho;injection ho with h1 h2;subst h1 h2
    rw[Zei b (u:=wOr) (by decide),if_neg (by decide),Zei b (u:=[43]) (by decide),if_neg (by decide),Zei b (u:=[45]) (by decide),if_neg (by decide),if_neg a,if_pos b]
    exact⟨4,rfl,by decide,rfl,rfl,Or.inl rfl,ZdD b⟩
   ·rw[if_neg b]at ho;cases ho
theorem Zsx{p:PTok}{u:Tok}(h:ZcY p u)(hw:Zc6 u)(hk:u.kind<=5){lv:Nat}(hl:lv<=2)(ho:LS.opAt lv u=none):opOf p=none∨∃j,opOf p=some j/\j<=4/\ZcS j≠lv:=by
 have m0:ZcV p ⟨#[111,114]⟩=isT wOr u:=Zjv h hw hk (s:=⟨#[111,114]⟩) (by decide) (by decide)
 have m1:ZI p ⟨#[43]⟩=isT [43] u:=Zdr h hw hk (s:=⟨#[43]⟩) (by decide) (by decide)
 have m2:ZI p ⟨#[45]⟩=isT [45] u:=Zdr h hw hk (s:=⟨#[45]⟩) (by decide) (by decide)
 have m3:ZI p ⟨#[42]⟩=isT [42] u:=Zdr h hw hk (s:=⟨#[42]⟩) (by decide) (by decide)
 have m4:ZI p ⟨#[47]⟩=isT [47] u:=Zdr h hw hk (s:=⟨#[47]⟩) (by decide) (by decide)
 unfold opOf
 rw[m0,m1,m2,m3,m4]
 unfold LS.opAt at ho
 generalize isT wOr u=b0 at *
 generalize isT [43] u=b1 at *
 generalize isT [45] u=b2 at *
 generalize isT [42] u=b3 at *
 generalize isT [47] u=b4 at *
 rcases (by omega : lv = 0 ∨ lv = 1 ∨ lv = 2) with rfl | rfl | rfl <;> cases b0 <;> cases b1 <;> cases b2 <;> cases b3 <;> cases b4 <;> first
   | exact Or.inl rfl
   | exact Or.inr ⟨0,rfl,by decide,by decide⟩
   | exact Or.inr ⟨1,rfl,by decide,by decide⟩
   | exact Or.inr ⟨2,rfl,by decide,by decide⟩
   | exact Or.inr ⟨3,rfl,by decide,by decide⟩
   | exact Or.inr ⟨4,rfl,by decide,by decide⟩
   | cases ho
theorem ZsS {n lv : Nat} {ts : List Tok} {deep : Nat} (h : lv ≠ 3) : Zz (n + 1) false lv .nil ts deep = bnd (Zz n false (lv + 1) .nil ts deep) fun a r => Zz n true lv a r deep := by
  show(if lv=3 then _ else _)=_
  rw[if_neg h]
theorem ZsR {n : Nat} {ts : List Tok} {deep : Nat} : Zz (n + 1) false 3 .nil ts deep = Zcj (fun lv ts d => Zz n false lv .nil ts d) ts deep := by
  show(if 3=3 then _ else _)=_
  rw[if_pos rfl]
theorem ZsU{n lv:Nat}{a:Tr}{ts:List Tok}{deep:Nat}(h:LS.opAt lv (hd ts)=none):Zz (n+1) true lv a ts deep=.ok (a,ts):=by
 show(match LS.opAt lv (hd ts)with|none=>_|some p=>_)=_
 rw[h]
theorem ZsT {n lv : Nat} {a : Tr} {ts : List Tok} {deep : Nat} {p : Nat × Nat} (h : LS.opAt lv (hd ts) = some p) : Zz (n + 1) true lv a ts deep = bnd (Zz n false (lv + 1) .nil ts.tail deep) fun b r => Zz n true lv (.node 0 0 (nd0 p.1 p.2) a b) r deep := by
  show(match LS.opAt lv (hd ts)with|none=>_|some p=>_)=_
  rw[h]
def RP(lv n:Nat):Prop:=Zed 68 (fun d=>[.int .i64 lv,.int .i64 (d+1:Nat)]) (fun ts d=>Zz n false lv .nil ts d) (fun ts=>10*ts.length+5<=n+lv)
def RF(n:Nat):Prop:=Zed 123 (fun d=>[.int .i64 (d+1:Nat)]) (fun ts d=>Zz n false 3 .nil ts d) (fun ts=>10*ts.length+2<=n)
theorem ZsV{n:Nat}(hf:RF n):RP 3 n:=by
 intro w R k ts deep h hd hts
 have HC:Hid (Calls Tryz.prog 123 #[.pointer (some ⟨R.b,0,none⟩),.int .i64 (deep+1:Nat)] w _):=hf w R k ts deep h hd (by show 10*ts.length+2<=n;have h':10*ts.length+5<=n+3:=hts;omega)
 clear h hd hts hf
 go_enter Tryz.func68,Tryz.ntmps68
 go_wp2_with fail
 refine HC.mono ?_
 rintro e w1 ⟨pv,v,rfl,hif,hres,hg⟩
 have HIF:Hid (ZdR pv):=hif
 have HG:Hid (w.grownBy w1 (some R.b)):=hg
 clear hif hg
 go_wp2
 go_ret2
 exact⟨_,_,rfl,HIF.out,hres,HG.out⟩
theorem ZsW{n lv:Nat}(hlv:lv<=2)(hp:∀m,m<=n->RP (lv+1) m):RP lv (n+1):=by
 intro w R k ts deep h hd hts
 have H:Hid (RK w R k ts):=h
 have HD:Hid (deep<=20):=hd
 have hts':10*ts.length+5<=n+1+lv:=hts
 have hbl:R.b<w.heap.size:=(Array.getElem?_eq_some_iff.1 h.rd.cells).1
 have HC:Hid (∀m,m<=n->∀(w:World) (k:Nat) (ts:List Tok),RK w R k ts->10*ts.length+5<=m+(lv+1)->Calls Tryz.prog 68 #[.pointer (some ⟨R.b,0,none⟩),.int .i64 ((lv:Int)+1),.int .i64 ((deep:Int)+1)] w fun e w'=>∃(pv v:Value),e=.returned (.tuple #[pv,v])/\ZdR pv/\Hid (Res R (fun w' t=>Zd w' t pv) w' (Zz m false (lv+1) .nil ts deep) v)/\w.grownBy w' (some R.b)):=hid (fun m hm w k ts h1 h2=>hp m hm w R k ts deep h1 hd h2)
 have h3:((lv:Int) == 3)=false:=by rw[beq_eq_false_iff_ne];omega
 obtain⟨PR,hPR⟩:∃PR,PR=Zz (n+1) false lv .nil ts deep:=⟨_,rfl⟩
 have HPR:Hid (PR=bnd (Zz n false (lv+1) .nil ts deep) fun a r=>Zz n true lv a r deep):=hid (by rw[hPR,ZsS (by omega)])
 show Calls _ _ _ _ (fun e w'=>∃(pv v:Value),e=.returned (.tuple #[pv,v])/\ZdR pv/\Hid (Res R (fun w' t=>Zd w' t pv) w' (Zz (n+1) false lv .nil ts deep) v)/\w.grownBy w' (some R.b))
 rw[<-hPR]
 clear h hd hts hp hPR
 go_enter Tryz.func68,Tryz.ntmps68
 go_wp2_with fail
 refine(HC.out n (Nat.le_refl _) w k ts H.out (by omega)).mono ?_
 rintro e w1 ⟨pv,v,rfl,hif,hres,hg⟩
 have HG1:Hid (w.grownBy w1 (some R.b)):=hg
 clear hg
 cases hrp:Zz n false (lv+1) .nil ts deep with
 | error er=>
  have HE:=hid (hres.err hrp)
  obtain⟨fa,rfl⟩:=HE.shape
  have HPE:Hid (PR=.error er):=hid (by rw[HPR.out,hrp];rfl)
  clear hres hrp
  go_wp2
  go_ret2
  exact⟨_,_,rfl,Or.inl rfl,by rw[HPE.out];exact HE,HG1.out⟩
 | ok pr=>
  obtain⟨a0,r0⟩:=pr
  obtain⟨rfl,⟨k1,hk1⟩,hv⟩:=hres.good hrp
  have HK1:Hid (RK w1 R k1 r0):=hk1
  have HV1:Hid (Zd w1 a0 pv):=hv
  have HP1:Hid (Zz n true lv a0 r0 deep=PR):=hid (by rw[HPR.out,hrp];rfl)
  have hlen:r0.length+1<=ts.length:=Zfv n false (lv+1) .nil ts deep _ hrp
  clear hres hrp hk1 hv HPR hif
  go_wp2
  go_loopg [8] r0.length (fun g v8 wr=>∃(a:Tr) (r:List Tok) (k2 m:Nat),g=r.length/\Hid (Zd wr a v8)/\Hid (RK wr R k2 r)/\Hid (10*r.length+5<=m/\m<=n/\Zz m true lv a r deep=PR)/\Hid (w.grownBy wr (some R.b)))
  case atStart=>exact⟨a0,r0,k1,n,rfl,HV1,HK1,⟨by omega,Nat.le_refl _,HP1.out⟩,HG1⟩
  case round=>
   obtain⟨a,r,k2,m,hgr,HV,HK,HN,HG⟩:=hrel
   clear HV1 HK1 HP1 HG1
   obtain⟨m,rfl⟩:∃m',m=m'+1:=⟨m - 1,by have:=HN.1;omega⟩
   obtain⟨ty,u,hsh⟩:=Zd.shape HV.out
   subst hsh
   go_wp2_with fail
   refine(ZdO HK.out).mono ?_
   rintro e w2 ⟨⟨kd,at_,tx,tv⟩,rfl,ht,hb2⟩
   have HK2:Hid (RK w2 R k2 r):=HK.below hb2
   have HV2:Hid (Zd w2 a (.iface ty u)):=HV.below hb2
   have HG2:Hid (w.grownBy w2 (some R.b)):=Zf HG.out (Zu hb2)
   have HWF:=hid HK2.wf.head
   clear hb2 HK HV HG
   go_wp2_with fail
   refine(ZsA ⟨kd,at_,tx,tv⟩ _).mono ?_
   rintro e w3 ⟨rfl,hb3⟩
   have HK3:Hid (RK w3 R k2 r):=HK2.below hb3
   have HV3:Hid (Zd w3 a (.iface ty u)):=HV2.below hb3
   have HG3:Hid (w.grownBy w3 (some R.b)):=Zf HG2.out (Zu hb3)
   clear hb3 HK2 HV2 HG2
   cases hop:LS.opAt lv (LS.hd r)with
   | none=>
    have HPL:Hid (PR=.ok (a,r)):=hid (by rw[<-HN.2.2,ZsU hop])
    rcases Zsx ht.out HWF.1 HWF.2.2 hlv hop with ho|⟨j,ho,hj4,hrk⟩
    ·rw[ho]
     clear hop ho
     go_wp2
     go_ret2
     exact⟨_,_,rfl,Or.inr ⟨_,_,rfl⟩,by rw[HPL.out];exact⟨rfl,⟨_,HK3.out⟩,HV3.out⟩,HG3.out⟩
    ·rw[ho]
     have hr2:((ZcS j:Int) != lv)=true:=by rw[bne_iff_ne];omega
     rw[show(some j).getD 0=j from rfl,show(some j).isSome=true from rfl]
     clear hop ho
     go_wp2_with (go_at_call 125;refine(Zi3 j hj4 _).mono ?_;rintro e wq ⟨rfl,rfl⟩)
     go_ret2
     exact⟨_,_,rfl,Or.inr ⟨_,_,rfl⟩,by rw[HPL.out];exact⟨rfl,⟨_,HK3.out⟩,HV3.out⟩,HG3.out⟩
   | some p=>
    obtain⟨j,ho,hj4,hrk,hno,hk46,hdead⟩:=Zsy ht.out HWF.1 HWF.2.2 hlv hop
    have HPL:Hid ((bnd (Zz m false (lv+1) .nil r.tail deep) fun b r=>Zz m true lv (.node 0 0 (nd0 p.1 p.2) a b) r deep)=PR):=hid (by rw[<-HN.2.2,ZsT hop])
    have HNO:Hid (opNo (nd0 p.1 p.2)=j/\(p.1=4∨p.1=6)):=⟨hno,hk46⟩
    have HDE:Hid (¬((LS.hd r).kind=0∨(LS.hd r).kind=5)):=hdead
    have hr2:((ZcS j:Int) != lv)=false:=by rw[bne_eq_false_iff_eq];omega
    rw[ho,show(some j).getD 0=j from rfl,show(some j).isSome=true from rfl]
    obtain⟨rc0,rc1,rfz,rcx⟩:=HK3.rd.all
    have hlt:=HK3.lt
    have hln:=HK3.len
    have hm1:=HN.1
    have hm2:=HN.2.1
    clear hop ho hno hk46 hdead rcx
    go_upto_region 10 with (go_at_call 125;refine(Zi3 j hj4 _).mono ?_;rintro e wq ⟨rfl,rfl⟩)
    refine ZK fun W8 hW8=>?_
    have HK8:Hid (RK W8 R (k2+1) r.tail):=hid (by rw[hW8];exact HK3.step HDE.out)
    have HG8:Hid (w.grownBy W8 (some R.b)):=hid (by rw[hW8];exact Zo HG3.out (Or.inl rfl) _)
    have HV8:Hid (Zd W8 a (.iface ty u)):=hid (by rw[hW8];exact HV3.read HK3.out (Zo (Zbc _ _) (Or.inl rfl) _))
    have hpos:=HK3.pos
    have hpos8:=HK8.pos
    rw[List.length_tail]at hpos8
    clear hW8 rc0 rc1 rfz HK3 HG3 HV3
    go_wp2_with fail
    refine(HC.out m (by omega) W8 (k2+1) r.tail HK8.out (by rw[List.length_tail];omega)).mono ?_
    rintro e w9 ⟨pv,v,rfl,hif,hres,hg9⟩
    have HG9:Hid (w.grownBy w9 (some R.b)):=Zf HG8.out hg9
    have HV9:Hid (Zd w9 a (.iface ty u)):=HV8.read HK8.out hg9
    clear hg9 HG8 HV8
    cases hrp:Zz m false (lv+1) .nil r.tail deep with
    | error er=>
     have HE:=hid (hres.err hrp)
     obtain⟨fa,rfl⟩:=HE.shape
     have HPE:Hid (PR=.error er):=hid (by rw[<-HPL.out,hrp];rfl)
     clear hres hrp
     go_wp2
     go_ret2
     exact⟨_,_,rfl,Or.inl rfl,by rw[HPE.out];exact HE,HG9.out⟩
    | ok pr=>
     obtain⟨b,y⟩:=pr
     obtain⟨rfl,⟨k9,hk9⟩,hv9⟩:=hres.good hrp
     have HK9:Hid (RK w9 R k9 y):=hk9
     have HW9:Hid (Zd w9 b pv):=hv9
     have HP9:Hid (Zz m true lv (.node 0 0 (nd0 p.1 p.2) a b) y deep=PR):=hid (by rw[<-HPL.out,hrp];rfl)
     have hylen:=Zfv m false (lv+1) .nil r.tail deep _ hrp
     simp only[List.length_tail,Bool.false_eq_true,if_false]at hylen
     obtain⟨ty2,u2,hsh2⟩:=Zd.shape hv9
     subst hsh2
     have HV10:Hid (Zd w9 (.node 0 0 (nd0 p.1 p.2) a b) (.iface 268 (.agg #[.int .i64 j,.iface ty u,.iface ty2 u2]))):=hid (Or.inr (Or.inr (Or.inr (Or.inr (Or.inr ⟨HNO.2,_,_,by rw[HNO.1],HV9.out,HW9.out⟩)))))
     clear hres hrp hk9 hv9 hif HPL
     go_wp2
     go_roundg y.length
     case measure=>omega
     case rel=>exact⟨_,y,k9,m,rfl,HV10,HK9,⟨by omega,by omega,HP9.out⟩,HG9⟩
theorem ZjF:∀n,(∀lv,lv<=3->∀m,m<=n->RP lv m)/\(∀m,m<=n->RF m)
 | 0 => by
   constructor
   · intro lv hlv m hm w R k ts deep _ _ hts
     exact absurd (show 10*ts.length+5<=m+lv from hts) (by omega)
   · intro m hm w R k ts deep _ _ hts
     exact absurd (show 10*ts.length+2<=m from hts) (by omega)
 | n + 1 => by
   obtain⟨ih1,ih2⟩:=ZjF n
   have hf:RF (n+1):=by
     intro w R k ts deep h hd hts
     have hts':10*ts.length+2<=n+1:=hts
     show Calls _ _ _ _ (fun e w'=>∃(pv v:Value),e=.returned (.tuple #[pv,v])/\ZdR pv/\Hid (Res R (fun w' t=>Zd w' t pv) w' (Zz (n+1) false 3 .nil ts deep) v)/\w.grownBy w' (some R.b))
     rw[ZsR]
     refine Zpc (rec:=fun lv ts d=>Zz n false lv .nil ts d) (m:=ts.length) ?_ (Zn8 ?_) w R k ts deep h hd (Nat.le_refl _)
     · intro w R k ts2 deep h hd h2
       exact ih2 n (Nat.le_refl _) w R k ts2 deep h hd (by show 10*ts2.length+2<=n;have h3:ts2.length<ts.length:=h2;omega)
     · intro w R k ts2 deep h hd h2
       exact ih1 0 (by omega) n (Nat.le_refl _) w R k ts2 deep h hd (by show 10*ts2.length+5<=n+0;have h3:ts2.length<ts.length:=h2;omega)
   constructor
   · intro lv hlv m hm
     by_cases h0:m<=n
     · exact ih1 lv hlv m h0
     · obtain rfl:m=n+1:=by omega
       by_cases h3:lv=3
       · subst h3;exact ZsV hf
       · exact ZsW (by omega) (fun m hm=>ih1 (lv+1) (by omega) m hm)
   · intro m hm
     by_cases h0:m<=n
     · exact ih2 m h0
     · obtain rfl:m=n+1:=by omega
       exact hf
end Go.Proofs.YtkodhpilkaihjaaGreatDoor
