/- Parts. -/
import Derived.Test.YtkodhpilkaihjaaGreatDoorV14
import Derived.Test.YtkodhpilkaihjaaGreatDoorV08
import Derived.Deep.LoopGhost
namespace Go.Proofs.YtkodhpilkaihjaaGreatDoor
open Go.RowKit LS
def Reads(f:FuncId)(args:Nat→List Value)(P:List Tok→Nat→Out Tr)(ok:List Tok→Prop):Prop:=∀(w:World) (R:RS) (k:Nat) (ts:List Tok) (deep:Nat),RK w R k ts→deep≤20→ok ts→
 Calls Tryz.prog f ⟨.pointer (some ⟨R.b,0,none⟩)::args deep⟩ w fun e w'=>∃(pv v:Value),e=.returned (.tuple #[pv,v])∧IfaceV pv∧Hid (Res R (fun w' t=>PartV w' t pv) w' (P ts deep) v)∧w.grownBy w' (some R.b)
set_option maxRecDepth 100000 in
set_option maxHeartbeats 4000000 in
theorem bracketed_t {rec : Nat → List Tok → Nat → Out Tr} {m : Nat} (hp : Reads 68 (fun d => [.int .i64 0, .int .i64 (d + 1 : Nat)]) (rec 0) (fun ts => ts.length < m)) :
    Reads 186 (fun d=>[.int .i64 (d+1:Nat)]) (withinP rec) (fun ts=>ts.length≤m):=by
  intro w R k ts deep h hd hts
  have H:Hid (RK w R k ts):=h
  have HD:Hid (deep≤20):=hd
  have HM:Hid (ts.length≤m):=hts
  clear h hd hts
  go_enter Tryz.func186,Tryz.ntmps186
  go_wp2_with fail
  refine(takeMark_t H.out ⟨#[40]⟩ (by decide) (by decide)).mono ?_
  rintro e w1 ⟨v,rfl,hres,hg⟩
  have HG1:Hid (w.grownBy w1 (some R.b)):=hg
  clear hg
  rcases takeP_cases [40] ts with ⟨h1,htp⟩|⟨h1,htp⟩
  · obtain⟨rfl,⟨k1,hk1⟩,_⟩:=hres.out.good htp
    have HK1:Hid (RK w1 R k1 ts.tail):=hk1
    have HP1:Hid (withinP rec ts deep=bnd (rec 0 ts.tail deep) fun a r=>bnd (takeP [41] r) fun _ r=>.ok (a,r)):=hid (by unfold withinP;rw[htp];rfl)
    clear hres hk1 h1 htp
    go_wp2_with fail
    refine(hp w1 R k1 ts.tail deep HK1.out HD.out (by show ts.tail.length<m;have:=H.out.pos;have:=HM.out;rw[List.length_tail];omega)).mono ?_
    rintro e w2 ⟨pv,v,rfl,hif,hres,hg2⟩
    have HG2:Hid (w.grownBy w2 (some R.b)):=grown_trans HG1.out hg2
    clear hg2 HG1 HK1
    cases hrp:rec 0 ts.tail deep with
    | error er=>
      have HE:=hid (hres.out.err hrp)
      obtain⟨fa,rfl⟩:=HE.out.shape
      have HPE:Hid (withinP rec ts deep=.error er):=hid (by rw[HP1.out,hrp];rfl)
      clear hres hrp
      go_wp2
      go_ret2
      exact⟨_,_,rfl,Or.inl rfl,by rw[HPE.out];exact HE,HG2.out⟩
    | ok pr=>
      obtain⟨t,r2⟩:=pr
      obtain⟨rfl,⟨k2,hk2⟩,hpv⟩:=hres.out.good hrp
      have HP2:Hid (withinP rec ts deep=bnd (takeP [41] r2) fun _ r=>.ok (t,r)):=hid (by rw[HP1.out,hrp];rfl)
      have HK2:Hid (RK w2 R k2 r2):=hk2
      have HV2:Hid (PartV w2 t pv):=hpv
      clear hres hrp hk2 hpv HP1
      go_wp2_with fail
      refine(takeMark_t HK2.out ⟨#[41]⟩ (by decide) (by decide)).mono ?_
      rintro e w3 ⟨v,rfl,hres,hg3⟩
      have HG3:Hid (w.grownBy w3 (some R.b)):=grown_trans HG2.out hg3
      have HV3:Hid (PartV w3 t pv):=HV2.out.read HK2.out hg3
      have HIF:Hid (IfaceV pv):=hif
      clear hg3 HG2 HV2 hif
      go_wp2
      go_ret2
      refine⟨_,_,rfl,HIF.out,?_,HG3.out⟩
      rw[HP2.out]
      rcases takeP_cases [41] r2 with ⟨_,htp⟩|⟨_,htp⟩
      · obtain⟨h1,h2,_⟩:=hres.out.good htp
        rw[htp]
        exact⟨h1,h2,HV3.out⟩
      · have:=hres.out.err htp
        rw[htp]
        exact this
  · have HPE:Hid (withinP rec ts deep=.error (2,(LS.hd ts).at_)):=hid (by unfold withinP;rw[htp];rfl)
    have HE:=hid (hres.out.err htp)
    obtain⟨fa,rfl⟩:=HE.out.shape
    clear hres htp h1
    go_wp2
    go_ret2
    exact⟨_,_,rfl,Or.inl rfl,by rw[HPE.out];exact HE,HG1.out⟩
theorem groupP_via (rec : Nat → List Tok → Nat → Out Tr) (g : Nat) (ts : List Tok) (deep : Nat) : groupP rec g ts deep = bnd (takeP wBy ts) fun _ r => bnd (bnd (takeP [40] r) fun _ r => listP (kindP 2) [41] (r.length + 1) [] r) fun ns r => bnd (withinP rec r deep) fun a r => .ok (.node 0 0 ⟨5, g, 0, [], [], ns⟩ a .nil, r) := by
  unfold groupP
  cases h1:takeP wBy ts with
  | error e=>rfl
  | ok p1=>
    obtain⟨a1,r1⟩:=p1
    simp only[bnd]
    cases h2:takeP [40] r1 with
    | error e=>rfl
    | ok p2=>rfl
theorem listNames_len {ts : List Tok} {ns : List (List UInt8)} {r : List Tok} (h : (bnd (takeP [40] ts) fun _ r => listP (kindP 2) [41] (r.length + 1) [] r) = .ok (ns, r)) : r.length ≤ ts.length := by
  have hl:∀(n:Nat) (acc:List (List UInt8)) (ts:List Tok) (z:List (List UInt8)×List Tok),listP (kindP 2) [41] n acc ts=.ok z→z.2.length≤ts.length:=by
    intro n
    induction n with
    | zero=>intro acc ts z h;cases h
    | succ n ih=>
      intro acc ts z h
      by_cases hc:isT [41] (hd ts)=true
      · rw[listP_end hc]at h;cases h;simp
      · have hc':isT [41] (hd ts)=false:=Bool.eq_false_iff.2 hc
        by_cases ha:acc=[]
        · subst ha
          rw[listP_first hc']at h
          cases hk:kindP 2 ts with
          | error e=>rw[hk]at h;cases h
          | ok p=>
            obtain⟨a,r⟩:=p
            rw[hk]at h
            have h1:=ih _ _ _ h
            have h2:=kindP_tail hk
            subst h2
            simp at h1;omega
        · rw[listP_next hc' ha]at h
          rcases takeP_cases [44] ts with ⟨_,htp⟩|⟨_,htp⟩
          · rw[htp]at h
            simp only[bnd]at h
            cases hk:kindP 2 ts.tail with
            | error e=>rw[hk]at h;cases h
            | ok p=>
              obtain⟨a,r⟩:=p
              rw[hk]at h
              have h1:=ih _ _ _ h
              have h2:=kindP_tail hk
              subst h2
              simp at h1;omega
          · rw[htp]at h;cases h
  rcases takeP_cases [40] ts with ⟨_,htp⟩|⟨_,htp⟩
  · rw[htp]at h
    have:=hl _ _ _ _ h
    simp at this;omega
  · rw[htp]at h;cases h
set_option maxRecDepth 100000 in
set_option maxHeartbeats 4000000 in
theorem group_t {rec : Nat → List Tok → Nat → Out Tr} {m : Nat} (hp : Reads 186 (fun d => [.int .i64 (d + 1 : Nat)]) (withinP rec) (fun ts => ts.length ≤ m)) (wd : ByteArray) (g : Nat) (hwd : bl wd = groupWords.getD g []) :
    Reads 188 (fun d=>[.string wd,.int .i64 (d+1:Nat)]) (groupP rec g) (fun ts=>ts.length≤m):=by
  intro w R k ts deep h hd hts
  have H:Hid (RK w R k ts):=h
  have HWD:Hid (bl wd=groupWords.getD g []):=hwd
  have HD:Hid (deep≤20):=hd
  have HM:Hid (ts.length≤m):=hts
  clear h hd hts hwd
  go_enter Tryz.func188,Tryz.ntmps188
  go_wp2_with fail
  refine(takeWord_t H.out ⟨#[98,121]⟩ (by decide) (by decide)).mono ?_
  rintro e w1 ⟨v,rfl,hres,hg⟩
  have HG1:Hid (w.grownBy w1 (some R.b)):=hg
  clear hg
  rcases takeP_cases wBy ts with ⟨h1,htp⟩|⟨h1,htp⟩
  · obtain⟨rfl,⟨k1,hk1⟩,_⟩:=hres.out.good htp
    have HK1:Hid (RK w1 R k1 ts.tail):=hk1
    have HP1:Hid (groupP rec g ts deep=bnd (bnd (takeP [40] ts.tail) fun _ r=>listP (kindP 2) [41] (r.length+1) [] r) fun ns r=>bnd (withinP rec r deep) fun a r=>.ok (.node 0 0 ⟨5,g,0,[],[],ns⟩ a .nil,r)):=hid (by rw[groupP_via,htp];rfl)
    clear hres hk1 h1 htp
    go_wp2_with fail
    refine(listNames_t HK1.out ⟨#[40]⟩ ⟨#[41]⟩ (by decide) (by decide)).mono ?_
    rintro e w2 ⟨la,ln,lc,v,rfl,hres,hg2⟩
    have HG2:Hid (w.grownBy w2 (some R.b)):=grown_trans HG1.out hg2
    clear hg2 HG1 HK1
    cases hlp:(bnd (takeP [40] ts.tail) fun _ r=>listP (kindP 2) [41] (r.length+1) [] r)with
    | error er=>
      have HE:=hid (hres.out.err hlp)
      obtain⟨fa,rfl⟩:=HE.out.shape
      have HPE:Hid (groupP rec g ts deep=.error er):=hid (by rw[HP1.out,hlp];rfl)
      clear hres hlp
      go_wp2
      go_ret2
      exact⟨_,_,rfl,Or.inl rfl,by rw[HPE.out];exact HE,HG2.out⟩
    | ok pr=>
      obtain⟨ns,r2⟩:=pr
      obtain⟨rfl,⟨k2,hk2⟩,hns⟩:=hres.out.good hlp
      have HP2:Hid (groupP rec g ts deep=bnd (withinP rec r2 deep) fun a r=>.ok (.node 0 0 ⟨5,g,0,[],[],ns⟩ a .nil,r)):=hid (by rw[HP1.out,hlp];rfl)
      have HK2:Hid (RK w2 R k2 r2):=hk2
      have HN2:Hid (NamesV w2 (.slice la ln lc) ns):=hns
      have HL2:Hid (r2.length≤m):=hid (by have:=listNames_len hlp;have:=HM.out;rw[List.length_tail]at *;omega)
      clear hres hlp hk2 hns HP1
      go_wp2_with fail
      refine(hp w2 R k2 r2 deep HK2.out HD.out HL2.out).mono ?_
      rintro e w3 ⟨pv,v,rfl,hif,hres,hg3⟩
      have HG3:Hid (w.grownBy w3 (some R.b)):=grown_trans HG2.out hg3
      have HN3:Hid (NamesV w3 (.slice la ln lc) ns):=HN2.out.read HK2.out hg3
      clear hg3 HG2 HN2
      rcases hif with rfl|⟨ty,u,rfl⟩
      all_goals
        go_wp2
        go_ret2
        refine⟨_,_,rfl,Or.inr ⟨_,_,rfl⟩,?_,HG3.out⟩
        rw[HP2.out]
        cases hwp:withinP rec r2 deep with
        | error er=>exact hres.out.err hwp
        | ok pr=>
          obtain⟨t,r3⟩:=pr
          obtain⟨h1,h2,h3⟩:=hres.out.good hwp
          exact⟨h1,h2,Or.inr (Or.inr (Or.inr (Or.inr (Or.inl ⟨rfl,wd,la,ln,lc,_,rfl,HWD.out,HN3.out,h3⟩))))⟩
  · have HPE:Hid (groupP rec g ts deep=.error (2,(LS.hd ts).at_)):=hid (by rw[groupP_via,htp];rfl)
    have HE:=hid (hres.out.err htp)
    obtain⟨fa,rfl⟩:=HE.out.shape
    clear hres htp h1
    go_wp2
    go_ret2
    exact⟨_,_,rfl,Or.inl rfl,by rw[HPE.out];exact HE,HG1.out⟩
theorem idx_get{w:List UInt8} : ∀ {l:List (List UInt8)} {g:Nat},idx w l=some g→l.getD g []=w
 | [],_,h=>by cases h
 | x :: l, g, h => by
   unfold idx at h
   by_cases hx:x=w
   · rw[if_pos hx]at h
     injection h with h
     subst h;exact hx
   · rw[if_neg hx]at h
     cases hi:idx w l with
     | none=>rw[hi]at h;cases h
     | some j=>
       rw[hi]at h
       injection h with h
       subst h
       exact idx_get (l:=l) hi
theorem begins_starts{p:PTok}{t:Tok}(h:TokIs p t)(hw:TokWf t)(hk:t.kind≤5):beginsB p=startsT t:=by
 have m1:=mark_isT h hw hk (s:=⟨#[45]⟩) (by decide) (by decide)
 have m2:=mark_isT h hw hk (s:=⟨#[40]⟩) (by decide) (by decide)
 have hx:p.tx.toList=t.txt:=by rw[toList_bl];exact h.2.2.1
 unfold beginsB startsT
 have hp:=pk_mark hk
 have h1:=h.1
 by_cases k1:t.kind=1
 ·have e:((p.kd:Int) == 0)=true:=by rw[h1,hp.2.2.2.1.2 k1];rfl
  rw[e,k1];simp
 ·have e:((p.kd:Int) == 0)=false:=by
   rw[beq_eq_false_iff_ne];intro e
   exact k1 (hp.2.2.2.1.1 (by omega))
  rw[e,beq_eq_false_iff_ne.2 k1]
  by_cases k2:t.kind=2
  ·have e2:((p.kd:Int) == 1)=true:=by rw[h1,hp.2.1.2 k2];rfl
   have z1:isT [45] t=false:=by rw[←show markB p ⟨#[45]⟩=isT [45] t from m1];unfold markB;rw[h1,hp.2.1.2 k2];rfl
   have z2:isT [40] t=false:=by rw[←show markB p ⟨#[40]⟩=isT [40] t from m2];unfold markB;rw[h1,hp.2.1.2 k2];rfl
   rw[e2,z1,z2,k2,hx]
   unfold isT
   rw[k2]
   simp[wOr,wBy]
  ·have e2:((p.kd:Int) == 1)=false:=by
    rw[beq_eq_false_iff_ne];intro e
    exact k2 (hp.2.1.1 (by omega))
   rw[e2,beq_eq_false_iff_ne.2 k2,show markB p ⟨#[45]⟩=isT [45] t from m1,show markB p ⟨#[40]⟩=isT [40] t from m2]
   simp
theorem innerP_num{rec:Nat→List Tok→Nat→Out Tr}{ts:List Tok}{d:Nat}(h:(hd ts).kind=1):innerP rec ts d=.ok (leafT ⟨0,0,numV (hd ts).txt,[],[],[]⟩,ts.tail):=if_pos h
theorem innerP_neg {rec : Nat → List Tok → Nat → Out Tr} {ts : List Tok} {d : Nat} (h : ¬ (hd ts).kind = 1) (h2 : isT [45] (hd ts) = true) : innerP rec ts d = bnd (rec 3 ts.tail d) fun a r => .ok (.node 0 0 (nd0 3 0) a .nil, r) := by
  unfold innerP;rw[if_neg h,if_pos h2]
theorem innerP_within{rec:Nat→List Tok→Nat→Out Tr}{ts:List Tok}{d:Nat}(h:¬(hd ts).kind=1)(h2:¬isT [45] (hd ts)=true)(h3:isT [40] (hd ts)=true):innerP rec ts d=withinP rec ts d:=by
 unfold innerP;rw[if_neg h,if_neg h2,if_pos h3]
theorem innerP_group{rec:Nat→List Tok→Nat→Out Tr}{ts:List Tok}{d g:Nat}(h:¬(hd ts).kind=1)(h2:¬isT [45] (hd ts)=true)(h3:¬isT [40] (hd ts)=true)(h4:idx (hd ts).txt groupWords=some g):innerP rec ts d=groupP rec g ts.tail d:=by
 unfold innerP;rw[if_neg h,if_neg h2,if_neg h3,h4]
theorem innerP_win{rec:Nat→List Tok→Nat→Out Tr}{ts:List Tok}{d o:Nat}(h:¬(hd ts).kind=1)(h2:¬isT [45] (hd ts)=true)(h3:¬isT [40] (hd ts)=true)(h4:idx (hd ts).txt groupWords=none)(h5:idx (hd ts).txt overWords=some o):innerP rec ts d=winP o ts.tail:=by
 unfold innerP;rw[if_neg h,if_neg h2,if_neg h3,h4];simp only;rw[h5]
theorem innerP_sel {rec : Nat → List Tok → Nat → Out Tr} {ts : List Tok} {d : Nat} (h : ¬ (hd ts).kind = 1) (h2 : ¬ isT [45] (hd ts) = true) (h3 : ¬ isT [40] (hd ts) = true) (h4 : idx (hd ts).txt groupWords = none) (h5 : idx (hd ts).txt overWords = none) : innerP rec ts d = bnd (selP ts) fun p r => .ok (leafT p, r) := by
  unfold innerP;rw[if_neg h,if_neg h2,if_neg h3,h4];simp only;rw[h5]
theorem startsT_live{t:Tok}(h:startsT t=true):¬(t.kind=0∨t.kind=5):=by
 rintro(h0|h0)
 all_goals
  unfold startsT isT at h
  rw[h0]at h
  simp at h
set_option maxRecDepth 100000 in
set_option maxHeartbeats 8000000 in
theorem factor_t{rec:Nat→List Tok→Nat→Out Tr}{m:Nat}
  (hfa:Reads 123 (fun d=>[.int .i64 (d+1:Nat)]) (rec 3) (fun ts=>ts.length<m))
  (hbr:Reads 186 (fun d=>[.int .i64 (d+1:Nat)]) (withinP rec) (fun ts=>ts.length≤m)) :
  Reads 123 (fun d=>[.int .i64 (d+1:Nat)]) (factorP rec) (fun ts=>ts.length≤m):=by
 intro w R k ts deep h hdp hts
 have H:Hid (RK w R k ts):=h
 have HD:Hid (deep≤20):=hdp
 have HM:Hid (ts.length≤m):=hts
 have hbl:R.b<w.heap.size:=(Array.getElem?_eq_some_iff.1 h.rd.cells).1
 clear h hts
 go_enter Tryz.func123,Tryz.ntmps123
 go_wp2_with fail
 refine(token_t H.out).mono ?_
 rintro e w1 ⟨⟨kd,at_,tx,tv⟩,rfl,ht,hb1⟩
 have HG1:Hid (w.grownBy w1 (some R.b)):=grown_of_below hb1
 have HK1:Hid (RK w1 R k ts):=H.out.below hb1
 clear hb1
 go_upto_region 2 with fail
 refine wp_gen fun W2 hW2=>?_
 have hb2:Below w1.heap.size w1 W2:=by rw[hW2];exact(Below.refl _ _).alloc (Nat.le_refl _) _
 have HT2:Hid (BAt W2 w1.heap.size [.int .i64 kd,.int .i64 at_,.string tx,.int .i64 tv] 167):=hid (by rw[hW2];exact Go.Deep.blk_alloc_new _ _)
 have HG2:Hid (w.grownBy W2 (some R.b)):=grown_trans HG1.out (grown_of_below hb2)
 have HK2:Hid (RK W2 R k ts):=HK1.out.below hb2
 have hz1:R.b<w1.heap.size:=by have:=HG1.out.size;omega
 have HWF:=hid HK2.out.wf.head
 clear hW2 hb2 HG1 HK1
 have t0:=HT2.out.cell 0
 have t1:=HT2.out.cell 1
 have t2:=HT2.out.cell 2
 have t3:=HT2.out.cell 3
 simp only[List.getElem?_cons_zero,List.getElem?_cons_succ]at t0 t1 t2 t3
 go_wp2_with fail
 refine(begins_any ⟨kd,at_,tx,tv⟩ W2).mono ?_
 rintro e w3 ⟨rfl,hb3⟩
 rw[begins_starts ht.out HWF.out.1 HWF.out.2.2]
 have HT3:=hid (HT2.out.below hb3)
 have HG3:Hid (w.grownBy w3 (some R.b)):=grown_trans HG2.out (grown_of_below hb3)
 have HK3:Hid (RK w3 R k ts):=HK2.out.below hb3
 clear hb3 HT2 HG2 HK2 t0 t1 t2 t3
 cases hst:startsT (LS.hd ts)
 ·have HPE:Hid (factorP rec ts deep=.error (2,(LS.hd ts).at_)):=hid (by unfold factorP;rw[if_neg (by rw[hst];decide)])
  clear hst
  go_wp2_with fail
  refine(cannotStand_t HK3.out).mono ?_
  rintro e wE ⟨v,rfl,HE,hbE⟩
  obtain⟨fa,rfl⟩:=HE.out.shape
  have HGE:Hid (w.grownBy wE (some R.b)):=grown_trans HG3.out (grown_of_below hbE)
  clear hbE
  go_wp2
  go_ret2
  exact⟨_,_,rfl,Or.inl rfl,by rw[HPE.out];exact HE,HGE.out⟩
 ·have HLV:Hid (¬((LS.hd ts).kind=0∨(LS.hd ts).kind=5)):=startsT_live hst
  by_cases hd20:deep=20
  ·have HPE:Hid (factorP rec ts deep=.error (3,(LS.hd ts).at_)):=hid (by unfold factorP;rw[if_pos hst,if_pos hd20])
   subst hd20
   have t1:=HT3.out.cell 1
   simp only[List.getElem?_cons_zero,List.getElem?_cons_succ]at t1
   have hdg:=HK3.out.dp
   clear hst
   go_wp2_with fail
   refine(atByte_any _ _ _).mono ?_
   rintro e wE ⟨rfl,hwE⟩
   have HE:Hid (ErrIs wE R (3,(LS.hd ts).at_) (.iface 115 (.pointer (some ⟨w3.heap.size,0,none⟩)))):=hid (Or.inr ⟨rfl,w3.heap.size,rfl,by rw[hwE];refine(Go.Deep.blk_alloc_new _ _).trans ?_;rw[show(at_:Int)=((LS.hd ts).at_:Int) from congrArg _ ht.out.2.1]⟩)
   have HGE:Hid (w.grownBy wE (some R.b)):=hid (by rw[hwE];exact grown_alloc HG3.out _)
   clear hwE
   go_wp2
   go_ret2
   exact⟨_,_,rfl,Or.inl rfl,by rw[HPE.out];exact HE,HGE.out⟩
  ·have hd19:deep≤19:=by omega
   have HPF:Hid (factorP rec ts deep=innerP rec ts (deep+1)):=hid (by unfold factorP;rw[if_pos hst,if_neg hd20])
   obtain⟨rc0,rc1,rfz,rcx⟩:=HK3.out.rd.all
   have hlt:=HK3.out.lt
   have hln:=HK3.out.len
   clear rcx hst hd20
   have t0:=HT3.out.cell 0
   have t1:=HT3.out.cell 1
   have t2:=HT3.out.cell 2
   have t3:=HT3.out.cell 3
   simp only[List.getElem?_cons_zero,List.getElem?_cons_succ]at t0 t1 t2 t3
   by_cases hk1:(LS.hd ts).kind=1
   ·have hkd:kd=0:=by have:=ht.out.1;rw[hk1]at this;exact this
    subst hkd
    have HTV:Hid ((tv:Int)=numV (LS.hd ts).txt):=ht.out.2.2.2 hk1
    have HPI:Hid (factorP rec ts deep=.ok (leafT ⟨0,0,numV (LS.hd ts).txt,[],[],[]⟩,ts.tail)):=hid (by rw[HPF.out,innerP_num hk1])
    clear hk1
    go_upto_region 8 with fail
    refine wp_gen fun W8 hW8=>?_
    have HK8:Hid (RK W8 R (k+1) ts.tail):=hid (by rw[hW8];exact HK3.out.step HLV.out)
    have HG8:Hid (w.grownBy W8 (some R.b)):=hid (by rw[hW8];exact grown_set HG3.out (Or.inl rfl) _)
    have HT8:Hid (BAt W8 w1.heap.size [.int .i64 (0:Nat),.int .i64 at_,.string tx,.int .i64 tv] 167):=hid (by rw[hW8];exact HT3.out.other (by show w1.heap.size≠R.b;omega) _)
    clear hW8 rc0 rc1 rfz t0 t1 t2 t3
    have t3:=HT8.out.cell 3
    simp only[List.getElem?_cons_zero,List.getElem?_cons_succ]at t3
    go_wp2
    go_ret2
    exact⟨_,_,rfl,Or.inr ⟨_,_,rfl⟩,by rw[HPI.out];exact⟨rfl,⟨_,HK8.out⟩,Or.inl ⟨rfl,by rw[←HTV.out];rfl⟩⟩,HG8.out⟩
   ·have hkd:((kd:Int) == 0)=false:=by
     rw[beq_eq_false_iff_ne];intro e
     exact hk1 ((pk_mark HWF.out.2.2).2.2.2.1.1 (by have:=ht.out.1;simp only at this;omega))
    have HK1N:Hid (¬(LS.hd ts).kind=1):=hk1
    clear hk1
    go_wp2_with fail
    refine(isMark_t ht.out HWF.out.1 HWF.out.2.2 ⟨#[45]⟩ (by decide) (by decide) w3).mono ?_
    rintro e w4 ⟨rfl,hb4⟩
    have HT4:=hid (HT3.out.below hb4)
    have HG4:Hid (w.grownBy w4 (some R.b)):=grown_trans HG3.out (grown_of_below hb4)
    have HK4:Hid (RK w4 R k ts):=HK3.out.below hb4
    clear hb4 HT3 HG3 HK3 t0 t1 t2 t3 rc0 rc1 rfz
    obtain⟨rc0,rc1,rfz,rcx⟩:=HK4.out.rd.all
    have t0:=HT4.out.cell 0
    have t1:=HT4.out.cell 1
    have t2:=HT4.out.cell 2
    have t3:=HT4.out.cell 3
    simp only[List.getElem?_cons_zero,List.getElem?_cons_succ]at t0 t1 t2 t3
    clear rcx
    by_cases hmn:isT [45] (LS.hd ts)=true
    ·rw[show isT (bl ⟨#[45]⟩) (LS.hd ts)=true from hmn]
     have HPI:Hid (factorP rec ts deep=bnd (rec 3 ts.tail (deep+1)) fun a r=>.ok (.node 0 0 (nd0 3 0) a .nil,r)):=hid (by rw[HPF.out,innerP_neg HK1N.out hmn])
     clear hmn
     go_upto_region 11 with fail
     refine wp_gen fun W8 hW8=>?_
     have HK8:Hid (RK W8 R (k+1) ts.tail):=hid (by rw[hW8];exact HK4.out.step HLV.out)
     have HG8:Hid (w.grownBy W8 (some R.b)):=hid (by rw[hW8];exact grown_set HG4.out (Or.inl rfl) _)
     clear hW8 rc0 rc1 rfz t0 t1 t2 t3 HK4 HG4 HT4
     go_wp2_with fail
     refine(hfa W8 R (k+1) ts.tail (deep+1) HK8.out (by omega) (by show ts.tail.length<m;have:=H.out.pos;have:=HM.out;rw[List.length_tail];omega)).mono ?_
     rintro e w9 ⟨pv,v,rfl,hif,hres,hg9⟩
     have HG9:Hid (w.grownBy w9 (some R.b)):=grown_trans HG8.out hg9
     clear hg9
     rcases hif with rfl|⟨ty,u,rfl⟩
     all_goals
      go_wp2
      go_ret2
      refine⟨_,_,rfl,Or.inr ⟨_,_,rfl⟩,?_,HG9.out⟩
      rw[HPI.out]
      cases hrp:rec 3 ts.tail (deep+1)with
      | error er=>exact hres.out.err hrp
      | ok pr=>
       obtain⟨t,r3⟩:=pr
       obtain⟨h1,h2,h3⟩:=hres.out.good hrp
       exact⟨h1,h2,Or.inr (Or.inr (Or.inr (Or.inl ⟨rfl,_,rfl,h3⟩)))⟩
    ·rw[show isT (bl ⟨#[45]⟩) (LS.hd ts)=false from Bool.eq_false_iff.2 hmn]
     have HMN:Hid (¬isT [45] (LS.hd ts)=true):=hmn
     clear hmn
     go_wp2_with fail
     refine(isMark_t ht.out HWF.out.1 HWF.out.2.2 ⟨#[40]⟩ (by decide) (by decide) w4).mono ?_
     rintro e w5 ⟨rfl,hb5⟩
     have HT5:=hid (HT4.out.below hb5)
     have HG5:Hid (w.grownBy w5 (some R.b)):=grown_trans HG4.out (grown_of_below hb5)
     have HK5:Hid (RK w5 R k ts):=HK4.out.below hb5
     clear hb5 HT4 HG4 HK4 t0 t1 t2 t3 rc0 rc1 rfz
     obtain⟨rc0,rc1,rfz,rcx⟩:=HK5.out.rd.all
     have t2:=HT5.out.cell 2
     simp only[List.getElem?_cons_zero,List.getElem?_cons_succ]at t2
     clear rcx
     by_cases hop:isT [40] (LS.hd ts)=true
     ·rw[show isT (bl ⟨#[40]⟩) (LS.hd ts)=true from hop]
      have HPI:Hid (factorP rec ts deep=withinP rec ts (deep+1)):=hid (by rw[HPF.out,innerP_within HK1N.out HMN.out hop])
      clear hop
      go_wp2_with fail
      refine(hbr w5 R k ts (deep+1) HK5.out (by omega) HM.out).mono ?_
      rintro e w9 ⟨pv,v,rfl,hif,hres,hg9⟩
      have HG9:Hid (w.grownBy w9 (some R.b)):=grown_trans HG5.out hg9
      have HIF:Hid (IfaceV pv):=hif
      clear hg9 hif
      go_wp2
      go_ret2
      exact⟨_,_,rfl,HIF.out,by rw[HPI.out];exact hres,HG9.out⟩
     ·rw[show isT (bl ⟨#[40]⟩) (LS.hd ts)=false from Bool.eq_false_iff.2 hop]
      have HOPN:Hid (¬isT [40] (LS.hd ts)=true):=hop
      have HTX:Hid (bl tx=(LS.hd ts).txt):=ht.out.2.2.1
      clear hop
      go_wp2_with fail
      refine(isGroupWord_any tx _).mono ?_
      rintro e wq ⟨rfl,rfl⟩
      rw[HTX.out]
      cases hgi:idx (LS.hd ts).txt groupWords with
      | some g=>
       have HPI:Hid (factorP rec ts deep=groupP rec g ts.tail (deep+1)):=hid (by rw[HPF.out,innerP_group HK1N.out HMN.out HOPN.out hgi])
       have HWD:Hid (bl tx=groupWords.getD g []):=hid (by rw[idx_get hgi,HTX.out])
       rw[show(some g).isSome=true from rfl]
       clear hgi
       go_upto_region 17 with fail
       refine wp_gen fun W8 hW8=>?_
       have HK8:Hid (RK W8 R (k+1) ts.tail):=hid (by rw[hW8];exact HK5.out.step HLV.out)
       have HG8:Hid (w.grownBy W8 (some R.b)):=hid (by rw[hW8];exact grown_set HG5.out (Or.inl rfl) _)
       have HT8:Hid (BAt W8 w1.heap.size [.int .i64 kd,.int .i64 at_,.string tx,.int .i64 tv] 167):=hid (by rw[hW8];exact HT5.out.other (by show w1.heap.size≠R.b;omega) _)
       clear hW8 rc0 rc1 rfz t2 HK5 HG5 HT5
       have t2:=HT8.out.cell 2
       simp only[List.getElem?_cons_zero,List.getElem?_cons_succ]at t2
       go_wp2_with fail
       refine(group_t hbr tx g HWD.out W8 R (k+1) ts.tail (deep+1) HK8.out (by omega) (by show ts.tail.length≤m;have:=HM.out;rw[List.length_tail];omega)).mono ?_
       rintro e w9 ⟨pv,v,rfl,hif,hres,hg9⟩
       have HG9:Hid (w.grownBy w9 (some R.b)):=grown_trans HG8.out hg9
       have HIF:Hid (IfaceV pv):=hif
       clear hg9 hif
       go_wp2
       go_ret2
       exact⟨_,_,rfl,HIF.out,by rw[HPI.out];exact hres,HG9.out⟩
      | none=>
       rw[show(none:Option Nat).isSome=false from rfl]
       have HGN:Hid (idx (LS.hd ts).txt groupWords=none):=hgi
       clear hgi
       go_wp2_with fail
       refine(isWindowWord_any tx _).mono ?_
       rintro e wq ⟨rfl,rfl⟩
       rw[HTX.out]
       cases hoi:idx (LS.hd ts).txt overWords with
       | some o=>
        have HPI:Hid (factorP rec ts deep=winP o ts.tail):=hid (by rw[HPF.out,innerP_win HK1N.out HMN.out HOPN.out HGN.out hoi])
        have HWD:Hid (bl tx=overWords.getD o []):=hid (by rw[idx_get hoi,HTX.out])
        rw[show(some o).isSome=true from rfl]
        clear hoi
        go_upto_region 20 with fail
        refine wp_gen fun W8 hW8=>?_
        have HK8:Hid (RK W8 R (k+1) ts.tail):=hid (by rw[hW8];exact HK5.out.step HLV.out)
        have HG8:Hid (w.grownBy W8 (some R.b)):=hid (by rw[hW8];exact grown_set HG5.out (Or.inl rfl) _)
        have HT8:Hid (BAt W8 w1.heap.size [.int .i64 kd,.int .i64 at_,.string tx,.int .i64 tv] 167):=hid (by rw[hW8];exact HT5.out.other (by show w1.heap.size≠R.b;omega) _)
        clear hW8 rc0 rc1 rfz t2 HK5 HG5 HT5
        have t2:=HT8.out.cell 2
        simp only[List.getElem?_cons_zero,List.getElem?_cons_succ]at t2
        go_wp2_with fail
        refine(window_t HK8.out tx o HWD.out).mono ?_
        rintro e w9 ⟨pv,v,rfl,hif,hres,hg9⟩
        have HG9:Hid (w.grownBy w9 (some R.b)):=grown_trans HG8.out hg9
        have HIF:Hid (IfaceV pv):=hif
        clear hg9 hif
        go_wp2
        go_ret2
        exact⟨_,_,rfl,HIF.out,by rw[HPI.out];exact hres,HG9.out⟩
       | none=>
        rw[show(none:Option Nat).isSome=false from rfl]
        have HPI:Hid (factorP rec ts deep=bnd (selP ts) fun p r=>.ok (leafT p,r)):=hid (by rw[HPF.out,innerP_sel HK1N.out HMN.out HOPN.out HGN.out hoi])
        clear hoi
        go_wp2_with fail
        refine(selector_t HK5.out).mono ?_
        rintro e w9 ⟨nm,la,ln,lc,v,rfl,hres,hg9⟩
        have HG9:Hid (w.grownBy w9 (some R.b)):=grown_trans HG5.out hg9
        clear hg9
        go_wp2
        go_ret2
        refine⟨_,_,rfl,Or.inr ⟨_,_,rfl⟩,?_,HG9.out⟩
        rw[HPI.out]
        cases hsp:selP ts with
        | error er=>exact hres.out.err hsp
        | ok pr=>
         obtain⟨nd,r3⟩:=pr
         obtain⟨h1,h2,h3,h4⟩:=hres.out.good hsp
         exact⟨h1,h2,Or.inr (Or.inl ⟨(tw_selP hsp).2.1,nm,la,ln,lc,rfl,h3,h4⟩)⟩
theorem op_some{p:PTok}{u:Tok}(h:TokIs p u)(hw:TokWf u)(hk:u.kind≤5){lv:Nat}(hl:lv≤2){kd op:Nat}(ho:LS.opAt lv u=some (kd,op)):∃j,opOf p=some j∧j≤4∧rankOf j=lv∧opNo (nd0 kd op)=j∧(kd=4∨kd=6)∧¬(u.kind=0∨u.kind=5):=by
 have m0:wordB p ⟨#[111,114]⟩=isT wOr u:=word_isT h hw hk (s:=⟨#[111,114]⟩) (by decide) (by decide)
 have m1:markB p ⟨#[43]⟩=isT [43] u:=mark_isT h hw hk (s:=⟨#[43]⟩) (by decide) (by decide)
 have m2:markB p ⟨#[45]⟩=isT [45] u:=mark_isT h hw hk (s:=⟨#[45]⟩) (by decide) (by decide)
 have m3:markB p ⟨#[42]⟩=isT [42] u:=mark_isT h hw hk (s:=⟨#[42]⟩) (by decide) (by decide)
 have m4:markB p ⟨#[47]⟩=isT [47] u:=mark_isT h hw hk (s:=⟨#[47]⟩) (by decide) (by decide)
 unfold opOf
 rw[m0,m1,m2,m3,m4]
 unfold LS.opAt at ho
 rcases(by omega:lv=0∨lv=1∨lv=2)with rfl|rfl|rfl
 ·by_cases a:isT wOr u=true
  ·rw[if_pos rfl,if_pos a]at ho
   injection ho with ho;injection ho with h1 h2;subst h1 h2
   rw[if_pos a]
   exact⟨0,rfl,by decide,rfl,rfl,Or.inr rfl,isT_dead a⟩
  ·rw[if_pos rfl,if_neg a]at ho;cases ho
 ·rw[if_neg (by decide),if_pos rfl]at ho
  by_cases a:isT [43] u=true
  ·rw[if_pos a]at ho
   injection ho with ho;injection ho with h1 h2;subst h1 h2
   rw[isT_other a (u:=wOr) (by decide),if_neg (by decide),if_pos a]
   exact⟨1,rfl,by decide,rfl,rfl,Or.inl rfl,isT_dead a⟩
  ·rw[if_neg a]at ho
   by_cases b:isT [45] u=true
   ·rw[if_pos b]at ho
    injection ho with ho;injection ho with h1 h2;subst h1 h2
    rw[isT_other b (u:=wOr) (by decide),if_neg (by decide),if_neg a,if_pos b]
    exact⟨2,rfl,by decide,rfl,rfl,Or.inl rfl,isT_dead b⟩
   ·rw[if_neg b]at ho;cases ho
 ·rw[if_neg (by decide),if_neg (by decide)]at ho
  by_cases a:isT [42] u=true
  ·rw[if_pos a]at ho
   injection ho with ho;injection ho with h1 h2;subst h1 h2
   rw[isT_other a (u:=wOr) (by decide),if_neg (by decide),isT_other a (u:=[43]) (by decide),if_neg (by decide),isT_other a (u:=[45]) (by decide),if_neg (by decide),if_pos a]
   exact⟨3,rfl,by decide,rfl,rfl,Or.inl rfl,isT_dead a⟩
  ·rw[if_neg a]at ho
   by_cases b:isT [47] u=true
   ·rw[if_pos b]at ho
    injection ho with ho;injection ho with h1 h2;subst h1 h2
    rw[isT_other b (u:=wOr) (by decide),if_neg (by decide),isT_other b (u:=[43]) (by decide),if_neg (by decide),isT_other b (u:=[45]) (by decide),if_neg (by decide),if_neg a,if_pos b]
    exact⟨4,rfl,by decide,rfl,rfl,Or.inl rfl,isT_dead b⟩
   ·rw[if_neg b]at ho;cases ho
theorem op_none{p:PTok}{u:Tok}(h:TokIs p u)(hw:TokWf u)(hk:u.kind≤5){lv:Nat}(hl:lv≤2)(ho:LS.opAt lv u=none):opOf p=none∨∃j,opOf p=some j∧j≤4∧rankOf j≠lv:=by
 have m0:wordB p ⟨#[111,114]⟩=isT wOr u:=word_isT h hw hk (s:=⟨#[111,114]⟩) (by decide) (by decide)
 have m1:markB p ⟨#[43]⟩=isT [43] u:=mark_isT h hw hk (s:=⟨#[43]⟩) (by decide) (by decide)
 have m2:markB p ⟨#[45]⟩=isT [45] u:=mark_isT h hw hk (s:=⟨#[45]⟩) (by decide) (by decide)
 have m3:markB p ⟨#[42]⟩=isT [42] u:=mark_isT h hw hk (s:=⟨#[42]⟩) (by decide) (by decide)
 have m4:markB p ⟨#[47]⟩=isT [47] u:=mark_isT h hw hk (s:=⟨#[47]⟩) (by decide) (by decide)
 unfold opOf
 rw[m0,m1,m2,m3,m4]
 unfold LS.opAt at ho
 generalize isT wOr u=b0 at *
 generalize isT [43] u=b1 at *
 generalize isT [45] u=b2 at *
 generalize isT [42] u=b3 at *
 generalize isT [47] u=b4 at *
 rcases (by omega : lv = 0 ∨ lv = 1 ∨ lv = 2) with rfl | rfl | rfl <;> cases b0 <;> cases b1 <;> cases b2 <;> cases b3 <;> cases b4 <;> first
   | exact Or.inl rfl
   | exact Or.inr ⟨0,rfl,by decide,by decide⟩
   | exact Or.inr ⟨1,rfl,by decide,by decide⟩
   | exact Or.inr ⟨2,rfl,by decide,by decide⟩
   | exact Or.inr ⟨3,rfl,by decide,by decide⟩
   | exact Or.inr ⟨4,rfl,by decide,by decide⟩
   | cases ho
theorem parse_line {n lv : Nat} {ts : List Tok} {deep : Nat} (h : lv ≠ 3) : parse (n + 1) false lv .nil ts deep = bnd (parse n false (lv + 1) .nil ts deep) fun a r => parse n true lv a r deep := by
  show(if lv=3 then _ else _)=_
  rw[if_neg h]
theorem parse_fac {n : Nat} {ts : List Tok} {deep : Nat} : parse (n + 1) false 3 .nil ts deep = factorP (fun lv ts d => parse n false lv .nil ts d) ts deep := by
  show(if 3=3 then _ else _)=_
  rw[if_pos rfl]
theorem parse_stop{n lv:Nat}{a:Tr}{ts:List Tok}{deep:Nat}(h:LS.opAt lv (hd ts)=none):parse (n+1) true lv a ts deep=.ok (a,ts):=by
 show(match LS.opAt lv (hd ts)with|none=>_|some p=>_)=_
 rw[h]
theorem parse_more {n lv : Nat} {a : Tr} {ts : List Tok} {deep : Nat} {p : Nat × Nat} (h : LS.opAt lv (hd ts) = some p) : parse (n + 1) true lv a ts deep = bnd (parse n false (lv + 1) .nil ts.tail deep) fun b r => parse n true lv (.node 0 0 (nd0 p.1 p.2) a b) r deep := by
  show(match LS.opAt lv (hd ts)with|none=>_|some p=>_)=_
  rw[h]
def RP(lv n:Nat):Prop:=Reads 68 (fun d=>[.int .i64 lv,.int .i64 (d+1:Nat)]) (fun ts d=>parse n false lv .nil ts d) (fun ts=>10*ts.length+5≤n+lv)
def RF(n:Nat):Prop:=Reads 123 (fun d=>[.int .i64 (d+1:Nat)]) (fun ts d=>parse n false 3 .nil ts d) (fun ts=>10*ts.length+2≤n)
theorem part_fac{n:Nat}(hf:RF n):RP 3 n:=by
 intro w R k ts deep h hd hts
 have HC:Hid (Calls Tryz.prog 123 #[.pointer (some ⟨R.b,0,none⟩),.int .i64 (deep+1:Nat)] w _):=hf w R k ts deep h hd (by show 10*ts.length+2≤n;have h':10*ts.length+5≤n+3:=hts;omega)
 clear h hd hts hf
 go_enter Tryz.func68,Tryz.ntmps68
 go_wp2_with fail
 refine HC.out.mono ?_
 rintro e w1 ⟨pv,v,rfl,hif,hres,hg⟩
 have HIF:Hid (IfaceV pv):=hif
 have HG:Hid (w.grownBy w1 (some R.b)):=hg
 clear hif hg
 go_wp2
 go_ret2
 exact⟨_,_,rfl,HIF.out,hres,HG.out⟩
set_option maxRecDepth 100000 in
set_option maxHeartbeats 8000000 in
theorem part_line{n lv:Nat}(hlv:lv≤2)(hp:∀m,m≤n→RP (lv+1) m):RP lv (n+1):=by
 intro w R k ts deep h hd hts
 have H:Hid (RK w R k ts):=h
 have HD:Hid (deep≤20):=hd
 have hts':10*ts.length+5≤n+1+lv:=hts
 have hbl:R.b<w.heap.size:=(Array.getElem?_eq_some_iff.1 h.rd.cells).1
 have HC:Hid (∀m,m≤n→∀(w:World) (k:Nat) (ts:List Tok),RK w R k ts→10*ts.length+5≤m+(lv+1)→Calls Tryz.prog 68 #[.pointer (some ⟨R.b,0,none⟩),.int .i64 ((lv:Int)+1),.int .i64 ((deep:Int)+1)] w fun e w'=>∃(pv v:Value),e=.returned (.tuple #[pv,v])∧IfaceV pv∧Hid (Res R (fun w' t=>PartV w' t pv) w' (parse m false (lv+1) .nil ts deep) v)∧w.grownBy w' (some R.b)):=hid (fun m hm w k ts h1 h2=>hp m hm w R k ts deep h1 hd h2)
 have h3:((lv:Int) == 3)=false:=by rw[beq_eq_false_iff_ne];omega
 obtain⟨PR,hPR⟩:∃PR,PR=parse (n+1) false lv .nil ts deep:=⟨_,rfl⟩
 have HPR:Hid (PR=bnd (parse n false (lv+1) .nil ts deep) fun a r=>parse n true lv a r deep):=hid (by rw[hPR,parse_line (by omega)])
 show Calls _ _ _ _ (fun e w'=>∃(pv v:Value),e=.returned (.tuple #[pv,v])∧IfaceV pv∧Hid (Res R (fun w' t=>PartV w' t pv) w' (parse (n+1) false lv .nil ts deep) v)∧w.grownBy w' (some R.b))
 rw[←hPR]
 clear h hd hts hp hPR
 go_enter Tryz.func68,Tryz.ntmps68
 go_wp2_with fail
 refine(HC.out n (Nat.le_refl _) w k ts H.out (by omega)).mono ?_
 rintro e w1 ⟨pv,v,rfl,hif,hres,hg⟩
 have HG1:Hid (w.grownBy w1 (some R.b)):=hg
 clear hg
 cases hrp:parse n false (lv+1) .nil ts deep with
 | error er=>
  have HE:=hid (hres.out.err hrp)
  obtain⟨fa,rfl⟩:=HE.out.shape
  have HPE:Hid (PR=.error er):=hid (by rw[HPR.out,hrp];rfl)
  clear hres hrp
  go_wp2
  go_ret2
  exact⟨_,_,rfl,Or.inl rfl,by rw[HPE.out];exact HE,HG1.out⟩
 | ok pr=>
  obtain⟨a0,r0⟩:=pr
  obtain⟨rfl,⟨k1,hk1⟩,hv⟩:=hres.out.good hrp
  have HK1:Hid (RK w1 R k1 r0):=hk1
  have HV1:Hid (PartV w1 a0 pv):=hv
  have HP1:Hid (parse n true lv a0 r0 deep=PR):=hid (by rw[HPR.out,hrp];rfl)
  have hlen:r0.length+1≤ts.length:=parse_len n false (lv+1) .nil ts deep _ hrp
  clear hres hrp hk1 hv HPR hif
  go_wp2
  go_loopg [8] r0.length (fun g v8 wr=>∃(a:Tr) (r:List Tok) (k2 m:Nat),g=r.length∧Hid (PartV wr a v8)∧Hid (RK wr R k2 r)∧Hid (10*r.length+5≤m∧m≤n∧parse m true lv a r deep=PR)∧Hid (w.grownBy wr (some R.b)))
  case atStart=>exact⟨a0,r0,k1,n,rfl,HV1,HK1,⟨by omega,Nat.le_refl _,HP1.out⟩,HG1⟩
  case round=>
   obtain⟨a,r,k2,m,hgr,HV,HK,HN,HG⟩:=hrel
   clear HV1 HK1 HP1 HG1
   obtain⟨m,rfl⟩:∃m',m=m'+1:=⟨m - 1,by have:=HN.out.1;omega⟩
   obtain⟨ty,u,hsh⟩:=PartV.shape HV.out
   subst hsh
   go_wp2_with fail
   refine(token_t HK.out).mono ?_
   rintro e w2 ⟨⟨kd,at_,tx,tv⟩,rfl,ht,hb2⟩
   have HK2:Hid (RK w2 R k2 r):=HK.out.below hb2
   have HV2:Hid (PartV w2 a (.iface ty u)):=HV.out.below hb2
   have HG2:Hid (w.grownBy w2 (some R.b)):=grown_trans HG.out (grown_of_below hb2)
   have HWF:=hid HK2.out.wf.head
   clear hb2 HK HV HG
   go_wp2_with fail
   refine(operatorOf_any ⟨kd,at_,tx,tv⟩ _).mono ?_
   rintro e w3 ⟨rfl,hb3⟩
   have HK3:Hid (RK w3 R k2 r):=HK2.out.below hb3
   have HV3:Hid (PartV w3 a (.iface ty u)):=HV2.out.below hb3
   have HG3:Hid (w.grownBy w3 (some R.b)):=grown_trans HG2.out (grown_of_below hb3)
   clear hb3 HK2 HV2 HG2
   cases hop:LS.opAt lv (LS.hd r)with
   | none=>
    have HPL:Hid (PR=.ok (a,r)):=hid (by rw[←HN.out.2.2,parse_stop hop])
    rcases op_none ht.out HWF.out.1 HWF.out.2.2 hlv hop with ho|⟨j,ho,hj4,hrk⟩
    ·rw[ho]
     clear hop ho
     go_wp2
     go_ret2
     exact⟨_,_,rfl,Or.inr ⟨_,_,rfl⟩,by rw[HPL.out];exact⟨rfl,⟨_,HK3.out⟩,HV3.out⟩,HG3.out⟩
    ·rw[ho]
     have hr2:((rankOf j:Int) != lv)=true:=by rw[bne_iff_ne];omega
     rw[show(some j).getD 0=j from rfl,show(some j).isSome=true from rfl]
     clear hop ho
     go_wp2_with (go_at_call 125;refine(rank_any j hj4 _).mono ?_;rintro e wq ⟨rfl,rfl⟩)
     go_ret2
     exact⟨_,_,rfl,Or.inr ⟨_,_,rfl⟩,by rw[HPL.out];exact⟨rfl,⟨_,HK3.out⟩,HV3.out⟩,HG3.out⟩
   | some p=>
    obtain⟨j,ho,hj4,hrk,hno,hk46,hdead⟩:=op_some ht.out HWF.out.1 HWF.out.2.2 hlv hop
    have HPL:Hid ((bnd (parse m false (lv+1) .nil r.tail deep) fun b r=>parse m true lv (.node 0 0 (nd0 p.1 p.2) a b) r deep)=PR):=hid (by rw[←HN.out.2.2,parse_more hop])
    have HNO:Hid (opNo (nd0 p.1 p.2)=j∧(p.1=4∨p.1=6)):=⟨hno,hk46⟩
    have HDE:Hid (¬((LS.hd r).kind=0∨(LS.hd r).kind=5)):=hdead
    have hr2:((rankOf j:Int) != lv)=false:=by rw[bne_eq_false_iff_eq];omega
    rw[ho,show(some j).getD 0=j from rfl,show(some j).isSome=true from rfl]
    obtain⟨rc0,rc1,rfz,rcx⟩:=HK3.out.rd.all
    have hlt:=HK3.out.lt
    have hln:=HK3.out.len
    have hm1:=HN.out.1
    have hm2:=HN.out.2.1
    clear hop ho hno hk46 hdead rcx
    go_upto_region 10 with (go_at_call 125;refine(rank_any j hj4 _).mono ?_;rintro e wq ⟨rfl,rfl⟩)
    refine wp_gen fun W8 hW8=>?_
    have HK8:Hid (RK W8 R (k2+1) r.tail):=hid (by rw[hW8];exact HK3.out.step HDE.out)
    have HG8:Hid (w.grownBy W8 (some R.b)):=hid (by rw[hW8];exact grown_set HG3.out (Or.inl rfl) _)
    have HV8:Hid (PartV W8 a (.iface ty u)):=hid (by rw[hW8];exact HV3.out.read HK3.out (grown_set (grown_refl _ _) (Or.inl rfl) _))
    have hpos:=HK3.out.pos
    have hpos8:=HK8.out.pos
    rw[List.length_tail]at hpos8
    clear hW8 rc0 rc1 rfz HK3 HG3 HV3
    go_wp2_with fail
    refine(HC.out m (by omega) W8 (k2+1) r.tail HK8.out (by rw[List.length_tail];omega)).mono ?_
    rintro e w9 ⟨pv,v,rfl,hif,hres,hg9⟩
    have HG9:Hid (w.grownBy w9 (some R.b)):=grown_trans HG8.out hg9
    have HV9:Hid (PartV w9 a (.iface ty u)):=HV8.out.read HK8.out hg9
    clear hg9 HG8 HV8
    cases hrp:parse m false (lv+1) .nil r.tail deep with
    | error er=>
     have HE:=hid (hres.out.err hrp)
     obtain⟨fa,rfl⟩:=HE.out.shape
     have HPE:Hid (PR=.error er):=hid (by rw[←HPL.out,hrp];rfl)
     clear hres hrp
     go_wp2
     go_ret2
     exact⟨_,_,rfl,Or.inl rfl,by rw[HPE.out];exact HE,HG9.out⟩
    | ok pr=>
     obtain⟨b,y⟩:=pr
     obtain⟨rfl,⟨k9,hk9⟩,hv9⟩:=hres.out.good hrp
     have HK9:Hid (RK w9 R k9 y):=hk9
     have HW9:Hid (PartV w9 b pv):=hv9
     have HP9:Hid (parse m true lv (.node 0 0 (nd0 p.1 p.2) a b) y deep=PR):=hid (by rw[←HPL.out,hrp];rfl)
     have hylen:=parse_len m false (lv+1) .nil r.tail deep _ hrp
     simp only[List.length_tail,Bool.false_eq_true,if_false]at hylen
     obtain⟨ty2,u2,hsh2⟩:=PartV.shape hv9
     subst hsh2
     have HV10:Hid (PartV w9 (.node 0 0 (nd0 p.1 p.2) a b) (.iface 268 (.agg #[.int .i64 j,.iface ty u,.iface ty2 u2]))):=hid (Or.inr (Or.inr (Or.inr (Or.inr (Or.inr ⟨HNO.out.2,_,_,by rw[HNO.out.1],HV9.out,HW9.out⟩)))))
     clear hres hrp hk9 hv9 hif HPL
     go_wp2
     go_roundg y.length
     case measure=>omega
     case rel=>exact⟨_,y,k9,m,rfl,HV10,HK9,⟨by omega,by omega,HP9.out⟩,HG9⟩
theorem all_t:∀n,(∀lv,lv≤3→∀m,m≤n→RP lv m)∧(∀m,m≤n→RF m)
 | 0 => by
   constructor
   · intro lv hlv m hm w R k ts deep _ _ hts
     exact absurd (show 10*ts.length+5≤m+lv from hts) (by omega)
   · intro m hm w R k ts deep _ _ hts
     exact absurd (show 10*ts.length+2≤m from hts) (by omega)
 | n + 1 => by
   obtain⟨ih1,ih2⟩:=all_t n
   have hf:RF (n+1):=by
     intro w R k ts deep h hd hts
     have hts':10*ts.length+2≤n+1:=hts
     show Calls _ _ _ _ (fun e w'=>∃(pv v:Value),e=.returned (.tuple #[pv,v])∧IfaceV pv∧Hid (Res R (fun w' t=>PartV w' t pv) w' (parse (n+1) false 3 .nil ts deep) v)∧w.grownBy w' (some R.b))
     rw[parse_fac]
     refine factor_t (rec:=fun lv ts d=>parse n false lv .nil ts d) (m:=ts.length) ?_ (bracketed_t ?_) w R k ts deep h hd (Nat.le_refl _)
     · intro w R k ts2 deep h hd h2
       exact ih2 n (Nat.le_refl _) w R k ts2 deep h hd (by show 10*ts2.length+2≤n;have h3:ts2.length<ts.length:=h2;omega)
     · intro w R k ts2 deep h hd h2
       exact ih1 0 (by omega) n (Nat.le_refl _) w R k ts2 deep h hd (by show 10*ts2.length+5≤n+0;have h3:ts2.length<ts.length:=h2;omega)
   constructor
   · intro lv hlv m hm
     by_cases h0:m≤n
     · exact ih1 lv hlv m h0
     · obtain rfl:m=n+1:=by omega
       by_cases h3:lv=3
       · subst h3;exact part_fac hf
       · exact part_line (by omega) (fun m hm=>ih1 (lv+1) (by omega) m hm)
   · intro m hm
     by_cases h0:m≤n
     · exact ih2 m h0
     · obtain rfl:m=n+1:=by omega
       exact hf
end Go.Proofs.YtkodhpilkaihjaaGreatDoor
