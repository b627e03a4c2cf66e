/- Parts. -/
import Derived.Test.YtcdgkkfipdoeeaaGreatDoorT35
set_option maxRecDepth 100000
set_option maxHeartbeats 4000000
namespace Go.Proofs.YtcdgkkfipdoeeaaGreatDoor
open Go.RowKit LS
def plB(b:UInt8):Bool:=decide (b.toNat≠32/\b.toNat≠40)
def Zdx(l:List UInt8):Bool:=l.all plB
theorem Zwq(l:List UInt8)(k:Nat)(h:k<l.length):Zdx (l.take (k+1))=(Zdx (l.take k) && plB (l.getD k 0)):=by
 unfold Zdx
 rw[List.take_succ_eq_append_getElem h,List.all_append]
 simp[h]
theorem Zwp(l:List UInt8)(k:Nat)(h:k<l.length)(hb:plB (l.getD k 0)=false):Zdx l=false:=by
 unfold Zdx
 rw[List.all_eq_false]
 refine⟨l[k],List.getElem_mem h,?_⟩
 have:l.getD k 0=l[k]:=by simp[h]
 rw[this]at hb
 simp[hb]
theorem Zwo (s : ByteArray) (hs : s.size <= 1000000000000) (w : World) : Calls Tryz.prog 16 #[.string s] w fun e w' => e = .returned (.bool (Zdx (bl s))) /\ w' = w := by
  go_enter Tryz.func16,Tryz.ntmps16
  go_wp2
  go_loop [3] (fun iv=>∃k:Nat,k<=s.size/\iv=.int .i64 k/\Hid (Zdx ((bl s).take k)=true)) (fun iv=>s.size - (intOf iv).toNat)
  case atStart=>exact⟨0,Nat.zero_le _,rfl,hid rfl⟩
  case round=>
    obtain⟨k,hk,rfl,HP⟩:=hrel
    by_cases hlt:k<s.size
    · have hkz:(k:Int)<s.size:=by omega
      have i0:=ZfH s k hlt
      have hbl:k<(bl s).length:=by rw[Zi];exact hlt
      have HS:=hid (Zwq (bl s) k hbl)
      have HN:=hid (Zwp (bl s) k hbl)
      have HB:Hid (plB ((bl s).getD k 0)=decide (((bl s).getD k 0).toNat≠32/\((bl s).getD k 0).toNat≠40)):=hid rfl
      clear hbl
      generalize plB ((bl s).getD k 0)=pb at *
      generalize((bl s).getD k 0).toNat=x at *
      by_cases h32:x=32
      · subst h32
        have HF:Hid (Zdx (bl s)=false):=hid (HN.out (by rw[HB.out];rfl))
        go_wp2
        go_ret
        exact⟨by rw[HF.out];rfl,rfl⟩
      · have h32z:¬(x:Int)=32:=by omega
        have h32b:((x:Int) == 32)=false:=by simp;omega
        by_cases h40:x=40
        · subst h40
          have HF:Hid (Zdx (bl s)=false):=hid (HN.out (by rw[HB.out];rfl))
          go_wp2
          go_ret
          exact⟨by rw[HF.out];rfl,rfl⟩
        · have h40z:¬(x:Int)=40:=by omega
          have h40b:((x:Int) == 40)=false:=by simp;omega
          have HT:Hid (Zdx ((bl s).take (k+1))=true):=hid (by rw[HS.out,HP.out,HB.out];simp[h32,h40])
          go_wp2
          go_round
          case rel=>exact⟨k+1,by omega,by go_num,HT⟩
          case measure=>simp[intOf];omega
    · have hkz:¬(k:Int)<s.size:=by omega
      have HF:Hid (Zdx (bl s)=true):=hid (by rw[<-HP.out,List.take_of_length_le (by rw[Zi];omega)])
      go_wp2
      go_ret
      exact⟨by rw[HF.out];rfl,rfl⟩
theorem ZpB:∀(T:List (List UInt8)),(∀x∈T,x.length<65536)->(T.flatMap ZX).length<=65538*T.length
 | [],_=>Nat.le_refl _
 | x :: T, h => by
   have h1:=h x (List.mem_cons_self ..)
   have h2:=ZpB T (fun y hy=>h y (List.mem_cons_of_mem _ hy))
   rw[List.flatMap_cons,List.length_append,ZiK,List.length_cons]
   omega
theorem ZxE{q:CodeQ}(h:Shrt q):(ZbB q).length<=100000000000:=by
 have h1:=ZpB _ h.t
 have h2:(Zcu q).length=q.picks.length+q.groups.length:=by simp[Zcu]
 rw[h2]at h1
 have:=h.c
 have:=h.s
 have:=h.g
 have:=h.i
 rw[Zqw]
 unfold offQ
 omega
theorem ZhD{q r:List UInt8}{fl:Int}{c p:Nat}(h:Zbe q fl=(r,c,p)):r.length<=100000000000:=by
 unfold Zbe at h
 cases hr:ZB q with
 | error x=>rw[hr]at h;simp only[Prod.mk.injEq]at h;rw[<-h.1];exact Nat.zero_le _
 | ok t=>
  rw[hr]at h
  simp only at h
  split at h
  ·simp only[Prod.mk.injEq]at h;rw[<-h.1];exact Nat.zero_le _
  ·simp only[Prod.mk.injEq]at h;rw[<-h.1];exact ZxE (ZgL hr _).1
theorem Zs0(f:Nat)(a b:ByteArray)(A:Nat->Addr)(m:Int)(w:World)(hv:Vars w A m)(ht:Zu w)(hB:20<=w.heap.size)(ha:a.size<=9223372036854775807)(hb:b.size<=9223372036854775807)(n p q:Nat)(h1:1<=n)(ra:List UInt8)(hca:Zbe (bl a) f=(ra,0,0))(hia:ZbM ra=some (n,p))
  (hcb:(∃rb,Zbe (bl b) f=(rb,0,0)/\ZbM rb=some (n,q))∨(∃rb x,Zbe (bl b) f=(rb,1,x))∨(∃rb x,Zbe (bl b) f=(rb,3,x))) :
  Calls Tryz.prog 14 #[.int .i64 f,.string a,.string b] w fun e w'=>e=.returned (.bool true)/\Below w.heap.size w w':=by
 have HV:Hid (Vars w A m):=hv
 have HT:Hid (Zu w):=ht
 have HBn:Hid (20<=w.heap.size):=hB
 have HCA:=hid hca
 have HIA:=hid hia
 have HCB:=hid hcb
 have HA:=hid ha
 have HBB:=hid hb
 clear hv ht hB hca hia hcb ha hb
 go_enter Tryz.func14,Tryz.ntmps14
 go_wp2_with fail
 refine(ZjE a f A m w HV.out HT.out HBn.out HA.out).mono ?_
 rintro e w1 ⟨r1,c1,p1,rfl,HR1,hb1⟩
 have HB1:=hid hb1
 obtain⟨hr1,rfl,rfl⟩:bl r1=ra/\c1=0/\p1=0:=by
  have:=HR1.symm.trans HCA.out
  simp only[Prod.mk.injEq]at this
  exact this
 have HS1:=hid (ZhD HR1.out)
 have HI1:Hid (ZbM (bl r1)=some (n,p)):=hid (by rw[hr1];exact HIA.out)
 clear hb1 hr1 HR1 HCA HIA
 go_wp2_with fail
 refine(ZjE b f A m w1 (HV.below HB1.out) (HT.low HB1.out HBn.out) (Nat.le_trans HBn.out HB1.size) HBB.out).mono ?_
 rintro e w2 ⟨r2,c2,p2,rfl,HR2,hb2⟩
 have HB2:=hid (HB1.trans (hb2.mono HB1.size))
 have HS2:=hid (ZhD HR2.out)
 clear hb2
 go_wp2_with fail
 refine(ZgX r1 (by have:=HS1.out;rw[Zi]at this;omega) _).mono ?_
 rintro e w3 ⟨n3,p3,rfl,HX3,hb3⟩
 have HB3:=hid (HB2.trans (hb3.mono HB2.size))
 obtain⟨rfl,rfl⟩:n3=n/\p3=p:=by
  rcases HX3.out with h|⟨q,h,h3,h4⟩
  ·rw[HI1.out]at h;cases h.1
  ·rw[HI1.out]at h;injection h with h;subst h;exact⟨h3,h4⟩
 clear hb3 HX3
 go_wp2_with fail
 refine(ZgX r2 (by have:=HS2.out;rw[Zi]at this;omega) _).mono ?_
 rintro e w4 ⟨n4,p4,rfl,HX4,hb4⟩
 have HB4:=hid (HB3.trans (hb4.mono HB3.size))
 clear hb4
 have h1z:(1:Int)<=n:=by omega
 rcases HCB.out with ⟨rb,h2,h3⟩|⟨rb,x,h2⟩|⟨rb,x,h2⟩
 ·have h5:=HR2.symm.trans h2
  simp only[Prod.mk.injEq]at h5
  obtain⟨h6,rfl,rfl⟩:=h5
  have h7:n4=n:=by
   rcases HX4.out with h|⟨q,h,h3',h4⟩
   ·rw[h6,h3]at h;cases h.1
   ·rw[h6,h3]at h;injection h with h;subst h;exact h3'
  subst h7
  clear h2 h3 h6
  go_wp2
  go_ret
  exact⟨rfl,HB4.out⟩
 ·have h5:=HR2.symm.trans h2
  simp only[Prod.mk.injEq]at h5
  obtain⟨_,rfl,_⟩:=h5
  clear h2
  go_wp2
  go_ret
  exact⟨rfl,HB4.out⟩
 ·have h5:=HR2.symm.trans h2
  simp only[Prod.mk.injEq]at h5
  obtain⟨_,rfl,_⟩:=h5
  clear h2
  go_wp2
  go_ret
  exact⟨rfl,HB4.out⟩
section
variable {g:Gq} {z:Nq}
theorem ZdE(z:Nq)(g:Gq):(addQ z g).2.nodes.getD (addQ z g).1 nq0=z/\(addQ z g).2.fold=g.fold:=by
 by_cases h:g.share=true/\∃i,idxN z g.nodes=some i
 ·obtain⟨h1,i,h2⟩:=h
  rw[Zfc h1 h2]
  exact⟨ZhT h2,rfl⟩
 ·have h1 : g.share = true -> idxN z g.nodes = none := fun h1 => by
    cases hi:idxN z g.nodes with
    | none=>rfl
    | some i=>exact absurd ⟨h1,i,hi⟩ h
  rw[Zfb h1]
  exact⟨by simp,rfl⟩
def Kon(g:Gq)(i:Nat):Prop:=g.fold=true/\∃v,g.nodes.getD i nq0=⟨0,v,none,none⟩
theorem Kon.known{i:Nat}(h:Kon g i):Zbh i g=some (g.nodes.getD i nq0).arg:=by
 obtain⟨v,hv⟩:=h.2
 unfold Zbh;rw[if_pos ⟨h.1,by rw[hv]⟩]
theorem ZfA(hf:g.fold=true)(v:Int):Kon (Zcf v g).2 (Zcf v g).1:=by
 have h:=ZdE ⟨0,v,none,none⟩ g
 exact⟨h.2.trans hf,v,h.1⟩
theorem Zit:∀(t:Tr) (g:Gq),wfT t->isNil t=false->NOk g.nodes->g.sels.length+wT t<=400000->g.grps.length+wT t<=400000->g.fold=true->Zf t=1->Kon (Zb t g).2 (Zb t g).1
 | .nil,_,_,h,_,_,_,_,_=>by cases h
 | .node px py a l r, g, hw, _, hok, hs, hg, hf, hk => by
   have hw0:=hw
   obtain⟨h1,h2,h3,h4,h5,h6,h7,h8,h9,h10,hl,hr⟩:=hw
   have hge:=Ziq a
   have hwe:wT (.node px py a l r)=ownW a+wT l+wT r:=rfl
   rw[hwe]at hs hg
   unfold Zf at hk
   unfold Zb
   by_cases k0:a.kind=0
   · rw[if_pos k0]
     exact ZfA hf _
   · rw[if_neg k0]at hk ⊢
     by_cases k12:a.kind=1∨a.kind=2
     · rw[if_pos k12]at hk;cases hk
     · rw[if_neg k12]at hk
       rw[if_neg (fun h=>k12 (Or.inl h)),if_neg (fun h=>k12 (Or.inr h))]
       have hln:=h7 (by omega)
       have L:=Zfq l g hl hln hok (by omega) (by omega)
       have Ls:=(Zch l g hl).1
       by_cases k3:a.kind=3
       · rw[if_pos k3]at hk ⊢
         have K:=Zit l g hl hln hok (by omega) (by omega) hf hk
         simp only
         unfold negQ
         rw[K.known]
         exact ZfA K.1 _
       · rw[if_neg k3]at hk ⊢
         by_cases k5:a.kind=5
         · rw[if_pos k5]at hk;split at hk <;> cases hk
         · rw[if_neg k5]at hk ⊢
           split at hk
           · cases hk
           · rename_i hc
             split at hk
             · rename_i hsum
               have hl0:Zf l≠0:=fun h=>hc (Or.inl h)
               have hr0:Zf r≠0:=fun h=>hc (Or.inr (Or.inl h))
               have k6:a.kind≠6:=fun h=>hc (Or.inr (Or.inr ⟨h,by omega⟩))
               have K:=Zit l g hl hln hok (by omega) (by omega) hf (by omega)
               have hrn:=h8 (by omega)
               have R:=Zfq r (Zb l g).2 hr hrn L.ok (by have:=Ls.s1;omega) (by have:=Ls.r1;omega)
               have K2:=Zit r (Zb l g).2 hr hrn L.ok (by have:=Ls.s1;omega) (by have:=Ls.r1;omega) K.1 (by omega)
               have K1:Kon (Zb r (Zb l g).2).2 (Zb l g).1:=⟨K2.1,by rw[ZbF R.pre L.lt];exact K.2⟩
               simp only
               rw[if_neg k6]
               unfold Z0
               rw[K1.known,K2.known]
               exact ZfA K2.1 _
             · cases hk
theorem Zxt{t:Tr}(hw:wfT t)(hn:isNil t=false)(ht:wT t<=100000)(hk:Zf t=1){fl:Nat}(hf:fl % 2=1):(ZJ (Zb t (g0 fl)).2 (Zb t (g0 fl)).1).ins=[(0,0)]:=by
 have hg:(g0 fl).fold=true:=by unfold g0;simp[hf]
 have K:=Zit t (g0 fl) hw hn (fun i hi=>absurd hi (Nat.not_lt_zero _)) (by show 0+wT t<=_;omega) (by show 0+wT t<=_;omega) hg hk
 generalize(Zb t (g0 fl)).2=g at *
 generalize(Zb t (g0 fl)).1=i at *
 obtain⟨v,hv⟩:=K.2
 have hop:(g.nodes.getD i nq0).op=0:=by rw[hv]
 have hwk:Zcc g.nodes i=false:=by
  unfold Zcc
  simp only
  rw[if_neg (by omega),hop]
  rfl
 unfold ZJ
 rw[Zci (Zf5 i),if_pos (Or.inr hwk),Zdf (by omega),hv]
 rfl
end
end Go.Proofs.YtcdgkkfipdoeeaaGreatDoor
namespace Go.Proofs.YtcdgkkfipdoeeaaGreatDoor
open Go.RowKit LS
section
variable {g:Gq} {z:Nq}
def N9(g:Gq):Prop:=∀n,opOk (g.nodes.getD n nq0).op
theorem ZeW(h:N9 g)(hz:opOk z.op):N9 (addQ z g).2:=by
 unfold addQ
 split
 ·exact h
 ·intro n
  show opOk ((g.nodes++[z]).getD n nq0).op
  rw[List.getD_eq_getElem?_getD]
  rcases Nat.lt_trichotomy n g.nodes.length with h1|h1|h1
  ·rw[List.getElem?_append_left h1,<-List.getD_eq_getElem?_getD];exact h n
  ·subst h1;simpa using hz
  ·rw[List.getElem?_eq_none (by simp;omega)];decide
theorem Zu8(h:N9 g)(n:Nat):N9 (negQ n g).2:=by unfold negQ;split <;> exact ZeW h ⟨fun e=>(by cases e),by simp⟩
theorem Zu9(h:N9 g)(o x y:Nat):N9 (Z0 o x y g).2:=by unfold Z0;split <;> exact ZeW h ⟨fun e=>(by cases e),by simp⟩
theorem Zoz(h:N9 g)(y:Nd×Nat):N9 (Zx y g).2:=by
 unfold Zx
 split
 ·exact ZeW h ⟨fun e=>(by cases e),by simp⟩
 ·exact ZeW (g:={ g with sels:=g.sels++[y] }) h ⟨fun e=>(by cases e),by simp⟩
theorem Zu7(h:N9 g)(ns:List (List UInt8)):N9 (ZZ ns g).2:=by
 unfold ZZ;split <;> exact h
theorem ZkE:∀(t:Tr) (g:Gq),wfT t->N9 g->N9 (Zb t g).2
 | .nil,_,_,h=>h
 | .node x y a l r, g, hw, h => by
   have hl:=fun g h=>ZkE l g hw.2.2.2.2.2.2.2.2.2.2.1 h
   have hr:=fun g h=>ZkE r g hw.2.2.2.2.2.2.2.2.2.2.2 h
   have h4:=hw.2.2.2.1
   unfold Zb
   split
   · exact ZeW h ⟨fun e=>(by cases e),by simp⟩
   · split
     · exact Zoz h _
     · split
       · exact ZeW (Zoz h _) ⟨fun e=>(by cases e),by simp⟩
       · split
         · exact Zu8 (hl _ h) _
         · split
           · rename_i k5
             have:=h4 k5
             exact ZeW (Zu7 (hl _ h) _) ⟨by show 5+a.op≠9;omega,by show 5+a.op<=13;omega⟩
           · simp only
             split
             · exact ZeW (hr _ (hl _ h)) ⟨fun e=>(by cases e),by simp⟩
             · exact Zu9 (hr _ (hl _ h)) _ _ _
theorem ZrV{t:Tr}(hw:wfT t)(fl:Nat):FwL (ZJ (Zb t (g0 fl)).2 (Zb t (g0 fl)).1).ins/\∀j,opOk ((ZJ (Zb t (g0 fl)).2 (Zb t (g0 fl)).1).ins.getD j (0,0)).1:=by
 have h9:=ZkE t (g0 fl) hw (fun n=>by show opOk (([]:List Nq).getD n nq0).op;simp[nq0];decide)
 have h:=ZhN (nodes:=(Zb t (g0 fl)).2.nodes) (n:=(Zb t (g0 fl)).1) (W:=Zn (Zb t (g0 fl)).2.nodes ((Zb t (g0 fl)).1+1)) (fun c=>Znl h9 _ _ c) (c0 (Zb t (g0 fl)).2)
 have e:(c0 (Zb t (g0 fl)).2).ins.length=0:=rfl
 refine⟨fun j h1 h2=>(h.fw j (by rw[e];exact Nat.zero_le _) h1).2 h2,fun j=>?_⟩
 rcases Nat.lt_or_ge j (ZJ (Zb t (g0 fl)).2 (Zb t (g0 fl)).1).ins.length with h1|h1
 ·exact(h.fw j (by rw[e];exact Nat.zero_le _) h1).1
 ·rw[List.getD_eq_getElem?_getD,List.getElem?_eq_none h1];decide
theorem ZrQ{t:Tr}(hw:wfT t){fl:Nat}(h4:4<=fl):Led (LS.codeOf t fl).ins 0/\∀j,opOk ((LS.codeOf t fl).ins.getD j (0,0)).1:=by
 obtain⟨h1,h2⟩:=ZrV hw fl
 have e:(LS.codeOf t fl).ins=ZbR (ZJ (Zb t (g0 fl)).2 (Zb t (g0 fl)).1).ins:=if_pos h4
 have h3:=Zys h1
 rw[e]
 exact⟨h3.1,fun j=>by rw[h3.2.2];exact h2 j⟩
end
end Go.Proofs.YtcdgkkfipdoeeaaGreatDoor
namespace Go.Proofs.YtcdgkkfipdoeeaaGreatDoor
open Go.RowKit LS
section
variable {nodes:List Nq} {W:Nat->Cq->Cq} {c d e:Cq} {n m x y:Nat} {g g1 g2:Gq} {z:Nq}
def lenQ(nodes:List Nq):Nat->Nat->Nat
 | 0,_=>0
 | f+1,n=>if (nodes.getD n nq0).op=10 then lenQ nodes f ((nodes.getD n nq0).fs.getD 0)+2+lenQ nodes f ((nodes.getD n nq0).sn.getD 0)else ((Zg (nodes.getD n nq0)).map (lenQ nodes f)).sum+1
structure Sg (c:Cq):Prop where
 lf:∀n,c.left.getD n 0<=1
 sl:∀s,c.slots.getD s none=none
theorem Zlq{l:List (Option Int)}(h:∀s,l.getD s none=none)(n:Nat):ZF n l=none:=by
 cases hs:ZF n l with
 | none=>rfl
 | some s=>have:=(Zf4 hs).2;rw[h]at this;cases this
theorem Zn5{p:Nat->Bool}(h:∀n,p n=false):∀n,Zbf p n=none
 | 0=>rfl
 | n+1=>by unfold Zbf;rw[h n];exact Zn5 h n
theorem Sg.shared(h:Sg c)(n:Nat):Zby nodes n c=none:=by
 unfold Zby
 refine Zn5 (fun i=>?_) _
 unfold ZbY
 have:=h.lf i
 generalize(cntQ nodes c.slots (n+1) n (List.replicate nodes.length 0)).getD i 0=k
 by_cases h1:0<k
 ·rw[decide_eq_false (show ¬k<c.left.getD i 0 by omega)];simp
 ·rw[decide_eq_false h1];simp
structure Sx (c d:Cq) (k:Nat):Prop where
 sg:Sg d
 mo:∀m,d.left.getD m 0<=c.left.getD m 0
 ln:d.ins.length=c.ins.length+k
theorem Sg.dec(h:Sg c)(n:Nat):Sg (decL n c)/\(decL n c).left.getD n 0=0/\∀m,(decL n c).left.getD m 0<=c.left.getD m 0:=by
 have hg:∀m,(decL n c).left.getD m 0=if m=n/\n<c.left.length then c.left.getD n 0 - 1 else c.left.getD m 0:=fun m=>Zet _ _ _ _
 have h1:=h.lf n
 refine⟨⟨fun m=>?_,h.sl⟩,?_,fun m=>?_⟩
 ·rw[hg];have:=h.lf m;split <;> omega
 ·rw[hg]
  split
  ·omega
  ·rename_i hn
   rw[List.getD_eq_getElem?_getD,List.getElem?_eq_none (by have:¬n<c.left.length:=fun e=>hn ⟨rfl,e⟩;omega)];rfl
 ·rw[hg];split
  ·rename_i e;rw[e.1];omega
  ·omega
theorem ZiJ{k:Nat}(hW:∀c,Sg c->Sx c (W n c) k)(h:Sg c):Sx c (putQ nodes W n c) k:=by
 obtain⟨h1,h2,h3⟩:=h.dec n
 have q:=hW _ h1
 rw[Zci (Zlq h.sl n),if_pos (Or.inl (by have:=q.mo n;omega))]
 exact⟨q.sg,fun m=>Nat.le_trans (q.mo m) (h3 m),q.ln⟩
theorem Zpx {k : Nat -> Nat} (hW : ∀ n c, Sg c -> Sx c (W n c) (k n)) : ∀ (ts : List Nat) (c : Cq), Sg c -> Sx c (ts.foldl (fun c t => putQ nodes W t c) c) (ts.map k).sum
  | [],c,h=>⟨h,fun _=>Nat.le_refl _,by simp⟩
  | t :: ts, c, h => by
    have q:=ZiJ (nodes:=nodes) (hW t) h
    have r:=Zpx hW ts _ q.sg
    rw[List.foldl_cons]
    exact⟨r.sg,fun m=>Nat.le_trans (r.mo m) (q.mo m),by rw[r.ln,q.ln,List.map_cons,List.sum_cons];omega⟩
theorem Sg.emit(h:Sg c)(op arg:Nat):Sg (Zh op arg c):=⟨h.lf,h.sl⟩
theorem Zpy:∀(f n:Nat) (c:Cq),Sg c->Sx c (Zn nodes f n c) (lenQ nodes f n)
 | 0,n,c,h=>⟨h,fun _=>Nat.le_refl _,rfl⟩
 | f + 1, n, c, h => by
   have hW:=fun n c=>Zpy f n c
   by_cases h10:(nodes.getD n nq0).op=10
   · rw[lenQ,if_pos h10]
     unfold Zn
     simp only
     rw[if_pos h10]
     generalize(nodes.getD n nq0).fs.getD 0=a
     generalize(nodes.getD n nq0).sn.getD 0=b
     unfold Zbl
     rw[ZdF (Or.inl (h.shared b))]
     simp only
     have q:=ZiJ (nodes:=nodes) (hW a) h
     generalize putQ nodes (Zn nodes f) a c=c2 at *
     have r:=ZiJ (nodes:=nodes) (hW b) ((q.sg.emit 10 0).emit 11 0)
     have e:(Zh 11 0 (Zh 10 0 c2)).ins.length=c2.ins.length+2:=by simp[Zh]
     have rm:∀m,(putQ nodes (Zn nodes f) b (Zh 11 0 (Zh 10 0 c2))).left.getD m 0<=c2.left.getD m 0:=r.mo
     have rl:=r.ln
     have rs:=r.sg
     rw[e]at rl
     generalize putQ nodes (Zn nodes f) b (Zh 11 0 (Zh 10 0 c2))=d at *
     refine⟨⟨rs.lf,fun s=>?_⟩,fun m=>Nat.le_trans (rm m) (q.mo m),?_⟩
     · show(Zcb d.slots c2.slots).getD s none=none
       rcases Nat.lt_or_ge s 16 with h1|h1
       · rw[ZiQ _ _ h1,rs.sl s];split <;> rfl
       · rw[List.getD_eq_getElem?_getD,List.getElem?_eq_none (by simp[Zcb];exact h1)];rfl
     · show(d.ins.set _ _).length=_
       rw[List.length_set,rl,q.ln];omega
   · rw[lenQ,if_neg h10,Zdf h10]
     have q:=Zpx (nodes:=nodes) hW (Zg (nodes.getD n nq0)) c h
     generalize(Zg (nodes.getD n nq0)).foldl (fun c t=>putQ nodes (Zn nodes f) t c) c=e at *
     unfold ZbN
     split
     · exact⟨⟨q.sg.lf,q.sg.sl⟩,q.mo,by simp[Zh,q.ln];omega⟩
     · exact⟨⟨q.sg.lf,q.sg.sl⟩,q.mo,by simp[Zh,q.ln];omega⟩
theorem ZhA(hu:∀n,g.uses.getD n 0<=1)(r:Nat):(ZJ g r).ins.length=lenQ g.nodes (r+1) r:=by
 have h : Sg (c0 g) := ⟨hu, fun s => by
   show(List.replicate 16 none).getD s none=none
   rw[List.getD_eq_getElem?_getD,List.getElem?_replicate];split <;> rfl⟩
 have:=(ZiJ (nodes:=g.nodes) (fun c hc=>Zpy (nodes:=g.nodes) (r+1) r c hc) h).ln
 unfold ZJ
 rw[this]
 show 0+_=_
 omega
structure Ext (g g1:Gq):Prop where
 nd:g.nodes <+: g1.nodes
 us:∀n,g1.uses.getD n 0=g.uses.getD n 0
 se:g1.sels=g.sels
 gr:g1.grps=g.grps
 fo:g1.fold=g.fold
 sh:g1.share=g.share
theorem Ext.refl(g:Gq):Ext g g:=⟨List.prefix_refl _,fun _=>rfl,rfl,rfl,rfl,rfl⟩
theorem Ext.trans(h:Ext g g1)(q:Ext g1 g2):Ext g g2:=⟨h.nd.trans q.nd,fun n=>(q.us n).trans (h.us n),q.se.trans h.se,q.gr.trans h.gr,q.fo.trans h.fo,q.sh.trans h.sh⟩
theorem Zgh(u:List Nat)(n:Nat):(u++[0]).getD n 0=u.getD n 0:=by
 rw[List.getD_eq_getElem?_getD,List.getD_eq_getElem?_getD]
 rcases Nat.lt_or_ge n u.length with h|h
 ·rw[List.getElem?_append_left h]
 ·rw[List.getElem?_append_right h,List.getElem?_eq_none h]
  rcases Nat.eq_zero_or_pos (n - u.length)with e|e
  ·rw[e];rfl
  ·rw[List.getElem?_eq_none (show 1<=n - u.length from e)]
theorem ZeJ(z:Nq)(g:Gq):(∃i,g.share=true/\idxN z g.nodes=some i/\addQ z g=(i,g))∨((g.share=true->idxN z g.nodes=none)/\addQ z g=(g.nodes.length,{ g with nodes:=g.nodes++[z],uses:=(Zg z).foldl bump (g.uses++[0]) })):=by
 by_cases h:g.share=true/\∃i,idxN z g.nodes=some i
 ·obtain⟨h1,i,h2⟩:=h
  exact Or.inl ⟨i,h1,h2,Zfc h1 h2⟩
 ·have h1 : g.share = true -> idxN z g.nodes = none := fun h1 => by
    cases hi:idxN z g.nodes with
    | none=>rfl
    | some i=>exact absurd ⟨h1,i,hi⟩ h
  exact Or.inr ⟨h1,Zfb h1⟩
theorem ZjH(v:Int)(g:Gq):Ext g (Zcf v g).2:=by
 unfold Zcf
 rcases ZeJ ⟨0,v,none,none⟩ g with ⟨i,_,_,h⟩|⟨_,h⟩
 ·rw[h];exact Ext.refl g
 ·rw[h];exact⟨List.prefix_append _ _,fun n=>Zgh _ _,rfl,rfl,rfl,rfl⟩
theorem Kon.ext{i:Nat}(h:Kon g i)(hi:i<g.nodes.length)(q:Ext g g1):Kon g1 i:=⟨q.fo.trans h.1,by rw[ZbF q.nd hi];exact h.2⟩
theorem Zhb:∀(t:Tr) (g:Gq),wfT t->isNil t=false->g.fold=true->Zf t=1->Kon (Zb t g).2 (Zb t g).1/\Ext g (Zb t g).2
 | .nil,_,_,h,_,_=>by cases h
 | .node px py a l r, g, hw, _, hf, hk => by
   obtain⟨h1,h2,h3,h4,h5,h6,h7,h8,h9,h10,hl,hr⟩:=hw
   unfold Zf at hk
   unfold Zb
   by_cases k0:a.kind=0
   · rw[if_pos k0]
     exact⟨ZfA hf _,ZjH _ _⟩
   · rw[if_neg k0]at hk ⊢
     by_cases k12:a.kind=1∨a.kind=2
     · rw[if_pos k12]at hk;cases hk
     · rw[if_neg k12]at hk
       rw[if_neg (fun h=>k12 (Or.inl h)),if_neg (fun h=>k12 (Or.inr h))]
       have hln:=h7 (by omega)
       by_cases k3:a.kind=3
       · rw[if_pos k3]at hk ⊢
         obtain⟨K,E⟩:=Zhb l g hl hln hf hk
         simp only
         unfold negQ
         rw[K.known]
         exact⟨ZfA K.1 _,E.trans (ZjH _ _)⟩
       · rw[if_neg k3]at hk ⊢
         by_cases k5:a.kind=5
         · rw[if_pos k5]at hk;split at hk <;> cases hk
         · rw[if_neg k5]at hk ⊢
           split at hk
           · cases hk
           · rename_i hc
             split at hk
             · rename_i hsum
               have hl0:Zf l≠0:=fun h=>hc (Or.inl h)
               have hr0:Zf r≠0:=fun h=>hc (Or.inr (Or.inl h))
               have k6:a.kind≠6:=fun h=>hc (Or.inr (Or.inr ⟨h,by omega⟩))
               obtain⟨K,E⟩:=Zhb l g hl hln hf (by omega)
               have Kl:=(Zch l g hl).2 hln
               obtain⟨K2,E2⟩:=Zhb r (Zb l g).2 hr (h8 (by omega)) K.1 (by omega)
               have K1:=K.ext Kl E2
               simp only
               rw[if_neg k6]
               unfold Z0
               rw[K1.known,K2.known]
               exact⟨ZfA K2.1 _,(E.trans E2).trans (ZjH _ _)⟩
             · cases hk
def Us(g:Gq)(T:List Nat):Prop:=∀n,g.uses.getD n 0<=T.count n
theorem Zrr(u:List Nat)(t n:Nat):(bump u t).getD n 0<=u.getD n 0+(if t=n then 1 else 0):=by
 unfold bump
 rw[Zet]
 split
 ·rename_i h;rw[if_pos h.1.symm,h.1];omega
 ·omega
theorem Zjx:∀(ts u:List Nat) (n:Nat),(ts.foldl bump u).getD n 0<=u.getD n 0+ts.count n
 | [],u,n=>by simp
 | t :: ts, u, n => by
   have h1:=Zjx ts (bump u t) n
   have h2:=Zrr u t n
   rw[List.foldl_cons,List.count_cons]
   have e:(if (t == n)=true then 1 else 0)=if t=n then 1 else 0:=by simp
   rw[e]
   omega
theorem Us.add{T:List Nat}(h:Us g T)(z:Nq):Us (addQ z g).2 (Zg z++T):=by
 intro n
 have h1:=h n
 rw[List.count_append]
 rcases ZeJ z g with ⟨i,_,_,e⟩|⟨_,e⟩
 ·rw[e];show g.uses.getD n 0<=_;omega
 ·rw[e]
  have h2:=Zjx (Zg z) (g.uses++[0]) n
  rw[Zgh]at h2
  show((Zg z).foldl bump (g.uses++[0])).getD n 0<=_
  omega
theorem Us.ext{T:List Nat}(h:Us g T)(q:Ext g g1):Us g1 T:=fun n=>by rw[q.us];exact h n
end
end Go.Proofs.YtcdgkkfipdoeeaaGreatDoor
namespace Go.Proofs.YtcdgkkfipdoeeaaGreatDoor
open Go.RowKit LS
section
variable {nodes nodes':List Nq} {n m x y i j:Nat} {g g1 g2 k:Gq} {z:Nq}
theorem Znw{l l':List Nq}(hp:l <+: l'):∀ {i:Nat},idxN z l=some i->idxN z l'=some i:=by
 obtain⟨t,rfl⟩:=hp
 induction l with
 | nil=>intro i h;cases h
 | cons y l ih=>
  intro i h
  rw[List.cons_append]
  unfold idxN at h ⊢
  split at h
  ·rename_i e;rw[if_pos e];exact h
  ·rename_i e
   rw[if_neg e]
   rw[Option.map_eq_some_iff]at h ⊢
   obtain⟨j,h1,h2⟩:=h
   exact⟨j,ih h1,h2⟩
theorem Znv:∀ {l:List Nq},idxN z l=none->idxN z (l++[z])=some l.length
 | [],_=>by simp[idxN]
 | y :: l, h => by
   rw[List.cons_append]
   unfold idxN at h ⊢
   split at h
   · cases h
   · rename_i e
     rw[Option.map_eq_none_iff]at h
     rw[if_neg e,Znv h]
     rfl
theorem ZhV{w:List UInt8}{l l':List (List UInt8)}(hp:l <+: l'):∀ {i:Nat},idx w l=some i->idx w l'=some i:=by
 obtain⟨t,rfl⟩:=hp
 induction l with
 | nil=>intro i h;cases h
 | cons y l ih=>
  intro i h
  rw[List.cons_append]
  unfold idx at h ⊢
  split at h
  ·rename_i e;rw[if_pos e];exact h
  ·rename_i e
   rw[if_neg e]
   rw[Option.map_eq_some_iff]at h ⊢
   obtain⟨j,h1,h2⟩:=h
   exact⟨j,ih h1,h2⟩
theorem Zkd{w:List UInt8} : ∀ {l:List (List UInt8)},idx w l=none->idx w (l++[w])=some l.length
 | [],_=>by simp[idx]
 | y :: l, h => by
   rw[List.cons_append]
   unfold idx at h ⊢
   split at h
   · cases h
   · rename_i e
     rw[Option.map_eq_none_iff]at h
     rw[if_neg e,Zkd h]
     rfl
structure Px (g k:Gq):Prop where
 nd:g.nodes <+: k.nodes
 se:g.sels <+: k.sels
 gr:g.grps <+: k.grps
 fo:k.fold=g.fold
 sh:k.share=g.share
theorem Px.refl(g:Gq):Px g g:=⟨List.prefix_refl _,List.prefix_refl _,List.prefix_refl _,rfl,rfl⟩
theorem Px.trans(h:Px g g1)(q:Px g1 g2):Px g g2:=⟨h.nd.trans q.nd,h.se.trans q.se,h.gr.trans q.gr,q.fo.trans h.fo,q.sh.trans h.sh⟩
theorem ZbU(z:Nq)(g:Gq):Px g (addQ z g).2:=by
 rcases ZeJ z g with ⟨i,_,_,e⟩|⟨_,e⟩
 ·rw[e];exact Px.refl g
 ·rw[e];exact⟨List.prefix_append _ _,List.prefix_refl _,List.prefix_refl _,rfl,rfl⟩
theorem ZdD(hs:g.share=true)(h:Px (addQ z g).2 k):addQ z k=((addQ z g).1,k):=by
 rcases ZeJ z g with ⟨i,_,hi,e⟩|⟨hn,e⟩
 ·rw[e]at h ⊢
  exact Zfc (h.sh.trans hs) (Znw h.nd hi)
 ·rw[e]at h ⊢
  exact Zfc (h.sh.trans hs) (Znw h.nd (Znv (hn hs)))
theorem Zkm(h:Px g k)(hn:n<g.nodes.length):Zbh n k=Zbh n g:=by unfold Zbh;rw[h.fo,ZbF h.nd hn]
theorem ZkI(n:Nat)(g:Gq):Px g (negQ n g).2:=by unfold negQ;split <;> exact ZbU _ _
theorem Zvh(hs:g.share=true)(hn:n<g.nodes.length)(h:Px (negQ n g).2 k):negQ n k=((negQ n g).1,k):=by
 have hk:=Zkm ((ZkI n g).trans h) hn
 unfold negQ at h ⊢
 rw[hk]
 cases hv:Zbh n g with
 | none=>rw[hv]at h;exact ZdD hs h
 | some v=>rw[hv]at h;exact ZdD hs h
theorem Zis(o x y:Nat)(g:Gq):Px g (Z0 o x y g).2:=by unfold Z0;split <;> exact ZbU _ _
theorem Zv5{o:Nat}(hs:g.share=true)(hx:x<g.nodes.length)(hy:y<g.nodes.length)(h:Px (Z0 o x y g).2 k):Z0 o x y k=((Z0 o x y g).1,k):=by
 have hk:=Zkm ((Zis o x y g).trans h) hx
 have hk2:=Zkm ((Zis o x y g).trans h) hy
 unfold Z0 at h ⊢
 rw[hk,hk2]
 cases hv:Zbh x g with
 | none=>rw[hv]at h;exact ZdD hs h
 | some v=>
  cases hu:Zbh y g with
  | none=>rw[hv,hu]at h;exact ZdD hs h
  | some u=>rw[hv,hu]at h;exact ZdD hs h
theorem Ziu(q:Nd×Nat)(g:Gq):Px g (Zx q g).2:=by
 unfold Zx
 split
 ·exact ZbU _ _
 ·exact(show Px g { g with sels:=g.sels++[q] } from⟨List.prefix_refl _,List.prefix_append _ _,List.prefix_refl _,rfl,rfl⟩).trans (ZbU _ _)
theorem ZoX{q:Nd×Nat}(hs:g.share=true)(h:Px (Zx q g).2 k):Zx q k=((Zx q g).1,k):=by
 unfold Zx at h ⊢
 cases hi:idx (ZM q) (g.sels.map ZM)with
 | some i=>
  rw[hi]at h
  have h1:=((ZbU _ _).trans h).se.map ZM
  rw[ZhV h1 hi]
  exact ZdD hs h
 | none=>
  rw[hi]at h
  have h1:=((ZbU _ _).trans h).se.map ZM
  have h2:=Zkd hi
  rw[List.length_map]at h2
  rw[ZhV h1 (by rw[List.map_append];exact h2)]
  exact ZdD (g:={ g with sels:=g.sels++[q] }) hs h
theorem Zj9(ns:List (List UInt8))(g:Gq):Px g (ZZ ns g).2:=by
 unfold ZZ
 split
 ·exact Px.refl g
 ·exact⟨List.prefix_refl _,List.prefix_refl _,List.prefix_append _ _,rfl,rfl⟩
theorem Ztd{ns:List (List UInt8)}(h:Px (ZZ ns g).2 k):ZZ ns k=((ZZ ns g).1,k):=by
 unfold ZZ at h ⊢
 cases hi:idx (commas (ZbC ns)) (g.grps.map commas)with
 | some i=>
  rw[hi]at h
  rw[ZhV (h.gr.map commas) hi]
 | none=>
  rw[hi]at h
  have h2:=Zkd hi
  rw[List.length_map]at h2
  rw[ZhV (h.gr.map commas) (by rw[List.map_append];exact h2)]
theorem Zee:∀(t:Tr) (g:Gq),Px g (Zb t g).2
 | .nil,g=>Px.refl g
 | .node _ _ a l r, g => by
   have hl:=Zee l
   have hr:=Zee r
   unfold Zb
   split
   · exact ZbU _ _
   · split
     · exact Ziu _ _
     · split
       · exact(Ziu _ _).trans (ZbU _ _)
       · split
         · exact(hl g).trans (ZkI _ _)
         · split
           · exact((hl g).trans (Zj9 _ _)).trans (ZbU _ _)
           · simp only
             split
             · exact((hl g).trans (hr _)).trans (ZbU _ _)
             · exact((hl g).trans (hr _)).trans (Zis _ _ _ _)
theorem Zk2:∀(t:Tr) (g k:Gq),wfT t->isNil t=false->g.share=true->Px (Zb t g).2 k->Zb t k=((Zb t g).1,k)
 | .nil,_,_,_,h,_,_=>by cases h
 | .node _ _ a l r, g, k, hw, _, hs, h => by
   obtain⟨h1,h2,h3,h4,h5,h6,h7,h8,h9,h10,hl,hr⟩:=hw
   unfold Zb at h ⊢
   by_cases k0:a.kind=0
   · rw[if_pos k0]at h ⊢;rw[if_pos k0];exact ZdD hs h
   · rw[if_neg k0]at h ⊢
     rw[if_neg k0]
     by_cases k1:a.kind=1
     · rw[if_pos k1]at h ⊢;rw[if_pos k1];exact ZoX hs h
     · rw[if_neg k1]at h ⊢
       rw[if_neg k1]
       by_cases k2:a.kind=2
       · rw[if_pos k2]at h ⊢
         rw[if_pos k2]
         simp only at h ⊢
         rw[ZoX hs ((ZbU _ _).trans h)]
         exact ZdD ((Ziu _ _).sh.trans hs) h
       · rw[if_neg k2]at h ⊢
         rw[if_neg k2]
         have hln:=h7 (by omega)
         have L:=Zk2 l g
         have Ll:=(Zch l g hl).2 hln
         have Ls:=(Zee l g).sh.trans hs
         by_cases k3:a.kind=3
         · rw[if_pos k3]at h ⊢
           rw[if_pos k3]
           simp only at h ⊢
           rw[L k hl hln hs ((ZkI _ _).trans h)]
           exact Zvh Ls Ll h
         · rw[if_neg k3]at h ⊢
           rw[if_neg k3]
           by_cases k5:a.kind=5
           · rw[if_pos k5]at h ⊢
             rw[if_pos k5]
             simp only at h ⊢
             have hg:=(ZbU _ _).trans h
             rw[L k hl hln hs ((Zj9 _ _).trans hg)]
             simp only
             rw[Ztd hg]
             exact ZdD ((Zj9 _ _).sh.trans Ls) h
           · rw[if_neg k5]at h ⊢
             rw[if_neg k5]
             simp only at h ⊢
             have hrn:=h8 (by omega)
             have Rl:=(Zch r (Zb l g).2 hr).2 hrn
             have Rs:=(Zee r (Zb l g).2).sh.trans Ls
             have hlt:=Nat.lt_of_lt_of_le Ll (Zee r (Zb l g).2).nd.length_le
             have hq:Px (Zb r (Zb l g).2).2 k:=by
               split at h
               · exact(ZbU _ _).trans h
               · exact(Zis _ _ _ _).trans h
             rw[L k hl hln hs ((Zee _ _).trans hq)]
             simp only
             rw[Zk2 r (Zb l g).2 k hr hrn Ls hq]
             simp only
             by_cases k6:a.kind=6
             · rw[if_pos k6]at h ⊢;rw[if_pos k6];exact ZdD Rs h
             · rw[if_neg k6]at h ⊢;rw[if_neg k6];exact Zv5 Rs hlt Rl h
def Frm(z:Nq):Prop:=(z.op<=1->Zg z=[])/\(z.op=4->z.sn=none)
theorem Zes{o:Nat}{v:Int} : Frm ⟨o,v,none,none⟩:=⟨fun _=>rfl,fun _=>rfl⟩
theorem Zj4{o n:Nat}{v:Int}(h:2<=o):Frm ⟨o,v,some n,none⟩:=⟨fun h1=>absurd (show o<=1 from h1) (by omega),fun _=>rfl⟩
theorem Zj5{o n m:Nat}{v:Int}(h:2<=o)(h4:o≠4):Frm ⟨o,v,some n,some m⟩:=⟨fun h1=>absurd (show o<=1 from h1) (by omega),fun h1=>absurd h1 h4⟩
theorem Zhc(P:Gq->Prop)(ha:∀z g,Frm z->P g->P (addQ z g).2)(hs:∀g s r,P g->P { g with sels:=s,grps:=r }):∀(t:Tr) (g:Gq),P g->P (Zb t g).2
 | .nil,_,h=>h
 | .node _ _ a l r, g, h => by
   have hl:=Zhc P ha hs l
   have hr:=Zhc P ha hs r
   have hp : ∀ q g, P g -> P (Zx q g).2 := fun q g h => by
     unfold Zx
     split
     · exact ha _ _ Zes h
     · exact ha _ _ Zes (hs g _ g.grps h)
   have hg : ∀ ns g, P g -> P (ZZ ns g).2 := fun ns g h => by
     unfold ZZ
     split
     · exact h
     · exact hs g g.sels _ h
   unfold Zb
   split
   · exact ha _ _ Zes h
   · split
     · exact hp _ _ h
     · split
       · exact ha _ _ (Zj4 (by decide)) (hp _ _ h)
       · split
         · simp only
           unfold negQ
           split
           · exact ha _ _ Zes (hl _ h)
           · exact ha _ _ (Zj4 (by decide)) (hl _ h)
         · split
           · exact ha _ _ (Zj4 (by omega)) (hg _ _ (hl _ h))
           · simp only
             split
             · exact ha _ _ (Zj5 (by decide) (by decide)) (hr _ (hl _ h))
             · unfold Z0
               split
               · exact ha _ _ Zes (hr _ (hl _ h))
               · exact ha _ _ (Zj5 (by decide) (by decide)) (hr _ (hl _ h))
theorem ZiL(l:List Nq)(z:Nq)(n:Nat):(l++[z]).getD n nq0=if n<l.length then l.getD n nq0 else if n=l.length then z else nq0:=by
 rw[List.getD_eq_getElem?_getD]
 rcases Nat.lt_trichotomy n l.length with h1|h1|h1
 ·rw[List.getElem?_append_left h1,<-List.getD_eq_getElem?_getD,if_pos h1]
 ·subst h1;simp
 ·rw[List.getElem?_eq_none (by simp;omega),if_neg (by omega),if_neg (by omega)];rfl
def Lf(nodes:List Nq):Prop:=∀n,Frm (nodes.getD n nq0)
theorem Zku (t : Tr) (g : Gq) (h : Lf g.nodes) : Lf (Zb t g).2.nodes := Zhc (fun g => Lf g.nodes) (fun z g hz h => by
  rcases ZeJ z g with ⟨i,_,_,e⟩|⟨_,e⟩
  · rw[e];exact h
  · rw[e]
    intro n
    show Frm ((g.nodes++[z]).getD n nq0)
    rw[ZiL]
    split
    · exact h n
    · split
      · exact hz
      · exact Zes) (fun _ _ _ h=>h) t g h
def rem(nodes:List Nq)(W:Nat->Bool)(x:Nat):Nat->Nat
 | 0=>0
 | N+1=>rem nodes W x N+if W N=true then 0 else (Zg (nodes.getD N nq0)).count x
theorem ZiC{W V:Nat->Bool} : ∀(N:Nat),(∀n,n<N->nodes'.getD n nq0=nodes.getD n nq0/\W n=V n)->rem nodes' W x N=rem nodes V x N
 | 0,_=>rfl
 | N + 1, h => by
   obtain⟨h1,h2⟩:=h N (by omega)
   unfold rem
   rw[ZiC N (fun n hn=>h n (by omega)),h1,h2]
theorem Zli{W:Nat->Bool} : ∀(N:Nat),(∀n,n<N->W n=true∨x∉Zg (nodes.getD n nq0))->rem nodes W x N=0
 | 0,_=>rfl
 | N + 1, h => by
   unfold rem
   rw[Zli N (fun n hn=>h n (by omega))]
   rcases h N (by omega)with e|e
   · rw[if_pos e]
   · rw[List.count_eq_zero_of_not_mem e];simp
theorem Zpd {W : Nat -> Bool} (hn : W n = false) : ∀ (N : Nat), n < N -> rem nodes (fun y => W y || decide (y = n)) x N + (Zg (nodes.getD n nq0)).count x = rem nodes W x N
  | 0,h=>absurd h (Nat.not_lt_zero _)
  | N + 1, h => by
    unfold rem
    by_cases e:n=N
    · subst e
      rw[ZiC (nodes:=nodes) (V:=W) n (fun y hy=>⟨rfl,by rw[decide_eq_false (show ¬y=n by omega)];simp⟩)]
      simp[hn]
    · have:=Zpd hn N (by omega)
      rw[decide_eq_false (show ¬N=n by omega)]
      simp only[Bool.or_false]
      omega
def UsR(g:Gq):Prop:=∀x,g.uses.getD x 0<=rem g.nodes (fun _=>false) x g.nodes.length
theorem Zzv (t : Tr) (g : Gq) (h : UsR g) : UsR (Zb t g).2 := Zhc UsR (fun z g _ h => by
  rcases ZeJ z g with ⟨i,_,_,e⟩|⟨_,e⟩
  · rw[e];exact h
  · rw[e]
    intro x
    have h1:=h x
    have h2:=Zjx (Zg z) (g.uses++[0]) x
    rw[Zgh]at h2
    show((Zg z).foldl bump (g.uses++[0])).getD x 0<=rem (g.nodes++[z]) (fun _=>false) x (g.nodes++[z]).length
    rw[show(g.nodes++[z]).length=g.nodes.length+1 by simp]
    unfold rem
    rw[ZiC (nodes:=g.nodes) (V:=fun _=>false) g.nodes.length (fun n hn=>⟨by rw[ZiL,if_pos hn],rfl⟩),show(g.nodes++[z]).getD g.nodes.length nq0=z by simp]
    simp only[Bool.false_eq_true,if_false]
    omega) (fun _ _ _ h=>h) t g h
theorem Zzu (t : Tr) (g : Gq) (h : g.uses.length = g.nodes.length) : (Zb t g).2.uses.length = (Zb t g).2.nodes.length := Zhc (fun g => g.uses.length = g.nodes.length) (fun z g _ h => by
  rcases ZeJ z g with ⟨i,_,_,e⟩|⟨_,e⟩
  · rw[e];exact h
  · rw[e]
    show((Zg z).foldl bump (g.uses++[0])).length=(g.nodes++[z]).length
    rw[Zj0];simp[h]) (fun _ _ _ h=>h) t g h
def Cl(nodes:List Nq)(W:Nat->Prop):Prop:=∀y,W y->∀t∈Zg (nodes.getD y nq0),W t
theorem Cl.pre {W : Nat -> Prop} (h : Cl nodes' W) (hp : nodes <+: nodes') : Cl nodes W := fun y hy t ht => by
  rcases Nat.lt_or_ge y nodes.length with h1|h1
  · exact h y hy t (by rw[ZbF hp h1];exact ht)
  · rw[List.getD_eq_getElem?_getD,List.getElem?_eq_none h1]at ht;cases ht
def Rea(g g':Gq)(I:List Nat):Prop:=∀W:Nat->Prop,Cl g'.nodes W->(∀i∈I,W i)->∀y,g.nodes.length<=y->Zg (g'.nodes.getD y nq0)≠[]->W y
theorem Rea.app {I J : List Nat} (h : Rea g g1 I) (q : Rea g1 g2 J) (hp : g1.nodes <+: g2.nodes) : Rea g g2 (I ++ J) := fun W hc hi y hy ht => by
  rcases Nat.lt_or_ge y g1.nodes.length with h1|h1
  · exact h W (hc.pre hp) (fun i hi'=>hi i (List.mem_append_left _ hi')) y hy (by rw[<-ZbF hp h1];exact ht)
  · exact q W hc (fun i hi'=>hi i (List.mem_append_right _ hi')) y h1 ht
theorem Rea.close {I : List Nat} (h : Rea g g2 I) (hj : ∀ i ∈ I, i = j ∨ i ∈ Zg (g2.nodes.getD j nq0)) : Rea g g2 [j] := fun W hc hi => h W hc (fun i hi' => by
  have hw:=hi j (List.mem_singleton.2 rfl)
  rcases hj i hi' with e|e
  · rw[e];exact hw
  · exact hc j hw i e)
theorem Rea.leaf (h : Rea g g2 [i]) (hi : Zg (g2.nodes.getD i nq0) = []) : Rea g g2 [] := fun W _ _ y hy ht => by
  have:=h (fun y=>y=i) (fun y hy t ht=>by subst hy;rw[hi]at ht;cases ht) (fun k hk=>List.mem_singleton.1 hk) y hy ht
  rw[this]at ht
  exact absurd hi ht
theorem ZeC (z : Nq) (g : Gq) : Rea g (addQ z g).2 [(addQ z g).1] := fun W _ hi y hy ht => by
  rcases ZeJ z g with ⟨i,_,_,e⟩|⟨_,e⟩
  · rw[e]at ht
    rw[List.getD_eq_getElem?_getD,List.getElem?_eq_none hy]at ht
    exact absurd rfl ht
  · rw[e]at hi ht
    have ht':Zg ((g.nodes++[z]).getD y nq0)≠[]:=ht
    rw[ZiL,if_neg (by omega)]at ht'
    split at ht'
    · rename_i e2;rw[e2];exact hi _ (List.mem_singleton.2 rfl)
    · exact absurd rfl ht'
theorem Rea.sels{s:List (Nd×Nat)}{r:List (List (List UInt8))}{I:List Nat}(h:Rea { g with sels:=s,grps:=r } g2 I):Rea g g2 I:=h
theorem Zkl(hl:Lf g.nodes){v:Int}(h:Zbh n g=some v):Zg (g.nodes.getD n nq0)=[]:=by
 unfold Zbh at h
 split at h
 ·rename_i e;exact(hl n).1 (by rw[e.2];decide)
 ·cases h
theorem Zk4:∀(t:Tr) (g:Gq),wfT t->isNil t=false->Lf g.nodes->Rea g (Zb t g).2 [(Zb t g).1]
 | .nil,_,_,h,_=>by cases h
 | .node _ _ a l r, g, hw, _, hf => by
   obtain⟨h1,h2,h3,h4,h5,h6,h7,h8,h9,h10,hl,hr⟩:=hw
   have hp : ∀ q g, Rea g (Zx q g).2 [(Zx q g).1] := fun q g => by
     unfold Zx
     split
     · exact ZeC _ _
     · exact Rea.sels (g:=g) (s:=g.sels++[q]) (r:=g.grps) (ZeC _ _)
   unfold Zb
   by_cases k0:a.kind=0
   · rw[if_pos k0];exact ZeC _ _
   · rw[if_neg k0]
     by_cases k1:a.kind=1
     · rw[if_pos k1];exact hp _ _
     · rw[if_neg k1]
       by_cases k2:a.kind=2
       · rw[if_pos k2]
         simp only
         refine((hp _ _).app (ZeC _ _) (ZbU _ _).nd).close (fun i hi=>?_)
         rw[(ZdE _ _).1]
         simp at hi
         rcases hi with e|e
         · right;rw[e];simp[Zg]
         · exact Or.inl e
       · rw[if_neg k2]
         have hln:=h7 (by omega)
         have L:=Zk4 l g hl hln hf
         have Lfl:=Zku l g hf
         by_cases k3:a.kind=3
         · rw[if_pos k3]
           simp only
           unfold negQ
           split
           · rename_i v hv
             exact((L.leaf (Zkl Lfl hv)).app (ZeC _ _) (ZbU _ _).nd)
           · refine(L.app (ZeC _ _) (ZbU _ _).nd).close (fun i hi=>?_)
             rw[(ZdE _ _).1]
             simp at hi
             rcases hi with e|e
             · right;rw[e];simp[Zg]
             · exact Or.inl e
         · rw[if_neg k3]
           by_cases k5:a.kind=5
           · rw[if_pos k5]
             simp only
             have hgn:=(ZgU a.by_ (Zb l g).2).2.2
             have L':Rea g (ZZ a.by_ (Zb l g).2).2 [(Zb l g).1]:=by unfold Rea;rw[hgn];exact L
             refine(L'.app (ZeC _ _) (ZbU _ _).nd).close (fun i hi=>?_)
             rw[(ZdE _ _).1]
             simp at hi
             rcases hi with e|e
             · right;rw[e];simp[Zg]
             · exact Or.inl e
           · rw[if_neg k5]
             simp only
             have hrn:=h8 (by omega)
             have R:=Zk4 r (Zb l g).2 hr hrn Lfl
             have Lfr:=Zku r (Zb l g).2 Lfl
             have hpr:=(Zee r (Zb l g).2).nd
             have Ll:=(Zch l g hl).2 hln
             have fin : ∀ {z : Nq}, Zg z = [(Zb l g).1, (Zb r (Zb l g).2).1] -> Rea g (addQ z (Zb r (Zb l g).2).2).2 [(addQ z (Zb r (Zb l g).2).2).1] := fun {z} hz => by
               refine((L.app R hpr).app (ZeC z _) (ZbU _ _).nd).close (fun i hi=>?_)
               rw[(ZdE _ _).1,hz]
               simp at hi
               rcases hi with e|e|e
               · right;rw[e];simp
               · right;rw[e];simp
               · exact Or.inl e
             split
             · exact fin rfl
             · unfold Z0
               split
               · rename_i u v hu hv
                 have q1:Rea g (Zb r (Zb l g).2).2 []:=(L.leaf (by
                   have:=Zkl Lfr hu
                   rw[ZbF hpr Ll]at this
                   exact this)).app (R.leaf (Zkl Lfr hv)) hpr
                 exact q1.app (ZeC _ _) (ZbU _ _).nd
               · exact fin rfl
end
end Go.Proofs.YtcdgkkfipdoeeaaGreatDoor
