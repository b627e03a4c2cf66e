/- Parts. -/
import Derived.Test.YtcdgkkfipdoeeaaGreatDoorT06
import Derived.Laws.IdiomRangeMap
set_option maxRecDepth 100000
set_option maxHeartbeats 8000000
namespace Go.Proofs.YtcdgkkfipdoeeaaGreatDoor
open Go.RowKit LS
section
variable {w w' w1 w2:World} {X:CX} {cv iv cv' iv':Value} {c c':Cq} {S S1:Nat->Prop}
def cntP(w w':World)(X:CX)(cv iv:Value)(c:Cq)(k:List Nat):Prop:=CoT w' X cv iv c k/\KeepS (fun j=>j=X.tb) w w'
theorem cntP.step{k:List Nat}(h:KeepS (fun j=>j=X.tb) w w1)(q:cntP w1 w2 X cv iv c k):cntP w w2 X cv iv c k:=⟨q.1,h.trans q.2 (fun _ h _=>h)⟩
theorem KeepS.cell(h:KeepS S w w'){b o:Nat}{v:Value}(hc:w.cell? ⟨b,o,none⟩=some v)(hn:¬S b):w'.cell? ⟨b,o,none⟩=some v:=by
 have hl:b<w.heap.size:=by
  rcases Nat.lt_or_ge b w.heap.size with h1|h1
  ·exact h1
  ·simp[World.cell?,Array.getElem?_eq_none h1]at hc
 simp only[World.cell?,h.block b hl hn]at hc ⊢
 exact hc
theorem Zj3{α β:Type}(g:β->α->β)(l:List α)(b:β){i:Nat}(hi:i<l.length):(l.take (i+1)).foldl g b=g ((l.take i).foldl g b) l[i]:=by
 rw[List.take_succ_eq_append_getElem hi,List.foldl_append];rfl
theorem Zhh(x:Nq):(Zg x).length<=2:=by unfold Zg;split <;> simp
theorem ZrN (nodes : List Nq) (sl : List (Option Int)) (f : Nat) (ts : List Nat) (k : List Nat) (i : Nat) : ((ts.take i).foldl (fun k t => cntQ nodes sl f t k) k).sum <= (ts.foldl (fun k t => cntQ nodes sl f t k) k).sum := by
  conv=>rhs;rw[<-List.take_append_drop i ts,List.foldl_append]
  generalize(ts.take i).foldl (fun k t=>cntQ nodes sl f t k) k=k1
  generalize ts.drop i=us
  induction us generalizing k1 with
  | nil=>exact Nat.le_refl _
  | cons t us ih=>rw[List.foldl_cons];exact Nat.le_trans (Zmq nodes sl f t k1) (ih _)
theorem ZmD(X:CX)(cv iv:Value)(c:Cq):∀(f n:Nat) (k:List Nat) (w:World),CoT w X cv iv c k->n<f->n<X.nodes.length->(cntQ X.nodes c.slots f n k).sum<=1000000000->
  Calls Tryz.prog 273 #[.pointer (some ⟨X.cb,0,none⟩),.int .i64 n] w fun e w'=>e=.returned (.tuple #[])/\Hid (cntP w w' X cv iv c (cntQ X.nodes c.slots f n k))
 | 0,n,_,_,_,h,_,_=>absurd h (Nat.not_lt_zero _)
 | f + 1, n, k, w, h, hf, hn, hsum => by
   have IH:=hid (ZmD X cv iv c f)
   have hks:k.sum<=1000000000:=Nat.le_trans (Zmq _ _ _ _ _) hsum
   have hkn:=Nat.le_trans (Zid k n) hks
   have hbk:=ZeO k n n (by rw[h.2.2];exact hn)
   rw[if_pos rfl]at hbk
   obtain⟨hlk,w1,hup,hc1,hg1⟩:=h.inc hn hks
   have m3:w.cell? ⟨X.cb,3,none⟩=some (.map (some X.tb)):=h.1.box.cell 3
   have hml:=h.1.box.lt
   have HC:=hid hc1
   have HK:Hid (KeepS (fun j=>j=X.tb) w w1):=hid (KeepS.grown hg1 (fun _ e=>(Option.some.inj e).symm))
   have HS:=hid hsum
   have HQ : Hid (cntQ X.nodes c.slots (f + 1) n k = if (ZF n c.slots).isSome ∨ 1 < k.getD n 0 + 1 then bump k n else (Zg (X.nodes.getD n nq0)).foldl (fun k t => cntQ X.nodes c.slots f t k) (bump k n)) := hid (by
     rw[cntQ];simp only[hbk])
   have hm1:w1.cell? ⟨X.cb,3,none⟩=some (.map (some X.tb)):=hc1.1.box.cell 3
   have hl1:=hc1.1.box.lt
   have hgt:=hc1.get hn
   rw[hbk]at hgt
   generalize k.getD n 0=kn at *
   have hkz:(kn:Int)<=1000000000:=by omega
   clear h hg1 hc1 hsum hks hbk
   have HW:=hid (Zls HC.1 n)
   go_enter Tryz.func273,Tryz.ntmps273
   go_wp2_with fail
   refine HW.mono ?_
   rintro e wq ⟨rfl,rfl⟩
   by_cases hs:(ZF n c.slots).isSome=true∨1<kn+1
   · have HE:Hid (cntQ X.nodes c.slots (f+1) n k=bump k n):=hid (by rw[HQ.out,if_pos hs])
     generalize hfs:(ZF n c.slots).isSome=fs at *
     clear HW HQ
     have hs':fs=true∨(1:Int)<kn+1:=hs.elim Or.inl (fun h=>Or.inr (by omega))
     clear hs
     cases fs with
     | true=>
       go_wp2
       exact bodyPost_ret (v:=.tuple #[]) (results_none rfl _ _ _) rfl ⟨rfl,hid (by rw[HE.out];exact⟨HC.out,HK.out⟩)⟩
     | false=>
       have hk1:(1:Int)<kn+1:=hs'.elim (fun h=>by cases h) id
       clear hs'
       go_wp2
       exact bodyPost_ret (v:=.tuple #[]) (results_none rfl _ _ _) rfl ⟨rfl,hid (by rw[HE.out];exact⟨HC.out,HK.out⟩)⟩
   · have HE:Hid (cntQ X.nodes c.slots (f+1) n k=_):=hid (by rw[HQ.out,if_neg hs])
     have hs1:(ZF n c.slots).isSome=false:=by
       cases h:(ZF n c.slots).isSome
       · rfl
       · exact absurd (Or.inl h) hs
     have hk0:kn=0:=Classical.byContradiction fun h=>hs (Or.inr (by omega))
     subst hk0
     rw[hs1]
     clear hs hs1 HQ HW
     have m0:wq.cell? ⟨X.cb,0,none⟩=some (.pointer (some ⟨X.gb,0,none⟩)):=HC.1.box.cell 0
     have g2:wq.cell? ⟨X.gb,2,none⟩=some (.slice (some ⟨X.nb,0,none⟩) X.nodes.length X.nc):=(HC.1.gbox.cell 2).trans HC.1.gn
     have hgl:=HC.1.gbox.lt
     have hnl:=Zbq HC.1.nrow
     have hnz:(n:Int)<X.nodes.length:=by omega
     obtain⟨q0,q1,q2,q3⟩:=HC.1.node hn
     have HN:=hid (HC.1.nodeOk hn)
     generalize X.nodes.getD n nq0=x at *
     go_wp2_with fail
     refine(Zlz x wq HN.sn).mono ?_
     rintro e w3 ⟨tv,rfl,hb3,HT⟩
     obtain⟨ta,tc,rfl,htr⟩:=HT.out
     have HT:=hid htr
     have HC3:=hid (HC.below hb3)
     have HK3:Hid (KeepS (fun j=>j=X.tb) w w3):=hid (HK.trans (KeepS.ofBelow (fun j=>j=X.tb) hb3) (fun _ h _=>h))
     have htb:=HC.2.1.lt
     have hL3:=Zhh x
     have HLO:Hid (∀t∈Zg x,t<f/\t<X.nodes.length):=hid (fun t ht=>by have:=HN.low t ht;omega)
     clear htr HC HK hb3 m0 g2 hgl hnl q0 q1 q2 q3 hlk hup hgt m3 hml hm1 hl1
     generalize Zg x=ts at *
     obtain⟨L,hL⟩:∃L,L=ts.length:=⟨_,rfl⟩
     rw[<-hL]at hL3 ⊢
     have HL:=hid hL
     clear hL
     go_wp2
     go_loopw [43] (fun i wr=>∃j:Nat,j<=L/\i=.int .i64 j/\Hid (cntP w wr X cv iv c ((ts.take j).foldl (fun k t=>cntQ X.nodes c.slots f t k) (bump k n)))/\Hid (KeepS (fun j=>j=X.tb) w3 wr)) (fun i _=>L - (intOf i).toNat)
     case atStart=>exact⟨0,Nat.zero_le _,rfl,hid ⟨HC3.out,HK3.out⟩,hid (KeepS.refl _ _)⟩
     case round=>
       obtain⟨j,hj,rfl,HP,HKr⟩:=hrel
       by_cases hlt:j<L
       · have hlz:(j:Int)<L:=by omega
         have hjl:j<ts.length:=by rw[<-HL.out];exact hlt
         obtain⟨b,rfl,hb1,hb2,hbc⟩:=HT.out (by omega)
         have kc:wr.cell? ⟨b,j,none⟩=some (intC ts[j]):=HKr.cell (hbc j hjl) (fun e=>by omega)
         have hbl:b<wr.heap.size:=Nat.lt_of_lt_of_le hb2 HKr.size
         obtain⟨hlo1,hlo2⟩:=HLO.out ts[j] (List.getElem_mem hjl)
         have HST:=hid (Zj3 (fun k t=>cntQ X.nodes c.slots f t k) ts (bump k n) hjl)
         have HSM : Hid ((cntQ X.nodes c.slots f ts[j] ((ts.take j).foldl (fun k t => cntQ X.nodes c.slots f t k) (bump k n))).sum <= 1000000000) := hid (by
           have h1:=ZrN X.nodes c.slots f ts (bump k n) (j+1)
           have h2:=HS.out
           rw[HE.out]at h2
           rw[HST.out]at h1
           omega)
         have HCL:=hid (IH.out ts[j] _ wr HP.1 hlo1 hlo2 HSM.out)
         generalize ts[j]=t at *
         simp only[intC]at kc
         clear hbc
         go_wp2_with fail
         refine HCL.mono ?_
         rintro e w5 ⟨rfl,HP5⟩
         have HP6 : Hid (cntP w w5 X cv iv c ((ts.take (j + 1)).foldl (fun k t => cntQ X.nodes c.slots f t k) (bump k n))) := hid (by
           rw[HST.out];exact cntP.step HP.2 HP5.out)
         have HK6:Hid (KeepS (fun j=>j=X.tb) w3 w5):=hid (HKr.trans HP5.2 (fun _ h _=>h))
         clear HP HKr HP5 HCL HSM HST kc hbl
         go_wp2
         go_roundw
         case rel=>exact⟨j+1,by omega,by simp,HP6,HK6⟩
         case measure=>simp[intOf];omega
       · obtain rfl:j=L:=by omega
         have HP6 : Hid (cntP w wr X cv iv c (ts.foldl (fun k t => cntQ X.nodes c.slots f t k) (bump k n))) := hid (by
           have:=HP.out;rwa [HL.out,List.take_length]at this)
         go_wp2
         exact bodyPost_end (v:=.tuple #[]) (results_none rfl _ _ _) rfl ⟨rfl,hid (by rw[HE.out];exact HP6.out)⟩
end
end Go.Proofs.YtcdgkkfipdoeeaaGreatDoor
namespace Go.Proofs.YtcdgkkfipdoeeaaGreatDoor
open Go.RowKit LS
section
variable {w w' w1 w2:World} {X:CX} {cv iv cv' iv':Value} {c c':Cq} {S S1:Nat->Prop}
theorem Zib{p:Nat->Bool} : ∀ {N m:Nat},Zbf p N=some m->m<N/\p m=true
 | 0,m,h=>by cases h
 | N + 1, m, h => by
   unfold Zbf at h
   by_cases hp:p N=true
   · rw[if_pos hp]at h;injection h with h;subst h;exact⟨Nat.lt_succ_self _,hp⟩
   · rw[if_neg hp]at h;have:=Zib h;exact⟨by omega,this.2⟩
theorem Zn4{p:Nat->Bool} : ∀ {N m j:Nat},Zbf p N=some m->j<N->p j=true->j<=m
 | 0,_,_,_,h,_=>absurd h (Nat.not_lt_zero _)
 | N + 1, m, j, h, hj, hp => by
   unfold Zbf at h
   by_cases hq:p N=true
   · rw[if_pos hq]at h;injection h with h;omega
   · rw[if_neg hq]at h
     rcases Nat.lt_or_ge j N with h1|h1
     · exact Zn4 h h1 hp
     · obtain rfl:j=N:=by omega
       exact absurd hp hq
theorem ZkF(o:Option Nat) : -1<=nI o:=by
 cases o with
 | none=>exact Int.le_refl _
 | some m=>show(-1:Int)<=(m:Int);omega
theorem Zn3{p:Nat->Bool}(N:Nat):nI (Zbf p N)<=(N:Int) - 1:=by
 cases h:Zbf p N with
 | none=>show(-1:Int)<=(N:Int) - 1;omega
 | some m=>have:=(Zib h).1;show(m:Int)<=(N:Int) - 1;omega
theorem Zn6{p:Nat->Bool} : ∀ {N:Nat},(∀j,j<N->p j=false)->Zbf p N=none
 | 0,_=>rfl
 | N+1,h=>by unfold Zbf;rw[h N (Nat.lt_succ_self _)];simpa using Zn6 (fun j hj=>h j (by omega))
theorem Zia{p q:Nat->Bool} : ∀(N:Nat),(∀j,j<N->p j=q j)->Zbf p N=Zbf q N
 | 0,_=>rfl
 | N+1,h=>by unfold Zbf;rw[h N (Nat.lt_succ_self _),Zia N (fun j hj=>h j (by omega))]
theorem Zn1 {p : Nat -> Bool} (x : Nat) : ∀ (N : Nat), x < N -> nI (Zbf (fun j => p j || decide (j = x)) N) = max (nI (Zbf p N)) x
  | 0,h=>absurd h (Nat.not_lt_zero _)
  | N + 1, h => by
    unfold Zbf
    by_cases e:N=x
    · subst e
      have:=Zn3 (p:=p) N
      by_cases hp:p N=true
      · simp[hp,nI]
      · simp only[hp,decide_true,Bool.or_true,if_true,Bool.false_eq_true,if_false]
        show(N:Int)=_
        omega
    · simp only[e,decide_false,Bool.or_false]
      by_cases hp:p N=true
      · simp[hp,nI];omega
      · simp only[hp,Bool.false_eq_true,if_false]
        exact Zn1 x N (by omega)
theorem ZqL:∀(l:List Nat) (n:Nat),n<l.length->(bump l n).count 0+(if l.getD n 0=0 then 1 else 0)=l.count 0
 | x::l,0,_=>by cases x <;> simp[bump]
 | x :: l, n + 1, h => by
   have:=ZqL l n (by simpa using h)
   simp only[bump,List.set_cons_succ,List.getD_cons_succ,List.count_cons]at this ⊢
   omega
theorem ZrO(nodes:List Nq)(sl:List (Option Int))(hn:∀i,i<nodes.length->∀t∈Zg (nodes.getD i nq0),t<nodes.length):∀(f n:Nat) (k:List Nat),k.length=nodes.length->n<nodes.length->(cntQ nodes sl f n k).sum+2*(cntQ nodes sl f n k).count 0<=k.sum+2*k.count 0+1:=by
 intro f
 induction f with
 | zero=>intro n k _ _;exact Nat.le_succ _
 | succ f ih=>
  intro n k hk hnl
  have h1:=Zlp k n (by omega)
  have h2:=ZqL k n (by omega)
  have h3:=ZeO k n n (by omega)
  rw[if_pos rfl]at h3
  unfold cntQ
  simp only
  split
  ·split at h2 <;> omega
  ·rename_i hc
   have h0:k.getD n 0=0:=Classical.byContradiction fun h=>hc (Or.inr (by omega))
   rw[if_pos h0]at h2
   have hb:(bump k n).length=nodes.length:=by rw[Zd3];exact hk
   have ht:=hn n hnl
   have hl:=Zhh (nodes.getD n nq0)
   generalize bump k n=k1 at *
   generalize Zg (nodes.getD n nq0)=ts at *
   have : ∀ (us : List Nat) (k : List Nat), (∀ t ∈ us, t < nodes.length) -> k.length = nodes.length -> (us.foldl (fun k t => cntQ nodes sl f t k) k).sum + 2 * (us.foldl (fun k t => cntQ nodes sl f t k) k).count 0 <= k.sum + 2 * k.count 0 + us.length := by
     intro us
     induction us with
     | nil=>intro k _ _;simp
     | cons t us ih2=>
       intro k hu hk
       have a1:=ih t k hk (hu t (List.mem_cons_self ..))
       have a2:=ih2 (cntQ nodes sl f t k) (fun t ht=>hu t (List.mem_cons_of_mem _ ht)) (by rw[Zhy];exact hk)
       rw[List.foldl_cons,List.length_cons]
       omega
   have:=this ts k1 ht hb
   omega
theorem Co.cntOk(h:Co w X cv iv c){n:Nat}(hn:n<X.nodes.length):(cntQ X.nodes c.slots (n+1) n (List.replicate X.nodes.length 0)).sum<=1000000000:=by
 have:=ZrO X.nodes c.slots (fun i hi t ht=>by have:=(h.nodeOk hi).low t ht;omega) (n+1) n (List.replicate X.nodes.length 0) (by simp) hn
 have hs:=h.nsz
 simp at this
 omega
theorem Zyl(h:Co w X cv iv c)(n:Nat)(hn:n<X.nodes.length) :
  Calls Tryz.prog 245 #[.pointer (some ⟨X.cb,0,none⟩),.int .i64 n] w fun e w'=>e=.returned (.int .i64 (nI (Zby X.nodes n c)))/\Hid (Co w' X cv iv c)/\Hid (KeepS (fun j=>j=X.tb) w w'):=by
 have HOK:=hid (h.cntOk hn)
 obtain⟨f0,hf0⟩:=h.tak
 obtain⟨w1,hcl,hm1,hg1⟩:=hf0.clear w rfl
 have m3:w.cell? ⟨X.cb,3,none⟩=some (.map (some X.tb)):=h.box.cell 3
 have hml:=h.box.lt
 have HC1:Hid (CoT w1 X cv iv c (List.replicate X.nodes.length 0)):=hid ⟨h.takUpd hg1 hm1,hm1.congr (fun j hj=>by simp[takF,hj]),by simp⟩
 have HK1:Hid (KeepS (fun j=>j=X.tb) w w1):=hid (KeepS.grown hg1 (fun _ e=>(Option.some.inj e).symm))
 have hsz:=h.nsz
 clear hg1 hm1 hf0 h
 go_enter Tryz.func245,Tryz.ntmps245
 go_wp2_with fail
 refine(ZmD X cv iv c (n+1) n _ w1 HC1.out (Nat.lt_succ_self _) hn HOK.out).mono ?_
 rintro e w2 ⟨rfl,HP⟩
 have HQ:Hid (Zby X.nodes n c=Zbf (ZbY X.nodes c (cntQ X.nodes c.slots (n+1) n (List.replicate X.nodes.length 0))) X.nodes.length):=hid rfl
 generalize cntQ X.nodes c.slots (n+1) n (List.replicate X.nodes.length 0)=k at *
 have HC2:=hid HP.1
 have HK2:Hid (KeepS (fun j=>j=X.tb) w w2):=hid (HK1.trans HP.2 (fun _ h _=>h))
 obtain⟨D,ho2,hD1,hD2⟩:=HC2.2.1
 have HO2:=hid ho2
 have HD1:=hid hD1
 have HD2:=hid hD2
 clear HP HC1 HK1 hcl m3 hml ho2 hD1 hD2
 have m3:w2.cell? ⟨X.cb,3,none⟩=some (.map (some X.tb)):=HC2.1.box.cell 3
 have hml:=HC2.1.box.lt
 go_wp2_with (first
   | (at_range;refine wpList_range_own _ rfl _ 169 rfl 3 3 intK Tryz.underlying169 eI X.tb _ _ rfl HO2.out ?_;intro w3 hrg3 hg3 hs3)
   | go_in)
 go_frame
 have HC3:Hid (Co w3 X cv iv c):=hid (HC2.1.keep (KeepS.grown hg3 (S:=fun _=>False) (fun _ e=>by cases e)) id id id id id id (fun _ _=>id) (fun _ _=>id))
 have HK3:Hid (KeepS (fun j=>j=X.tb) w w3):=hid (HK2.trans (KeepS.grown hg3 (S:=fun _=>False) (fun _ e=>by cases e)) (fun _ h _=>h.elim))
 have HRN:Hid (X.cb<w2.heap.size/\X.gb<w2.heap.size/\X.nb<w2.heap.size/\X.lb<w2.heap.size/\X.sb<w2.heap.size/\X.tb<w2.heap.size/\(∀k,cv.ownBlock=some k->k<w2.heap.size)/\(∀k,iv.ownBlock=some k->k<w2.heap.size)/\w.heap.size<=w2.heap.size):=hid ⟨HC2.1.box.lt,HC2.1.gbox.lt,Zbq HC2.1.nrow,Zbq HC2.1.left,HC2.1.slots.lt,HC2.2.1.lt,fun k hk=>(HC2.1.cons.lt k hk).2,fun k hk=>(HC2.1.ins.lt k hk).2,HK2.size⟩
 go_loopw [5,22] (fun lv _ wr=>∃(left:Lit->Bool) (cnt:Nat),wr.ranges Tryz.prog 3 eI X.tb w2.heap.size X.nodes.length D left cnt/\Hid (Co wr X cv iv c)/\Hid (KeepS (fun j=>j=X.tb) w wr)/\lv=.int .i64 (nI (Zbf (fun j=>ZbY X.nodes c k j && !left (kI j)) X.nodes.length))) (fun _ _ wr=>wr.rangeLeft X.tb w2.heap.size)
 case atStart => exact ⟨_, _, hrg3, HC3, HK3, by
   congr 1
   rw [show Zbf (fun j => ZbY X.nodes c k j && !Maps.has D (kI j)) X.nodes.length = none from Zn6 (fun j hj => by
     cases hf:takF k j with
     | none=>
       have h0:k.getD j 0=0:=Classical.byContradiction fun h=>by rw[takF,if_neg h]at hf;cases hf
       unfold ZbY;rw[h0];rfl
     | some v=>rw[((HD2.out j hj).2 v hf).1];simp)]
   rfl⟩
 case round=>
  obtain⟨left,cnt,hrg,HC,HK,rfl⟩:=hrel
  have HL:Hid (-1<=nI (Zbf (fun j=>ZbY X.nodes c k j && !left (kI j)) X.nodes.length)/\nI (Zbf (fun j=>ZbY X.nodes c k j && !left (kI j)) X.nodes.length)<=(X.nodes.length:Int) - 1):=hid ⟨ZkF _,Zn3 _⟩
  generalize hlv:nI (Zbf (fun j=>ZbY X.nodes c k j && !left (kI j)) X.nodes.length)=lv at *
  have HLV:=hid hlv
  clear hlv
  go_wp2_with (first
    | (at_next;refine wpList_next_ranges_ii _ rfl _ rfl 3 3 .i64 .i64 intK Tryz.underlying3 Tryz.underlying3 X.tb w2.heap.size _ _ _ _ rfl hrg ?_ ?_)
    | go_in)
  ·intro _ hl0
   have HE:Hid (lv=nI (Zby X.nodes n c)):=hid (by
    rw[<-HLV.out,HQ.out]
    congr 1
    exact Zia _ (fun j _=>by rw[hl0];simp))
   go_wp2
   go_ret
   exact⟨congrArg (fun z=>Ending.returned (.int .i64 z)) HE.out,HC,HK⟩
  ·intro x v wn cnt1 hwx hwv hlx hat hrg1 hlt hg1 hs1 hen
   obtain⟨j,hj,hxj⟩:=HD1.out _ (Maps.has_true_of_atKey hat)
   obtain rfl:x=(j:Int):=by unfold kI at hxj;injection hxj
   have HV:Hid (v=(k.getD j 0:Nat)/\0<k.getD j 0):=hid (by
    cases hf:takF k j with
    | none=>rw[show Lit.int .i64 (j:Int)=kI j from rfl]at hat;have h1:=Maps.has_true_of_atKey hat;rw[(HD2.out j hj).1 hf]at h1;cases h1
    | some u=>
     have h1:=((HD2.out j hj).2 u hf).2 .nil
     rw[show kI j=Lit.int .i64 (j:Int) from rfl,hat]at h1
     have h2:=Zfn h1
     unfold takF at hf
     split at hf
     ·cases hf
     ·injection hf with hf;exact⟨h2.trans hf.symm,by omega⟩)
   have HCn:Hid (Co wn X cv iv c):=hid (HC.keep (KeepS.grown hg1 (S:=fun q=>q=w2.heap.size) (fun _ e=>(Option.some.inj e).symm)) (fun e=>by have:=HRN.1;omega) (fun e=>by have:=HRN.2.1;omega) (fun e=>by have:=HRN.2.2.1;omega) (fun e=>by have:=HRN.2.2.2.1;omega) (fun e=>by have:=HRN.2.2.2.2.1;omega) (fun e=>by have:=HRN.2.2.2.2.2.1;omega) (fun q hq e=>by have:=HRN.2.2.2.2.2.2.1 q hq;omega) (fun q hq e=>by have:=HRN.2.2.2.2.2.2.2.1 q hq;omega))
   have HKn:Hid (KeepS (fun j=>j=X.tb) w wn):=hid (HK.trans (KeepS.grown hg1 (S:=fun q=>q=w2.heap.size) (fun _ e=>(Option.some.inj e).symm)) (fun q e hq=>by have:=HRN.2.2.2.2.2.2.2.2;omega))
   have HNX : Hid (nI (Zbf (fun i => ZbY X.nodes c k i && !(left (kI i) && !(kI i).sameKey (kI j))) X.nodes.length) = if ZbY X.nodes c k j then max lv j else lv) := hid (by
     rw[<-HLV.out]
     by_cases hcj:ZbY X.nodes c k j=true
     · rw[if_pos hcj,<-Zn1 j _ hj]
       congr 1
       refine Zia _ (fun i _=>?_)
       by_cases e:i=j
       · subst e;rw[WideAt.sameKey_self (by trivial)];simp[hcj]
       · rw[Maps.sameKey_ne (fun h=>e (Zh3 h))];simp[e]
     · rw[if_neg hcj]
       congr 1
       refine Zia _ (fun i _=>?_)
       by_cases e:i=j
       · subst e;simp[hcj]
       · rw[Maps.sameKey_ne (fun h=>e (Zh3 h))];simp)
   have hjz:(j:Int)<X.nodes.length:=by omega
   obtain⟨hL1,hL2⟩:=HL.out
   obtain⟨hv1,hv2⟩:=HV.out
   have HCD:Hid (ZbY X.nodes c k j=((ZF j c.slots).isNone && decide (k.getD j 0<c.left.getD j 0) && Zcc X.nodes j)):=hid (by unfold ZbY;rw[decide_eq_true hv2];simp)
   subst hv1
   have hkj:k.getD j 0<=1000000000:=Nat.le_trans (Zid k j) HOK.out
   have m1:wn.cell? ⟨X.cb,1,none⟩=some (.slice (some ⟨X.lb,0,none⟩) X.nodes.length X.lc):=HCn.box.cell 1
   have hmn:=HCn.box.lt
   have hll:=Zbq HCn.left
   have lj:wn.cell? ⟨X.lb,j,none⟩=some (.int .i64 (c.left.getD j 0:Nat)):=Zr HCn.left j _ (by
    have:=HCn.llen
    rw[List.getElem?_map,List.getElem?_eq_getElem (by omega)]
    simp[intC,List.getD_eq_getElem?_getD,show j<c.left.length by omega])
   have HS:=hid (Zls HCn.out j)
   have HWT:=hid (Zqs HCn.out j hj)
   have HFIN : Hid (∀ wz, Below wn.heap.size wn wz -> wz.ranges Tryz.prog 3 eI X.tb w2.heap.size X.nodes.length D (fun z => left z && !z.sameKey (.int .i64 (j : Int))) cnt1 /\ Hid (Co wz X cv iv c) /\ Hid (KeepS (fun j => j = X.tb) w wz) /\ wz.rangeLeft X.tb w2.heap.size = cnt1) := hid (fun wz hb => by
     have h1:=hrg1.kept (row:=none) ⟨hb.os,hb.tape,hb.output,hb.size,fun i hi _=>hb.block i hi⟩ (by simp) (by simp)
     exact⟨h1,hid (HCn.below hb),hid (HKn.trans (KeepS.ofBelow (fun j=>j=X.tb) hb) (fun _ h _=>h)),h1.left_eq⟩)
   have HLQ:=hid hrg.left_eq
   generalize c.left.getD j 0=lj0 at *
   generalize hkk:k.getD j 0=kj at *
   clear hkk HV hat hxj
   go_wp2_with fail
   refine HS.mono ?_
   rintro e wq ⟨rfl,rfl⟩
   generalize ZF j c.slots=so at *
   cases so with
   | some s=>
    have HN2:Hid (_=lv):=hid (HNX.trans (by rw[HCD.out];simp))
    simp only[Option.isSome_some]
    go_wp2
    go_roundw
    case rel=>
     obtain⟨h1,h2,h3,h4⟩:=HFIN.out wq (Below.refl _ _)
     exact⟨_,cnt1,h1,h2,h3,congrArg (Value.int .i64) HN2.symm⟩
    case measure=>rw[(HFIN.out wq (Below.refl _ _)).2.2.2,HLQ.out];exact hlt
   | none=>
    simp only[Option.isSome_none]
    by_cases hlt2:kj<lj0
    ·have hz:(kj:Int)<lj0:=by omega
     go_wp2_with fail
     refine HWT.mono ?_
     rintro e wz ⟨rfl,hbz⟩
     have HBZ:=hid hbz
     clear hbz
     cases hwt:Zcc X.nodes j with
     | true=>
      have HN2:Hid (_=if lv<(j:Int)then (j:Int)else lv):=hid (HNX.trans (by rw[HCD.out,decide_eq_true hlt2,hwt];show max lv (j:Int)=_;split <;> omega))
      go_wp2
      go_roundw
      case rel=>
       obtain⟨h1,h2,h3,h4⟩:=HFIN.out wz HBZ.out
       exact⟨_,cnt1,h1,h2,h3,congrArg (Value.int .i64) HN2.symm⟩
      case measure=>rw[(HFIN.out wz HBZ.out).2.2.2,HLQ.out];exact hlt
     | false=>
      have HN2:Hid (_=lv):=hid (HNX.trans (by rw[HCD.out,hwt];simp))
      go_wp2
      go_roundw
      case rel=>
       obtain⟨h1,h2,h3,h4⟩:=HFIN.out wz HBZ.out
       exact⟨_,cnt1,h1,h2,h3,congrArg (Value.int .i64) HN2.symm⟩
      case measure=>rw[(HFIN.out wz HBZ.out).2.2.2,HLQ.out];exact hlt
    ·have hz:¬(kj:Int)<lj0:=by omega
     have HN2:Hid (_=lv):=hid (HNX.trans (by rw[HCD.out,decide_eq_false hlt2];simp))
     go_wp2
     go_roundw
     case rel=>
      obtain⟨h1,h2,h3,h4⟩:=HFIN.out wq (Below.refl _ _)
      exact⟨_,cnt1,h1,h2,h3,congrArg (Value.int .i64) HN2.symm⟩
     case measure=>rw[(HFIN.out wq (Below.refl _ _)).2.2.2,HLQ.out];exact hlt
end
end Go.Proofs.YtcdgkkfipdoeeaaGreatDoor
namespace Go.Proofs.YtcdgkkfipdoeeaaGreatDoor
open Go.RowKit LS
section
variable {w w' w1 w2:World} {X:CX} {cv iv cv' iv':Value} {c c' d:Cq} {S S1:Nat->Prop} {W:Nat->Cq->Cq} {n:Nat}
def Sml(c:Cq):Prop:=c.ins.length<=1000000/\c.consts.length<=1000000
def cLe(c d:Cq):Prop:=c.ins.length<=d.ins.length/\c.consts.length<=d.consts.length
theorem cLe.refl(c:Cq):cLe c c:=⟨Nat.le_refl _,Nat.le_refl _⟩
theorem cLe.trans{e:Cq}(h:cLe c d)(q:cLe d e):cLe c e:=⟨Nat.le_trans h.1 q.1,Nat.le_trans h.2 q.2⟩
theorem Sml.of(h:Sml d)(q:cLe c d):Sml c:=⟨Nat.le_trans q.1 h.1,Nat.le_trans q.2 h.2⟩
theorem Zd7(op arg:Nat)(c:Cq):cLe c (Zh op arg c):=⟨by simp[Zh],Nat.le_refl _⟩
theorem ZfI(n s:Nat)(c:Cq):cLe c (ZT n s c):=⟨by simp[ZT,Zh],Nat.le_refl _⟩
theorem ZfW(nodes:List Nq)(hW:∀c,cLe c (W n c))(c:Cq):cLe c (putQ nodes W n c):=by
 unfold putQ
 simp only
 split
 ·split
  ·exact⟨by simp[Zh],Nat.le_refl _⟩
  ·exact⟨by simp[Zh],Nat.le_refl _⟩
 ·split
  ·exact(show cLe c { c with left:=c.left.set n (c.left.getD n 0 - 1) } from⟨Nat.le_refl _,Nat.le_refl _⟩).trans (hW _)
  ·split
   ·exact((show cLe c { c with left:=c.left.set n (c.left.getD n 0 - 1) } from⟨Nat.le_refl _,Nat.le_refl _⟩).trans (hW _)).trans ((ZfI _ _ _).trans (Zd7 _ _ _))
   ·exact(show cLe c { c with left:=c.left.set n (c.left.getD n 0 - 1) } from⟨Nat.le_refl _,Nat.le_refl _⟩).trans (hW _)
def Zhu(X:CX)(W:Nat->Cq->Cq)(n:Nat):Prop:=(∀c,cLe c (W n c))/\∀(w:World) (cv iv:Value) (c:Cq),Co w X cv iv c->Sml (W n c)->
 Calls Tryz.prog 128 #[.pointer (some ⟨X.cb,0,none⟩),.int .i64 n] w fun e w'=>e=.returned (.tuple #[])/\Hid (CoP w w' X cv iv (W n c))
theorem Co.leftAt(h:Co w X cv iv c){j:Nat}(hj:j<X.nodes.length):w.cell? ⟨X.lb,j,none⟩=some (.int .i64 (c.left.getD j 0:Nat)):=Zr h.left j _ (by
 have:=h.llen
 rw[List.getElem?_map,List.getElem?_eq_getElem (by omega)]
 simp[intC,List.getD_eq_getElem?_getD,show j<c.left.length by omega])
theorem Co.leftSet(h:Co w X cv iv c)(j v:Nat)(hv:v<=1000000000):Co (w.setCell ⟨X.lb,j,none⟩ (.int .i64 v)) X cv iv { c with left:=c.left.set j v }/\KeepS (X.chg cv iv) w (w.setCell ⟨X.lb,j,none⟩ (.int .i64 v)):=by
 have N:=h.ne
 have hk:=KeepS.set w X.lb j (.int .i64 v)
 refine ⟨⟨hk.bat h.box N.cl, hk.bat h.gbox N.gl, h.gn, hk.own h.nrow (fun j hj => by injection hj with hj; subst hj; exact N.nl), ?_, h.slots.move (hk.block _ h.slots.lt N.ls.symm), h.slen, ?_, hk.own h.cons (fun j hj e => by subst e; exact N.lcv hj), hk.own h.ins (fun j hj e => by subst e; exact N.liv hj), h.ne1, h.ne2, h.bas, Nat.le_trans h.bsz hk.size, h.nsz, h.nok, fun i => by
   show(c.left.set j v).getD i 0<=_
   rw[List.getD_eq_getElem?_getD,List.getElem?_set]
   split
   · split
     · exact hv
     · exact Nat.zero_le _
   · rw[<-List.getD_eq_getElem?_getD];exact h.lbd i⟩,hk.mono (fun k e=>Or.inr (Or.inl e))⟩
 ·have:=ZkY h.left j (.int .i64 v)
  rw[show(c.left.map intC).set j (.int .i64 v)=(c.left.set j v).map intC by rw[List.map_set];rfl]at this
  exact this
 ·obtain⟨f,hf⟩:=h.tak
  exact⟨f,hf.move (hk.block _ hf.lt N.lt.symm)⟩
theorem Zir{base:Nat}{e:TypeId}{g m cp:Nat}{xs:List Value}{sz:Nat}(h:w.ownsRow base e sz (.slice (some ⟨g,0,none⟩) m cp) m xs)(j:Nat):w.frozen? ⟨g,j,none⟩=false:=by
 rcases h.2 with ⟨h2,_⟩|⟨g',cap,cur,hv,_,hg,_⟩
 ·cases h2
 ·injection hv with hv _ _
  injection hv with hv
  injection hv with hv _ _
  subst hv
  simp[World.frozen?,hg]
def decL(n:Nat)(c:Cq):Cq:={ c with left:=c.left.set n (c.left.getD n 0 - 1) }
theorem ZdP{nodes:List Nq}{s:Nat}(h:ZF n c.slots=some s):putQ nodes W n c=if (decL n c).left.getD n 0=0 then { Zh 13 s (decL n c)with slots:=c.slots.set s none } else Zh 13 s (decL n c):=by
 unfold putQ
 simp only
 rw[h]
 rfl
theorem Zci{nodes:List Nq}(h:ZF n c.slots=none):putQ nodes W n c=if (W n (decL n c)).left.getD n 0=0∨Zcc nodes n=false then W n (decL n c)else match ZbE (W n (decL n c)).slots with
   | some s=>Zh 13 s (ZT n s (W n (decL n c)))
   | none=>W n (decL n c):=by
 unfold putQ
 simp only
 rw[h]
 rfl
theorem ZjP(h:Co w X cv iv c):Co w.drew X cv iv c:=h.below (Below.refl _ _).drew
theorem Ziw(hW:Zhu X W n)(h:Co w X cv iv c)(hn:n<X.nodes.length)(hs:Sml (putQ X.nodes W n c)) :
  Calls Tryz.prog 77 #[.pointer (some ⟨X.cb,0,none⟩),.int .i64 n] w fun e w'=>e=.returned (.tuple #[])/\Hid (CoP w w' X cv iv (putQ X.nodes W n c)):=by
 have HW:=hid hW
 have hnz:(n:Int)<X.nodes.length:=by omega
 have hnsz:=h.nsz
 have HC:=hid h
 have HS:=hid hs
 have lj0:=h.leftAt hn
 have hb:=h.lbd n
 have HL1:=hid (h.leftSet n (c.left.getD n 0 - 1) (by omega))
 have HLF:Hid (w.frozen? ⟨X.lb,n,none⟩=false):=hid (Zir h.left n)
 have m1:w.cell? ⟨X.cb,1,none⟩=some (.slice (some ⟨X.lb,0,none⟩) X.nodes.length X.lc):=h.box.cell 1
 have hml:=h.box.lt
 have hll:=Zbq h.left
 generalize hl0:c.left.getD n 0=l0 at *
 have hmx:max (0:Int) ((l0:Int) - 1)=(l0 - 1:Nat):=by omega
 clear h hs hW
 go_enter Tryz.func77,Tryz.ntmps77
 go_upto_region 0 with fail
 refine Zcm 15 (fun w'=>w'.cell? ⟨X.cb,1,none⟩=some (.slice (some ⟨X.lb,0,none⟩) X.nodes.length X.lc)/\w'.cell? ⟨X.lb,n,none⟩=some (.int .i64 l0)) (by kernel_rfl) ⟨m1,lj0⟩ (fun hHeld=>?_)
 refine Zd 0 hHeld (h:=?_)
 refine Zd 1 hHeld (h:=?_)
 refine Zd 2 hHeld (h:=?_)
 refine Zd 3 hHeld (h:=?_)
 refine Zd 4 hHeld (h:=?_)
 refine Zd 5 hHeld (h:=?_)
 refine Zd 6 hHeld (h:=?_)
 refine Zd 7 hHeld (h:=?_)
 refine Zd 8 hHeld (h:=?_)
 refine Zd 9 hHeld (h:=?_)
 refine Zd 10 hHeld (h:=?_)
 refine Zd 11 hHeld (h:=?_)
 refine Zd 12 hHeld (h:=?_)
 refine Zd 13 hHeld (h:=?_)
 refine Zd 14 hHeld (h:=?_)
 refine Zcq (by kernel_rfl) (by kernel_rfl) rfl (by kernel_rfl) (fun K hK=>?_)
 have lf:=HLF.out
 have hwr:IntKind.i64.wrap ((l0:Int) - 1)=(l0:Int) - 1:=by rw[IntKind.wrap_i64];omega
 go_simp
 have hval:(if 1<(l0:Int)then (l0:Int) - 1 else 0)=((l0 - 1:Nat):Int):=by split <;> omega
 rw[hval]
 refine hK.out _ _ ?_
 have HC1:Hid (Co (w.setCell ⟨X.lb,n,none⟩ (.int .i64 (l0 - 1:Nat))).drew X cv iv (decL n c)):=hid (by have:=HL1.1;rw[<-hl0]at this ⊢;exact ZjP this)
 have HK1:Hid (KeepS (X.chg cv iv) w (w.setCell ⟨X.lb,n,none⟩ (.int .i64 (l0 - 1:Nat))).drew):=hid (by have:=HL1.2;exact⟨this.os,this.tape,this.output,this.size,this.block⟩)
 clear hHeld hK K lf hval HL1 hwr hmx HLF m1 lj0 hml hll HC
 generalize(w.setCell ⟨X.lb,n,none⟩ (.int .i64 (l0 - 1:Nat))).drew=w1 at *
 have HLL:Hid (∀ {wz:World} {cz iz:Value} {d:Cq},Co wz X cz iz d->wz.cell? ⟨X.cb,1,none⟩=some (.slice (some ⟨X.lb,0,none⟩) X.nodes.length X.lc)/\X.cb<wz.heap.size/\X.lb<wz.heap.size/\wz.cell? ⟨X.lb,n,none⟩=some (.int .i64 (d.left.getD n 0:Nat))/\wz.cell? ⟨X.cb,2,none⟩=some (.map (some X.sb))):=hid (fun h=>⟨h.box.cell 1,h.box.lt,Zbq h.left,h.leftAt hn,h.box.cell 2⟩)
 have HSW:=hid (Zls HC1.out n)
 go_wp2_with fail
 refine HSW.mono ?_
 rintro e wq ⟨rfl,rfl⟩
 clear HSW
 cases hso:ZF n (decL n c).slots with
 | some s=>
  simp only[Option.isSome_some,Option.getD_some]
  have hs16:=(Zf4 hso).1
  have HQ:Hid (putQ X.nodes W n c=_):=hid (ZdP (s:=s) hso)
  have HS2:Hid (Sml (Zh 13 s (decL n c))):=hid (by
   have:=HS.out
   rw[HQ.out]at this
   split at this
   ·exact this
   ·exact this)
  clear HS hso
  go_wp2_with fail
  refine(Zfh HC1.out 13 s (Nat.le_trans (Zd7 13 s (decL n c)).1 HS2.1)).mono ?_
  rintro e w2 ⟨rfl,HP2⟩
  obtain⟨cv2,iv2,hc2,hk2,hf1,hf2⟩:=HP2.out
  have HC2:=hid hc2
  have HT2:Hid (∀ {wz:World} {d:Cq},CoP w2 wz X cv2 iv2 d->CoP w wz X cv iv d):=hid (fun h=>CoP.trans HK1.out (fun _ h=>Or.inl h) (fun _ h=>Or.inl h) (CoP.trans hk2 hf1 hf2 h))
  clear hc2 hk2 hf1 hf2 HP2
  obtain⟨a1,a2,a3,a4,a5⟩:=HLL.out HC2.out
  obtain⟨w3,hdel,hd3,hk3⟩:=HC2.slotDel hs16
  have HD3:=hid hd3
  have HK3:=hid hk3
  clear hd3 hk3
  generalize hlv:(Zh 13 s (decL n c)).left.getD n 0=lv at a4
  have HLV:Hid ((decL n c).left.getD n 0=lv):=hid hlv
  clear hlv
  by_cases h0:lv=0
  ·subst h0
   go_wp2
   exact bodyPost_ret (v:=.tuple #[]) (results_none rfl _ _ _) rfl ⟨rfl,hid (by rw[HQ.out,if_pos HLV.out];exact HT2.out (CoP.of ⟨HD3.out,HK3.out⟩))⟩
  ·have hz:(lv:Int)≠0:=by omega
   go_wp2
   exact bodyPost_ret (v:=.tuple #[]) (results_none rfl _ _ _) rfl ⟨rfl,hid (by rw[HQ.out,if_neg (by rw[HLV.out];exact h0)];exact HT2.out (CoP.refl HC2.out))⟩
 | none=>
  simp only[Option.isSome_none]
  have HQ:Hid (putQ X.nodes W n c=_):=hid (Zci hso)
  have HS2:Hid (Sml (W n (decL n c))):=hid (by
   refine HS.of ?_
   rw[HQ.out]
   split
   ·exact cLe.refl _
   ·split
    ·exact(ZfI _ _ _).trans (Zd7 _ _ _)
    ·exact cLe.refl _)
  clear hso
  go_wp2_with fail
  refine(HW.2 wq cv iv (decL n c) HC1.out HS2.out).mono ?_
  rintro e w2 ⟨rfl,HP2⟩
  obtain⟨cv2,iv2,hc2,hk2,hf1,hf2⟩:=HP2.out
  have HC2:=hid hc2
  have HT2:Hid (∀ {wz:World} {d:Cq},CoP w2 wz X cv2 iv2 d->CoP w wz X cv iv d):=hid (fun h=>CoP.trans HK1.out (fun _ h=>Or.inl h) (fun _ h=>Or.inl h) (CoP.trans hk2 hf1 hf2 h))
  clear hc2 hk2 hf1 hf2 HP2
  obtain⟨a1,a2,a3,a4,a5⟩:=HLL.out HC2.out
  generalize W n (decL n c)=d at *
  by_cases h0:d.left.getD n 0=0
  ·rw[h0]at a4
   go_wp2
   exact bodyPost_ret (v:=.tuple #[]) (results_none rfl _ _ _) rfl ⟨rfl,hid (by rw[HQ.out,if_pos (Or.inl h0)];exact HT2.out (CoP.refl HC2.out))⟩
  ·have HH0:=hid h0
   have hlv:((d.left.getD n 0:Nat):Int)≠0:=by omega
   generalize d.left.getD n 0=lv at a4 hlv
   clear h0
   have HWT:=hid (Zqs HC2.out n hn)
   go_wp2_with fail
   refine HWT.mono ?_
   rintro e w3 ⟨rfl,hb3⟩
   have HC3:=hid (HC2.below hb3)
   have HT3:Hid (∀ {wz:World} {e:Cq},CoP w3 wz X cv2 iv2 e->CoP w wz X cv iv e):=hid (fun h=>HT2.out (CoP.step hb3 h))
   clear hb3 a1 a2 a3 a4 a5 HC2 HT2 HWT
   cases hwt:Zcc X.nodes n with
   | false=>
    go_wp2
    exact bodyPost_ret (v:=.tuple #[]) (results_none rfl _ _ _) rfl ⟨rfl,hid (by rw[HQ.out,if_pos (Or.inr hwt)];exact HT3.out (CoP.refl HC3.out))⟩
   | true=>
    have HQ2:Hid (putQ X.nodes W n c=_):=hid (HQ.trans (if_neg (fun h=>h.elim HH0.out (fun e=>by rw[hwt]at e;cases e))))
    clear hwt HQ
    have HFS:=hid (Zni HC3.out)
    go_wp2_with fail
    refine HFS.mono ?_
    rintro e w4 ⟨rfl,rfl⟩
    clear HFS
    cases hfo:ZbE d.slots with
    | none=>
     simp only[Option.isSome_none,Option.getD_none]
     go_wp2
     exact bodyPost_end (v:=.tuple #[]) (results_none rfl _ _ _) rfl ⟨rfl,hid (by rw[HQ2.out,hfo];exact HT3.out (CoP.refl HC3.out))⟩
    | some s=>
     simp only[Option.isSome_some,Option.getD_some]
     have hs16:=(Zeb hfo).1
     have HQ3:Hid (putQ X.nodes W n c=Zh 13 s (ZT n s d)):=hid (by rw[HQ2.out,hfo])
     have HS3:Hid (Sml (Zh 13 s (ZT n s d))):=hid (by rw[<-HQ3.out];exact HS.out)
     clear hfo HQ2
     go_wp2_with fail
     refine(ZnR HC3.out n s (Nat.le_trans ((ZfI n s d).trans (Zd7 13 s _)).1 HS3.1) hs16 (by omega)).mono ?_
     rintro e w5 ⟨rfl,HP5⟩
     obtain⟨cv5,iv5,hc5,hk5,hf1,hf2⟩:=HP5.out
     have HC5:=hid hc5
     have HT5:Hid (∀ {wz:World} {e:Cq},CoP w5 wz X cv5 iv5 e->CoP w wz X cv iv e):=hid (fun h=>HT3.out (CoP.trans hk5 hf1 hf2 h))
     clear hc5 hk5 hf1 hf2 HP5 HT3 HC3
     go_wp2_with fail
     refine(Zfh HC5.out 13 s (Nat.le_trans (Zd7 13 s _).1 HS3.1)).mono ?_
     rintro e w6 ⟨rfl,HP6⟩
     go_wp2
     exact bodyPost_end (v:=.tuple #[]) (results_none rfl _ _ _) rfl ⟨rfl,hid (by rw[HQ3.out];exact HT5.out HP6.out)⟩
end
end Go.Proofs.YtcdgkkfipdoeeaaGreatDoor
