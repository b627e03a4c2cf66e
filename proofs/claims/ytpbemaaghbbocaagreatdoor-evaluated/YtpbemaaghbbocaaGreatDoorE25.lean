/- Parts. -/
import Derived.Test.YtpbemaaghbbocaaGreatDoorE24
namespace Go.Proofs.YtpbemaaghbbocaaGreatDoor
open Go.RowKit LS
abbrev SZ:=ByteArray×Value×Value×Ser
def Zc6:List SZ→List Value
 | []=>[]
 | s::l=>.string s.1::s.2.1::s.2.2.1::Zc6 l
theorem Zn6 (l : List SZ) (j : Nat) : (Zc6 l)[j * 3]? = l[j]?.map (fun s => .string s.1) ∧ (Zc6 l)[j * 3 + 1]? = l[j]?.map (fun s => s.2.1) ∧ (Zc6 l)[j * 3 + 2]? = l[j]?.map (fun s => s.2.2.1) := by
  induction l generalizing j with
  | nil=>simp[Zc6]
  | cons r l ih=>
    cases j with
    | zero=>simp[Zc6]
    | succ j=>
      obtain⟨h1,h2,h3⟩:=ih j
      refine⟨?_,?_,?_⟩
      · rw[show(j+1)*3=j*3+1+1+1 by omega];simpa [Zc6] using h1
      · rw[show(j+1)*3+1=j*3+1+1+1+1 by omega];simpa [Zc6] using h2
      · rw[show(j+1)*3+2=j*3+2+1+1+1 by omega];simpa [Zc6] using h3
def ZeY(w:World)(s:SZ):Prop:=bl s.1=s.2.2.2.name∧(∃qs,LabsV w s.2.1 s.2.2.2.labs qs)∧SamsV w s.2.2.1 s.2.2.2.sams
theorem ZeY.below{w w':World}{s:SZ}(h:ZeY w s)(hb:Below w.heap.size w w'):ZeY w' s:=⟨h.1,h.2.1.elim fun qs hq=>⟨qs,hq.below hb⟩,h.2.2.below hb⟩
structure StoV (w:World) (v:Value) (ss:List SZ):Prop where
 own:w.ownsRow 0 122 3 v ss.length (Zc6 ss)
 len:ss.length≤900
 ok:∀s∈ss,ZeY w s
theorem StoV.below{w w':World}{v:Value}{ss:List SZ}(h:StoV w v ss)(hb:Below w.heap.size w w'):StoV w' v ss:=⟨Zw h.own hb,h.len,fun s hs=>(h.ok s hs).below hb⟩
def Zp(ss:List SZ):List Ser:=ss.map (·.2.2.2)
theorem Ztv(ss:List SZ)(k:Nat)(h:k<ss.length)(a:Nd)(op:Option Nat)(n t:Int):ZbA (Zp (ss.take (k+1))) a op n t =
  if Zby a ss[k].2.2.2 && !(ZF ss[k].2.2.2.sams n t).isEmpty then Zbu (ZbA (Zp (ss.take k)) a op n t) (ss[k].2.2.2.labs,oneV op (ZF ss[k].2.2.2.sams n t))else ZbA (Zp (ss.take k)) a op n t:=by
 unfold ZbA Zp
 rw[List.take_succ_eq_append_getElem h,List.map_append,List.foldl_append,List.map_singleton,List.foldl_cons,List.foldl_nil]
theorem LabsV.other{w w':World}{v:Value}{l:List Lab}{qs:List (ByteArray×ByteArray)}(h:LabsV w v l qs){a:Nat}{c:List Value}(hq:BAt w a c 76)(hg:∀j,j≠a→w'.heap[j]?=w.heap[j]?):LabsV w' v l qs:=
 ⟨Zba h.own (fun j hj=>hg j (fun e=>ZE h.own hq (by decide) (by rw[hj,e]))),h.say,h.len,h.ok⟩
theorem ElsV.other{w w':World}{v:Value}{zs:List (Value×El)}(h:ElsV w v zs){a:Nat}{c:List Value}(hq:BAt w a c 76)(hg:∀j,j≠a→w'.heap[j]?=w.heap[j]?):ElsV w' v zs:=
 ⟨Zba h.own (fun j hj=>hg j (fun e=>ZE h.own hq (by decide) (by rw[hj,e]))),h.len,fun z hz=>⟨(h.ok z hz).1.elim fun qs hq'=>⟨qs,hq'.other hq hg⟩,(h.ok z hz).2⟩⟩
structure WinI (w wr:World) (p:PV) (vv:Value) (zs:List (Value×El)):Prop where
 bel:Below w.heap.size w wr
 pb:PAt wr w.heap.size p
 rb:BAt wr (w.heap.size+1) [.bool false,.int .i64 0,.slice none 0 0] 76
 vb:BAt wr (w.heap.size+2) [.bool false,.int .i64 0,vv] 76
 els:ElsV wr vv zs
theorem WinI.below{w wr w':World}{p:PV}{vv:Value}{zs:List (Value×El)}(h:WinI w wr p vv zs)(hb:Below wr.heap.size wr w'):WinI w w' p vv zs:=
 ⟨h.bel.trans (hb.mono h.bel.size),(hb.block _ h.pb.lt).trans h.pb,h.rb.below hb,h.vb.below hb,h.els.below hb⟩
theorem WinI.set{w wr:World}{p:PV}{vv rv:Value}{zs zs':List (Value×El)}(h:WinI w wr p vv zs)(he:ElsV wr rv zs'):WinI w (wr.setCell ⟨w.heap.size+2,2,none⟩ rv) p rv zs':=by
 have hg:∀j,j≠w.heap.size+2→(wr.setCell ⟨w.heap.size+2,2,none⟩ rv).heap[j]?=wr.heap[j]?:=fun j hj=>Go.Deep.blk_setCell_other _ _ _ _ hj
 refine⟨h.bel.setCell (p:=⟨w.heap.size+2,2,none⟩) (by show w.heap.size≤w.heap.size+2;omega) _,(hg _ (by omega)).trans h.pb,(hg _ (by omega)).trans h.rb,?_,he.other h.vb hg⟩
 have:=h.vb
 unfold BAt at this ⊢
 simp only[World.setCell,Array.getElem?_modify,this,if_true,Option.map_some];rfl
set_option maxRecDepth 100000 in
set_option maxHeartbeats 4000000 in
theorem Zli(w:World)(v:Value)(ss:List SZ)(p:PV)(nd:Nd)(hnm:bl p.nm=nd.name)(hc:Z2 w 0 p nd.conds)(hcl:nd.conds.length≤100000)(op:Option Nat)(oi:Int)(hop:(op=none∧oi=-1)∨∃o:Nat,o≤4∧op=some o∧oi=o)
  (n t:Int) (hn0:0≤n) (hn1:n≤1000) (ht0 : -1000000≤t) (ht1:t≤1000000) (h:StoV w v ss) :
  Calls Tryz.prog 54 #[v,.agg #[.int .i64 p.k,.int .i64 p.n,.int .i64 p.op,.string p.nm,.slice p.ca p.cn p.cc,.slice p.ba p.bn p.bc,.int .i64 p.a,.int .i64 p.b],.int .i64 oi,.int .i64 n,.int .i64 t] w fun e w'=>
   ∃(vv:Value) (zs:List (Value×El)),e=.returned (.agg #[.bool false,.int .i64 0,vv])∧Hid (ElsV w' vv zs)∧Hid (zs.map (·.2)=ZbA (Zp ss) nd op n t)∧zs.length≤ss.length∧Below w.heap.size w w':=by
 obtain⟨sa,sc,rfl⟩:=Zj h.own
 have HS:Hid (StoV w (.slice sa ss.length sc) ss):=h
 have HC:Hid (Z2 w 0 p nd.conds∧bl p.nm=nd.name∧nd.conds.length≤100000):=⟨hc,hnm,hcl⟩
 have HOP:Hid ((op=none∧oi=-1)∨∃o:Nat,o≤4∧op=some o∧oi=o):=hop
 have hlen:=h.len
 clear h hc hnm hcl hop
 obtain⟨pk,pn,pop,pnm,pca,pcn,pcc,pba,pbn,pbc,pa,pb⟩:=p
 go_enter Tryz.func54,Tryz.ntmps54
 go_wp2
 refine Z1 fun W0 hW0=>?_
 have HI0:Hid (WinI w W0 ⟨pk,pn,pop,pnm,pca,pcn,pcc,pba,pbn,pbc,pa,pb⟩ (.slice none 0 0) []):=hid (by
  rw[hW0]
  refine⟨(by repeat first|exact Below.refl _ _|assumption|refine Below.alloc ?_ ?_ _|refine Below.setCell ?_ ?_ _|refine Zk ?_ _|refine Below.drew ?_|omega|(simp;omega)|simp),?_,?_,?_,⟨World.ownsRow_nil _ _ _ _,Nat.zero_le _,fun z hz=>by cases hz⟩⟩
  ·exact((((Below.refl (w.heap.size+1) _).alloc (by simp) _).alloc (by simp) _).block _ (by simp)).trans (Go.Deep.blk_alloc_new _ _)
  ·exact(((Below.refl (w.heap.size+2) _).alloc (by simp) _).block _ (by simp)).trans (by have:=Go.Deep.blk_alloc_new (w.alloc (.cells #[.int .i64 pk,.int .i64 pn,.int .i64 pop,.string pnm,.slice pca pcn pcc,.slice pba pbn pbc,.int .i64 pa,.int .i64 pb] 131)) (.cells #[.bool false,.int .i64 0,.slice none 0 0] 76);rw[World.size_alloc]at this;exact this)
  ·have:=Go.Deep.blk_alloc_new ((w.alloc (.cells #[.int .i64 pk,.int .i64 pn,.int .i64 pop,.string pnm,.slice pca pcn pcc,.slice pba pbn pbc,.int .i64 pa,.int .i64 pb] 131)).alloc (.cells #[.bool false,.int .i64 0,.slice none 0 0] 76)) (.cells #[.bool false,.int .i64 0,.slice none 0 0] 76)
   rw[World.size_alloc,World.size_alloc]at this;exact this)
 clear hW0
 go_loopg [12] ss.length (fun gk v12 wr=>∃(k:Nat) (vv:Value) (zs:List (Value×El)),k≤ss.length∧gk=ss.length - k∧v12=.int .i64 k∧zs.length≤k∧Hid (WinI w wr ⟨pk,pn,pop,pnm,pca,pcn,pcc,pba,pbn,pbc,pa,pb⟩ vv zs)∧Hid (zs.map (·.2)=ZbA (Zp (ss.take k)) nd op n t))
 case atStart=>exact⟨0,_,[],Nat.zero_le _,rfl,rfl,Nat.zero_le _,HI0,rfl⟩
 case round=>
  clear HI0
  obtain⟨k,vv,zs,hk,hgk,rfl,hzl,HI,HZ⟩:=hrel
  obtain⟨va,vc,hvv⟩:=Zj HI.els.own
  subst hvv
  have HSr:Hid (StoV wr (.slice sa ss.length sc) ss):=HS.below HI.bel
  obtain⟨k0,k1,k2,k3,k4,k5,k6,k7⟩:=HI.pb.all
  by_cases hlt:k<ss.length
  ·obtain⟨g,cpx,hg⟩:=Zy HS.own (by omega)
   injection hg with hg1 _ hg2
   subst hg1 hg2
   obtain⟨f1,f2,f3⟩:=Zn6 ss k
   rw[List.getElem?_eq_getElem hlt]at f1 f2 f3
   have r0:=Zn HSr.own _ _ f1
   have r1:=Zn HSr.own _ _ f2
   have r2:=Zn HSr.own _ _ f3
   have hgl:=ZbJ HSr.own
   have hok:=HSr.ok _ (List.getElem_mem hlt)
   have HW:=hid (Ztv ss k hlt nd op n t)
   generalize ss[k]=s at *
   obtain⟨nm,lv,sv,S⟩:=s
   obtain⟨hn,⟨qs,hqs⟩,hsm⟩:=hok
   simp only at r0 r1 r2 hn hqs hsm HW
   obtain⟨la,lc,rfl⟩:=Zj hqs.own
   obtain⟨ta,tc,rfl⟩:=Zj hsm.own
   have HQ:Hid (LabsV wr (.slice la qs.length lc) S.labs qs):=hqs
   have HM:Hid (SamsV wr (.slice ta S.sams.length tc) S.sams):=hsm
   have HN:Hid (bl nm=S.name):=hn
   clear hqs hsm hn f1 f2 f3
   simp only at k0 k1 k2 k3 k4 k5 k6 k7
   have HCr:Hid (Z2 wr 0 ⟨pk,pn,pop,pnm,pca,pcn,pcc,pba,pbn,pbc,pa,pb⟩ nd.conds):=hid (HC.1.below HI.bel)
   obtain⟨bp,hbp⟩:∃b,b=Zby nd S:=⟨_,rfl⟩
   have HBP:=hid hbp
   clear hbp
   have hzp:w.heap.size<wr.heap.size:=HI.pb.lt
   go_upto_region 5 with fail
   go_region_held3 (fun w' => w'.cell? ⟨w.heap.size, 0, none⟩ = some (.int .i64 pk) ∧ w'.cell? ⟨w.heap.size, 1, none⟩ = some (.int .i64 pn) ∧ w'.cell? ⟨w.heap.size, 2, none⟩ = some (.int .i64 pop) ∧ w'.cell? ⟨w.heap.size, 3, none⟩ = some (.string pnm) ∧ w'.cell? ⟨w.heap.size, 4, none⟩ = some (.slice pca pcn pcc) ∧ w'.cell? ⟨w.heap.size, 5, none⟩ = some (.slice pba pbn pbc) ∧ w'.cell? ⟨w.heap.size, 6, none⟩ = some (.int .i64 pa) ∧ w'.cell? ⟨w.heap.size, 7, none⟩ = some (.int .i64 pb) ∧ w'.cell? ⟨g, k * 3, none⟩ = some (.string nm) ∧ w'.cell? ⟨g, k * 3 + 1, none⟩ = some (.slice la qs.length lc) ∧ w'.cell? ⟨g, k * 3 + 2, none⟩ = some (.slice ta S.sams.length tc)) (first | exact ⟨k0, k1, k2, k3, k4, k5, k6, k7, r0, r1, r2⟩ | exact ⟨(HB1.cell (p := ⟨w.heap.size, 0, none⟩) hzp).trans k0, (HB1.cell (p := ⟨w.heap.size, 1, none⟩) hzp).trans k1, (HB1.cell (p := ⟨w.heap.size, 2, none⟩) hzp).trans k2, (HB1.cell (p := ⟨w.heap.size, 3, none⟩) hzp).trans k3, (HB1.cell (p := ⟨w.heap.size, 4, none⟩) hzp).trans k4, (HB1.cell (p := ⟨w.heap.size, 5, none⟩) hzp).trans k5, (HB1.cell (p := ⟨w.heap.size, 6, none⟩) hzp).trans k6, (HB1.cell (p := ⟨w.heap.size, 7, none⟩) hzp).trans k7, (HB1.cell (p := ⟨g, k * 3, none⟩) hgl).trans r0, (HB1.cell (p := ⟨g, k * 3 + 1, none⟩) hgl).trans r1, (HB1.cell (p := ⟨g, k * 3 + 2, none⟩) hgl).trans r2⟩ | go_keep) (first
     | (go_at_call 100
        refine(ZqO _ ⟨pk,pn,pop,pnm,pca,pcn,pcc,pba,pbn,pbc,pa,pb⟩ nd S HC.2.1 (by exact HCr.below ⟨rfl,rfl,rfl,Nat.le_refl _,fun _ _=>rfl⟩) HC.2.2 nm HN.out _ qs (by exact HQ.below ⟨rfl,rfl,rfl,Nat.le_refl _,fun _ _=>rfl⟩) ta S.sams.length tc).mono ?_
        rintro e w1 ⟨rfl,hb1⟩
        rw[←HBP.out]
        have HB1:Hid (Below wr.heap.size wr w1):=hid ⟨hb1.os,hb1.tape,hb1.output,hb1.size,hb1.block⟩
        clear hb1))
   have HI1:=hid (HI.below HB1.out)
   have HQ1:=hid (HQ.below HB1.out)
   have HM1:=hid (HM.below HB1.out)
   have HS1:=hid (HSr.below HB1.out)
   have q0:w1.cell? ⟨g,k*3,none⟩=_:=(HB1.cell (p:=⟨g,k*3,none⟩) hgl).trans r0
   have q1:w1.cell? ⟨g,k*3+1,none⟩=_:=(HB1.cell (p:=⟨g,k*3+1,none⟩) hgl).trans r1
   have q2:w1.cell? ⟨g,k*3+2,none⟩=_:=(HB1.cell (p:=⟨g,k*3+2,none⟩) hgl).trans r2
   have hgl1:g<w1.heap.size:=Nat.lt_of_lt_of_le hgl HB1.size
   clear k0 k1 k2 k3 k4 k5 k6 k7 r0 r1 r2 HI HQ HM HSr HCr HB1 hzp
   go_wp2_with fail
   refine(Zty nm _ la qs.length lc rfl _ S.sams n t hn0 hn1 ht0 ht1 _ (by exact HM1.out)).mono ?_
   rintro e w2 ⟨rv,rfl,HR,hb2⟩
   have HI2:=hid (HI1.below hb2)
   have HQ2:=hid (HQ1.below hb2)
   have p1:w2.cell? ⟨g,k*3+1,none⟩=_:=(hb2.cell (p:=⟨g,k*3+1,none⟩) hgl1).trans q1
   have hgl2:g<w2.heap.size:=Nat.lt_of_lt_of_le hgl1 hb2.size
   clear q0 q1 q2 HI1 HQ1 HM1 HS1 hb2
   obtain⟨ra,rc,hrv⟩:=Zj HR.own
   subst hrv
   rw[←HBP.out]at HW
   generalize ZF S.sams n t=L at *
   have hLl:=HR.len
   by_cases hLe:L.length=0
   ·have HZ2:Hid (zs.map (·.2)=ZbA (Zp (ss.take (k+1))) nd op n t):=hid (by
     rw[HW.out,List.length_eq_zero_iff.1 hLe];simpa using HZ.out)
    have hLe2:((L.length:Int) == 0)=true:=by rw[hLe];rfl
    cases bp
    all_goals
     go_wp2
     go_roundg (ss.length - (k+1))
     case measure=>omega
     case rel=>exact⟨k+1,_,_,by omega,rfl,by go_num,by omega,HI2,HZ2⟩
   ·have hLe2:((L.length:Int) == 0)=false:=by rw[beq_eq_false_iff_ne];omega
    cases bp with
    | false=>
     have HZ2:Hid (zs.map (·.2)=ZbA (Zp (ss.take (k+1))) nd op n t):=hid (by
      rw[HW.out];simpa using HZ.out)
     go_wp2
     go_roundg (ss.length - (k+1))
     case measure=>omega
     case rel=>exact⟨k+1,_,_,by omega,rfl,by go_num,by omega,HI2,HZ2⟩
    | true=>
     obtain⟨gr,cpr,hgr⟩:=Zy HR.own (by omega)
     injection hgr with hgr1 _ hgr2
     subst hgr1 hgr2
     have cl:=Zn HR.own _ _ (by rw[(Zfa L (L.length - 1)).2,List.getElem?_eq_getElem (by omega)];rfl)
     obtain⟨xl,hxl⟩:∃xl,xl=(L[L.length - 1]).2:=⟨_,rfl⟩
     have HXL:Hid (xl=(L.getLastD (0,0)).2):=hid (by
      rw[hxl,List.getLastD_eq_getLast?,List.getLast?_eq_getElem?,List.getElem?_eq_getElem (by omega)];rfl)
     have hxo:vOk xl:=by
      have:=HR.ok _ (List.getElem_mem (show L.length - 1<L.length by omega))
      unfold smOk at this
      rw[←hxl]at this
      exact this.2.2
     simp only at cl
     rw[←hxl]at cl
     obtain⟨n1,hn1⟩:∃n1:Nat,n1=L.length - 1:=⟨_,rfl⟩
     have hn2:(L.length:Int) - 1=(n1:Int):=by omega
     have hn3:(n1:Int)<L.length:=by omega
     rw[←hn1]at cl
     clear hn1 hxl
     have HZ2:Hid (∀u zs',u=oneV op L→zs'=Zbi zs (.slice la qs.length lc,S.labs,u)→zs'.map (·.2)=ZbA (Zp (ss.take (k+1))) nd op n t):=hid (by
      intro u zs' hu hz
      have hne:L.isEmpty=false:=by cases L with|nil=>simp at hLe|cons a L=>rfl
      rw[HW.out,hz,Zkf,HZ.out,hne,hu];rfl)
     rcases HOP.out with ⟨hop1,hop2⟩|⟨o,ho,hop1,hop2⟩
     ·have HU:Hid (xl=oneV op L):=hid (by rw[hop1];exact HXL.out)
      have hxo9:=hxo
      subst hop2
      clear hop1
      go_upto_region 11 with fail
      have v2:=HI2.vb.cell 2
      have vf:=HI2.vb.frozen 2
      simp only[Zget]at v2
      have HEL:Hid (ElOk w2 (.slice la qs.length lc,S.labs,xl)):=⟨⟨qs,HQ2.out⟩,hxo9⟩
      have hzl9:zs.length≤1000:=by omega
      have hzv:=HI2.vb.lt
      go_region_with (first
        | (go_at_call 104
           refine(Zhy _ zs (.slice la qs.length lc,S.labs,xl) _ (by exact HI2.els.below ⟨rfl,rfl,rfl,Nat.le_refl _,fun _ _=>rfl⟩) (by exact HEL.below ⟨rfl,rfl,rfl,Nat.le_refl _,fun _ _=>rfl⟩) hzl9).mono ?_
           rintro e w8 ⟨rv,rfl,HRV,hb8⟩
           obtain⟨ya,yc,hrv8⟩:=Zj HRV.own
           subst hrv8
           have HI8:=hid (HI2.below (⟨hb8.os,hb8.tape,hb8.output,hb8.size,hb8.block⟩:Below (w2).heap.size w2 w8))
           have vf8:=HI8.vb.frozen 2
           have v8:=HI8.vb.cell 2
           simp only[Zget]at v8
           have HI9:=hid (HI8.set HRV.out)
           have HZ9:=hid (HZ2.out xl _ HU.out rfl)
           have hzl8:(Zbi zs (.slice la qs.length lc,S.labs,xl)).length≤k+1:=by rw[Zfp];omega
           clear hb8))
      all_goals
       go_wp2
       go_roundg (ss.length - (k+1))
       case measure=>omega
       case rel=>exact⟨k+1,_,_,by omega,rfl,by go_num,hzl8,HI9,HZ9⟩
     ·have HU:Hid (cutV (ZbO o (L.map (·.2)))=oneV op L):=hid (by rw[hop1];rfl)
      have hxo9:=Zeo (ZbO o (L.map (·.2)))
      subst hop2
      clear hop1
      go_wp2_with fail
      refine(ZkR o ho _ L _ (by exact HR.out) (by omega)).mono ?_
      rintro e w3 ⟨rfl,nd3,hw3⟩
      have hb3:Below w2.heap.size w2 w3:=by rw[hw3];exact ZeF _ _ _
      have HI3:=hid (HI2.below hb3)
      have HQ3:=hid (HQ2.below hb3)
      have p13:w3.cell? ⟨g,k*3+1,none⟩=_:=(hb3.cell (p:=⟨g,k*3+1,none⟩) hgl2).trans p1
      clear hw3 hb3 p1 cl HI2 HQ2 HR
      generalize ZbO o (L.map (·.2))=tl at *
      go_wp2_with fail
      refine(Zfs _ _).mono ?_
      rintro e w4 ⟨rfl,rfl⟩
      generalize cutV tl=cu at *
      go_upto_region 11 with fail
      have v2:=HI3.vb.cell 2
      have vf:=HI3.vb.frozen 2
      simp only[Zget]at v2
      have HEL:Hid (ElOk w4 (.slice la qs.length lc,S.labs,cu)):=⟨⟨qs,HQ3.out⟩,hxo9⟩
      have hzl9:zs.length≤1000:=by omega
      have hzv:=HI3.vb.lt
      go_region_with (first
        | (go_at_call 104
           refine(Zhy _ zs (.slice la qs.length lc,S.labs,cu) _ (by exact HI3.els.below ⟨rfl,rfl,rfl,Nat.le_refl _,fun _ _=>rfl⟩) (by exact HEL.below ⟨rfl,rfl,rfl,Nat.le_refl _,fun _ _=>rfl⟩) hzl9).mono ?_
           rintro e w8 ⟨rv,rfl,HRV,hb8⟩
           obtain⟨ya,yc,hrv8⟩:=Zj HRV.own
           subst hrv8
           have HI8:=hid (HI3.below (⟨hb8.os,hb8.tape,hb8.output,hb8.size,hb8.block⟩:Below (w4).heap.size w4 w8))
           have vf8:=HI8.vb.frozen 2
           have v8:=HI8.vb.cell 2
           simp only[Zget]at v8
           have HI9:=hid (HI8.set HRV.out)
           have HZ9:=hid (HZ2.out cu _ HU.out rfl)
           have hzl8:(Zbi zs (.slice la qs.length lc,S.labs,cu)).length≤k+1:=by rw[Zfp];omega
           clear hb8))
      all_goals
       go_wp2
       go_roundg (ss.length - (k+1))
       case measure=>omega
       case rel=>exact⟨k+1,_,_,by omega,rfl,by go_num,hzl8,HI9,HZ9⟩
  ·obtain rfl:k=ss.length:=by omega
   rw[List.take_length]at HZ
   have b0:=HI.vb.cell 0
   have b1:=HI.vb.cell 1
   have b2:=HI.vb.cell 2
   simp only[Zget]at b0 b1 b2
   have y0:=HI.rb.frozen 0
   have y1:=HI.rb.frozen 1
   have y2:=HI.rb.frozen 2
   have t0:=HI.rb.cell 0
   have t1:=HI.rb.cell 1
   have t2:=HI.rb.cell 2
   simp only[Zget]at t0 t1 t2
   go_wp2
   change bodyPost _ _ _ _ _ (set3 wr (w.heap.size+1) (.bool false) (.int .i64 0) (.slice va zs.length vc))
   have s9:=Zdr HI.rb (x:=.bool false) (y:=.int .i64 0) (z:=.slice va zs.length vc)
   have s0:=s9.cell 0
   have s1:=s9.cell 1
   have s2:=s9.cell 2
   simp only[Zget]at s0 s1 s2
   have HEX:Hid (ElsV (set3 wr (w.heap.size+1) (.bool false) (.int .i64 0) (.slice va zs.length vc)) (.slice va zs.length vc) zs):=hid (HI.els.other HI.rb (fun j hj=>ZdZ _ _ _ _ _ hj))
   have HBX:Hid (Below w.heap.size w (set3 wr (w.heap.size+1) (.bool false) (.int .i64 0) (.slice va zs.length vc))):=hid (((HI.bel.setCell (p:=⟨w.heap.size+1,0,none⟩) (by show w.heap.size≤w.heap.size+1;omega) _).setCell (p:=⟨w.heap.size+1,1,none⟩) (by show w.heap.size≤w.heap.size+1;omega) _).setCell (p:=⟨w.heap.size+1,2,none⟩) (by show w.heap.size≤w.heap.size+1;omega) _)
   generalize set3 wr (w.heap.size+1) (.bool false) (.int .i64 0) (.slice va zs.length vc)=WX at *
   exact bodyPost_ret (v:=.agg #[.bool false,.int .i64 0,.slice va zs.length vc]) (by simp[results,Tryz.results54,go_sem,s0,s1,s2]) rfl ⟨.slice va zs.length vc,rfl,zs,HEX,HZ,hzl,HBX.out⟩
theorem ZiH(n:Nat):(decS n).length≤n+1:=by
 induction n using Nat.strongRecOn with
 | ind n ih=>
  by_cases h:n≤9
  ·rw[ZgM h];simp
  ·rw[ZgL h,List.length_append]
   have:=ih (n / 10) (by omega)
   simp only[List.length_cons,List.length_nil]
   omega
theorem Zep(n:Int)(h:vOk n):(decI n).length≤1000000002:=by
 unfold vOk at h
 unfold decI
 split
 ·have:=ZiH n.natAbs
  rw[List.length_append,List.length_singleton];omega
 ·have:=ZiH n.toNat
  omega
set_option maxRecDepth 100000 in
set_option maxHeartbeats 1000000 in
theorem ZfO(n:Int)(w:World)(h:vOk n) :
  Calls Tryz.prog 53 #[.int .i64 n] w fun e w'=>∃r:ByteArray,e=.returned (.string r)∧Hid (bl r=decI n)∧Below w.heap.size w w':=by
 obtain⟨h1,h2⟩:=h
 by_cases hn:n<0
 ·obtain⟨m,hm⟩:∃m:Nat,n=-(m:Int):=⟨n.natAbs,by omega⟩
  have HM:Hid (decI n=[45]++decS m):=hid (by unfold decI;rw[if_pos hn];congr 2;omega)
  have hm1:m≤1000000000:=by omega
  have hm0:0<m:=by omega
  have hng : -n=(m:Int):=by omega
  go_enter Tryz.func53,Tryz.ntmps53
  go_wp2_with fail
  refine(ZiJ m _ hm1).mono ?_
  rintro e w1 ⟨r,rfl,hr,HR,hb⟩
  have a1:∀W,(Op.stringOp .add ⟨#[45]⟩ r).run Tryz.prog W=.ok (.string (⟨#[45]⟩++r)) W:=fun W=>run_string_add_sum W _ _ (by show 1+r.size≤_;omega)
  go_wp2
  go_ret
  exact⟨_,rfl,hid (by rw[HM.out,Zb8,HR.out];rfl),hb⟩
 ·obtain⟨m,rfl⟩:∃m:Nat,n=(m:Int):=⟨n.toNat,by omega⟩
  refine(ZiJ m _ (by omega)).mono ?_
  rintro e w1 ⟨r,rfl,hr,HR,hb⟩
  exact⟨r,rfl,hid (by unfold decI;rw[if_neg hn];exact HR.out),hb⟩
theorem ZtI(l:List Lab)(h:∀p∈l,p.1.length≤6000∧p.2.length≤6000):(wrt l).length≤12002*l.length:=by
 refine Nat.le_trans (ZiB _) ?_
 induction l with
 | nil=>exact Nat.le_refl _
 | cons p l ih=>
  have h1:=h p (List.mem_cons_self ..)
  have h2:=ih (fun q hq=>h q (List.mem_cons_of_mem _ hq))
  simp only[List.map_cons,nw,List.length_cons,lab1,List.length_append,List.length_nil]
  omega
theorem LabsV.wlen{w:World}{v:Value}{l:List Lab}{qs:List (ByteArray×ByteArray)}(h:LabsV w v l qs):(wrt l).length≤72024002:=by
 have h1:=ZtI l (by
  rw[←h.say];intro p hp
  obtain⟨q,hq,rfl⟩:=List.mem_map.mp hp
  have:=h.ok q hq
  rw[←Zg,←Zg]at this
  exact this)
 have h2:l.length≤6001:=by rw[←h.say,List.length_map];exact h.len
 omega
def elsS(zs:List (Value×El)):List UInt8:=(zs.map fun z=>elS z.2).flatten
theorem Znw(zs:List (Value×El))(k:Nat)(h:k<zs.length):elsS (zs.take (k+1))=elsS (zs.take k)++elS (zs[k]).2:=by
 unfold elsS
 rw[List.take_succ_eq_append_getElem h,List.map_append,List.flatten_append];simp
theorem ZgC(l:List UInt8):bl ⟨l.toArray⟩=l:=by simp[bl]
set_option maxRecDepth 100000 in
set_option maxHeartbeats 4000000 in
theorem ZlG(t:Int)(ht:vOk t)(n:Int)(v:Value)(zs:List (Value×El))(w:World)(h:ElsV w v zs)(hzl:zs.length≤1000) :
  Calls Tryz.prog 28 #[.int .i64 t,.agg #[.bool false,.int .i64 n,v]] w fun e w'=>∃r:ByteArray,e=.returned (.string r)∧Hid (bl r=Zdh t (.vec (zs.map (·.2))))∧r.size≤2000000000000∧Below w.heap.size w w':=by
 obtain⟨sa,sc,rfl⟩:=Zj h.own
 have HS:Hid (ElsV w (.slice sa zs.length sc) zs):=h
 clear h
 go_enter Tryz.func28,Tryz.ntmps28
 go_wp2_with fail
 refine(ZfO t _ ht).mono ?_
 rintro e w1 ⟨r1,rfl,HR1,hb1⟩
 have HB1:Hid (Below w.heap.size w w1):=hid (Zbal.trans (hb1.mono (by simp)))
 have HX1:Hid (BAt w1 w.heap.size [.bool false,.int .i64 n,.slice sa zs.length sc] 76):=hid ((hb1.block _ (by simp)).trans (Go.Deep.blk_alloc_new _ _))
 clear hb1
 have hr1:r1.size≤1000000002:=by rw[Z5 HR1.out];exact Zep t ht
 have x0:=HX1.cell 0
 simp only[List.getElem?_cons_zero]at x0
 go_wp2
 go_loopg [5,6] zs.length (fun gk v5 v6 wr=>∃(k:Nat) (r:ByteArray),k≤zs.length∧gk=zs.length - k∧v6=.int .i64 k∧v5=.string r∧r.size≤1000000002+1100000000*k∧Hid (bl r=decI t++elsS (zs.take k))∧Hid (Below w.heap.size w wr)∧Hid (BAt wr w.heap.size [.bool false,.int .i64 n,.slice sa zs.length sc] 76))
 case atStart=>exact⟨0,r1,Nat.zero_le _,rfl,rfl,rfl,by omega,hid (by rw[HR1.out];simp[elsS]),HB1,HX1⟩
 case round=>
  clear HB1 HX1 x0
  obtain⟨k,r,hk,hgk,rfl,rfl,hrs,HR,HB,HX⟩:=hrel
  have x2:=HX.cell 2
  simp only[Zget]at x2
  have hzw:=HX.lt
  by_cases hlt:k<zs.length
  ·obtain⟨g,cpx,hg⟩:=Zy HS.own (by omega)
   injection hg with hg1 _ hg2
   subst hg1 hg2
   have HSr:Hid (ElsV wr (.slice (some ⟨g,0,none⟩) zs.length sc) zs):=HS.below HB.out
   have r0:=Zn HSr.own _ _ (by rw[(ZbV zs k).1,List.getElem?_eq_getElem hlt];rfl)
   have r1':=Zn HSr.own _ _ (by rw[(ZbV zs k).2,List.getElem?_eq_getElem hlt];rfl)
   have hgl:=ZbJ HSr.own
   have hok:=HSr.ok _ (List.getElem_mem hlt)
   have HE:=hid (Znw zs k hlt)
   generalize zs[k]=z at *
   obtain⟨zv,zl,zn⟩:=z
   obtain⟨⟨qz,hqz⟩,hzv⟩:=hok
   simp only at r0 r1' hqz hzv
   obtain⟨lz,cz,rfl⟩:=Zj hqz.own
   have HQ:Hid (LabsV wr (.slice lz qz.length cz) zl qz):=hqz
   have hwl:=hqz.wlen
   have hdl:=Zep zn hzv
   clear hqz
   obtain⟨rx,hrx⟩:∃rx:ByteArray,rx=⟨(wrt zl).toArray⟩:=⟨_,rfl⟩
   obtain⟨rd,hrd⟩:∃rd:ByteArray,rd=⟨(decI zn).toArray⟩:=⟨_,rfl⟩
   have HRX:Hid (bl rx=wrt zl):=hid (by rw[hrx,ZgC])
   have HRD:Hid (bl rd=decI zn):=hid (by rw[hrd,ZgC])
   have sx:rx.size≤72024002:=by rw[Z5 HRX.out];exact hwl
   have sd:rd.size≤1000000002:=by rw[Z5 HRD.out];exact hdl
   clear hrx hrd hwl hdl
   have z1:(r++⟨#[32,123]⟩:ByteArray).size=r.size+2:=by rw[ByteArray.size_append];rfl
   have z2:((r++⟨#[32,123]⟩)++rx:ByteArray).size=r.size+2+rx.size:=by rw[ByteArray.size_append,z1]
   have z3:(((r++⟨#[32,123]⟩)++rx)++⟨#[125]⟩:ByteArray).size=r.size+2+rx.size+1:=by rw[ByteArray.size_append,z2];rfl
   have a1:∀W,(Op.stringOp .add r ⟨#[32,123]⟩).run Tryz.prog W=.ok (.string (r++⟨#[32,123]⟩)) W:=fun W=>run_string_add_sum W _ _ (by show r.size+2≤_;omega)
   have a2:∀W,(Op.stringOp .add (r++⟨#[32,123]⟩) rx).run Tryz.prog W=.ok (.string ((r++⟨#[32,123]⟩)++rx)) W:=fun W=>run_string_add_sum W _ _ (by rw[z1];omega)
   have a3:∀W,(Op.stringOp .add ((r++⟨#[32,123]⟩)++rx) ⟨#[125]⟩).run Tryz.prog W=.ok (.string (((r++⟨#[32,123]⟩)++rx)++⟨#[125]⟩)) W:=fun W=>run_string_add_sum W _ _ (by rw[z2];show _+1≤_;omega)
   have a4:∀W,(Op.stringOp .add (((r++⟨#[32,123]⟩)++rx)++⟨#[125]⟩) rd).run Tryz.prog W=.ok (.string ((((r++⟨#[32,123]⟩)++rx)++⟨#[125]⟩)++rd)) W:=fun W=>run_string_add_sum W _ _ (by rw[z3];omega)
   have hsz:((((r++⟨#[32,123]⟩)++rx)++⟨#[125]⟩)++rd:ByteArray).size≤1000000002+1100000000*(k+1):=by rw[ByteArray.size_append,z3];omega
   have HF:Hid (bl ((((r++⟨#[32,123]⟩)++rx)++⟨#[125]⟩)++rd)=decI t++elsS (zs.take (k+1))):=hid (by
    rw[Zb8,Zb8,Zb8,Zb8,HR.out,HRX.out,HRD.out,HE.out]
    simp[elS,bl])
   clear z1 z2 z3
   go_upto_region 7 with fail
   go_region_held3 (fun w' => w'.cell? ⟨w.heap.size, 2, none⟩ = some (.slice (some ⟨g, 0, none⟩) zs.length sc) ∧ w'.cell? ⟨g, k * 2, none⟩ = some (.slice lz qz.length cz) ∧ w'.cell? ⟨g, k * 2 + 1, none⟩ = some (.int .i64 zn)) (first | exact ⟨(HBd2.cell (p := ⟨w.heap.size, 2, none⟩) hzw).trans x2, (HBd2.cell (p := ⟨g, k * 2, none⟩) hgl).trans r0, (HBd2.cell (p := ⟨g, k * 2 + 1, none⟩) hgl).trans r1'⟩ | exact ⟨(HBd.cell (p := ⟨w.heap.size, 2, none⟩) hzw).trans x2, (HBd.cell (p := ⟨g, k * 2, none⟩) hgl).trans r0, (HBd.cell (p := ⟨g, k * 2 + 1, none⟩) hgl).trans r1'⟩ | exact ⟨x2, r0, r1'⟩ | go_keep) (first
     | (go_at_call 52
        refine(ZeA _ zl qz _ (by first|exact HQ.below ⟨HBd.os,HBd.tape,HBd.output,HBd.size,HBd.block⟩|exact HQ.below ⟨rfl,rfl,rfl,Nat.le_refl _,fun _ _=>rfl⟩)).mono ?_
        rintro e w5 ⟨q5,rfl,HQ5,n5,hw5⟩
        obtain rfl:q5=rx:=Zd6 (by rw[HQ5.out,HRX.out])
        first
          | have HBd2:Hid (Below wr.heap.size wr w5):=hid (by rw[hw5];exact⟨HBd.os,HBd.tape,HBd.output,HBd.size,HBd.block⟩)
          | have HBd:Hid (Below wr.heap.size wr w5):=hid (by rw[hw5];exact⟨rfl,rfl,rfl,Nat.le_refl _,fun _ _=>rfl⟩)
        clear hw5)
     | (go_at_call 53
        refine(ZfO zn _ hzv).mono ?_
        rintro e w6 ⟨q6,rfl,HQ6,hb6⟩
        obtain rfl:q6=rd:=Zd6 (by rw[HQ6.out,HRD.out])
        first
          | have HBd2:Hid (Below wr.heap.size wr w6):=hid (HBd.trans ((⟨hb6.os,hb6.tape,hb6.output,hb6.size,hb6.block⟩:Below _ _ w6).mono HBd.size))
          | have HBd:Hid (Below wr.heap.size wr w6):=hid ⟨hb6.os,hb6.tape,hb6.output,hb6.size,hb6.block⟩
        clear hb6))
   all_goals
    have HB9:=hid (HB.trans (HBd2.mono HB.size))
    have HX9:=hid (HX.below HBd2.out)
    go_wp2
    go_roundg (zs.length - (k+1))
    case measure=>omega
    case rel=>exact⟨k+1,_,by omega,rfl,by go_num,rfl,hsz,HF,HB9,HX9⟩
  ·obtain rfl:k=zs.length:=by omega
   have HF:Hid (bl r=Zdh t (.vec (zs.map (·.2)))):=hid (by
    rw[HR.out,List.take_length];unfold elsS;show _=decI t++((zs.map (·.2)).map elS).flatten;rw[List.map_map];rfl)
   go_wp2
   go_ret
   exact⟨_,rfl,HF,by omega,HB.out⟩
set_option maxRecDepth 100000 in
set_option maxHeartbeats 4000000 in
theorem ZlF(t:Int)(ht:vOk t)(n:Int)(hn:vOk n)(ea:Option Addr)(el ec:Nat)(w:World) :
  Calls Tryz.prog 28 #[.int .i64 t,.agg #[.bool true,.int .i64 n,.slice ea el ec]] w fun e w'=>∃r:ByteArray,e=.returned (.string r)∧Hid (bl r=Zdh t (.sc n))∧r.size≤2000000000000∧Below w.heap.size w w':=by
 go_enter Tryz.func28,Tryz.ntmps28
 go_wp2_with fail
 refine(ZfO t _ ht).mono ?_
 rintro e w1 ⟨r1,rfl,HR1,hb1⟩
 have HB1:Hid (Below w.heap.size w w1):=hid (Zbal.trans (hb1.mono (by simp)))
 have HX1:Hid (BAt w1 w.heap.size [.bool true,.int .i64 n,.slice ea el ec] 76):=hid ((hb1.block _ (by simp)).trans (Go.Deep.blk_alloc_new _ _))
 clear hb1
 have hr1:r1.size≤1000000002:=by rw[Z5 HR1.out];exact Zep t ht
 have x0:=HX1.cell 0
 have x1:=HX1.cell 1
 simp only[Zget]at x0 x1
 have a1:∀W,(Op.stringOp .add r1 ⟨#[32]⟩).run Tryz.prog W=.ok (.string (r1++⟨#[32]⟩)) W:=fun W=>run_string_add_sum W _ _ (by show r1.size+1≤_;omega)
 have z1:(r1++⟨#[32]⟩:ByteArray).size=r1.size+1:=by rw[ByteArray.size_append];rfl
 go_wp2_with fail
 refine(ZfO n _ hn).mono ?_
 rintro e w2 ⟨r2,rfl,HR2,hb2⟩
 have hr2:r2.size≤1000000002:=by rw[Z5 HR2.out];exact Zep n hn
 have a2:∀W,(Op.stringOp .add (r1++⟨#[32]⟩) r2).run Tryz.prog W=.ok (.string ((r1++⟨#[32]⟩)++r2)) W:=fun W=>run_string_add_sum W _ _ (by rw[z1];omega)
 have HF:Hid (bl ((r1++⟨#[32]⟩)++r2)=Zdh t (.sc n)):=hid (by
  rw[Zb8,Zb8,HR1.out,HR2.out];rfl)
 have hsz:((r1++⟨#[32]⟩)++r2:ByteArray).size≤2000000000000:=by rw[ByteArray.size_append,z1];omega
 have HB2:Hid (Below w.heap.size w w2):=hid (HB1.trans (Below.mono ⟨hb2.os,hb2.tape,hb2.output,hb2.size,hb2.block⟩ HB1.size))
 clear z1 hb2
 go_wp2
 go_ret
 exact⟨_,rfl,HF,hsz,HB2.out⟩
section
variable {P:Program} {ops:Array Oper} {Q:Exit→Act→World→Prop} {md:Region.Mode} {S:World→Prop} {k:Nat}
def Zc1(P:Program)(md:Region.Mode)(ops:Array Oper)(Q:Exit→Act→World→Prop)(S:World→Prop)(k:Nat):Nat→Array Bool→Act→World→Prop
 | 0,ls,a,w=>Region.ready md ops ls=[]∧Q .normal a w
 | f + 1, ls, a, w => (Region.ready md ops ls = [] → Q .normal a w) ∧ ∀ i ∈ Region.ready md ops ls,
     wpOp P ops Q i (fun a' w'=>((ls.setIfInBounds i true).getD k true=false→S w')∧Zc1 P md ops Q S k f (ls.setIfInBounds i true) a' w') a w
theorem Zc1.any:∀(f:Nat) (ls:Array Bool) (a:Act) (w:World),Zc1 P md ops Q S k f ls a w→wpAny P md ops Q f ls a w
 | 0,_,_,_,h=>h
 | f+1,_,_,_,h=>⟨h.1,fun i hi=>wpOp_mono (fun _ _ h'=>Zc1.any f _ _ _ h'.2) (h.2 i hi)⟩
def Zex(md:Region.Mode)(ops:Array Oper)(ls:Array Bool):Bool:=
 (List.range ops.size).all fun j=>!ls.getD j true || ((ops[j]?).map (·.after.all fun e=>!Region.binds md e || ls.getD e.on false)).getD false
def ZfE(md:Region.Mode)(ops:Array Oper)(i:Nat):Nat→Nat→Bool
 | 0,_=>false
 | n+1,j=>((ops[j]?).map (·.after.any fun e=>Region.binds md e && (e.on == i || ZfE md ops i n e.on))).getD false
theorem ZkG{ls:Array Bool} : Zex md ops ls=true ↔ ∀j o,ops[j]?=some o→ls.getD j true=true→∀e∈o.after,Region.binds md e=true→ls.getD e.on false=true:=by
 unfold Zex
 rw[List.all_eq_true]
 constructor
 ·intro h j o ho hj e he hb
  have h1:=h j (List.mem_range.2 (Array.getElem?_eq_some_iff.1 ho).1)
  rw[hj,ho]at h1
  simp only[Bool.not_true,Bool.false_or,Option.map_some,Option.getD_some,Array.all_eq_true']at h1
  have h2:=h1 e he
  rw[hb]at h2
  simpa using h2
 ·intro h j hj
  rw[List.mem_range]at hj
  have ho:ops[j]?=some ops[j]:=Array.getElem?_eq_getElem hj
  cases hl:ls.getD j true with
  | false=>rfl
  | true=>
   rw[ho]
   simp only[Bool.not_true,Bool.false_or,Option.map_some,Option.getD_some,Array.all_eq_true']
   intro e he
   cases hb:Region.binds md e with
   | false=>rfl
   | true=>simpa using h j _ ho hl e he hb
theorem Zse{ls:Array Bool}{j:Nat}(h:Zex md ops ls=true)(hj:j∈Region.ready md ops ls):Zex md ops (ls.setIfInBounds j true)=true:=by
 rw[ZkG]at h ⊢
 intro i o ho hi e he hb
 obtain⟨_,oj,hoj,hall⟩:=mem_ready.1 hj
 by_cases hij:j=i
 ·subst hij
  rw[hoj]at ho
  injection ho with ho
  subst ho
  exact getD_set_true (hall e he hb)
 ·rw[getD_set_ne true hij]at hi
  exact getD_set_true (h i o ho hi e he hb)
theorem Zld{ls:Array Bool}{i:Nat}(h:Zex md ops ls=true)(hi:ls.getD i true=false):∀(n j:Nat),ZfE md ops i n j=true→ls.getD j true=false
 | 0,_,hw=>by cases hw
 | n + 1, j, hw => by
   cases hl:ls.getD j true with
   | false=>rfl
   | true=>
     unfold ZfE at hw
     cases ho:ops[j]? with
     | none=>rw[ho]at hw;cases hw
     | some o=>
       rw[ho]at hw
       simp only[Option.map_some,Option.getD_some,Array.any_eq_true',Bool.and_eq_true,Bool.or_eq_true,beq_iff_eq]at hw
       obtain⟨e,he,hb,hor⟩:=hw
       have h1:=ZkG.1 h j o ho hl e he hb
       have h2:ls.getD e.on true=false:=by
         rcases hor with heq|hr
         · rw[heq];exact hi
         · exact Zld h hi n _ hr
       exfalso
       rcases Nat.lt_or_ge e.on ls.size with h'|h'
       · simp[h']at h1 h2;rw[h2]at h1;cases h1
       · simp[h']at h1
theorem Zlp{i n:Nat}{oi:Oper}{v:Value}(hi:ops[i]?=some oi)(hsel:∀(j:Nat) (o:Oper) cs b,ops[j]?=some o→o.op≠.select cs b)
  (hQ:∀c a w,Q (.panic c) (a.put oi.dst v) w→Q (.panic c) a w) (hw:ZfE md ops i n k=true) (hik:i≠k) :
  ∀(f:Nat) (ls:Array Bool) (a:Act) (w:World),Zex md ops ls=true→
   (∀j oj,ops[j]?=some oj→j≠i→ls.getD j true=false→(∀e∈oj.after,Region.binds md e=true→e.on≠i)→oi.apart ops oj=true)→
   i∈Region.ready md ops ls→YieldsIf P ops S oi v a→S w→
   Zc1 P md ops Q S k f (ls.setIfInBounds i true) (a.put oi.dst v) w→Zc1 P md ops Q S k (f+1) ls a w
 | 0, ls, a, w, hsh, hfree, hr, hy, hS, H => by
   refine⟨fun h=>(by rw[h]at hr;cases hr),fun j hj=>?_⟩
   by_cases hji:j=i
   · subst hji;exact hy.wpOp hi hS ⟨fun _=>hS,H⟩
   · have h1:=ready_mono hj hji
     rw[H.1]at h1
     cases h1
 | f + 1, ls, a, w, hsh, hfree, hr, hy, hS, H => by
   refine⟨fun h=>(by rw[h]at hr;cases hr),fun j hj=>?_⟩
   by_cases hji:j=i
   · subst hji;exact hy.wpOp hi hS ⟨fun _=>hS,H⟩
   · have h1:=H.2 j (ready_mono hj hji)
     obtain⟨hjun,oj,hoj,hall⟩:=mem_ready.1 hj
     have hiun:=(mem_ready.1 hr).1
     have hnot : ∀ e ∈ oj.after, Region.binds md e = true → e.on ≠ i := fun e he hb heq => by
       have h2:=hall e he hb
       rw[heq]at h2
       rcases Nat.lt_or_ge i ls.size with h'|h'
       · simp[h']at hiun h2;rw[hiun]at h2;cases h2
       · simp[h']at h2
     have hsh':=Zse hsh hj
     have hiun':(ls.setIfInBounds j true).getD i true=false:=by rw[getD_set_ne true hji];exact hiun
     have hkun:(ls.setIfInBounds j true).getD k true=false:=Zld hsh' hiun' n k hw
     have h2:=wpOp_putIf hoj (hfree j oj hoj hji hjun hnot) (fun cs b=>hsel i oi cs b hi) (fun cs b=>hsel j oj cs b hoj) hQ hy h1
     refine wpOp_mono (fun a' w' h3=>?_) h2
     have hS':S w':=h3.2.1 (by rw[Array.setIfInBounds_comm _ _ (Ne.symm hji),getD_set_ne true hik];exact hkun)
     refine⟨fun _=>hS',Zlp hi hsel hQ hw hik f (ls.setIfInBounds j true) a' w' hsh' (fun m om hm hmi hun hno=>hfree m om hm hmi ?_ hno) (ready_mono hr (Ne.symm hji)) h3.1 hS' ?_⟩
     · by_cases hjm:j=m
       · subst hjm;exact hjun
       · rw[getD_set_ne true hjm]at hun;exact hun
     · rw[Array.setIfInBounds_comm _ _ hji]
       exact h3.2.2
theorem Zd{i d:Nat}{oi:Oper}{v:Value}{f:Nat}{ls:Array Bool}{a:Act}{w:World}(hi:ops[i]?=some oi)(hd:oi.dst=some d)(hq:(Region.noSelect ops && Region.free md ops ls i && (Region.ready md ops ls).contains i && ZfE md ops i ops.size k && Zex md ops ls && i != k)=true)
  (hQ:∀c a w,Q (.panic c) (a.put oi.dst v) w→Q (.panic c) a w) (hy:YieldsIf P ops S oi v a) (hS:S w)
  (h:Zc1 P md ops Q S k f (ls.setIfInBounds i true) { a with tmps:=a.tmps.setIfInBounds d v } w):Zc1 P md ops Q S k (f+1) ls a w:=by
 simp only[Bool.and_eq_true,bne_iff_ne]at hq
 obtain⟨⟨⟨⟨⟨h1,h2⟩,h3⟩,h4⟩,h5⟩,h6⟩:=hq
 exact Zlp hi (Region.noSelect_spec h1) hQ h4 h6 f ls a w h5 (Region.free_spec hi h2) (by simpa using h3) hy hS (by rw[hd];exact h)
theorem Z0{i:Nat}{o:Oper}{f:Nat}{ls:Array Bool}{a:Act}{w:World}(hr:Region.ready md ops ls=[i])(ho:ops[i]?=some o)
  (h:∀K':Act→World→Prop,Shut (∀a w,S w→(S w→Zc1 P md ops Q S k f (ls.setIfInBounds i true) a w)→K' a w)→if Region.wanted o (yielded ops a.tmps)=true then Oper.wp P o a w K' Q else K' (a.put o.dst undef) w):Zc1 P md ops Q S k (f+1) ls a w:=by
 refine⟨fun h0=>(by rw[hr]at h0;cases h0),fun j hj=>?_⟩
 rw[hr,List.mem_singleton]at hj
 subst hj
 exact wpOp_step ho (fun K' hK=>h K' (fun a w hS hW=>hK a w ⟨fun _=>hS,hW hS⟩))
theorem Zc9{o:Oper}{f:Nat}{ls:Array Bool}{a:Act}{w:World}(hr:Region.ready md ops ls=[k])(hr2:Region.ready md ops (ls.setIfInBounds k true)=[])(ho:ops[k]?=some o)(hk:(ls.setIfInBounds k true).getD k true=true)
  (h:∀K':Act→World→Prop,Shut (∀a w,Q .normal a w→K' a w)→if Region.wanted o (yielded ops a.tmps)=true then Oper.wp P o a w K' Q else K' (a.put o.dst undef) w):Zc1 P md ops Q S k (f+1) ls a w:=by
 refine⟨fun h0=>(by rw[hr]at h0;cases h0),fun j hj=>?_⟩
 rw[hr,List.mem_singleton]at hj
 subst hj
 refine wpOp_step ho (fun K' hK=>h K' (fun a w hq=>hK a w ⟨fun h0=>(by rw[hk]at h0;cases h0),?_⟩))
 cases f with
 | zero=>exact⟨hr2,hq⟩
 | succ f=>exact⟨fun _=>hq,fun j hj=>by rw[hr2]at hj;cases hj⟩
theorem Zc3{id:Nat}{a:Act}{w:World}(k:Nat)(S:World→Prop)(hm:P.follows .mixedOrders=true)(hS:S w.drew)(h:S w.drew→Zc1 P .any ops Q S k ops.size (Array.replicate ops.size false) a w.drew):(Code.region id ops true).wp P Q a w:=
 wp_region_any hm (Zc1.any _ _ _ _ (h hS))
end
end Go.Proofs.YtpbemaaghbbocaaGreatDoor
