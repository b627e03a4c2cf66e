/- Parts. -/
import Derived.Test.YtpbemaaghbbocaaGreatDoorE23
import Derived.Deep.RegionHeld3
import Derived.Deep.DrawnRows
import Derived.Deep.CutBlock
namespace Go.Proofs.YtpbemaaghbbocaaGreatDoor
open Go.RowKit LS
theorem ZqM(a:Nd)(s:Ser)(qs:List (ByteArray×ByteArray×Bool))(h:qs.map blC=a.conds)(k:Nat)(hk:k<qs.length)(hf:Zb9 s (blC qs[k])=false):Zby a s=false:=by
 unfold Zby
 rw[←h,show(qs.map blC).all (Zb9 s)=false from ?_];rfl
 rw[List.all_eq_false]
 exact⟨blC qs[k],List.mem_map.mpr ⟨_,List.getElem_mem hk,rfl⟩,by simp[hf]⟩
theorem ZqN(a:Nd)(s:Ser)(qs:List (ByteArray×ByteArray×Bool))(h:qs.map blC=a.conds)(hf:∀q∈qs,Zb9 s (blC q)=true):Zby a s=decide (a.name=s.name):=by
 unfold Zby
 rw[←h,show(qs.map blC).all (Zb9 s)=true from ?_];rfl
 rw[List.all_eq_true]
 intro c hc
 obtain⟨q,hq,rfl⟩:=List.mem_map.mp hc
 exact hf q hq
set_option maxRecDepth 100000 in
set_option maxHeartbeats 4000000 in
theorem ZqO(w:World)(p:PV)(nd:Nd)(s:Ser)(hnm:bl p.nm=nd.name)(hc:Z2 w 0 p nd.conds)(hcl:nd.conds.length≤100000)(sn:ByteArray)(hsn:bl sn=s.name)(lv:Value)(qs:List (ByteArray×ByteArray))(hl:LabsV w lv s.labs qs)(sa:Option Addr)(sln slc:Nat) :
  Calls Tryz.prog 100 #[.agg #[.int .i64 p.k,.int .i64 p.n,.int .i64 p.op,.string p.nm,.slice p.ca p.cn p.cc,.slice p.ba p.bn p.bc,.int .i64 p.a,.int .i64 p.b],.agg #[.string sn,lv,.slice sa sln slc]] w fun e w'=>e=.returned (.bool (Zby nd s))∧Below w.heap.size w w':=by
 obtain⟨cs,hown,hqs⟩:=hc
 obtain⟨av,cp,hv⟩:=Zj hown
 injection hv with hv1 hv2 hv3
 obtain⟨la,lc,rfl⟩:=Zj hl.own
 have HO:Hid (w.ownsRow 0 283 3 (.slice p.ca cs.length p.cc) cs.length (ZW cs)):=hid (by have:=hown;rw[hv2]at this;exact this)
 have HNM:Hid (bl p.nm=nd.name∧cs.map blC=nd.conds∧bl sn=s.name):=⟨hnm,hqs,hsn⟩
 have HL:Hid (LabsV w (.slice la qs.length lc) s.labs qs):=hl
 have hcn:cs.length≤100000:=by rw[←hqs,List.length_map]at hcl;exact hcl
 clear hown hv3 hqs hnm hsn hl hcl
 obtain⟨pk,pn,pop,pnm,pca,pcn,pcc,pba,pbn,pbc,pa,pb⟩:=p
 simp only at hv1 hv2 HNM HO
 subst hv2
 clear hv1
 have HE:Hid ((pnm.toList == sn.toList)=decide (nd.name=s.name)):=hid (by rw[Zem,HNM.1,HNM.2.2])
 go_enter Tryz.func100,Tryz.ntmps100
 go_wp2
 go_loopg [5] cs.length (fun gk v5 wr=>∃k:Nat,k≤cs.length∧gk=cs.length - k∧v5=.int .i64 k∧Hid (∀q∈cs.take k,Zb9 s (blC q)=true)∧Hid (Below w.heap.size w wr)∧Hid (PAt wr w.heap.size ⟨pk,pn,pop,pnm,pca,cs.length,pcc,pba,pbn,pbc,pa,pb⟩)∧Hid (BAt wr (w.heap.size+1) [.string sn,.slice la qs.length lc,.slice sa sln slc] 122))
 case atStart=>exact⟨0,Nat.zero_le _,rfl,rfl,hid (by intro q hq;simp at hq),hid (Zbal.alloc (by simp) _),hid (Zbal.block _ (by simp) |>.trans (Go.Deep.blk_alloc_new _ _)),hid (by have:=Go.Deep.blk_alloc_new (w.alloc (.cells #[.int .i64 pk,.int .i64 pn,.int .i64 pop,.string pnm,.slice pca cs.length pcc,.slice pba pbn pbc,.int .i64 pa,.int .i64 pb] 131)) (.cells #[.string sn,.slice la qs.length lc,.slice sa sln slc] 122);rw[World.size_alloc]at this;exact this)⟩
 case round=>
  obtain⟨k,hk,hgk,rfl,HR,HB,HP,HS⟩:=hrel
  have b1:=HS.cell 0
  have b2:=HS.cell 1
  simp only[Zget]at b1 b2
  obtain⟨k0,k1,k2,k3,k4,k5,k6,k7⟩:=HP.all
  by_cases hlt:k<cs.length
  ·have hg:∃g,pca=some ⟨g,0,none⟩:=by
    obtain⟨g,cp',h⟩:=Zy HO.out (by omega)
    injection h with h1;exact⟨g,h1⟩
   obtain⟨g,rfl⟩:=hg
   have HOr:=hid (Zw HO.out HB.out)
   obtain⟨f1,f2,f3⟩:=Zn1 cs k
   rw[List.getElem?_eq_getElem hlt]at f1 f2 f3
   have d1:=Zn HOr.out _ _ f1
   have d2:=Zn HOr.out _ _ f2
   have d3:=Zn HOr.out _ _ f3
   have HK:=hid (fun h=>ZqM nd s cs HNM.2.1 k hlt h)
   have HN:Hid (Zb9 s (blC cs[k])=true→∀q∈cs.take (k+1),Zb9 s (blC q)=true):=hid (by
     intro hh q hq'
     rw[List.take_succ_eq_append_getElem hlt]at hq'
     rcases List.mem_append.mp hq' with h|h
     ·exact HR.out q h
     ·rw[List.mem_singleton]at h;subst h;exact hh)
   generalize cs[k]=c at *
   obtain⟨x,y,v⟩:=c
   simp only at d1 d2 d3
   clear f1 f2 f3
   go_upto_region 5 with fail
   refine Z1 fun W hW=>?_
   have hbW:Below wr.heap.size wr W:=by rw[hW];exact Zbal
   have HC:Hid (BAt W wr.heap.size [.string x,.string y,.bool v] 283):=hid (by rw[hW];exact Go.Deep.blk_alloc_new _ _)
   have HBW:Hid (Below w.heap.size w W):=HB.trans (hbW.mono HB.size)
   have HSW:=hid (HS.below hbW)
   have HPW:Hid (PAt W w.heap.size ⟨pk,pn,pop,pnm,some ⟨g,0,none⟩,cs.length,pcc,pba,pbn,pbc,pa,pb⟩):=hid ((hbW.block _ HP.lt).trans HP.out)
   have hz0:=HP.lt
   have hz1:=HS.lt
   have hz2:=HC.lt
   have HLW:Hid (LabsV W (.slice la qs.length lc) s.labs qs):=HL.below HBW.out
   clear hW hbW HB HS HP b1 b2 k0 k1 k2 k3 k4 k5 k6 k7 d1 d2 d3 HOr
   have b2:=HSW.cell 1
   have c0:=HC.cell 0
   have c1:=HC.cell 1
   have c2:=HC.cell 2
   simp only[Zget]at b2 c0 c1 c2
   go_region_held3 (fun w' => w'.cell? ⟨w.heap.size + 1, 1, none⟩ = some (.slice la qs.length lc) ∧ w'.cell? ⟨wr.heap.size, 0, none⟩ = some (.string x) ∧ w'.cell? ⟨wr.heap.size, 1, none⟩ = some (.string y)) (first | exact ⟨b52, c50, c51⟩ | exact ⟨b2, c0, c1⟩ | go_keep) (first
     | (go_at_call 149
        refine(ZtC _ _ _ x _ (by exact HLW.below ⟨rfl,rfl,rfl,Nat.le_refl _,fun _ _=>rfl⟩)).mono ?_
        rintro e w5 ⟨r,rfl,HWd,n5,hw5⟩
        have HB5:Hid (Below W.heap.size W w5):=hid (by rw[hw5];exact⟨rfl,rfl,rfl,Nat.le_refl _,fun _ _=>rfl⟩)
        have HC5:=hid (HC.below HB5.out)
        have HS5:=hid (HSW.below HB5.out)
        have c50:=HC5.cell 0
        have c51:=HC5.cell 1
        have c52:=HC5.cell 2
        have b52:=HS5.cell 1
        simp only[Zget]at c50 c51 c52 b52
        clear hw5))
   have HQ:Hid (Zb9 s (blC (x,y,v))=!((r.toList == y.toList) == v)):=hid (by
    rw[Zem,HWd.out];rfl)
   have HB6:Hid (Below w.heap.size w w5):=HBW.trans (HB5.mono HBW.size)
   have HP5:Hid (PAt w5 w.heap.size ⟨pk,pn,pop,pnm,some ⟨g,0,none⟩,cs.length,pcc,pba,pbn,pbc,pa,pb⟩):=hid ((HB5.block _ HPW.lt).trans HPW.out)
   generalize(r.toList == y.toList)=b at *
   by_cases hbv:b=v
   ·have HF:=hid (HK.out (by rw[HQ.out,hbv];simp))
    have hbv2:(b == v)=true:=by rw[hbv];simp
    go_wp2
    go_ret
    exact⟨by rw[HF.out];rfl,HB6.out⟩
   ·have HF:=hid (HN.out (by rw[HQ.out];simp[hbv]))
    have hbv2:(b == v)=false:=by simp[hbv]
    go_wp2
    go_roundg (cs.length - (k+1))
    case measure=>omega
    case rel=>exact⟨k+1,by omega,rfl,by go_num,HF,HB6,HP5,HS5⟩
  ·obtain rfl:k=cs.length:=by omega
   have HF:=hid (ZqN nd s cs HNM.2.1 (by have:=HR.out;rwa [List.take_length]at this))
   have HE2:=HE.out
   go_wp2
   go_ret
   exact⟨by rw[HF.out,←HE.out];rfl,HB.out⟩
theorem ZhS(l:List Lab):∀k,k≤l.length→ZcU l k=wrt (l.take k)
 | 0,_=>rfl
 | k + 1, h => by
   have hk:k<l.length:=h
   rw[ZcU,ZhS l k (by omega)]
   unfold wrt
   rw[List.take_succ_eq_append_getElem hk,List.map_append,List.map_singleton,ZmJ]
   have hg:l.getD k ([],[])=l[k]:=by rw[List.getD_eq_getElem?_getD,List.getElem?_eq_getElem hk];rfl
   rw[hg]
   by_cases h0:0<k
   · rw[if_pos h0,if_neg]
     · simp[lab1]
     · rw[List.isEmpty_iff]
       intro e
       have:=congrArg List.length e
       rw[List.length_map,List.length_take,List.length_nil]at this
       omega
   · obtain rfl:k=0:=by omega
     simp[lab1,commas]
theorem ZeA(v:Value)(l:List Lab)(qs:List (ByteArray×ByteArray))(w:World)(h:LabsV w v l qs) :
  Calls Tryz.prog 52 #[v] w fun e w'=>∃r:ByteArray,e=.returned (.string r)∧Hid (bl r=wrt l)∧∃n,w'=w.drewN n:=by
 refine(Zkl v 0 qs w h.own h.len (hid h.ok)).mono ?_
 rintro e w' ⟨r,rfl,HR,n,rfl⟩
 refine⟨r,rfl,hid ?_,n,rfl⟩
 rw[HR.out,h.say,ZhS l _ (by rw[←h.say,List.length_map];exact Nat.le_refl _),←h.say,List.take_of_length_le (by rw[List.length_map];exact Nat.le_refl _)]
def Z6:List (Value×El)→List Value
 | []=>[]
 | z::l=>z.1::.int .i64 z.2.2::Z6 l
theorem ZdQ(l m:List (Value×El)):Z6 (l++m)=Z6 l++Z6 m:=by
 induction l with
 | nil=>rfl
 | cons a l ih=>simp[Z6,ih]
theorem ZbV (l : List (Value × El)) (j : Nat) : (Z6 l)[j * 2]? = l[j]?.map (fun z => z.1) ∧ (Z6 l)[j * 2 + 1]? = l[j]?.map (fun z => .int .i64 z.2.2) := by
  induction l generalizing j with
  | nil=>simp[Z6]
  | cons r l ih=>
    cases j with
    | zero=>simp[Z6]
    | succ j=>
      obtain⟨h1,h2⟩:=ih j
      refine⟨?_,?_⟩
      · rw[show(j+1)*2=j*2+1+1 by omega];simpa [Z6] using h1
      · rw[show(j+1)*2+1=j*2+1+1+1 by omega];simpa [Z6] using h2
def ElOk(w:World)(z:Value×El):Prop:=(∃qs,LabsV w z.1 z.2.1 qs)∧vOk z.2.2
theorem ElOk.below{w w':World}{z:Value×El}(h:ElOk w z)(hb:Below w.heap.size w w'):ElOk w' z:=⟨h.1.elim fun qs hq=>⟨qs,hq.below hb⟩,h.2⟩
structure ElsV (w:World) (v:Value) (zs:List (Value×El)):Prop where
 own:w.ownsRow 0 128 2 v zs.length (Z6 zs)
 len:zs.length≤1000000
 ok:∀z∈zs,ElOk w z
theorem ElsV.below{w w':World}{v:Value}{zs:List (Value×El)}(h:ElsV w v zs)(hb:Below w.heap.size w w'):ElsV w' v zs:=⟨Zw h.own hb,h.len,fun z hz=>(h.ok z hz).below hb⟩
def Zbi:List (Value×El)→Value×El→List (Value×El)
 | [],x=>[x]
 | y::l,x=>if Op.bytesLess (wrt x.2.1) (wrt y.2.1)then x::y::l else y::Zbi l x
theorem Zkf(l:List (Value×El))(x:Value×El):(Zbi l x).map (·.2)=Zbu (l.map (·.2)) x.2:=by
 induction l with
 | nil=>rfl
 | cons y l ih=>
  rw[Zbi,List.map_cons,Zbu]
  by_cases h:Op.bytesLess (wrt x.2.1) (wrt y.2.1)=true
  ·rw[if_pos h,if_pos h];rfl
  ·rw[if_neg h,if_neg h,List.map_cons,ih]
theorem Zkg(l:List (Value×El))(x z:Value×El)(h:z∈Zbi l x):z=x∨z∈l:=by
 induction l with
 | nil=>rw[Zbi,List.mem_singleton]at h;exact Or.inl h
 | cons y l ih=>
  rw[Zbi]at h
  by_cases hc:Op.bytesLess (wrt x.2.1) (wrt y.2.1)=true
  ·rw[if_pos hc,List.mem_cons]at h;exact h
  ·rw[if_neg hc,List.mem_cons]at h
   rcases h with h|h
   ·exact Or.inr (by rw[h];exact List.mem_cons_self ..)
   ·rcases ih h with h|h
    ·exact Or.inl h
    ·exact Or.inr (List.mem_cons_of_mem _ h)
theorem Zfp(l:List (Value×El))(x:Value×El):(Zbi l x).length=l.length+1:=by
 induction l with
 | nil=>rfl
 | cons y l ih=>
  rw[Zbi]
  split
  ·simp
  ·simp[ih]
theorem BAt.ownGrownLt{w w':World}{a:Nat}{c:List Value}{t:TypeId}(h:BAt w a c t){base:Nat}{e:TypeId}{sz:Nat}{v:Value}{n:Nat}{xs:List Value}(ho:w.ownsRow base e sz v n xs)(hg:w.grownBy w' v.ownBlock)(ht:a<base):BAt w' a c t:=
 (hg.block a h.lt (fun e=>by have:=(ho.lt a e.symm).1;omega)).trans h
theorem ZqT(l:List (Value×El))(x:Value×El)(k:Nat)(h:k<l.length)(hl:Op.bytesLess (wrt x.2.1) (wrt l[k].2.1)=true):Zbi (l.drop k) x=x::l[k]::l.drop (k+1):=by
 rw[List.drop_eq_getElem_cons h,Zbi,if_pos hl]
theorem ZqU(l:List (Value×El))(x:Value×El)(k:Nat)(h:k<l.length)(hl:¬Op.bytesLess (wrt x.2.1) (wrt l[k].2.1)=true):Zbi (l.drop k) x=l[k]::Zbi (l.drop (k+1)) x:=by
 rw[List.drop_eq_getElem_cons h,Zbi,if_neg hl]
theorem Tryz.infoREl:(Tryz.prog.info? 128).map (fun i=>(i.zero,i.size,i.bytes))=some (some (.agg #[.slice none 0 0,.int .i64 0]),2,32):=by kernel_rfl
set_option maxRecDepth 100000 in
set_option maxHeartbeats 4000000 in
theorem Zhy(v:Value)(zs:List (Value×El))(x:Value×El)(w:World)(h:ElsV w v zs)(hx:ElOk w x)(hlen:zs.length≤1000) :
  Calls Tryz.prog 104 #[v,.agg #[x.1,.int .i64 x.2.2]] w fun e w'=>∃rv:Value,e=.returned rv∧Hid (ElsV w' rv (Zbi zs x))∧Below w.heap.size w w':=by
 obtain⟨sa,sc,rfl⟩:=Zj h.own
 obtain⟨xv,xl,xn⟩:=x
 obtain⟨⟨qs,hqx⟩,hxv⟩:=hx
 simp only at hqx hxv
 obtain⟨la,lc,rfl⟩:=Zj hqx.own
 have HS:Hid (ElsV w (.slice sa zs.length sc) zs):=h
 have HX:Hid (LabsV w (.slice la qs.length lc) xl qs):=hqx
 obtain⟨i0,hi,hz0,hz1,hz2⟩:=info_parts Tryz.infoREl
 clear h hqx
 go_enter Tryz.func104,Tryz.ntmps104
 go_wp2_with fail
 refine(ZeA _ xl qs _ (by exact HX.below Zbal)).mono ?_
 rintro e w1 ⟨tx,rfl,HTX,n1,hw1⟩
 have HB1:Hid (Below w.heap.size w w1):=hid (by rw[hw1];exact Zk Zbal _)
 have HBX1:Hid (BAt w1 w.heap.size [.slice la qs.length lc,.int .i64 xn] 128):=hid (by rw[hw1];exact Go.Deep.blk_alloc_new _ _)
 clear hw1
 go_wp2
 go_loopg [5,6,8] zs.length (fun gk v5 v6 v8 wr=>∃(k:Nat) (os:List (Value×El)) (dn:Bool),k≤zs.length∧gk=zs.length - k∧v8=.int .i64 k∧v6=.bool dn∧os.length=k+dn.toNat∧Hid (wr.ownsRow (w.heap.size+1) 128 2 v5 os.length (Z6 os))∧Hid (Zbi zs (.slice la qs.length lc,xl,xn)=os++(if dn then zs.drop k else Zbi (zs.drop k) (.slice la qs.length lc,xl,xn)))∧Hid (Below w.heap.size w wr)∧Hid (BAt wr w.heap.size [.slice la qs.length lc,.int .i64 xn] 128))
 case atStart=>exact⟨0,[],false,Nat.zero_le _,rfl,rfl,rfl,rfl,World.ownsRow_nil _ _ _ _,rfl,HB1,HBX1⟩
 case round=>
  obtain⟨k,os,dn,hk,hgk,rfl,rfl,hol,HO,HP,HB,HBX⟩:=hrel
  clear HB1 HBX1
  have hol2:os.length≤1001:=by rw[hol];cases dn <;> simp <;> omega
  have HOLK:=hid hol
  clear hol
  have b0:=HBX.cell 0
  have b1:=HBX.cell 1
  simp only[Zget]at b0 b1
  obtain⟨av,cp,hv⟩:=Zj HO.out
  subst hv
  have hz9:=HBX.lt
  by_cases hlt:k<zs.length
  ·obtain⟨g,cpx,hg⟩:=Zy HS.own (by omega)
   injection hg with hg1 _ hg2
   subst hg1 hg2
   have HSr:Hid (ElsV wr (.slice (some ⟨g,0,none⟩) zs.length sc) zs):=HS.below HB.out
   have r0:=Zn HSr.own _ _ (by rw[(ZbV zs k).1,List.getElem?_eq_getElem hlt];rfl)
   have r1:=Zn HSr.own _ _ (by rw[(ZbV zs k).2,List.getElem?_eq_getElem hlt];rfl)
   have HR6:Hid (∀W:World,W.ownsRow 0 128 2 (.slice (some ⟨g,0,none⟩) zs.length sc) zs.length (Z6 zs)→W.cell? ⟨g,k*2,none⟩=some (zs[k]).1∧W.cell? ⟨g,k*2+1,none⟩=some (.int .i64 (zs[k]).2.2)):=hid (fun W h=>⟨Zn h _ _ (by rw[(ZbV zs k).1,List.getElem?_eq_getElem hlt];rfl),Zn h _ _ (by rw[(ZbV zs k).2,List.getElem?_eq_getElem hlt];rfl)⟩)
   have hgl:=ZbJ HSr.own
   have hok:=HSr.ok _ (List.getElem_mem hlt)
   have HD0:=hid (List.drop_eq_getElem_cons hlt)
   have HD1:=hid (fun h=>ZqT zs (.slice la qs.length lc,xl,xn) k hlt h)
   have HD2:=hid (fun h=>ZqU zs (.slice la qs.length lc,xl,xn) k hlt h)
   generalize zs[k]=z at *
   obtain⟨zv,zl,zn⟩:=z
   obtain⟨⟨qz,hqz⟩,hzv⟩:=hok
   simp only at r0 r1 hqz hzv
   obtain⟨lz,cz,rfl⟩:=Zj hqz.own
   have HQZ:Hid (LabsV wr (.slice lz qz.length cz) zl qz):=hqz
   clear hqz
   simp only at HR6
   go_wp2_with fail
   refine(ZeA _ zl qz _ (by exact HQZ.out)).mono ?_
   rintro e w2 ⟨tz,rfl,HTZ,n2,hw2⟩
   have hb2:Below wr.heap.size wr w2:=by rw[hw2];exact Zk (Below.refl _ _) _
   have HB2:Hid (Below w.heap.size w w2):=HB.trans (hb2.mono HB.size)
   have HBX2:=hid (HBX.below hb2)
   have HO2:=hid (Zw HO.out hb2)
   have HSr2:=hid (HSr.below hb2)
   have hz2':wr.heap.size≤w2.heap.size:=hb2.size
   have r02:w2.cell? ⟨g,k*2,none⟩=_:=(hb2.cell (p:=⟨g,k*2,none⟩) hgl).trans r0
   have r12:w2.cell? ⟨g,k*2+1,none⟩=_:=(hb2.cell (p:=⟨g,k*2+1,none⟩) hgl).trans r1
   clear hw2 hb2 r0 r1 b0 b1 HBX HO HB HSr
   have b0:=HBX2.cell 0
   have b1:=HBX2.cell 1
   simp only[Zget]at b0 b1
   have HLE:Hid (Op.bytesLess tx.toList tz.toList=Op.bytesLess (wrt xl) (wrt zl)):=hid (by rw[ZO,ZO,HTX.out,HTZ.out])
   cases dn with
   | true=>
    have HOL:Hid ((os++[((.slice lz qz.length cz,zl,zn):Value×El)]).length=k+1+true.toNat):=hid (by rw[List.length_append,HOLK.out];simp;try omega)
    have HPN:Hid (Zbi zs (.slice la qs.length lc,xl,xn)=(os++[(.slice lz qz.length cz,zl,zn)])++zs.drop (k+1)):=hid (by
     rw[HP.out,if_pos rfl,HD0.out,List.append_assoc];rfl)
    go_wp2_with (at_builtin;refine wpList_append_own _ rfl (.tmp 36) (.tmp 41) 74 rfl (w.heap.size+1) 128 i0 (.agg #[.slice none 0 0,.int .i64 0]) 2 32 Tryz.underlying74 hi hz0 hz1 hz2 rfl (by decide) _ _ _ rfl (HO2.alloc _) ⟨w2.heap.size,0,none⟩ 1 1 [.slice lz qz.length cz,.int .i64 zn] rfl rfl (Zbg rfl) ?c2 ?c3 ?c4 ?c5 ?_)
    case c2=>intro u hu;simp at hu;rcases hu with rfl|rfl <;> rfl
    case c3=>unfold maxLen;first|omega|(simp;omega)
    case c4=>first|omega|(simp;omega)
    case c5=>first|omega|(simp;omega)
    intro v' w6 hown6 hgrow _
    have HB6:Hid (Below w.heap.size w w6):=hid (Zdi (HB2.alloc HB2.size _) hgrow (fun q hq=>by have:=(HO2.lt q hq).1;omega))
    have HBX6:=hid (BAt.ownGrownLt (HBX2.below Zbal) (HO2.alloc _) hgrow (by omega))
    have HO6:Hid (w6.ownsRow (w.heap.size+1) 128 2 v' (os++[((.slice lz qz.length cz,zl,zn):Value×El)]).length (Z6 (os++[(.slice lz qz.length cz,zl,zn)]))):=hid (by
      rw[ZdQ,List.length_append];exact hown6)
    clear hown6 hgrow
    go_wp2
    go_roundg (zs.length - (k+1))
    case measure=>omega
    case rel=>exact⟨k+1,_,true,by omega,rfl,by go_num,rfl,HOL.out,HO6,HPN,HB6,HBX6⟩
   | false=>
    by_cases hle:Op.bytesLess (wrt xl) (wrt zl)=true
    ·have HPN:Hid (Zbi zs (.slice la qs.length lc,xl,xn)=(os++[(.slice la qs.length lc,xl,xn)]++[(.slice lz qz.length cz,zl,zn)])++zs.drop (k+1)):=hid (by
      rw[HP.out,if_neg (by decide),HD1.out hle,List.append_assoc,List.append_assoc];rfl)
     have hl2:Op.bytesLess tx.toList tz.toList=true:=by rw[HLE.out,hle]
     have HOL:Hid ((os++[((.slice la qs.length lc,xl,xn):Value×El)]++[((.slice lz qz.length cz,zl,zn):Value×El)]).length=k+1+true.toNat):=hid (by rw[List.length_append,List.length_append,HOLK.out];simp;try omega)
     go_wp2_with (at_builtin;refine wpList_append_own _ rfl (.tmp 32) (.tmp 34) 74 rfl (w.heap.size+1) 128 i0 (.agg #[.slice none 0 0,.int .i64 0]) 2 32 Tryz.underlying74 hi hz0 hz1 hz2 rfl (by decide) _ _ _ rfl (HO2.alloc _) ⟨w2.heap.size,0,none⟩ 1 1 [.slice la qs.length lc,.int .i64 xn] rfl rfl (Zbg rfl) ?c2 ?c3 ?c4 ?c5 ?_)
     case c2=>intro u hu;simp at hu;rcases hu with rfl|rfl <;> rfl
     case c3=>unfold maxLen;first|omega|(simp;omega)
     case c4=>first|omega|(simp;omega)
     case c5=>first|omega|(simp;omega)
     intro v' w6 hown6 hgrow _
     have HB6:Hid (Below w.heap.size w w6):=hid (Zdi (HB2.alloc HB2.size _) hgrow (fun q hq=>by have:=(HO2.lt q hq).1;omega))
     have HBX6:=hid (BAt.ownGrownLt (HBX2.below Zbal) (HO2.alloc _) hgrow (by omega))
     have HO6:Hid (w6.ownsRow (w.heap.size+1) 128 2 v' (os++[((.slice la qs.length lc,xl,xn):Value×El)]).length (Z6 (os++[(.slice la qs.length lc,xl,xn)]))):=hid (by
      rw[ZdQ,List.length_append];exact hown6)
     have HS6:Hid (ElsV w6 (.slice (some ⟨g,0,none⟩) zs.length sc) zs):=HS.below HB6.out
     obtain⟨e0,e1⟩:=HR6.out w6 HS6.own
     obtain⟨av6,cp6,hv6⟩:=Zj HO6.out
     subst hv6
     have hz6:=HBX6.lt
     have hoe:(os++[((.slice la qs.length lc,xl,xn):Value×El)]).length≤1002:=by simp;omega
     clear hown6 hgrow r02 r12 b0 b1
     generalize hos:os++[((.slice la qs.length lc,xl,xn):Value×El)]=os6 at *
     go_wp2_with (at_builtin;refine wpList_append_own _ rfl (.tmp 36) (.tmp 41) 74 rfl (w.heap.size+1) 128 i0 (.agg #[.slice none 0 0,.int .i64 0]) 2 32 Tryz.underlying74 hi hz0 hz1 hz2 rfl (by decide) _ _ _ rfl (HO6.alloc _) ⟨w6.heap.size,0,none⟩ 1 1 [.slice lz qz.length cz,.int .i64 zn] rfl rfl (Zbg rfl) ?c2 ?c3 ?c4 ?c5 ?_)
     case c2=>intro u hu;simp at hu;rcases hu with rfl|rfl <;> rfl
     case c3=>unfold maxLen;first|omega|(simp;omega)
     case c4=>first|omega|(simp;omega)
     case c5=>first|omega|(simp;omega)
     intro v' w7 hown7 hgrow7 _
     have HB7:Hid (Below w.heap.size w w7):=hid (Zdi (HB6.alloc HB6.size _) hgrow7 (fun q hq=>by have:=(HO6.lt q hq).1;omega))
     have HBX7:=hid (BAt.ownGrownLt (HBX6.below Zbal) (HO6.alloc _) hgrow7 (by omega))
     have HO7:Hid (w7.ownsRow (w.heap.size+1) 128 2 v' (os6++[((.slice lz qz.length cz,zl,zn):Value×El)]).length (Z6 (os6++[(.slice lz qz.length cz,zl,zn)]))):=hid (by
      rw[ZdQ,List.length_append];exact hown7)
     clear hown7 hgrow7
     go_wp2
     go_roundg (zs.length - (k+1))
     case measure=>omega
     case rel=>exact⟨k+1,_,true,by omega,rfl,by go_num,rfl,HOL.out,HO7,HPN,HB7,HBX7⟩
    ·have HPN:Hid (Zbi zs (.slice la qs.length lc,xl,xn)=(os++[(.slice lz qz.length cz,zl,zn)])++Zbi (zs.drop (k+1)) (.slice la qs.length lc,xl,xn)):=hid (by
      rw[HP.out,if_neg (by decide),HD2.out hle,List.append_assoc];rfl)
     have HOL:Hid ((os++[((.slice lz qz.length cz,zl,zn):Value×El)]).length=k+1+false.toNat):=hid (by rw[List.length_append,HOLK.out];simp;try omega)
     have hl2:Op.bytesLess tx.toList tz.toList=false:=by rw[HLE.out];simpa using hle
     go_wp2_with (at_builtin;refine wpList_append_own _ rfl (.tmp 36) (.tmp 41) 74 rfl (w.heap.size+1) 128 i0 (.agg #[.slice none 0 0,.int .i64 0]) 2 32 Tryz.underlying74 hi hz0 hz1 hz2 rfl (by decide) _ _ _ rfl (HO2.alloc _) ⟨w2.heap.size,0,none⟩ 1 1 [.slice lz qz.length cz,.int .i64 zn] rfl rfl (Zbg rfl) ?c2 ?c3 ?c4 ?c5 ?_)
     case c2=>intro u hu;simp at hu;rcases hu with rfl|rfl <;> rfl
     case c3=>unfold maxLen;first|omega|(simp;omega)
     case c4=>first|omega|(simp;omega)
     case c5=>first|omega|(simp;omega)
     intro v' w6 hown6 hgrow _
     have HB6:Hid (Below w.heap.size w w6):=hid (Zdi (HB2.alloc HB2.size _) hgrow (fun q hq=>by have:=(HO2.lt q hq).1;omega))
     have HBX6:=hid (BAt.ownGrownLt (HBX2.below Zbal) (HO2.alloc _) hgrow (by omega))
     have HO6:Hid (w6.ownsRow (w.heap.size+1) 128 2 v' (os++[((.slice lz qz.length cz,zl,zn):Value×El)]).length (Z6 (os++[(.slice lz qz.length cz,zl,zn)]))):=hid (by
      rw[ZdQ,List.length_append];exact hown6)
     clear hown6 hgrow
     go_wp2
     go_roundg (zs.length - (k+1))
     case measure=>omega
     case rel=>exact⟨k+1,_,false,by omega,rfl,by go_num,rfl,HOL.out,HO6,HPN,HB6,HBX6⟩
  ·obtain rfl:k=zs.length:=by omega
   rw[List.drop_length]at HP
   cases dn with
   | true=>
    have HF:Hid (ElsV wr (.slice av os.length cp) (Zbi zs (.slice la qs.length lc,xl,xn))):=hid (by
     have he:Zbi zs (.slice la qs.length lc,xl,xn)=os:=by rw[HP.out,if_pos rfl,List.append_nil]
     have hlp:=Zfp zs (.slice la qs.length lc,xl,xn)
     refine⟨by rw[he];exact ZdH HO.out,by omega,fun z hz=>?_⟩
     rcases Zkg _ _ _ hz with h|h
     ·rw[h];exact ElOk.below ⟨⟨qs,HX.out⟩,hxv⟩ HB.out
     ·exact(HS.ok z h).below HB.out)
    go_wp2
    go_ret
    exact⟨_,rfl,HF,HB.out⟩
   | false=>
    go_wp2_with (at_builtin;refine wpList_append_own _ rfl (.tmp 45) (.tmp 47) 74 rfl (w.heap.size+1) 128 i0 (.agg #[.slice none 0 0,.int .i64 0]) 2 32 Tryz.underlying74 hi hz0 hz1 hz2 rfl (by decide) _ _ _ rfl (HO.alloc _) ⟨wr.heap.size,0,none⟩ 1 1 [.slice la qs.length lc,.int .i64 xn] rfl rfl (Zbg rfl) ?c2 ?c3 ?c4 ?c5 ?_)
    case c2=>intro u hu;simp at hu;rcases hu with rfl|rfl <;> rfl
    case c3=>unfold maxLen;first|omega|(simp;omega)
    case c4=>first|omega|(simp;omega)
    case c5=>first|omega|(simp;omega)
    intro v' w6 hown6 hgrow _
    have HB6:Hid (Below w.heap.size w w6):=hid (Zdi (HB.alloc HB.size _) hgrow (fun q hq=>by have:=(HO.lt q hq).1;omega))
    have HF:Hid (ElsV w6 v' (Zbi zs (.slice la qs.length lc,xl,xn))):=hid (by
     have he:Zbi zs (.slice la qs.length lc,xl,xn)=os++[(.slice la qs.length lc,xl,xn)]:=by rw[HP.out,if_neg (by decide)];rfl
     have hlp:=Zfp zs (.slice la qs.length lc,xl,xn)
     refine⟨by rw[he,ZdQ,List.length_append];exact ZdH hown6,by omega,fun z hz=>?_⟩
     rcases Zkg _ _ _ hz with h|h
     ·rw[h];exact ElOk.below ⟨⟨qs,HX.out⟩,hxv⟩ HB6.out
     ·exact(HS.ok z h).below HB6.out)
    clear hown6 hgrow
    go_wp2
    go_ret
    exact⟨_,rfl,HF,HB6.out⟩
def ZcX(by_:List (List UInt8))(qs:List (ByteArray×ByteArray)):List (ByteArray×ByteArray):=qs.filter fun q=>by_.contains (bl q.1)
theorem ZoW(by_:List (List UInt8))(qs:List (ByteArray×ByteArray)):(ZcX by_ qs).map bl2=Zu (qs.map bl2) by_:=by
 induction qs with
 | nil=>rfl
 | cons q qs ih=>
  unfold ZcX Zu at *
  rw[List.map_cons,List.filter_cons,List.filter_cons]
  by_cases h:by_.contains (bl q.1)=true
  ·rw[if_pos h,if_pos (show by_.contains (bl2 q).1=true from h),List.map_cons,ih]
  ·rw[if_neg h,if_neg (show ¬by_.contains (bl2 q).1=true from h),ih]
theorem ZoX(by_:List (List UInt8))(qs:List (ByteArray×ByteArray))(k:Nat)(h:k<qs.length):ZcX by_ (qs.take (k+1))=ZcX by_ (qs.take k)++(if by_.contains (bl (qs[k]).1)then [qs[k]] else []):=by
 unfold ZcX
 rw[List.take_succ_eq_append_getElem h,List.filter_append,List.filter_cons,List.filter_nil]
theorem Zp2 (ns : List ByteArray) (x : ByteArray) : (ns.map bl).contains (bl x) = ns.any (fun n => n.toList == x.toList) := by
  induction ns with
  | nil=>rfl
  | cons n ns ih=>
    rw[List.map_cons,List.contains_cons,List.any_cons,ih,Zem]
    congr 1
    by_cases h:bl n=bl x
    · simp[h]
    · have h2:¬bl x=bl n:=fun e=>h e.symm
      simp[h,h2]
theorem ZlH (ns : List ByteArray) (x : ByteArray) (j : Nat) (h : j < ns.length) : (ns.take (j + 1)).any (fun n => n.toList == x.toList) = ((ns.take j).any (fun n => n.toList == x.toList) || (ns[j].toList == x.toList)) := by
  rw[List.take_succ_eq_append_getElem h,List.any_append];simp
structure NamsV (w:World) (v:Value) (ns:List ByteArray):Prop where
 own:w.ownsRow 0 9 1 v ns.length (ns.map .string)
 len:ns.length≤100000
theorem NamsV.below{w w':World}{v:Value}{ns:List ByteArray}(h:NamsV w v ns)(hb:Below w.heap.size w w'):NamsV w' v ns:=⟨Zw h.own hb,h.len⟩
set_option maxRecDepth 100000 in
set_option maxHeartbeats 4000000 in
theorem Zjt(v bv:Value)(l:List Lab)(qs:List (ByteArray×ByteArray))(ns:List ByteArray)(w:World)(h:LabsV w v l qs)(hb:NamsV w bv ns) :
  Calls Tryz.prog 105 #[v,bv] w fun e w'=>∃(rv:Value) (qs':List (ByteArray×ByteArray)),e=.returned rv∧Hid (LabsV w' rv (Zu l (ns.map bl)) qs')∧Below w.heap.size w w':=by
 obtain⟨la,lc,rfl⟩:=Zj h.own
 obtain⟨ba,bc,rfl⟩:=Zj hb.own
 have HS:Hid (LabsV w (.slice la qs.length lc) l qs):=h
 have HN:Hid (NamsV w (.slice ba ns.length bc) ns):=hb
 have hlen:=h.len
 have hnl:=hb.len
 obtain⟨i0,hi,hz0,hz1,hz2⟩:=info_parts Tryz.infoRLabel
 clear h hb
 go_enter Tryz.func105,Tryz.ntmps105
 go_wp2
 go_loopg [5,6] qs.length (fun gk v5 v6 wr=>∃k:Nat,k≤qs.length∧gk=qs.length - k∧v6=.int .i64 k∧Hid (wr.ownsRow w.heap.size 216 2 v5 (ZcX (ns.map bl) (qs.take k)).length (ZbD (ZcX (ns.map bl) (qs.take k))))∧Hid (Below w.heap.size w wr))
 case atStart=>exact⟨0,Nat.zero_le _,rfl,rfl,World.ownsRow_nil _ _ _ _,Below.refl _ _⟩
 case round=>
  obtain⟨k,hk,hgk,rfl,HO,HB⟩:=hrel
  obtain⟨av,cp,hv⟩:=Zj HO.out
  subst hv
  by_cases hlt:k<qs.length
  ·obtain⟨g,cpx,hg⟩:=Zy HS.own (by omega)
   injection hg with hg1 _ hg2
   subst hg1 hg2
   have HSr:Hid (LabsV wr (.slice (some ⟨g,0,none⟩) qs.length lc) l qs):=HS.below HB.out
   have HNr:Hid (NamsV wr (.slice ba ns.length bc) ns):=HN.below HB.out
   have r0:=Zn HSr.own _ _ (by rw[(Ze9 qs k).1,List.getElem?_eq_getElem hlt];rfl)
   have r1:=Zn HSr.own _ _ (by rw[(Ze9 qs k).2,List.getElem?_eq_getElem hlt];rfl)
   have HK:=hid (ZoX (ns.map bl) qs k hlt)
   have hkl:(ZcX (ns.map bl) (qs.take k)).length≤6001:=by
    have:=List.length_filter_le (fun q:ByteArray×ByteArray=>(ns.map bl).contains (bl q.1)) (qs.take k)
    rw[List.length_take]at this
    unfold ZcX
    omega
   generalize qs[k]=q at *
   obtain⟨x,y⟩:=q
   simp only at r0 r1
   rw[Zp2]at HK
   have hsz:=HB.size
   clear HSr
   go_wp2
   go_loopw [7,8] (fun v7 v8 wi=>∃(j:Nat) (hs:Bool) (nd:Nat),j≤ns.length∧v8=.int .i64 j∧v7=.bool hs∧Hid (hs=(ns.take j).any (fun n=>n.toList == x.toList))∧wi=wr.drewN nd) (fun _ v8 _=>ns.length - (intOf v8).toNat)
   case atStart=>exact⟨0,false,0,Nat.zero_le _,rfl,rfl,rfl,rfl⟩
   case round=>
    obtain⟨j,hs,nd,hj,rfl,rfl,HH,rfl⟩:=hrel
    by_cases hjl:j<ns.length
    ·obtain⟨gb,cpb,hgb⟩:=Zy HNr.own (by omega)
     injection hgb with hgb1 _ hgb2
     subst hgb1 hgb2
     have n0:=Zn HNr.own j (.string ns[j]) (by rw[List.getElem?_map,List.getElem?_eq_getElem hjl];rfl)
     have HA:=hid (ZlH ns x j hjl)
     rw[←HH.out]at HA
     generalize ns[j]=n at *
     cases hs with
     | true=>
      go_wp2
      go_quiet (fail)
      go_wp2
      go_roundw
      case rel=>exact⟨j+1,true,_,by omega,by go_num,rfl,hid HA.symm,rfl⟩
      case measure=>simp[intOf];omega
     | false=>
      go_wp2
      go_quiet (fail)
      go_wp2
      go_roundw
      case rel=>exact⟨j+1,_,_,by omega,by go_num,rfl,hid (by rw[HA.out,Bool.false_or]),rfl⟩
      case measure=>simp[intOf];omega
    ·obtain rfl:j=ns.length:=by omega
     rw[List.take_length]at HH
     rw[←HH.out]at HK
     have HOd:=hid (Zkd HO.out nd)
     cases hs with
     | true=>
      rw[if_pos rfl]at HK
      go_wp2_with (at_builtin;refine wpList_append_own _ rfl (.tmp 35) (.tmp 40) 119 rfl w.heap.size 216 i0 (.agg #[.string ByteArray.empty,.string ByteArray.empty]) 2 32 Tryz.underlying119 hi hz0 hz1 hz2 rfl (by decide) _ _ _ rfl (HOd.alloc _) ⟨wr.heap.size,0,none⟩ 1 1 [.string x,.string y] rfl rfl (Zbg rfl) ?c2 ?c3 ?c4 ?c5 ?_)
      case c2=>intro u hu;simp at hu;rcases hu with rfl|rfl <;> rfl
      case c3=>unfold maxLen;first|omega|(simp;omega)
      case c4=>first|omega|(simp;omega)
      case c5=>first|omega|(simp;omega)
      intro v' w6 hown6 hgrow _
      have HB6:Hid (Below w.heap.size w w6):=hid (Zdi ((Zk HB.out nd).alloc HB.size _) hgrow (fun q hq=>by have:=(HO.lt q hq).1;omega))
      have HO6:Hid (w6.ownsRow w.heap.size 216 2 v' (ZcX (ns.map bl) (qs.take (k+1))).length (ZbD (ZcX (ns.map bl) (qs.take (k+1))))):=hid (by
       rw[HK.out,Zi3,List.length_append];exact hown6)
      clear hown6 hgrow
      go_wp2
      go_roundg (qs.length - (k+1))
      case measure=>omega
      case rel=>exact⟨k+1,by omega,rfl,by go_num,HO6,HB6⟩
     | false=>
      rw[if_neg (by decide),List.append_nil]at HK
      go_wp2
      go_roundg (qs.length - (k+1))
      case measure=>omega
      case rel=>exact⟨k+1,by omega,rfl,by go_num,hid (by rw[HK.out];exact HOd.out),hid (Zk HB.out nd)⟩
  ·obtain rfl:k=qs.length:=by omega
   have HO9:Hid (LabsV wr (.slice av (ZcX (ns.map bl) (qs.take qs.length)).length cp) (Zu l (ns.map bl)) (ZcX (ns.map bl) qs)):=hid (by
    have h1:=ZdH HO.out
    rw[List.take_length]at h1 ⊢
    refine⟨h1,by rw[ZoW,HS.say],Nat.le_trans (List.length_filter_le _ _) hlen,fun q hq=>HS.ok q ((List.mem_filter.1 hq).1)⟩)
   go_wp2
   go_ret
   exact⟨_,_,rfl,HO9,HB.out⟩
end Go.Proofs.YtpbemaaghbbocaaGreatDoor
