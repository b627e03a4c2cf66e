/- Parts. -/
import Derived.Test.YtpbemaaghbbocaaGreatDoorE41
import Derived.Test.YtpbemaaghbbocaaGreatDoorE16
import Derived.Test.YtpbemaaghbbocaaGreatDoorE25
namespace Go.Proofs.YtpbemaaghbbocaaGreatDoor
open Go.RowKit LS
theorem Tryz.infoRSeries:(Tryz.prog.info? 122).map (fun i=>(i.zero,i.size,i.bytes))=some (some (.agg #[.string ByteArray.empty,.slice none 0 0,.slice none 0 0]),3,64):=by kernel_rfl
theorem Tryz.infoInt:(Tryz.prog.info? 3).map (fun i=>(i.zero,i.size,i.bytes))=some (some (.int .i64 0),1,8):=by kernel_rfl
theorem Zrj(s:ByteArray)(w:World)(hs:6000<s.size)(hs2:s.size≤maxLen) :
  Calls Tryz.prog 26 #[.string s] w fun e w'=>∃v,e=.returned (.tuple #[v,.int .i64 1,.int .i64 0])∧Below w.heap.size w w':=by
 unfold maxLen at hs2
 go_enter Tryz.func26,Tryz.ntmps26
 go_wp2
 go_ret3
 exact⟨_,rfl,Below.refl _ _⟩
def Ze1(es:List Entry):List Value:=es.map fun e=>.int .i64 (e.at_:Int)
theorem Zsw(es:List Entry)(x:Entry):Z7 (es++[x]) (es++[x]).length=Z7 es es.length+x.count:=by
 unfold Z7;rw[List.take_length,List.take_length,List.map_append,List.sum_append];simp
def ZbW(es:List Entry)(i:Nat):List UInt8:=(es[i]?.map Zb6).getD []
theorem ZeI{es:List Entry}{i:Nat}(h:i<es.length):ZbW es i=Zb6 es[i]:=by unfold ZbW;rw[List.getElem?_eq_getElem h];rfl
theorem ZmR{es:List Entry}{i k:Nat}(hi:i<es.length)(hk:k<i)(he:ZbW es k=ZbW es i):Zbp (es.take i) (es.drop i)=some (es[i]).at_:=
 ZmP hi hk (by rw[←ZeI,←ZeI];exact he)
theorem ZmS{es:List Entry}{i:Nat}(hi:i<es.length)(hn:∀k,k<i→ZbW es k≠ZbW es i):Zbp (es.take i) (es.drop i)=Zbp (es.take (i+1)) (es.drop (i+1)):=
 ZmQ hi (fun k hk=>by rw[←ZeI,←ZeI];exact hn k hk)
theorem Zo0{es:List Entry}{i k:Nat}(hi:i<es.length)(hk:k<es.length)(n1:Zx (es[i]).name=true)(n2:Zx (es[k]).name=true):ZbW es k=ZbW es i ↔ (es[i]).name=(es[k]).name∧(es[i]).inside=(es[k]).inside:=by
 rw[ZeI hi,ZeI hk,Zg7 n2 n1]
 exact⟨fun h=>⟨h.1.symm,h.2.symm⟩,fun h=>⟨h.1.symm,h.2.symm⟩⟩
set_option maxRecDepth 100000 in
set_option maxHeartbeats 4000000 in
theorem Zrk(s:ByteArray)(w:World)(hs:s.size≤6000) :
  Calls Tryz.prog 26 #[.string s] w fun e w'=>∃v,e=.returned (.tuple #[v,.int .i64 (ZD (bl s)).1,.int .i64 (ZD (bl s)).2])∧Below w.heap.size w w'∧Hid ((ZD (bl s)).1=0→Zdv w' v (bl s)):=by
 obtain⟨i0,hi,hz0,hz1,hz2⟩:=info_parts Tryz.infoRSeries
 obtain⟨j0,hj,hy0,hy1,hy2⟩:=info_parts Tryz.infoInt
 have hL:Hid (∀x,(match ZI 0 [] (split 10 (bl s))with
  | .inl i=>(5,i)
  | .inr es => match Zbl 0 [] (split 10 (bl s)) with
    | some i=>(6,i)
    | none=>if 30<es.length∨200<Z7 es es.length then (7,0)else (0,0))=x→ZD (bl s)=x):=by
  intro x hx;unfold ZD;rw[if_neg (by rw[Zg];omega)];exact hx
 go_enter Tryz.func26,Tryz.ntmps26
 go_wp2_with fail
 refine(Zfq s 10 _ _ rfl hs).mono ?_
 rintro e w1 ⟨g,n,cp,bs,rfl,hn,hg0,hgl,hcells,hsp,hb1⟩
 have HN:Hid (n=bs.length):=hn
 have hn6:n≤6001:=by
  have:=Zd0 10 (bl s);rw[←hsp.out,List.length_map,Zg]at this;omega
 clear hn
 go_wp2
 go_loopw [5, 6, 8, 9] (fun v av nv i wr => ∃ (k : Nat) (es : List Entry) (rs : List (Value × Value × Value)), k ≤ n ∧ i = .int .i64 k ∧ es.length ≤ k ∧ nv = .int .i64 (Z7 es es.length) ∧ Z7 es es.length ≤ 6001 * k ∧
     wr.ownsRow w1.heap.size 122 3 v es.length (Zb5 rs)∧wr.ownsRow w1.heap.size 3 1 av es.length (Ze1 es)∧Hid (ZbZ wr rs es∧ZbQ wr rs es (split 10 (bl s)))∧Hid (ZI 0 [] (split 10 (bl s))=ZI k es ((split 10 (bl s)).drop k))∧Below w1.heap.size w1 wr)
   (fun _ _ _ i _=>n - (intOf i).toNat)
 case atStart=>exact⟨0,[],[],Nat.zero_le _,rfl,Nat.le_refl _,rfl,Nat.le_refl _,World.ownsRow_nil _ _ _ _,World.ownsRow_nil _ _ _ _,⟨ZbZ.nil _,ZbQ.nil _ _⟩,rfl,Below.refl _ _⟩
 case round=>
  obtain⟨k,es,rs,hk,rfl,hek,rfl,hsum,hown,hat,HAL,HA,hbr⟩:=hrel
  have hwr:w1.heap.size≤wr.heap.size:=hbr.size
  by_cases hlt:k<n
  ·have hkb:k<bs.length:=by rw[←HN.out];exact hlt
   have hkl:k<(split 10 (bl s)).length:=by rw[←hsp.out,List.length_map];exact hkb
   have hck:wr.cell? ⟨g,k,none⟩=some (.string bs[k]):=(hbr.cell (p:=⟨g,k,none⟩) hgl).trans (hcells.out k hkb)
   have HK:Hid (bl bs[k]=(split 10 (bl s)).getD k []):=ZeN hsp.out k hkb
   generalize bs[k]=sk at hck HK
   have hsk6:sk.size≤6000:=by rw[Z5 HK.out];have:=Zei 10 (bl s) k hkl;rw[Zg]at this;omega
   cases he:sk.toList.isEmpty
   ·have HNE:Hid ((split 10 (bl s)).getD k []≠[]):=by rw[←HK.out];exact Zeu he
    go_wp2_with fail
    refine(Zri sk _ hsk6).mono ?_
    rintro e w2 ⟨nm,la,ln,lc,sa,sn,sc,ok,rfl,hres,hb2⟩
    have hw2:wr.heap.size≤w2.heap.size:=hb2.size
    have hB2:Below w1.heap.size w1 w2:=hbr.trans (hb2.mono hwr)
    rcases hres with ⟨rfl,inside,qs,hlab,hline⟩|⟨rfl,hline⟩
    ·have hline1:=hline.1
     have hsn:sn≤6001:=by have:=ZjG hline1;rw[Zg]at this;omega
     have hnm:Zx (bl nm)=true:=(Zhi hline1).1
     have hin:inside.length≤6000:=by have:=ZpD hline1;rw[Zg]at this;omega
     have HF:Hid (ZI 0 [] (split 10 (bl s))=ZI (k+1) (es++[⟨k,bl nm,inside,sn⟩]) ((split 10 (bl s)).drop (k+1))):=hid (by
      rw[HA.out];exact ZjI hkl HNE.out (by rw[←HK.out];exact hline1))
     have hlo:Zc2 w2 (.slice la ln lc) inside:=⟨qs,hlab.mono (Nat.zero_le _),hline.2.1⟩
     have HAL2:Hid (ZbZ w2 (rs++[(.string nm,.slice la ln lc,.slice sa sn sc)]) (es++[⟨k,bl nm,inside,sn⟩])∧ZbQ w2 (rs++[(.string nm,.slice la ln lc,.slice sa sn sc)]) (es++[⟨k,bl nm,inside,sn⟩]) (split 10 (bl s))):=⟨(HAL.1.below hb2).snoc ⟨k,bl nm,inside,sn⟩ nm la ln lc sa sc rfl hnm hin hlo,ZbQ.snoc HAL.1.1 (HAL.2.below hb2) ⟨k,bl nm,inside,sn⟩ _ _ sa sc (by show w2.ownsRow 0 220 2 (.slice sa sn sc) sn (ZK (Zbm ((split 10 (bl s)).getD k [])));rw[←HK.out];exact hline.2.2.mono (Nat.zero_le _))⟩
     have hown2:=Zw hown hb2
     have hat2:=Zw hat hb2
     have HS:Hid (Z7 (es++[(⟨k,bl nm,inside,sn⟩:Entry)]) (es++[(⟨k,bl nm,inside,sn⟩:Entry)]).length=Z7 es es.length+sn):=Zsw es ⟨k,bl nm,inside,sn⟩
     clear hline1 hlab hline hlo HAL HA hown hat hnm hin
     go_wp2_with (at_builtin;refine wpList_append_own _ rfl (.tmp 43) (.tmp 45) 67 rfl w1.heap.size 122 i0 (.agg #[.string ByteArray.empty,.slice none 0 0,.slice none 0 0]) 3 64 Tryz.underlying67 hi hz0 hz1 hz2 rfl (by decide) _ _ _ rfl ((hown2.alloc _).alloc _) ⟨w2.heap.size+1,0,none⟩ 1 1 [.string nm,.slice la ln lc,.slice sa sn sc] rfl rfl ?c1 ?c2 ?c3 ?c4 ?c5 ?_)
     case c1=>exact Zix (by simp) (by simp) (by simp)
     case c2=>intro u hu;simp at hu;rcases hu with rfl|rfl|rfl <;> rfl
     case c3=>unfold maxLen;omega
     case c4=>omega
     case c5=>simp;omega
     intro v3 w3 hown3 hgrow3 _
     have hs3:w2.heap.size+1+1≤w3.heap.size:=by have:=hgrow3.size;simp at this;omega
     have hB3:Below w1.heap.size w1 w3:=((hB2.alloc (by omega) _).alloc (by simp;omega) _).grown hgrow3 (by simp;omega) (fun q hq=>(hown2.lt q hq).1)
     have hat3:w3.ownsRow w1.heap.size 3 1 _ es.length (Ze1 es):=((hat2.alloc _).alloc _).kept hgrow3 (Zed hat2 hown2 (by decide))
     have hb23:∀o o':Obj,Below w2.heap.size w2 ((w2.alloc o).alloc o'):=fun o o'=>Zbal.alloc (by simp) _
     have hAL3:Hid (ZbZ w3 (rs++[(.string nm,.slice la ln lc,.slice sa sn sc)]) (es++[⟨k,bl nm,inside,sn⟩])∧ZbQ w3 (rs++[(.string nm,.slice la ln lc,.slice sa sn sc)]) (es++[⟨k,bl nm,inside,sn⟩]) (split 10 (bl s))):=⟨ZbZ.grown (HAL2.1.below (hb23 _ _)) hgrow3 ((hown2.alloc _).alloc _) (by decide),ZbQ.grown (HAL2.2.below (hb23 _ _)) hgrow3 ((hown2.alloc _).alloc _) (by decide)⟩
     have hx3:w3.heap[w2.heap.size]?=some (.cells #[.string nm,.slice la ln lc,.slice sa sn sc] 122 (0,0)):=by
      refine(hgrow3.block w2.heap.size (by simp;omega) ?_).trans ?_
      ·intro he;have:=(hown2.lt _ he.symm).2;simp at this
      ·rw[Below.heap_alloc _ _ _ (by simp)];exact Array.getElem?_push_size
     have hc3:w3.cell? ⟨w2.heap.size,2,none⟩=some (.slice sa sn sc):=(ZgE hx3).2
     have hown4:w3.ownsRow w1.heap.size 122 3 v3 (es++[(⟨k,bl nm,inside,sn⟩:Entry)]).length (Zb5 (rs++[(.string nm,.slice la ln lc,.slice sa sn sc)])):=by
      rw[ZnX,List.length_append];exact hown3
     clear hown3 hgrow3 hown2 hat2 HAL2
     go_wp2_with (at_builtin;refine wpList_append_own _ rfl (.tmp 47) (.tmp 49) 38 rfl w1.heap.size 3 j0 (.int .i64 0) 1 8 Tryz.underlying38 hj hy0 hy1 hy2 rfl (by decide) _ _ _ rfl (hat3.alloc _) ⟨w3.heap.size,0,none⟩ 1 1 [.int .i64 k] rfl rfl ?c1 ?c2 ?c3 ?c4 ?c5 ?_)
     case c1=>exact cell_one_new _ _ _
     case c2=>intro u hu;simp at hu;subst hu;rfl
     case c3=>unfold maxLen;omega
     case c4=>omega
     case c5=>simp;omega
     intro v5 w5 hat5 hgrow5 _
     have hB5:Below w1.heap.size w1 w5:=(hB3.alloc (by omega) _).grown hgrow5 (by simp;omega) (fun q hq=>(hat3.lt q hq).1)
     have hown5:=(hown4.alloc (.cells #[.int .i64 k] 3)).kept hgrow5 (Zed hown4 hat3 (by decide))
     have hb35:∀o:Obj,Below w3.heap.size w3 (w3.alloc o):=fun o=>Zbal
     have hAL5:Hid (ZbZ w5 (rs++[(.string nm,.slice la ln lc,.slice sa sn sc)]) (es++[⟨k,bl nm,inside,sn⟩])∧ZbQ w5 (rs++[(.string nm,.slice la ln lc,.slice sa sn sc)]) (es++[⟨k,bl nm,inside,sn⟩]) (split 10 (bl s))):=⟨ZbZ.grown (hAL3.1.below (hb35 _)) hgrow5 (hat3.alloc _) (by decide),ZbQ.grown (hAL3.2.below (hb35 _)) hgrow5 (hat3.alloc _) (by decide)⟩
     have hc5:w5.cell? ⟨w2.heap.size,2,none⟩=some (.slice sa sn sc):=by
      refine hgrow5.cell (a:=⟨w2.heap.size,2,none⟩) ?_ (ZE hat3 hx3 (by decide))
      rw[World.cell?_alloc_lt _ _ _ (by show w2.heap.size<w3.heap.size;omega)];exact hc3
     have hat6:w5.ownsRow w1.heap.size 3 1 v5 (es++[(⟨k,bl nm,inside,sn⟩:Entry)]).length (Ze1 (es++[(⟨k,bl nm,inside,sn⟩:Entry)])):=by
      unfold Ze1;rw[List.map_append,List.length_append];exact hat5
     clear hat5 hgrow5 hown4 hat3 hAL3 hc3 hx3 hb23 hb35
     go_wp2
     go_roundw
     case rel=>exact⟨k+1,_,_,by omega,by go_num,by simp;omega,by rw[HS.out];go_num,by rw[HS.out];omega,hown5,hat6,hAL5,HF,hB5⟩
     case measure=>simp[intOf];omega
    ·have HF:Hid (ZI 0 [] (split 10 (bl s))=.inl k):=hid (by
      rw[HA.out];exact ZjH hkl HNE.out (by rw[←HK.out];exact hline.out))
     have HR:Hid (ZD (bl s)=(5,k)):=hL.out _ (by rw[HF.out])
     go_wp2
     go_ret3
     exact⟨_,by rw[HR.out];rfl,hb1.trans ((hB2.alloc (by omega) _).mono hb1.size),hid (fun h=>by rw[HR.out]at h;cases h)⟩
   ·have HF:Hid (ZI 0 [] (split 10 (bl s))=ZI (k+1) es ((split 10 (bl s)).drop (k+1))):=hid (by
     rw[HA.out];exact ZjJ hkl (by rw[←HK.out];exact ZdW he))
    go_wp2
    go_roundw
    case rel=>exact⟨k+1,es,rs,by omega,by go_num,by omega,rfl,by omega,hown,hat,HAL,HF,hbr⟩
    case measure=>simp[intOf];omega
  ·have HF:Hid (ZI 0 [] (split 10 (bl s))=.inr es):=hid (by
    rw[HA.out];exact ZjK (by rw[←hsp.out,List.length_map,←HN.out];exact hlt))
   have hes6:es.length≤6001:=by omega
   have HTw:Hid (Zbl 0 [] (split 10 (bl s))=Zbp [] es):=ZkU HF.out
   obtain⟨lv,lcp,rfl⟩:=Zj hown
   obtain⟨tv,tcp,rfl⟩:=Zj hat
   have hBr:Below w.heap.size w wr:=hb1.trans (hbr.mono hb1.size)
   clear HA hcells hsp
   go_wp2
   go_loopw [12] (fun i wi=>∃(m nd:Nat),m≤es.length∧i=.int .i64 m∧wi=wr.drewN nd∧Hid (Zbp [] es=Zbp (es.take m) (es.drop m))) (fun i _=>es.length - (intOf i).toNat)
   case atStart=>exact⟨0,0,Nat.zero_le _,rfl,rfl,rfl⟩
   case round=>
    obtain⟨m,nd,hm,rfl,rfl,HD⟩:=hrel
    by_cases hlm:m<es.length
    ·obtain⟨gl,hgl2⟩:∃gl,lv=some ⟨gl,0,none⟩:=by
      obtain⟨gl,cp',h⟩:=Zy hown (by omega)
      injection h with h1;exact⟨gl,h1⟩
     obtain⟨ga,hga2⟩:∃ga,tv=some ⟨ga,0,none⟩:=by
      obtain⟨ga,cp',h⟩:=Zy hat (by omega)
      injection h with h1;exact⟨ga,h1⟩
     subst hgl2
     subst hga2
     have hct:wr.cell? ⟨ga,m,none⟩=some (.int .i64 (es[m]).at_):=Zn hat m _ (by simp[Ze1,hlm])
     obtain⟨nmi,lai,lni,lci,sai,sci,r1,r2,r3,r4,r5⟩:=HAL.1.2 m hlm
     obtain⟨f1,f2,_⟩:=Zi4 rs m
     rw[r1]at f1 f2
     have ci1:wr.cell? ⟨gl,m*3,none⟩=some (.string nmi):=Zn hown _ _ f1
     have ci2:wr.cell? ⟨gl,m*3+1,none⟩=some (.slice lai lni lci):=Zn hown _ _ f2
     have HI:Hid (bl nmi=(es[m]).name∧Zx (es[m]).name=true∧(es[m]).inside.length≤6000∧Zc2 wr (.slice lai lni lci) (es[m]).inside):=⟨r2,r3,r4,r5⟩
     have HAt:Hid (Zbp (es.take m) (es.drop m)=Zbp [] es):=HD.symm
     generalize hat_:(es[m]).at_=atm at hct
     have HAtm:Hid ((es[m]).at_=atm):=hat_
     clear r1 r2 r3 r4 r5 f1 f2 hat_ HD
     go_wp2
     go_loopw [13] (fun j wj=>∃(q nd:Nat),q≤m∧j=.int .i64 q∧wj=wr.drewN nd∧Hid (∀k,k<q→ZbW es k≠ZbW es m)) (fun j _=>m - (intOf j).toNat)
     case atStart=>exact⟨0,nd,Nat.zero_le _,rfl,rfl,fun k h=>absurd h (Nat.not_lt_zero _)⟩
     case round=>
      obtain⟨q,nd2,hqm,rfl,rfl,HQ⟩:=hrel
      by_cases hlq:q<m
      ·have hlq2:q<es.length:=by omega
       obtain⟨nmk,lak,lnk,lck,sak,sck,r1,r2,r3,r4,r5⟩:=HAL.1.2 q hlq2
       obtain⟨f1,f2,_⟩:=Zi4 rs q
       rw[r1]at f1 f2
       have ck1:wr.cell? ⟨gl,q*3,none⟩=some (.string nmk):=Zn hown _ _ f1
       have ck2:wr.cell? ⟨gl,q*3+1,none⟩=some (.slice lak lnk lck):=Zn hown _ _ f2
       have HKq:Hid (bl nmk=(es[q]).name∧Zx (es[q]).name=true∧(es[q]).inside.length≤6000∧Zc2 wr (.slice lak lnk lck) (es[q]).inside):=⟨r2,r3,r4,r5⟩
       clear r1 r2 r3 r4 r5 f1 f2
       go_wp2_with fail
       refine(Zkm _ (HI.2.2.2.below (ZeF _ _ _)) HI.2.2.1).mono ?_
       rintro e wx ⟨ra,rfl,hra,na,rfl⟩
       go_wp2_with fail
       refine(Zkm _ (HKq.2.2.2.below (ZeF _ _ _)) HKq.2.2.1).mono ?_
       rintro e wx ⟨rb,rfl,hrb,nb,rfl⟩
       have hks:=Zo0 hlm hlq2 HI.2.1 HKq.2.1
       have hwn:((nmi.toList == nmk.toList)=true∧(ra.toList == rb.toList)=true∧ZbW es q=ZbW es m)∨((nmi.toList == nmk.toList)=true∧(ra.toList == rb.toList)=false∧ZbW es q≠ZbW es m)∨((nmi.toList == nmk.toList)=false∧ZbW es q≠ZbW es m):=by
        rw[ZO,ZO,ZO,ZO,HI.1,HKq.1,hra.out,hrb.out]
        by_cases h1:(es[m]).name=(es[q]).name
        ·by_cases h2:(es[m]).inside=(es[q]).inside
         ·exact Or.inl ⟨by rw[h1];simp,by rw[h2];simp,hks.2 ⟨h1,h2⟩⟩
         ·exact Or.inr (Or.inl ⟨by rw[h1];simp,by simp[h2],fun h=>h2 (hks.1 h).2⟩)
        ·exact Or.inr (Or.inr ⟨by simp[h1],fun h=>h1 (hks.1 h).1⟩)
       clear hks
       rcases hwn with ⟨e1,e2,hk3⟩|⟨e1,e2,hk3⟩|⟨e1,hk3⟩
       ·have HR:Hid (ZD (bl s)=(6,atm)):=hL.out _ (by
         rw[HF.out];simp only[HTw.out];rw[←HAt.out,ZmR hlm hlq hk3,HAtm.out])
        clear hk3
        go_wp2
        go_quiet (fail)
        go_wp2
        go_quiet (fail)
        go_wp2
        go_ret3
        exact⟨_,by rw[HR.out];rfl,(by repeat first|exact Below.refl _ _|assumption|refine Below.alloc ?_ ?_ _|refine Below.setCell ?_ ?_ _|refine Zk ?_ _|refine Below.drew ?_|omega|(simp;omega)|simp),hid (fun h=>by rw[HR.out]at h;cases h)⟩
       ·have HQ2 : Hid (∀ k, k < q + 1 → ZbW es k ≠ ZbW es m) := fun k hk => by
          rcases Nat.lt_succ_iff_lt_or_eq.1 hk with h|rfl
          · exact HQ.out k h
          · exact hk3
        clear hk3
        go_wp2
        go_quiet (fail)
        go_wp2
        go_roundw
        case rel=>exact⟨q+1,_,by omega,by go_num,rfl,HQ2⟩
        case measure=>simp[intOf];omega
       ·have HQ2 : Hid (∀ k, k < q + 1 → ZbW es k ≠ ZbW es m) := fun k hk => by
          rcases Nat.lt_succ_iff_lt_or_eq.1 hk with h|rfl
          · exact HQ.out k h
          · exact hk3
        clear hk3
        go_wp2
        go_quiet (fail)
        go_wp2
        go_roundw
        case rel=>exact⟨q+1,_,by omega,by go_num,rfl,HQ2⟩
        case measure=>simp[intOf];omega
      ·obtain rfl:q=m:=by omega
       have HD2:Hid (Zbp [] es=Zbp (es.take (q+1)) (es.drop (q+1))):=hid (by rw[←HAt.out];exact ZmS hlm HQ.out)
       go_wp2
       go_roundw
       case rel=>exact⟨q+1,nd2,by omega,by go_num,rfl,HD2⟩
       case measure=>simp[intOf];omega
    ·have HND:Hid (Zbp [] es=none):=hid (by rw[HD.out,List.drop_of_length_le (by omega)];rfl)
     have HM:Hid (ZD (bl s)=if 30<es.length∨200<Z7 es es.length then (7,0)else (0,0)):=hL.out _ (by
      have h0:Zbp [] es=none:=by rw[HD.out,List.drop_of_length_le (by omega)];rfl
      rw[HF.out];simp only[HTw.out,h0])
     by_cases h30:30<es.length
     ·have hd:decide (30<(es.length:Int))=true:=by simp;omega
      have HR:Hid (ZD (bl s)=(7,0)):=hid (by rw[HM.out,if_pos (Or.inl h30)])
      go_wp2
      go_ret3
      exact⟨_,by rw[HR.out];rfl,(by repeat first|exact Below.refl _ _|assumption|refine Below.alloc ?_ ?_ _|refine Below.setCell ?_ ?_ _|refine Zk ?_ _|refine Below.drew ?_|omega|(simp;omega)|simp),hid (fun h=>by rw[HR.out]at h;cases h)⟩
     ·have hd:decide (30<(es.length:Int))=false:=by simp;omega
      by_cases h200:200<Z7 es es.length
      ·have hd2:decide (200<(Z7 es es.length:Int))=true:=by simp;omega
       have HR:Hid (ZD (bl s)=(7,0)):=hid (by rw[HM.out,if_pos (Or.inr h200)])
       go_wp2
       go_ret3
       exact⟨_,by rw[HR.out];rfl,(by repeat first|exact Below.refl _ _|assumption|refine Below.alloc ?_ ?_ _|refine Below.setCell ?_ ?_ _|refine Zk ?_ _|refine Below.drew ?_|omega|(simp;omega)|simp),hid (fun h=>by rw[HR.out]at h;cases h)⟩
      ·have hd2:decide (200<(Z7 es es.length:Int))=false:=by simp;omega
       have HR:Hid (ZD (bl s)=(0,0)):=hid (by rw[HM.out,if_neg (by rintro(h|h) <;> omega)])
       have HLD:Hid (∀nd,Zdv (wr.drewN nd) (.slice lv es.length lcp) (bl s)):=hid (fun nd=>Zdv.below ⟨es,rs,HF.out,HND.out,by omega,hown.mono (Nat.zero_le _),HAL.1,HAL.2⟩ (ZeF _ _ _))
       go_wp2
       go_ret3
       exact⟨_,by rw[HR.out];rfl,(by repeat first|exact Below.refl _ _|assumption|refine Below.alloc ?_ ?_ _|refine Below.setCell ?_ ?_ _|refine Zk ?_ _|refine Below.drew ?_|omega|(simp;omega)|simp),hid (fun _=>HLD.out _)⟩
def serE(P:List (List UInt8))(e:Entry):Ser:=⟨e.name,(ZY e.inside).getD [],Zbm (P.getD e.at_ [])⟩
def Zde(l:List UInt8):List Ser:=match ZI 0 [] (split 10 l)with
 | .inr es=>es.map (serE (split 10 l))
 | .inl _=>[]
theorem Zn5(l:List (Int×Int)):(ZK l).length=l.length*2:=by
 induction l with
 | nil=>rfl
 | cons a l ih=>simp only[ZK,List.length_cons,ih];omega
theorem Zky(l:List UInt8):∀x∈Zbm l,smOk x:=by
 intro x hx
 unfold Zbm at hx
 split at hx
 ·rename_i b _
  cases hd:l.drop (b+1)with
  | nil=>rw[hd]at hx;cases hx
  | cons c t=>
   rw[hd]at hx
   obtain⟨y,_,rfl⟩:=List.mem_map.1 hx
   exact Zsh y
 ·cases hx
theorem ZgF{α:Type}(Q:Nat→α→Prop):∀n:Nat,(∀j,j<n→∃z,Q j z)→∃zs:List α,zs.length=n∧∀j (h:j<zs.length),Q j zs[j]
 | 0,_=>⟨[],rfl,fun j h=>absurd h (Nat.not_lt_zero _)⟩
 | n + 1, h => by
   obtain⟨zs,h1,h2⟩:=ZgF Q n (fun j hj=>h j (by omega))
   obtain⟨z,hz⟩:=h n (by omega)
   refine⟨zs++[z],by simp[h1],fun j hj=>?_⟩
   by_cases hlt:j<zs.length
   · rw[List.getElem_append_left hlt];exact h2 j hlt
   · have hj':j=zs.length:=by simp at hj;omega
     subst hj'
     rw[List.getElem_append_right (Nat.le_refl _)]
     simp only[Nat.sub_self,List.getElem_cons_zero]
     rw[h1];exact hz
theorem Zn7(zs:List SZ)(rs:List (Value×Value×Value))(hl:rs.length=zs.length)(h:∀j (hj:j<zs.length),rs[j]?=some (.string zs[j].1,zs[j].2.1,zs[j].2.2.1)):Zc6 zs=Zb5 rs:=by
 induction zs generalizing rs with
 | nil => cases rs with
   | nil=>rfl
   | cons _ _=>simp at hl
 | cons z zs ih=>
  cases rs with
  | nil=>simp at hl
  | cons r rs=>
   have h0:=h 0 (by simp)
   simp only[List.getElem?_cons_zero,List.getElem_cons_zero,Option.some.injEq]at h0
   subst h0
   rw[Zc6,Zb5,ih rs (by simpa using hl) (fun j hj=>by have:=h (j+1) (by simp;omega);simpa using this)]
theorem ZgN : ∀ (rest seen : List Entry), Zbp seen rest = none → (rest.Pairwise fun a b => Zb6 a ≠ Zb6 b) ∧ ∀ e ∈ rest, ∀ s ∈ seen, Zb6 s ≠ Zb6 e
  | [],_,_=>⟨List.Pairwise.nil,fun _ h=>by cases h⟩
  | e :: rest, seen, h => by
    unfold Zbp at h
    split at h
    · cases h
    · rename_i hn
      obtain⟨h1,h2⟩:=ZgN rest (seen++[e]) h
      refine⟨List.pairwise_cons.2 ⟨fun b hb=>h2 b hb e (by simp),h1⟩,fun f hf s hs=>?_⟩
      rcases List.mem_cons.1 hf with rfl|hf
      · intro he
        refine hn ?_
        rw[List.contains_iff_mem,←he]
        exact List.mem_map.2 ⟨s,hs,rfl⟩
      · exact h2 f hf s (List.mem_append_left _ hs)
theorem Zgs{l:List UInt8}{ps:List Lab}(h:ZY l=some ps):wrt ps=l:=by
 have:=Zlq h
 rwa [ZhS ps _ (Nat.le_refl _),List.take_length]at this
theorem Zdv.sto{w:World}{v:Value}{l:List UInt8}(hll:l.length≤6000)(h:Zdv w v l):∃ss:List SZ,StoV w v ss∧Zp ss=Zde l∧Dst (Zde l)∧ss.length≤30:=by
 obtain⟨es,rs,h1,h2,h3,h4,h5,h6⟩:=h
 have h7 : ∀ j (hj : j < es.length), (es[j]).count ≤ 6001 := fun j hj => (Zhj h1 (by simp) (fun p hp => by
   obtain⟨i,hi,rfl⟩:=List.mem_iff_getElem.1 hp
   have:=Zei 10 l i hi
   rw[List.getD_eq_getElem?_getD,List.getElem?_eq_getElem hi,Option.getD_some]at this
   omega)).2 _ (List.getElem_mem hj)
 have hch := ZgF (fun j (z : SZ) => ∃ hj : j < es.length, rs[j]? = some (.string z.1, z.2.1, z.2.2.1) ∧ z.2.2.2 = serE (split 10 l) es[j] ∧ ZeY w z) es.length (fun j hj => by
   obtain⟨nm,la,ln,lc,sa,sc,e1,e2,e3,e4,qs,e5,e6⟩:=h5.2 j hj
   obtain⟨x,y,sa',sc',d1,d2⟩:=h6 j hj
   rw[e1]at d1
   injection d1 with d1
   injection d1 with _ d1
   injection d1 with _ d1
   injection d1 with d1 _ d3
   subst d1 d3
   have hbd:=ZjC e6 e4
   have hcl:=d2.1
   rw[Zn5]at hcl
   have hcnt:(Zbm ((split 10 l).getD (es[j]).at_ [])).length=(es[j]).count:=by omega
   refine⟨(nm,.slice la ln lc,.slice sa (es[j]).count sc,serE (split 10 l) es[j]),hj,e1,rfl,e2,⟨qs,e5,?_,?_,fun q hq=>?_⟩,?_,?_,Zky _⟩
   · show qs.map bl2=(ZY (es[j]).inside).getD []
     rw[e6];rfl
   · have:=hbd.1;rwa [List.length_map]at this
   · have:=hbd.2 (bl2 q) (List.mem_map.2 ⟨q,hq,rfl⟩)
     have g1:q.1.size≤8:=by rw[←Zg];exact this.1
     have g2:q.2.size≤8:=by rw[←Zg];exact this.2
     exact⟨by omega,by omega⟩
   · show w.ownsRow 0 220 2 (.slice sa (es[j]).count sc) (Zbm ((split 10 l).getD (es[j]).at_ [])).length (ZK (Zbm ((split 10 l).getD (es[j]).at_ [])))
     rw[hcnt];exact d2
   · show(Zbm ((split 10 l).getD (es[j]).at_ [])).length≤6001
     rw[hcnt]
     exact h7 j hj)
 obtain⟨zs,hz1,hz2⟩:=hch
 have hst:Zde l=es.map (serE (split 10 l)):=by unfold Zde;rw[h1]
 refine⟨zs,⟨?_,by omega,fun z hz=>?_⟩,?_,?_,by omega⟩
 ·have:=Zn7 zs rs (by rw[h5.1,hz1]) (fun j hj=>(hz2 j hj).2.1)
  rw[this,hz1];exact h4
 ·obtain⟨j,hj,rfl⟩:=List.mem_iff_getElem.1 hz
  exact(hz2 j hj).2.2.2
 ·rw[hst]
  unfold Zp
  refine List.ext_getElem (by rw[List.length_map,List.length_map,hz1]) (fun j h1' h2'=>?_)
  rw[List.getElem_map,List.getElem_map]
  exact(hz2 j (by simpa using h1')).2.2.1
 ·rw[hst]
  unfold Dst
  rw[List.pairwise_map]
  refine List.Pairwise.imp_of_mem ?_ (ZgN es [] h2).1
  intro a b ha hb hne hh
  obtain⟨i,hi,rfl⟩:=List.mem_iff_getElem.1 ha
  obtain⟨k,hk,rfl⟩:=List.mem_iff_getElem.1 hb
  obtain⟨_,_,_,_,_,_,_,_,n1,_,q1,_,l1⟩:=h5.2 i hi
  obtain⟨_,_,_,_,_,_,_,_,n2,_,q2,_,l2⟩:=h5.2 k hk
  refine hne ((Zg7 n1 n2).2 ⟨hh.1,?_⟩)
  have hw:=hh.2
  unfold serE at hw
  simp only[l1,l2,Option.getD_some]at hw
  rw[Zgs l1,Zgs l2]at hw
  exact hw
theorem Tryz.infoI64:(Tryz.prog.info? 2).map (fun i=>(i.zero,i.size,i.bytes))=some (some (.int .i64 0),1,8):=by kernel_rfl
set_option maxRecDepth 100000 in
set_option maxHeartbeats 4000000 in
theorem ZsM(f l s:Int)(w:World)(h:badT f l s) :
  Calls Tryz.prog 27 #[.agg #[.int .i64 f,.int .i64 l,.int .i64 s]] w fun e w'=>e=.returned (.tuple #[.slice none 0 0,.bool false])∧Below w.heap.size w w':=by
 unfold badT at h
 by_cases h1:f < -1000000
 ·go_enter Tryz.func27,Tryz.ntmps27
  go_wp2
  go_ret2
  exact⟨rfl,(by repeat first|exact Below.refl _ _|assumption|refine Below.alloc ?_ ?_ _|refine Below.setCell ?_ ?_ _|refine Zk ?_ _|refine Below.drew ?_|omega|(simp;omega)|simp)⟩
 by_cases h2:1000000<f
 ·go_enter Tryz.func27,Tryz.ntmps27
  go_wp2
  go_ret2
  exact⟨rfl,(by repeat first|exact Below.refl _ _|assumption|refine Below.alloc ?_ ?_ _|refine Below.setCell ?_ ?_ _|refine Zk ?_ _|refine Below.drew ?_|omega|(simp;omega)|simp)⟩
 by_cases h3:l < -1000000
 ·go_enter Tryz.func27,Tryz.ntmps27
  go_wp2
  go_ret2
  exact⟨rfl,(by repeat first|exact Below.refl _ _|assumption|refine Below.alloc ?_ ?_ _|refine Below.setCell ?_ ?_ _|refine Zk ?_ _|refine Below.drew ?_|omega|(simp;omega)|simp)⟩
 by_cases h4:1000000<l
 ·go_enter Tryz.func27,Tryz.ntmps27
  go_wp2
  go_ret2
  exact⟨rfl,(by repeat first|exact Below.refl _ _|assumption|refine Below.alloc ?_ ?_ _|refine Below.setCell ?_ ?_ _|refine Zk ?_ _|refine Below.drew ?_|omega|(simp;omega)|simp)⟩
 by_cases h5:s<1
 ·go_enter Tryz.func27,Tryz.ntmps27
  go_wp2
  go_ret2
  exact⟨rfl,(by repeat first|exact Below.refl _ _|assumption|refine Below.alloc ?_ ?_ _|refine Below.setCell ?_ ?_ _|refine Zk ?_ _|refine Below.drew ?_|omega|(simp;omega)|simp)⟩
 by_cases h6:1000000<s
 ·go_enter Tryz.func27,Tryz.ntmps27
  go_wp2
  go_ret2
  exact⟨rfl,(by repeat first|exact Below.refl _ _|assumption|refine Below.alloc ?_ ?_ _|refine Below.setCell ?_ ?_ _|refine Zk ?_ _|refine Below.drew ?_|omega|(simp;omega)|simp)⟩
 have h7:l<f:=by omega
 clear h
 go_enter Tryz.func27,Tryz.ntmps27
 go_wp2
 go_ret2
 exact⟨rfl,(by repeat first|exact Below.refl _ _|assumption|refine Below.alloc ?_ ?_ _|refine Below.setCell ?_ ?_ _|refine Zk ?_ _|refine Below.drew ?_|omega|(simp;omega)|simp)⟩
def ZhZ(w:World)(f l s:Int)(v ok:Value):Prop:=(ok=.bool false∧ZbY f l s=none)∨(ok=.bool true∧∃ts:List Int,ZbY f l s=some ts∧ts.length≤50∧(∀t∈ts,-1000000≤t∧t≤1000000)∧w.ownsRow 0 2 1 v ts.length (ts.map (.int .i64)))
set_option maxRecDepth 100000 in
set_option maxHeartbeats 4000000 in
theorem ZsN(f l s:Int)(w:World)(h:¬badT f l s) :
  Calls Tryz.prog 27 #[.agg #[.int .i64 f, .int .i64 l, .int .i64 s]] w fun e w' => ∃ v ok : Value, e = .returned (.tuple #[v, ok]) ∧
    Hid (ZhZ w' f l s v ok)∧Below w.heap.size w w':=by
 have HV:Hid (ZbY f l s=ZdJ l s 60 f []):=hid (by unfold ZbY;rw[if_neg h])
 unfold badT at h
 have h1:¬f < -1000000:=fun e=>h (Or.inl e)
 have h2:¬1000000<f:=by omega
 have h3:¬l < -1000000:=by omega
 have h4:¬1000000<l:=by omega
 have h5:¬s<1:=by omega
 have h6:¬1000000<s:=by omega
 have h7:¬l<f:=by omega
 clear h
 obtain⟨i0,hi,hz0,hz1,hz2⟩:=info_parts Tryz.infoI64
 go_enter Tryz.func27,Tryz.ntmps27
 go_wp2
 go_loopg [4,5] 60 (fun gk v4 v5 wr=>∃(ts:List Int) (t:Int),ts.length≤50∧gk=60 - ts.length∧v5=.int .i64 t∧-1000000≤t∧t≤2000000∧Hid (ZbY f l s=ZdJ l s (60 - ts.length) t ts)∧Hid (∀t∈ts,-1000000≤t∧t≤1000000)∧Hid (wr.ownsRow (w.heap.size+1) 2 1 v4 ts.length (ts.map (.int .i64)))∧Hid (Below w.heap.size w wr)∧Hid (BAt wr w.heap.size [.int .i64 f,.int .i64 l,.int .i64 s] 46))
 case atStart=>exact⟨[],f,Nat.zero_le _,rfl,rfl,by omega,by omega,HV,hid (by intro t ht;cases ht),World.ownsRow_nil _ _ _ _,hid Zbal,hid (Go.Deep.blk_alloc_new _ _)⟩
 case round=>
  obtain⟨ts,t,hl,hgk,rfl,ht1,ht2,HR,HT,HO,HB,HX⟩:=hrel
  have x0:=HX.cell 0
  have x1:=HX.cell 1
  have x2:=HX.cell 2
  simp only[Zget]at x0 x1 x2
  obtain⟨av,cp,hv⟩:=Zj HO.out
  subst hv
  obtain⟨fu,hfu⟩:∃fu,60 - ts.length=fu+1:=⟨59 - ts.length,by omega⟩
  have HR2:Hid (ZbY f l s=if t≤l then (if ts.length=50 then none else ZdJ l s fu (t+s) (ts++[t]))else some ts):=hid (by rw[HR.out,hfu];rfl)
  have hzw:=HX.lt
  clear HR
  by_cases hle:t≤l
  ·by_cases h50:ts.length=50
   ·have HF:Hid (ZbY f l s=none):=hid (by rw[HR2.out,if_pos hle,if_pos h50])
    have he:((ts.length:Int) == 50)=true:=by rw[h50];rfl
    go_wp2
    go_ret2
    exact⟨_,_,rfl,hid (Or.inl ⟨rfl,HF.out⟩),HB.out⟩
   ·have he:((ts.length:Int) == 50)=false:=by rw[beq_eq_false_iff_ne];omega
    have HF:Hid (ZbY f l s=ZdJ l s (60 - (ts++[t]).length) (t+s) (ts++[t])):=hid (by
     rw[HR2.out,if_pos hle,if_neg h50];congr 1;rw[List.length_append,List.length_singleton];omega)
    clear hfu
    go_wp2_with (at_builtin;refine wpList_append_own _ rfl (.tmp 54) (.tmp 56) 70 rfl (w.heap.size+1) 2 i0 (.int .i64 0) 1 8 Tryz.underlying70 hi hz0 hz1 hz2 rfl (by decide) _ _ _ rfl (HO.alloc _) ⟨wr.heap.size,0,none⟩ 1 1 [.int .i64 t] rfl rfl (Zbg rfl) ?c2 ?c3 ?c4 ?c5 ?_)
    case c2=>first|exact rfl|(intro u hu;simp at hu;subst hu;rfl)
    case c3=>unfold maxLen;omega
    case c4=>omega
    case c5=>first|omega|(simp;omega)
    intro v' w6 hown6 hgrow _
    have HB6:Hid (Below w.heap.size w w6):=hid (Zdi (HB.alloc HB.size _) hgrow (fun q hq=>by have:=(HO.lt q hq).1;omega))
    have HX6:=hid (BAt.ownGrownLt (HX.below Zbal) (HO.alloc _) hgrow (by omega))
    have HO6:Hid (w6.ownsRow (w.heap.size+1) 2 1 v' (ts++[t]).length ((ts++[t]).map (.int .i64))):=hid (by
     rw[List.map_append,List.length_append];exact hown6)
    have HT6:Hid (∀u∈ts++[t],-1000000≤u∧u≤1000000):=hid (by
     intro u hu
     rcases List.mem_append.mp hu with h|h
     ·exact HT.out u h
     ·rw[List.mem_singleton]at h;subst h;omega)
    clear hown6 hgrow x0 x1 x2
    have x0:=HX6.cell 0
    have x1:=HX6.cell 1
    have x2:=HX6.cell 2
    simp only[Zget]at x0 x1 x2
    go_wp2
    go_roundg (60 - (ts.length+1))
    case measure=>omega
    case rel=>exact⟨ts++[t],t+s,by rw[List.length_append,List.length_singleton];omega,by rw[List.length_append,List.length_singleton],rfl,by omega,by omega,HF,HT6,HO6,HB6,HX6⟩
  ·have HF:Hid (ZbY f l s=some ts):=hid (by rw[HR2.out,if_neg hle])
   go_wp2
   go_ret2
   exact⟨_,_,rfl,hid (Or.inr ⟨rfl,ts,HF.out,hl,HT.out,ZdH HO.out⟩),HB.out⟩
end Go.Proofs.YtpbemaaghbbocaaGreatDoor
