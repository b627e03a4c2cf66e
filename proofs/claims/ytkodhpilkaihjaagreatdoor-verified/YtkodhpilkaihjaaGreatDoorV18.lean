/- Parts. -/
import Derived.Test.YtkodhpilkaihjaaGreatDoorV17
import Derived.Deep.LoopGhost
namespace Go.Proofs.YtkodhpilkaihjaaGreatDoor
open Go.RowKit LS
theorem kept_below{b:Nat}{pv:Value}{w w':World}(h:Below w.heap.size w w'):Kept b pv w pv w':=⟨h.os,h.tape,h.output,h.size,fun k hk _ _=>h.block k hk,Or.inl rfl⟩
theorem PartRes.pre{w0 w w':World}{b:Nat}{pv:Value}{s:ByteArray}{deep:Nat}{xs:List Value}{M:Nat}{R:Out Tr}{i:Int}(hk:Kept b pv w0 pv w)(h:PartRes w b pv s deep xs M R i w'):PartRes w0 b pv s deep xs M R i w':=by
 obtain⟨n',pv',ys,h1,h2,h3,h4,h5⟩:=h.out
 exact⟨n',pv',ys,h1,h2,hk.trans h3,h4,h5⟩
theorem idxI_of{w:List UInt8}{l:List (List UInt8)}{i:Nat}(h:idx w l=some i):idxI w l=i:=by unfold idxI;rw[h]
theorem idxI_no{w:List UInt8}{l:List (List UInt8)}(h:idx w l=none):idxI w l=-1:=by unfold idxI;rw[h]
theorem innerP_word{rec:Nat→List Tok→Nat→Out Tr}{ts:List Tok}{deep:Nat}(hk:(hd ts).kind=2)(hm:isT [45] (hd ts)=false)(ho:isT [40] (hd ts)=false):innerP rec ts deep=match idx (hd ts).txt groupWords with
  | some g=>groupP rec g ts.tail deep
  | none => match idx (hd ts).txt overWords with
    | some o=>winP o ts.tail
    | none=>bnd (selP ts) fun p r=>.ok (leafT p,r):=by
 unfold innerP
 rw[if_neg (by omega),hm,ho]
 rfl
set_option maxRecDepth 100000 in
set_option maxHeartbeats 2000000 in
theorem inner_group{w:World}{b:Nat}{pv:Value}{s:ByteArray}{deep:Nat}{ts:List Tok}(h:St w b pv s deep (.ok ((),ts)))(hs:s.size≤5000)(hk:(hd ts).kind=2)(hm:isT [45] (hd ts)=false)(ho:isT [40] (hd ts)=false){g:Nat}(hg:idx (hd ts).txt groupWords=some g)
  {rec:Nat→List Tok→Nat→Out Tr} {L:Nat} (hw:PartC 315 s (withinP rec) (L+1)) (hL:ts.length≤L+1) {n:Nat} {xs:List Value} {M:Nat} (hown:w.ownsRow 0 92 8 pv n xs) (hM:M≤6000) (hB:n+ts.length≤M) (hdp:deep≤20) :
  Calls Tryz.prog 308 #[.pointer (some ⟨b,0,none⟩),.bool false,.bool false] w fun e w'=>∃i:Int,e=.returned (.int .i64 i)∧PartRes w b pv s deep xs M (innerP rec ts deep) i w':=by
 obtain⟨q,hq,hqt,hqs,_,_,htl,_⟩:=h.tok
 obtain⟨c0,c1,c2,c3,c4,c5,c6,c7,c8⟩:=hq.all
 have hlt:=hq.lt
 have hk1:((q.k:Int) == 1)=false:=by rw[(tok_k hqt).1,beq_eq_false_iff_ne];omega
 have HI:Hid (innerP rec ts deep=groupP rec g ts.tail deep):=hid (by rw[innerP_word hk hm ho,hg])
 have HX:Hid (idxI (bl q.tx) groupWords=g):=hid (by rw[(tok_k hqt).2];exact idxI_of hg)
 have H:Hid (St w b pv s deep (.ok ((),ts))):=h
 have HO:Hid (w.ownsRow 0 92 8 pv n xs):=hown
 have HW:Hid (PartC 315 s (withinP rec) (L+1)):=hw
 clear h hown hq hqt c0 c1 c2 c5 c6 c7 c8 hw hg
 go_enter Tryz.func308,Tryz.ntmps308
 go_wp2_with fail
 refine(among_any _ _ _ (by decide)).mono ?_
 rintro e w1 ⟨rfl,hb1⟩
 rw[groups_split,HX.out]
 have d4:w1.cell? ⟨b,4,none⟩=some (.string q.tx):=(hb1.cell (p:=⟨b,4,none⟩) hlt).trans c4
 have HB1:Hid (Below w.heap.size w w1):=hb1
 clear hb1 c3 c4
 go_wp2_with fail
 refine(among_any _ _ _ (by decide)).mono ?_
 rintro e w2 ⟨rfl,hb2⟩
 rw[overs_split]
 have HB2:Hid (Below w.heap.size w w2):=HB1.out.trans (hb2.mono HB1.out.size)
 have HS2:Hid (St w2 b pv s deep (.ok ((),ts))):=St.kept H.out (HB2.out.block b hlt)
 have HO2:Hid (w2.ownsRow 0 92 8 pv n xs):=own_below HO.out HB2.out
 generalize idxI (bl q.tx) overWords=oi
 clear hb2 d4 HB1
 go_wp2_with fail
 refine(group_any HS2.out (by omega) (by omega) g _ rfl HW.out hL HO2.out hM hB hdp).mono ?_
 rintro e w3 ⟨i,rfl,hp⟩
 have HP:Hid (PartRes w b pv s deep xs M (innerP rec ts deep) i w3):=hid (by rw[HI.out];exact hp.pre (kept_below HB2.out))
 clear hp
 go_wp2
 go_ret
 exact⟨_,rfl,HP.out⟩
theorem SelIs.base{w:World}{base:Nat}{p:PV}{nd:Nd}(h:SelIs w base p nd):SelIs w 0 p nd:=by
 obtain⟨h1,h2,qs,h3,h4⟩:=h
 exact⟨h1,h2,qs,own_base h3,h4⟩
set_option maxRecDepth 100000 in
set_option maxHeartbeats 2000000 in
theorem inner_sel{w:World}{b:Nat}{pv:Value}{s:ByteArray}{deep:Nat}{ts:List Tok}(h:St w b pv s deep (.ok ((),ts)))(hs:s.size≤5000)(hk:(hd ts).kind=2)(hm:isT [45] (hd ts)=false)(ho:isT [40] (hd ts)=false)(hg:idx (hd ts).txt groupWords=none)(hv:idx (hd ts).txt overWords=none)
  (hr:reserved (hd ts)=false) (rec:Nat→List Tok→Nat→Out Tr) {n:Nat} {xs:List Value} {M:Nat} (hown:w.ownsRow 0 92 8 pv n xs) (hM:M≤6000) (hB:n+ts.length≤M) :
  Calls Tryz.prog 308 #[.pointer (some ⟨b,0,none⟩),.bool false,.bool false] w fun e w'=>∃i:Int,e=.returned (.int .i64 i)∧PartRes w b pv s deep xs M (innerP rec ts deep) i w':=by
 obtain⟨q,hq,hqt,hqs,_,_,htl,_⟩:=h.tok
 obtain⟨c0,c1,c2,c3,c4,c5,c6,c7,c8⟩:=hq.all
 have hlt:=hq.lt
 have hk1:((q.k:Int) == 1)=false:=by rw[(tok_k hqt).1,beq_eq_false_iff_ne];omega
 have HI:Hid (innerP rec ts deep=bnd (selP ts) fun p r=>.ok (leafT p,r)):=hid (by rw[innerP_word hk hm ho,hg,hv])
 have HX:Hid (idxI (bl q.tx) groupWords=-1):=hid (by rw[(tok_k hqt).2];exact idxI_no hg)
 have HY:Hid (idxI (bl q.tx) overWords=-1):=hid (by rw[(tok_k hqt).2];exact idxI_no hv)
 have H:Hid (St w b pv s deep (.ok ((),ts))):=h
 have HO:Hid (w.ownsRow 0 92 8 pv n xs):=hown
 have HBU : Hid (Bud M (n + 1) (bnd (selP ts) fun p r => (.ok (leafT p, r) : Out Tr))) := hid (by
   unfold selP nameP
   rw[hr]
   show Bud M (n+1) (bnd (bnd (kindP 2 ts) _) _)
   unfold kindP
   rw[if_pos hk,bnd_bnd]
   have h0:Bud M (n+1) (.ok ((hd ts).txt,ts.tail):Out (List UInt8)):=(show n+1+ts.tail.length≤M by omega)
   refine h0.bnd ?_
   intro a t z e hz
   injection e with e;injection e with _ e;subst e
   obtain⟨x,t2,h1,h2⟩:=bnd_ok hz
   injection h2 with h2;subst h2
   split at h1
   · obtain⟨cs,t3,h3,h4⟩:=bnd_ok h1
     injection h4 with h4;injection h4 with _ h4;subst h4
     have:=listP_len condP_len _ _ _ _ h3
     simp at this ⊢
     omega
   · injection h1 with h1;injection h1 with _ h1;subst h1;exact Nat.le_refl _)
 clear h hown hq hqt c0 c1 c2 c5 c6 c7 c8 hg hv
 go_enter Tryz.func308,Tryz.ntmps308
 go_wp2_with fail
 refine(among_any _ _ _ (by decide)).mono ?_
 rintro e w1 ⟨rfl,hb1⟩
 rw[groups_split,HX.out]
 have d4:w1.cell? ⟨b,4,none⟩=some (.string q.tx):=(hb1.cell (p:=⟨b,4,none⟩) hlt).trans c4
 have HB1:Hid (Below w.heap.size w w1):=hb1
 clear hb1 c3 c4
 go_wp2_with fail
 refine(among_any _ _ _ (by decide)).mono ?_
 rintro e w2 ⟨rfl,hb2⟩
 rw[overs_split,HY.out]
 have HB2:Hid (Below w.heap.size w w2):=HB1.out.trans (hb2.mono HB1.out.size)
 have HS2:Hid (St w2 b pv s deep (.ok ((),ts))):=St.kept H.out (HB2.out.block b hlt)
 have HO2:Hid (w2.ownsRow 0 92 8 pv n xs):=own_below HO.out HB2.out
 clear hb2 d4 HB1
 go_wp2_with fail
 refine(qsel_any HS2.out (by omega)).mono ?_
 rintro e w3 ⟨p,rfl,hst,hsi,hg3⟩
 have HS3:Hid (St w3 b pv s deep (unitP (selP ts))):=hst
 have HO3:Hid (w3.ownsRow 0 92 8 pv n xs):=row_grown HS2.out HO2.out hg3
 have HK3:Hid (Kept b pv w pv w3):=(kept_below HB2.out).grown hg3
 have HS3a:Hid (∀o,St (w3.alloc o) b pv s deep (unitP (selP ts))):=fun o=>St.kept HS3.out (Go.Deep.blk_alloc_lt _ _ _ (St.lt HS3.out))
 have HO3a:Hid (∀o,(w3.alloc o).ownsRow 0 92 8 pv n xs):=fun o=>World.ownsRow.alloc HO3.out o
 have HK3a:Hid (∀o,Kept b pv w pv (w3.alloc o)):=fun o=>HK3.out.grown (World.grownBy_alloc _ _ _)
 have HSI:Hid (∀o z,selP ts=.ok z→SelIs (w3.alloc o) 0 p z.1):=hid (by
  intro o z e
  obtain⟨q1,q2,qs,q3,q4⟩:=hsi.out _ rfl z e
  exact⟨q1,q2,qs,own_base (q3.alloc o),q4⟩)
 clear hst hg3 hsi
 go_wp2_with fail
 refine(St.lay (HS3a.out _) (HO3a.out _) (by omega) p).mono ?_
 rintro e w4 ⟨pv4,rfl,s4,o4,k4⟩
 have HP:Hid (PartRes w b pv s deep xs M (innerP rec ts deep) n w4):=hid (by
  refine leaf_res (HK3a.out _) (HS3a.out _) (HO3a.out _) s4 o4 k4 (by rw[HI.out];exact HBU.out) ?_ ?_
  ·rw[HI.out]
   cases selP ts with
   | error e=>rfl
   | ok x=>rfl
  ·intro t z e
   rw[HI.out]at e
   obtain⟨nd,r,e1,e2⟩:=bnd_ok e
   injection e2 with e2;injection e2 with e2 _
   obtain⟨q1,q2,q3⟩:=HSI.out _ _ e1
   refine⟨nd,e2.symm,?_,by rw[q1],by rw[q1]⟩
   have q2':nd=⟨1,0,0,bl p.nm,nd.conds,[]⟩:=q2
   rw[q2']
   refine⟨by rw[q1];rfl,by rw[q1],by rw[q1];rfl,rfl,q3,[],?_,rfl⟩
   rw[q1];exact World.ownsRow_nil _ _ _ _)
 clear s4 o4 k4
 go_wp2
 go_ret
 exact⟨_,rfl,HP.out⟩
def szB(r:Out Unit):Bool:=match r with
 | .error _=>false
 | .ok x=>(hd x.2).kind == 1
def szI(r:Out Unit):Int:=match r with
 | .error _=>0
 | .ok x=>if (hd x.2).kind=1 then numI 1000 (hd x.2).txt else 0
theorem size_steps (r3 : Out Unit) : (bnd (if szI r3 < 1 then bnd r3 (fun _ ts => .error (2, (hd ts).at_)) else r3) fun _ ts => unitP (kindP 1 ts)) = (bnd r3 fun _ ts => unitP (sizeP ts)) ∧ ∀ ts z, r3 = .ok ((), ts) → sizeP ts = .ok z → szI r3 = z.1 := by
  cases r3 with
  | error e=>exact⟨rfl,fun ts z h=>nomatch h⟩
  | ok x=>
    obtain⟨⟨⟩,ts⟩:=x
    refine⟨?_,?_⟩
    · show _=unitP (sizeP ts)
      unfold sizeP
      by_cases hk:(hd ts).kind=1
      · have e:szI (.ok ((),ts))=numI 1000 (hd ts).txt:=if_pos hk
        rw[e]
        by_cases h1:numI 1000 (hd ts).txt<1
        · rw[if_pos h1,if_neg (by omega)];rfl
        · rw[if_neg h1,if_pos ⟨hk,by omega⟩]
          show unitP (kindP 1 ts)=_
          unfold kindP
          rw[if_pos hk];rfl
      · have e:szI (.ok ((),ts))=0:=if_neg hk
        rw[e,if_pos (by decide),if_neg (fun h=>hk h.1)];rfl
    · intro t z e hz
      injection e with e;injection e with _ e;subst e
      unfold sizeP at hz
      split at hz
      · rename_i h
        injection hz with hz;subst hz
        exact if_pos h.1
      · cases hz
theorem win_steps (o : Nat) (t0 : List Tok) {r3 : Out Unit} (h3 : r3 = bnd (bnd (takeP [40] t0) fun _ ts => unitP (selP ts)) fun _ ts => takeP [91] ts) :
    unitP (winP o t0)=(bnd (bnd (bnd r3 fun _ ts=>unitP (sizeP ts)) fun _ ts=>takeP [93] ts) fun _ ts=>takeP [41] ts)∧
    ∀t z,winP o t0=.ok (t,z)→∃y p0 y2 t3 nz,takeP [40] t0=.ok ((),y)∧selP y=.ok (p0,y2)∧r3=.ok ((),t3)∧sizeP t3=.ok nz∧t=leafT ⟨2,o,nz.1,p0.name,p0.conds,[]⟩:=by
  subst h3
  unfold winP
  cases h1:takeP [40] t0 with
  | error e=>exact⟨rfl,fun t z h=>nomatch h⟩
  | ok x1=>
    obtain⟨⟨⟩,y⟩:=x1
    simp only[bnd]
    cases h2:selP y with
    | error e=>exact⟨rfl,fun t z h=>nomatch h⟩
    | ok x2=>
      obtain⟨p0,y2⟩:=x2
      simp only[unitP,bnd]
      cases h3:takeP [91] y2 with
      | error e=>exact⟨rfl,fun t z h=>nomatch h⟩
      | ok x3=>
        obtain⟨⟨⟩,t3⟩:=x3
        simp only
        cases h4:sizeP t3 with
        | error e=>exact⟨rfl,fun t z h=>nomatch h⟩
        | ok nz=>
          simp only
          cases h5:takeP [93] nz.2 with
          | error e=>exact⟨rfl,fun t z h=>nomatch h⟩
          | ok x5=>
            simp only
            cases h6:takeP [41] x5.2 with
            | error e=>exact⟨rfl,fun t z h=>nomatch h⟩
            | ok x6=>
              simp only
              refine⟨trivial,fun t z h=>?_⟩
              injection h with h;injection h with h _
              exact⟨y,p0,y2,t3,nz,rfl,h2,rfl,h4,h.symm⟩
theorem CondsAre.grownQ{w w':World}{b:Nat}{pv:Value}{s:ByteArray}{deep base:Nat}{r:Out Unit}{p:PV}{cs:List (List UInt8×List UInt8×Bool)}(h:CondsAre w base p cs)(hst:St w b pv s deep r)(hg:w.grownBy w' (some b)):CondsAre w' base p cs:=by
 obtain⟨qs,h1,h2⟩:=h
 obtain⟨q,hq,_⟩:=hst.view
 exact⟨qs,own_same h1 (fun k hk=>hg.block k (h1.lt k hk).2 (fun e=>own_ne_block h1 hq (by decide) (by rw[hk,e]))),h2⟩
theorem CondsAre.box{w:World}{a base:Nat}{p p0:PV}{cs:List (List UInt8×List UInt8×Bool)}(h:CondsAre w base p cs)(hp:PAt w a p0)(o:Nat)(x:Value):CondsAre (w.setCell ⟨a,o,none⟩ x) base p cs:=by
 obtain⟨qs,h1,h2⟩:=h
 exact⟨qs,own_setBox h1 hp (by decide) _ _,h2⟩
theorem St.view2{w:World}{b:Nat}{pv:Value}{s:ByteArray}{deep:Nat}{r:Out Unit}(h:St w b pv s deep r) :
  ∃q:QV,QAt w b q∧(∀x,r=.error x→q.e≠0)∧(∀x,r=.ok x→q.e=0∧tokOf q=hd x.2∧q.tx.size≤s.size+2):=by
 cases r with
 | error x=>
  obtain⟨q,h1,h2,h3,h4,h5,h6⟩:=h
  exact⟨q,h1,fun _ _=>by rw[h4];exact h5,fun y hy=>nomatch hy⟩
 | ok x=>
  obtain⟨⟨q,h1,h2,h3,h4,h5,h6,h7⟩,_⟩:=h
  refine⟨q,h1,(by intro y hy;cases hy),?_⟩
  intro y hy
  injection hy with hy;subst hy
  have:=Toks.txt_le (l:=bl s) (t:=tokOf q) (at_:=q.at_) (ts:=x.2) h7
  have e:(tokOf q).txt=bl q.tx:=rfl
  rw[e,bl_length,bl_length]at this
  exact⟨h5,h7.hd.symm,this⟩
def SelOk(w:World)(p:PV)(y:Out Unit):Prop:=∀t z,y=.ok ((),t)→selP t=.ok z→p=⟨1,0,0,p.nm,p.ca,p.cn,p.cc,none,0,0,0,0⟩∧z.1=⟨1,0,0,bl p.nm,z.1.conds,[]⟩∧CondsAre w 0 p z.1.conds
theorem SelOk.grown{w w':World}{b:Nat}{pv:Value}{s:ByteArray}{deep:Nat}{r y:Out Unit}{p:PV}(h:SelOk w p y)(hst:St w b pv s deep r)(hg:w.grownBy w' (some b)):SelOk w' p y:=
 fun t z e hz=>let ⟨h1,h2,h3⟩:=h t z e hz;⟨h1,h2,h3.grownQ hst hg⟩
theorem SelOk.box{w:World}{a:Nat}{p p0:PV}{y:Out Unit}(h:SelOk w p y)(hp:PAt w a p0)(o:Nat)(x:Value):SelOk (w.setCell ⟨a,o,none⟩ x) p y:=
 fun t z e hz=>let ⟨h1,h2,h3⟩:=h t z e hz;⟨h1,h2,h3.box hp o x⟩
set_option maxRecDepth 100000 in
set_option maxHeartbeats 4000000 in
theorem inner_win{w:World}{b:Nat}{pv:Value}{s:ByteArray}{deep:Nat}{ts:List Tok}(h:St w b pv s deep (.ok ((),ts)))(hs:s.size≤5000)(hk:(hd ts).kind=2)(hm:isT [45] (hd ts)=false)(ho:isT [40] (hd ts)=false)(hg:idx (hd ts).txt groupWords=none){o:Nat}(hv:idx (hd ts).txt overWords=some o)
  (rec:Nat→List Tok→Nat→Out Tr) {n:Nat} {xs:List Value} {M:Nat} (hown:w.ownsRow 0 92 8 pv n xs) (hM:M≤6000) (hB:n+ts.length≤M) :
  Calls Tryz.prog 308 #[.pointer (some ⟨b,0,none⟩),.bool false,.bool false] w fun e w'=>∃i:Int,e=.returned (.int .i64 i)∧PartRes w b pv s deep xs M (innerP rec ts deep) i w':=by
 obtain⟨q,hq,hqt,hqs,_,_,htl,_⟩:=h.tok
 obtain⟨c0,c1,c2,c3,c4,c5,c6,c7,c8⟩:=hq.all
 have hlt:=hq.lt
 have hk1:((q.k:Int) == 1)=false:=by rw[(tok_k hqt).1,beq_eq_false_iff_ne];omega
 have HI:Hid (innerP rec ts deep=winP o ts.tail):=hid (by rw[innerP_word hk hm ho,hg,hv])
 have HX:Hid (idxI (bl q.tx) groupWords=-1):=hid (by rw[(tok_k hqt).2];exact idxI_no hg)
 have HY:Hid (idxI (bl q.tx) overWords=o):=hid (by rw[(tok_k hqt).2];exact idxI_of hv)
 have H:Hid (St w b pv s deep (.ok ((),ts))):=h
 have HO:Hid (w.ownsRow 0 92 8 pv n xs):=hown
 have HBU:Hid (Bud M (n+1) (winP o ts.tail)):=hid (by
  have h0:Bud M (n+1) (.ok ((),ts.tail):Out Unit):=(show n+1+ts.tail.length≤M by omega)
  have:=h0.bnd (f:=fun _ t=>winP o t) (fun _ t z e hz=>by injection e with e;injection e with _ e;subst e;have:=winP_len hz;omega)
  exact this)
 clear h hown hq hqt c0 c1 c2 c5 c6 c7 c8 hg hv
 go_enter Tryz.func308,Tryz.ntmps308
 go_wp2_with fail
 refine(among_any _ _ _ (by decide)).mono ?_
 rintro e w1 ⟨rfl,hb1⟩
 rw[groups_split,HX.out]
 have d4:w1.cell? ⟨b,4,none⟩=some (.string q.tx):=(hb1.cell (p:=⟨b,4,none⟩) hlt).trans c4
 have HB1:Hid (Below w.heap.size w w1):=hb1
 clear hb1 c3 c4
 go_wp2_with fail
 refine(among_any _ _ _ (by decide)).mono ?_
 rintro e w2 ⟨rfl,hb2⟩
 rw[overs_split,HY.out]
 have HB2:Hid (Below w.heap.size w w2):=HB1.out.trans (hb2.mono HB1.out.size)
 have HS2:Hid (St w2 b pv s deep (.ok ((),ts))):=St.kept H.out (HB2.out.block b hlt)
 have HO2:Hid (w2.ownsRow 0 92 8 pv n xs):=own_below HO.out HB2.out
 clear hb2 d4 HB1
 go_wp2_with fail
 refine(St.next HS2.out (by omega) ⟨ts,rfl,by omega⟩).mono ?_
 rintro e w3 ⟨rfl,hst,hg⟩
 have HS3:Hid (St w3 b pv s deep (.ok ((),ts.tail))):=hst
 have HO3:Hid (w3.ownsRow 0 92 8 pv n xs):=row_grown HS2.out HO2.out hg
 have HK3:Hid (Kept b pv w pv w3):=(kept_below HB2.out).grown hg
 clear hst hg HS2 HO2
 go_wp2_with fail
 refine(St.take HS3.out (by omega) _).mono ?_
 rintro e w4 ⟨rfl,hst,hg⟩
 have HS4:Hid (St w4 b pv s deep (takeP [40] ts.tail)):=hst
 have HO4:Hid (w4.ownsRow 0 92 8 pv n xs):=row_grown HS3.out HO3.out hg
 have HK4:Hid (Kept b pv w pv w4):=HK3.out.grown hg
 clear hst hg HS3 HO3 HK3
 go_wp2_with fail
 refine(qsel_any HS4.out (by omega)).mono ?_
 rintro e w5 ⟨p,rfl,hst,hsi,hg⟩
 obtain⟨W5,hW5⟩:∃W5,W5=w5.alloc (.cells #[.int .i64 p.k,.int .i64 p.n,.int .i64 p.op,.string p.nm,.slice p.ca p.cn p.cc,.slice p.ba p.bn p.bc,.int .i64 p.a,.int .i64 p.b] 92):=⟨_,rfl⟩
 have HS5:Hid (St W5 b pv s deep (bnd (takeP [40] ts.tail) fun _ ts=>unitP (selP ts))):=hid (by rw[hW5];exact St.kept hst (Go.Deep.blk_alloc_lt _ _ _ (St.lt hst)))
 have ho5:=row_grown HS4.out HO4.out hg
 have HO5:Hid (W5.ownsRow 0 92 8 pv n xs):=hid (by rw[hW5];exact ho5.alloc _)
 have HK5:Hid (Kept b pv w pv W5):=hid (by rw[hW5];exact(HK4.out.grown hg).grown (World.grownBy_alloc _ _ _))
 have HSO:Hid (SelOk W5 p (takeP [40] ts.tail)):=hid (by
  intro t z e hz
  obtain⟨q1,q2,qs,q3,q4⟩:=hsi.out _ e z hz
  rw[hW5]
  exact⟨q1,q2,qs,own_base (q3.alloc _),q4⟩)
 obtain⟨a5,ha5⟩:∃a5,a5=w5.heap.size:=⟨_,rfl⟩
 have HP5:Hid (PAt W5 a5 p):=hid (by rw[hW5,ha5];exact Go.Deep.blk_alloc_new _ _)
 have hwa:w.heap.size≤a5:=by rw[ha5];exact(HK4.out.grown hg).size
 have hab:b≠a5:=by rw[ha5];have:=St.lt hst;omega
 have HXB:Hid (pv.ownBlock≠some a5):=hid (fun e=>by have:=(ho5.lt _ e).2;omega)
 clear hst hg hsi ho5 HS4 HO4 HK4
 go_wp2_with fail
 rw[←hW5,←ha5]
 clear hW5 ha5
 refine(St.take HS5.out (by omega) _).mono ?_
 rintro e w6 ⟨rfl,hst,hg⟩
 obtain⟨r3,hr3⟩:∃r3:Out Unit,r3=bnd (bnd (takeP [40] ts.tail) fun _ ts=>unitP (selP ts)) fun _ ts=>takeP [91] ts:=⟨_,rfl⟩
 have HR3:Hid (r3=bnd (bnd (takeP [40] ts.tail) fun _ ts=>unitP (selP ts)) fun _ ts=>takeP [91] ts):=hr3
 have HS6:Hid (St w6 b pv s deep r3):=hid (by rw[hr3];exact hst)
 have HO6:Hid (w6.ownsRow 0 92 8 pv n xs):=row_grown HS5.out HO5.out hg
 have HK6:Hid (Kept b pv w pv w6):=HK5.out.grown hg
 have HSO6:Hid (SelOk w6 p (takeP [40] ts.tail)):=HSO.out.grown HS5.out hg
 have HP6:Hid (PAt w6 a5 p):=PAt.grown HP5.out hg (by simp;omega)
 clear hst hg hr3 HS5 HO5 HK5 HSO HP5
 obtain⟨q6,hq6,hqe,hqo⟩:=St.view2 HS6.out
 obtain⟨c0,c1,c2,c3,c4,c5,c6,c7,c8⟩:=hq6.all
 have hz6:(((q6.e:Int) == 0)=false∧szB r3=false)∨(((q6.e:Int) == 0)=true∧((q6.k:Int) == 1)=szB r3):=by
  cases r3 with
  | error e=>exact Or.inl ⟨by rw[beq_eq_false_iff_ne];have:=hqe e rfl;omega,rfl⟩
  | ok x=>
   obtain⟨h1,h2,h3⟩:=hqo x rfl
   refine Or.inr ⟨by rw[h1];rfl,?_⟩
   show _=((hd x.2).kind == 1)
   rw[←h2]
   show((q6.k:Int) == 1)=(q6.k == 1)
   rw[Bool.eq_iff_iff,beq_iff_eq,beq_iff_eq];omega
 have HN6:Hid (szB r3=true→q6.tx.size≤6000∧szI r3=numI 1000 (bl q6.tx)):=hid (by
  intro hb
  cases r3 with
  | error e=>cases hb
  | ok x=>
   obtain⟨h1,h2,h3⟩:=hqo x rfl
   have hkk:(hd x.2).kind=1:=by simpa [szB] using hb
   refine⟨by omega,?_⟩
   show(if (hd x.2).kind=1 then _ else _)=_
   rw[if_pos hkk,←h2];rfl)
 have HN7:Hid (szB r3=false→szI r3=0):=hid (by
  intro hb
  cases r3 with
  | error e=>rfl
  | ok x=>exact if_neg (by simpa [szB] using hb))
 have HNb:Hid (-1≤szI r3∧szI r3≤1000):=hid (by
  cases r3 with
  | error e=>exact⟨by show(-1:Int)≤0;decide,by show(0:Int)≤1000;decide⟩
  | ok x=>
   show -1≤(if (hd x.2).kind=1 then _ else _)∧(if (hd x.2).kind=1 then _ else _)≤_
   split
   ·exact numI_bounds 1000 _
   ·decide)
 have HSZ:Hid _:=size_steps r3
 have HWN:Hid _:=win_steps o ts.tail HR3.out
 clear hq6 hqe hqo c0 c1 c2 c5 c6 c8
 generalize szB r3=sb at *
 generalize szI r3=nz at *
 go_upto_region 21 with fail
 go_cut [85] (fun s85 wx=>s85=.bool sb∧wx=w6)
 case first=>
  rcases hz6 with ⟨h1,h2⟩|⟨h1,h2⟩
  ·go_wp2
   go_meet
   exact⟨by rw[h2],rfl⟩
  ·go_wp2
   go_meet
   exact⟨rfl,rfl⟩
 case rest=>
 obtain⟨rfl,rfl⟩:=hcut
 clear hz6
 go_upto_if 85 with fail
 go_cut [12] (fun s12 wx=>s12=.int .i64 nz∧wx=wc)
 case first=>
  cases sb
  ·go_wp2
   go_meet
   exact⟨by rw[HN7.out (by simp)],rfl⟩
  ·have hq60:=(HN6.out (by simp)).1
   go_wp2_with fail
   refine(rNumber_of 1000 _ _ rfl hq60 (by decide)).mono ?_
   rintro e w7 ⟨rfl,rfl⟩
   rw[←(HN6.out (by simp)).2]
   go_wp2
   go_meet
   exact⟨rfl,rfl⟩
 case rest=>
 obtain⟨rfl,rfl⟩:=hcut
 clear HN6 HN7 c3 c4 c7
 obtain⟨r4,hr4⟩:∃r4:Out Unit,r4=if nz<1 then bnd r3 (fun _ ts=>.error (2,(hd ts).at_))else r3:=⟨_,rfl⟩
 have HR4:Hid (r4=if nz<1 then bnd r3 (fun _ ts=>.error (2,(hd ts).at_))else r3):=hr4
 clear hr4
 go_upto_if 93 with fail
 go_cut [] (fun wx=>Hid (St wx b pv s deep r4)∧Hid (PAt wx a5 p)∧Hid (wx.ownsRow 0 92 8 pv n xs)∧Hid (Kept b pv w pv wx)∧Hid (SelOk wx p (takeP [40] ts.tail)))
 case first=>
  by_cases hn1:nz<1
  ·have hdec:decide (nz<1)=true:=decide_eq_true hn1
   have HE:Hid (r4=bnd r3 (fun _ ts=>.error (2,(hd ts).at_))):=hid (by rw[HR4.out,if_pos hn1])
   go_wp2_with fail
   clear hdec hn1
   refine(St.fail HS6.out 2 _ rfl (by decide)).mono ?_
   rintro e w7 ⟨rfl,hst,hg⟩
   have HS7:Hid (St w7 b pv s deep r4):=hid (by rw[HE.out];exact hst)
   have HP7:Hid (PAt w7 a5 p):=PAt.grown HP6.out hg (by simp;omega)
   have HO7:Hid (w7.ownsRow 0 92 8 pv n xs):=row_grown HS6.out HO6.out hg
   have HK7:Hid (Kept b pv w pv w7):=HK6.out.grown hg
   have HQ7:Hid (SelOk w7 p (takeP [40] ts.tail)):=HSO6.out.grown HS6.out hg
   clear hst hg
   go_wp2
   go_meet
   exact⟨HS7,HP7,HO7,HK7,HQ7⟩
  ·have hdec:decide (nz<1)=false:=decide_eq_false hn1
   have HE:Hid (r4=r3):=hid (by rw[HR4.out,if_neg hn1])
   go_wp2
   go_meet
   exact⟨hid (by rw[HE.out];exact HS6.out),HP6,HO6,HK6,HSO6⟩
 case rest=>
 obtain⟨HS7,HP7,HO7,HK7,HQ7⟩:=hcut
 clear HS6 HP6 HO6 HK6 HSO6
 go_wp2_with fail
 refine(St.kind HS7.out (by omega) 1 _ rfl (by decide)).mono ?_
 rintro e w8 ⟨x8,rfl,hst,_,hg⟩
 rw[HR4.out,HSZ.out.1]at hst
 have HS8:Hid (St w8 b pv s deep (bnd r3 fun _ ts=>unitP (sizeP ts))):=hst
 have HP8:Hid (PAt w8 a5 p):=PAt.grown HP7.out hg (by simp;omega)
 have HO8:Hid (w8.ownsRow 0 92 8 pv n xs):=row_grown HS7.out HO7.out hg
 have HK8:Hid (Kept b pv w pv w8):=HK7.out.grown hg
 have HQ8:Hid (SelOk w8 p (takeP [40] ts.tail)):=HQ7.out.grown HS7.out hg
 clear hst hg HS7 HP7 HO7 HK7 HQ7
 go_wp2_with fail
 refine(St.take HS8.out (by omega) _).mono ?_
 rintro e w9 ⟨rfl,hst,hg⟩
 rw[show bl ⟨#[93]⟩=[93] from rfl]at hst
 have HS9:Hid (St w9 b pv s deep (bnd (bnd r3 fun _ ts=>unitP (sizeP ts)) fun _ ts=>takeP [93] ts)):=hst
 have HP9:Hid (PAt w9 a5 p):=PAt.grown HP8.out hg (by simp;omega)
 have HO9:Hid (w9.ownsRow 0 92 8 pv n xs):=row_grown HS8.out HO8.out hg
 have HK9:Hid (Kept b pv w pv w9):=HK8.out.grown hg
 have HQ9:Hid (SelOk w9 p (takeP [40] ts.tail)):=HQ8.out.grown HS8.out hg
 clear hst hg HS8 HP8 HO8 HK8 HQ8
 go_wp2_with fail
 refine(St.take HS9.out (by omega) _).mono ?_
 rintro e w10 ⟨rfl,hst,hg⟩
 rw[show bl ⟨#[41]⟩=[41] from rfl,←HWN.out.1]at hst
 have hp10:PAt w10 a5 p:=PAt.grown HP9.out hg (by simp;omega)
 have ho10:w10.ownsRow 0 92 8 pv n xs:=row_grown HS9.out HO9.out hg
 have hk10:Kept b pv w pv w10:=HK9.out.grown hg
 have hq10:SelOk w10 p (takeP [40] ts.tail):=HQ9.out.grown HS9.out hg
 have hx:∀(W:World),W.ownsRow 0 92 8 pv n xs→∀(j:Nat) (v:Value),(W.setCell ⟨a5,j,none⟩ v).ownsRow 0 92 8 pv n xs:=fun W hW j v=>own_same hW (fun k hk=>Go.Deep.blk_setCell_other _ _ _ _ (by rintro rfl;exact HXB.out hk))
 have hy:∀(W:World),St W b pv s deep (unitP (winP o ts.tail))→∀(j:Nat) (v:Value),St (W.setCell ⟨a5,j,none⟩ v) b pv s deep (unitP (winP o ts.tail)):=fun W hW j v=>St.kept hW (Go.Deep.blk_setCell_other _ _ _ _ hab)
 obtain⟨W10,hW10⟩:∃W,W=((w10.setCell ⟨a5,0,none⟩ (.int .i64 2)).setCell ⟨a5,2,none⟩ (.int .i64 o)).setCell ⟨a5,1,none⟩ (.int .i64 nz):=⟨_,rfl⟩
 have HW10:Hid (W10=((w10.setCell ⟨a5,0,none⟩ (.int .i64 2)).setCell ⟨a5,2,none⟩ (.int .i64 o)).setCell ⟨a5,1,none⟩ (.int .i64 nz)):=hW10
 have pA:=PAt.setK hp10 2
 have pB:=PAt.setOp pA (o:Int)
 have pC:=PAt.setN pB nz
 rw[←hW10]at pC
 have HP11:Hid (PAt W10 a5 { p with k:=2,op:=o,n:=nz }):=pC
 have HO11:Hid (W10.ownsRow 0 92 8 pv n xs):=hid (by rw[hW10];exact hx _ (hx _ (hx _ ho10 _ _) _ _) _ _)
 have HS11:Hid (St W10 b pv s deep (unitP (winP o ts.tail))):=hid (by rw[hW10];exact hy _ (hy _ (hy _ hst _ _) _ _) _ _)
 have HK11:Hid (Kept b pv w pv W10):=hid (by rw[hW10];exact((hk10.set hwa _).set hwa _).set hwa _)
 have HQ11:Hid (SelOk W10 p (takeP [40] ts.tail)):=hid (by rw[hW10];exact((hq10.box hp10 _ _).box pA _ _).box pB _ _)
 obtain⟨k0,k1,k2,k3,k4,k5,k6,k7⟩:=hp10.all
 have f0:=hp10.frozen 0
 have f1:=hp10.frozen 1
 have f2:=hp10.frozen 2
 obtain⟨m0,m1,m2,m3,m4,m5,m6,m7⟩:=PAt.all HP11.out
 clear hst hg hp10 ho10 hk10 hq10 hx hy pA pB pC hW10 HS9 HP9 HO9 HK9 HQ9
 go_wp2_with fail
 clear k0 k1 k2 k3 k4 k5 k6 k7 f0 f1 f2 m0 m1 m2 m3 m4 m5 m6 m7
 rw[←HW10.out]
 clear HW10
 refine(St.lay HS11.out HO11.out (by omega) { p with k:=2,op:=o,n:=nz }).mono ?_
 rintro e w12 ⟨pv12,rfl,s12,o12,k12⟩
 have HP:Hid (PartRes w b pv s deep xs M (innerP rec ts deep) n w12):=hid (by
  refine leaf_res HK11.out HS11.out HO11.out s12 o12 k12 (by rw[HI.out];exact HBU.out) (by rw[HI.out]) ?_
  intro t z e
  rw[HI.out]at e
  obtain⟨y,p0,y2,t3,z3,e1,e2,e3,e4,e5⟩:=HWN.out.2 t z e
  obtain⟨q1,q2,q3⟩:=HQ11.out _ _ e1 e2
  have e6:=HSZ.out.2 t3 z3 e3 e4
  have q2':p0=⟨1,0,0,bl p.nm,p0.conds,[]⟩:=q2
  refine⟨_,e5,⟨rfl,e6,rfl,by rw[q2'],q3,[],?_,rfl⟩,?_,?_⟩
  ·show W10.ownsRow 0 9 1 (.slice p.ba p.bn p.bc) 0 []
   rw[q1];exact World.ownsRow_nil _ _ _ _
  ·show p.a=0
   rw[q1]
  ·show p.b=0
   rw[q1])
 clear s12 o12 k12
 go_wp2
 go_ret
 exact⟨_,rfl,HP.out⟩
theorem St.setDeep{w:World}{b:Nat}{pv:Value}{s:ByteArray}{deep:Nat}{r:Out Unit}(h:St w b pv s deep r)(d:Nat):St (w.setCell ⟨b,6,none⟩ (.int .i64 d)) b pv s d r:=by
 cases r with
 | error x=>
  obtain⟨q,h1,h2,h3,h4,h5,h6⟩:=h
  exact⟨{ q with deep:=d },h1.set 6 _ rfl,h2,rfl,h4,h5,h6⟩
 | ok x=>
  obtain⟨⟨q,h1,h2,h3,h4,h5,h6,h7⟩,_⟩:=h
  exact⟨⟨{ q with deep:=d },h1.set 6 _ rfl,h2,h3,rfl,h5,h6,h7⟩,trivial⟩
theorem St.deepCell{w:World}{b:Nat}{pv:Value}{s:ByteArray}{deep:Nat}{r:Out Unit}(h:St w b pv s deep r):w.cell? ⟨b,6,none⟩=some (.int .i64 deep)∧w.frozen? ⟨b,6,none⟩=false:=by
 obtain⟨q,hq,_,hd,_⟩:=h.view
 rw[←hd]
 exact⟨hq.all.2.2.2.2.2.2.1,hq.frozen 6⟩
theorem PartRes.redeep{w w1 w2:World}{b:Nat}{pv:Value}{s:ByteArray}{deep d:Nat}{xs:List Value}{M:Nat}{R:Out Tr}{i:Int}(hk:Kept b pv w pv w1)(h:PartRes w1 b pv s d xs M R i w2):PartRes w b pv s deep xs M R i (w2.setCell ⟨b,6,none⟩ (.int .i64 deep)):=by
 obtain⟨n',pv',ys,h1,h2,h3,h4,h5⟩:=h.out
 have hg:w2.grownBy (w2.setCell ⟨b,6,none⟩ (.int .i64 deep)) (some b):=grown_set (grown_refl _ _) (Or.inl rfl) _
 obtain⟨q,hq,_⟩:=h1.view
 refine⟨n',pv',ys,h1.setDeep deep,row_grown h1 h2 hg,(hk.trans h3).grown hg,h4,?_⟩
 intro t z e
 obtain⟨k,k1,k2,k3⟩:=h5 t z e
 refine⟨k,k1,?_,k3⟩
 have:=Rep.kept hq h2 ((Kept.refl b pv' w2).grown hg) [] t k k2
 rwa [List.append_nil]at this
def ErrC(f:FuncId):Prop:=∀(w:World) (b:Nat) (pv:Value) (e p deep:Nat),QErr w b pv e p deep→Calls Tryz.prog f #[.pointer (some ⟨b,0,none⟩)] w fun r w'=>r=.returned (.int .i64 0)∧w'=w
theorem PartC.of_ok{f:FuncId}{s:ByteArray}{R:List Tok→Nat→Out Tr}{L:Nat}(he:ErrC f)
  (h:∀(w:World) (b:Nat) (pv:Value) (deep:Nat) (ts:List Tok) (n:Nat) (xs:List Value) (M:Nat),St w b pv s deep (.ok ((),ts))→w.ownsRow 0 92 8 pv n xs→M≤6000→n+ts.length≤M→ts.length≤L→deep≤20→
   Calls Tryz.prog f #[.pointer (some ⟨b,0,none⟩)] w fun e w'=>∃i:Int,e=.returned (.int .i64 i)∧PartRes w b pv s deep xs M (R ts deep) i w'):PartC f s R L:=by
 intro w b pv deep r n xs M h1 h2 h3 h4 h5 h6
 cases r with
 | error x=>
  refine(he w b pv x.1 x.2 deep h1).mono ?_
  rintro e w' ⟨rfl,rfl⟩
  exact⟨0,rfl,PartRes.error h1 h2 h4⟩
 | ok x=>exact h w b pv deep x.2 n xs M h1 h2 h3 h4 (h5 _ rfl) h6
theorem St.pos{w:World}{b:Nat}{pv:Value}{s:ByteArray}{deep:Nat}{ts:List Tok}(h:St w b pv s deep (.ok ((),ts))):0<ts.length:=by
 obtain⟨_,_,_,_,_,_,h,_⟩:=h.tok;omega
theorem PartC.zero{f:FuncId}{s:ByteArray}{R:List Tok→Nat→Out Tr}(he:ErrC f):PartC f s R 0:=
 PartC.of_ok he fun w b pv deep ts n xs M h1 _ _ _ h5 _=>absurd h1.pos (by omega)
theorem starts_word{t:Tok}(h:startsT t=true)(hk:t.kind≠1)(hm:isT [45] t=false)(ho:isT [40] t=false):t.kind=2∧isT wOr t=false∧isT wBy t=false:=by
 unfold startsT at h
 rw[hm,ho]at h
 have:(t.kind == 1)=false:=by rw[beq_eq_false_iff_ne];exact hk
 rw[this]at h
 simp at h
 exact⟨h.1.1,h.1.2,h.2⟩
theorem inner_any {s : ByteArray} (hs : s.size ≤ 5000) {rec : Nat → List Tok → Nat → Out Tr} {L : Nat} (hf : PartC 289 s (fun ts d => rec 3 ts d) L) (hq : PartC 176 s (fun ts d => rec 0 ts d) L)
    {w:World} {b:Nat} {pv:Value} {deep:Nat} {ts:List Tok} (h:St w b pv s deep (.ok ((),ts))) (hst:startsT (hd ts)=true) (hL:ts.length≤L+1) {n:Nat} {xs:List Value} {M:Nat} (hown:w.ownsRow 0 92 8 pv n xs) (hM:M≤6000) (hB:n+ts.length≤M) (hdp:deep≤20) :
    Calls Tryz.prog 308 #[.pointer (some ⟨b,0,none⟩),.bool (isT [45] (hd ts)),.bool (isT [40] (hd ts))] w fun e w'=>∃i:Int,e=.returned (.int .i64 i)∧PartRes w b pv s deep xs M (innerP rec ts deep) i w':=by
  have hw:=within_c (by omega:s.size≤6000) hq
  by_cases hk:(hd ts).kind=1
  · exact inner_num h hs _ _ hk rec hown hM hB
  · cases hm:isT [45] (hd ts)
    · cases ho:isT [40] (hd ts)
      · obtain⟨hk2,hor,hby⟩:=starts_word hst hk hm ho
        cases hg:idx (hd ts).txt groupWords with
        | some g=>exact inner_group h hs hk2 hm ho hg hw hL hown hM hB hdp
        | none=>
          cases hv:idx (hd ts).txt overWords with
          | some o=>exact inner_win h hs hk2 hm ho hg hv rec hown hM hB
          | none=>exact inner_sel h hs hk2 hm ho hg hv (by unfold reserved;rw[hg,hv,hor,hby];rfl) rec hown hM hB
      · exact inner_open h hk hm ho hw hL hown hM hB hdp
    · exact inner_neg h hs _ hk hm hf hL hown hM hB hdp
set_option maxRecDepth 100000 in
set_option maxHeartbeats 4000000 in
theorem factor_c {s : ByteArray} (hs : s.size ≤ 5000) {rec : Nat → List Tok → Nat → Out Tr} {L : Nat} (hf : PartC 289 s (fun ts d => rec 3 ts d) L) (hq : PartC 176 s (fun ts d => rec 0 ts d) L) :
    PartC 289 s (factorP rec) (L+1):=by
  refine PartC.of_ok (fun w b pv e p deep h=>QErr.factor h) ?_
  intro w b pv deep ts n xs M h hown hM hB hL hdp
  obtain⟨q,hqa,hqt,hqs,hqe,hqd,htl,_⟩:=h.tok
  obtain⟨c0,c1,c2,c3,c4,c5,c6,c7,c8⟩:=hqa.all
  rw[hqd]at c6
  rw[hqe]at c7
  have hlt:=hqa.lt
  have fz6:=hqa.frozen 6
  have HF:Hid (PartC 289 s (fun ts d=>rec 3 ts d) L):=hf
  have HQ:Hid (PartC 176 s (fun ts d=>rec 0 ts d) L):=hq
  have H:Hid (St w b pv s deep (.ok ((),ts))):=h
  have HO:Hid (w.ownsRow 0 92 8 pv n xs):=hown
  obtain⟨x1,hx1⟩:∃x,((q.k:Int) == 1)=x:=⟨_,rfl⟩
  obtain⟨x2,hx2⟩:∃x,((q.k:Int) == 2)=x:=⟨_,rfl⟩
  have HST : Hid (startsT (hd ts) = (x1 || isT [45] (hd ts) || isT [40] (hd ts) || (x2 && !isT wOr (hd ts) && !isT wBy (hd ts)))) := hid (by
    unfold startsT
    have e1:((hd ts).kind == 1)=x1:=by rw[←hx1,←(tok_k hqt).1,Bool.eq_iff_iff,beq_iff_eq,beq_iff_eq];omega
    have e2:((hd ts).kind == 2)=x2:=by rw[←hx2,←(tok_k hqt).1,Bool.eq_iff_iff,beq_iff_eq,beq_iff_eq];omega
    rw[e1,e2])
  clear h hown hqa hqt c0 c1 c2 c4 c5 c8 hf hq hqe hqd
  go_enter Tryz.func289,Tryz.ntmps289
  go_wp2_with fail
  refine(St.is H.out _).mono ?_
  rintro e w1 ⟨rfl,rfl⟩
  go_wp2_with fail
  refine(St.is H.out _).mono ?_
  rintro e w2 ⟨rfl,rfl⟩
  go_wp2_with fail
  refine(St.is H.out _).mono ?_
  rintro e w3 ⟨rfl,rfl⟩
  go_wp2_with fail
  refine(St.is H.out _).mono ?_
  rintro e w4 ⟨rfl,rfl⟩
  rw[show isR (bl ⟨#[111,114]⟩) (.ok ((),ts))=isT wOr (hd ts) from rfl,show isR (bl ⟨#[98,121]⟩) (.ok ((),ts))=isT wBy (hd ts) from rfl,show isR (bl ⟨#[45]⟩) (.ok ((),ts))=isT [45] (hd ts) from rfl,show isR (bl ⟨#[40]⟩) (.ok ((),ts))=isT [40] (hd ts) from rfl]
  obtain⟨mi,hmi⟩:∃x,isT [45] (hd ts)=x:=⟨_,rfl⟩
  obtain⟨op,hop⟩:∃x,isT [40] (hd ts)=x:=⟨_,rfl⟩
  have HM:Hid (isT [45] (hd ts)=mi∧isT [40] (hd ts)=op):=⟨hmi,hop⟩
  rw[hmi,hop]
  have hst2:=HST.out
  rw[hmi,hop]at hst2
  obtain⟨sv,hsv⟩:∃x,startsT (hd ts)=x:=⟨_,rfl⟩
  rw[hsv]at hst2
  generalize isT wOr (hd ts)=vo at *
  generalize isT wBy (hd ts)=vb at *
  have HSV:Hid (startsT (hd ts)=sv):=hsv
  have HS2:Hid (sv=(x1 || mi || op || (x2 && !vo && !vb))):=hst2
  clear hmi hop hsv hst2 HST
  go_upto_region 5 with fail
  go_cut [7] (fun s7 wx=>s7=.bool sv∧wx=w4)
  case first=>
    cases x1
    · cases mi
      · cases op
        · cases x2
          · go_wp2;go_meet;exact⟨by rw[HS2.out];rfl,rfl⟩
          · cases vo
            · cases vb
              · go_wp2;go_meet;exact⟨by rw[HS2.out];rfl,rfl⟩
              · go_wp2;go_meet;exact⟨by rw[HS2.out];rfl,rfl⟩
            · go_wp2;go_meet;exact⟨by rw[HS2.out];rfl,rfl⟩
        · go_wp2;go_meet;exact⟨by rw[HS2.out];rfl,rfl⟩
      · go_wp2;go_meet;exact⟨by rw[HS2.out];simp,rfl⟩
    · go_wp2;go_meet;exact⟨by rw[HS2.out];simp,rfl⟩
  case rest=>
  obtain⟨rfl,rfl⟩:=hcut
  clear HS2 hx1 hx2 c3
  cases sv
  · have HR:Hid (factorP rec ts deep=.error (2,(hd ts).at_)):=hid (by unfold factorP;rw[HSV.out];rfl)
    go_wp2_with fail
    refine(St.fail H.out 2 _ rfl (by decide)).mono ?_
    rintro e w5 ⟨rfl,hst,hg⟩
    have HP:Hid (PartRes wc b pv s deep xs M (factorP rec ts deep) 0 w5):=hid (by
      rw[HR.out]
      exact(PartRes.error hst (row_grown H.out HO.out hg) (by omega)).pre ((Kept.refl _ _ _).grown hg))
    clear hst hg
    go_wp2
    go_ret
    exact⟨_,rfl,HP.out⟩
  · by_cases hd20:deep=20
    · have HR:Hid (factorP rec ts deep=.error (3,(hd ts).at_)):=hid (by unfold factorP;rw[HSV.out,if_pos rfl,if_pos hd20])
      have hdb:((deep:Int) == 20)=true:=by rw[hd20];rfl
      go_wp2_with fail
      refine(St.fail H.out 3 _ rfl (by decide)).mono ?_
      rintro e w5 ⟨rfl,hst,hg⟩
      have HP:Hid (PartRes wc b pv s deep xs M (factorP rec ts deep) 0 w5):=hid (by
        rw[HR.out]
        exact(PartRes.error hst (row_grown H.out HO.out hg) (by omega)).pre ((Kept.refl _ _ _).grown hg))
      clear hst hg
      go_wp2
      go_ret
      exact⟨_,rfl,HP.out⟩
    · have HR:Hid (factorP rec ts deep=innerP rec ts (deep+1)):=hid (by unfold factorP;rw[HSV.out,if_pos rfl,if_neg hd20])
      have hdb:((deep:Int) == 20)=false:=by rw[beq_eq_false_iff_ne];omega
      have hd19:deep+1≤20:=by omega
      obtain⟨W,hW⟩:∃W,W=wc.setCell ⟨b,6,none⟩ (.int .i64 ((deep+1:Nat):Int)):=⟨_,rfl⟩
      have hg:wc.grownBy W (some b):=by rw[hW];exact grown_set (grown_refl _ _) (Or.inl rfl) _
      have HS5:Hid (St W b pv s (deep+1) (.ok ((),ts))):=hid (by rw[hW];exact St.setDeep H.out (deep+1))
      have HO5:Hid (W.ownsRow 0 92 8 pv n xs):=row_grown H.out HO.out hg
      have HK5:Hid (Kept b pv wc pv W):=(Kept.refl _ _ _).grown hg
      have HW:Hid (W=wc.setCell ⟨b,6,none⟩ (.int .i64 ((deep+1:Nat):Int))):=hW
      clear hg hW
      go_wp2_with fail
      clear c6 c7 fz6
      rw[show wc.setCell ⟨b,6,none⟩ (.int .i64 ((deep:Int)+1))=W from by rw[HW.out];rfl]
      have hin:=inner_any hs HF.out HQ.out HS5.out HSV.out hL HO5.out hM hB hd19
      rw[HM.out.1,HM.out.2]at hin
      refine hin.mono ?_
      rintro e w6 ⟨i,rfl,hp⟩
      have HPR:Hid (PartRes wc b pv s deep xs M (factorP rec ts deep) i (w6.setCell ⟨b,6,none⟩ (.int .i64 deep))):=hid (by rw[HR.out];exact PartRes.redeep HK5.out hp)
      obtain⟨n6,pv6,ys6,s6,_⟩:=hp.out
      obtain⟨c6,fz6⟩:=s6.deepCell
      clear hp s6 hin HW
      have e19:((deep+1:Nat):Int) - 1=deep:=by omega
      go_wp2
      go_ret
      exact⟨_,rfl,HPR.out⟩
end Go.Proofs.YtkodhpilkaihjaaGreatDoor
