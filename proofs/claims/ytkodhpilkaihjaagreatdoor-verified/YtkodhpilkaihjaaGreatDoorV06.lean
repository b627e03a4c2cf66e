/- Parts. -/
import Derived.Test.YtkodhpilkaihjaaGreatDoorV05
namespace Go.Proofs.YtkodhpilkaihjaaGreatDoor
open Go.RowKit LS
theorem groups_split:split 32 (bl ⟨#[115,117,109,32,109,97,120,32,109,105,110,32,99,111,117,110,116]⟩)=groupWords:=by decide
theorem overs_split:split 32 (bl ⟨#[116,111,116,97,108,32,112,101,97,107,32,108,111,119,32,115,105,122,101,32,114,105,115,101]⟩)=overWords:=by decide
theorem idxI_some(w:List UInt8)(l:List (List UInt8)):(0≤idxI w l ↔ (idx w l).isSome=true):=by
 unfold idxI
 cases idx w l with
 | none=>simp
 | some i=>simp
def pv0(k:Int):PV:=⟨k,0,0,⟨#[]⟩,none,0,0,none,0,0,0,0⟩
theorem two_boxes{w w1:World}{o0 o1:Obj}(hb:Below ((w.alloc o0).alloc o1).heap.size ((w.alloc o0).alloc o1) w1) :
  w1.heap[w.heap.size]?=some o0∧w1.heap[w.heap.size+1]?=some o1∧Below w.heap.size w w1∧w.heap.size+1+1≤w1.heap.size:=by
 have hz:((w.alloc o0).alloc o1).heap.size=w.heap.size+1+1:=by rw[Go.Deep.nblk_alloc,Go.Deep.nblk_alloc]
 have hsz:=hb.size
 rw[hz]at hsz
 have e0:((w.alloc o0).alloc o1).heap[w.heap.size]?=some o0:=by
  rw[Go.Deep.blk_alloc_lt _ _ _ (by rw[Go.Deep.nblk_alloc];omega)];exact Go.Deep.blk_alloc_new _ _
 have e1:((w.alloc o0).alloc o1).heap[w.heap.size+1]?=some o1:=by
  have:=Go.Deep.blk_alloc_new (w.alloc o0) o1;rwa [Go.Deep.nblk_alloc]at this
 refine⟨(hb.block _ (by omega)).trans e0,(hb.block _ (by omega)).trans e1,?_,hsz⟩
 exact ⟨hb.os, hb.tape, hb.output, by omega, fun k hk => (hb.block k (by omega)).trans (by
   rw[Go.Deep.blk_alloc_lt _ _ _ (by rw[Go.Deep.nblk_alloc];omega),Go.Deep.blk_alloc_lt _ _ _ hk])⟩
def nameOk(_:Unit)(ts:List Tok):Out Unit:=if reserved (hd ts)then .error (2,(hd ts).at_)else .ok ((),ts)
theorem nameOk_of{r:Out Unit}{q:QV}(ho:∀x,r=.ok x→q.e=0∧tokOf q=hd x.2){v:Bool}(hv:(decide (0≤idxI (bl q.tx) groupWords) || decide (0≤idxI (bl q.tx) overWords) || isR wOr r || isR wBy r)=v) :
  bnd r nameOk=if v then bnd r (fun _ ts=>.error (2,(hd ts).at_))else r:=by
 cases r with
 | error x=>cases v <;> rfl
 | ok x=>
  have h:=(ho x rfl).2
  have ht:bl q.tx=(hd x.2).txt:=by rw[←h];rfl
  rw[ht]at hv
  have e:reserved (hd x.2)=v:=by
   rw[←hv]
   unfold reserved isR
   have e1:decide (0≤idxI (hd x.2).txt groupWords)=(idx (hd x.2).txt groupWords).isSome:=by
    rw[Bool.eq_iff_iff,decide_eq_true_iff];exact idxI_some _ _
   have e2:decide (0≤idxI (hd x.2).txt overWords)=(idx (hd x.2).txt overWords).isSome:=by
    rw[Bool.eq_iff_iff,decide_eq_true_iff];exact idxI_some _ _
   rw[e1,e2]
  show nameOk () x.2=_
  unfold nameOk
  rw[e]
  cases v <;> rfl
theorem Tryz.infoCond:(Tryz.prog.info? 372).map (fun i=>(i.zero,i.size,i.bytes))=some (some (.agg #[.string ByteArray.empty,.string ByteArray.empty,.bool false]),3,40):=by kernel_rfl
def CAt(w:World)(a:Nat)(x y:ByteArray)(v:Bool):Prop:=w.heap[a]?=some (.cells #[.string x,.string y,.bool v] 372 (0,0))
theorem CAt.lt{w:World}{a:Nat}{x y:ByteArray}{v:Bool}(h:CAt w a x y v):a<w.heap.size:=(Array.getElem?_eq_some_iff.1 h).1
theorem CAt.all{w:World}{a:Nat}{x y:ByteArray}{v:Bool}(h:CAt w a x y v):w.cell? ⟨a,0,none⟩=some (.string x)∧w.cell? ⟨a,1,none⟩=some (.string y)∧w.cell? ⟨a,2,none⟩=some (.bool v):=by
 unfold CAt at h
 refine⟨?_,?_,?_⟩ <;> simp[World.cell?,h]
theorem CAt.frozen{w:World}{a:Nat}{x y:ByteArray}{v:Bool}(h:CAt w a x y v)(o:Nat):w.frozen? ⟨a,o,none⟩=false:=by
 unfold CAt at h;simp[World.frozen?,h]
theorem CAt.grown{w w':World}{a:Nat}{x y:ByteArray}{v:Bool}{r:Option Nat}(h:CAt w a x y v)(hg:w.grownBy w' r)(hn:some a≠r):CAt w' a x y v:=(hg.block a h.lt hn).trans h
theorem own_same{w w':World}{base:Nat}{e:TypeId}{size:Nat}{v:Value}{n:Nat}{xs:List Value}(h:w.ownsRow base e size v n xs)(hb:∀k,v.ownBlock=some k→w'.heap[k]?=w.heap[k]?):w'.ownsRow base e size v n xs:=by
 refine⟨h.1,?_⟩
 rcases h.2 with h2|⟨g,cap,cur,rfl,hg,hh,r⟩
 ·exact Or.inl h2
 ·exact Or.inr ⟨g,cap,cur,rfl,hg,(hb g rfl).trans hh,r⟩
theorem cells_three_new{W:World}{a b c:Value}{t:TypeId}{n:Nat}(hn:W.heap.size=n):∀j x,[a,b,c][j]?=some x→(W.alloc (.cells #[a,b,c] t)).cell? ((⟨n,0,none⟩:Addr).add j)=some x:=by
 intro j x hj
 subst hn
 rw[add_zero_block]
 have h:=Go.Deep.blk_alloc_new W (.cells #[a,b,c] t)
 simp only[World.cell?,h]
 simpa using hj
theorem grown_own{a w w':World}{b:Nat}{r:Option Nat}(h:a.grownBy w (some b))(hg:w.grownBy w' r)(hr:∀k,r=some k→a.heap.size≤k):a.grownBy w' (some b):=
 ⟨hg.os.trans h.os,hg.tape.trans h.tape,hg.output.trans h.output,Nat.le_trans h.size hg.size,fun k hk hn=>(hg.block k (Nat.lt_of_lt_of_le hk h.size) (fun e=>by have:=hr k e.symm;omega)).trans (h.block k hk hn)⟩
def lenAt(w:World)(a:Addr):Nat:=match w.cell? a with
 | some (.slice _ n _)=>n
 | _=>0
def CondsAre(w:World)(base:Nat)(p:PV)(cs:List (List UInt8×List UInt8×Bool)):Prop:=∃qs:List (ByteArray×ByteArray×Bool),w.ownsRow base 372 3 (.slice p.ca p.cn p.cc) qs.length (flatC qs)∧qs.map blC=cs
def SelIs(w:World)(base:Nat)(p:PV)(nd:Nd):Prop:=p=⟨1,0,0,p.nm,p.ca,p.cn,p.cc,none,0,0,0,0⟩∧nd=⟨1,0,0,bl p.nm,nd.conds,[]⟩∧CondsAre w base p nd.conds
theorem CondsAre.nil(w:World)(base:Nat)(p:PV)(h1:p.ca=none)(h2:p.cn=0)(h3:p.cc=0):CondsAre w base p []:=⟨[],by rw[h1,h2,h3];exact World.ownsRow_nil _ _ _ _,rfl⟩
theorem sel_bare {r : Out Unit} (ho : isR [123] (bnd (bnd r nameOk) fun _ ts => unitP (kindP 2 ts)) = false) : (bnd (bnd r nameOk) fun _ ts => unitP (kindP 2 ts)) = (bnd r fun _ ts => unitP (selP ts)) ∧
    (∀y,r=.ok y→∀z,selP y.2=.ok z→bnd r nameOk=.ok y∧∃a,kindP 2 y.2=.ok (a,z.2)∧z.1=⟨1,0,0,a,[],[]⟩):=by
  cases r with
  | error x=>exact⟨rfl,fun y hy=>nomatch hy⟩
  | ok x=>
    simp only[bnd]at ho ⊢
    unfold nameOk at ho ⊢
    unfold selP nameP
    cases hr:reserved (hd x.2)with
    | true=>exact⟨by simp[bnd,unitP],fun y hy z hz=>by injection hy with hy;subst hy;rw[hr]at hz;simp[bnd]at hz⟩
    | false=>
      simp only[hr,Bool.false_eq_true,if_false]at ho ⊢
      cases hk:kindP 2 x.2 with
      | error e=>exact⟨rfl,fun y hy z hz=>by injection hy with hy;subst hy;rw[hr]at hz;simp[hk,bnd]at hz⟩
      | ok k=>
        obtain⟨a,t⟩:=k
        rw[hk]at ho
        have hb:isT [123] (hd t)=false:=ho
        refine⟨by simp[bnd,unitP,hb],fun y hy z hz=>?_⟩
        injection hy with hy;subst hy
        rw[hr]at hz
        simp[hk,bnd,hb]at hz
        subst hz
        exact⟨rfl,a,hk,rfl⟩
theorem sel_open {r : Out Unit} {ts5 : List Tok} (h5 : (bnd (bnd r nameOk) fun _ ts => unitP (kindP 2 ts)) = .ok ((), ts5)) (ho : isT [123] (hd ts5) = true) :
    (bnd r fun _ ts=>unitP (selP ts))=unitP (listP condP [125] ts5.length [] ts5.tail)∧
    (∀y,r=.ok y→∀z,selP y.2=.ok z→bnd r nameOk=.ok y∧∃a cs,kindP 2 y.2=.ok (a,ts5)∧listP condP [125] ts5.length [] ts5.tail=.ok (cs,z.2)∧z.1=⟨1,0,0,a,cs,[]⟩):=by
  cases r with
  | error x=>cases h5
  | ok x=>
    simp only[bnd]at h5 ⊢
    unfold nameOk at h5 ⊢
    unfold selP nameP
    cases hr:reserved (hd x.2)with
    | true=>rw[hr]at h5;simp at h5
    | false=>
      simp only[hr,Bool.false_eq_true,if_false]at h5 ⊢
      cases hk:kindP 2 x.2 with
      | error e=>rw[hk]at h5;cases h5
      | ok k=>
        obtain⟨a,t⟩:=k
        rw[hk]at h5
        have ht:t=ts5:=by simp[unitP,bnd]at h5;exact h5
        subst ht
        cases hL:listP condP [125] t.length [] t.tail with
        | error e=>exact⟨by simp[bnd,unitP,ho,hL],fun y hy z hz=>by injection hy with hy;subst hy;rw[hr]at hz;simp[hk,bnd,ho,hL]at hz⟩
        | ok q=>
          refine⟨by simp[bnd,unitP,ho,hL],fun y hy z hz=>?_⟩
          injection hy with hy;subst hy
          rw[hr]at hz
          simp[hk,bnd,ho,hL]at hz
          subst hz
          exact⟨rfl,a,q.1,hk,rfl,rfl⟩
set_option maxRecDepth 100000 in
set_option maxHeartbeats 4000000 in
theorem qsel_any{w:World}{b:Nat}{pv:Value}{s:ByteArray}{deep:Nat}{r:Out Unit}(h:St w b pv s deep r)(hs:s.size≤6000) :
  Calls Tryz.prog 319 #[.pointer (some ⟨b, 0, none⟩)] w fun e w' => ∃ p : PV, e = .returned (.agg #[.int .i64 p.k, .int .i64 p.n, .int .i64 p.op, .string p.nm, .slice p.ca p.cn p.cc, .slice p.ba p.bn p.bc, .int .i64 p.a, .int .i64 p.b]) ∧ St w' b pv s deep (bnd r fun _ ts => unitP (selP ts)) ∧
    Hid (∀y,r=.ok y→∀z,selP y.2=.ok z→SelIs w' w.heap.size p z.1)∧w.grownBy w' (some b):=by
 have hlt:=h.lt
 obtain⟨q,hq,_,_,hqe,hqo⟩:=h.view
 obtain⟨c0,c1,c2,c3,c4,c5,c6,c7,c8⟩:=hq.all
 have HS:Hid (St w b pv s deep r):=h
 have HO:Hid (∀x,r=.ok x→q.e=0∧tokOf q=hd x.2):=hqo
 clear h hq hqe hqo c0 c1 c2 c3 c5 c6 c7 c8
 go_enter Tryz.func319,Tryz.ntmps319
 go_wp2_with fail
 refine(among_any _ _ _ (by decide)).mono ?_
 rintro e w1 ⟨rfl,hb1⟩
 rw[groups_split]
 obtain⟨e0,e1,hB1,hz1⟩:=two_boxes hb1
 clear hb1
 have d4:w1.cell? ⟨b,4,none⟩=some (.string q.tx):=(hB1.cell (p:=⟨b,4,none⟩) hlt).trans c4
 go_wp2_with fail
 refine(among_any _ _ _ (by decide)).mono ?_
 rintro e w2 ⟨rfl,hb2⟩
 rw[overs_split]
 have hB2:Below w.heap.size w w2:=hB1.trans (hb2.mono hB1.size)
 have HP0:Hid (PAt w2 w.heap.size (pv0 0)):=(hb2.block _ (by omega)).trans e0
 have HP1:Hid (PAt w2 (w.heap.size+1) (pv0 1)):=(hb2.block _ (by omega)).trans e1
 have HS2:Hid (St w2 b pv s deep r):=St.kept HS.out (hB2.block b hlt)
 have HG2:Hid (w.grownBy w2 (some b)):=grown_of_below hB2
 have hz2:w.heap.size+1+1≤w2.heap.size:=Nat.le_trans hz1 hb2.size
 clear hb2 e0 e1 hB1 hB2 c4 d4
 go_wp2_with fail
 refine(St.is HS2.out _).mono ?_
 rintro e w3 ⟨rfl,rfl⟩
 go_wp2_with fail
 refine(St.is HS2.out _).mono ?_
 rintro e w3 ⟨rfl,rfl⟩
 obtain⟨v,hv⟩:∃v,(decide (0≤idxI (bl q.tx) groupWords) || decide (0≤idxI (bl q.tx) overWords) || isR wOr r || isR wBy r)=v:=⟨_,rfl⟩
 have HV:Hid (bnd r nameOk=if v then bnd r (fun _ ts=>.error (2,(hd ts).at_))else r):=nameOk_of HO.out hv
 have HVV:Hid _:=hv
 clear hv HO
 rw[show bl ⟨#[111,114]⟩=wOr from rfl,show bl ⟨#[98,121]⟩=wBy from rfl]
 generalize idxI (bl q.tx) groupWords=ia at HVV ⊢
 generalize idxI (bl q.tx) overWords=ib at HVV ⊢
 generalize isR wOr r=ic at HVV ⊢
 generalize isR wBy r=id at HVV ⊢
 go_upto_region 6 with fail
 go_cut [39] (fun s39 wx=>s39=.bool v∧wx=w3)
 case first=>
  by_cases ha:0≤ia
  ·go_wp2
   go_meet
   exact⟨by rw[←HVV.out,decide_eq_true ha];rfl,rfl⟩
  ·by_cases hb:0≤ib
   ·go_wp2
    go_meet
    exact⟨by rw[←HVV.out,decide_eq_false (show ¬0≤ia by omega),decide_eq_true hb];rfl,rfl⟩
   ·cases ic <;> cases id <;> (go_wp2;go_meet;exact⟨by rw[←HVV.out,decide_eq_false (show ¬0≤ia by omega),decide_eq_false (show ¬0≤ib by omega)];rfl,rfl⟩)
 case rest=>
 obtain⟨rfl,rfl⟩:=hcut
 clear HVV
 go_upto_if 39 with fail
 go_cut [] (fun wx=>Hid (St wx b pv s deep (bnd r nameOk))∧Hid (PAt wx w.heap.size (pv0 0))∧Hid (PAt wx (w.heap.size+1) (pv0 1))∧Hid (w.grownBy wx (some b)))
 case first=>
  cases v
  ·go_wp2
   go_meet
   exact⟨by rw[HV.out];exact HS2,HP0,HP1,HG2⟩
  ·go_wp2_with fail
   refine(St.fail HS2.out 2 _ rfl (by decide)).mono ?_
   rintro e w4 ⟨rfl,hst,hg⟩
   have HS4:Hid _:=hst
   have HG4:Hid _:=hg
   clear hst hg
   go_wp2
   go_meet
   refine⟨by rw[HV.out];exact HS4,PAt.grown HP0.out HG4.out (by simp;omega),PAt.grown HP1.out HG4.out (by simp;omega),grown_trans HG2.out HG4.out⟩
 case rest=>
 obtain⟨HS5,HP05,HP15,HG5⟩:=hcut
 clear HS2 HP0 HP1 HG2 HV HS
 have hz5:w.heap.size+1<wc.heap.size:=PAt.lt HP15.out
 go_wp2_with fail
 refine(St.kind HS5.out hs 2 _ rfl (by decide)).mono ?_
 rintro e w5 ⟨x,rfl,hst,hx,hg⟩
 have hp0:PAt w5 w.heap.size (pv0 0):=PAt.grown HP05.out hg (by simp;omega)
 have hp1:PAt w5 (w.heap.size+1) (pv0 1):=PAt.grown HP15.out hg (by simp;omega)
 obtain⟨k0,k1,k2,k3,k4,k5,k6,k7⟩:=hp1.all
 have g3:=hp1.frozen 3
 have HS6:Hid (St (w5.setCell ⟨w.heap.size+1,3,none⟩ (.string x)) b pv s deep (bnd (bnd r nameOk) fun _ ts=>unitP (kindP 2 ts))):=St.kept hst (Go.Deep.blk_setCell_other _ _ _ _ (by show b≠w.heap.size+1;omega))
 have HP06:Hid (PAt (w5.setCell ⟨w.heap.size+1,3,none⟩ (.string x)) w.heap.size (pv0 0)):=PAt.kept hp0 (Go.Deep.blk_setCell_other _ _ _ _ (by show w.heap.size≠w.heap.size+1;omega))
 have HP16:Hid (PAt (w5.setCell ⟨w.heap.size+1,3,none⟩ (.string x)) (w.heap.size+1) { pv0 1 with nm:=x }):=PAt.setNm hp1 x
 have HG6:Hid (w.grownBy (w5.setCell ⟨w.heap.size+1,3,none⟩ (.string x)) (some b)):=grown_set (grown_trans HG5.out hg) (Or.inr (by show w.heap.size≤w.heap.size+1;omega)) _
 clear HS5 HP05 HP15 HG5 hp0 hp1 hg hst
 go_wp2_with fail
 clear k0 k1 k2 k3 k4 k5 k6 k7 g3
 generalize w5.setCell ⟨w.heap.size+1,3,none⟩ (.string x)=w6 at HS6 HP06 HP16 HG6 ⊢
 refine(St.is HS6.out _).mono ?_
 rintro e w7 ⟨rfl,rfl⟩
 rw[show bl ⟨#[123]⟩=[123] from rfl]
 cases ho:isR [123] (bnd (bnd r nameOk) fun _ ts=>unitP (kindP 2 ts))
 ·obtain⟨k0,k1,k2,k3,k4,k5,k6,k7⟩:=PAt.all HP16.out
  obtain⟨l0,l1,l2,l3,l4,l5,l6,l7⟩:=PAt.all HP06.out
  have f0:=PAt.frozen HP06.out 0
  have f1:=PAt.frozen HP06.out 1
  have f2:=PAt.frozen HP06.out 2
  have f3:=PAt.frozen HP06.out 3
  have f4:=PAt.frozen HP06.out 4
  have f5:=PAt.frozen HP06.out 5
  have f6:=PAt.frozen HP06.out 6
  have f7:=PAt.frozen HP06.out 7
  have HOO:Hid _:=ho
  clear ho
  have HE:Hid (∃W,W=copy8 w7 w.heap.size { pv0 1 with nm:=x }∧PAt W w.heap.size { pv0 1 with nm:=x }):=⟨_,rfl,copy8_at HP06.out _⟩
  go_wp2
  obtain⟨W,hW,hp⟩:=HE.out
  have hW2:=hW
  unfold copy8 at hW2
  rw[←hW2]
  clear hW2 k0 k1 k2 k3 k4 k5 k6 k7 l0 l1 l2 l3 l4 l5 l6 l7 f0 f1 f2 f3 f4 f5 f6 f7
  obtain⟨m0,m1,m2,m3,m4,m5,m6,m7⟩:=hp.all
  refine bodyPost_ret (v:=.agg #[.int .i64 1,.int .i64 0,.int .i64 0,.string x,.slice none 0 0,.slice none 0 0,.int .i64 0,.int .i64 0]) (by simp[results,Tryz.results319,go_sem,m0,m1,m2,m3,m4,m5,m6,m7,pv0]) rfl ⟨{ pv0 1 with nm:=x },rfl,?_,?_,?_⟩
  all_goals subst hW
  ·rw[←(sel_bare HOO.out).1];exact St.kept HS6.out (copy8_other w7 w.heap.size { pv0 1 with nm:=x } b (by omega))
  ·intro y hy z hz
   obtain⟨h1,a,h2,h3⟩:=(sel_bare HOO.out).2 y hy z hz
   have h4:bl x=a:=hx.out y h1 _ h2
   rw[h3]
   exact⟨rfl,by rw[←h4],CondsAre.nil _ _ _ rfl rfl rfl⟩
  ·exact copy8_grown (a:=w.heap.size) HG6.out (Nat.le_refl _) { pv0 1 with nm:=x }
 ·obtain⟨ts5,hr5,hbr,hlive⟩:=isR_live ho
  have HOP:Hid _:=sel_open hr5 hbr
  have hlen5:=isT_len hbr
  have hlen6:ts5.length≤6002:=by
   have h:=HS6.out
   rw[hr5]at h
   have:=St.len h
   simp at this;omega
  clear ho
  go_wp2_with fail
  refine(St.next HS6.out hs ⟨ts5,hr5,hlive⟩).mono ?_
  rintro e w8 ⟨rfl,hst,hg⟩
  rw[hr5]at hst
  have HS8:Hid (St w8 b pv s deep (.ok ((),ts5.tail))):=hst
  have HP08:Hid (PAt w8 w.heap.size (pv0 0)):=PAt.grown HP06.out hg (by simp;omega)
  have HP18:Hid (PAt w8 (w.heap.size+1) ⟨1,0,0,x,none,0,0,none,0,0,0,0⟩):=PAt.grown HP16.out hg (by simp;omega)
  have HG8:Hid (w.grownBy w8 (some b)):=grown_trans HG6.out hg
  clear hst hg HS6 HP06 HP16 HG6 hr5 hbr hlive
  go_wp2_with fail
  refine(St.is HS8.out _).mono ?_
  rintro e w9 ⟨rfl,rfl⟩
  rw[show bl ⟨#[125]⟩=[125] from rfl]
  obtain⟨i0,hi,hz0,hz1,hz2'⟩:=info_parts Tryz.infoCond
  go_wp2
  go_loopw [9] (fun v9 wr => ∃ (qs : List (ByteArray × ByteArray × Bool)) (ca : Option Addr) (cc : Nat) (rr : Out Unit), v9 = .bool (isR [125] rr) ∧ Hid (St wr b pv s deep rr) ∧ Hid (PAt wr w.heap.size (pv0 0)) ∧
    Hid (PAt wr (w.heap.size+1) ⟨1,0,0,x,ca,qs.length,cc,none,0,0,0,0⟩)∧Hid (wr.ownsRow w.heap.size 372 3 (.slice ca qs.length cc) qs.length (flatC qs))∧Hid (w.grownBy wr (some b))∧Hid (LoopRel condP [125] blC ts5.length ts5.tail qs rr))
    (fun _ wr=>ts5.length+2 - lenAt wr ⟨w.heap.size+1,4,none⟩)
  case atStart=>exact⟨[],none,0,.ok ((),ts5.tail),rfl,HS8,HP08,HP18,World.ownsRow_nil _ _ _ _,HG8,LoopRel.start _ _ _ _ _ (by omega)⟩
  case round=>
   obtain⟨qs,ca,cc,rr,rfl,HSr,HP0r,HP1r,HOr,HGr,HLr⟩:=hrel
   obtain⟨qr,hqr,_,_,hqe,hqo⟩:=St.view HSr.out
   have c7:=(QAt.all hqr).2.2.2.2.2.2.2.1
   have hltr:=hqr.lt
   have hway:((isR [125] rr=true∨(isR [125] rr=false∧((qr.e:Int) == 0)=false))∧(isR [125] rr=true∨∃e,rr=.error e))∨(isR [125] rr=false∧((qr.e:Int) == 0)=true∧∃ts,rr=.ok ((),ts)∧isT [125] (hd ts)=false):=by
    cases rr with
    | error e=>exact Or.inl ⟨Or.inr ⟨rfl,by rw[beq_eq_false_iff_ne];have:=(hqe e rfl).2.1;omega⟩,Or.inr ⟨e,rfl⟩⟩
    | ok y=>
     obtain⟨⟨⟩,ts⟩:=y
     have h0:=(hqo _ rfl).1
     cases hc:isT [125] (hd ts)
     ·exact Or.inr ⟨hc,by rw[h0];rfl,ts,rfl,hc⟩
     ·exact Or.inl ⟨Or.inl hc,Or.inl hc⟩
   clear hqr hqe hqo
   rcases hway with ⟨hstop,hend⟩|⟨hv0,he0,ts,hrr,hcl⟩
   ·have HEnd:Hid _:=LoopRel.done HLr.out hend
    clear hend
    generalize isR [125] rr=v9 at hstop
    rcases hstop with rfl|⟨rfl,he⟩
    all_goals
     go_wp2_with fail
     refine(St.take HSr.out hs _).mono ?_
     rintro e w10 ⟨rfl,hst,hg⟩
     rw[show bl ⟨#[125]⟩=[125] from rfl]at hst
     have HS10:Hid _:=hst
     have HP10:Hid (PAt w10 w.heap.size (pv0 0)):=PAt.grown HP0r.out hg (by simp;omega)
     have HP11:Hid (PAt w10 (w.heap.size+1) ⟨1,0,0,x,ca,qs.length,cc,none,0,0,0,0⟩):=PAt.grown HP1r.out hg (by simp;omega)
     have HO10 : Hid (w10.ownsRow w.heap.size 372 3 (.slice ca qs.length cc) qs.length (flatC qs)) := World.ownsRow.kept HOr.out hg (Or.inr (fun h => by
       obtain⟨qq,hqq,_⟩:=St.view HSr.out
       exact own_ne_block HOr.out hqq (by decide) h.symm))
     have HG10:Hid (w.grownBy w10 (some b)):=grown_trans HGr.out hg
     clear hst hg HSr HP0r HP1r HOr HGr HLr c7
     obtain⟨k0,k1,k2,k3,k4,k5,k6,k7⟩:=PAt.all HP11.out
     obtain⟨l0,l1,l2,l3,l4,l5,l6,l7⟩:=PAt.all HP10.out
     have f0:=PAt.frozen HP10.out 0
     have f1:=PAt.frozen HP10.out 1
     have f2:=PAt.frozen HP10.out 2
     have f3:=PAt.frozen HP10.out 3
     have f4:=PAt.frozen HP10.out 4
     have f5:=PAt.frozen HP10.out 5
     have f6:=PAt.frozen HP10.out 6
     have f7:=PAt.frozen HP10.out 7
     have HE:Hid (∃W,W=copy8 w10 w.heap.size ⟨1,0,0,x,ca,qs.length,cc,none,0,0,0,0⟩∧PAt W w.heap.size ⟨1,0,0,x,ca,qs.length,cc,none,0,0,0,0⟩):=⟨_,rfl,copy8_at HP10.out _⟩
     go_wp2
     obtain⟨W,hW,hp⟩:=HE.out
     have hW2:=hW
     unfold copy8 at hW2
     rw[←hW2]
     clear hW2 k0 k1 k2 k3 k4 k5 k6 k7 l0 l1 l2 l3 l4 l5 l6 l7 f0 f1 f2 f3 f4 f5 f6 f7
     obtain⟨m0,m1,m2,m3,m4,m5,m6,m7⟩:=hp.all
     refine bodyPost_ret (v:=.agg #[.int .i64 1,.int .i64 0,.int .i64 0,.string x,.slice ca qs.length cc,.slice none 0 0,.int .i64 0,.int .i64 0]) (by simp[results,Tryz.results319,go_sem,m0,m1,m2,m3,m4,m5,m6,m7]) rfl ⟨⟨1,0,0,x,ca,qs.length,cc,none,0,0,0,0⟩,rfl,?_,?_,?_⟩
     all_goals subst hW
     ·rw[HOP.out.1,HEnd.out.1];exact St.kept HS10.out (copy8_other w10 w.heap.size _ b (by omega))
     ·intro y hy z hz
      obtain⟨h1,a,cs,h2,h3,h4⟩:=HOP.out.2 y hy z hz
      have h5:bl x=a:=hx.out y h1 _ h2
      have h6:=HEnd.out.2 _ h3
      rw[h4]
      refine⟨rfl,by rw[←h5],qs,own_same HO10.out ?_,h6⟩
      intro k hk
      refine copy8_other _ _ _ _ ?_
      rintro rfl
      exact own_ne_block HO10.out HP10.out (by decide) hk.symm
     ·exact copy8_grown (a:=w.heap.size) HG10.out (Nat.le_refl _) _
   ·subst hrr
    have hq6:qs.length≤6004:=by have:=HLr.out.2.2;omega
    have hne1:some b≠(Value.slice ca qs.length cc).ownBlock:=by
     obtain⟨qq,hqq,_⟩:=St.view HSr.out
     exact own_ne_block HOr.out hqq (by decide)
    have HNB:Hid _:=hne1
    clear hne1
    have k4:=(PAt.all HP1r.out).2.2.2.2.1
    have hgz:=HGr.out.size
    have HLn:Hid (lenAt wr ⟨w.heap.size+1,4,none⟩=qs.length):=hid (by unfold lenAt;rw[k4])
    rw[hv0]
    by_cases hq0:qs.length=0
    ·obtain⟨r1,hr1⟩:∃r1:Out Unit,r1=.ok ((),ts):=⟨_,rfl⟩
     have HR1:Hid ((if qs.isEmpty then .ok ((),ts)else takeP [44] ts)=r1):=hid (by rw[hr1,List.length_eq_zero_iff.1 hq0];rfl)
     have HS10:Hid (St wr b pv s deep r1):=by rw[hr1];exact HSr
     have hdec:decide (0<(qs.length:Int))=false:=decide_eq_false (by omega)
     clear hr1
     have HP10:=HP0r
     have HP11:=HP1r
     have HO10:=HOr
     have HG10:=HGr
     clear HP0r HP1r HOr HGr HSr
     obtain⟨w10,hw10⟩:∃w10,w10=wr:=⟨_,rfl⟩
     subst hw10
     have hltr10:b<w10.heap.size:=hltr
     have hgz10:w.heap.size≤w10.heap.size:=hgz
     clear hltr hgz
     go_wp2_with fail
     clear hq0 hdec
     refine(St.kind HS10.out hs 2 _ rfl (by decide)).mono ?_
     rintro e w11 ⟨x1,rfl,hst,hx1,hg⟩
     have HS11:Hid (St w11 b pv s deep (bnd r1 fun _ t=>unitP (kindP 2 t))):=hst
     have HP20:Hid (PAt w11 w.heap.size (pv0 0)):=PAt.grown HP10.out hg (by simp;omega)
     have HP21:Hid (PAt w11 (w.heap.size+1) ⟨1,0,0,x,ca,qs.length,cc,none,0,0,0,0⟩):=PAt.grown HP11.out hg (by simp;omega)
     have HO11:Hid (w11.ownsRow w.heap.size 372 3 (.slice ca qs.length cc) qs.length (flatC qs)):=World.ownsRow.kept HO10.out hg (Or.inr (fun h=>HNB.out h.symm))
     have HG11:Hid (w.grownBy w11 (some b)):=grown_trans HG10.out hg
     have hlt11:b<w11.heap.size:=St.lt HS11.out
     have hz11:w.heap.size+1<w11.heap.size:=PAt.lt HP21.out
     clear hst hg HS10 HP10 HP11 HO10 HG10
     go_wp2_with fail
     refine(St.is (St.kept HS11.out (Go.Deep.blk_alloc_lt _ _ _ hlt11)) _).mono ?_
     rintro e wy ⟨rfl,rfl⟩
     rw[show bl ⟨#[33,61]⟩=[33,61] from rfl]
     obtain⟨v,hv⟩:∃v,isR [33,61] (bnd r1 fun _ t=>unitP (kindP 2 t))=v:=⟨_,rfl⟩
     rw[hv]
     have HV:Hid _:=hv
     clear hv
     cases v
     ·go_wp2_with fail
      refine(St.take (St.kept HS11.out (Go.Deep.blk_alloc_lt _ _ _ hlt11)) hs _).mono ?_
      rintro e w12 ⟨rfl,hst,hg⟩
      rw[show bl ⟨#[61]⟩=[61] from rfl]at hst
      obtain⟨r3,hr3⟩:∃r3:Out Unit,r3=(bnd (bnd r1 fun _ t=>unitP (kindP 2 t)) fun _ ts=>takeP [61] ts):=⟨_,rfl⟩
      have HS12:Hid (St w12 b pv s deep r3):=by rw[hr3];exact hst
      have HR3:Hid (r3=if false then (bnd (bnd r1 fun _ t=>unitP (kindP 2 t)) fun _ ts=>.ok ((),ts.tail))else bnd (bnd r1 fun _ t=>unitP (kindP 2 t)) fun _ ts=>takeP [61] ts):=hr3
      have HC12:Hid (CAt w12 w11.heap.size x1 ⟨#[]⟩ false):=CAt.grown (Go.Deep.blk_alloc_new _ _) hg (by simp;omega)
      have HP30:Hid (PAt w12 w.heap.size (pv0 0)):=PAt.grown (PAt.kept HP20.out (Go.Deep.blk_alloc_lt _ _ _ (by omega))) hg (by simp;omega)
      have HP31:Hid (PAt w12 (w.heap.size+1) ⟨1,0,0,x,ca,qs.length,cc,none,0,0,0,0⟩):=PAt.grown (PAt.kept HP21.out (Go.Deep.blk_alloc_lt _ _ _ (by omega))) hg (by simp;omega)
      have HO12:Hid (w12.ownsRow w.heap.size 372 3 (.slice ca qs.length cc) qs.length (flatC qs)):=World.ownsRow.kept (World.ownsRow.alloc HO11.out _) hg (Or.inr (fun h=>HNB.out h.symm))
      have HG12:Hid (w.grownBy w12 (some b)):=grown_trans (grown_alloc HG11.out _) hg
      have hz12:w11.heap.size<w12.heap.size:=CAt.lt HC12.out
      clear hr3 hst hg HS11 HP20 HP21 HG11
      go_wp2_with fail
      refine(St.kind HS12.out hs 3 _ rfl (by decide)).mono ?_
      rintro e w13 ⟨x2,rfl,hst,hx2,hg⟩
      have HS13:Hid (St w13 b pv s deep (bnd r3 fun _ t=>unitP (kindP 3 t))):=hst
      have HC13:Hid (CAt w13 w11.heap.size x1 ⟨#[]⟩ false):=CAt.grown HC12.out hg (by simp;omega)
      have HP40:Hid (PAt w13 w.heap.size (pv0 0)):=PAt.grown HP30.out hg (by simp;omega)
      have HP41:Hid (PAt w13 (w.heap.size+1) ⟨1,0,0,x,ca,qs.length,cc,none,0,0,0,0⟩):=PAt.grown HP31.out hg (by simp;omega)
      have HO13:Hid (w13.ownsRow w.heap.size 372 3 (.slice ca qs.length cc) qs.length (flatC qs)):=World.ownsRow.kept HO12.out hg (Or.inr (fun h=>HNB.out h.symm))
      have HG13:Hid (w.grownBy w13 (some b)):=grown_trans HG12.out hg
      have hz13:w11.heap.size<w13.heap.size:=CAt.lt HC13.out
      have hlt13:b<w13.heap.size:=St.lt HS13.out
      have HO14:Hid ((w13.setCell ⟨w11.heap.size,1,none⟩ (.string x2)).ownsRow w.heap.size 372 3 (.slice ca qs.length cc) qs.length (flatC qs)):=own_same HO13.out (fun k hk=>Go.Deep.blk_setCell_other _ _ _ _ (by have:=(HO11.out.lt k hk).2;show k≠w11.heap.size;omega))
      have HG14:Hid (w.grownBy (w13.setCell ⟨w11.heap.size,1,none⟩ (.string x2)) (some b)):=grown_set HG13.out (Or.inr (by show w.heap.size≤w11.heap.size;omega)) _
      have HS14:Hid (St (w13.setCell ⟨w11.heap.size,1,none⟩ (.string x2)) b pv s deep (bnd r3 fun _ t=>unitP (kindP 3 t))):=St.kept HS13.out (Go.Deep.blk_setCell_other _ _ _ _ (by show b≠w11.heap.size;omega))
      have HP50:Hid (PAt (w13.setCell ⟨w11.heap.size,1,none⟩ (.string x2)) w.heap.size (pv0 0)):=PAt.kept HP40.out (Go.Deep.blk_setCell_other _ _ _ _ (by show w.heap.size≠w11.heap.size;omega))
      have HP51:Hid (PAt (w13.setCell ⟨w11.heap.size,1,none⟩ (.string x2)) (w.heap.size+1) ⟨1,0,0,x,ca,qs.length,cc,none,0,0,0,0⟩):=PAt.kept HP41.out (Go.Deep.blk_setCell_other _ _ _ _ (by show w.heap.size+1≠w11.heap.size;omega))
      obtain⟨d0,d1,d2⟩:=CAt.all HC13.out
      have fd1:=CAt.frozen HC13.out 1
      have k4b:=(PAt.all HP41.out).2.2.2.2.1
      have hq7:=hq6
      clear hst hg HS12 HC12 HP30 HP31 HO12 HG12 HO13 HG13 HS13
      go_wp2_with (at_builtin;refine wpList_append_own _ rfl (.tmp 85) (.tmp 87) 89 rfl w.heap.size 372 i0 (.agg #[.string ByteArray.empty,.string ByteArray.empty,.bool false]) 3 40 Tryz.underlying89 hi hz0 hz1 hz2' rfl (by decide) _ _ _ rfl (World.ownsRow.alloc HO14.out _) ⟨w13.heap.size,0,none⟩ 1 1 [.string x1,.string x2,.bool false] rfl rfl ?c1 ?c2 ?c3 ?c4 ?c5 ?_)
      case c1=>exact cells_three_new (Go.Deep.nblk_setCell _ _ _)
      case c2=>intro u hu;simp at hu;rcases hu with rfl|rfl|rfl <;> rfl
      case c3=>unfold maxLen;omega
      case c4=>omega
      case c5=>simp;omega
      intro v15 w15 hown15 hgrow15 _
      have hst15:St w15 b pv s deep (bnd r3 fun _ t=>unitP (kindP 3 t)):=St.kept (St.kept HS14.out (Go.Deep.blk_alloc_lt _ _ _ (St.lt HS14.out))) (hgrow15.block b (by rw[Go.Deep.nblk_alloc];have:=St.lt HS14.out;omega) HNB.out)
      have hp150:PAt w15 w.heap.size (pv0 0):=PAt.grown (PAt.kept HP50.out (Go.Deep.blk_alloc_lt _ _ _ (PAt.lt HP50.out))) hgrow15 (own_ne_block HO14.out HP50.out (by decide))
      have hp151:PAt w15 (w.heap.size+1) ⟨1,0,0,x,ca,qs.length,cc,none,0,0,0,0⟩:=PAt.grown (PAt.kept HP51.out (Go.Deep.blk_alloc_lt _ _ _ (PAt.lt HP51.out))) hgrow15 (own_ne_block HO14.out HP51.out (by decide))
      have hg15:w.grownBy w15 (some b):=grown_own (grown_alloc HG14.out _) hgrow15 (fun k hk=>(HO14.out.lt k hk).1)
      obtain⟨g15,cp15,hv15⟩:=own_some hown15 (by omega)
      subst hv15
      have k4c:=(PAt.all hp151).2.2.2.2.1
      have fk4:=PAt.frozen hp151 4
      have HS16:Hid (St (w15.setCell ⟨w.heap.size+1,4,none⟩ (.slice (some ⟨g15,0,none⟩) (qs.length+1) cp15)) b pv s deep (bnd r3 fun _ t=>unitP (kindP 3 t))):=St.kept hst15 (Go.Deep.blk_setCell_other _ _ _ _ (by show b≠w.heap.size+1;omega))
      have HP160:Hid (PAt (w15.setCell ⟨w.heap.size+1,4,none⟩ (.slice (some ⟨g15,0,none⟩) (qs.length+1) cp15)) w.heap.size (pv0 0)):=PAt.kept hp150 (Go.Deep.blk_setCell_other _ _ _ _ (by show w.heap.size≠w.heap.size+1;omega))
      have HP161:Hid (PAt (w15.setCell ⟨w.heap.size+1,4,none⟩ (.slice (some ⟨g15,0,none⟩) (qs.length+1) cp15)) (w.heap.size+1) ⟨1,0,0,x,some ⟨g15,0,none⟩,qs.length+1,cp15,none,0,0,0,0⟩):=PAt.setConds hp151 _ _ _
      have HO16:Hid ((w15.setCell ⟨w.heap.size+1,4,none⟩ (.slice (some ⟨g15,0,none⟩) (qs.length+1) cp15)).ownsRow w.heap.size 372 3 (.slice (some ⟨g15,0,none⟩) (qs.length+1) cp15) (qs.length+1) (flatC (qs++[(x1,x2,false)]))):=by
       rw[flatC_append]
       refine own_same hown15 (fun k hk=>Go.Deep.blk_setCell_other _ _ _ _ ?_)
       rintro rfl
       exact own_ne_block hown15 hp151 (by decide) hk.symm
      have HG16:Hid (w.grownBy (w15.setCell ⟨w.heap.size+1,4,none⟩ (.slice (some ⟨g15,0,none⟩) (qs.length+1) cp15)) (some b)):=grown_set hg15 (Or.inr (by show w.heap.size≤w.heap.size+1;omega)) _
      have HLn2:Hid (lenAt (w15.setCell ⟨w.heap.size+1,4,none⟩ (.slice (some ⟨g15,0,none⟩) (qs.length+1) cp15)) ⟨w.heap.size+1,4,none⟩=qs.length+1):=hid (by unfold lenAt;rw[World.cell?_setCell_same _ _ _ k4c])
      have hcs:=cond_steps HV.out HR3.out hx1.out hx2.out
      have HLr2:Hid (LoopRel condP [125] blC ts5.length ts5.tail (qs++[(x1,x2,false)]) (bnd r3 fun _ t=>unitP (kindP 3 t))):=LoopRel.round HLr.out hcl HR1.out hcs.1 hcs.2 condP_len
      have hqb:qs.length≤ts5.tail.length+1:=HLr.out.2.2
      clear hst15 hp150 hp151 hg15 hown15 hgrow15 hcs HO14 HG14 HS14 HP50 HP51 HP40 HP41 HC13 HO11
      go_wp2_with fail
      clear k4c fk4 d0 d1 d2 fd1 k4b
      generalize w15.setCell ⟨w.heap.size+1,4,none⟩ (.slice (some ⟨g15,0,none⟩) (qs.length+1) cp15)=w16 at HS16 HP160 HP161 HO16 HG16 HLn2 ⊢
      refine(St.is HS16.out _).mono ?_
      rintro e wz ⟨rfl,rfl⟩
      rw[show bl ⟨#[125]⟩=[125] from rfl]
      go_wp2
      go_roundw
      case rel=>exact⟨qs++[(x1,x2,false)],some ⟨g15,0,none⟩,cp15,_,rfl,HS16,HP160,by rw[List.length_append];exact HP161,by rw[List.length_append];exact HO16,HG16,HLr2⟩
      case measure=>
       rw[HLn.out,HLn2.out];omega
     ·go_wp2_with fail
      obtain⟨ts2,hr2,_,hl2⟩:=isR_live HV.out
      refine(St.next (St.kept HS11.out (Go.Deep.blk_alloc_lt _ _ _ hlt11)) hs ⟨ts2,hr2,hl2⟩).mono ?_
      rintro e w12 ⟨rfl,hst,hg⟩
      clear hr2 hl2
      obtain⟨r3,hr3⟩:∃r3:Out Unit,r3=(bnd (bnd r1 fun _ t=>unitP (kindP 2 t)) fun _ ts=>.ok ((),ts.tail)):=⟨_,rfl⟩
      have HS12:Hid (St w12 b pv s deep r3):=by rw[hr3];exact hst
      have HR3:Hid (r3=if true then (bnd (bnd r1 fun _ t=>unitP (kindP 2 t)) fun _ ts=>.ok ((),ts.tail))else bnd (bnd r1 fun _ t=>unitP (kindP 2 t)) fun _ ts=>takeP [61] ts):=hr3
      have HC12:Hid (CAt w12 w11.heap.size x1 ⟨#[]⟩ true):=CAt.grown (Go.Deep.blk_alloc_new _ _) hg (by simp;omega)
      have HP30:Hid (PAt w12 w.heap.size (pv0 0)):=PAt.grown (PAt.kept HP20.out (Go.Deep.blk_alloc_lt _ _ _ (by omega))) hg (by simp;omega)
      have HP31:Hid (PAt w12 (w.heap.size+1) ⟨1,0,0,x,ca,qs.length,cc,none,0,0,0,0⟩):=PAt.grown (PAt.kept HP21.out (Go.Deep.blk_alloc_lt _ _ _ (by omega))) hg (by simp;omega)
      have HO12:Hid (w12.ownsRow w.heap.size 372 3 (.slice ca qs.length cc) qs.length (flatC qs)):=World.ownsRow.kept (World.ownsRow.alloc HO11.out _) hg (Or.inr (fun h=>HNB.out h.symm))
      have HG12:Hid (w.grownBy w12 (some b)):=grown_trans (grown_alloc HG11.out _) hg
      have hz12:w11.heap.size<w12.heap.size:=CAt.lt HC12.out
      clear hr3 hst hg HS11 HP20 HP21 HG11
      go_wp2_with fail
      refine(St.kind HS12.out hs 3 _ rfl (by decide)).mono ?_
      rintro e w13 ⟨x2,rfl,hst,hx2,hg⟩
      have HS13:Hid (St w13 b pv s deep (bnd r3 fun _ t=>unitP (kindP 3 t))):=hst
      have HC13:Hid (CAt w13 w11.heap.size x1 ⟨#[]⟩ true):=CAt.grown HC12.out hg (by simp;omega)
      have HP40:Hid (PAt w13 w.heap.size (pv0 0)):=PAt.grown HP30.out hg (by simp;omega)
      have HP41:Hid (PAt w13 (w.heap.size+1) ⟨1,0,0,x,ca,qs.length,cc,none,0,0,0,0⟩):=PAt.grown HP31.out hg (by simp;omega)
      have HO13:Hid (w13.ownsRow w.heap.size 372 3 (.slice ca qs.length cc) qs.length (flatC qs)):=World.ownsRow.kept HO12.out hg (Or.inr (fun h=>HNB.out h.symm))
      have HG13:Hid (w.grownBy w13 (some b)):=grown_trans HG12.out hg
      have hz13:w11.heap.size<w13.heap.size:=CAt.lt HC13.out
      have hlt13:b<w13.heap.size:=St.lt HS13.out
      have HO14:Hid ((w13.setCell ⟨w11.heap.size,1,none⟩ (.string x2)).ownsRow w.heap.size 372 3 (.slice ca qs.length cc) qs.length (flatC qs)):=own_same HO13.out (fun k hk=>Go.Deep.blk_setCell_other _ _ _ _ (by have:=(HO11.out.lt k hk).2;show k≠w11.heap.size;omega))
      have HG14:Hid (w.grownBy (w13.setCell ⟨w11.heap.size,1,none⟩ (.string x2)) (some b)):=grown_set HG13.out (Or.inr (by show w.heap.size≤w11.heap.size;omega)) _
      have HS14:Hid (St (w13.setCell ⟨w11.heap.size,1,none⟩ (.string x2)) b pv s deep (bnd r3 fun _ t=>unitP (kindP 3 t))):=St.kept HS13.out (Go.Deep.blk_setCell_other _ _ _ _ (by show b≠w11.heap.size;omega))
      have HP50:Hid (PAt (w13.setCell ⟨w11.heap.size,1,none⟩ (.string x2)) w.heap.size (pv0 0)):=PAt.kept HP40.out (Go.Deep.blk_setCell_other _ _ _ _ (by show w.heap.size≠w11.heap.size;omega))
      have HP51:Hid (PAt (w13.setCell ⟨w11.heap.size,1,none⟩ (.string x2)) (w.heap.size+1) ⟨1,0,0,x,ca,qs.length,cc,none,0,0,0,0⟩):=PAt.kept HP41.out (Go.Deep.blk_setCell_other _ _ _ _ (by show w.heap.size+1≠w11.heap.size;omega))
      obtain⟨d0,d1,d2⟩:=CAt.all HC13.out
      have fd1:=CAt.frozen HC13.out 1
      have k4b:=(PAt.all HP41.out).2.2.2.2.1
      have hq7:=hq6
      clear hst hg HS12 HC12 HP30 HP31 HO12 HG12 HO13 HG13 HS13
      go_wp2_with (at_builtin;refine wpList_append_own _ rfl (.tmp 85) (.tmp 87) 89 rfl w.heap.size 372 i0 (.agg #[.string ByteArray.empty,.string ByteArray.empty,.bool false]) 3 40 Tryz.underlying89 hi hz0 hz1 hz2' rfl (by decide) _ _ _ rfl (World.ownsRow.alloc HO14.out _) ⟨w13.heap.size,0,none⟩ 1 1 [.string x1,.string x2,.bool true] rfl rfl ?c1 ?c2 ?c3 ?c4 ?c5 ?_)
      case c1=>exact cells_three_new (Go.Deep.nblk_setCell _ _ _)
      case c2=>intro u hu;simp at hu;rcases hu with rfl|rfl|rfl <;> rfl
      case c3=>unfold maxLen;omega
      case c4=>omega
      case c5=>simp;omega
      intro v15 w15 hown15 hgrow15 _
      have hst15:St w15 b pv s deep (bnd r3 fun _ t=>unitP (kindP 3 t)):=St.kept (St.kept HS14.out (Go.Deep.blk_alloc_lt _ _ _ (St.lt HS14.out))) (hgrow15.block b (by rw[Go.Deep.nblk_alloc];have:=St.lt HS14.out;omega) HNB.out)
      have hp150:PAt w15 w.heap.size (pv0 0):=PAt.grown (PAt.kept HP50.out (Go.Deep.blk_alloc_lt _ _ _ (PAt.lt HP50.out))) hgrow15 (own_ne_block HO14.out HP50.out (by decide))
      have hp151:PAt w15 (w.heap.size+1) ⟨1,0,0,x,ca,qs.length,cc,none,0,0,0,0⟩:=PAt.grown (PAt.kept HP51.out (Go.Deep.blk_alloc_lt _ _ _ (PAt.lt HP51.out))) hgrow15 (own_ne_block HO14.out HP51.out (by decide))
      have hg15:w.grownBy w15 (some b):=grown_own (grown_alloc HG14.out _) hgrow15 (fun k hk=>(HO14.out.lt k hk).1)
      obtain⟨g15,cp15,hv15⟩:=own_some hown15 (by omega)
      subst hv15
      have k4c:=(PAt.all hp151).2.2.2.2.1
      have fk4:=PAt.frozen hp151 4
      have HS16:Hid (St (w15.setCell ⟨w.heap.size+1,4,none⟩ (.slice (some ⟨g15,0,none⟩) (qs.length+1) cp15)) b pv s deep (bnd r3 fun _ t=>unitP (kindP 3 t))):=St.kept hst15 (Go.Deep.blk_setCell_other _ _ _ _ (by show b≠w.heap.size+1;omega))
      have HP160:Hid (PAt (w15.setCell ⟨w.heap.size+1,4,none⟩ (.slice (some ⟨g15,0,none⟩) (qs.length+1) cp15)) w.heap.size (pv0 0)):=PAt.kept hp150 (Go.Deep.blk_setCell_other _ _ _ _ (by show w.heap.size≠w.heap.size+1;omega))
      have HP161:Hid (PAt (w15.setCell ⟨w.heap.size+1,4,none⟩ (.slice (some ⟨g15,0,none⟩) (qs.length+1) cp15)) (w.heap.size+1) ⟨1,0,0,x,some ⟨g15,0,none⟩,qs.length+1,cp15,none,0,0,0,0⟩):=PAt.setConds hp151 _ _ _
      have HO16:Hid ((w15.setCell ⟨w.heap.size+1,4,none⟩ (.slice (some ⟨g15,0,none⟩) (qs.length+1) cp15)).ownsRow w.heap.size 372 3 (.slice (some ⟨g15,0,none⟩) (qs.length+1) cp15) (qs.length+1) (flatC (qs++[(x1,x2,true)]))):=by
       rw[flatC_append]
       refine own_same hown15 (fun k hk=>Go.Deep.blk_setCell_other _ _ _ _ ?_)
       rintro rfl
       exact own_ne_block hown15 hp151 (by decide) hk.symm
      have HG16:Hid (w.grownBy (w15.setCell ⟨w.heap.size+1,4,none⟩ (.slice (some ⟨g15,0,none⟩) (qs.length+1) cp15)) (some b)):=grown_set hg15 (Or.inr (by show w.heap.size≤w.heap.size+1;omega)) _
      have HLn2:Hid (lenAt (w15.setCell ⟨w.heap.size+1,4,none⟩ (.slice (some ⟨g15,0,none⟩) (qs.length+1) cp15)) ⟨w.heap.size+1,4,none⟩=qs.length+1):=hid (by unfold lenAt;rw[World.cell?_setCell_same _ _ _ k4c])
      have hcs:=cond_steps HV.out HR3.out hx1.out hx2.out
      have HLr2:Hid (LoopRel condP [125] blC ts5.length ts5.tail (qs++[(x1,x2,true)]) (bnd r3 fun _ t=>unitP (kindP 3 t))):=LoopRel.round HLr.out hcl HR1.out hcs.1 hcs.2 condP_len
      have hqb:qs.length≤ts5.tail.length+1:=HLr.out.2.2
      clear hst15 hp150 hp151 hg15 hown15 hgrow15 hcs HO14 HG14 HS14 HP50 HP51 HP40 HP41 HC13 HO11
      go_wp2_with fail
      clear k4c fk4 d0 d1 d2 fd1 k4b
      generalize w15.setCell ⟨w.heap.size+1,4,none⟩ (.slice (some ⟨g15,0,none⟩) (qs.length+1) cp15)=w16 at HS16 HP160 HP161 HO16 HG16 HLn2 ⊢
      refine(St.is HS16.out _).mono ?_
      rintro e wz ⟨rfl,rfl⟩
      rw[show bl ⟨#[125]⟩=[125] from rfl]
      go_wp2
      go_roundw
      case rel=>exact⟨qs++[(x1,x2,true)],some ⟨g15,0,none⟩,cp15,_,rfl,HS16,HP160,by rw[List.length_append];exact HP161,by rw[List.length_append];exact HO16,HG16,HLr2⟩
      case measure=>
       rw[HLn.out,HLn2.out];omega
    ·have hdec:decide (0<(qs.length:Int))=true:=decide_eq_true (by omega)
     go_wp2_with fail
     refine(St.take HSr.out hs _).mono ?_
     rintro e w10 ⟨rfl,hst,hg⟩
     rw[show bl ⟨#[44]⟩=[44] from rfl]at hst
     obtain⟨r1,hr1⟩:∃r1:Out Unit,r1=takeP [44] ts:=⟨_,rfl⟩
     have HS10:Hid (St w10 b pv s deep r1):=by rw[hr1];exact hst
     have HR1:Hid ((if qs.isEmpty then .ok ((),ts)else takeP [44] ts)=r1):=hid (by
      rw[hr1]
      cases qs with
      | nil=>exact absurd rfl hq0
      | cons a l=>rfl)
     have HP10:Hid (PAt w10 w.heap.size (pv0 0)):=PAt.grown HP0r.out hg (by simp;omega)
     have HP11:Hid (PAt w10 (w.heap.size+1) ⟨1,0,0,x,ca,qs.length,cc,none,0,0,0,0⟩):=PAt.grown HP1r.out hg (by simp;omega)
     have HO10:Hid (w10.ownsRow w.heap.size 372 3 (.slice ca qs.length cc) qs.length (flatC qs)):=World.ownsRow.kept HOr.out hg (Or.inr (fun h=>HNB.out h.symm))
     have HG10:Hid (w.grownBy w10 (some b)):=grown_trans HGr.out hg
     have hltr10:b<w10.heap.size:=St.lt HS10.out
     have hgz10:w.heap.size≤w10.heap.size:=HG10.out.size
     clear hr1 hst hg HP0r HP1r HOr HGr HSr hltr hgz k4
     go_wp2_with fail
     clear hq0 hdec
     refine(St.kind HS10.out hs 2 _ rfl (by decide)).mono ?_
     rintro e w11 ⟨x1,rfl,hst,hx1,hg⟩
     have HS11:Hid (St w11 b pv s deep (bnd r1 fun _ t=>unitP (kindP 2 t))):=hst
     have HP20:Hid (PAt w11 w.heap.size (pv0 0)):=PAt.grown HP10.out hg (by simp;omega)
     have HP21:Hid (PAt w11 (w.heap.size+1) ⟨1,0,0,x,ca,qs.length,cc,none,0,0,0,0⟩):=PAt.grown HP11.out hg (by simp;omega)
     have HO11:Hid (w11.ownsRow w.heap.size 372 3 (.slice ca qs.length cc) qs.length (flatC qs)):=World.ownsRow.kept HO10.out hg (Or.inr (fun h=>HNB.out h.symm))
     have HG11:Hid (w.grownBy w11 (some b)):=grown_trans HG10.out hg
     have hlt11:b<w11.heap.size:=St.lt HS11.out
     have hz11:w.heap.size+1<w11.heap.size:=PAt.lt HP21.out
     clear hst hg HS10 HP10 HP11 HO10 HG10
     go_wp2_with fail
     refine(St.is (St.kept HS11.out (Go.Deep.blk_alloc_lt _ _ _ hlt11)) _).mono ?_
     rintro e wy ⟨rfl,rfl⟩
     rw[show bl ⟨#[33,61]⟩=[33,61] from rfl]
     obtain⟨v,hv⟩:∃v,isR [33,61] (bnd r1 fun _ t=>unitP (kindP 2 t))=v:=⟨_,rfl⟩
     rw[hv]
     have HV:Hid _:=hv
     clear hv
     cases v
     ·go_wp2_with fail
      refine(St.take (St.kept HS11.out (Go.Deep.blk_alloc_lt _ _ _ hlt11)) hs _).mono ?_
      rintro e w12 ⟨rfl,hst,hg⟩
      rw[show bl ⟨#[61]⟩=[61] from rfl]at hst
      obtain⟨r3,hr3⟩:∃r3:Out Unit,r3=(bnd (bnd r1 fun _ t=>unitP (kindP 2 t)) fun _ ts=>takeP [61] ts):=⟨_,rfl⟩
      have HS12:Hid (St w12 b pv s deep r3):=by rw[hr3];exact hst
      have HR3:Hid (r3=if false then (bnd (bnd r1 fun _ t=>unitP (kindP 2 t)) fun _ ts=>.ok ((),ts.tail))else bnd (bnd r1 fun _ t=>unitP (kindP 2 t)) fun _ ts=>takeP [61] ts):=hr3
      have HC12:Hid (CAt w12 w11.heap.size x1 ⟨#[]⟩ false):=CAt.grown (Go.Deep.blk_alloc_new _ _) hg (by simp;omega)
      have HP30:Hid (PAt w12 w.heap.size (pv0 0)):=PAt.grown (PAt.kept HP20.out (Go.Deep.blk_alloc_lt _ _ _ (by omega))) hg (by simp;omega)
      have HP31:Hid (PAt w12 (w.heap.size+1) ⟨1,0,0,x,ca,qs.length,cc,none,0,0,0,0⟩):=PAt.grown (PAt.kept HP21.out (Go.Deep.blk_alloc_lt _ _ _ (by omega))) hg (by simp;omega)
      have HO12:Hid (w12.ownsRow w.heap.size 372 3 (.slice ca qs.length cc) qs.length (flatC qs)):=World.ownsRow.kept (World.ownsRow.alloc HO11.out _) hg (Or.inr (fun h=>HNB.out h.symm))
      have HG12:Hid (w.grownBy w12 (some b)):=grown_trans (grown_alloc HG11.out _) hg
      have hz12:w11.heap.size<w12.heap.size:=CAt.lt HC12.out
      clear hr3 hst hg HS11 HP20 HP21 HG11
      go_wp2_with fail
      refine(St.kind HS12.out hs 3 _ rfl (by decide)).mono ?_
      rintro e w13 ⟨x2,rfl,hst,hx2,hg⟩
      have HS13:Hid (St w13 b pv s deep (bnd r3 fun _ t=>unitP (kindP 3 t))):=hst
      have HC13:Hid (CAt w13 w11.heap.size x1 ⟨#[]⟩ false):=CAt.grown HC12.out hg (by simp;omega)
      have HP40:Hid (PAt w13 w.heap.size (pv0 0)):=PAt.grown HP30.out hg (by simp;omega)
      have HP41:Hid (PAt w13 (w.heap.size+1) ⟨1,0,0,x,ca,qs.length,cc,none,0,0,0,0⟩):=PAt.grown HP31.out hg (by simp;omega)
      have HO13:Hid (w13.ownsRow w.heap.size 372 3 (.slice ca qs.length cc) qs.length (flatC qs)):=World.ownsRow.kept HO12.out hg (Or.inr (fun h=>HNB.out h.symm))
      have HG13:Hid (w.grownBy w13 (some b)):=grown_trans HG12.out hg
      have hz13:w11.heap.size<w13.heap.size:=CAt.lt HC13.out
      have hlt13:b<w13.heap.size:=St.lt HS13.out
      have HO14:Hid ((w13.setCell ⟨w11.heap.size,1,none⟩ (.string x2)).ownsRow w.heap.size 372 3 (.slice ca qs.length cc) qs.length (flatC qs)):=own_same HO13.out (fun k hk=>Go.Deep.blk_setCell_other _ _ _ _ (by have:=(HO11.out.lt k hk).2;show k≠w11.heap.size;omega))
      have HG14:Hid (w.grownBy (w13.setCell ⟨w11.heap.size,1,none⟩ (.string x2)) (some b)):=grown_set HG13.out (Or.inr (by show w.heap.size≤w11.heap.size;omega)) _
      have HS14:Hid (St (w13.setCell ⟨w11.heap.size,1,none⟩ (.string x2)) b pv s deep (bnd r3 fun _ t=>unitP (kindP 3 t))):=St.kept HS13.out (Go.Deep.blk_setCell_other _ _ _ _ (by show b≠w11.heap.size;omega))
      have HP50:Hid (PAt (w13.setCell ⟨w11.heap.size,1,none⟩ (.string x2)) w.heap.size (pv0 0)):=PAt.kept HP40.out (Go.Deep.blk_setCell_other _ _ _ _ (by show w.heap.size≠w11.heap.size;omega))
      have HP51:Hid (PAt (w13.setCell ⟨w11.heap.size,1,none⟩ (.string x2)) (w.heap.size+1) ⟨1,0,0,x,ca,qs.length,cc,none,0,0,0,0⟩):=PAt.kept HP41.out (Go.Deep.blk_setCell_other _ _ _ _ (by show w.heap.size+1≠w11.heap.size;omega))
      obtain⟨d0,d1,d2⟩:=CAt.all HC13.out
      have fd1:=CAt.frozen HC13.out 1
      have k4b:=(PAt.all HP41.out).2.2.2.2.1
      have hq7:=hq6
      clear hst hg HS12 HC12 HP30 HP31 HO12 HG12 HO13 HG13 HS13
      go_wp2_with (at_builtin;refine wpList_append_own _ rfl (.tmp 85) (.tmp 87) 89 rfl w.heap.size 372 i0 (.agg #[.string ByteArray.empty,.string ByteArray.empty,.bool false]) 3 40 Tryz.underlying89 hi hz0 hz1 hz2' rfl (by decide) _ _ _ rfl (World.ownsRow.alloc HO14.out _) ⟨w13.heap.size,0,none⟩ 1 1 [.string x1,.string x2,.bool false] rfl rfl ?c1 ?c2 ?c3 ?c4 ?c5 ?_)
      case c1=>exact cells_three_new (Go.Deep.nblk_setCell _ _ _)
      case c2=>intro u hu;simp at hu;rcases hu with rfl|rfl|rfl <;> rfl
      case c3=>unfold maxLen;omega
      case c4=>omega
      case c5=>simp;omega
      intro v15 w15 hown15 hgrow15 _
      have hst15:St w15 b pv s deep (bnd r3 fun _ t=>unitP (kindP 3 t)):=St.kept (St.kept HS14.out (Go.Deep.blk_alloc_lt _ _ _ (St.lt HS14.out))) (hgrow15.block b (by rw[Go.Deep.nblk_alloc];have:=St.lt HS14.out;omega) HNB.out)
      have hp150:PAt w15 w.heap.size (pv0 0):=PAt.grown (PAt.kept HP50.out (Go.Deep.blk_alloc_lt _ _ _ (PAt.lt HP50.out))) hgrow15 (own_ne_block HO14.out HP50.out (by decide))
      have hp151:PAt w15 (w.heap.size+1) ⟨1,0,0,x,ca,qs.length,cc,none,0,0,0,0⟩:=PAt.grown (PAt.kept HP51.out (Go.Deep.blk_alloc_lt _ _ _ (PAt.lt HP51.out))) hgrow15 (own_ne_block HO14.out HP51.out (by decide))
      have hg15:w.grownBy w15 (some b):=grown_own (grown_alloc HG14.out _) hgrow15 (fun k hk=>(HO14.out.lt k hk).1)
      obtain⟨g15,cp15,hv15⟩:=own_some hown15 (by omega)
      subst hv15
      have k4c:=(PAt.all hp151).2.2.2.2.1
      have fk4:=PAt.frozen hp151 4
      have HS16:Hid (St (w15.setCell ⟨w.heap.size+1,4,none⟩ (.slice (some ⟨g15,0,none⟩) (qs.length+1) cp15)) b pv s deep (bnd r3 fun _ t=>unitP (kindP 3 t))):=St.kept hst15 (Go.Deep.blk_setCell_other _ _ _ _ (by show b≠w.heap.size+1;omega))
      have HP160:Hid (PAt (w15.setCell ⟨w.heap.size+1,4,none⟩ (.slice (some ⟨g15,0,none⟩) (qs.length+1) cp15)) w.heap.size (pv0 0)):=PAt.kept hp150 (Go.Deep.blk_setCell_other _ _ _ _ (by show w.heap.size≠w.heap.size+1;omega))
      have HP161:Hid (PAt (w15.setCell ⟨w.heap.size+1,4,none⟩ (.slice (some ⟨g15,0,none⟩) (qs.length+1) cp15)) (w.heap.size+1) ⟨1,0,0,x,some ⟨g15,0,none⟩,qs.length+1,cp15,none,0,0,0,0⟩):=PAt.setConds hp151 _ _ _
      have HO16:Hid ((w15.setCell ⟨w.heap.size+1,4,none⟩ (.slice (some ⟨g15,0,none⟩) (qs.length+1) cp15)).ownsRow w.heap.size 372 3 (.slice (some ⟨g15,0,none⟩) (qs.length+1) cp15) (qs.length+1) (flatC (qs++[(x1,x2,false)]))):=by
       rw[flatC_append]
       refine own_same hown15 (fun k hk=>Go.Deep.blk_setCell_other _ _ _ _ ?_)
       rintro rfl
       exact own_ne_block hown15 hp151 (by decide) hk.symm
      have HG16:Hid (w.grownBy (w15.setCell ⟨w.heap.size+1,4,none⟩ (.slice (some ⟨g15,0,none⟩) (qs.length+1) cp15)) (some b)):=grown_set hg15 (Or.inr (by show w.heap.size≤w.heap.size+1;omega)) _
      have HLn2:Hid (lenAt (w15.setCell ⟨w.heap.size+1,4,none⟩ (.slice (some ⟨g15,0,none⟩) (qs.length+1) cp15)) ⟨w.heap.size+1,4,none⟩=qs.length+1):=hid (by unfold lenAt;rw[World.cell?_setCell_same _ _ _ k4c])
      have hcs:=cond_steps HV.out HR3.out hx1.out hx2.out
      have HLr2:Hid (LoopRel condP [125] blC ts5.length ts5.tail (qs++[(x1,x2,false)]) (bnd r3 fun _ t=>unitP (kindP 3 t))):=LoopRel.round HLr.out hcl HR1.out hcs.1 hcs.2 condP_len
      have hqb:qs.length≤ts5.tail.length+1:=HLr.out.2.2
      clear hst15 hp150 hp151 hg15 hown15 hgrow15 hcs HO14 HG14 HS14 HP50 HP51 HP40 HP41 HC13 HO11
      go_wp2_with fail
      clear k4c fk4 d0 d1 d2 fd1 k4b
      generalize w15.setCell ⟨w.heap.size+1,4,none⟩ (.slice (some ⟨g15,0,none⟩) (qs.length+1) cp15)=w16 at HS16 HP160 HP161 HO16 HG16 HLn2 ⊢
      refine(St.is HS16.out _).mono ?_
      rintro e wz ⟨rfl,rfl⟩
      rw[show bl ⟨#[125]⟩=[125] from rfl]
      go_wp2
      go_roundw
      case rel=>exact⟨qs++[(x1,x2,false)],some ⟨g15,0,none⟩,cp15,_,rfl,HS16,HP160,by rw[List.length_append];exact HP161,by rw[List.length_append];exact HO16,HG16,HLr2⟩
      case measure=>
       rw[HLn.out,HLn2.out];omega
     ·go_wp2_with fail
      obtain⟨ts2,hr2,_,hl2⟩:=isR_live HV.out
      refine(St.next (St.kept HS11.out (Go.Deep.blk_alloc_lt _ _ _ hlt11)) hs ⟨ts2,hr2,hl2⟩).mono ?_
      rintro e w12 ⟨rfl,hst,hg⟩
      clear hr2 hl2
      obtain⟨r3,hr3⟩:∃r3:Out Unit,r3=(bnd (bnd r1 fun _ t=>unitP (kindP 2 t)) fun _ ts=>.ok ((),ts.tail)):=⟨_,rfl⟩
      have HS12:Hid (St w12 b pv s deep r3):=by rw[hr3];exact hst
      have HR3:Hid (r3=if true then (bnd (bnd r1 fun _ t=>unitP (kindP 2 t)) fun _ ts=>.ok ((),ts.tail))else bnd (bnd r1 fun _ t=>unitP (kindP 2 t)) fun _ ts=>takeP [61] ts):=hr3
      have HC12:Hid (CAt w12 w11.heap.size x1 ⟨#[]⟩ true):=CAt.grown (Go.Deep.blk_alloc_new _ _) hg (by simp;omega)
      have HP30:Hid (PAt w12 w.heap.size (pv0 0)):=PAt.grown (PAt.kept HP20.out (Go.Deep.blk_alloc_lt _ _ _ (by omega))) hg (by simp;omega)
      have HP31:Hid (PAt w12 (w.heap.size+1) ⟨1,0,0,x,ca,qs.length,cc,none,0,0,0,0⟩):=PAt.grown (PAt.kept HP21.out (Go.Deep.blk_alloc_lt _ _ _ (by omega))) hg (by simp;omega)
      have HO12:Hid (w12.ownsRow w.heap.size 372 3 (.slice ca qs.length cc) qs.length (flatC qs)):=World.ownsRow.kept (World.ownsRow.alloc HO11.out _) hg (Or.inr (fun h=>HNB.out h.symm))
      have HG12:Hid (w.grownBy w12 (some b)):=grown_trans (grown_alloc HG11.out _) hg
      have hz12:w11.heap.size<w12.heap.size:=CAt.lt HC12.out
      clear hr3 hst hg HS11 HP20 HP21 HG11
      go_wp2_with fail
      refine(St.kind HS12.out hs 3 _ rfl (by decide)).mono ?_
      rintro e w13 ⟨x2,rfl,hst,hx2,hg⟩
      have HS13:Hid (St w13 b pv s deep (bnd r3 fun _ t=>unitP (kindP 3 t))):=hst
      have HC13:Hid (CAt w13 w11.heap.size x1 ⟨#[]⟩ true):=CAt.grown HC12.out hg (by simp;omega)
      have HP40:Hid (PAt w13 w.heap.size (pv0 0)):=PAt.grown HP30.out hg (by simp;omega)
      have HP41:Hid (PAt w13 (w.heap.size+1) ⟨1,0,0,x,ca,qs.length,cc,none,0,0,0,0⟩):=PAt.grown HP31.out hg (by simp;omega)
      have HO13:Hid (w13.ownsRow w.heap.size 372 3 (.slice ca qs.length cc) qs.length (flatC qs)):=World.ownsRow.kept HO12.out hg (Or.inr (fun h=>HNB.out h.symm))
      have HG13:Hid (w.grownBy w13 (some b)):=grown_trans HG12.out hg
      have hz13:w11.heap.size<w13.heap.size:=CAt.lt HC13.out
      have hlt13:b<w13.heap.size:=St.lt HS13.out
      have HO14:Hid ((w13.setCell ⟨w11.heap.size,1,none⟩ (.string x2)).ownsRow w.heap.size 372 3 (.slice ca qs.length cc) qs.length (flatC qs)):=own_same HO13.out (fun k hk=>Go.Deep.blk_setCell_other _ _ _ _ (by have:=(HO11.out.lt k hk).2;show k≠w11.heap.size;omega))
      have HG14:Hid (w.grownBy (w13.setCell ⟨w11.heap.size,1,none⟩ (.string x2)) (some b)):=grown_set HG13.out (Or.inr (by show w.heap.size≤w11.heap.size;omega)) _
      have HS14:Hid (St (w13.setCell ⟨w11.heap.size,1,none⟩ (.string x2)) b pv s deep (bnd r3 fun _ t=>unitP (kindP 3 t))):=St.kept HS13.out (Go.Deep.blk_setCell_other _ _ _ _ (by show b≠w11.heap.size;omega))
      have HP50:Hid (PAt (w13.setCell ⟨w11.heap.size,1,none⟩ (.string x2)) w.heap.size (pv0 0)):=PAt.kept HP40.out (Go.Deep.blk_setCell_other _ _ _ _ (by show w.heap.size≠w11.heap.size;omega))
      have HP51:Hid (PAt (w13.setCell ⟨w11.heap.size,1,none⟩ (.string x2)) (w.heap.size+1) ⟨1,0,0,x,ca,qs.length,cc,none,0,0,0,0⟩):=PAt.kept HP41.out (Go.Deep.blk_setCell_other _ _ _ _ (by show w.heap.size+1≠w11.heap.size;omega))
      obtain⟨d0,d1,d2⟩:=CAt.all HC13.out
      have fd1:=CAt.frozen HC13.out 1
      have k4b:=(PAt.all HP41.out).2.2.2.2.1
      have hq7:=hq6
      clear hst hg HS12 HC12 HP30 HP31 HO12 HG12 HO13 HG13 HS13
      go_wp2_with (at_builtin;refine wpList_append_own _ rfl (.tmp 85) (.tmp 87) 89 rfl w.heap.size 372 i0 (.agg #[.string ByteArray.empty,.string ByteArray.empty,.bool false]) 3 40 Tryz.underlying89 hi hz0 hz1 hz2' rfl (by decide) _ _ _ rfl (World.ownsRow.alloc HO14.out _) ⟨w13.heap.size,0,none⟩ 1 1 [.string x1,.string x2,.bool true] rfl rfl ?c1 ?c2 ?c3 ?c4 ?c5 ?_)
      case c1=>exact cells_three_new (Go.Deep.nblk_setCell _ _ _)
      case c2=>intro u hu;simp at hu;rcases hu with rfl|rfl|rfl <;> rfl
      case c3=>unfold maxLen;omega
      case c4=>omega
      case c5=>simp;omega
      intro v15 w15 hown15 hgrow15 _
      have hst15:St w15 b pv s deep (bnd r3 fun _ t=>unitP (kindP 3 t)):=St.kept (St.kept HS14.out (Go.Deep.blk_alloc_lt _ _ _ (St.lt HS14.out))) (hgrow15.block b (by rw[Go.Deep.nblk_alloc];have:=St.lt HS14.out;omega) HNB.out)
      have hp150:PAt w15 w.heap.size (pv0 0):=PAt.grown (PAt.kept HP50.out (Go.Deep.blk_alloc_lt _ _ _ (PAt.lt HP50.out))) hgrow15 (own_ne_block HO14.out HP50.out (by decide))
      have hp151:PAt w15 (w.heap.size+1) ⟨1,0,0,x,ca,qs.length,cc,none,0,0,0,0⟩:=PAt.grown (PAt.kept HP51.out (Go.Deep.blk_alloc_lt _ _ _ (PAt.lt HP51.out))) hgrow15 (own_ne_block HO14.out HP51.out (by decide))
      have hg15:w.grownBy w15 (some b):=grown_own (grown_alloc HG14.out _) hgrow15 (fun k hk=>(HO14.out.lt k hk).1)
      obtain⟨g15,cp15,hv15⟩:=own_some hown15 (by omega)
      subst hv15
      have k4c:=(PAt.all hp151).2.2.2.2.1
      have fk4:=PAt.frozen hp151 4
      have HS16:Hid (St (w15.setCell ⟨w.heap.size+1,4,none⟩ (.slice (some ⟨g15,0,none⟩) (qs.length+1) cp15)) b pv s deep (bnd r3 fun _ t=>unitP (kindP 3 t))):=St.kept hst15 (Go.Deep.blk_setCell_other _ _ _ _ (by show b≠w.heap.size+1;omega))
      have HP160:Hid (PAt (w15.setCell ⟨w.heap.size+1,4,none⟩ (.slice (some ⟨g15,0,none⟩) (qs.length+1) cp15)) w.heap.size (pv0 0)):=PAt.kept hp150 (Go.Deep.blk_setCell_other _ _ _ _ (by show w.heap.size≠w.heap.size+1;omega))
      have HP161:Hid (PAt (w15.setCell ⟨w.heap.size+1,4,none⟩ (.slice (some ⟨g15,0,none⟩) (qs.length+1) cp15)) (w.heap.size+1) ⟨1,0,0,x,some ⟨g15,0,none⟩,qs.length+1,cp15,none,0,0,0,0⟩):=PAt.setConds hp151 _ _ _
      have HO16:Hid ((w15.setCell ⟨w.heap.size+1,4,none⟩ (.slice (some ⟨g15,0,none⟩) (qs.length+1) cp15)).ownsRow w.heap.size 372 3 (.slice (some ⟨g15,0,none⟩) (qs.length+1) cp15) (qs.length+1) (flatC (qs++[(x1,x2,true)]))):=by
       rw[flatC_append]
       refine own_same hown15 (fun k hk=>Go.Deep.blk_setCell_other _ _ _ _ ?_)
       rintro rfl
       exact own_ne_block hown15 hp151 (by decide) hk.symm
      have HG16:Hid (w.grownBy (w15.setCell ⟨w.heap.size+1,4,none⟩ (.slice (some ⟨g15,0,none⟩) (qs.length+1) cp15)) (some b)):=grown_set hg15 (Or.inr (by show w.heap.size≤w.heap.size+1;omega)) _
      have HLn2:Hid (lenAt (w15.setCell ⟨w.heap.size+1,4,none⟩ (.slice (some ⟨g15,0,none⟩) (qs.length+1) cp15)) ⟨w.heap.size+1,4,none⟩=qs.length+1):=hid (by unfold lenAt;rw[World.cell?_setCell_same _ _ _ k4c])
      have hcs:=cond_steps HV.out HR3.out hx1.out hx2.out
      have HLr2:Hid (LoopRel condP [125] blC ts5.length ts5.tail (qs++[(x1,x2,true)]) (bnd r3 fun _ t=>unitP (kindP 3 t))):=LoopRel.round HLr.out hcl HR1.out hcs.1 hcs.2 condP_len
      have hqb:qs.length≤ts5.tail.length+1:=HLr.out.2.2
      clear hst15 hp150 hp151 hg15 hown15 hgrow15 hcs HO14 HG14 HS14 HP50 HP51 HP40 HP41 HC13 HO11
      go_wp2_with fail
      clear k4c fk4 d0 d1 d2 fd1 k4b
      generalize w15.setCell ⟨w.heap.size+1,4,none⟩ (.slice (some ⟨g15,0,none⟩) (qs.length+1) cp15)=w16 at HS16 HP160 HP161 HO16 HG16 HLn2 ⊢
      refine(St.is HS16.out _).mono ?_
      rintro e wz ⟨rfl,rfl⟩
      rw[show bl ⟨#[125]⟩=[125] from rfl]
      go_wp2
      go_roundw
      case rel=>exact⟨qs++[(x1,x2,true)],some ⟨g15,0,none⟩,cp15,_,rfl,HS16,HP160,by rw[List.length_append];exact HP161,by rw[List.length_append];exact HO16,HG16,HLr2⟩
      case measure=>
       rw[HLn.out,HLn2.out];omega
end Go.Proofs.YtkodhpilkaihjaaGreatDoor
