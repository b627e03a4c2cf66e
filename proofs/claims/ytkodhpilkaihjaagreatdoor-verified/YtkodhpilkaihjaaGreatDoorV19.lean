/- Parts. -/
import Derived.Test.YtkodhpilkaihjaaGreatDoorV18
namespace Go.Proofs.YtkodhpilkaihjaaGreatDoor
open Go.RowKit LS
def glen(R:Out Tr):Nat:=match R with
 | .error _=>0
 | .ok x=>x.2.length+1
theorem bin_res{w w2 w4 w5:World}{b:Nat}{pv pv1 pv4 pv5:Value}{s:ByteArray}{deep n1 n4:Nat}{xs ys zs:List Value}{M:Nat}{r1:Out Unit}{R2:Out Tr}{i i4:Int}{a:Tr}{p:PV}{kd op:Nat}
  (h1:St w2 b pv1 s deep r1) (o1:w2.ownsRow 0 92 8 pv1 n1 (xs++ys)) (k1:Kept b pv w pv1 w2) (hl:∃k:Nat,i=k∧Rep w2 (xs++ys) a k∧k+1=n1∧ys.length=8*cntT a)
  (h4:St w4 b pv4 s deep (unitP R2)) (o4:w4.ownsRow 0 92 8 pv4 n4 ((xs++ys)++zs)) (k4:Kept b pv1 w2 pv4 w4) (hB:Bud M (n4+1) R2) (hr:∀t z,R2=.ok (t,z)→∃k:Nat,i4=k∧Rep w4 ((xs++ys)++zs) t k∧k+1=n4∧zs.length=8*cntT t)
  (h5:St w5 b pv5 s deep (unitP R2)) (o5:w5.ownsRow 0 92 8 pv5 (n4+1) (((xs++ys)++zs)++p.cells)) (k5:Kept b pv4 w4 pv5 w5)
  (e1:p.k=kd) (e2:p.n=0) (e3:p.op=op) (e4:p.nm=⟨#[]⟩) (e5:(p.ca,p.cn,p.cc,p.ba,p.bn,p.bc)=(none,0,0,none,0,0)) (e6:p.a=i) (e7:p.b=i4) :
  PartRes w b pv s deep xs M (bnd R2 fun t z=>.ok (.node 0 0 (nd0 kd op) a t,z)) n4 w5:=by
 have hU : unitP (bnd R2 fun t z => (.ok (.node 0 0 (nd0 kd op) a t, z) : Out Tr)) = unitP R2 := by
   cases R2 with
   | error e=>rfl
   | ok x=>rfl
 have ea:xs++(ys++zs++p.cells)=((xs++ys)++zs)++p.cells:=by simp[List.append_assoc]
 refine⟨n4+1,pv5,ys++zs++p.cells,by rw[hU];exact h5,by rw[ea];exact o5,(k1.trans k4).trans k5,Bud.of_unit (by rw[hU];exact Bud.unit hB),?_⟩
 intro t z e
 obtain⟨t2,z2,q1,q2⟩:=bnd_ok e
 injection q2 with q2;injection q2 with q2 q3
 subst q2;subst q3
 obtain⟨kl,l1,l2,l3,l5⟩:=hl
 obtain⟨kr,m1,m2,m3,m5⟩:=hr t2 z2 q1
 obtain⟨qv,hqv,_⟩:=h1.view
 have l4:=Rep.kept hqv o1 k4 zs a kl l2
 have hle:kl≤n4:=by
  have a1:=o1.1
  have a4:=o4.1
  rw[List.length_append]at a4
  omega
 injection e5 with f1 f2
 injection f2 with f2 f3
 injection f3 with f3 f4
 injection f4 with f4 f5
 injection f5 with f5 f6
 refine⟨n4,rfl,?_,rfl,by rw[List.length_append,List.length_append,l5,m5];show _+_+8=8*(cntT a+cntT t2+1);omega⟩
 rw[ea]
 exact rep_new h4 o4 k5 p (nd0 kd op) a t2 kl kr ⟨e1,e2,e3,by rw[e4];rfl,CondsAre.nil _ _ _ f1 f2 f3,⟨[],by rw[f4,f5,f6];exact World.ownsRow_nil _ _ _ _,rfl⟩⟩ (by rw[e6,l1]) (by rw[e7,m1]) hle (by omega) l4 m2
theorem parse_true(n lv:Nat)(a:Tr)(ts:List Tok)(deep:Nat):parse (n+1) true lv a ts deep=match LS.opAt lv (hd ts)with
  | none=>.ok (a,ts)
  | some p=>bnd (parse n false (lv+1) .nil ts.tail deep) fun b r=>parse n true lv (.node 0 0 (nd0 p.1 p.2) a b) r deep:=rfl
theorem isT_two{c d:List UInt8}{t:Tok}(hc:isT c t=true)(h:c≠d):isT d t=false:=by
 cases hd:isT d t
 ·rfl
 ·unfold isT at hc hd
  simp only[Bool.and_eq_true,beq_iff_eq]at hc hd
  exact absurd (hc.2.symm.trans hd.2) h
theorem opAt_two(t:Tok):LS.opAt 2 t=if isT [42] t then some (4,2)else if isT [47] t then some (4,3)else none:=rfl
theorem opAt_one(t:Tok):LS.opAt 1 t=if isT [43] t then some (4,0)else if isT [45] t then some (4,1)else none:=rfl
theorem opAt_zero(t:Tok):LS.opAt 0 t=if isT wOr t then some (6,0)else none:=rfl
set_option maxRecDepth 100000 in
set_option maxHeartbeats 4000000 in
theorem term_c {s : ByteArray} (hs : s.size ≤ 5000) {k L : Nat} (hk : 10 * L + 4 ≤ k + 1 + 2) (IH : ∀ j, j ≤ k → ∀ L', 10 * L' + 4 ≤ j + (2 + 1) → PartC 289 s (fun ts d => parse j false (2 + 1) .nil ts d) L') :
    PartC 263 s (fun ts d=>parse (k+1) false 2 .nil ts d) L:=by
  refine PartC.of_ok (fun w b pv e p deep h=>QErr.term h) ?_
  intro w b pv deep ts n xs M h hown hM hB hL hdp
  have HIH:Hid (∀j,j≤k→∀L',10*L'+4≤j+(2+1)→PartC 289 s (fun ts d=>parse j false (2+1) .nil ts d) L'):=IH
  have H:Hid (St w b pv s deep (.ok ((),ts))):=h
  have HO:Hid (w.ownsRow 0 92 8 pv n xs):=hown
  have HE0:Hid ((bnd (parse k false (2+1) .nil ts deep) fun a r=>parse k true 2 a r deep)=parse (k+1) false 2 .nil ts deep):=rfl
  clear h hown IH
  go_enter Tryz.func263,Tryz.ntmps263
  go_wp2_with fail
  refine(HIH.out k (Nat.le_refl _) L (by omega) w b pv deep _ n xs M H.out HO.out hM hB (fun t e=>by injection e with e;injection e with _ e;subst e;exact hL) hdp).mono ?_
  rintro e w1 ⟨i1,rfl,hp1⟩
  have HP1:Hid (PartRes w b pv s deep xs M (parse k false (2+1) .nil ts deep) i1 w1):=hp1
  have HN1:Hid (∀a r,parse k false (2+1) .nil ts deep=.ok (a,r)→10*r.length+5≤k∧k≤k):=hid (by
    intro a r e
    have:=parse_len _ _ _ _ _ _ _ e
    simp at this
    omega)
  obtain⟨Rf,hRf⟩:∃Rf,Rf=parse (k+1) false 2 .nil ts deep:=⟨_,rfl⟩
  have HRf:Hid (Rf=parse (k+1) false 2 .nil ts deep):=hRf
  rw[←hRf]at HE0
  clear hRf
  generalize parse k false (2+1) .nil ts deep=R0 at *
  clear hp1 H HO
  go_wp2
  go_loopg [3] (glen R0) (fun g v3 wr=>∃(i:Int) (R:Out Tr) (m:Nat),v3=.int .i64 i∧Hid (PartRes w b pv s deep xs M R i wr)∧Hid ((bnd R fun a r=>parse m true 2 a r deep)=Rf)∧Hid (∀a r,R=.ok (a,r)→10*r.length+5≤m∧m≤k)∧Hid (g=glen R))
  case atStart=>exact⟨i1,R0,k,rfl,HP1,HE0,HN1,rfl⟩
  case round=>
    obtain⟨i,R,m,rfl,HP,HE,HN,HG⟩:=hrel
    clear HP1 HE0 HN1
    obtain⟨n1,pv1,ys,s1,o1,k1,b1,r1⟩:=HP.out.out
    have HS1:Hid (St wr b pv1 s deep (unitP R)):=s1
    have HO1:Hid (wr.ownsRow 0 92 8 pv1 n1 (xs++ys)):=o1
    have HK1:Hid (Kept b pv w pv1 wr):=k1
    have HB1:Hid (Bud M n1 R):=b1
    have HR1:Hid (∀t z,R=.ok (t,z)→∃k:Nat,i=k∧Rep wr (xs++ys) t k∧k+1=n1∧ys.length=8*cntT t):=r1
    clear s1 o1 k1 b1 r1
    go_wp2_with fail
    refine(St.is HS1.out _).mono ?_
    rintro e w0 ⟨rfl,rfl⟩
    go_wp2_with fail
    refine(St.is HS1.out _).mono ?_
    rintro e w2 ⟨rfl,rfl⟩
    rw[show bl ⟨#[42]⟩=[42] from rfl,show bl ⟨#[47]⟩=[47] from rfl]
    have hway : ((isR [42] (unitP R) = false ∧ isR [47] (unitP R) = false) ∧ (bnd R fun a r => parse m true 2 a r deep) = R) ∨ (∃ a r opn, R = .ok (a, r) ∧ ((isT [42] (hd r) = true ∧ isT [47] (hd r) = false ∧ opn = 2 ∨ isT [42] (hd r) = false ∧ isT [47] (hd r) = true ∧ opn = 3) ∧ LS.opAt 2 (hd r) = some (4, opn))) := by
      cases R with
      | error e=>exact Or.inl ⟨⟨rfl,rfl⟩,rfl⟩
      | ok x=>
        obtain⟨a,r⟩:=x
        have hm:=HN.out a r rfl
        obtain⟨m',rfl⟩:∃m',m=m'+1:=⟨m - 1,by omega⟩
        cases h1:isT [42] (hd r)
        · cases h2:isT [47] (hd r)
          · refine Or.inl ⟨⟨h1,h2⟩,?_⟩
            show parse (m'+1) true 2 a r deep=_
            rw[parse_true,opAt_two,h1,h2]
            rfl
          · exact Or.inr ⟨a,r,3,rfl,Or.inr ⟨by first|rfl|exact h1,by first|rfl|exact h2,rfl⟩,by rw[opAt_two,h1,h2];rfl⟩
        · have h2:=isT_two (d:=[47]) h1 (by decide)
          exact Or.inr ⟨a,r,2,rfl,Or.inl ⟨by first|rfl|exact h1,h2,rfl⟩,by rw[opAt_two,h1];rfl⟩
    rcases hway with ⟨hno,hend⟩|⟨a,r,opn,rfl,hsome,hop⟩
    · have HF:Hid (PartRes w b pv s deep xs M Rf i w2):=hid (by rw[←HE.out,hend];exact HP.out)
      clear hend
      rw[hno.1,hno.2]
      go_wp2
      go_ret
      exact⟨_,rfl,by rw[←HRf.out];exact HF.out⟩
    · have hm:=HN.out a r rfl
      obtain⟨m',rfl⟩:∃m',m=m'+1:=⟨m - 1,by omega⟩
      have htl:r.tail.length+1=r.length:=by rcases hsome with ⟨h,_⟩|⟨_,h,_⟩ <;> exact isT_len h
      have hlv:¬((hd r).kind=0∨(hd r).kind=5):=by rcases hsome with ⟨h,_⟩|⟨_,h,_⟩ <;> exact isT_live h
      obtain⟨R2,hR2⟩:∃R2,R2=parse m' false (2+1) .nil r.tail deep:=⟨_,rfl⟩
      have HR2:Hid (R2=parse m' false (2+1) .nil r.tail deep):=hR2
      have HE2 : Hid ((bnd (bnd R2 fun t z => (.ok (.node 0 0 (nd0 4 opn) a t, z) : Out Tr)) fun a r => parse m' true 2 a r deep) = Rf) := hid (by
        rw[←HE.out,bnd_bnd]
        show _=parse (m'+1) true 2 a r deep
        rw[parse_true,hop,←hR2]
        rfl)
      have HN2 : Hid (∀ t z, (bnd R2 fun t z => (.ok (.node 0 0 (nd0 4 opn) a t, z) : Out Tr)) = .ok (t, z) → 10 * z.length + 5 ≤ m' ∧ m' ≤ k) := hid (by
        intro t z e
        obtain⟨t2,z2,e1,e2⟩:=bnd_ok e
        injection e2 with e2;injection e2 with _ e2;subst e2
        rw[hR2]at e1
        have:=parse_len _ _ _ _ _ _ _ e1
        simp at this
        omega)
      have HGL : Hid (glen (bnd R2 fun t z => (.ok (.node 0 0 (nd0 4 opn) a t, z) : Out Tr)) < glen (.ok (a, r) : Out Tr)) := hid (by
        cases hR:R2 with
        | error e=>exact Nat.succ_pos _
        | ok x=>
          rw[hR2]at hR
          have:=parse_len _ _ _ _ _ _ _ hR
          simp at this
          show x.2.length+1<r.length+1
          omega)
      clear hop hR2
      rcases hsome with ⟨h1,h2,rfl⟩|⟨h1,h2,rfl⟩
      · rw[show isR [42] (unitP (.ok (a,r):Out Tr))=true from h1,show isR [47] (unitP (.ok (a,r):Out Tr))=false from h2]
        go_wp2_with fail
        refine(St.next HS1.out (by omega) ⟨r,rfl,hlv⟩).mono ?_
        rintro e w3 ⟨rfl,hst,hg⟩
        have HS3:Hid (St w3 b pv1 s deep (.ok ((),r.tail))):=hst
        have HO3:Hid (w3.ownsRow 0 92 8 pv1 n1 (xs++ys)):=row_grown HS1.out HO1.out hg
        have HK3:Hid (Kept b pv1 w2 pv1 w3):=(Kept.refl _ _ _).grown hg
        have hb1:n1+r.length≤M:=HB1.out
        clear hst hg
        go_wp2_with fail
        refine(HIH.out m' (by omega) r.tail.length (by omega) w3 b pv1 deep _ n1 (xs++ys) (M - 1) HS3.out HO3.out (by omega) (show n1+r.tail.length≤M - 1 by omega) (fun t e=>by injection e with e;injection e with _ e;subst e;exact Nat.le_refl _) hdp).mono ?_
        rintro e w4 ⟨i4,rfl,hp4⟩
        rw[show(bnd (.ok ((),r.tail):Out Unit) fun _ ts=>parse m' false (2+1) .nil ts deep)=R2 from HR2.out.symm]at hp4
        obtain⟨n4,pv4,zs,s4,o4,k4,b4,r4⟩:=hp4.out
        have hn4:n4≤6000:=by have:=b4.le;omega
        have HS4:Hid (St w4 b pv4 s deep (unitP R2)):=s4
        have HO4:Hid (w4.ownsRow 0 92 8 pv4 n4 ((xs++ys)++zs)):=o4
        have HK4:Hid (Kept b pv1 w2 pv4 w4):=HK3.out.trans k4
        have HB4:Hid (Bud (M - 1) n4 R2):=b4
        have HR4:Hid (∀t z,R2=.ok (t,z)→∃k:Nat,i4=k∧Rep w4 ((xs++ys)++zs) t k∧k+1=n4∧zs.length=8*cntT t):=r4
        clear hp4 s4 o4 k4 b4 r4
        go_wp2_with fail
        refine(St.lay HS4.out HO4.out hn4 ⟨4,0,2,⟨#[]⟩,none,0,0,none,0,0,i,i4⟩).mono ?_
        rintro e w5 ⟨pv5,rfl,s5,o5,k5⟩
        have HP5:Hid (PartRes w b pv s deep xs M (bnd R2 fun t z=>(.ok (.node 0 0 (nd0 4 2) a t,z):Out Tr)) n4 w5):=hid (bin_res HS1.out HO1.out HK1.out (HR1.out a r rfl) HS4.out HO4.out HK4.out (Bud.up HB4.out (by omega)) HR4.out s5 o5 k5 rfl rfl rfl rfl rfl rfl rfl)
        clear s5 o5 k5
        go_wp2
        go_roundg (glen (bnd R2 fun t z=>(.ok (.node 0 0 (nd0 4 2) a t,z):Out Tr)))
        case measure=>rw[HG.out];exact HGL.out
        case rel=>exact⟨_,_,m',rfl,HP5,HE2,HN2,rfl⟩
      · rw[show isR [42] (unitP (.ok (a,r):Out Tr))=false from h1,show isR [47] (unitP (.ok (a,r):Out Tr))=true from h2]
        go_wp2_with fail
        refine(St.next HS1.out (by omega) ⟨r,rfl,hlv⟩).mono ?_
        rintro e w3 ⟨rfl,hst,hg⟩
        have HS3:Hid (St w3 b pv1 s deep (.ok ((),r.tail))):=hst
        have HO3:Hid (w3.ownsRow 0 92 8 pv1 n1 (xs++ys)):=row_grown HS1.out HO1.out hg
        have HK3:Hid (Kept b pv1 w2 pv1 w3):=(Kept.refl _ _ _).grown hg
        have hb1:n1+r.length≤M:=HB1.out
        clear hst hg
        go_wp2_with fail
        refine(HIH.out m' (by omega) r.tail.length (by omega) w3 b pv1 deep _ n1 (xs++ys) (M - 1) HS3.out HO3.out (by omega) (show n1+r.tail.length≤M - 1 by omega) (fun t e=>by injection e with e;injection e with _ e;subst e;exact Nat.le_refl _) hdp).mono ?_
        rintro e w4 ⟨i4,rfl,hp4⟩
        rw[show(bnd (.ok ((),r.tail):Out Unit) fun _ ts=>parse m' false (2+1) .nil ts deep)=R2 from HR2.out.symm]at hp4
        obtain⟨n4,pv4,zs,s4,o4,k4,b4,r4⟩:=hp4.out
        have hn4:n4≤6000:=by have:=b4.le;omega
        have HS4:Hid (St w4 b pv4 s deep (unitP R2)):=s4
        have HO4:Hid (w4.ownsRow 0 92 8 pv4 n4 ((xs++ys)++zs)):=o4
        have HK4:Hid (Kept b pv1 w2 pv4 w4):=HK3.out.trans k4
        have HB4:Hid (Bud (M - 1) n4 R2):=b4
        have HR4:Hid (∀t z,R2=.ok (t,z)→∃k:Nat,i4=k∧Rep w4 ((xs++ys)++zs) t k∧k+1=n4∧zs.length=8*cntT t):=r4
        clear hp4 s4 o4 k4 b4 r4
        go_wp2_with fail
        refine(St.lay HS4.out HO4.out hn4 ⟨4,0,3,⟨#[]⟩,none,0,0,none,0,0,i,i4⟩).mono ?_
        rintro e w5 ⟨pv5,rfl,s5,o5,k5⟩
        have HP5:Hid (PartRes w b pv s deep xs M (bnd R2 fun t z=>(.ok (.node 0 0 (nd0 4 3) a t,z):Out Tr)) n4 w5):=hid (bin_res HS1.out HO1.out HK1.out (HR1.out a r rfl) HS4.out HO4.out HK4.out (Bud.up HB4.out (by omega)) HR4.out s5 o5 k5 rfl rfl rfl rfl rfl rfl rfl)
        clear s5 o5 k5
        go_wp2
        go_roundg (glen (bnd R2 fun t z=>(.ok (.node 0 0 (nd0 4 3) a t,z):Out Tr)))
        case measure=>rw[HG.out];exact HGL.out
        case rel=>exact⟨_,_,m',rfl,HP5,HE2,HN2,rfl⟩
set_option maxRecDepth 100000 in
set_option maxHeartbeats 4000000 in
theorem sum_c {s : ByteArray} (hs : s.size ≤ 5000) {k L : Nat} (hk : 10 * L + 4 ≤ k + 1 + 1) (IH : ∀ j, j ≤ k → ∀ L', 10 * L' + 4 ≤ j + (1 + 1) → PartC 263 s (fun ts d => parse j false (1 + 1) .nil ts d) L') :
    PartC 228 s (fun ts d=>parse (k+1) false 1 .nil ts d) L:=by
  refine PartC.of_ok (fun w b pv e p deep h=>QErr.sum h) ?_
  intro w b pv deep ts n xs M h hown hM hB hL hdp
  have HIH:Hid (∀j,j≤k→∀L',10*L'+4≤j+(1+1)→PartC 263 s (fun ts d=>parse j false (1+1) .nil ts d) L'):=IH
  have H:Hid (St w b pv s deep (.ok ((),ts))):=h
  have HO:Hid (w.ownsRow 0 92 8 pv n xs):=hown
  have HE0:Hid ((bnd (parse k false (1+1) .nil ts deep) fun a r=>parse k true 1 a r deep)=parse (k+1) false 1 .nil ts deep):=rfl
  clear h hown IH
  go_enter Tryz.func228,Tryz.ntmps228
  go_wp2_with fail
  refine(HIH.out k (Nat.le_refl _) L (by omega) w b pv deep _ n xs M H.out HO.out hM hB (fun t e=>by injection e with e;injection e with _ e;subst e;exact hL) hdp).mono ?_
  rintro e w1 ⟨i1,rfl,hp1⟩
  have HP1:Hid (PartRes w b pv s deep xs M (parse k false (1+1) .nil ts deep) i1 w1):=hp1
  have HN1:Hid (∀a r,parse k false (1+1) .nil ts deep=.ok (a,r)→10*r.length+5≤k∧k≤k):=hid (by
    intro a r e
    have:=parse_len _ _ _ _ _ _ _ e
    simp at this
    omega)
  obtain⟨Rf,hRf⟩:∃Rf,Rf=parse (k+1) false 1 .nil ts deep:=⟨_,rfl⟩
  have HRf:Hid (Rf=parse (k+1) false 1 .nil ts deep):=hRf
  rw[←hRf]at HE0
  clear hRf
  generalize parse k false (1+1) .nil ts deep=R0 at *
  clear hp1 H HO
  go_wp2
  go_loopg [3] (glen R0) (fun g v3 wr=>∃(i:Int) (R:Out Tr) (m:Nat),v3=.int .i64 i∧Hid (PartRes w b pv s deep xs M R i wr)∧Hid ((bnd R fun a r=>parse m true 1 a r deep)=Rf)∧Hid (∀a r,R=.ok (a,r)→10*r.length+5≤m∧m≤k)∧Hid (g=glen R))
  case atStart=>exact⟨i1,R0,k,rfl,HP1,HE0,HN1,rfl⟩
  case round=>
    obtain⟨i,R,m,rfl,HP,HE,HN,HG⟩:=hrel
    clear HP1 HE0 HN1
    obtain⟨n1,pv1,ys,s1,o1,k1,b1,r1⟩:=HP.out.out
    have HS1:Hid (St wr b pv1 s deep (unitP R)):=s1
    have HO1:Hid (wr.ownsRow 0 92 8 pv1 n1 (xs++ys)):=o1
    have HK1:Hid (Kept b pv w pv1 wr):=k1
    have HB1:Hid (Bud M n1 R):=b1
    have HR1:Hid (∀t z,R=.ok (t,z)→∃k:Nat,i=k∧Rep wr (xs++ys) t k∧k+1=n1∧ys.length=8*cntT t):=r1
    clear s1 o1 k1 b1 r1
    go_wp2_with fail
    refine(St.is HS1.out _).mono ?_
    rintro e w0 ⟨rfl,rfl⟩
    go_wp2_with fail
    refine(St.is HS1.out _).mono ?_
    rintro e w2 ⟨rfl,rfl⟩
    rw[show bl ⟨#[43]⟩=[43] from rfl,show bl ⟨#[45]⟩=[45] from rfl]
    have hway : ((isR [43] (unitP R) = false ∧ isR [45] (unitP R) = false) ∧ (bnd R fun a r => parse m true 1 a r deep) = R) ∨ (∃ a r opn, R = .ok (a, r) ∧ ((isT [43] (hd r) = true ∧ isT [45] (hd r) = false ∧ opn = 0 ∨ isT [43] (hd r) = false ∧ isT [45] (hd r) = true ∧ opn = 1) ∧ LS.opAt 1 (hd r) = some (4, opn))) := by
      cases R with
      | error e=>exact Or.inl ⟨⟨rfl,rfl⟩,rfl⟩
      | ok x=>
        obtain⟨a,r⟩:=x
        have hm:=HN.out a r rfl
        obtain⟨m',rfl⟩:∃m',m=m'+1:=⟨m - 1,by omega⟩
        cases h1:isT [43] (hd r)
        · cases h2:isT [45] (hd r)
          · refine Or.inl ⟨⟨h1,h2⟩,?_⟩
            show parse (m'+1) true 1 a r deep=_
            rw[parse_true,opAt_one,h1,h2]
            rfl
          · exact Or.inr ⟨a,r,1,rfl,Or.inr ⟨by first|rfl|exact h1,by first|rfl|exact h2,rfl⟩,by rw[opAt_one,h1,h2];rfl⟩
        · have h2:=isT_two (d:=[45]) h1 (by decide)
          exact Or.inr ⟨a,r,0,rfl,Or.inl ⟨by first|rfl|exact h1,h2,rfl⟩,by rw[opAt_one,h1];rfl⟩
    rcases hway with ⟨hno,hend⟩|⟨a,r,opn,rfl,hsome,hop⟩
    · have HF:Hid (PartRes w b pv s deep xs M Rf i w2):=hid (by rw[←HE.out,hend];exact HP.out)
      clear hend
      rw[hno.1,hno.2]
      go_wp2
      go_ret
      exact⟨_,rfl,by rw[←HRf.out];exact HF.out⟩
    · have hm:=HN.out a r rfl
      obtain⟨m',rfl⟩:∃m',m=m'+1:=⟨m - 1,by omega⟩
      have htl:r.tail.length+1=r.length:=by rcases hsome with ⟨h,_⟩|⟨_,h,_⟩ <;> exact isT_len h
      have hlv:¬((hd r).kind=0∨(hd r).kind=5):=by rcases hsome with ⟨h,_⟩|⟨_,h,_⟩ <;> exact isT_live h
      obtain⟨R2,hR2⟩:∃R2,R2=parse m' false (1+1) .nil r.tail deep:=⟨_,rfl⟩
      have HR2:Hid (R2=parse m' false (1+1) .nil r.tail deep):=hR2
      have HE2 : Hid ((bnd (bnd R2 fun t z => (.ok (.node 0 0 (nd0 4 opn) a t, z) : Out Tr)) fun a r => parse m' true 1 a r deep) = Rf) := hid (by
        rw[←HE.out,bnd_bnd]
        show _=parse (m'+1) true 1 a r deep
        rw[parse_true,hop,←hR2]
        rfl)
      have HN2 : Hid (∀ t z, (bnd R2 fun t z => (.ok (.node 0 0 (nd0 4 opn) a t, z) : Out Tr)) = .ok (t, z) → 10 * z.length + 5 ≤ m' ∧ m' ≤ k) := hid (by
        intro t z e
        obtain⟨t2,z2,e1,e2⟩:=bnd_ok e
        injection e2 with e2;injection e2 with _ e2;subst e2
        rw[hR2]at e1
        have:=parse_len _ _ _ _ _ _ _ e1
        simp at this
        omega)
      have HGL : Hid (glen (bnd R2 fun t z => (.ok (.node 0 0 (nd0 4 opn) a t, z) : Out Tr)) < glen (.ok (a, r) : Out Tr)) := hid (by
        cases hR:R2 with
        | error e=>exact Nat.succ_pos _
        | ok x=>
          rw[hR2]at hR
          have:=parse_len _ _ _ _ _ _ _ hR
          simp at this
          show x.2.length+1<r.length+1
          omega)
      clear hop hR2
      rcases hsome with ⟨h1,h2,rfl⟩|⟨h1,h2,rfl⟩
      · rw[show isR [43] (unitP (.ok (a,r):Out Tr))=true from h1,show isR [45] (unitP (.ok (a,r):Out Tr))=false from h2]
        go_wp2_with fail
        refine(St.next HS1.out (by omega) ⟨r,rfl,hlv⟩).mono ?_
        rintro e w3 ⟨rfl,hst,hg⟩
        have HS3:Hid (St w3 b pv1 s deep (.ok ((),r.tail))):=hst
        have HO3:Hid (w3.ownsRow 0 92 8 pv1 n1 (xs++ys)):=row_grown HS1.out HO1.out hg
        have HK3:Hid (Kept b pv1 w2 pv1 w3):=(Kept.refl _ _ _).grown hg
        have hb1:n1+r.length≤M:=HB1.out
        clear hst hg
        go_wp2_with fail
        refine(HIH.out m' (by omega) r.tail.length (by omega) w3 b pv1 deep _ n1 (xs++ys) (M - 1) HS3.out HO3.out (by omega) (show n1+r.tail.length≤M - 1 by omega) (fun t e=>by injection e with e;injection e with _ e;subst e;exact Nat.le_refl _) hdp).mono ?_
        rintro e w4 ⟨i4,rfl,hp4⟩
        rw[show(bnd (.ok ((),r.tail):Out Unit) fun _ ts=>parse m' false (1+1) .nil ts deep)=R2 from HR2.out.symm]at hp4
        obtain⟨n4,pv4,zs,s4,o4,k4,b4,r4⟩:=hp4.out
        have hn4:n4≤6000:=by have:=b4.le;omega
        have HS4:Hid (St w4 b pv4 s deep (unitP R2)):=s4
        have HO4:Hid (w4.ownsRow 0 92 8 pv4 n4 ((xs++ys)++zs)):=o4
        have HK4:Hid (Kept b pv1 w2 pv4 w4):=HK3.out.trans k4
        have HB4:Hid (Bud (M - 1) n4 R2):=b4
        have HR4:Hid (∀t z,R2=.ok (t,z)→∃k:Nat,i4=k∧Rep w4 ((xs++ys)++zs) t k∧k+1=n4∧zs.length=8*cntT t):=r4
        clear hp4 s4 o4 k4 b4 r4
        go_wp2_with fail
        refine(St.lay HS4.out HO4.out hn4 ⟨4,0,0,⟨#[]⟩,none,0,0,none,0,0,i,i4⟩).mono ?_
        rintro e w5 ⟨pv5,rfl,s5,o5,k5⟩
        have HP5:Hid (PartRes w b pv s deep xs M (bnd R2 fun t z=>(.ok (.node 0 0 (nd0 4 0) a t,z):Out Tr)) n4 w5):=hid (bin_res HS1.out HO1.out HK1.out (HR1.out a r rfl) HS4.out HO4.out HK4.out (Bud.up HB4.out (by omega)) HR4.out s5 o5 k5 rfl rfl rfl rfl rfl rfl rfl)
        clear s5 o5 k5
        go_wp2
        go_roundg (glen (bnd R2 fun t z=>(.ok (.node 0 0 (nd0 4 0) a t,z):Out Tr)))
        case measure=>rw[HG.out];exact HGL.out
        case rel=>exact⟨_,_,m',rfl,HP5,HE2,HN2,rfl⟩
      · rw[show isR [43] (unitP (.ok (a,r):Out Tr))=false from h1,show isR [45] (unitP (.ok (a,r):Out Tr))=true from h2]
        go_wp2_with fail
        refine(St.next HS1.out (by omega) ⟨r,rfl,hlv⟩).mono ?_
        rintro e w3 ⟨rfl,hst,hg⟩
        have HS3:Hid (St w3 b pv1 s deep (.ok ((),r.tail))):=hst
        have HO3:Hid (w3.ownsRow 0 92 8 pv1 n1 (xs++ys)):=row_grown HS1.out HO1.out hg
        have HK3:Hid (Kept b pv1 w2 pv1 w3):=(Kept.refl _ _ _).grown hg
        have hb1:n1+r.length≤M:=HB1.out
        clear hst hg
        go_wp2_with fail
        refine(HIH.out m' (by omega) r.tail.length (by omega) w3 b pv1 deep _ n1 (xs++ys) (M - 1) HS3.out HO3.out (by omega) (show n1+r.tail.length≤M - 1 by omega) (fun t e=>by injection e with e;injection e with _ e;subst e;exact Nat.le_refl _) hdp).mono ?_
        rintro e w4 ⟨i4,rfl,hp4⟩
        rw[show(bnd (.ok ((),r.tail):Out Unit) fun _ ts=>parse m' false (1+1) .nil ts deep)=R2 from HR2.out.symm]at hp4
        obtain⟨n4,pv4,zs,s4,o4,k4,b4,r4⟩:=hp4.out
        have hn4:n4≤6000:=by have:=b4.le;omega
        have HS4:Hid (St w4 b pv4 s deep (unitP R2)):=s4
        have HO4:Hid (w4.ownsRow 0 92 8 pv4 n4 ((xs++ys)++zs)):=o4
        have HK4:Hid (Kept b pv1 w2 pv4 w4):=HK3.out.trans k4
        have HB4:Hid (Bud (M - 1) n4 R2):=b4
        have HR4:Hid (∀t z,R2=.ok (t,z)→∃k:Nat,i4=k∧Rep w4 ((xs++ys)++zs) t k∧k+1=n4∧zs.length=8*cntT t):=r4
        clear hp4 s4 o4 k4 b4 r4
        go_wp2_with fail
        refine(St.lay HS4.out HO4.out hn4 ⟨4,0,1,⟨#[]⟩,none,0,0,none,0,0,i,i4⟩).mono ?_
        rintro e w5 ⟨pv5,rfl,s5,o5,k5⟩
        have HP5:Hid (PartRes w b pv s deep xs M (bnd R2 fun t z=>(.ok (.node 0 0 (nd0 4 1) a t,z):Out Tr)) n4 w5):=hid (bin_res HS1.out HO1.out HK1.out (HR1.out a r rfl) HS4.out HO4.out HK4.out (Bud.up HB4.out (by omega)) HR4.out s5 o5 k5 rfl rfl rfl rfl rfl rfl rfl)
        clear s5 o5 k5
        go_wp2
        go_roundg (glen (bnd R2 fun t z=>(.ok (.node 0 0 (nd0 4 1) a t,z):Out Tr)))
        case measure=>rw[HG.out];exact HGL.out
        case rel=>exact⟨_,_,m',rfl,HP5,HE2,HN2,rfl⟩
set_option maxRecDepth 100000 in
set_option maxHeartbeats 4000000 in
theorem query_c {s : ByteArray} (hs : s.size ≤ 5000) {k L : Nat} (hk : 10 * L + 4 ≤ k + 1 + 0) (IH : ∀ j, j ≤ k → ∀ L', 10 * L' + 4 ≤ j + (0 + 1) → PartC 228 s (fun ts d => parse j false (0 + 1) .nil ts d) L') :
    PartC 176 s (fun ts d=>parse (k+1) false 0 .nil ts d) L:=by
  refine PartC.of_ok (fun w b pv e p deep h=>QErr.query h) ?_
  intro w b pv deep ts n xs M h hown hM hB hL hdp
  have HIH:Hid (∀j,j≤k→∀L',10*L'+4≤j+(0+1)→PartC 228 s (fun ts d=>parse j false (0+1) .nil ts d) L'):=IH
  have H:Hid (St w b pv s deep (.ok ((),ts))):=h
  have HO:Hid (w.ownsRow 0 92 8 pv n xs):=hown
  have HE0:Hid ((bnd (parse k false (0+1) .nil ts deep) fun a r=>parse k true 0 a r deep)=parse (k+1) false 0 .nil ts deep):=rfl
  clear h hown IH
  go_enter Tryz.func176,Tryz.ntmps176
  go_wp2_with fail
  refine(HIH.out k (Nat.le_refl _) L (by omega) w b pv deep _ n xs M H.out HO.out hM hB (fun t e=>by injection e with e;injection e with _ e;subst e;exact hL) hdp).mono ?_
  rintro e w1 ⟨i1,rfl,hp1⟩
  have HP1:Hid (PartRes w b pv s deep xs M (parse k false (0+1) .nil ts deep) i1 w1):=hp1
  have HN1:Hid (∀a r,parse k false (0+1) .nil ts deep=.ok (a,r)→10*r.length+5≤k∧k≤k):=hid (by
    intro a r e
    have:=parse_len _ _ _ _ _ _ _ e
    simp at this
    omega)
  obtain⟨Rf,hRf⟩:∃Rf,Rf=parse (k+1) false 0 .nil ts deep:=⟨_,rfl⟩
  have HRf:Hid (Rf=parse (k+1) false 0 .nil ts deep):=hRf
  rw[←hRf]at HE0
  clear hRf
  generalize parse k false (0+1) .nil ts deep=R0 at *
  clear hp1 H HO
  go_wp2
  go_loopg [3] (glen R0) (fun g v3 wr=>∃(i:Int) (R:Out Tr) (m:Nat),v3=.int .i64 i∧Hid (PartRes w b pv s deep xs M R i wr)∧Hid ((bnd R fun a r=>parse m true 0 a r deep)=Rf)∧Hid (∀a r,R=.ok (a,r)→10*r.length+5≤m∧m≤k)∧Hid (g=glen R))
  case atStart=>exact⟨i1,R0,k,rfl,HP1,HE0,HN1,rfl⟩
  case round=>
    obtain⟨i,R,m,rfl,HP,HE,HN,HG⟩:=hrel
    clear HP1 HE0 HN1
    obtain⟨n1,pv1,ys,s1,o1,k1,b1,r1⟩:=HP.out.out
    have HS1:Hid (St wr b pv1 s deep (unitP R)):=s1
    have HO1:Hid (wr.ownsRow 0 92 8 pv1 n1 (xs++ys)):=o1
    have HK1:Hid (Kept b pv w pv1 wr):=k1
    have HB1:Hid (Bud M n1 R):=b1
    have HR1:Hid (∀t z,R=.ok (t,z)→∃k:Nat,i=k∧Rep wr (xs++ys) t k∧k+1=n1∧ys.length=8*cntT t):=r1
    clear s1 o1 k1 b1 r1
    go_wp2_with fail
    refine(St.is HS1.out _).mono ?_
    rintro e w2 ⟨rfl,rfl⟩
    rw[show bl ⟨#[111,114]⟩=wOr from rfl]
    have hway : (isR wOr (unitP R) = false ∧ (bnd R fun a r => parse m true 0 a r deep) = R) ∨ (∃ a r opn, R = .ok (a, r) ∧ (isT wOr (hd r) = true ∧ opn = 0) ∧ LS.opAt 0 (hd r) = some (6, opn)) := by
      cases R with
      | error e=>exact Or.inl ⟨rfl,rfl⟩
      | ok x=>
        obtain⟨a,r⟩:=x
        have hm:=HN.out a r rfl
        obtain⟨m',rfl⟩:∃m',m=m'+1:=⟨m - 1,by omega⟩
        cases h1:isT wOr (hd r)
        · refine Or.inl ⟨h1,?_⟩
          show parse (m'+1) true 0 a r deep=_
          rw[parse_true,opAt_zero,h1]
          rfl
        · exact Or.inr ⟨a,r,0,rfl,⟨by first|rfl|exact h1,rfl⟩,by rw[opAt_zero,h1];rfl⟩
    rcases hway with ⟨hno,hend⟩|⟨a,r,opn,rfl,⟨hlive,rfl⟩,hop⟩
    · have HF:Hid (PartRes w b pv s deep xs M Rf i w2):=hid (by rw[←HE.out,hend];exact HP.out)
      clear hend
      rw[hno]
      go_wp2
      go_ret
      exact⟨_,rfl,by rw[←HRf.out];exact HF.out⟩
    · have hm:=HN.out a r rfl
      obtain⟨m',rfl⟩:∃m',m=m'+1:=⟨m - 1,by omega⟩
      have htl:=isT_len hlive
      have hlv:=isT_live hlive
      obtain⟨R2,hR2⟩:∃R2,R2=parse m' false (0+1) .nil r.tail deep:=⟨_,rfl⟩
      have HR2:Hid (R2=parse m' false (0+1) .nil r.tail deep):=hR2
      have HE2 : Hid ((bnd (bnd R2 fun t z => (.ok (.node 0 0 (nd0 6 0) a t, z) : Out Tr)) fun a r => parse m' true 0 a r deep) = Rf) := hid (by
        rw[←HE.out,bnd_bnd]
        show _=parse (m'+1) true 0 a r deep
        rw[parse_true,hop,←hR2]
        rfl)
      have HN2 : Hid (∀ t z, (bnd R2 fun t z => (.ok (.node 0 0 (nd0 6 0) a t, z) : Out Tr)) = .ok (t, z) → 10 * z.length + 5 ≤ m' ∧ m' ≤ k) := hid (by
        intro t z e
        obtain⟨t2,z2,e1,e2⟩:=bnd_ok e
        injection e2 with e2;injection e2 with _ e2;subst e2
        rw[hR2]at e1
        have:=parse_len _ _ _ _ _ _ _ e1
        simp at this
        omega)
      have HGL : Hid (glen (bnd R2 fun t z => (.ok (.node 0 0 (nd0 6 0) a t, z) : Out Tr)) < glen (.ok (a, r) : Out Tr)) := hid (by
        cases hR:R2 with
        | error e=>exact Nat.succ_pos _
        | ok x=>
          rw[hR2]at hR
          have:=parse_len _ _ _ _ _ _ _ hR
          simp at this
          show x.2.length+1<r.length+1
          omega)
      clear hop hR2
      rw[show isR wOr (unitP (.ok (a,r):Out Tr))=true from hlive]
      go_wp2_with fail
      refine(St.next HS1.out (by omega) ⟨r,rfl,hlv⟩).mono ?_
      rintro e w3 ⟨rfl,hst,hg⟩
      have HS3:Hid (St w3 b pv1 s deep (.ok ((),r.tail))):=hst
      have HO3:Hid (w3.ownsRow 0 92 8 pv1 n1 (xs++ys)):=row_grown HS1.out HO1.out hg
      have HK3:Hid (Kept b pv1 w2 pv1 w3):=(Kept.refl _ _ _).grown hg
      have hb1:n1+r.length≤M:=HB1.out
      clear hst hg
      go_wp2_with fail
      refine(HIH.out m' (by omega) r.tail.length (by omega) w3 b pv1 deep _ n1 (xs++ys) (M - 1) HS3.out HO3.out (by omega) (show n1+r.tail.length≤M - 1 by omega) (fun t e=>by injection e with e;injection e with _ e;subst e;exact Nat.le_refl _) hdp).mono ?_
      rintro e w4 ⟨i4,rfl,hp4⟩
      rw[show(bnd (.ok ((),r.tail):Out Unit) fun _ ts=>parse m' false (0+1) .nil ts deep)=R2 from HR2.out.symm]at hp4
      obtain⟨n4,pv4,zs,s4,o4,k4,b4,r4⟩:=hp4.out
      have hn4:n4≤6000:=by have:=b4.le;omega
      have HS4:Hid (St w4 b pv4 s deep (unitP R2)):=s4
      have HO4:Hid (w4.ownsRow 0 92 8 pv4 n4 ((xs++ys)++zs)):=o4
      have HK4:Hid (Kept b pv1 w2 pv4 w4):=HK3.out.trans k4
      have HB4:Hid (Bud (M - 1) n4 R2):=b4
      have HR4:Hid (∀t z,R2=.ok (t,z)→∃k:Nat,i4=k∧Rep w4 ((xs++ys)++zs) t k∧k+1=n4∧zs.length=8*cntT t):=r4
      clear hp4 s4 o4 k4 b4 r4
      go_wp2_with fail
      refine(St.lay HS4.out HO4.out hn4 ⟨6,0,0,⟨#[]⟩,none,0,0,none,0,0,i,i4⟩).mono ?_
      rintro e w5 ⟨pv5,rfl,s5,o5,k5⟩
      have HP5:Hid (PartRes w b pv s deep xs M (bnd R2 fun t z=>(.ok (.node 0 0 (nd0 6 0) a t,z):Out Tr)) n4 w5):=hid (bin_res HS1.out HO1.out HK1.out (HR1.out a r rfl) HS4.out HO4.out HK4.out (Bud.up HB4.out (by omega)) HR4.out s5 o5 k5 rfl rfl rfl rfl rfl rfl rfl)
      clear s5 o5 k5
      go_wp2
      go_roundg (glen (bnd R2 fun t z=>(.ok (.node 0 0 (nd0 6 0) a t,z):Out Tr)))
      case measure=>rw[HG.out];exact HGL.out
      case rel=>exact⟨_,_,m',rfl,HP5,HE2,HN2,rfl⟩
theorem parse_c{s:ByteArray}(hs:s.size≤5000):∀(k:Nat),∀j,j≤k→
  (∀L,10*L+4≤j+3→PartC 289 s (fun ts d=>parse j false 3 .nil ts d) L)∧(∀L,10*L+4≤j+2→PartC 263 s (fun ts d=>parse j false 2 .nil ts d) L)∧
  (∀L,10*L+4≤j+1→PartC 228 s (fun ts d=>parse j false 1 .nil ts d) L)∧(∀L,10*L+4≤j→PartC 176 s (fun ts d=>parse j false 0 .nil ts d) L):=by
 intro k
 induction k with
 | zero=>
  intro j hj
  have:j=0:=by omega
  subst this
  exact⟨fun L h=>absurd h (by omega),fun L h=>absurd h (by omega),fun L h=>absurd h (by omega),fun L h=>absurd h (by omega)⟩
 | succ k ih=>
  intro j hj
  by_cases hjk:j≤k
  ·exact ih j hjk
  ·have:j=k+1:=by omega
   subst this
   refine⟨?_,?_,?_,?_⟩
   ·intro L h
    cases L with
    | zero=>exact PartC.zero (fun w b pv e p deep h=>QErr.factor h)
    | succ L=>exact factor_c (rec:=fun lv ts d=>parse k false lv .nil ts d) hs ((ih k (Nat.le_refl _)).1 L (by omega)) ((ih k (Nat.le_refl _)).2.2.2 L (by omega))
   ·intro L h;exact term_c hs (by omega) (fun j hj L' h'=>(ih j hj).1 L' h')
   ·intro L h;exact sum_c hs (by omega) (fun j hj L' h'=>(ih j hj).2.1 L' h')
   ·intro L h;exact query_c hs (by omega) (fun j hj L' h'=>(ih j hj).2.2.1 L' h')
theorem query_any{s:ByteArray}(hs:s.size≤5000)(L:Nat):PartC 176 s (fun ts d=>parse (10*L+5) false 0 .nil ts d) L:=(parse_c hs (10*L+5) _ (Nat.le_refl _)).2.2.2 L (by omega)
end Go.Proofs.YtkodhpilkaihjaaGreatDoor
