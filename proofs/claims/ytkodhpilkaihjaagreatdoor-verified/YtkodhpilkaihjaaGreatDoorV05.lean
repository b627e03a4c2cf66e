/- Parts. -/
import Derived.Test.YtkodhpilkaihjaaGreatDoorV04
namespace Go.Proofs.YtkodhpilkaihjaaGreatDoor
open Go.RowKit LS
structure PTok where
 kd:Nat
 at_:Nat
 tx:ByteArray
 v:Nat
def flatT:List PTok→List Value
 | []=>[]
 | t::l=>.int .i64 t.kd::.int .i64 t.at_::.string t.tx::.int .i64 t.v::flatT l
theorem flatT_append(l m:List PTok):flatT (l++m)=flatT l++flatT m:=by
 induction l with
 | nil=>rfl
 | cons a l ih=>simp[flatT,ih]
theorem flatT_get (l : List PTok) (j : Nat) : (flatT l)[j * 4]? = l[j]?.map (fun t => .int .i64 t.kd) ∧ (flatT l)[j * 4 + 1]? = l[j]?.map (fun t => .int .i64 t.at_) ∧ (flatT l)[j * 4 + 2]? = l[j]?.map (fun t => .string t.tx) ∧ (flatT l)[j * 4 + 3]? = l[j]?.map (fun t => .int .i64 t.v) := by
  induction l generalizing j with
  | nil=>simp[flatT]
  | cons r l ih=>
    cases j with
    | zero=>simp[flatT]
    | succ j=>
      obtain⟨h1,h2,h3,h4⟩:=ih j
      refine⟨?_,?_,?_,?_⟩
      · rw[show(j+1)*4=j*4+1+1+1+1 by omega];simpa [flatT] using h1
      · rw[show(j+1)*4+1=j*4+1+1+1+1+1 by omega];simpa [flatT] using h2
      · rw[show(j+1)*4+2=j*4+2+1+1+1+1 by omega];simpa [flatT] using h3
      · rw[show(j+1)*4+3=j*4+3+1+1+1+1 by omega];simpa [flatT] using h4
def pk(k:Nat):Nat:=if k=0 then 4 else if k=1 then 0 else if k=2 then 1 else if k=3 then 2 else if k=4 then 3 else 5
def TokIs(p:PTok)(t:Tok):Prop:=p.kd=pk t.kind∧p.at_=t.at_∧bl p.tx=t.txt∧(t.kind=1→(p.v:Int)=numV t.txt)
structure RD (w:World) (b g cp:Nat) (ps:List PTok) (k:Nat):Prop where
 cells:w.heap[b]?=some (.cells #[.slice (some ⟨g,0,none⟩) ps.length cp,.int .i64 k] 162 (0,0))
 own:w.ownsRow 0 167 4 (.slice (some ⟨g,0,none⟩) ps.length cp) ps.length (flatT ps)
 lt:k<ps.length
theorem RD.below{w w':World}{b g cp:Nat}{ps:List PTok}{k:Nat}(h:RD w b g cp ps k)(hb:Below w.heap.size w w'):RD w' b g cp ps k:=
 ⟨(hb.block b (Array.getElem?_eq_some_iff.1 h.cells).1).trans h.cells,own_below h.own hb,h.lt⟩
theorem RD.all{w:World}{b g cp:Nat}{ps:List PTok}{k:Nat}(h:RD w b g cp ps k) :
  w.cell? ⟨b,0,none⟩=some (.slice (some ⟨g,0,none⟩) ps.length cp)∧w.cell? ⟨b,1,none⟩=some (.int .i64 k)∧w.frozen? ⟨b,1,none⟩=false∧b<w.heap.size∧g<w.heap.size∧
  w.cell? ⟨g,k*4,none⟩=some (.int .i64 (ps[k]'h.lt).kd)∧w.cell? ⟨g,k*4+1,none⟩=some (.int .i64 (ps[k]'h.lt).at_)∧w.cell? ⟨g,k*4+2,none⟩=some (.string (ps[k]'h.lt).tx)∧w.cell? ⟨g,k*4+3,none⟩=some (.int .i64 (ps[k]'h.lt).v):=by
 obtain⟨f1,f2,f3,f4⟩:=flatT_get ps k
 rw[List.getElem?_eq_getElem h.lt]at f1 f2 f3 f4
 refine⟨by simp[World.cell?,h.cells],by simp[World.cell?,h.cells],by simp[World.frozen?,h.cells],(Array.getElem?_eq_some_iff.1 h.cells).1,own_lt h.own,own_cell h.own _ _ f1,own_cell h.own _ _ f2,own_cell h.own _ _ f3,own_cell h.own _ _ f4⟩
set_option maxRecDepth 100000 in
set_option maxHeartbeats 1000000 in
theorem token_any{w:World}{b g cp:Nat}{ps:List PTok}{k:Nat}(h:RD w b g cp ps k) :
  Calls Tryz.prog 69 #[.pointer (some ⟨b,0,none⟩)] w fun e w'=>e=.returned (.agg #[.int .i64 (ps[k]'h.lt).kd,.int .i64 (ps[k]'h.lt).at_,.string (ps[k]'h.lt).tx,.int .i64 (ps[k]'h.lt).v])∧Below w.heap.size w w':=by
 obtain⟨c0,c1,_,hbl,hgl,d0,d1,d2,d3⟩:=h.all
 have hlt:=h.lt
 generalize ps[k]'h.lt=t at *
 obtain⟨kd,at_,tx,v⟩:=t
 simp only at d0 d1 d2 d3 ⊢
 generalize ps.length=n at *
 clear h
 go_enter Tryz.func69,Tryz.ntmps69
 go_wp2
 go_region
 all_goals
  go_wp2
  exact bodyPost_ret (v:=.agg #[.int .i64 kd,.int .i64 at_,.string tx,.int .i64 v]) (by simp[results,Tryz.results69,go_sem]) rfl ⟨rfl,(by repeat first|exact Below.refl _ _|assumption|refine Below.alloc ?_ ?_ _|refine Below.setCell ?_ ?_ _|refine below_drewN' ?_ _|refine Below.drew ?_|omega|(simp;omega)|simp)⟩
theorem isMark_any(t:PTok)(s:ByteArray)(w:World) :
  Calls Tryz.prog 185 #[.agg #[.int .i64 t.kd,.int .i64 t.at_,.string t.tx,.int .i64 t.v],.string s] w fun e w'=>e=.returned (.bool (((t.kd:Int) == 3) && (t.tx.toList == s.toList)))∧Below w.heap.size w w':=by
 obtain⟨kd,at_,tx,v⟩:=t
 simp only
 generalize hk:((kd:Int) == 3)=x
 cases x
 ·go_enter Tryz.func185,Tryz.ntmps185
  go_wp2
  go_ret
  exact⟨rfl,(by repeat first|exact Below.refl _ _|assumption|refine Below.alloc ?_ ?_ _|refine Below.setCell ?_ ?_ _|refine below_drewN' ?_ _|refine Below.drew ?_|omega|(simp;omega)|simp)⟩
 ·go_enter Tryz.func185,Tryz.ntmps185
  go_wp2
  go_ret
  exact⟨rfl,(by repeat first|exact Below.refl _ _|assumption|refine Below.alloc ?_ ?_ _|refine Below.setCell ?_ ?_ _|refine below_drewN' ?_ _|refine Below.drew ?_|omega|(simp;omega)|simp)⟩
theorem isWord_any(t:PTok)(s:ByteArray)(w:World) :
  Calls Tryz.prog 192 #[.agg #[.int .i64 t.kd,.int .i64 t.at_,.string t.tx,.int .i64 t.v],.string s] w fun e w'=>e=.returned (.bool (((t.kd:Int) == 1) && (t.tx.toList == s.toList)))∧Below w.heap.size w w':=by
 obtain⟨kd,at_,tx,v⟩:=t
 simp only
 generalize hk:((kd:Int) == 1)=x
 cases x
 ·go_enter Tryz.func192,Tryz.ntmps192
  go_wp2
  go_ret
  exact⟨rfl,(by repeat first|exact Below.refl _ _|assumption|refine Below.alloc ?_ ?_ _|refine Below.setCell ?_ ?_ _|refine below_drewN' ?_ _|refine Below.drew ?_|omega|(simp;omega)|simp)⟩
 ·go_enter Tryz.func192,Tryz.ntmps192
  go_wp2
  go_ret
  exact⟨rfl,(by repeat first|exact Below.refl _ _|assumption|refine Below.alloc ?_ ?_ _|refine Below.setCell ?_ ?_ _|refine below_drewN' ?_ _|refine Below.drew ?_|omega|(simp;omega)|simp)⟩
def ErrAt(w:World)(v:Value)(at_:Int)(what:Addr):Prop:=∃fa:Nat,v=.iface 115 (.pointer (some ⟨fa,0,none⟩))∧w.heap[fa]?=some (.cells #[.string ⟨#[98,121,116,101]⟩,.int .i64 at_,.iface 491 (.pointer (some what))] 119 (0,0))
theorem ErrAt.below{w w':World}{v:Value}{at_:Int}{what:Addr}(h:ErrAt w v at_ what)(hb:Below w.heap.size w w'):ErrAt w' v at_ what:=by
 obtain⟨fa,h1,h2⟩:=h
 exact⟨fa,h1,(hb.block fa (Array.getElem?_eq_some_iff.1 h2).1).trans h2⟩
theorem atByte_any(i:Int)(what:Value)(w:World) :
  Calls Tryz.prog 126 #[.int .i64 i,.iface 491 what] w fun e w'=>e=.returned (.iface 115 (.pointer (some ⟨w.heap.size,0,none⟩)))∧w'=w.alloc (.cells #[.string ⟨#[98,121,116,101]⟩,.int .i64 i,.iface 491 what] 119):=by
 go_enter Tryz.func126,Tryz.ntmps126
 go_wp2
 go_ret
 exact⟨rfl,rfl⟩
set_option maxRecDepth 100000 in
set_option maxHeartbeats 1000000 in
theorem cannotStand_any{w:World}{b g cp:Nat}{ps:List PTok}{k:Nat}(h:RD w b g cp ps k){sy:Addr}(hsy:w.cell? ⟨1,0,none⟩=some (.iface 491 (.pointer (some sy)))) :
  Calls Tryz.prog 70 #[.pointer (some ⟨b,0,none⟩)] w fun e w'=>∃v,e=.returned v∧Hid (ErrAt w' v (ps[k]'h.lt).at_ sy)∧Below w.heap.size w w':=by
 have H:Hid (RD w b g cp ps k):=h
 have HD:Hid (RD w.drew b g cp ps k):=RD.below h ((Below.refl _ _).drew)
 have hgl:1<w.heap.size:=World.block_lt_of_cell? _ _ hsy
 obtain⟨t,ht⟩:∃t,t=ps[k]'h.lt:=⟨_,rfl⟩
 have HT:Hid (∀hh:k<ps.length,ps[k]'hh=t):=fun _=>ht.symm
 rw[←ht]
 clear ht h
 have hf:∀W:World,(Instr.field 167 (.agg #[.int .i64 t.kd,.int .i64 t.at_,.string t.tx,.int .i64 t.v]) 1).run Tryz.prog W=.ok (.int .i64 t.at_) W:=fun _=>rfl
 go_enter Tryz.func70,Tryz.ntmps70
 go_wp2
 go_region_with (first
   | (go_at_call 69
      refine(token_any HD.out).mono ?_
      rintro e w1 ⟨rfl,hb1⟩
      rw[HT.out]
      have HB1:Hid (Below w.heap.size w w1):=⟨hb1.os,hb1.tape,hb1.output,hb1.size,hb1.block⟩
      have hsy1:w1.cell? ⟨1,0,none⟩=some (.iface 491 (.pointer (some sy))):=(HB1.out.cell (p:=⟨_,0,none⟩) hgl).trans hsy
      clear hb1)
   | (go_at_call 126
      refine(atByte_any _ _ _).mono ?_
      rintro e w2 ⟨rfl,rfl⟩))
 all_goals
  go_wp2
  go_ret
  exact⟨_,rfl,⟨w1.heap.size,rfl,Go.Deep.blk_alloc_new _ _⟩,HB1.out.alloc HB1.out.size _⟩
def flatC:List (ByteArray×ByteArray×Bool)→List Value
 | []=>[]
 | (a,b,c)::l=>.string a::.string b::.bool c::flatC l
def blC(c:ByteArray×ByteArray×Bool):List UInt8×List UInt8×Bool:=(bl c.1,bl c.2.1,c.2.2)
theorem flatC_append(l m:List (ByteArray×ByteArray×Bool)):flatC (l++m)=flatC l++flatC m:=by
 induction l with
 | nil=>rfl
 | cons a l ih=>obtain⟨x,y,z⟩:=a;simp[flatC,ih]
theorem kindP_len{k:Nat}{ts:List Tok}{z:List UInt8×List Tok}(hk:k≠0)(h:kindP k ts=.ok z):z.2.length+1=ts.length∧z.1=(hd ts).txt∧z.2=ts.tail:=by
 unfold kindP at h
 split at h
 ·rename_i e
  injection h with h;subst h
  cases ts with
  | nil=>exact absurd e.symm hk
  | cons t r=>exact⟨rfl,rfl,rfl⟩
 ·cases h
theorem takeP_len{c:List UInt8}{ts:List Tok}{z:Unit×List Tok}(h:takeP c ts=.ok z):z.2.length+1=ts.length:=by
 unfold takeP at h
 split at h
 ·rename_i e
  injection h with h;subst h
  cases ts with
  | nil=>exact absurd (Or.inl rfl) (isT_live e)
  | cons t r=>rfl
 ·cases h
theorem isT_len{c:List UInt8}{ts:List Tok}(e:isT c (hd ts)=true):ts.tail.length+1=ts.length:=by
 cases ts with
 | nil=>exact absurd (Or.inl rfl) (isT_live e)
 | cons t r=>rfl
def LoopRel{α β:Type}(item:List Tok→Out α)(close:List UInt8)(f:β→α)(N:Nat)(ts0:List Tok)(qs:List β)(rr:Out Unit):Prop:=
 (∀e,rr=.error e→listP item close N [] ts0=.error e)∧(∀ts,rr=.ok ((),ts)→∃m,listP item close N [] ts0=listP item close m (qs.map f) ts∧ts.length+1≤m∧qs.length+ts.length≤ts0.length)∧qs.length≤ts0.length+1
theorem LoopRel.start{α β:Type}(item:List Tok→Out α)(close:List UInt8)(f:β→α)(N:Nat)(ts0:List Tok)(hN:ts0.length+1≤N):LoopRel item close f N ts0 [] (.ok ((),ts0)):=
 ⟨fun e h=>(nomatch h),fun ts h=>by injection h with h;injection h with _ h;subst h;exact⟨N,rfl,hN,by simp⟩,by simp⟩
theorem LoopRel.round{α β:Type}{item:List Tok→Out α}{close:List UInt8}{f:β→α}{N:Nat}{ts0 ts:List Tok}{qs:List β}{x:β}{r1 r4:Out Unit}(h:LoopRel item close f N ts0 qs (.ok ((),ts)))(hc:isT close (hd ts)=false)
  (h1:(if qs.isEmpty then .ok ((),ts)else takeP [44] ts)=r1) (h4:r4=bnd r1 fun _ t=>unitP (item t)) (hx:∀t z,r1=.ok ((),t)→item t=.ok z→f x=z.1) (hl:∀t z,item t=.ok z→z.2.length+1≤t.length):LoopRel item close f N ts0 (qs++[x]) r4:=by
 obtain⟨m,hL,hm,hq⟩:=h.2.1 ts rfl
 obtain⟨k,rfl⟩:∃k,m=k+1:=⟨m - 1,by omega⟩
 have hstep : listP item close N [] ts0 = bnd r1 fun _ r => bnd (item r) fun a r => listP item close k (qs.map f ++ [a]) r := by
   rw[hL]
   show(if isT close (hd ts)then _ else _)=_
   rw[hc,←h1]
   have:(qs.map f).isEmpty=qs.isEmpty:=by cases qs <;> rfl
   rw[this];rfl
 have hr1:∀t,r1=.ok ((),t)→t.length≤ts.length:=by
  intro t ht
  rw[ht]at h1
  split at h1
  ·injection h1 with h1;injection h1 with _ h1;subst h1;exact Nat.le_refl _
  ·have:=takeP_len h1;simp at this;omega
 subst h4
 refine⟨?_,?_,?_⟩
 ·intro e he
  cases hr:r1 with
  | error y=>rw[hr]at he hstep;injection he with he;rw[hstep,he];rfl
  | ok y=>
   obtain⟨⟨⟩,t⟩:=y
   rw[hr]at he hstep
   cases hi:item t with
   | error y=>rw[hstep];simp only[bnd,unitP,hi]at he ⊢;injection he with he;rw[he]
   | ok y=>simp[bnd,unitP,hi]at he
 ·intro t4 he
  cases hr:r1 with
  | error y=>rw[hr]at he;simp[bnd]at he
  | ok y=>
   obtain⟨⟨⟩,t⟩:=y
   have h5:=hr1 t hr
   have hx2:=fun z=>hx t z hr
   rw[hr]at he hstep
   cases hi:item t with
   | error y=>simp[bnd,unitP,hi]at he
   | ok y=>
    have h6:=hx2 y hi
    have h7:=hl t y hi
    simp only[bnd,unitP,hi]at he hstep
    injection he with he;injection he with _ he;subst he
    exact⟨k,by rw[hstep,List.map_append,←h6];rfl,by omega,by simp;omega⟩
 ·simp;omega
theorem LoopRel.done{α β:Type}{item:List Tok→Out α}{close:List UInt8}{f:β→α}{N:Nat}{ts0:List Tok}{qs:List β}{rr:Out Unit}(h:LoopRel item close f N ts0 qs rr)(hd:isR close rr=true∨∃e,rr=.error e) :
  unitP (listP item close N [] ts0)=(bnd rr fun _ ts=>takeP close ts)∧∀z,listP item close N [] ts0=.ok z→qs.map f=z.1:=by
 cases rr with
 | error e=>rw[h.1 e rfl];exact⟨rfl,fun z hz=>nomatch hz⟩
 | ok y=>
  obtain⟨⟨⟩,ts⟩:=y
  rcases hd with hd|⟨e,hd⟩
  ·obtain⟨m,hL,hm,hq⟩:=h.2.1 ts rfl
   obtain⟨k,rfl⟩:∃k,m=k+1:=⟨m - 1,by omega⟩
   have hd2:isT close (LS.hd ts)=true:=hd
   have e1:listP item close (k+1) (qs.map f) ts=.ok (qs.map f,ts.tail):=by
    show(if isT close (LS.hd ts)then _ else _)=_
    rw[hd2];rfl
   rw[hL,e1]
   refine⟨?_,fun z hz=>by injection hz with hz;subst hz;rfl⟩
   show _=takeP close ts
   unfold takeP;rw[hd2];rfl
  ·cases hd
theorem condP_len(t:List Tok)(z:(List UInt8×List UInt8×Bool)×List Tok)(h:condP t=.ok z):z.2.length+1≤t.length:=by
 unfold condP at h
 cases h1:kindP 2 t with
 | error e=>rw[h1]at h;cases h
 | ok y=>
  have l1:=(kindP_len (by decide) h1).1
  rw[h1]at h
  simp only[bnd]at h
  cases h2:signP y.2 with
  | error e=>rw[h2]at h;cases h
  | ok u=>
   have l2:u.2.length≤y.2.length:=by
    unfold signP at h2
    split at h2
    ·injection h2 with h2;subst h2;simp
    ·cases h3:takeP [61] y.2 with
     | error e=>rw[h3]at h2;cases h2
     | ok q=>rw[h3]at h2;injection h2 with h2;subst h2;have:=takeP_len h3;show q.2.length≤_;omega
   rw[h2]at h
   simp only at h
   cases h3:kindP 3 u.2 with
   | error e=>rw[h3]at h;cases h
   | ok q=>
    have l3:=(kindP_len (by decide) h3).1
    rw[h3]at h
    injection h with h;subst h
    show q.2.length+1≤_
    omega
theorem cond_steps {r1 : Out Unit} {x1 x2 : ByteArray} {v : Bool} (hv : isR [33, 61] (bnd r1 fun _ t => unitP (kindP 2 t)) = v) {r3 : Out Unit}
    (h3:r3=if v then (bnd (bnd r1 fun _ t=>unitP (kindP 2 t)) fun _ ts=>.ok ((),ts.tail))else bnd (bnd r1 fun _ t=>unitP (kindP 2 t)) fun _ ts=>takeP [61] ts)
    (hx1:∀y,r1=.ok y→∀z,kindP 2 y.2=.ok z→bl x1=z.1) (hx2:∀y,r3=.ok y→∀z,kindP 3 y.2=.ok z→bl x2=z.1) :
    (bnd r3 fun _ t=>unitP (kindP 3 t))=(bnd r1 fun _ t=>unitP (condP t))∧∀t z,r1=.ok ((),t)→condP t=.ok z→blC (x1,x2,v)=z.1:=by
  cases r1 with
  | error e=>
    have:v=false:=hv.symm
    subst this;subst h3
    exact⟨rfl,fun t z h=>nomatch h⟩
  | ok y=>
    obtain⟨⟨⟩,t⟩:=y
    cases h1:kindP 2 t with
    | error e=>
      simp only[bnd,unitP,h1]at hv h3
      have:v=false:=hv.symm
      subst this;subst h3
      refine⟨by simp[bnd,unitP,condP,h1],fun t2 z h hz=>?_⟩
      injection h with h;injection h with _ h;subst h
      simp[condP,h1,bnd]at hz
    | ok y=>
      have hx1':=hx1 _ rfl _ h1
      simp only[bnd,unitP,h1]at hv h3
      have hv2:isT [33,61] (hd y.2)=v:=hv
      have hs : signP y.2 = bnd r3 fun _ t => .ok (v, t) := by
        unfold signP
        rw[hv2,h3]
        cases v
        · rfl
        · rfl
      have hc : condP t = bnd r3 fun _ r => bnd (kindP 3 r) fun b r => .ok ((y.1, b, v), r) := by
        unfold condP
        rw[h1]
        show(bnd (signP y.2) fun n r=>bnd (kindP 3 r) fun b r=>.ok ((y.1,b,n),r))=_
        rw[hs]
        cases r3 with
        | error e=>rfl
        | ok u=>rfl
      refine⟨?_,fun t2 z h hz=>?_⟩
      · show _=unitP (condP t)
        rw[hc]
        cases r3 with
        | error e=>rfl
        | ok u=>
          show unitP (kindP 3 u.2)=unitP (bnd (kindP 3 u.2) fun b r=>.ok ((y.1,b,v),r))
          cases kindP 3 u.2 with
          | error e=>rfl
          | ok q=>rfl
      · injection h with h;injection h with _ h;subst h
        rw[hc]at hz
        cases hr3:r3 with
        | error e=>rw[hr3]at hz;cases hz
        | ok u=>
          rw[hr3]at hz
          have hz2:(bnd (kindP 3 u.2) fun b r=>(.ok ((y.1,b,v),r):Out (List UInt8×List UInt8×Bool)))=.ok z:=hz
          cases h4:kindP 3 u.2 with
          | error e=>rw[h4]at hz2;cases hz2
          | ok q=>
            have hx2':=hx2 u hr3 _ h4
            rw[h4]at hz2
            injection hz2 with hz2;subst hz2
            show(bl x1,bl x2,v)=(y.1,q.1,v)
            rw[hx1',hx2']
end Go.Proofs.YtkodhpilkaihjaaGreatDoor
