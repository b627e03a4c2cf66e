/- Parts. -/
import Derived.Test.YtkodhpilkaihjaaGreatDoorV08
import Derived.Test.YtkodhpilkaihjaaGreatDoorV09
import Derived.Deep.LoopGhost
namespace Go.Proofs.YtkodhpilkaihjaaGreatDoor
open Go.RowKit LS
def flatCo:List (ByteArray×ByteArray×Bool)→List Value
 | []=>[]
 | c::l=>.string c.1::.bool c.2.2::.string c.2.1::flatCo l
theorem flatCo_append(l m:List (ByteArray×ByteArray×Bool)):flatCo (l++m)=flatCo l++flatCo m:=by
 induction l with
 | nil=>rfl
 | cons a l ih=>simp[flatCo,ih]
def flatS(l:List ByteArray):List Value:=l.map .string
theorem flatS_append(l m:List ByteArray):flatS (l++m)=flatS l++flatS m:=List.map_append
def condB(c:ByteArray×ByteArray×Bool):List UInt8×List UInt8×Bool:=(bl c.1,bl c.2.1,c.2.2)
def NamesV(w:World)(v:Value)(ns:List (List UInt8)):Prop:=∃bs:List ByteArray,w.ownsRow 0 9 1 v bs.length (flatS bs)∧bs.map bl=ns
def CondsV(w:World)(v:Value)(cs:List (List UInt8×List UInt8×Bool)):Prop:=∃bs:List (ByteArray×ByteArray×Bool),w.ownsRow 0 379 3 v bs.length (flatCo bs)∧bs.map condB=cs
theorem Tryz.infoCondD:(Tryz.prog.info? 379).map (fun i=>(i.zero,i.size,i.bytes))=some (some (.agg #[.string ByteArray.empty,.bool false,.string ByteArray.empty]),3,40):=by kernel_rfl
theorem cells_new{W:World}{l:List Value}{t:TypeId}{n:Nat}(hn:W.heap.size=n):∀j x,l[j]?=some x→(W.alloc (.cells ⟨l⟩ t)).cell? ((⟨n,0,none⟩:Addr).add j)=some x:=by
 intro j x hj
 subst hn
 rw[add_zero_block]
 have h:=Go.Deep.blk_alloc_new W (.cells ⟨l⟩ t)
 simp only[World.cell?,h]
 simpa using hj
theorem own_zero{w:World}{base:Nat}{e:TypeId}{size:Nat}{v:Value}{n:Nat}{xs:List Value}(h:w.ownsRow base e size v n xs):w.ownsRow 0 e size v n xs:=by
 refine⟨h.1,?_⟩
 rcases h.2 with h2|⟨g,cap,cur,h,_,r⟩
 ·exact Or.inl h2
 ·exact Or.inr ⟨g,cap,cur,h,Nat.zero_le _,r⟩
theorem own_grown{w w':World}{base:Nat}{e:TypeId}{size:Nat}{v:Value}{n:Nat}{xs:List Value}(h:w.ownsRow base e size v n xs){b:Nat}(hg:w.grownBy w' (some b))(hb:b<base):w'.ownsRow base e size v n xs:=
 h.kept hg (Or.inr (fun q=>by have:=(h.lt b q).1;omega))
theorem grown_ownD{w0 w w':World}{b:Nat}{v:Value}(h:w0.grownBy w (some b))(hg:w.grownBy w' v.ownBlock)(hv:∀q,v.ownBlock=some q→w0.heap.size≤q):w0.grownBy w' (some b):=by
 refine⟨hg.os.trans h.os,hg.tape.trans h.tape,hg.output.trans h.output,Nat.le_trans h.size hg.size,?_⟩
 intro j hj hne
 rw[hg.block j (Nat.lt_of_lt_of_le hj h.size) (fun e=>by have:=hv j e.symm;omega),h.block j hj hne]
theorem RK.grown{w0 w w':World}{R:RS}{k0 k:Nat}{ts0 ts:List Tok}(h0:RK w0 R k0 ts0)(h:RK w R k ts){v:Value}(hg:w.grownBy w' v.ownBlock)(hv:∀q,v.ownBlock=some q→w0.heap.size≤q):RK w' R k ts:=by
 refine h.blocks (fun j hl hj=>hg.block j hl (fun e=>?_))
 have:=hv j e.symm
 have h1:=(Array.getElem?_eq_some_iff.1 h0.rd.cells).1
 have h2:=own_lt h0.rd.own
 have h3:=World.block_lt_of_cell? _ _ h0.sy
 have h4:=World.block_lt_of_cell? _ _ h0.dp
 have h3':1<w0.heap.size:=h3
 have h4':2<w0.heap.size:=h4
 rcases hj with rfl|rfl|rfl|rfl <;> omega
theorem listP_end{α:Type}{item:List Tok→Out α}{close:List UInt8}{m:Nat}{acc:List α}{ts:List Tok}(h:isT close (hd ts)=true):listP item close (m+1) acc ts=.ok (acc,ts.tail):=if_pos h
theorem listP_first {α : Type} {item : List Tok → Out α} {close : List UInt8} {m : Nat} {ts : List Tok} (h : isT close (hd ts) = false) : listP item close (m + 1) [] ts = bnd (item ts) fun a r => listP item close m [a] r := by
  show(if isT close (hd ts)=true then _ else _)=_
  rw[h];rfl
theorem listP_next {α : Type} {item : List Tok → Out α} {close : List UInt8} {m : Nat} {acc : List α} {ts : List Tok} (h : isT close (hd ts) = false) (ha : acc ≠ []) : listP item close (m + 1) acc ts = bnd (takeP [44] ts) fun _ r => bnd (item r) fun a r => listP item close m (acc ++ [a]) r := by
  show(if isT close (hd ts)=true then _ else _)=_
  rw[h]
  cases acc with
  | nil=>exact absurd rfl ha
  | cons a l=>rfl
theorem takeP_pos{s:List UInt8}{ts:List Tok}(h:isT s (hd ts)=true):takeP s ts=.ok ((),ts.tail):=if_pos h
theorem takeP_neg{s:List UInt8}{ts:List Tok}(h:¬isT s (hd ts)=true):takeP s ts=.error (2,(hd ts).at_):=if_neg h
theorem kindP_tail{k:Nat}{ts:List Tok}{a:List UInt8}{r:List Tok}(h:kindP k ts=.ok (a,r)):r=ts.tail:=by
 unfold kindP at h
 split at h
 ·cases h;rfl
 ·cases h
theorem condP_tail{ts:List Tok}{a:List UInt8×List UInt8×Bool}{r:List Tok}(h:condP ts=.ok (a,r)):r.length≤ts.tail.length:=by
 have:=condP_len ts (a,r) h
 simp only[List.length_tail]at *
 omega
theorem RK.pos{w:World}{R:RS}{k:Nat}{ts:List Tok}(h:RK w R k ts):0<ts.length:=h.wf.head.2.1
set_option maxRecDepth 100000 in
set_option maxHeartbeats 4000000 in
theorem listNames_t {w : World} {R : RS} {k : Nat} {ts : List Tok} (h : RK w R k ts) (op cl : ByteArray) (hop : (bl op).all (fun c => !letter c) = true ∧ bl op ≠ []) (hcl : (bl cl).all (fun c => !letter c) = true ∧ bl cl ≠ []) :
    Calls Tryz.prog 235 #[.pointer (some ⟨R.b,0,none⟩),.string op,.string cl,.func (.func 236) #[] #[]] w fun e w'=>∃(la:Option Addr) (ln lc:Nat) (v:Value),e=.returned (.tuple #[.slice la ln lc,v])∧Hid (Res R (fun w' ns=>NamesV w' (.slice la ln lc) ns) w' (bnd (takeP (bl op) ts) fun _ r=>listP (kindP 2) (bl cl) (r.length+1) [] r) v)∧w.grownBy w' (some R.b):=by
  have H:Hid (RK w R k ts):=h
  have hbl:R.b<w.heap.size:=(Array.getElem?_eq_some_iff.1 h.rd.cells).1
  obtain⟨i0,hi,hz0,hz1,hz2⟩:=info_parts Tryz.infoStr
  have HOP:Hid ((bl op).all (fun c=>!letter c)=true∧bl op≠[]):=hop
  have HCL:Hid ((bl cl).all (fun c=>!letter c)=true∧bl cl≠[]):=hcl
  clear h hop hcl
  obtain⟨PL,hPL⟩:∃PL:Out (List (List UInt8)),PL=bnd (takeP (bl op) ts) fun _ r=>listP (kindP 2) (bl cl) (r.length+1) [] r:=⟨_,rfl⟩
  rw[←hPL]
  have HPL0:Hid (PL=bnd (takeP (bl op) ts) fun _ r=>listP (kindP 2) (bl cl) (r.length+1) [] r):=hPL
  clear hPL
  go_enter Tryz.func235,Tryz.ntmps235
  go_wp2_with fail
  refine(takeMark_t H.out op HOP.out.1 HOP.out.2).mono ?_
  rintro e w1 ⟨v,rfl,hres,hg⟩
  have HG1:Hid (w.grownBy w1 (some R.b)):=hg
  clear hg
  by_cases h1:isT (bl op) (hd ts)=true
  · rw[takeP_pos h1]at hres
    have HPL:Hid (listP (kindP 2) (bl cl) (ts.tail.length+1) [] ts.tail=PL):=hid (by rw[HPL0.out,takeP_pos h1];rfl)
    obtain⟨rfl,⟨k1,hk1⟩,_⟩:=hres.out
    have HK1:Hid (RK w1 R k1 ts.tail):=hk1
    clear hres hk1 h1
    obtain⟨r0,hr0⟩:∃r0,r0=ts.tail:=⟨_,rfl⟩
    rw[←hr0]at HK1 HPL
    clear hr0
    go_wp2
    go_loopg [11] r0.length (fun g v11 wr=>∃(bs:List ByteArray) (r:List Tok) (k2 n:Nat),g=r.length∧Hid (RK wr R k2 r)∧Hid (wr.ownsRow w.heap.size 9 1 v11 bs.length (flatS bs))∧Hid (r.length<n∧bs.length+r.length≤302∧listP (kindP 2) (bl cl) n (bs.map bl) r=PL)∧Hid (w.grownBy wr (some R.b)))
    case atStart=>exact⟨[],r0,k1,r0.length+1,rfl,HK1,World.ownsRow_nil _ _ _ _,⟨by omega,by have:=HK1.out.size;have:=HK1.out.len;simp;omega,HPL.out⟩,HG1⟩
    case round=>
      obtain⟨bs,r,k2,n,hgr,HK,HO,HN,HG⟩:=hrel
      clear HK1 HG1 HPL
      obtain⟨m,rfl⟩:∃m,n=m+1:=⟨n - 1,by have:=HN.out.1;omega⟩
      obtain⟨av,cp,hv⟩:=own_shape HO.out
      subst hv
      go_wp2_with fail
      refine(token_t HK.out).mono ?_
      rintro e w2 ⟨⟨kd,at_,tx,tv⟩,rfl,ht,hb2⟩
      have HK2:Hid (RK w2 R k2 r):=HK.out.below hb2
      have HO2:=hid (own_below HO.out hb2)
      have HG2:Hid (w.grownBy w2 (some R.b)):=grown_trans HG.out (grown_of_below hb2)
      clear hb2 HK HO HG
      go_wp2_with fail
      refine(isMark_t ht.out HK2.out.wf.head.1 HK2.out.wf.head.2.2 cl HCL.out.1 HCL.out.2 w2).mono ?_
      rintro e w3 ⟨rfl,hb3⟩
      have HK3:Hid (RK w3 R k2 r):=HK2.out.below hb3
      have HO3:=hid (own_below HO2.out hb3)
      have HG3:Hid (w.grownBy w3 (some R.b)):=grown_trans HG2.out (grown_of_below hb3)
      clear hb3 HK2 HO2 HG2 ht
      by_cases hc:isT (bl cl) (hd r)=true
      · rw[hc]
        have HPL:Hid (PL=.ok (bs.map bl,r.tail)):=hid (by rw[←HN.out.2.2,listP_end hc])
        have HTP:Hid (takeP (bl cl) r=.ok ((),r.tail)):=takeP_pos hc
        clear hc
        go_wp2_with fail
        refine(takeMark_t HK3.out cl HCL.out.1 HCL.out.2).mono ?_
        rintro e w4 ⟨v,rfl,hres,hg4⟩
        rw[HTP.out]at hres
        obtain⟨rfl,hk4,_⟩:=hres.out
        have HKX:Hid (∃k,RK w4 R k r.tail):=hk4
        have HO4:=hid (own_grown HO3.out hg4 hbl)
        have HG4:Hid (w.grownBy w4 (some R.b)):=grown_trans HG3.out hg4
        clear hres hk4 hg4
        go_wp2
        go_ret2
        exact⟨_,_,_,_,rfl,by rw[HPL.out];exact⟨rfl,HKX.out,bs,own_zero HO4.out,rfl⟩,HG4.out⟩
      · have hc':isT (bl cl) (hd r)=false:=Bool.eq_false_iff.2 hc
        rw[hc']
        by_cases hb:bs=[]
        · subst hb
          have HPL:Hid ((bnd ((kindP 2) r) fun a z=>listP (kindP 2) (bl cl) m [a] z)=PL):=hid (by rw[←HN.out.2.2];exact(listP_first hc').symm)
          have hl0:([]:List ByteArray).length=0:=rfl
          clear hc hc'
          go_wp2_with fail
          refine(takeName_t HK3.out).mono ?_
          rintro e w5 ⟨x,v,rfl,hres,hg5⟩
          have HO5:=hid (own_grown HO3.out hg5 hbl)
          have HG5:Hid (w.grownBy w5 (some R.b)):=grown_trans HG3.out hg5
          clear hg5
          cases hit:(kindP 2) r with
          | error er=>
            rw[hit]at hres
            obtain⟨fa,rfl⟩:=hres.out.shape
            have HE:Hid (ErrIs w5 R er _):=hres.out
            have HP2:Hid (PL=.error er):=hid (by rw[←HPL.out,hit];rfl)
            clear hres hit
            go_wp2
            go_ret2
            exact⟨_,_,_,_,rfl,by rw[HP2.out];exact HE,HG5.out⟩
          | ok pr=>
            obtain⟨a,y⟩:=pr
            rw[hit]at hres
            obtain⟨rfl,⟨k5,hk5⟩,hx⟩:=hres.out
            have HX:Hid (bl x=a):=hx
            have HK5:Hid (RK w5 R k5 y):=hk5
            have hlen:y.length≤(r).tail.length:=(fun h=>by rw[kindP_tail h];exact Nat.le_refl _) hit
            have hy:y.length<r.length:=by have h9:=HK3.out.pos;simp only[List.length_tail]at hlen;omega
            have HP2:Hid (listP (kindP 2) (bl cl) m (([]++[x]).map bl) y=PL):=hid (by rw[←HPL.out,hit,List.map_append];rw[←HX.out];rfl)
            have hnn:=HN.out.2.1
            have hmm:=HN.out.1
            clear hres hk5 hx hit hlen
            go_wp2_with (at_builtin;refine wpList_append_own _ rfl (.tmp 43) (.tmp 45) 90 rfl w.heap.size 9 i0 (.string ByteArray.empty) 1 16 Tryz.underlying90 hi hz0 hz1 hz2 rfl (by decide) _ _ _ rfl (HO5.out.alloc _) ⟨w5.heap.size,0,none⟩ 1 1 [.string x] rfl rfl ?c1 ?c2 ?c3 ?c4 ?c5 ?_)
            case c1=>exact cells_new rfl
            case c2=>intro u hu;simp at hu;rw[hu];rfl
            case c3=>unfold maxLen;omega
            case c4=>omega
            case c5=>simp;have:=HG5.out.size;omega
            intro v' w6 hown6 hgrow _
            have HG6:Hid (w.grownBy w6 (some R.b)):=hid (grown_ownD (grown_alloc HG5.out _) hgrow (fun q hq=>(HO5.out.lt q hq).1))
            have HK6:Hid (RK w6 R k5 y):=hid (RK.grown H.out (HK5.out.below ((Below.refl _ _).alloc (Nat.le_refl _) _)) hgrow (fun q hq=>(HO5.out.lt q hq).1))
            have HO6:Hid (w6.ownsRow w.heap.size 9 1 v' ([]++[x]).length (flatS ([]++[x]))):=hid (by rw[flatS_append,List.length_append];exact hown6)
            clear hown6 hgrow
            go_wp2
            go_roundg y.length
            case measure=>omega
            case rel=>exact⟨_,y,k5,m,rfl,HK6,HO6,⟨by omega,by simp;omega,HP2.out⟩,HG6⟩
        · have hbl0:0<bs.length:=List.length_pos_iff.2 hb
          have HPL:Hid ((bnd (takeP [44] r) fun _ z=>bnd ((kindP 2) z) fun a y=>listP (kindP 2) (bl cl) m (bs.map bl++[a]) y)=PL):=hid (by rw[←HN.out.2.2];exact(listP_next hc' (by simpa using hb)).symm)
          clear hc hc' hb
          go_wp2_with fail
          refine(takeMark_t HK3.out ⟨#[44]⟩ (by decide) (by decide)).mono ?_
          rintro e w4 ⟨v,rfl,hres,hg4⟩
          have HO4:=hid (own_grown HO3.out hg4 hbl)
          have HG4:Hid (w.grownBy w4 (some R.b)):=grown_trans HG3.out hg4
          clear hg4
          by_cases hcm:isT [44] (hd r)=true
          · rw[show takeP (bl ⟨#[44]⟩) r=.ok ((),r.tail) from takeP_pos hcm]at hres
            obtain⟨rfl,⟨k4,hk4⟩,_⟩:=hres.out
            have HK4:Hid (RK w4 R k4 r.tail):=hk4
            have HPL2:Hid ((bnd ((kindP 2) r.tail) fun a y=>listP (kindP 2) (bl cl) m (bs.map bl++[a]) y)=PL):=hid (by rw[←HPL.out,takeP_pos hcm];rfl)
            clear hres hk4 hcm HPL HK3 HO3 HG3
            go_wp2_with fail
            refine(takeName_t HK4.out).mono ?_
            rintro e w5 ⟨x,v,rfl,hres,hg5⟩
            have HO5:=hid (own_grown HO4.out hg5 hbl)
            have HG5:Hid (w.grownBy w5 (some R.b)):=grown_trans HG4.out hg5
            clear hg5
            cases hit:(kindP 2) r.tail with
            | error er=>
              rw[hit]at hres
              obtain⟨fa,rfl⟩:=hres.out.shape
              have HE:Hid (ErrIs w5 R er _):=hres.out
              have HP2:Hid (PL=.error er):=hid (by rw[←HPL2.out,hit];rfl)
              clear hres hit
              go_wp2
              go_ret2
              exact⟨_,_,_,_,rfl,by rw[HP2.out];exact HE,HG5.out⟩
            | ok pr=>
              obtain⟨a,y⟩:=pr
              rw[hit]at hres
              obtain⟨rfl,⟨k5,hk5⟩,hx⟩:=hres.out
              have HX:Hid (bl x=a):=hx
              have HK5:Hid (RK w5 R k5 y):=hk5
              have hlen:y.length≤(r.tail).tail.length:=(fun h=>by rw[kindP_tail h];exact Nat.le_refl _) hit
              have hy:y.length<r.length:=by have h9:=HK4.out.pos;simp only[List.length_tail]at h9 hlen;omega
              have HP2:Hid (listP (kindP 2) (bl cl) m ((bs++[x]).map bl) y=PL):=hid (by rw[←HPL2.out,hit,List.map_append];rw[←HX.out];rfl)
              have hnn:=HN.out.2.1
              have hmm:=HN.out.1
              clear hres hk5 hx hit hlen
              go_wp2_with (at_builtin;refine wpList_append_own _ rfl (.tmp 43) (.tmp 45) 90 rfl w.heap.size 9 i0 (.string ByteArray.empty) 1 16 Tryz.underlying90 hi hz0 hz1 hz2 rfl (by decide) _ _ _ rfl (HO5.out.alloc _) ⟨w5.heap.size,0,none⟩ 1 1 [.string x] rfl rfl ?c1 ?c2 ?c3 ?c4 ?c5 ?_)
              case c1=>exact cells_new rfl
              case c2=>intro u hu;simp at hu;rw[hu];rfl
              case c3=>unfold maxLen;omega
              case c4=>omega
              case c5=>simp;have:=HG5.out.size;omega
              intro v' w6 hown6 hgrow _
              have HG6:Hid (w.grownBy w6 (some R.b)):=hid (grown_ownD (grown_alloc HG5.out _) hgrow (fun q hq=>(HO5.out.lt q hq).1))
              have HK6:Hid (RK w6 R k5 y):=hid (RK.grown H.out (HK5.out.below ((Below.refl _ _).alloc (Nat.le_refl _) _)) hgrow (fun q hq=>(HO5.out.lt q hq).1))
              have HO6:Hid (w6.ownsRow w.heap.size 9 1 v' (bs++[x]).length (flatS (bs++[x]))):=hid (by rw[flatS_append,List.length_append];exact hown6)
              clear hown6 hgrow
              go_wp2
              go_roundg y.length
              case measure=>omega
              case rel=>exact⟨_,y,k5,m,rfl,HK6,HO6,⟨by omega,by simp;omega,HP2.out⟩,HG6⟩
          · rw[show takeP (bl ⟨#[44]⟩) r=.error (2,(hd r).at_) from takeP_neg hcm]at hres
            obtain⟨fa,rfl⟩:=hres.out.shape
            have HE:Hid (ErrIs w4 R (2,(hd r).at_) _):=hres.out
            have HP2:Hid (PL=.error (2,(hd r).at_)):=hid (by rw[←HPL.out,takeP_neg hcm];rfl)
            clear hres
            go_wp2
            go_ret2
            exact⟨_,_,_,_,rfl,by rw[HP2.out];exact HE,HG4.out⟩
  · rw[takeP_neg h1]at hres
    have HP2:Hid (PL=.error (2,(hd ts).at_)):=hid (by rw[HPL0.out,takeP_neg h1];rfl)
    obtain⟨fa,rfl⟩:=hres.out.shape
    have HE:Hid (ErrIs w1 R (2,(hd ts).at_) _):=hres.out
    clear hres
    go_wp2
    go_ret2
    exact⟨_,_,_,_,rfl,by rw[HP2.out];exact HE,HG1.out⟩
set_option maxRecDepth 100000 in
set_option maxHeartbeats 4000000 in
theorem listConds_t {w : World} {R : RS} {k : Nat} {ts : List Tok} (h : RK w R k ts) (op cl : ByteArray) (hop : (bl op).all (fun c => !letter c) = true ∧ bl op ≠ []) (hcl : (bl cl).all (fun c => !letter c) = true ∧ bl cl ≠ []) :
    Calls Tryz.prog 239 #[.pointer (some ⟨R.b,0,none⟩),.string op,.string cl,.func (.func 240) #[] #[]] w fun e w'=>∃(la:Option Addr) (ln lc:Nat) (v:Value),e=.returned (.tuple #[.slice la ln lc,v])∧Hid (Res R (fun w' ns=>CondsV w' (.slice la ln lc) ns) w' (bnd (takeP (bl op) ts) fun _ r=>listP condP (bl cl) (r.length+1) [] r) v)∧w.grownBy w' (some R.b):=by
  have H:Hid (RK w R k ts):=h
  have hbl:R.b<w.heap.size:=(Array.getElem?_eq_some_iff.1 h.rd.cells).1
  obtain⟨i0,hi,hz0,hz1,hz2⟩:=info_parts Tryz.infoCondD
  have HOP:Hid ((bl op).all (fun c=>!letter c)=true∧bl op≠[]):=hop
  have HCL:Hid ((bl cl).all (fun c=>!letter c)=true∧bl cl≠[]):=hcl
  clear h hop hcl
  obtain⟨PL,hPL⟩:∃PL:Out (List (List UInt8×List UInt8×Bool)),PL=bnd (takeP (bl op) ts) fun _ r=>listP condP (bl cl) (r.length+1) [] r:=⟨_,rfl⟩
  rw[←hPL]
  have HPL0:Hid (PL=bnd (takeP (bl op) ts) fun _ r=>listP condP (bl cl) (r.length+1) [] r):=hPL
  clear hPL
  go_enter Tryz.func239,Tryz.ntmps239
  go_wp2_with fail
  refine(takeMark_t H.out op HOP.out.1 HOP.out.2).mono ?_
  rintro e w1 ⟨v,rfl,hres,hg⟩
  have HG1:Hid (w.grownBy w1 (some R.b)):=hg
  clear hg
  by_cases h1:isT (bl op) (hd ts)=true
  · rw[takeP_pos h1]at hres
    have HPL:Hid (listP condP (bl cl) (ts.tail.length+1) [] ts.tail=PL):=hid (by rw[HPL0.out,takeP_pos h1];rfl)
    obtain⟨rfl,⟨k1,hk1⟩,_⟩:=hres.out
    have HK1:Hid (RK w1 R k1 ts.tail):=hk1
    clear hres hk1 h1
    obtain⟨r0,hr0⟩:∃r0,r0=ts.tail:=⟨_,rfl⟩
    rw[←hr0]at HK1 HPL
    clear hr0
    go_wp2
    go_loopg [11] r0.length (fun g v11 wr=>∃(bs:List (ByteArray×ByteArray×Bool)) (r:List Tok) (k2 n:Nat),g=r.length∧Hid (RK wr R k2 r)∧Hid (wr.ownsRow w.heap.size 379 3 v11 bs.length (flatCo bs))∧Hid (r.length<n∧bs.length+r.length≤302∧listP condP (bl cl) n (bs.map condB) r=PL)∧Hid (w.grownBy wr (some R.b)))
    case atStart=>exact⟨[],r0,k1,r0.length+1,rfl,HK1,World.ownsRow_nil _ _ _ _,⟨by omega,by have:=HK1.out.size;have:=HK1.out.len;simp;omega,HPL.out⟩,HG1⟩
    case round=>
      obtain⟨bs,r,k2,n,hgr,HK,HO,HN,HG⟩:=hrel
      clear HK1 HG1 HPL
      obtain⟨m,rfl⟩:∃m,n=m+1:=⟨n - 1,by have:=HN.out.1;omega⟩
      obtain⟨av,cp,hv⟩:=own_shape HO.out
      subst hv
      go_wp2_with fail
      refine(token_t HK.out).mono ?_
      rintro e w2 ⟨⟨kd,at_,tx,tv⟩,rfl,ht,hb2⟩
      have HK2:Hid (RK w2 R k2 r):=HK.out.below hb2
      have HO2:=hid (own_below HO.out hb2)
      have HG2:Hid (w.grownBy w2 (some R.b)):=grown_trans HG.out (grown_of_below hb2)
      clear hb2 HK HO HG
      go_wp2_with fail
      refine(isMark_t ht.out HK2.out.wf.head.1 HK2.out.wf.head.2.2 cl HCL.out.1 HCL.out.2 w2).mono ?_
      rintro e w3 ⟨rfl,hb3⟩
      have HK3:Hid (RK w3 R k2 r):=HK2.out.below hb3
      have HO3:=hid (own_below HO2.out hb3)
      have HG3:Hid (w.grownBy w3 (some R.b)):=grown_trans HG2.out (grown_of_below hb3)
      clear hb3 HK2 HO2 HG2 ht
      by_cases hc:isT (bl cl) (hd r)=true
      · rw[hc]
        have HPL:Hid (PL=.ok (bs.map condB,r.tail)):=hid (by rw[←HN.out.2.2,listP_end hc])
        have HTP:Hid (takeP (bl cl) r=.ok ((),r.tail)):=takeP_pos hc
        clear hc
        go_wp2_with fail
        refine(takeMark_t HK3.out cl HCL.out.1 HCL.out.2).mono ?_
        rintro e w4 ⟨v,rfl,hres,hg4⟩
        rw[HTP.out]at hres
        obtain⟨rfl,hk4,_⟩:=hres.out
        have HKX:Hid (∃k,RK w4 R k r.tail):=hk4
        have HO4:=hid (own_grown HO3.out hg4 hbl)
        have HG4:Hid (w.grownBy w4 (some R.b)):=grown_trans HG3.out hg4
        clear hres hk4 hg4
        go_wp2
        go_ret2
        exact⟨_,_,_,_,rfl,by rw[HPL.out];exact⟨rfl,HKX.out,bs,own_zero HO4.out,rfl⟩,HG4.out⟩
      · have hc':isT (bl cl) (hd r)=false:=Bool.eq_false_iff.2 hc
        rw[hc']
        by_cases hb:bs=[]
        · subst hb
          have HPL:Hid ((bnd (condP r) fun a z=>listP condP (bl cl) m [a] z)=PL):=hid (by rw[←HN.out.2.2];exact(listP_first hc').symm)
          have hl0:([]:List (ByteArray×ByteArray×Bool)).length=0:=rfl
          clear hc hc'
          go_wp2_with fail
          refine(condition_t HK3.out).mono ?_
          rintro e w5 ⟨x,ng,z,v,rfl,hres,hg5⟩
          have HO5:=hid (own_grown HO3.out hg5 hbl)
          have HG5:Hid (w.grownBy w5 (some R.b)):=grown_trans HG3.out hg5
          clear hg5
          cases hit:condP r with
          | error er=>
            rw[hit]at hres
            obtain⟨fa,rfl⟩:=hres.out.shape
            have HE:Hid (ErrIs w5 R er _):=hres.out
            have HP2:Hid (PL=.error er):=hid (by rw[←HPL.out,hit];rfl)
            clear hres hit
            go_wp2
            go_ret2
            exact⟨_,_,_,_,rfl,by rw[HP2.out];exact HE.out.below ((Below.refl _ _).alloc (Nat.le_refl _) _),grown_alloc HG5.out _⟩
          | ok pr=>
            obtain⟨a,y⟩:=pr
            rw[hit]at hres
            obtain⟨rfl,⟨k5,hk5⟩,hx⟩:=hres.out
            have HX:Hid (condB (x,z,ng)=a):=hid (by unfold condB;simp only[hx.1,hx.2.1,hx.2.2])
            have HK5:Hid (RK w5 R k5 y):=hk5
            have hlen:y.length≤(r).tail.length:=condP_tail hit
            have hy:y.length<r.length:=by have h9:=HK3.out.pos;simp only[List.length_tail]at hlen;omega
            have HP2:Hid (listP condP (bl cl) m (([]++[(x,z,ng)]).map condB) y=PL):=hid (by rw[←HPL.out,hit,List.map_append];rw[←HX.out];rfl)
            have hnn:=HN.out.2.1
            have hmm:=HN.out.1
            clear hres hk5 hx hit hlen
            go_wp2_with (at_builtin;refine wpList_append_own _ rfl (.tmp 43) (.tmp 45) 279 rfl w.heap.size 379 i0 (.agg #[.string ByteArray.empty,.bool false,.string ByteArray.empty]) 3 40 Tryz.underlying279 hi hz0 hz1 hz2 rfl (by decide) _ _ _ rfl ((HO5.out.alloc _).alloc _) ⟨w5.heap.size+1,0,none⟩ 1 1 [.string x,.bool ng,.string z] rfl rfl ?c1 ?c2 ?c3 ?c4 ?c5 ?_)
            case c1=>exact cells_new (by simp)
            case c2=>intro u hu;simp at hu;rcases hu with rfl|rfl|rfl <;> rfl
            case c3=>unfold maxLen;omega
            case c4=>omega
            case c5=>simp;have:=HG5.out.size;omega
            intro v' w6 hown6 hgrow _
            have HG6:Hid (w.grownBy w6 (some R.b)):=hid (grown_ownD (grown_alloc (grown_alloc HG5.out _) _) hgrow (fun q hq=>(HO5.out.lt q hq).1))
            have HK6:Hid (RK w6 R k5 y):=hid (RK.grown H.out (HK5.out.below (((Below.refl _ _).alloc (Nat.le_refl _) _).alloc (by simp) _)) hgrow (fun q hq=>(HO5.out.lt q hq).1))
            have HO6:Hid (w6.ownsRow w.heap.size 379 3 v' ([]++[(x,z,ng)]).length (flatCo ([]++[(x,z,ng)]))):=hid (by rw[flatCo_append,List.length_append];exact hown6)
            clear hown6 hgrow
            go_wp2
            go_roundg y.length
            case measure=>omega
            case rel=>exact⟨_,y,k5,m,rfl,HK6,HO6,⟨by omega,by simp;omega,HP2.out⟩,HG6⟩
        · have hbl0:0<bs.length:=List.length_pos_iff.2 hb
          have HPL:Hid ((bnd (takeP [44] r) fun _ z=>bnd (condP z) fun a y=>listP condP (bl cl) m (bs.map condB++[a]) y)=PL):=hid (by rw[←HN.out.2.2];exact(listP_next hc' (by simpa using hb)).symm)
          clear hc hc' hb
          go_wp2_with fail
          refine(takeMark_t HK3.out ⟨#[44]⟩ (by decide) (by decide)).mono ?_
          rintro e w4 ⟨v,rfl,hres,hg4⟩
          have HO4:=hid (own_grown HO3.out hg4 hbl)
          have HG4:Hid (w.grownBy w4 (some R.b)):=grown_trans HG3.out hg4
          clear hg4
          by_cases hcm:isT [44] (hd r)=true
          · rw[show takeP (bl ⟨#[44]⟩) r=.ok ((),r.tail) from takeP_pos hcm]at hres
            obtain⟨rfl,⟨k4,hk4⟩,_⟩:=hres.out
            have HK4:Hid (RK w4 R k4 r.tail):=hk4
            have HPL2:Hid ((bnd (condP r.tail) fun a y=>listP condP (bl cl) m (bs.map condB++[a]) y)=PL):=hid (by rw[←HPL.out,takeP_pos hcm];rfl)
            clear hres hk4 hcm HPL HK3 HO3 HG3
            go_wp2_with fail
            refine(condition_t HK4.out).mono ?_
            rintro e w5 ⟨x,ng,z,v,rfl,hres,hg5⟩
            have HO5:=hid (own_grown HO4.out hg5 hbl)
            have HG5:Hid (w.grownBy w5 (some R.b)):=grown_trans HG4.out hg5
            clear hg5
            cases hit:condP r.tail with
            | error er=>
              rw[hit]at hres
              obtain⟨fa,rfl⟩:=hres.out.shape
              have HE:Hid (ErrIs w5 R er _):=hres.out
              have HP2:Hid (PL=.error er):=hid (by rw[←HPL2.out,hit];rfl)
              clear hres hit
              go_wp2
              go_ret2
              exact⟨_,_,_,_,rfl,by rw[HP2.out];exact HE.out.below ((Below.refl _ _).alloc (Nat.le_refl _) _),grown_alloc HG5.out _⟩
            | ok pr=>
              obtain⟨a,y⟩:=pr
              rw[hit]at hres
              obtain⟨rfl,⟨k5,hk5⟩,hx⟩:=hres.out
              have HX:Hid (condB (x,z,ng)=a):=hid (by unfold condB;simp only[hx.1,hx.2.1,hx.2.2])
              have HK5:Hid (RK w5 R k5 y):=hk5
              have hlen:y.length≤(r.tail).tail.length:=condP_tail hit
              have hy:y.length<r.length:=by have h9:=HK4.out.pos;simp only[List.length_tail]at h9 hlen;omega
              have HP2:Hid (listP condP (bl cl) m ((bs++[(x,z,ng)]).map condB) y=PL):=hid (by rw[←HPL2.out,hit,List.map_append];rw[←HX.out];rfl)
              have hnn:=HN.out.2.1
              have hmm:=HN.out.1
              clear hres hk5 hx hit hlen
              go_wp2_with (at_builtin;refine wpList_append_own _ rfl (.tmp 43) (.tmp 45) 279 rfl w.heap.size 379 i0 (.agg #[.string ByteArray.empty,.bool false,.string ByteArray.empty]) 3 40 Tryz.underlying279 hi hz0 hz1 hz2 rfl (by decide) _ _ _ rfl ((HO5.out.alloc _).alloc _) ⟨w5.heap.size+1,0,none⟩ 1 1 [.string x,.bool ng,.string z] rfl rfl ?c1 ?c2 ?c3 ?c4 ?c5 ?_)
              case c1=>exact cells_new (by simp)
              case c2=>intro u hu;simp at hu;rcases hu with rfl|rfl|rfl <;> rfl
              case c3=>unfold maxLen;omega
              case c4=>omega
              case c5=>simp;have:=HG5.out.size;omega
              intro v' w6 hown6 hgrow _
              have HG6:Hid (w.grownBy w6 (some R.b)):=hid (grown_ownD (grown_alloc (grown_alloc HG5.out _) _) hgrow (fun q hq=>(HO5.out.lt q hq).1))
              have HK6:Hid (RK w6 R k5 y):=hid (RK.grown H.out (HK5.out.below (((Below.refl _ _).alloc (Nat.le_refl _) _).alloc (by simp) _)) hgrow (fun q hq=>(HO5.out.lt q hq).1))
              have HO6:Hid (w6.ownsRow w.heap.size 379 3 v' (bs++[(x,z,ng)]).length (flatCo (bs++[(x,z,ng)]))):=hid (by rw[flatCo_append,List.length_append];exact hown6)
              clear hown6 hgrow
              go_wp2
              go_roundg y.length
              case measure=>omega
              case rel=>exact⟨_,y,k5,m,rfl,HK6,HO6,⟨by omega,by simp;omega,HP2.out⟩,HG6⟩
          · rw[show takeP (bl ⟨#[44]⟩) r=.error (2,(hd r).at_) from takeP_neg hcm]at hres
            obtain⟨fa,rfl⟩:=hres.out.shape
            have HE:Hid (ErrIs w4 R (2,(hd r).at_) _):=hres.out
            have HP2:Hid (PL=.error (2,(hd r).at_)):=hid (by rw[←HPL.out,takeP_neg hcm];rfl)
            clear hres
            go_wp2
            go_ret2
            exact⟨_,_,_,_,rfl,by rw[HP2.out];exact HE,HG4.out⟩
  · rw[takeP_neg h1]at hres
    have HP2:Hid (PL=.error (2,(hd ts).at_)):=hid (by rw[HPL0.out,takeP_neg h1];rfl)
    obtain⟨fa,rfl⟩:=hres.out.shape
    have HE:Hid (ErrIs w1 R (2,(hd ts).at_) _):=hres.out
    clear hres
    go_wp2
    go_ret2
    exact⟨_,_,_,_,rfl,by rw[HP2.out];exact HE,HG1.out⟩
end Go.Proofs.YtkodhpilkaihjaaGreatDoor
