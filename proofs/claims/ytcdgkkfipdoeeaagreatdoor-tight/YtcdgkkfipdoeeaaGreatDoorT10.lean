/- Parts. -/
import Derived.Test.YtcdgkkfipdoeeaaGreatDoorT04
import Derived.Test.YtcdgkkfipdoeeaaGreatDoorT09
import Derived.Deep.LoopGhost
set_option maxRecDepth 100000
set_option maxHeartbeats 4000000
namespace Go.Proofs.YtcdgkkfipdoeeaaGreatDoor
open Go.RowKit LS
def ZbL:List (ByteArray×ByteArray×Bool)->List Value
 | []=>[]
 | c::l=>.string c.1::.bool c.2.2::.string c.2.1::ZbL l
theorem Zm6(l m:List (ByteArray×ByteArray×Bool)):ZbL (l++m)=ZbL l++ZbL m:=by
 induction l with
 | nil=>rfl
 | cons a l ih=>simp[ZbL,ih]
def Zbb(l:List ByteArray):List Value:=l.map .string
theorem ZhL(l m:List ByteArray):Zbb (l++m)=Zbb l++Zbb m:=List.map_append
def ZN(c:ByteArray×ByteArray×Bool):List UInt8×List UInt8×Bool:=(bl c.1,bl c.2.1,c.2.2)
def Z4(w:World)(v:Value)(ns:List (List UInt8)):Prop:=∃bs:List ByteArray,w.ownsRow 0 9 1 v bs.length (Zbb bs)/\bs.map bl=ns
def ZI(w:World)(v:Value)(cs:List (List UInt8×List UInt8×Bool)):Prop:=∃bs:List (ByteArray×ByteArray×Bool),w.ownsRow 0 224 3 v bs.length (ZbL bs)/\bs.map ZN=cs
theorem Tryz.infoCondD:(Tryz.prog.info? 224).map (fun i=>(i.zero,i.size,i.bytes))=some (some (.agg #[.string ByteArray.empty,.bool false,.string ByteArray.empty]),3,40):=by kernel_rfl
theorem ZdH{W:World}{l:List Value}{t:TypeId}{n:Nat}(hn:W.heap.size=n):∀j x,l[j]?=some x->(W.alloc (.cells ⟨l⟩ t)).cell? ((⟨n,0,none⟩:Addr).add j)=some x:=by
 intro j x hj
 subst hn
 rw[Zfd]
 have h:=Go.Deep.blk_alloc_new W (.cells ⟨l⟩ t)
 simp only[World.cell?,h]
 simpa using hj
theorem ZoS{w:World}{base:Nat}{e:TypeId}{size:Nat}{v:Value}{n:Nat}{xs:List Value}(h:w.ownsRow base e size v n xs):w.ownsRow 0 e size v n xs:=by
 refine⟨h.1,?_⟩
 rcases h.2 with h2|⟨g,cap,cur,h,_,r⟩
 ·exact Or.inl h2
 ·exact Or.inr ⟨g,cap,cur,h,Nat.zero_le _,r⟩
theorem ZeX{w w':World}{base:Nat}{e:TypeId}{size:Nat}{v:Value}{n:Nat}{xs:List Value}(h:w.ownsRow base e size v n xs){b:Nat}(hg:w.grownBy w' (some b))(hb:b<base):w'.ownsRow base e size v n xs:=
 h.kept hg (Or.inr (fun q=>by have:=(h.lt b q).1;omega))
theorem ZhQ{w0 w w':World}{b:Nat}{v:Value}(h:w0.grownBy w (some b))(hg:w.grownBy w' v.ownBlock)(hv:∀q,v.ownBlock=some q->w0.heap.size<=q):w0.grownBy w' (some b):=by
 refine⟨hg.os.trans h.os,hg.tape.trans h.tape,hg.output.trans h.output,Nat.le_trans h.size hg.size,?_⟩
 intro j hj hne
 rw[hg.block j (Nat.lt_of_lt_of_le hj h.size) (fun e=>by have:=hv j e.symm;omega),h.block j hj hne]
theorem RK.grown{w0 w w':World}{R:RS}{k0 k:Nat}{ts0 ts:List Tok}(h0:RK w0 R k0 ts0)(h:RK w R k ts){v:Value}(hg:w.grownBy w' v.ownBlock)(hv:∀q,v.ownBlock=some q->w0.heap.size<=q):RK w' R k ts:=by
 refine h.blocks (fun j hl hj=>hg.block j hl (fun e=>?_))
 have:=hv j e.symm
 have h1:=(Array.getElem?_eq_some_iff.1 h0.rd.cells).1
 have h2:=Zbq h0.rd.own
 have h3:=World.block_lt_of_cell? _ _ h0.sy
 have h4:=World.block_lt_of_cell? _ _ h0.dp
 have h3':1<w0.heap.size:=h3
 have h4':2<w0.heap.size:=h4
 rcases hj with rfl|rfl|rfl|rfl <;> omega
theorem Zkw{α:Type}{item:List Tok->Out α}{close:List UInt8}{m:Nat}{acc:List α}{ts:List Tok}(h:isT close (hd ts)=true):ZE item close (m+1) acc ts=.ok (acc,ts.tail):=if_pos h
theorem Zkx {α : Type} {item : List Tok -> Out α} {close : List UInt8} {m : Nat} {ts : List Tok} (h : isT close (hd ts) = false) : ZE item close (m + 1) [] ts = bnd (item ts) fun a r => ZE item close m [a] r := by
  show(if isT close (hd ts)=true then _ else _)=_
  rw[h];rfl
theorem Zkz {α : Type} {item : List Tok -> Out α} {close : List UInt8} {m : Nat} {acc : List α} {ts : List Tok} (h : isT close (hd ts) = false) (ha : acc ≠ []) : ZE item close (m + 1) acc ts = bnd (Zp [44] ts) fun _ r => bnd (item r) fun a r => ZE item close m (acc ++ [a]) r := by
  show(if isT close (hd ts)=true then _ else _)=_
  rw[h]
  cases acc with
  | nil=>exact absurd rfl ha
  | cons a l=>rfl
theorem ZdB{s:List UInt8}{ts:List Tok}(h:isT s (hd ts)=true):Zp s ts=.ok ((),ts.tail):=if_pos h
theorem ZeF{s:List UInt8}{ts:List Tok}(h:¬isT s (hd ts)=true):Zp s ts=.error (2,(hd ts).at_):=if_neg h
theorem Zh7{k:Nat}{ts:List Tok}{a:List UInt8}{r:List Tok}(h:ZD k ts=.ok (a,r)):r=ts.tail:=by
 unfold ZD at h
 split at h
 ·cases h;rfl
 ·cases h
theorem Zmy{ts:List Tok}{a:List UInt8×List UInt8×Bool}{r:List Tok}(h:ZO ts=.ok (a,r)):r.length<=ts.tail.length:=by
 have:=Zmx ts (a,r) h
 simp only[List.length_tail]at *
 omega
theorem RK.pos{w:World}{R:RS}{k:Nat}{ts:List Tok}(h:RK w R k ts):0<ts.length:=h.wf.head.2.1
theorem ZuO {w : World} {R : RS} {k : Nat} {ts : List Tok} (h : RK w R k ts) (op cl : ByteArray) (hop : (bl op).all (fun c => !Zk c) = true /\ bl op ≠ []) (hcl : (bl cl).all (fun c => !Zk c) = true /\ bl cl ≠ []) :
    Calls Tryz.prog 168 #[.pointer (some ⟨R.b,0,none⟩),.string op,.string cl,.func (.func 169) #[] #[]] w fun e w'=>∃(la:Option Addr) (ln lc:Nat) (v:Value),e=.returned (.tuple #[.slice la ln lc,v])/\Hid (Res R (fun w' ns=>Z4 w' (.slice la ln lc) ns) w' (bnd (Zp (bl op) ts) fun _ r=>ZE (ZD 2) (bl cl) (r.length+1) [] r) v)/\w.grownBy w' (some R.b):=by
  have H:Hid (RK w R k ts):=h
  have hbl:R.b<w.heap.size:=(Array.getElem?_eq_some_iff.1 h.rd.cells).1
  obtain⟨i0,hi,hz0,hz1,hz2⟩:=info_parts Tryz.infoStr
  have HOP:Hid ((bl op).all (fun c=>!Zk c)=true/\bl op≠[]):=hop
  have HCL:Hid ((bl cl).all (fun c=>!Zk c)=true/\bl cl≠[]):=hcl
  clear h hop hcl
  obtain⟨PL,hPL⟩:∃PL:Out (List (List UInt8)),PL=bnd (Zp (bl op) ts) fun _ r=>ZE (ZD 2) (bl cl) (r.length+1) [] r:=⟨_,rfl⟩
  rw[<-hPL]
  have HPL0:Hid (PL=bnd (Zp (bl op) ts) fun _ r=>ZE (ZD 2) (bl cl) (r.length+1) [] r):=hPL
  clear hPL
  go_enter Tryz.func168,Tryz.ntmps168
  go_wp2_with fail
  refine(ZdA H.out op HOP.1 HOP.2).mono ?_
  rintro e w1 ⟨v,rfl,hres,hg⟩
  have HG1:Hid (w.grownBy w1 (some R.b)):=hg
  clear hg
  by_cases h1:isT (bl op) (hd ts)=true
  · rw[ZdB h1]at hres
    have HPL:Hid (ZE (ZD 2) (bl cl) (ts.tail.length+1) [] ts.tail=PL):=hid (by rw[HPL0.out,ZdB h1];rfl)
    obtain⟨rfl,⟨k1,hk1⟩,_⟩:=hres.out
    have HK1:Hid (RK w1 R k1 ts.tail):=hk1
    clear hres hk1 h1
    obtain⟨r0,hr0⟩:∃r0,r0=ts.tail:=⟨_,rfl⟩
    rw[<-hr0]at HK1 HPL
    clear hr0
    go_wp2
    go_loopg [11] r0.length (fun g v11 wr=>∃(bs:List ByteArray) (r:List Tok) (k2 n:Nat),g=r.length/\Hid (RK wr R k2 r)/\Hid (wr.ownsRow w.heap.size 9 1 v11 bs.length (Zbb bs))/\Hid (r.length<n/\bs.length+r.length<=302/\ZE (ZD 2) (bl cl) n (bs.map bl) r=PL)/\Hid (w.grownBy wr (some R.b)))
    case atStart=>exact⟨[],r0,k1,r0.length+1,rfl,HK1,World.ownsRow_nil _ _ _ _,⟨by omega,by have:=HK1.size;have:=HK1.len;simp;omega,HPL.out⟩,HG1⟩
    case round=>
      obtain⟨bs,r,k2,n,hgr,HK,HO,HN,HG⟩:=hrel
      clear HK1 HG1 HPL
      obtain⟨m,rfl⟩:∃m,n=m+1:=⟨n - 1,by have:=HN.1;omega⟩
      obtain⟨av,cp,hv⟩:=Zv HO.out
      subst hv
      go_wp2_with fail
      refine(ZdU HK.out).mono ?_
      rintro e w2 ⟨⟨kd,at_,tx,tv⟩,rfl,ht,hb2⟩
      have HK2:Hid (RK w2 R k2 r):=HK.below hb2
      have HO2:=hid (Zw HO.out hb2)
      have HG2:Hid (w.grownBy w2 (some R.b)):=Zy HG.out (ZR hb2)
      clear hb2 HK HO HG
      go_wp2_with fail
      refine(Zfj ht.out HK2.wf.head.1 HK2.wf.head.2.2 cl HCL.1 HCL.2 w2).mono ?_
      rintro e w3 ⟨rfl,hb3⟩
      have HK3:Hid (RK w3 R k2 r):=HK2.below hb3
      have HO3:=hid (Zw HO2.out hb3)
      have HG3:Hid (w.grownBy w3 (some R.b)):=Zy HG2.out (ZR hb3)
      clear hb3 HK2 HO2 HG2 ht
      by_cases hc:isT (bl cl) (hd r)=true
      · rw[hc]
        have HPL:Hid (PL=.ok (bs.map bl,r.tail)):=hid (by rw[<-HN.2.2,Zkw hc])
        have HTP:Hid (Zp (bl cl) r=.ok ((),r.tail)):=ZdB hc
        clear hc
        go_wp2_with fail
        refine(ZdA HK3.out cl HCL.1 HCL.2).mono ?_
        rintro e w4 ⟨v,rfl,hres,hg4⟩
        rw[HTP.out]at hres
        obtain⟨rfl,hk4,_⟩:=hres.out
        have HKX:Hid (∃k,RK w4 R k r.tail):=hk4
        have HO4:=hid (ZeX HO3.out hg4 hbl)
        have HG4:Hid (w.grownBy w4 (some R.b)):=Zy HG3.out hg4
        clear hres hk4 hg4
        go_wp2
        go_ret2
        exact⟨_,_,_,_,rfl,by rw[HPL.out];exact⟨rfl,HKX.out,bs,ZoS HO4.out,rfl⟩,HG4.out⟩
      · have hc':isT (bl cl) (hd r)=false:=Bool.eq_false_iff.2 hc
        rw[hc']
        by_cases hb:bs=[]
        · subst hb
          have HPL:Hid ((bnd ((ZD 2) r) fun a z=>ZE (ZD 2) (bl cl) m [a] z)=PL):=hid (by rw[<-HN.2.2];exact(Zkx hc').symm)
          have hl0:([]:List ByteArray).length=0:=rfl
          clear hc hc'
          go_wp2_with fail
          refine(ZiT HK3.out).mono ?_
          rintro e w5 ⟨x,v,rfl,hres,hg5⟩
          have HO5:=hid (ZeX HO3.out hg5 hbl)
          have HG5:Hid (w.grownBy w5 (some R.b)):=Zy HG3.out hg5
          clear hg5
          cases hit:(ZD 2) r with
          | error er=>
            rw[hit]at hres
            obtain⟨fa,rfl⟩:=hres.shape
            have HE:Hid (Zba w5 R er _):=hres.out
            have HP2:Hid (PL=.error er):=hid (by rw[<-HPL.out,hit];rfl)
            clear hres hit
            go_wp2
            go_ret2
            exact⟨_,_,_,_,rfl,by rw[HP2.out];exact HE,HG5.out⟩
          | ok pr=>
            obtain⟨a,y⟩:=pr
            rw[hit]at hres
            obtain⟨rfl,⟨k5,hk5⟩,hx⟩:=hres.out
            have HX:Hid (bl x=a):=hx
            have HK5:Hid (RK w5 R k5 y):=hk5
            have hlen:y.length<=(r).tail.length:=(fun h=>by rw[Zh7 h];exact Nat.le_refl _) hit
            have hy:y.length<r.length:=by have h9:=HK3.pos;simp only[List.length_tail]at hlen;omega
            have HP2:Hid (ZE (ZD 2) (bl cl) m (([]++[x]).map bl) y=PL):=hid (by rw[<-HPL.out,hit,List.map_append];rw[<-HX.out];rfl)
            have hnn:=HN.2.1
            have hmm:=HN.1
            clear hres hk5 hx hit hlen
            go_wp2_with (at_builtin;refine wpList_append_own _ rfl (.tmp 43) (.tmp 45) 122 rfl w.heap.size 9 i0 (.string ByteArray.empty) 1 16 Tryz.underlying122 hi hz0 hz1 hz2 rfl (by decide) _ _ _ rfl (HO5.alloc _) ⟨w5.heap.size,0,none⟩ 1 1 [.string x] rfl rfl ?c1 ?c2 ?c3 ?c4 ?c5 ?_)
            case c1=>exact ZdH rfl
            case c2=>intro u hu;simp at hu;rw[hu];rfl
            case c3=>unfold maxLen;omega
            case c4=>omega
            case c5=>simp;have:=HG5.size;omega
            intro v' w6 hown6 hgrow _
            have HG6:Hid (w.grownBy w6 (some R.b)):=hid (ZhQ (Zdi HG5.out _) hgrow (fun q hq=>(HO5.lt q hq).1))
            have HK6:Hid (RK w6 R k5 y):=hid (RK.grown H.out (HK5.below Zbal) hgrow (fun q hq=>(HO5.lt q hq).1))
            have HO6:Hid (w6.ownsRow w.heap.size 9 1 v' ([]++[x]).length (Zbb ([]++[x]))):=hid (by rw[ZhL,List.length_append];exact hown6)
            clear hown6 hgrow
            go_wp2
            go_roundg y.length
            case measure=>omega
            case rel=>exact⟨_,y,k5,m,rfl,HK6,HO6,⟨by omega,by simp;omega,HP2.out⟩,HG6⟩
        · have hbl0:0<bs.length:=List.length_pos_iff.2 hb
          have HPL:Hid ((bnd (Zp [44] r) fun _ z=>bnd ((ZD 2) z) fun a y=>ZE (ZD 2) (bl cl) m (bs.map bl++[a]) y)=PL):=hid (by rw[<-HN.2.2];exact(Zkz hc' (by simpa using hb)).symm)
          clear hc hc' hb
          go_wp2_with fail
          refine(ZdA HK3.out ⟨#[44]⟩ (by decide) (by decide)).mono ?_
          rintro e w4 ⟨v,rfl,hres,hg4⟩
          have HO4:=hid (ZeX HO3.out hg4 hbl)
          have HG4:Hid (w.grownBy w4 (some R.b)):=Zy HG3.out hg4
          clear hg4
          by_cases hcm:isT [44] (hd r)=true
          · rw[show Zp (bl ⟨#[44]⟩) r=.ok ((),r.tail) from ZdB hcm]at hres
            obtain⟨rfl,⟨k4,hk4⟩,_⟩:=hres.out
            have HK4:Hid (RK w4 R k4 r.tail):=hk4
            have HPL2:Hid ((bnd ((ZD 2) r.tail) fun a y=>ZE (ZD 2) (bl cl) m (bs.map bl++[a]) y)=PL):=hid (by rw[<-HPL.out,ZdB hcm];rfl)
            clear hres hk4 hcm HPL HK3 HO3 HG3
            go_wp2_with fail
            refine(ZiT HK4.out).mono ?_
            rintro e w5 ⟨x,v,rfl,hres,hg5⟩
            have HO5:=hid (ZeX HO4.out hg5 hbl)
            have HG5:Hid (w.grownBy w5 (some R.b)):=Zy HG4.out hg5
            clear hg5
            cases hit:(ZD 2) r.tail with
            | error er=>
              rw[hit]at hres
              obtain⟨fa,rfl⟩:=hres.shape
              have HE:Hid (Zba w5 R er _):=hres.out
              have HP2:Hid (PL=.error er):=hid (by rw[<-HPL2.out,hit];rfl)
              clear hres hit
              go_wp2
              go_ret2
              exact⟨_,_,_,_,rfl,by rw[HP2.out];exact HE,HG5.out⟩
            | ok pr=>
              obtain⟨a,y⟩:=pr
              rw[hit]at hres
              obtain⟨rfl,⟨k5,hk5⟩,hx⟩:=hres.out
              have HX:Hid (bl x=a):=hx
              have HK5:Hid (RK w5 R k5 y):=hk5
              have hlen:y.length<=(r.tail).tail.length:=(fun h=>by rw[Zh7 h];exact Nat.le_refl _) hit
              have hy:y.length<r.length:=by have h9:=HK4.pos;simp only[List.length_tail]at h9 hlen;omega
              have HP2:Hid (ZE (ZD 2) (bl cl) m ((bs++[x]).map bl) y=PL):=hid (by rw[<-HPL2.out,hit,List.map_append];rw[<-HX.out];rfl)
              have hnn:=HN.2.1
              have hmm:=HN.1
              clear hres hk5 hx hit hlen
              go_wp2_with (at_builtin;refine wpList_append_own _ rfl (.tmp 43) (.tmp 45) 122 rfl w.heap.size 9 i0 (.string ByteArray.empty) 1 16 Tryz.underlying122 hi hz0 hz1 hz2 rfl (by decide) _ _ _ rfl (HO5.alloc _) ⟨w5.heap.size,0,none⟩ 1 1 [.string x] rfl rfl ?c1 ?c2 ?c3 ?c4 ?c5 ?_)
              case c1=>exact ZdH rfl
              case c2=>intro u hu;simp at hu;rw[hu];rfl
              case c3=>unfold maxLen;omega
              case c4=>omega
              case c5=>simp;have:=HG5.size;omega
              intro v' w6 hown6 hgrow _
              have HG6:Hid (w.grownBy w6 (some R.b)):=hid (ZhQ (Zdi HG5.out _) hgrow (fun q hq=>(HO5.lt q hq).1))
              have HK6:Hid (RK w6 R k5 y):=hid (RK.grown H.out (HK5.below Zbal) hgrow (fun q hq=>(HO5.lt q hq).1))
              have HO6:Hid (w6.ownsRow w.heap.size 9 1 v' (bs++[x]).length (Zbb (bs++[x]))):=hid (by rw[ZhL,List.length_append];exact hown6)
              clear hown6 hgrow
              go_wp2
              go_roundg y.length
              case measure=>omega
              case rel=>exact⟨_,y,k5,m,rfl,HK6,HO6,⟨by omega,by simp;omega,HP2.out⟩,HG6⟩
          · rw[show Zp (bl ⟨#[44]⟩) r=.error (2,(hd r).at_) from ZeF hcm]at hres
            obtain⟨fa,rfl⟩:=hres.shape
            have HE:Hid (Zba w4 R (2,(hd r).at_) _):=hres.out
            have HP2:Hid (PL=.error (2,(hd r).at_)):=hid (by rw[<-HPL.out,ZeF hcm];rfl)
            clear hres
            go_wp2
            go_ret2
            exact⟨_,_,_,_,rfl,by rw[HP2.out];exact HE,HG4.out⟩
  · rw[ZeF h1]at hres
    have HP2:Hid (PL=.error (2,(hd ts).at_)):=hid (by rw[HPL0.out,ZeF h1];rfl)
    obtain⟨fa,rfl⟩:=hres.shape
    have HE:Hid (Zba w1 R (2,(hd ts).at_) _):=hres.out
    clear hres
    go_wp2
    go_ret2
    exact⟨_,_,_,_,rfl,by rw[HP2.out];exact HE,HG1.out⟩
theorem ZuM {w : World} {R : RS} {k : Nat} {ts : List Tok} (h : RK w R k ts) (op cl : ByteArray) (hop : (bl op).all (fun c => !Zk c) = true /\ bl op ≠ []) (hcl : (bl cl).all (fun c => !Zk c) = true /\ bl cl ≠ []) :
    Calls Tryz.prog 172 #[.pointer (some ⟨R.b,0,none⟩),.string op,.string cl,.func (.func 173) #[] #[]] w fun e w'=>∃(la:Option Addr) (ln lc:Nat) (v:Value),e=.returned (.tuple #[.slice la ln lc,v])/\Hid (Res R (fun w' ns=>ZI w' (.slice la ln lc) ns) w' (bnd (Zp (bl op) ts) fun _ r=>ZE ZO (bl cl) (r.length+1) [] r) v)/\w.grownBy w' (some R.b):=by
  have H:Hid (RK w R k ts):=h
  have hbl:R.b<w.heap.size:=(Array.getElem?_eq_some_iff.1 h.rd.cells).1
  obtain⟨i0,hi,hz0,hz1,hz2⟩:=info_parts Tryz.infoCondD
  have HOP:Hid ((bl op).all (fun c=>!Zk c)=true/\bl op≠[]):=hop
  have HCL:Hid ((bl cl).all (fun c=>!Zk c)=true/\bl cl≠[]):=hcl
  clear h hop hcl
  obtain⟨PL,hPL⟩:∃PL:Out (List (List UInt8×List UInt8×Bool)),PL=bnd (Zp (bl op) ts) fun _ r=>ZE ZO (bl cl) (r.length+1) [] r:=⟨_,rfl⟩
  rw[<-hPL]
  have HPL0:Hid (PL=bnd (Zp (bl op) ts) fun _ r=>ZE ZO (bl cl) (r.length+1) [] r):=hPL
  clear hPL
  go_enter Tryz.func172,Tryz.ntmps172
  go_wp2_with fail
  refine(ZdA H.out op HOP.1 HOP.2).mono ?_
  rintro e w1 ⟨v,rfl,hres,hg⟩
  have HG1:Hid (w.grownBy w1 (some R.b)):=hg
  clear hg
  by_cases h1:isT (bl op) (hd ts)=true
  · rw[ZdB h1]at hres
    have HPL:Hid (ZE ZO (bl cl) (ts.tail.length+1) [] ts.tail=PL):=hid (by rw[HPL0.out,ZdB h1];rfl)
    obtain⟨rfl,⟨k1,hk1⟩,_⟩:=hres.out
    have HK1:Hid (RK w1 R k1 ts.tail):=hk1
    clear hres hk1 h1
    obtain⟨r0,hr0⟩:∃r0,r0=ts.tail:=⟨_,rfl⟩
    rw[<-hr0]at HK1 HPL
    clear hr0
    go_wp2
    go_loopg [11] r0.length (fun g v11 wr=>∃(bs:List (ByteArray×ByteArray×Bool)) (r:List Tok) (k2 n:Nat),g=r.length/\Hid (RK wr R k2 r)/\Hid (wr.ownsRow w.heap.size 224 3 v11 bs.length (ZbL bs))/\Hid (r.length<n/\bs.length+r.length<=302/\ZE ZO (bl cl) n (bs.map ZN) r=PL)/\Hid (w.grownBy wr (some R.b)))
    case atStart=>exact⟨[],r0,k1,r0.length+1,rfl,HK1,World.ownsRow_nil _ _ _ _,⟨by omega,by have:=HK1.size;have:=HK1.len;simp;omega,HPL.out⟩,HG1⟩
    case round=>
      obtain⟨bs,r,k2,n,hgr,HK,HO,HN,HG⟩:=hrel
      clear HK1 HG1 HPL
      obtain⟨m,rfl⟩:∃m,n=m+1:=⟨n - 1,by have:=HN.1;omega⟩
      obtain⟨av,cp,hv⟩:=Zv HO.out
      subst hv
      go_wp2_with fail
      refine(ZdU HK.out).mono ?_
      rintro e w2 ⟨⟨kd,at_,tx,tv⟩,rfl,ht,hb2⟩
      have HK2:Hid (RK w2 R k2 r):=HK.below hb2
      have HO2:=hid (Zw HO.out hb2)
      have HG2:Hid (w.grownBy w2 (some R.b)):=Zy HG.out (ZR hb2)
      clear hb2 HK HO HG
      go_wp2_with fail
      refine(Zfj ht.out HK2.wf.head.1 HK2.wf.head.2.2 cl HCL.1 HCL.2 w2).mono ?_
      rintro e w3 ⟨rfl,hb3⟩
      have HK3:Hid (RK w3 R k2 r):=HK2.below hb3
      have HO3:=hid (Zw HO2.out hb3)
      have HG3:Hid (w.grownBy w3 (some R.b)):=Zy HG2.out (ZR hb3)
      clear hb3 HK2 HO2 HG2 ht
      by_cases hc:isT (bl cl) (hd r)=true
      · rw[hc]
        have HPL:Hid (PL=.ok (bs.map ZN,r.tail)):=hid (by rw[<-HN.2.2,Zkw hc])
        have HTP:Hid (Zp (bl cl) r=.ok ((),r.tail)):=ZdB hc
        clear hc
        go_wp2_with fail
        refine(ZdA HK3.out cl HCL.1 HCL.2).mono ?_
        rintro e w4 ⟨v,rfl,hres,hg4⟩
        rw[HTP.out]at hres
        obtain⟨rfl,hk4,_⟩:=hres.out
        have HKX:Hid (∃k,RK w4 R k r.tail):=hk4
        have HO4:=hid (ZeX HO3.out hg4 hbl)
        have HG4:Hid (w.grownBy w4 (some R.b)):=Zy HG3.out hg4
        clear hres hk4 hg4
        go_wp2
        go_ret2
        exact⟨_,_,_,_,rfl,by rw[HPL.out];exact⟨rfl,HKX.out,bs,ZoS HO4.out,rfl⟩,HG4.out⟩
      · have hc':isT (bl cl) (hd r)=false:=Bool.eq_false_iff.2 hc
        rw[hc']
        by_cases hb:bs=[]
        · subst hb
          have HPL:Hid ((bnd (ZO r) fun a z=>ZE ZO (bl cl) m [a] z)=PL):=hid (by rw[<-HN.2.2];exact(Zkx hc').symm)
          have hl0:([]:List (ByteArray×ByteArray×Bool)).length=0:=rfl
          clear hc hc'
          go_wp2_with fail
          refine(Zmz HK3.out).mono ?_
          rintro e w5 ⟨x,ng,z,v,rfl,hres,hg5⟩
          have HO5:=hid (ZeX HO3.out hg5 hbl)
          have HG5:Hid (w.grownBy w5 (some R.b)):=Zy HG3.out hg5
          clear hg5
          cases hit:ZO r with
          | error er=>
            rw[hit]at hres
            obtain⟨fa,rfl⟩:=hres.shape
            have HE:Hid (Zba w5 R er _):=hres.out
            have HP2:Hid (PL=.error er):=hid (by rw[<-HPL.out,hit];rfl)
            clear hres hit
            go_wp2
            go_ret2
            exact⟨_,_,_,_,rfl,by rw[HP2.out];exact HE.below Zbal,Zdi HG5.out _⟩
          | ok pr=>
            obtain⟨a,y⟩:=pr
            rw[hit]at hres
            obtain⟨rfl,⟨k5,hk5⟩,hx⟩:=hres.out
            have HX:Hid (ZN (x,z,ng)=a):=hid (by unfold ZN;simp only[hx.1,hx.2.1,hx.2.2])
            have HK5:Hid (RK w5 R k5 y):=hk5
            have hlen:y.length<=(r).tail.length:=Zmy hit
            have hy:y.length<r.length:=by have h9:=HK3.pos;simp only[List.length_tail]at hlen;omega
            have HP2:Hid (ZE ZO (bl cl) m (([]++[(x,z,ng)]).map ZN) y=PL):=hid (by rw[<-HPL.out,hit,List.map_append];rw[<-HX.out];rfl)
            have hnn:=HN.2.1
            have hmm:=HN.1
            clear hres hk5 hx hit hlen
            go_wp2_with (at_builtin;refine wpList_append_own _ rfl (.tmp 43) (.tmp 45) 146 rfl w.heap.size 224 i0 (.agg #[.string ByteArray.empty,.bool false,.string ByteArray.empty]) 3 40 Tryz.underlying146 hi hz0 hz1 hz2 rfl (by decide) _ _ _ rfl ((HO5.alloc _).alloc _) ⟨w5.heap.size+1,0,none⟩ 1 1 [.string x,.bool ng,.string z] rfl rfl ?c1 ?c2 ?c3 ?c4 ?c5 ?_)
            case c1=>exact ZdH (by simp)
            case c2=>intro u hu;simp at hu;rcases hu with rfl|rfl|rfl <;> rfl
            case c3=>unfold maxLen;omega
            case c4=>omega
            case c5=>simp;have:=HG5.size;omega
            intro v' w6 hown6 hgrow _
            have HG6:Hid (w.grownBy w6 (some R.b)):=hid (ZhQ (Zdi (Zdi HG5.out _) _) hgrow (fun q hq=>(HO5.lt q hq).1))
            have HK6:Hid (RK w6 R k5 y):=hid (RK.grown H.out (HK5.below (Zbal.alloc (by simp) _)) hgrow (fun q hq=>(HO5.lt q hq).1))
            have HO6:Hid (w6.ownsRow w.heap.size 224 3 v' ([]++[(x,z,ng)]).length (ZbL ([]++[(x,z,ng)]))):=hid (by rw[Zm6,List.length_append];exact hown6)
            clear hown6 hgrow
            go_wp2
            go_roundg y.length
            case measure=>omega
            case rel=>exact⟨_,y,k5,m,rfl,HK6,HO6,⟨by omega,by simp;omega,HP2.out⟩,HG6⟩
        · have hbl0:0<bs.length:=List.length_pos_iff.2 hb
          have HPL:Hid ((bnd (Zp [44] r) fun _ z=>bnd (ZO z) fun a y=>ZE ZO (bl cl) m (bs.map ZN++[a]) y)=PL):=hid (by rw[<-HN.2.2];exact(Zkz hc' (by simpa using hb)).symm)
          clear hc hc' hb
          go_wp2_with fail
          refine(ZdA HK3.out ⟨#[44]⟩ (by decide) (by decide)).mono ?_
          rintro e w4 ⟨v,rfl,hres,hg4⟩
          have HO4:=hid (ZeX HO3.out hg4 hbl)
          have HG4:Hid (w.grownBy w4 (some R.b)):=Zy HG3.out hg4
          clear hg4
          by_cases hcm:isT [44] (hd r)=true
          · rw[show Zp (bl ⟨#[44]⟩) r=.ok ((),r.tail) from ZdB hcm]at hres
            obtain⟨rfl,⟨k4,hk4⟩,_⟩:=hres.out
            have HK4:Hid (RK w4 R k4 r.tail):=hk4
            have HPL2:Hid ((bnd (ZO r.tail) fun a y=>ZE ZO (bl cl) m (bs.map ZN++[a]) y)=PL):=hid (by rw[<-HPL.out,ZdB hcm];rfl)
            clear hres hk4 hcm HPL HK3 HO3 HG3
            go_wp2_with fail
            refine(Zmz HK4.out).mono ?_
            rintro e w5 ⟨x,ng,z,v,rfl,hres,hg5⟩
            have HO5:=hid (ZeX HO4.out hg5 hbl)
            have HG5:Hid (w.grownBy w5 (some R.b)):=Zy HG4.out hg5
            clear hg5
            cases hit:ZO r.tail with
            | error er=>
              rw[hit]at hres
              obtain⟨fa,rfl⟩:=hres.shape
              have HE:Hid (Zba w5 R er _):=hres.out
              have HP2:Hid (PL=.error er):=hid (by rw[<-HPL2.out,hit];rfl)
              clear hres hit
              go_wp2
              go_ret2
              exact⟨_,_,_,_,rfl,by rw[HP2.out];exact HE.below Zbal,Zdi HG5.out _⟩
            | ok pr=>
              obtain⟨a,y⟩:=pr
              rw[hit]at hres
              obtain⟨rfl,⟨k5,hk5⟩,hx⟩:=hres.out
              have HX:Hid (ZN (x,z,ng)=a):=hid (by unfold ZN;simp only[hx.1,hx.2.1,hx.2.2])
              have HK5:Hid (RK w5 R k5 y):=hk5
              have hlen:y.length<=(r.tail).tail.length:=Zmy hit
              have hy:y.length<r.length:=by have h9:=HK4.pos;simp only[List.length_tail]at h9 hlen;omega
              have HP2:Hid (ZE ZO (bl cl) m ((bs++[(x,z,ng)]).map ZN) y=PL):=hid (by rw[<-HPL2.out,hit,List.map_append];rw[<-HX.out];rfl)
              have hnn:=HN.2.1
              have hmm:=HN.1
              clear hres hk5 hx hit hlen
              go_wp2_with (at_builtin;refine wpList_append_own _ rfl (.tmp 43) (.tmp 45) 146 rfl w.heap.size 224 i0 (.agg #[.string ByteArray.empty,.bool false,.string ByteArray.empty]) 3 40 Tryz.underlying146 hi hz0 hz1 hz2 rfl (by decide) _ _ _ rfl ((HO5.alloc _).alloc _) ⟨w5.heap.size+1,0,none⟩ 1 1 [.string x,.bool ng,.string z] rfl rfl ?c1 ?c2 ?c3 ?c4 ?c5 ?_)
              case c1=>exact ZdH (by simp)
              case c2=>intro u hu;simp at hu;rcases hu with rfl|rfl|rfl <;> rfl
              case c3=>unfold maxLen;omega
              case c4=>omega
              case c5=>simp;have:=HG5.size;omega
              intro v' w6 hown6 hgrow _
              have HG6:Hid (w.grownBy w6 (some R.b)):=hid (ZhQ (Zdi (Zdi HG5.out _) _) hgrow (fun q hq=>(HO5.lt q hq).1))
              have HK6:Hid (RK w6 R k5 y):=hid (RK.grown H.out (HK5.below (Zbal.alloc (by simp) _)) hgrow (fun q hq=>(HO5.lt q hq).1))
              have HO6:Hid (w6.ownsRow w.heap.size 224 3 v' (bs++[(x,z,ng)]).length (ZbL (bs++[(x,z,ng)]))):=hid (by rw[Zm6,List.length_append];exact hown6)
              clear hown6 hgrow
              go_wp2
              go_roundg y.length
              case measure=>omega
              case rel=>exact⟨_,y,k5,m,rfl,HK6,HO6,⟨by omega,by simp;omega,HP2.out⟩,HG6⟩
          · rw[show Zp (bl ⟨#[44]⟩) r=.error (2,(hd r).at_) from ZeF hcm]at hres
            obtain⟨fa,rfl⟩:=hres.shape
            have HE:Hid (Zba w4 R (2,(hd r).at_) _):=hres.out
            have HP2:Hid (PL=.error (2,(hd r).at_)):=hid (by rw[<-HPL.out,ZeF hcm];rfl)
            clear hres
            go_wp2
            go_ret2
            exact⟨_,_,_,_,rfl,by rw[HP2.out];exact HE,HG4.out⟩
  · rw[ZeF h1]at hres
    have HP2:Hid (PL=.error (2,(hd ts).at_)):=hid (by rw[HPL0.out,ZeF h1];rfl)
    obtain⟨fa,rfl⟩:=hres.shape
    have HE:Hid (Zba w1 R (2,(hd ts).at_) _):=hres.out
    clear hres
    go_wp2
    go_ret2
    exact⟨_,_,_,_,rfl,by rw[HP2.out];exact HE,HG1.out⟩
def canB(s:ByteArray):Bool:=!decide (wOr=bl s) && !decide (wBy=bl s) && !(idx (bl s) ZG).isSome && !(idx (bl s) ZV).isSome
theorem Zrw(s:ByteArray)(w:World):Calls Tryz.prog 171 #[.string s] w fun e w'=>e=.returned (.bool (canB s))/\w'=w:=Zrv s w
theorem Zvb{ts:List Tok}{s:ByteArray}(hs:bl s=(hd ts).txt)(hc:canB s=true):Zdw ts=ZD 2 ts:=by
 unfold Zdw
 by_cases hr:Zfr (hd ts)=true
 ·rw[if_pos hr]
  exfalso
  unfold canB at hc
  rw[hs]at hc
  unfold Zfr at hr
  simp only[Bool.and_eq_true,Bool.not_eq_true',decide_eq_false_iff_not]at hc
  simp only[Bool.or_eq_true]at hr
  obtain⟨⟨⟨h1,h2⟩,h3⟩,h4⟩:=hc
  rcases hr with ((hr|hr)|hr)|hr
  ·rw[h3]at hr;cases hr
  ·rw[h4]at hr;cases hr
  ·exact h1 (ZgZ hr).symm
  ·exact h2 (ZgZ hr).symm
 ·rw[if_neg hr]
theorem Zvc{ts:List Tok}{s:ByteArray}(hs:bl s=(hd ts).txt)(hc:canB s=false):Zdw ts=.error (2,(hd ts).at_):=by
 unfold Zdw
 by_cases hr:Zfr (hd ts)=true
 ·rw[if_pos hr]
 ·rw[if_neg hr]
  refine Zfm (fun hk=>hr ?_)
  unfold canB at hc
  rw[hs]at hc
  unfold Zfr
  have ht:∀a:List UInt8,decide (a=(hd ts).txt)=isT a (hd ts):=by
   intro a
   unfold isT
   rw[hk,Bool.eq_iff_iff,decide_eq_true_iff,Bool.and_eq_true,beq_iff_eq]
   exact⟨fun h=>⟨rfl,h.symm⟩,fun h=>h.2.symm⟩
  rw[ht,ht]at hc
  generalize isT wOr (hd ts)=b1 at *
  generalize isT wBy (hd ts)=b2 at *
  generalize(idx (hd ts).txt ZG).isSome=b3 at *
  generalize(idx (hd ts).txt ZV).isSome=b4 at *
  cases b1 <;> cases b2 <;> cases b3 <;> cases b4 <;> first|rfl|cases hc
def set2(w:World)(a:Nat)(x y:Value):World:=(w.setCell ⟨a,0,none⟩ x).setCell ⟨a,1,none⟩ y
theorem ZiH{w:World}{a:Nat}{p q x y:Value}{t:TypeId}(h:BAt w a [p,q] t):BAt (set2 w a x y) a [x,y] t:=by
 unfold BAt at h
 unfold BAt set2
 simp only[World.setCell,Array.getElem?_modify,h,if_true,Option.map_some];rfl
theorem Zpv(w:World)(a:Nat)(x y:Value){b:Nat}(hb:b≠a):(set2 w a x y).heap[b]?=w.heap[b]?:=by
 unfold set2
 rw[Go.Deep.blk_setCell_other _ _ _ _ hb,Go.Deep.blk_setCell_other _ _ _ _ hb]
theorem ZiI{w0 w:World}{a b:Nat}(h:w0.grownBy w (some b))(ha:w0.heap.size<=a)(x y:Value):w0.grownBy (set2 w a x y) (some b):=
 Zbm (Zbm h (Or.inr ha) _) (Or.inr ha) _
theorem Zba.set2{w:World}{R:RS}{e:Nat×Nat}{v:Value}(h:Zba w R e v){a:Nat}{c:List Value}{t:TypeId}(hq:BAt w a c t)(ht:t≠85)(x y:Value):Zba (set2 w a x y) R e v:=by
 refine h.grown (b:=a) ?_ hq ht
 exact Zbm (Zbm (Zfi w (some a)) (Or.inl rfl) _) (Or.inl rfl) _
theorem ZI.kept{w w':World}{v:Value}{ns:List (List UInt8×List UInt8×Bool)}(h:ZI w v ns){b:Nat}(hg:w.grownBy w' (some b)){c:Array Value}{t:TypeId}{fr:Nat×Nat}(hq:w.heap[b]?=some (.cells c t fr))(ht:t≠224):ZI w' v ns:=by
 obtain⟨bs,h1,h2⟩:=h
 have hne:=Zdl h1 hq ht
 exact⟨bs,ZeY h1 (fun j hj=>hg.block j (h1.lt j hj).2 (fun e=>by injection e with e;subst e;exact hne hj.symm)),h2⟩
theorem Z4.kept{w w':World}{v:Value}{ns:List (List UInt8)}(h:Z4 w v ns){b:Nat}(hg:w.grownBy w' (some b)){c:Array Value}{t:TypeId}{fr:Nat×Nat}(hq:w.heap[b]?=some (.cells c t fr))(ht:t≠9):Z4 w' v ns:=by
 obtain⟨bs,h1,h2⟩:=h
 have hne:=Zdl h1 hq ht
 exact⟨bs,ZeY h1 (fun j hj=>hg.block j (h1.lt j hj).2 (fun e=>by injection e with e;subst e;exact hne hj.symm)),h2⟩
theorem ZI.set2{w:World}{v:Value}{ns:List (List UInt8×List UInt8×Bool)}(h:ZI w v ns){a:Nat}{c:List Value}{t:TypeId}(hq:BAt w a c t)(ht:t≠224)(x y:Value):ZI (set2 w a x y) v ns:=
 h.kept (b:=a) (Zbm (Zbm (Zfi w (some a)) (Or.inl rfl) _) (Or.inl rfl) _) hq ht
theorem Zpt{w:World}{R:RS}{k:Nat}{ts:List Tok}(h:RK w R k ts) :
  Calls Tryz.prog 108 #[.pointer (some ⟨R.b,0,none⟩)] w fun e w'=>∃(nm:ByteArray) (la:Option Addr) (ln lc:Nat) (v:Value),e=.returned (.tuple #[.agg #[.string nm,.slice la ln lc],v])/\Hid (Res R (fun w' nd=>bl nm=nd.name/\ZI w' (.slice la ln lc) nd.conds) w' (selP ts) v)/\w.grownBy w' (some R.b):=by
 have H:Hid (RK w R k ts):=h
 have hbl:R.b<w.heap.size:=(Array.getElem?_eq_some_iff.1 h.rd.cells).1
 clear h
 go_enter Tryz.func108,Tryz.ntmps108
 go_wp2_with fail
 refine ZK fun W0 hW0=>?_
 have HK0:Hid (RK W0 R k ts):=hid (by rw[hW0];exact H.below Zbal)
 have HC0:Hid (BAt W0 w.heap.size [.string ByteArray.empty,.slice none 0 0] 148):=hid (by rw[hW0];exact Go.Deep.blk_alloc_new _ _)
 have HG0:Hid (w.grownBy W0 (some R.b)):=hid (by rw[hW0];exact Zdi (Zfi _ _) _)
 clear hW0
 refine(ZdU HK0.out).mono ?_
 rintro e w1 ⟨⟨kd,at_,tx,tv⟩,rfl,ht,hb1⟩
 have HC1:=hid (HC0.below hb1)
 have HG1:Hid (w.grownBy w1 (some R.b)):=Zy HG0.out (ZR hb1)
 have HK1:Hid (RK w1 R k ts):=HK0.below hb1
 clear hb1 HC0 HG0 HK0
 have HTX:Hid (bl tx=(hd ts).txt):=ht.2.2.1
 have hf:∀W:World,(Instr.field 74 (.agg #[.int .i64 kd,.int .i64 at_,.string tx,.int .i64 tv]) 2).run Tryz.prog W=.ok (.string tx) W:=fun _=>rfl
 go_wp2_with fail
 refine(Zrw tx _).mono ?_
 rintro e w1 ⟨rfl,rfl⟩
 cases hc:canB tx
 ·have HPE:Hid (selP ts=.error (2,(hd ts).at_)):=hid (by unfold selP;rw[Zvc HTX.out hc];rfl)
  clear hc
  go_wp2_with fail
  refine(ZeP HK1.out).mono ?_
  rintro e wE ⟨v,rfl,HE,hbE⟩
  obtain⟨fa,rfl⟩:=HE.shape
  have HCE:=hid (HC1.below hbE)
  have HGE:Hid (w.grownBy wE (some R.b)):=Zy HG1.out (ZR hbE)
  clear hbE
  have f0:=HCE.frozen 0
  have f1:=HCE.frozen 1
  have c0:=HCE.cell 0
  have c1:=HCE.cell 1
  simp only[Zget]at c0 c1
  go_wp2
  change bodyPost _ _ _ _ _ (set2 wE w.heap.size (.string ⟨#[]⟩) (.slice none 0 0))
  have s:=ZiH HCE.out (x:=.string ⟨#[]⟩) (y:=.slice none 0 0)
  have s0:=s.cell 0
  have s1:=s.cell 1
  simp only[Zget]at s0 s1
  have HE2:=hid (HE.set2 HCE.out (by decide) (.string ⟨#[]⟩) (.slice none 0 0))
  have HGX:=hid (ZiI HGE.out (Nat.le_refl _) (.string ⟨#[]⟩) (.slice none 0 0))
  generalize set2 wE w.heap.size (.string ⟨#[]⟩) (.slice none 0 0)=WX at *
  exact bodyPost_ret (v:=.tuple #[.agg #[.string ⟨#[]⟩,.slice none 0 0],.iface 81 (.pointer (some ⟨fa,0,none⟩))]) (by simp[results,Tryz.results108,go_sem,s0,s1]) rfl ⟨_,_,_,_,_,rfl,by rw[HPE.out];exact HE2,HGX.out⟩
 ·have HNP:Hid (Zdw ts=ZD 2 ts):=Zvb HTX.out hc
  clear hc
  go_wp2_with fail
  refine(ZiT HK1.out).mono ?_
  rintro e w2 ⟨x,v,rfl,hres,hg⟩
  have HC2:Hid (BAt w2 w.heap.size [.string ByteArray.empty,.slice none 0 0] 148):=HC1.grown hg (by simp;omega)
  have HG2:Hid (w.grownBy w2 (some R.b)):=Zy HG1.out hg
  clear hg HC1 HG1 HK1
  by_cases hk2:(hd ts).kind=2
  ·rw[ZeU hk2]at hres
   obtain⟨rfl,⟨k2,hk⟩,hx⟩:=hres.out
   have HK2:Hid (RK w2 R k2 ts.tail):=hk
   have HX:Hid (bl x=(hd ts).txt):=hx
   have HNO:Hid (Zdw ts=.ok ((hd ts).txt,ts.tail)):=hid (by rw[HNP.out,ZeU hk2])
   clear hres hk hx hk2
   go_wp2_with fail
   refine(ZdU HK2.out).mono ?_
   rintro e w3 ⟨⟨kd3,at3,tx3,tv3⟩,rfl,ht3,hb3⟩
   have HC3:=hid (HC2.below hb3)
   have HG3:Hid (w.grownBy w3 (some R.b)):=Zy HG2.out (ZR hb3)
   have HK3:Hid (RK w3 R k2 ts.tail):=HK2.below hb3
   clear hb3 HC2 HG2 HK2
   go_wp2_with fail
   refine(Zfj ht3.out HK3.wf.head.1 HK3.wf.head.2.2 ⟨#[123]⟩ (by decide) (by decide) _).mono ?_
   rintro e w4 ⟨rfl,hb4⟩
   have HC4:=hid (HC3.below hb4)
   have HG4:Hid (w.grownBy w4 (some R.b)):=Zy HG3.out (ZR hb4)
   have HK4:Hid (RK w4 R k2 ts.tail):=HK3.below hb4
   clear hb4 HC3 HG3 HK3 ht3
   by_cases ho:isT [123] (hd ts.tail)=true
   ·rw[show isT (bl ⟨#[123]⟩) (hd ts.tail)=true from ho]
    obtain⟨PL,hPL⟩:∃PL,PL=bnd (Zp [123] ts.tail) fun _ r=>ZE ZO [125] (r.length+1) [] r:=⟨_,rfl⟩
    have HSP : Hid (selP ts = bnd PL fun cs r => .ok (⟨1, 0, 0, (hd ts).txt, cs, []⟩, r)) := hid (by
      unfold selP;rw[HNO.out];show(if isT [123] (hd ts.tail)=true then _ else _)=_
      rw[if_pos ho,hPL,ZdB ho]
      have hl:ts.tail.length=ts.tail.tail.length+1:=by have:=HK4.pos;rw[List.length_tail (l:=ts.tail)];omega
      rw[hl];rfl)
    have HPL:Hid (PL=bnd (Zp [123] ts.tail) fun _ r=>ZE ZO [125] (r.length+1) [] r):=hPL
    clear hPL ho
    go_wp2_with fail
    refine(ZuM HK4.out ⟨#[123]⟩ ⟨#[125]⟩ (by decide) (by decide)).mono ?_
    rintro e w5 ⟨la,ln,lc,v,rfl,hres,hg5⟩
    rw[show(bnd (Zp (bl ⟨#[123]⟩) ts.tail) fun _ r=>ZE ZO (bl ⟨#[125]⟩) (r.length+1) [] r)=PL from HPL.symm]at hres
    have HC5:Hid (BAt w5 w.heap.size [.string ByteArray.empty,.slice none 0 0] 148):=HC4.grown hg5 (by simp;omega)
    have HG5:Hid (w.grownBy w5 (some R.b)):=Zy HG4.out hg5
    clear hg5 HC4 HG4 HK4
    have f0:=HC5.frozen 0
    have f1:=HC5.frozen 1
    have c0:=HC5.cell 0
    have c1:=HC5.cell 1
    simp only[Zget]at c0 c1
    go_wp2
    change bodyPost _ _ _ _ _ (set2 w5 w.heap.size (.string x) (.slice la ln lc))
    have s:=ZiH HC5.out (x:=.string x) (y:=.slice la ln lc)
    have s0:=s.cell 0
    have s1:=s.cell 1
    simp only[Zget]at s0 s1
    have HGX:=hid (ZiI HG5.out (Nat.le_refl _) (.string x) (.slice la ln lc))
    have HRX : Hid (Res R (fun w' nd => bl x = nd.name /\ ZI w' (.slice la ln lc) nd.conds) (set2 w5 w.heap.size (.string x) (.slice la ln lc)) (selP ts) v) := hid (by
      rw[HSP.out]
      cases hpl:PL with
      | error er=>rw[hpl]at hres;exact Zba.set2 hres.out HC5.out (by decide) _ _
      | ok pr=>
        rw[hpl]at hres
        obtain⟨h1,⟨kk,h2⟩,h3⟩:=hres.out
        exact⟨h1,⟨kk,RK.fresh H.out h2 (Nat.le_refl _) (fun j hj=>Zpv _ _ _ _ hj)⟩,HX.out,ZI.set2 h3 HC5.out (by decide) _ _⟩)
    clear hres
    generalize set2 w5 w.heap.size (.string x) (.slice la ln lc)=WX at *
    exact bodyPost_ret (v:=.tuple #[.agg #[.string x,.slice la ln lc],v]) (by simp[results,Tryz.results108,go_sem,s0,s1]) rfl ⟨_,_,_,_,_,rfl,HRX,HGX.out⟩
   ·rw[show isT (bl ⟨#[123]⟩) (hd ts.tail)=false from Bool.eq_false_iff.2 ho]
    have HSP:Hid (selP ts=.ok (⟨1,0,0,(hd ts).txt,[],[]⟩,ts.tail)):=hid (by
     unfold selP;rw[HNO.out];show(if isT [123] (hd ts.tail)=true then _ else _)=_
     rw[if_neg ho])
    clear ho
    have f0:=HC4.frozen 0
    have f1:=HC4.frozen 1
    have c0:=HC4.cell 0
    have c1:=HC4.cell 1
    simp only[Zget]at c0 c1
    go_wp2
    change bodyPost _ _ _ _ _ (set2 w4 w.heap.size (.string x) (.slice none 0 0))
    have s:=ZiH HC4.out (x:=.string x) (y:=.slice none 0 0)
    have s0:=s.cell 0
    have s1:=s.cell 1
    simp only[Zget]at s0 s1
    have HGX:=hid (ZiI HG4.out (Nat.le_refl _) (.string x) (.slice none 0 0))
    have HKX:=hid (RK.fresh H.out HK4.out (w':=set2 w4 w.heap.size (.string x) (.slice none 0 0)) (Nat.le_refl _) (fun j hj=>Zpv _ _ _ _ hj))
    generalize set2 w4 w.heap.size (.string x) (.slice none 0 0)=WX at *
    exact bodyPost_ret (v:=.tuple #[.agg #[.string x,.slice none 0 0],.nilIface]) (by simp[results,Tryz.results108,go_sem,s0,s1]) rfl ⟨_,_,_,_,_,rfl,by rw[HSP.out];exact⟨rfl,⟨_,HKX.out⟩,HX.out,[],World.ownsRow_nil _ _ _ _,rfl⟩,HGX.out⟩
  ·rw[Zfm hk2]at hres
   have HPE:Hid (selP ts=.error (2,(hd ts).at_)):=hid (by unfold selP;rw[HNP.out,Zfm hk2];rfl)
   obtain⟨fa,rfl⟩:=hres.shape
   have HE:Hid (Zba w2 R (2,(hd ts).at_) _):=hres.out
   clear hres hk2
   have f0:=HC2.frozen 0
   have f1:=HC2.frozen 1
   have c0:=HC2.cell 0
   have c1:=HC2.cell 1
   simp only[Zget]at c0 c1
   go_wp2
   change bodyPost _ _ _ _ _ (set2 w2 w.heap.size (.string x) (.slice none 0 0))
   have s:=ZiH HC2.out (x:=.string x) (y:=.slice none 0 0)
   have s0:=s.cell 0
   have s1:=s.cell 1
   simp only[Zget]at s0 s1
   have HE2:=hid (HE.set2 HC2.out (by decide) (.string x) (.slice none 0 0))
   have HGX:=hid (ZiI HG2.out (Nat.le_refl _) (.string x) (.slice none 0 0))
   generalize set2 w2 w.heap.size (.string x) (.slice none 0 0)=WX at *
   exact bodyPost_ret (v:=.tuple #[.agg #[.string x,.slice none 0 0],.iface 81 (.pointer (some ⟨fa,0,none⟩))]) (by simp[results,Tryz.results108,go_sem,s0,s1]) rfl ⟨_,_,_,_,_,rfl,by rw[HPE.out];exact HE2,HGX.out⟩
end Go.Proofs.YtcdgkkfipdoeeaaGreatDoor
