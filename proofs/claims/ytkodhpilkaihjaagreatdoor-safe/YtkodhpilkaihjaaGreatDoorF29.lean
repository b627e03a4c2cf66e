/- Parts. -/
import Derived.Test.YtkodhpilkaihjaaGreatDoorF28
import Derived.Test.YtkodhpilkaihjaaGreatDoorF07
set_option maxRecDepth 100000
set_option maxHeartbeats 4000000
namespace Go.Proofs.YtkodhpilkaihjaaGreatDoor
open Go.RowKit LS
theorem ZiR{w w':World}{b1 b2:Nat}{e1 e2:TypeId}{s1 s2:Nat}{v1 v2:Value}{n1 n2:Nat}{xs1 xs2:List Value}(h1:w.ownsRow b1 e1 s1 v1 n1 xs1)(h2:w.ownsRow b2 e2 s2 v2 n2 xs2)(hg:w.grownBy w' v2.ownBlock)(he:e1≠e2):w'.ownsRow b1 e1 s1 v1 n1 xs1:=
 Zem h1 (fun k hk => hg.block k (h1.lt k hk).2 (fun e => by
   rcases ZiS h1 h2 he with h|h
   · rw[h]at hk;cases hk
   · exact h (hk.trans e)))
theorem Zfu{w w':World}{b1:Nat}{e1:TypeId}{s1:Nat}{v1:Value}{n1:Nat}{xs1:List Value}(h1:w.ownsRow b1 e1 s1 v1 n1 xs1){b:Nat}{c:List Value}{t:TypeId}(hq:BAt w b c t)(hg:w.grownBy w' (some b))(he:t≠e1):w'.ownsRow b1 e1 s1 v1 n1 xs1:=
 Zem h1 (fun k hk => hg.block k (h1.lt k hk).2 (fun e => by
   injection e with e;subst e
   exact ZcA h1 hq he hk.symm))
def InsV(w:World)(is:List (Nat×Nat))(v:Value):Prop:=w.ownsRow 0 184 2 v is.length (Zdo is)
structure Pk where
 nm:ByteArray
 la:Option Addr
 ln:Nat
 lc:Nat
 nd:Nd
 n:Nat
def Pk.enc(x:Pk):List Value:=[.string x.nm,.slice x.la x.ln x.lc,.int .i64 x.n]
def Pk.pr(x:Pk):Nd×Nat:=(x.nd,x.n)
structure Pk.ok (w:World) (x:Pk):Prop where
 nm:bl x.nm=x.nd.name
 cs:ZA w (.slice x.la x.ln x.lc) x.nd.conds
def Zdm(l:List Pk):List Value:=(l.map Pk.enc).flatten
theorem ZoV(l m:List Pk):Zdm (l++m)=Zdm l++Zdm m:=by unfold Zdm;rw[List.map_append,List.flatten_append]
theorem Zkn(l:List Pk)(j:Nat)(hj:j<l.length):(Zdm l)[j*3]?=some (.string l[j].nm)/\(Zdm l)[j*3+1]?=some (.slice l[j].la l[j].ln l[j].lc)/\(Zdm l)[j*3+2]?=some (.int .i64 l[j].n):=by
 induction l generalizing j with
 | nil=>simp at hj
 | cons a l ih=>
  have e:Zdm (a::l)=.string a.nm::.slice a.la a.ln a.lc::.int .i64 a.n::Zdm l:=rfl
  cases j with
  | zero=>rw[e];exact⟨rfl,rfl,rfl⟩
  | succ j=>
   have h:=ih j (by simpa using hj)
   rw[e,show(j+1)*3=j*3+1+1+1 by omega]
   simpa using h
def ZcX(w:World)(a:Nd×Nat)(v:Value):Prop:=∃x:Pk,v=.agg #[.string x.nm,.slice x.la x.ln x.lc,.int .i64 x.n]/\x.pr=a/\x.ok w
def Zet(v:Value):Prop:=v=.agg #[.string ⟨#[]⟩,.slice none 0 0,.int .i64 0]
def ZdT(w:World)(ps:List (Nd×Nat))(v:Value):Prop:=∃xs:List Pk,w.ownsRow 0 294 3 v xs.length (Zdm xs)/\xs.map Pk.pr=ps/\∀x∈xs,x.ok w
structure Gp where
 la:Option Addr
 ln:Nat
 lc:Nat
 ns:List (List UInt8)
def Gp.ok(w:World)(x:Gp):Prop:=∃bs:List ByteArray,w.ownsRow 0 9 1 (.slice x.la x.ln x.lc) bs.length (ZZ bs)/\((bs.map bl).Pairwise fun a b=>Op.bytesLess b a=false)/\(∀y,y∈bs.map bl ↔ y∈x.ns)/\bs.length<=70001
def ZeP(l:List Gp):List Value:=l.map fun x=>.slice x.la x.ln x.lc
def Zes(w:World)(a:List (List UInt8))(v:Value):Prop:=∃x:Gp,v=.slice x.la x.ln x.lc/\x.ns=a/\x.ok w
def ZdQ(w:World)(gs:List (List (List UInt8)))(v:Value):Prop:=∃xs:List Gp,w.ownsRow 0 90 1 v xs.length (ZeP xs)/\xs.map Gp.ns=gs/\∀x∈xs,x.ok w
theorem Pk.ok.below{w w':World}{x:Pk}(h:x.ok w)(hb:Below w.heap.size w w'):x.ok w':=⟨h.nm,h.cs.below hb⟩
theorem Pk.ok.kept1{w w':World}{x:Pk}(h:x.ok w){b:Nat}{c:List Value}{t:TypeId}(hq:BAt w b c t)(hg:w.grownBy w' (some b))(he:t≠379):x.ok w':=by
 obtain⟨bs,h1,h2⟩:=h.cs;exact⟨h.nm,bs,Zfu h1 hq hg he,h2⟩
theorem Pk.ok.kept2{w w':World}{x:Pk}(h:x.ok w){b2:Nat}{e2:TypeId}{s2:Nat}{v2:Value}{n2:Nat}{xs2:List Value}(ho:w.ownsRow b2 e2 s2 v2 n2 xs2)(hg:w.grownBy w' v2.ownBlock)(he:379≠e2):x.ok w':=by
 obtain⟨bs,h1,h2⟩:=h.cs;exact⟨h.nm,bs,ZiR h1 ho hg he,h2⟩
theorem Gp.ok.below{w w':World}{x:Gp}(h:x.ok w)(hb:Below w.heap.size w w'):x.ok w':=by
 obtain⟨bs,h1,h2⟩:=h;exact⟨bs,Zm h1 hb,h2⟩
theorem Gp.ok.kept1{w w':World}{x:Gp}(h:x.ok w){b:Nat}{c:List Value}{t:TypeId}(hq:BAt w b c t)(hg:w.grownBy w' (some b))(he:t≠9):x.ok w':=by
 obtain⟨bs,h1,h2⟩:=h;exact⟨bs,Zfu h1 hq hg he,h2⟩
theorem Gp.ok.kept2{w w':World}{x:Gp}(h:x.ok w){b2:Nat}{e2:TypeId}{s2:Nat}{v2:Value}{n2:Nat}{xs2:List Value}(ho:w.ownsRow b2 e2 s2 v2 n2 xs2)(hg:w.grownBy w' v2.ownBlock)(he:9≠e2):x.ok w':=by
 obtain⟨bs,h1,h2⟩:=h;exact⟨bs,ZiR h1 ho hg he,h2⟩
theorem Tryz.infoSelC:(Tryz.prog.info? 294).map (fun i=>(i.zero,i.size,i.bytes))=some (some (.agg #[.string ByteArray.empty,.slice none 0 0,.int .i64 0]),3,48):=by kernel_rfl
theorem Tryz.infoStrs:(Tryz.prog.info? 90).map (fun i=>(i.zero,i.size,i.bytes))=some (some (.slice none 0 0),1,24):=by kernel_rfl
theorem RdC.belowE{α:Type}{V:World->α->Value->Prop}{Z:Value->Prop}{w w':World}{b:Nat}{s:ByteArray}{ca:Addr}{r:RdR α}{v err:Value}{x:Nat×Nat}(h:RdC V Z w b s ca r v err)(hr:r=.error x)(hb:Below w.heap.size w w'):RdC V Z w' b s ca r v err:=by
 obtain⟨h1,h2,h3,p,h4⟩:=h.err hr
 exact RdC.mkErr hr ⟨h1,h2.below hb,h3,p,h4.below hb⟩
theorem Zr1(s:ByteArray)(p n b:Nat)(ca:Addr)(w0 w:World)(h0:Below w0.heap.size w0 w)(hb:w0.heap.size<=b)(hr:RdAt w b s p)(hp:p<=s.size)(hn:n<=65535)(one:Nat->RdR (Nat×Nat))(h1:OneC 143 IV IZ w0 b s ca one)(hq:∀p x,one p=.ok x->p<=s.size->x.2<=s.size) :
  Calls Tryz.prog 142 #[.pointer (some ⟨b,0,none⟩),.int .i64 n,.func (.func 143) #[] #[]] w fun e w'=>∃v err,e=.returned (.tuple #[v,err])/\Hid (RdC InsV RowZ w' b s ca (many one p n) v err)/\w.grownBy w' (some b):=by
 have hbl:=hr.lt
 obtain⟨i0,hi,hz0,hz1,hz2⟩:=info_parts Tryz.infoIns
 have H1:=hid h1
 have HQ:=hid hq
 have H0:=hid h0
 have HR:=hid hr
 have HB0:=hid hb
 clear hr h1 hq h0 hb
 go_enter Tryz.func142,Tryz.ntmps142
 go_wp2
 go_loopw [8, 12] (fun v i wr => ∃ (k q : Nat) (xs : List (Nat × Nat)), k <= n /\ i = .int .i64 k /\ q <= s.size /\ Hid (many one p k = .ok (xs, q)) /\ Hid (RdAt wr b s q) /\ xs.length = k /\ wr.ownsRow w.heap.size 184 2 v xs.length (Zdo xs) /\ Hid (w.grownBy wr (some b)))
   (fun _ i _=>n - (intOf i).toNat)
 case atStart=>exact⟨0,p,[],Nat.zero_le _,rfl,hp,hid rfl,HR,rfl,World.ownsRow_nil _ _ _ _,hid (Zbc _ _)⟩
 case round=>
  obtain⟨k,q,xs,hk,rfl,hq,HM,HRr,hxl,hown,HG⟩:=hrel
  have HXL:=hid hxl
  clear hxl
  by_cases hlt:k<n
  ·have hlz:(k:Int)<n:=by omega
   obtain⟨av,cp,rfl⟩:=Zr hown
   have HO:=hid hown
   clear hown
   go_wp2_with fail
   refine(H1.out q wr (ZbQ H0.out HG.out HB0.out) HRr.out hq).mono ?_
   rintro e w1 ⟨v,err,rfl,HC,hg1⟩
   have HG1:Hid (w.grownBy w1 (some b)):=hid (Zf HG.out hg1)
   have hown1:=Zhm HO.out hg1 hbl
   clear hg1 HO HG HRr
   cases ho:one q with
   | error x=>
    obtain⟨fa,rfl⟩:=HC.errShape ho
    have HF:Hid (RdC InsV RowZ w1 b s ca (many one p n) (.slice none 0 0) (.iface 115 (.pointer (some ⟨fa,0,none⟩)))):=hid (HC.errMap ho (Zfo HM.out ho n hlt) rfl)
    have hz:=(HC.err ho).2.2.1
    obtain⟨x0,y0,rfl⟩:=hz
    have HME:=hid (Zfo HM.out ho n hlt)
    clear HC ho hown1
    go_wp2
    go_ret2
    exact⟨_,_,rfl,hid (HF.belowE HME.out Zbal),ZbE HG1.out _⟩
   | ok x=>
    obtain⟨z,q2⟩:=x
    obtain⟨rfl,hv,hr1⟩:=HC.ok ho
    have HM1:=hid (Zhd HM.out ho)
    have hq2:=HQ.out q (z,q2) ho hq
    have HR1:=hid hr1
    simp only at hq2
    have hw1:w.heap.size<=w1.heap.size:=HG1.size
    obtain rfl:=hv
    obtain⟨y,hy⟩:∃y,y=z:=⟨_,rfl⟩
    subst hy
    clear HC ho hr1 HM
    go_wp2_with (at_builtin;refine wpList_append_own _ rfl (.tmp 23) (.tmp 25) 56 rfl w.heap.size 184 i0 (.agg #[.int .i64 0,.int .i64 0]) 2 16 Tryz.underlying56 hi hz0 hz1 hz2 rfl (by decide) _ _ _ rfl ((hown1.alloc _).alloc _) ⟨w1.heap.size+1,0,none⟩ 1 1 [.int .i64 y.1,.int .i64 y.2] rfl rfl ?c1 ?c2 ?c3 ?c4 ?c5 ?_)
    case c1=>exact Zcu (by simp)
    case c2=>intro u hu;simp at hu;rcases hu with rfl|rfl <;> rfl
    case c3=>have:=HXL.out;unfold maxLen;omega
    case c4=>have:=HXL.out;omega
    case c5=>have:=HXL.out;simp;omega
    intro v' w3 hown3 hgrow _
    have HG3:Hid (w.grownBy w3 (some b)):=hid (ZeC (ZbE (ZbE HG1.out _) _) hgrow (fun z hz=>(hown1.lt z hz).1))
    have HR3:Hid (RdAt w3 b s q2):=hid ((HR1.below (Zbal.alloc (by simp) _)).grown hgrow (fun e=>by have:=(hown1.lt b e.symm).1;omega))
    have hown4:w3.ownsRow w.heap.size 184 2 v' (xs++[y]).length (Zdo (xs++[y])):=by
     rw[List.length_append,Zpm];exact hown3
    clear hown1 hgrow hown3
    go_wp2
    go_roundw
    case rel=>exact⟨k+1,q2,xs++[y],by omega,by go_num,hq2,HM1,HR3,by rw[List.length_append,HXL.out];rfl,hown4,HG3⟩
    case measure=>simp[intOf];omega
  ·obtain rfl:k=n:=by omega
   obtain⟨av,cp,rfl⟩:=Zr hown
   have HF:Hid (RdC InsV RowZ wr b s ca (many one p k) (.slice av xs.length cp) .nilIface):=hid (RdC.mkOk HM.out ⟨rfl,ZeY hown,HRr.out⟩)
   clear hown
   go_wp2
   go_ret2
   exact⟨_,_,rfl,HF,HG.out⟩
theorem Zr3(s:ByteArray)(p n b:Nat)(ca:Addr)(w0 w:World)(h0:Below w0.heap.size w0 w)(hb:w0.heap.size<=b)(hr:RdAt w b s p)(hp:p<=s.size)(hn:n<=65535)(one:Nat->RdR (Nd×Nat))(h1:OneC 139 ZcX Zet w0 b s ca one)(hq:∀p x,one p=.ok x->p<=s.size->x.2<=s.size) :
  Calls Tryz.prog 138 #[.pointer (some ⟨b,0,none⟩),.int .i64 n,.func (.func 139) #[] #[]] w fun e w'=>∃v err,e=.returned (.tuple #[v,err])/\Hid (RdC ZdT RowZ w' b s ca (many one p n) v err)/\w.grownBy w' (some b):=by
 have hbl:=hr.lt
 obtain⟨i0,hi,hz0,hz1,hz2⟩:=info_parts Tryz.infoSelC
 have H1:=hid h1
 have HQ:=hid hq
 have H0:=hid h0
 have HR:=hid hr
 have HB0:=hid hb
 clear hr h1 hq h0 hb
 go_enter Tryz.func138,Tryz.ntmps138
 go_wp2
 go_loopw [8, 12] (fun v i wr => ∃ (k q : Nat) (xs : List Pk), k <= n /\ i = .int .i64 k /\ q <= s.size /\ Hid (many one p k = .ok (xs.map Pk.pr, q)) /\ Hid (RdAt wr b s q) /\ xs.length = k /\ wr.ownsRow w.heap.size 294 3 v xs.length (Zdm xs) /\ Hid (w.grownBy wr (some b)) /\ Hid (∀ x ∈ xs, x.ok wr))
   (fun _ i _=>n - (intOf i).toNat)
 case atStart=>exact⟨0,p,[],Nat.zero_le _,rfl,hp,hid rfl,HR,rfl,World.ownsRow_nil _ _ _ _,hid (Zbc _ _),hid (fun x hx=>nomatch hx)⟩
 case round=>
  obtain⟨k,q,xs,hk,rfl,hq,HM,HRr,hxl,hown,HG,HOK⟩:=hrel
  have HXL:=hid hxl
  clear hxl
  by_cases hlt:k<n
  ·have hlz:(k:Int)<n:=by omega
   obtain⟨av,cp,rfl⟩:=Zr hown
   have HO:=hid hown
   clear hown
   go_wp2_with fail
   refine(H1.out q wr (ZbQ H0.out HG.out HB0.out) HRr.out hq).mono ?_
   rintro e w1 ⟨v,err,rfl,HC,hg1⟩
   have HG1:Hid (w.grownBy w1 (some b)):=hid (Zf HG.out hg1)
   have hown1:=Zhm HO.out hg1 hbl
   have HOK1:Hid (∀x∈xs,x.ok w1):=hid (fun x hx=>(HOK.out x hx).kept1 HRr.out hg1 (by decide))
   clear HOK
   clear hg1 HO HG HRr
   cases ho:one q with
   | error x=>
    obtain⟨fa,rfl⟩:=HC.errShape ho
    have HF:Hid (RdC ZdT RowZ w1 b s ca (many one p n) (.slice none 0 0) (.iface 115 (.pointer (some ⟨fa,0,none⟩)))):=hid (HC.errMap ho (Zfo HM.out ho n hlt) rfl)
    have hz:=(HC.err ho).2.2.1
    obtain rfl:=hz
    have HME:=hid (Zfo HM.out ho n hlt)
    clear HC ho hown1
    go_wp2
    go_ret2
    exact⟨_,_,rfl,hid (HF.belowE HME.out Zbal),ZbE HG1.out _⟩
   | ok x=>
    obtain⟨z,q2⟩:=x
    obtain⟨rfl,hv,hr1⟩:=HC.ok ho
    have HM1:=hid (Zhd HM.out ho)
    have hq2:=HQ.out q (z,q2) ho hq
    have HR1:=hid hr1
    simp only at hq2
    have hw1:w.heap.size<=w1.heap.size:=HG1.size
    obtain⟨y,rfl,rfl,hyo⟩:=hv
    have HYO:=hid hyo
    clear hyo
    clear HC ho hr1 HM
    go_wp2_with (at_builtin;refine wpList_append_own _ rfl (.tmp 23) (.tmp 25) 54 rfl w.heap.size 294 i0 (.agg #[.string ByteArray.empty,.slice none 0 0,.int .i64 0]) 3 48 Tryz.underlying54 hi hz0 hz1 hz2 rfl (by decide) _ _ _ rfl ((hown1.alloc _).alloc _) ⟨w1.heap.size+1,0,none⟩ 1 1 [.string y.nm,.slice y.la y.ln y.lc,.int .i64 y.n] rfl rfl ?c1 ?c2 ?c3 ?c4 ?c5 ?_)
    case c1=>exact Zcu (by simp)
    case c2=>intro u hu;simp at hu;rcases hu with rfl|rfl|rfl <;> rfl
    case c3=>have:=HXL.out;unfold maxLen;omega
    case c4=>have:=HXL.out;omega
    case c5=>have:=HXL.out;simp;omega
    intro v' w3 hown3 hgrow _
    have HG3:Hid (w.grownBy w3 (some b)):=hid (ZeC (ZbE (ZbE HG1.out _) _) hgrow (fun z hz=>(hown1.lt z hz).1))
    have HR3:Hid (RdAt w3 b s q2):=hid ((HR1.below (Zbal.alloc (by simp) _)).grown hgrow (fun e=>by have:=(hown1.lt b e.symm).1;omega))
    have hown4:w3.ownsRow w.heap.size 294 3 v' (xs++[y]).length (Zdm (xs++[y])):=by
     rw[List.length_append,ZoV];exact hown3
    have HOK3 : Hid (∀ x ∈ xs ++ [y], x.ok w3) := hid (fun x hx => by
      have hb3:x.ok w1:=by
        rcases List.mem_append.1 hx with hx|hx
        · exact HOK1.out x hx
        · rw[List.mem_singleton]at hx;subst hx;exact HYO.out
      exact(hb3.below (Zbal.alloc (by simp) _)).kept2 ((hown1.alloc _).alloc _) hgrow (by decide))
    clear hown1 hgrow hown3
    go_wp2
    go_roundw
    case rel=>exact⟨k+1,q2,xs++[y],by omega,by go_num,hq2,hid (by rw[List.map_append];exact HM1.out),HR3,by rw[List.length_append,HXL.out];rfl,hown4,HG3,HOK3⟩
    case measure=>simp[intOf];omega
  ·obtain rfl:k=n:=by omega
   obtain⟨av,cp,rfl⟩:=Zr hown
   have HF:Hid (RdC ZdT RowZ wr b s ca (many one p k) (.slice av xs.length cp) .nilIface):=hid (RdC.mkOk HM.out ⟨rfl,⟨xs,ZeY hown,rfl,HOK.out⟩,HRr.out⟩)
   clear hown
   go_wp2
   go_ret2
   exact⟨_,_,rfl,HF,HG.out⟩
theorem Zr0(s:ByteArray)(p n b:Nat)(ca:Addr)(w0 w:World)(h0:Below w0.heap.size w0 w)(hb:w0.heap.size<=b)(hr:RdAt w b s p)(hp:p<=s.size)(hn:n<=65535)(one:Nat->RdR (List (List UInt8)))(h1:OneC 141 Zes RowZ w0 b s ca one)(hq:∀p x,one p=.ok x->p<=s.size->x.2<=s.size) :
  Calls Tryz.prog 140 #[.pointer (some ⟨b,0,none⟩),.int .i64 n,.func (.func 141) #[] #[]] w fun e w'=>∃v err,e=.returned (.tuple #[v,err])/\Hid (RdC ZdQ RowZ w' b s ca (many one p n) v err)/\w.grownBy w' (some b):=by
 have hbl:=hr.lt
 obtain⟨i0,hi,hz0,hz1,hz2⟩:=info_parts Tryz.infoStrs
 have H1:=hid h1
 have HQ:=hid hq
 have H0:=hid h0
 have HR:=hid hr
 have HB0:=hid hb
 clear hr h1 hq h0 hb
 go_enter Tryz.func140,Tryz.ntmps140
 go_wp2
 go_loopw [8, 12] (fun v i wr => ∃ (k q : Nat) (xs : List Gp), k <= n /\ i = .int .i64 k /\ q <= s.size /\ Hid (many one p k = .ok (xs.map Gp.ns, q)) /\ Hid (RdAt wr b s q) /\ xs.length = k /\ wr.ownsRow w.heap.size 90 1 v xs.length (ZeP xs) /\ Hid (w.grownBy wr (some b)) /\ Hid (∀ x ∈ xs, x.ok wr))
   (fun _ i _=>n - (intOf i).toNat)
 case atStart=>exact⟨0,p,[],Nat.zero_le _,rfl,hp,hid rfl,HR,rfl,World.ownsRow_nil _ _ _ _,hid (Zbc _ _),hid (fun x hx=>nomatch hx)⟩
 case round=>
  obtain⟨k,q,xs,hk,rfl,hq,HM,HRr,hxl,hown,HG,HOK⟩:=hrel
  have HXL:=hid hxl
  clear hxl
  by_cases hlt:k<n
  ·have hlz:(k:Int)<n:=by omega
   obtain⟨av,cp,rfl⟩:=Zr hown
   have HO:=hid hown
   clear hown
   go_wp2_with fail
   refine(H1.out q wr (ZbQ H0.out HG.out HB0.out) HRr.out hq).mono ?_
   rintro e w1 ⟨v,err,rfl,HC,hg1⟩
   have HG1:Hid (w.grownBy w1 (some b)):=hid (Zf HG.out hg1)
   have hown1:=Zhm HO.out hg1 hbl
   have HOK1:Hid (∀x∈xs,x.ok w1):=hid (fun x hx=>(HOK.out x hx).kept1 HRr.out hg1 (by decide))
   clear HOK
   clear hg1 HO HG HRr
   cases ho:one q with
   | error x=>
    obtain⟨fa,rfl⟩:=HC.errShape ho
    have HF:Hid (RdC ZdQ RowZ w1 b s ca (many one p n) (.slice none 0 0) (.iface 115 (.pointer (some ⟨fa,0,none⟩)))):=hid (HC.errMap ho (Zfo HM.out ho n hlt) rfl)
    have hz:=(HC.err ho).2.2.1
    obtain rfl:=hz
    clear HC ho hown1
    go_wp2
    go_ret2
    exact⟨_,_,rfl,HF,HG1.out⟩
   | ok x=>
    obtain⟨z,q2⟩:=x
    obtain⟨rfl,hv,hr1⟩:=HC.ok ho
    have HM1:=hid (Zhd HM.out ho)
    have hq2:=HQ.out q (z,q2) ho hq
    have HR1:=hid hr1
    simp only at hq2
    have hw1:w.heap.size<=w1.heap.size:=HG1.size
    obtain⟨y,rfl,rfl,hyo⟩:=hv
    have HYO:=hid hyo
    clear hyo
    clear HC ho hr1 HM
    go_wp2_with (at_builtin;refine wpList_append_own _ rfl (.tmp 23) (.tmp 25) 55 rfl w.heap.size 90 i0 (.slice none 0 0) 1 24 Tryz.underlying55 hi hz0 hz1 hz2 rfl (by decide) _ _ _ rfl (hown1.alloc _) ⟨w1.heap.size,0,none⟩ 1 1 [.slice y.la y.ln y.lc] rfl rfl ?c1 ?c2 ?c3 ?c4 ?c5 ?_)
    case c1=>exact Zcu (by simp)
    case c2=>intro u hu;simp at hu;rw[hu];rfl
    case c3=>have:=HXL.out;unfold maxLen;omega
    case c4=>have:=HXL.out;omega
    case c5=>have:=HXL.out;simp;omega
    intro v' w3 hown3 hgrow _
    have HG3:Hid (w.grownBy w3 (some b)):=hid (ZeC (ZbE HG1.out _) hgrow (fun z hz=>(hown1.lt z hz).1))
    have HR3:Hid (RdAt w3 b s q2):=hid ((HR1.below Zbal).grown hgrow (fun e=>by have:=(hown1.lt b e.symm).1;omega))
    have hown4:w3.ownsRow w.heap.size 90 1 v' (xs++[y]).length (ZeP (xs++[y])):=by
     rw[List.length_append,show ZeP (xs++[y])=ZeP xs++[.slice y.la y.ln y.lc] by unfold ZeP;rw[List.map_append];rfl];exact hown3
    have HOK3 : Hid (∀ x ∈ xs ++ [y], x.ok w3) := hid (fun x hx => by
      have hb3:x.ok w1:=by
        rcases List.mem_append.1 hx with hx|hx
        · exact HOK1.out x hx
        · rw[List.mem_singleton]at hx;subst hx;exact HYO.out
      exact(hb3.below Zbal).kept2 (hown1.alloc _) hgrow (by decide))
    clear hown1 hgrow hown3
    go_wp2
    go_roundw
    case rel=>exact⟨k+1,q2,xs++[y],by omega,by go_num,hq2,hid (by rw[List.map_append];exact HM1.out),HR3,by rw[List.length_append,HXL.out];rfl,hown4,HG3,HOK3⟩
    case measure=>simp[intOf];omega
  ·obtain rfl:k=n:=by omega
   obtain⟨av,cp,rfl⟩:=Zr hown
   have HF:Hid (RdC ZdQ RowZ wr b s ca (many one p k) (.slice av xs.length cp) .nilIface):=hid (RdC.mkOk HM.out ⟨rfl,⟨xs,ZeY hown,rfl,HOK.out⟩,HRr.out⟩)
   clear hown
   go_wp2
   go_ret2
   exact⟨_,_,rfl,HF,HG.out⟩
end Go.Proofs.YtkodhpilkaihjaaGreatDoor
