/- Parts. -/
import Derived.Test.YtmncdbepjhmkgaaGreatDoorP00
import Derived.Deep.Trees
import Derived.Deep.DeepCutAuto
import Derived.Deep.RegionLaw
set_option linter.all false
set_option maxRecDepth 100000
set_option maxHeartbeats 16000000
namespace Go.Proofs.YtmncdbepjhmkgaaGreatDoor
open Go.RowKit LS Go.Proofs.Tryz
theorem Vars.all{w:World}{A:Nat->Addr}{m:Int}(h:Vars w A m):∀g,g<13->w.cell? ⟨g,0,none⟩=some (.iface 198 (.pointer (some (A g)))):=fun g a=>h.sent g (by unfold sents;simp;omega)
theorem Zgv {w : World} {A : Nat -> Addr} {m : Int} {fa g h : Nat} (a : Vars w A m) (f : w.cell? ⟨fa, 2, none⟩ = some (.iface 198 (.pointer (some (A g))))) (b : g ∈ sents := by decide) (d : h ∈ sents := by decide) (i : g ≠ h := by decide) :
    CP 20 #[.iface 59 (Vp fa),.iface 198 (.pointer (some (A h)))] w fun e u=>e=.returned (.bool false)/\u=w:=by
  obtain⟨c,t,r⟩:=a.row g b;obtain⟨c',t',r'⟩:=a.row h d;exact Zxn f (a.apart _ b _ d i) r r'
theorem Zg7 {w : World} {A : Nat -> Addr} {m : Int} {g h : Nat} (a : Vars w A m) (b : g ∈ sents := by decide) (d : h ∈ sents := by decide) (f : g ≠ h := by decide) :
    CP 20 #[.iface 198 (.pointer (some (A g))),.iface 198 (.pointer (some (A h)))] w fun e u=>e=.returned (.bool false)/\u=w:=by
  obtain⟨c,t,r⟩:=a.row g b;obtain⟨c',t',r'⟩:=a.row h d;exact Zxm (a.apart _ b _ d f) r r'
theorem Zik(A:Nat->Addr)(m:Int)(w:World)(a:Vars w A m) :
  CP 9 #[.nilIface] w fun e u=>e=.returned (Vi 0)/\u=w:=by
 have v:=a.all;go_enter func9,ntmps9
 iterate 13 (go_wp2_with fail;refine cret (Zxl) ?_)
 go_wp2;go_ret;exact⟨rfl,rfl⟩
theorem ZjQ(A:Nat->Addr)(m:Int){w:World}(a:Vars w A m) :
  CP 9 #[.iface 198 (.pointer (some (A 0)))] w fun e u=>e=.returned (Vi 1)/\u=w:=by
 have v:=a.all;go_enter func9,ntmps9
 go_wp2_with fail
 refine cret (Zf7) ?_;go_wp2;go_ret;exact⟨rfl,rfl⟩
theorem Zmt(A:Nat->Addr)(m:Int){w:World}(a:Vars w A m)(fa:Nat)(b:w.cell? ⟨fa,2,none⟩=some (.iface 198 (.pointer (some (A 1))))) :
  CP 9 #[.iface 59 (Vp fa)] w fun e u=>e=.returned (Vi 2)/\u=w:=by
 have v:=a.all;go_enter func9,ntmps9
 iterate 1 (go_wp2_with fail;refine cret (Zgv a b) ?_)
 go_wp2_with fail
 refine cret (Zf8 b) ?_;go_wp2;go_ret;exact⟨rfl,rfl⟩
theorem Zms(A:Nat->Addr)(m:Int){w:World}(a:Vars w A m)(fa:Nat)(b:w.cell? ⟨fa,2,none⟩=some (.iface 198 (.pointer (some (A 2))))) :
  CP 9 #[.iface 59 (Vp fa)] w fun e u=>e=.returned (Vi 3)/\u=w:=by
 have v:=a.all;go_enter func9,ntmps9
 iterate 2 (go_wp2_with fail;refine cret (Zgv a b) ?_)
 go_wp2_with fail
 refine cret (Zf8 b) ?_;go_wp2;go_ret;exact⟨rfl,rfl⟩
theorem Zmu(A:Nat->Addr)(m:Int){w:World}(a:Vars w A m) :
  CP 9 #[.iface 198 (.pointer (some (A 3)))] w fun e u=>e=.returned (Vi 4)/\u=w:=by
 have v:=a.all;go_enter func9,ntmps9
 iterate 3 (go_wp2_with fail;refine cret (Zg7 a) ?_)
 go_wp2_with fail
 refine cret (Zf7) ?_;go_wp2;go_ret;exact⟨rfl,rfl⟩
theorem Ziq(w:World) :
  CP 10 #[.nilIface] w fun e u=>e=.returned (Vi 0)/\BW w u:=by
 go_enter func10,ntmps10
 go_wp2_with fail
 refine(ZtR).mono ?_;rintro e u ⟨rfl,rfl⟩;go_wp2;go_ret;exact⟨rfl,belB⟩
theorem Zdm(A:Nat->Addr)(m:Int){a:Addr}{w:World}(f:Vars w A m) :
  CP 10 #[.iface 198 (.pointer (some a))] w fun e u=>e=.returned (Vi 0)/\BW w u:=by
 have b:BW w (w.alloc (.cells #[.pointer none] 59)):=Zbal;go_enter func10,ntmps10
 go_wp2_with fail
 refine(ZtQ (f.alloc _).handle).mono ?_;rintro e u ⟨rfl,c⟩;have d:BW w u:=b.trans (c.mono (by simp));clear c b;go_wp2;go_ret;exact⟨rfl,d⟩
theorem ZdB(A:Nat->Addr)(m:Int)(fa:Nat)(i:Int){w:World}(g:Vars w A m)(d:w.cell? ⟨fa,1,none⟩=some (Vi i)) :
  CP 10 #[.iface 59 (Vp fa)] w fun e a=>e=.returned (Vi i)/\BW w a:=by
 have f:fa<w.heap.size:=Yai _ _ d;go_enter func10,ntmps10
 go_wp2_with fail
 refine(ZtP (.pointer none) (g.alloc _).handle (by simp) (by simp)).mono ?_;rintro e a ⟨rfl,c⟩;have b:BW w a:=by rw[c];exact belB
 have c1:a.cell? ⟨w.heap.size,0,none⟩=some (Vp fa):=by
  rw[c];refine Yf9 _ _ _ (u:=.pointer none) ?_;refine(Below.cell (B:=w.heap.size+1) (w:=w.alloc (.cells #[.pointer none] 59)) ?_ (Ybd _)).trans (by simp);exact belB
 have c2:a.cell? ⟨fa,1,none⟩=some (Vi i):=(b.cell (p:=⟨fa,1,none⟩) f).trans d;clear c;go_wp2;go_ret;exact⟨rfl,b⟩
end Go.Proofs.YtmncdbepjhmkgaaGreatDoor
namespace Go.Proofs.YtmncdbepjhmkgaaGreatDoor.LS
open Go Go.RowKit
structure Tok where
 jx:Nat
 txt:LB
 at_:Nat
def run(p:UInt8->Bool):LB->Nat
 | []=>0
 | b::l=>if p b then run p l+1 else 0
def Zdq:LB:=[40,41,123,125,91,93,44,61,43,45,42,47]
def lexC(l:LB)(j:Nat)(c:UInt8)(r:LB):Tok×Nat:=
 if ZC c then (if (ZQ 1000000000 ((c::r).take (run ZC (c::r)))).isSome then ⟨1,(c::r).take (run ZC (c::r)),j⟩else ⟨5,[],j⟩,j+run ZC (c::r))
 else if Zp c then (if 8<run Zp (c::r)then ⟨5,[],j⟩else ⟨2,(c::r).take (run Zp (c::r)),j⟩,j+run Zp (c::r))
 else if c == 34 then match seek 34 r with
  | none=>(⟨5,[],j⟩,l.length)
  | some p=>(if Z3 (r.take p)then ⟨3,r.take p,j⟩else ⟨5,[],j⟩,j+p+2)
 else if c == 33 && r.head? == some 61 then (⟨4,[33,61],j⟩,j+2)
 else if (seek c Zdq).isSome then (⟨4,[c],j⟩,j+1)else (⟨5,[],j⟩,j+1)
def lexJ(l:LB)(j:Nat):Tok×Nat:=match l.drop j with
 | []=>(⟨0,[],j⟩,j)
 | c::r=>lexC l j c r
def Zk(l:LB)(i:Nat):Tok×Nat:=lexJ l (i+run (· == 32) (l.drop i))
theorem Zg6(p:UInt8->Bool)(l:LB):run p l<=l.length:=by
 induction l with
 | nil=>exact Yac _
 | cons b l ih=>unfold run;split <;> simp;omega
theorem Zx9(s:BA)(j:Nat)(h:j<s.size)(a:s[j]=32):Zk (bl s) j=Zk (bl s) (j+1):=by
 unfold Zk;rw[ZdW s j h];have:run (· == 32) (s[j]::(bl s).drop (j+1))=run (· == 32) ((bl s).drop (j+1))+1:=by rw[a];rfl
 rw[this,show j+(run (· == 32) ((bl s).drop (j+1))+1)=j+1+run (· == 32) ((bl s).drop (j+1)) by omega]
theorem ZjD(s:BA)(j:Nat)(h:j<s.size)(a:s[j]≠32):Zk (bl s) j=lexC (bl s) j s[j] ((bl s).drop (j+1)):=by
 unfold Zk;rw[ZdW s j h];have:run (· == 32) (s[j]::(bl s).drop (j+1))=0:=by simp[run,a]
 rw[this,Nat.add_zero];unfold lexJ;rw[ZdW s j h]
theorem ZqF(s:BA)(j:Nat)(h:¬j<s.size)(a:j<=s.size):Zk (bl s) j=(⟨0,[],j⟩,j):=by
 have hd:(bl s).drop j=[]:=Yb8 (by rw[Zd];omega);unfold Zk;rw[hd];show lexJ (bl s) j=_;unfold lexJ;rw[hd]
theorem ZKu(p:UInt8->Bool)(s:BA)(j k:Nat)(e:j<=k)(f:k<=s.size)(a:∀i (h:i<s.size),j<=i->i<k->p s[i]=true)(b:∀h:k<s.size,p s[k]=false):j+run p ((bl s).drop j)=k:=by
 induction hd:k - j generalizing j with
 | zero=>
  obtain rfl:j=k:=by omega
  by_cases h:j<s.size
  ·rw[ZdW s j h];simp[run,b h]
  ·rw[Yb8 (by rw[Zd];omega)];rfl
 | succ n ih=>
  have h:j<s.size:=by omega
  have:=ih (j+1) Om (fun i c g d=>a i c Om d) Om;rw[ZdW s j h];simp only[run,a j h (Yac _) Om,if_true];omega
end Go.Proofs.YtmncdbepjhmkgaaGreatDoor.LS
namespace Go.Proofs.YtmncdbepjhmkgaaGreatDoor
open Go.RowKit LS Go.Proofs.Tryz
theorem ZNU(s:BA)(j:Nat){w:World}(p:s.size<=6000)(o:j<=s.size) :
  CP 82 #[.string s,Vi j,.bool true] w fun e u=>e=.returned (Vi ((j+run ZC ((bl s).drop j):Nat):Int))/\u=w:=by
 go_enter func82,ntmps82;go_wp2
 go_loop [1] (fun i=>∃k:Nat,k<=s.size/\j<=k/\i=Vi k/\Hid (∀q (h:q<s.size),j<=q->q<k->ZC s[q]=true)) (fun i=>s.size - (intOf i).toNat)
 case atStart=>exact⟨j,o,Yac _,rfl,fun q h f g=>by omega⟩
 case round=>
  obtain⟨k,l,b,rfl,c⟩:=hrel;by_cases m:k<s.size
  ·cases n:ZC s[k]
   ·have a:Hid (j+run ZC ((bl s).drop j)=k):=ZKu _ s j k b l c.out (fun _=>n)
    go_wp2_with (first|(go_at_call 81;refine(ZJE).mono ?_;rintro e u ⟨rfl,rfl⟩)|(go_at_call 80;refine(ZJC).mono ?_;rintro e u ⟨rfl,rfl⟩))
    go_ret;exact⟨ZBw (by have:=a.out;omega),rfl⟩
   ·have a : Hid (∀ q (h : q < s.size), j <= q -> q < k + 1 -> ZC s[q] = true) := fun q h f g => by
      rcases Ygf.1 g with d|d
      · exact c.out q h f d
      · subst d;exact n
    go_wp2_with (first|(go_at_call 81;refine(ZJE).mono ?_;rintro e u ⟨rfl,rfl⟩)|(go_at_call 80;refine(ZJC).mono ?_;rintro e u ⟨rfl,rfl⟩))
    go_round
    case rel=>exact⟨k+1,by omega,by omega,by go_num,a⟩
    case measure=>simp[intOf];omega
  ·have a:Hid (j+run ZC ((bl s).drop j)=k):=ZKu _ s j k b l c.out (fun h=>absurd h m);go_wp2;go_ret;exact⟨ZBw (by have:=a.out;omega),rfl⟩
theorem ZLl(s:BA)(j:Nat){w:World}(p:s.size<=6000)(o:j<=s.size) :
  CP 82 #[.string s,Vi j,.bool false] w fun e u=>e=.returned (Vi ((j+run Zp ((bl s).drop j):Nat):Int))/\u=w:=by
 go_enter func82,ntmps82;go_wp2
 go_loop [1] (fun i=>∃k:Nat,k<=s.size/\j<=k/\i=Vi k/\Hid (∀q (h:q<s.size),j<=q->q<k->Zp s[q]=true)) (fun i=>s.size - (intOf i).toNat)
 case atStart=>exact⟨j,o,Yac _,rfl,fun q h f g=>by omega⟩
 case round=>
  obtain⟨k,l,b,rfl,c⟩:=hrel;by_cases m:k<s.size
  ·cases n:Zp s[k]
   ·have a:Hid (j+run Zp ((bl s).drop j)=k):=ZKu _ s j k b l c.out (fun _=>n)
    go_wp2_with (first|(go_at_call 81;refine(ZJE).mono ?_;rintro e u ⟨rfl,rfl⟩)|(go_at_call 80;refine(ZJC).mono ?_;rintro e u ⟨rfl,rfl⟩))
    go_ret;exact⟨ZBw (by have:=a.out;omega),rfl⟩
   ·have a : Hid (∀ q (h : q < s.size), j <= q -> q < k + 1 -> Zp s[q] = true) := fun q h f g => by
      rcases Ygf.1 g with d|d
      · exact c.out q h f d
      · subst d;exact n
    go_wp2_with (first|(go_at_call 81;refine(ZJE).mono ?_;rintro e u ⟨rfl,rfl⟩)|(go_at_call 80;refine(ZJC).mono ?_;rintro e u ⟨rfl,rfl⟩))
    go_round
    case rel=>exact⟨k+1,by omega,by omega,by go_num,a⟩
    case measure=>simp[intOf];omega
  ·have a:Hid (j+run Zp ((bl s).drop j)=k):=ZKu _ s j k b l c.out (fun h=>absurd h m);go_wp2;go_ret;exact⟨ZBw (by have:=a.out;omega),rfl⟩
def ZKN(e:Ending)(ts:BA)(r:Tok×Nat):Prop:=e=.returned (.tuple #[.agg #[Vi (r.1.jx:Nat),.string ts,Vi (r.1.at_:Nat)],Vi (r.2:Nat)])/\bl ts=r.1.txt
theorem ZJP{ts:BA}{k a p:Nat}{r:Tok×Nat}{x y z:Int}(h:r=(⟨k,bl ts,a⟩,p))(b:x=(k:Nat))(c:y=(a:Nat))(d:z=(p:Nat)):ZKN (.returned (.tuple #[.agg #[Vi x,.string ts,Vi y],Vi z])) ts r:=by
 subst h;subst b;subst c;subst d;exact⟨rfl,rfl⟩
theorem ZMU{s:BA}{i:Nat}{w:World}(L:s.size<=6000)(T:i<=s.size) :
  CP 59 #[.string s,Vi i] w fun e u=>(∃ts:BA,ZKN e ts (Zk (bl s) i))/\BW w u:=by
 go_enter func59,ntmps59;go_wp2
 go_loop [1] (fun v=>∃j:Nat,j<=s.size/\v=Vi j/\Hid (Zk (bl s) i=Zk (bl s) j)) (fun v=>s.size - (intOf v).toNat)
 case atStart=>exact⟨i,T,rfl,rfl⟩
 case round=>
  obtain⟨j,P,rfl,H⟩:=hrel;by_cases r:j<s.size
  ·by_cases t:s[j]=32
   ·have b:Hid (Zk (bl s) i=Zk (bl s) (j+1)):=hid (by rw[H.out];exact Zx9 s j r t);have U:((s[j].toNat:Int) == 32)=true:=by rw[t];rfl
    clear t;go_wp2
    go_round
    case rel=>exact⟨j+1,by omega,by go_num,b⟩
    case measure=>simp[intOf];omega
   ·have b:Hid (Zk (bl s) i=lexC (bl s) j s[j] ((bl s).drop (j+1))):=hid (by rw[H.out];exact ZjD s j r t)
    have U:((s[j].toNat:Int) == 32)=false:=by
     rw[beq_eq_false_iff_ne];intro h;exact t (Ydf.1 (by show s[j].toNat=32;omega))
    have Q:((j:Int) == (s.size:Int))=false:=by rw[beq_eq_false_iff_ne];omega
    clear t H;have g:(bl s).drop j=s[j]::(bl s).drop (j+1):=ZdW s j r;have W:j+1<=s.size:=r;have X:j<=s.size:=P;cases hd:ZC s[j]
    ·cases I:Zp s[j]
     ·by_cases z:s[j]=34
      ·have M:((s[j].toNat:Int) == 34)=true:=by rw[z];rfl
       have e2:bl (s.extract (j+1) s.size)=(bl s).drop (j+1):=by rw[Zfh,Ya5 (by rw[Zd];exact Yac _)]
       have A:(s.extract (j+1) s.size).size<=6000:=by rw[Yga];omega
       cases f:LS.seek 34 (bl (s.extract (j+1) s.size))with
       | none=>
        have d:Zk (bl s) i=(⟨5,bl ⟨#[]⟩,j⟩,s.size):=by
         rw[b.out];unfold lexC;rw[hd,I,z,<-e2,f,Zd];rfl
        have o:Hid _:=f;clear b g z f e2;have b:Hid _:=d;clear d
        go_wp2_with (first|(go_at_call 80;refine(ZJC).mono ?_;rintro e u ⟨rfl,rfl⟩)|(go_at_call 81;refine(ZJE).mono ?_;rintro e u ⟨rfl,rfl⟩)|fail)
        refine(ZJ0 (c:=34) rfl A o.out).mono ?_;rintro e u ⟨rfl,rfl⟩;go_wp2;exact bodyPost_ret (v:=.tuple #[.agg #[Vi 5,.string ⟨#[]⟩,Vi j],Vi ((s.size:Nat))]) (by simp[results,results59,go_sem]) rfl ⟨⟨⟨#[]⟩,ZJP (k:=5) (a:=j) (p:=s.size) b.out rfl rfl Om⟩,belB⟩
       | some p=>
        have V:p<(s.extract (j+1) s.size).size:=by rw[<-Zd];exact ZBY f
        rw[Yga]at V;have e3:bl (s.extract (j+1) (j+1+p))=((bl s).drop (j+1)).take p:=by rw[Zfh,Yc8];congr 1;omega
        have E:(s.extract (j+1) (j+1+p)).size<=6000:=by rw[Yga];omega
        have Y:j+1+p<=s.size:=by omega
        have d:Zk (bl s) i=(if Z3 (bl (s.extract (j+1) (j+1+p)))then ⟨3,bl (s.extract (j+1) (j+1+p)),j⟩else ⟨5,[],j⟩,j+p+2):=by
         rw[b.out];unfold lexC;rw[hd,I,z,<-e2,f,e3,e2];rfl
        have o:Hid _:=f;clear b g z f e2 e3;cases D:Z3 (bl (s.extract (j+1) (j+1+p)))
        ·have b:Hid (Zk (bl s) i=(⟨5,bl ⟨#[]⟩,j⟩,j+p+2)):=hid (by rw[d,D];rfl);have N:Hid _:=D;clear d D
         go_wp2_with (first|(go_at_call 80;refine(ZJC).mono ?_;rintro e u ⟨rfl,rfl⟩)|(go_at_call 81;refine(ZJE).mono ?_;rintro e u ⟨rfl,rfl⟩)|fail)
         refine(ZJN (c:=34) rfl A o.out).mono ?_;rintro e u ⟨rfl,rfl⟩
         go_wp2_with fail
         refine(ZKs E N.out).mono ?_;rintro e u ⟨rfl,rfl⟩;go_wp2;exact bodyPost_ret (v:=.tuple #[.agg #[Vi 5,.string ⟨#[]⟩,Vi j],Vi ((j:Int)+p+2)]) (by simp[results,results59,go_sem]) rfl ⟨⟨⟨#[]⟩,ZJP (k:=5) (a:=j) (p:=j+p+2) b.out rfl rfl Om⟩,belB⟩
        ·have b:Hid (Zk (bl s) i=(⟨3,bl (s.extract (j+1) (j+1+p)),j⟩,j+p+2)):=hid (by rw[d,D];rfl);have N:Hid _:=D;clear d D
         go_wp2_with (first|(go_at_call 80;refine(ZJC).mono ?_;rintro e u ⟨rfl,rfl⟩)|(go_at_call 81;refine(ZJE).mono ?_;rintro e u ⟨rfl,rfl⟩)|fail)
         refine(ZJN (c:=34) rfl A o.out).mono ?_;rintro e u ⟨rfl,rfl⟩
         go_wp2_with fail
         refine(ZKs E N.out).mono ?_;rintro e u ⟨rfl,rfl⟩;go_wp2;exact bodyPost_ret (v:=.tuple #[.agg #[Vi 3,.string (s.extract (j+1) (j+1+p)),Vi j],Vi ((j:Int)+p+2)]) (by simp[results,results59,go_sem]) rfl ⟨⟨(s.extract (j+1) (j+1+p)),ZJP (k:=3) (a:=j) (p:=j+p+2) b.out rfl rfl Om⟩,belB⟩
      ·have M:((s[j].toNat:Int) == 34)=false:=by
        rw[beq_eq_false_iff_ne];intro h;exact z (Ydf.1 (by show s[j].toNat=34;omega))
       have K:(s[j] == 34)=false:=by rw[beq_eq_false_iff_ne];exact z
       have d:Zk (bl s) i=if s[j] == 33 && ((bl s).drop (j+1)).head? == some 61 then (⟨4,[33,61],j⟩,j+2)else if (LS.seek s[j] Zdq).isSome then (⟨4,[s[j]],j⟩,j+1)else (⟨5,[],j⟩,j+1):=by
        rw[b.out];unfold lexC;rw[hd,I,K];rfl
       clear b
       have y:(∃h:j+1<s.size,((s[j].toNat:Int) == 33)=true/\((s[j+1].toNat:Int) == 61)=true/\(s[j] == 33 && ((bl s).drop (j+1)).head? == some 61)=true)∨
         ((((s[j].toNat:Int) == 33)=false∨(((s[j].toNat:Int) == 33)=true/\¬j+1<s.size)∨(∃h:j+1<s.size,((s[j].toNat:Int) == 33)=true/\((s[j+1].toNat:Int) == 61)=false))/\(s[j] == 33 && ((bl s).drop (j+1)).head? == some 61)=false):=by
        by_cases B:s[j]=33
        ·have b33:((s[j].toNat:Int) == 33)=true:=by rw[B];rfl
         by_cases l:j+1<s.size
         ·rw[ZdW s (j+1) l];by_cases C:s[j+1]=61
          ·exact Or.inl ⟨l,b33,by rw[C];rfl,by rw[B,C];rfl⟩
          ·refine Or.inr ⟨Or.inr (Or.inr ⟨l,b33,?_⟩),by simp[C]⟩;rw[beq_eq_false_iff_ne];intro h;exact C (Ydf.1 (by show s[j+1].toNat=61;omega))
         ·refine Or.inr ⟨Or.inr (Or.inl ⟨b33,l⟩),?_⟩;rw[Yb8 (by rw[Zd];omega)];simp
        ·refine Or.inr ⟨Or.inl ?_,by simp[B]⟩;rw[beq_eq_false_iff_ne];intro h;exact B (Ydf.1 (by show s[j].toNat=33;omega))
       clear g z K;rcases y with ⟨l,b33,b61,x⟩|⟨y,x⟩
       ·have b:Hid (Zk (bl s) i=(⟨4,bl ⟨#[33,61]⟩,j⟩,j+2)):=hid (by rw[d,if_pos x];rfl);clear d x
        go_wp2_with (first|(go_at_call 80;refine(ZJC).mono ?_;rintro e u ⟨rfl,rfl⟩)|(go_at_call 81;refine(ZJE).mono ?_;rintro e u ⟨rfl,rfl⟩)|fail)
        exact bodyPost_ret (v:=.tuple #[.agg #[Vi 4,.string ⟨#[33,61]⟩,Vi j],Vi ((j:Int)+2)]) (by simp[results,results59,go_sem]) rfl ⟨⟨⟨#[33,61]⟩,ZJP (k:=4) (a:=j) (p:=j+2) b.out rfl rfl Om⟩,belB⟩
       ·rw[x]at d
        have e1:bl (s.extract j (j+1))=[s[j]]:=by
         rw[Zfh,Yc8,ZdW s j r,Nat.add_sub_cancel_left];rfl
        have F:(⟨#[40,41,123,125,91,93,44,61,43,45,42,47]⟩:BA).size<=6000:=by decide
        have ebs:bl ⟨#[40,41,123,125,91,93,44,61,43,45,42,47]⟩=Zdq:=rfl;cases f:LS.seek s[j] Zdq with
        | none=>
         have b:Hid (Zk (bl s) i=(⟨5,bl ⟨#[]⟩,j⟩,j+1)):=hid (by rw[d,f];rfl);have o:Hid (LS.seek s[j] (bl ⟨#[40,41,123,125,91,93,44,61,43,45,42,47]⟩)=none):=f;clear d x f e1 ebs;rcases y with b33|⟨b33,l⟩|⟨l,b33,b61⟩
         all_goals
          go_wp2_with (first|(go_at_call 80;refine(ZJC).mono ?_;rintro e u ⟨rfl,rfl⟩)|(go_at_call 81;refine(ZJE).mono ?_;rintro e u ⟨rfl,rfl⟩)|fail)
          refine(ZJ0 (c:=s[j]) rfl F o.out).mono ?_;rintro e u ⟨rfl,rfl⟩;go_wp2;exact bodyPost_ret (v:=.tuple #[.agg #[Vi 5,.string ⟨#[]⟩,Vi j],Vi ((j:Int)+1)]) (by simp[results,results59,go_sem]) rfl ⟨⟨⟨#[]⟩,ZJP (k:=5) (a:=j) (p:=j+1) b.out rfl rfl Om⟩,belB⟩
        | some p=>
         have b:Hid (Zk (bl s) i=(⟨4,bl (s.extract j (j+1)),j⟩,j+1)):=hid (by rw[d,f,e1];rfl);have o:Hid (LS.seek s[j] (bl ⟨#[40,41,123,125,91,93,44,61,43,45,42,47]⟩)=some p):=f;clear d x f e1 ebs;rcases y with b33|⟨b33,l⟩|⟨l,b33,b61⟩
         all_goals
          go_wp2_with (first|(go_at_call 80;refine(ZJC).mono ?_;rintro e u ⟨rfl,rfl⟩)|(go_at_call 81;refine(ZJE).mono ?_;rintro e u ⟨rfl,rfl⟩)|fail)
          refine(ZJN (c:=s[j]) rfl F o.out).mono ?_;rintro e u ⟨rfl,rfl⟩;go_wp2;exact bodyPost_ret (v:=.tuple #[.agg #[Vi 4,.string (s.extract j (j+1)),Vi j],Vi ((j:Int)+1)]) (by simp[results,results59,go_sem]) rfl ⟨⟨(s.extract j (j+1)),ZJP (k:=4) (a:=j) (p:=j+1) b.out rfl rfl Om⟩,belB⟩
     ·have q:run Zp ((bl s).drop j)<=((bl s).drop j).length:=Zg6 _ _;rw[Ybv,Zd]at q
      have d:Zk (bl s) i=(if 8<run Zp ((bl s).drop j)then ⟨5,[],j⟩else ⟨2,((bl s).drop j).take (run Zp ((bl s).drop j)),j⟩,j+run Zp ((bl s).drop j)):=by
       rw[b.out];unfold lexC;rw[hd,I,<-g];rfl
      obtain⟨n,l⟩:∃n,run Zp ((bl s).drop j)=n:=⟨_,rfl⟩
      rw[l]at d q;have G:Hid _:=d;have J:Hid (run Zp ((bl s).drop j)=n):=l;clear d l b g;have O:j+n<=s.size:=by omega
      have e3:bl (s.extract j (j+n))=((bl s).drop j).take n:=by rw[Zfh,Yc8];congr 1;omega
      have E3:Hid _:=e3;clear e3;by_cases R:8<n
      ·have b:Hid (Zk (bl s) i=(⟨5,bl ⟨#[]⟩,j⟩,j+n)):=hid (by rw[G.out,if_pos R];rfl)
       go_wp2_with (first|(go_at_call 80;refine(ZJC).mono ?_;rintro e u ⟨rfl,rfl⟩)|(go_at_call 81;refine(ZJE).mono ?_;rintro e u ⟨rfl,rfl⟩)|fail)
       refine(ZLl s j L Om).mono ?_;rintro e u ⟨rfl,rfl⟩;rw[J.out];go_wp2;exact bodyPost_ret (v:=.tuple #[.agg #[Vi 5,.string ⟨#[]⟩,Vi j],Vi ((j:Int)+n)]) (by simp[results,results59,go_sem]) rfl ⟨⟨⟨#[]⟩,ZJP (k:=5) (a:=j) (p:=j+n) b.out rfl rfl Om⟩,belB⟩
      ·have b:Hid (Zk (bl s) i=(⟨2,bl (s.extract j (j+n)),j⟩,j+n)):=hid (by rw[G.out,if_neg R,E3.out])
       go_wp2_with (first|(go_at_call 80;refine(ZJC).mono ?_;rintro e u ⟨rfl,rfl⟩)|(go_at_call 81;refine(ZJE).mono ?_;rintro e u ⟨rfl,rfl⟩)|fail)
       refine(ZLl s j L Om).mono ?_;rintro e u ⟨rfl,rfl⟩;rw[J.out];go_wp2;exact bodyPost_ret (v:=.tuple #[.agg #[Vi 2,.string (s.extract j (j+n)),Vi j],Vi ((j:Int)+n)]) (by simp[results,results59,go_sem]) rfl ⟨⟨(s.extract j (j+n)),ZJP (k:=2) (a:=j) (p:=j+n) b.out rfl rfl Om⟩,belB⟩
    ·have q:run ZC ((bl s).drop j)<=((bl s).drop j).length:=Zg6 _ _;rw[Ybv,Zd]at q
     have d:Zk (bl s) i=(if (ZQ 1000000000 (((bl s).drop j).take (run ZC ((bl s).drop j)))).isSome then ⟨1,((bl s).drop j).take (run ZC ((bl s).drop j)),j⟩else ⟨5,[],j⟩,j+run ZC ((bl s).drop j)):=by
      rw[b.out];unfold lexC;rw[hd,<-g];rfl
     obtain⟨n,l⟩:∃n,run ZC ((bl s).drop j)=n:=⟨_,rfl⟩
     rw[l]at d q;have J:Hid (run ZC ((bl s).drop j)=n):=l;clear l b g;have O:j+n<=s.size:=by omega
     have e3:bl (s.extract j (j+n))=((bl s).drop j).take n:=by rw[Zfh,Yc8];congr 1;omega
     have A:(s.extract j (j+n)).size<=6000:=by rw[Yga];omega
     rw[<-e3]at d;have G:Hid _:=d;clear e3 d;have S:=Zmr 1000000000 (bl (s.extract j (j+n)))
     go_wp2_with (first|(go_at_call 80;refine(ZJC).mono ?_;rintro e u ⟨rfl,rfl⟩)|(go_at_call 81;refine(ZJE).mono ?_;rintro e u ⟨rfl,rfl⟩)|fail)
     refine(ZNU s j L Om).mono ?_;rintro e u ⟨rfl,rfl⟩;rw[J.out]
     go_wp2_with fail
     refine(ZJ2 1000000000 rfl A Om).mono ?_;rintro e u ⟨rfl,rfl⟩;cases m:ZQ 1000000000 (bl (s.extract j (j+n)))with
     | none=>
      have b:Hid (Zk (bl s) i=(⟨5,bl ⟨#[]⟩,j⟩,j+n)):=hid (by rw[G.out,m];rfl);rw[Zrj m];clear m S;go_wp2;exact bodyPost_ret (v:=.tuple #[.agg #[Vi 5,.string ⟨#[]⟩,Vi j],Vi ((j:Int)+n)]) (by simp[results,results59,go_sem]) rfl ⟨⟨⟨#[]⟩,ZJP (k:=5) (a:=j) (p:=j+n) b.out rfl rfl Om⟩,belB⟩
     | some v=>
      have b:Hid (Zk (bl s) i=(⟨1,bl (s.extract j (j+n)),j⟩,j+n)):=hid (by rw[G.out,m];rfl);rw[ZgX m];clear m S;go_wp2;exact bodyPost_ret (v:=.tuple #[.agg #[Vi 1,.string (s.extract j (j+n)),Vi j],Vi ((j:Int)+n)]) (by simp[results,results59,go_sem]) rfl ⟨⟨(s.extract j (j+n)),ZJP (k:=1) (a:=j) (p:=j+n) b.out rfl rfl Om⟩,belB⟩
  ·have b:Hid (Zk (bl s) i=(⟨0,[],j⟩,j)):=hid (by rw[H.out];exact ZqF s j r P);have Q:((j:Int) == (s.size:Int))=true:=by rw[beq_iff_eq];omega
   go_wp2;exact bodyPost_ret (v:=.tuple #[.agg #[Vi 0,.string ⟨#[]⟩,Vi j],Vi j]) (by simp[results,results59,go_sem]) rfl ⟨⟨⟨#[]⟩,ZJP (k:=0) (a:=j) (p:=j) b.out rfl rfl rfl⟩,belB⟩
end Go.Proofs.YtmncdbepjhmkgaaGreatDoor
namespace Go.Proofs.YtmncdbepjhmkgaaGreatDoor.LS
open Go Go.RowKit
structure Nd where
 jx:Nat
 op:Nat
 n:Int
 name:LB
 jy:List (LB×LB×Bool)
 by_:List (LB)
abbrev Tr:=Go.Deep.BT Nd
abbrev Out (α:Type):=Except (Nat×Nat) (α×List Tok)
def Zbg(a:Nd):Tr:=.node 0 0 a .nil .nil
def nd0(jx op:Nat):Nd:=⟨jx,op,0,[],[],[]⟩
def ZN(l:LB):Nat->Nat->List Tok
 | 0,_=>[]
 | n+1,i=>if (Zk l i).1.jx=0∨(Zk l i).1.jx=5 then [(Zk l i).1] else (Zk l i).1::ZN l n (Zk l i).2
def hd(ts:List Tok):Tok:=ts.headD ⟨0,[],0⟩
def wOr:LB:=[111,114]
def wBy:LB:=[98,121]
def ZW:List (LB):=[[115,117,109],[109,97,120],[109,105,110],[99,111,117,110,116]]
def Z0:List (LB):=[[116,111,116,97,108],[112,101,97,107],[108,111,119],[115,105,122,101],[114,105,115,101]]
def idx(w:LB):List (LB)->Option Nat
 | []=>none
 | x::l=>if x=w then some 0 else (idx w l).map (· + 1)
def isT(s:LB)(t:Tok):Bool:=(t.jx == 2 || t.jx == 4) && t.txt == s
def bnd{α β:Type}(x:Out α)(f:α->List Tok->Out β):Out β:=match x with
 | .error e=>.error e
 | .ok (a,ts)=>f a ts
def Zq(s:LB)(ts:List Tok):Out Unit:=if isT s (hd ts)then .ok ((),ts.tail)else .error (2,(hd ts).at_)
def ZH(k:Nat)(ts:List Tok):Out (LB):=if (hd ts).jx=k then .ok ((hd ts).txt,ts.tail)else .error (2,(hd ts).at_)
def ZS{α:Type}(item:List Tok->Out α)(close:LB):Nat->List α->List Tok->Out (List α)
 | 0,_,_=>.error (0,0)
 | n + 1, acc, ts => if isT close (hd ts) then .ok (acc, ts.tail) else
   bnd (if acc.isEmpty then .ok ((),ts)else Zq [44] ts) fun _ r=>bnd (item r) fun a r=>ZS item close n (acc++[a]) r
def Zdc(ts:List Tok):Out Bool:=if isT [33,61] (hd ts)then .ok (true,ts.tail)else bnd (Zq [61] ts) fun _ r=>.ok (false,r)
def ZV(ts:List Tok):Out (LB×LB×Bool):=bnd (ZH 2 ts) fun a r=>bnd (Zdc r) fun n r=>bnd (ZH 3 r) fun b r=>.ok ((a,b,n),r)
def Zgp(t:Tok):Bool:=(idx t.txt ZW).isSome || (idx t.txt Z0).isSome || isT wOr t || isT wBy t
def ZdQ(ts:List Tok):Out (LB):=if Zgp (hd ts)then .error (2,(hd ts).at_)else ZH 2 ts
def selP(ts:List Tok):Out Nd:=bnd (ZdQ ts) fun a r=>if isT [123] (hd r)then bnd (ZS ZV [125] r.length [] r.tail) fun cs r=>.ok (⟨1,0,0,a,cs,[]⟩,r)else .ok (⟨1,0,0,a,[],[]⟩,r)
def Zc2(ts:List Tok):Out Int:=if (hd ts).jx=1/\1<=numI 1000 (hd ts).txt then .ok (numI 1000 (hd ts).txt,ts.tail)else .error (2,(hd ts).at_)
def winP(o:Nat)(ts:List Tok):Out Tr:=bnd (Zq [40] ts) fun _ r=>bnd (selP r) fun p r=>bnd (Zq [91] r) fun _ r=>bnd (Zc2 r) fun n r=>bnd (Zq [93] r) fun _ r=>bnd (Zq [41] r) fun _ r=>.ok (Zbg ⟨2,o,n,p.name,p.jy,[]⟩,r)
def Zbu(rec:Nat->List Tok->Nat->Out Tr)(ts:List Tok)(deep:Nat):Out Tr:=bnd (Zq [40] ts) fun _ r=>bnd (rec 0 r deep) fun a r=>bnd (Zq [41] r) fun _ r=>.ok (a,r)
def Zcb(rec:Nat->List Tok->Nat->Out Tr)(g:Nat)(ts:List Tok)(deep:Nat):Out Tr:=bnd (Zq wBy ts) fun _ r=>bnd (Zq [40] r) fun _ r=>bnd (ZS (ZH 2) [41] (r.length+1) [] r) fun ns r=>bnd (Zbu rec r deep) fun a r=>.ok (.node 0 0 ⟨5,g,0,[],[],ns⟩ a .nil,r)
def ZdD(t:Tok):Bool:=t.jx == 1 || isT [45] t || isT [40] t || (t.jx == 2 && !isT wOr t && !isT wBy t)
def numV(l:LB):Int:=((ZQ 1000000000 l).getD 0:Nat)
def Zbw(rec:Nat->List Tok->Nat->Out Tr)(ts:List Tok)(deep:Nat):Out Tr:=
 if (hd ts).jx=1 then .ok (Zbg ⟨0,0,numV (hd ts).txt,[],[],[]⟩,ts.tail)
 else if isT [45] (hd ts)then bnd (rec 3 ts.tail deep) fun a r=>.ok (.node 0 0 (nd0 3 0) a .nil,r)
 else if isT [40] (hd ts)then Zbu rec ts deep
 else match idx (hd ts).txt ZW with
  | some g=>Zcb rec g ts.tail deep
  | none => match idx (hd ts).txt Z0 with
    | some o=>winP o ts.tail
    | none=>bnd (selP ts) fun p r=>.ok (Zbg p,r)
def Zb9(rec:Nat->List Tok->Nat->Out Tr)(ts:List Tok)(deep:Nat):Out Tr:=
 if ZdD (hd ts)then (if deep=20 then .error (3,(hd ts).at_)else Zbw rec ts (deep+1))else .error (2,(hd ts).at_)
def opAt(lv:Nat)(t:Tok):Option (Nat×Nat):=
 if lv=0 then (if isT wOr t then some (6,0)else none)
 else if lv=1 then (if isT [43] t then some (4,0)else if isT [45] t then some (4,1)else none)
 else (if isT [42] t then some (4,2)else if isT [47] t then some (4,3)else none)
def Zs:Nat->Bool->Nat->Tr->List Tok->Nat->Out Tr
 | 0,_,_,_,_,_=>.error (0,0)
 | n + 1, false, lv, _, ts, deep => if lv = 3 then Zb9 (fun lv ts d => Zs n false lv .nil ts d) ts deep
   else bnd (Zs n false (lv+1) .nil ts deep) fun a r=>Zs n true lv a r deep
 | n + 1, true, lv, a, ts, deep => match opAt lv (hd ts) with
   | none=>.ok (a,ts)
   | some p=>bnd (Zs n false (lv+1) .nil ts.tail deep) fun b r=>Zs n true lv (.node 0 0 (nd0 p.1 p.2) a b) r deep
def Zf:Tr->Nat
 | .nil=>1
 | .node _ _ a l r => if a.jx = 0 then 1 else if a.jx = 1 ∨ a.jx = 2 then 2 else if a.jx = 3 then Zf l
   else if a.jx=5 then (if Zf l=2 then 2 else 0)
   else if Zf l=0∨Zf r=0∨(a.jx=6/\Zf l+Zf r≠4)then 0 else if Zf l+Zf r=2 then 1 else 2
def ZD(l:LB):Except (Nat×Nat) Tr:=
 if 300<l.length then .error (1,0)else
 match Zs (10*(ZN l (l.length+1) 0).length+5) false 0 .nil (ZN l (l.length+1) 0) 0 with
 | .error e=>.error e
 | .ok (t,r)=>if (hd r).jx=0 then (if Zf t=0 then .error (4,0)else .ok t)else .error (2,(hd r).at_)
def Zz(a:Nd):Nat:=if a.jx=6 then 1 else if a.jx=4 then (if a.op<2 then 2 else 3)else 4
def ZRV:List (LB)->LB
 | []=>[]
 | [a]=>a
 | a::l=>a++44::ZRV l
def Z8(c:LB×LB×Bool):LB:=c.1++(if c.2.2 then [33,61] else [61])++[34]++c.2.1++[34]
def selS(a:Nd):LB:=if a.jy=[] then a.name else a.name++[123]++ZRV (a.jy.map Z8)++[125]
end Go.Proofs.YtmncdbepjhmkgaaGreatDoor.LS
namespace Go.Proofs.YtmncdbepjhmkgaaGreatDoor
open Go.RowKit LS Go.Proofs.Tryz
structure QV where
 pv:Value
 s:BA
 at_:Nat
 k:Nat
 tx:BA
 ta:Nat
 deep:Nat
 e:Nat
 pl:Nat
def QV.cells(q:QV):Array Value:=#[q.pv,.string q.s,Vi q.at_,Vi q.k,.string q.tx,Vi q.ta,Vi q.deep,Vi q.e,Vi q.pl]
def QAt(w:World)(b:Nat)(q:QV):Prop:=w.heap[b]?=some (.cells q.cells 74 (0,0))
theorem QAt.lt{w:World}{b:Nat}{q:QV}(h:QAt w b q):b<w.heap.size:=(Yae.1 h).1
theorem QAt.frozen{w:World}{b:Nat}{q:QV}(h:QAt w b q)(o:Nat):w.frozen? ⟨b,o,none⟩=false:=by
 unfold QAt at h;simp[World.frozen?,h]
theorem QAt.cell{w:World}{b:Nat}{q:QV}(h:QAt w b q)(o:Nat)(v:Value)(a:q.cells[o]?=some v):w.cell? ⟨b,o,none⟩=some v:=by
 unfold QAt at h;simp only[World.cell?,h];simpa using a
theorem QAt.all{w:World}{b:Nat}{q:QV}(h:QAt w b q) :
  w.cell? ⟨b,0,none⟩=some q.pv/\w.cell? ⟨b,1,none⟩=some (.string q.s)/\w.cell? ⟨b,2,none⟩=some (Vi q.at_)/\w.cell? ⟨b,3,none⟩=some (Vi q.k)/\w.cell? ⟨b,4,none⟩=some (.string q.tx)/\
  w.cell? ⟨b,5,none⟩=some (Vi q.ta)/\w.cell? ⟨b,6,none⟩=some (Vi q.deep)/\w.cell? ⟨b,7,none⟩=some (Vi q.e)/\w.cell? ⟨b,8,none⟩=some (Vi q.pl):=
 ⟨h.cell 0 _ rfl,h.cell 1 _ rfl,h.cell 2 _ rfl,h.cell 3 _ rfl,h.cell 4 _ rfl,h.cell 5 _ rfl,h.cell 6 _ rfl,h.cell 7 _ rfl,h.cell 8 _ rfl⟩
theorem QAt.set{w:World}{b:Nat}{q q':QV}(h:QAt w b q)(o:Nat)(v:Value)(a:q.cells.setIfInBounds o v=q'.cells):QAt (w.setCell ⟨b,o,none⟩ v) b q':=by
 unfold QAt at h ⊢;simp only[World.setCell,Ybn,h,if_true,Ybf];rw[<-a];rfl
theorem QAt.other{w:World}{b:Nat}{q:QV}(h:QAt w b q){a:Addr}(c:b≠a.block)(v:Value):QAt (w.setCell a v) b q:=(Go.Deep.blk_setCell_other w a v b c).trans h
theorem QAt.alloc{w:World}{b:Nat}{q:QV}(h:QAt w b q)(o:Obj):QAt (w.alloc o) b q:=(Go.Deep.blk_alloc_lt w o b h.lt).trans h
theorem QAt.below{w w':World}{b:Nat}{q:QV}(h:QAt w b q)(a:BW w w'):QAt w' b q:=(a.block b h.lt).trans h
theorem Zw{w w':World}{r:Option Nat}(h:BW w w'):w.grownBy w' r:=⟨h.os,h.tape,h.output,h.size,fun k a _=>h.block k a⟩
theorem ZbM(w:World)(r:Option Nat):w.grownBy w r:=⟨rfl,rfl,rfl,Yac _,fun _ _ _=>rfl⟩
theorem Zj{a b c:World}{r:Option Nat}(h:a.grownBy b r)(d:b.grownBy c r):a.grownBy c r:=
 ⟨d.os.trans h.os,d.tape.trans h.tape,d.output.trans h.output,Yah h.size d.size,fun k e f=>(d.block k (Yaw e h.size) f).trans (h.block k e f)⟩
theorem ZA{a w:World}{b:Nat}(h:a.grownBy w (some b)){p:Addr}(c:p.block=b∨a.heap.size<=p.block){v:Value}:a.grownBy (w.setCell p v) (some b):=
 ⟨h.os,h.tape,h.output,by rw[Go.Deep.nblk_setCell];exact h.size,fun k e d=>(Go.Deep.blk_setCell_other w p v k (by rintro rfl;rcases c with c|c;exact d (by rw[c]);omega)).trans (h.block k e d)⟩
theorem ZbR{a w:World}{r:Option Nat}(h:a.grownBy w r){o:Obj}:a.grownBy (w.alloc o) r:=
 ⟨h.os,h.tape,h.output,by rw[Go.Deep.nblk_alloc];have:=h.size;omega,fun k b c=>(Go.Deep.blk_alloc_lt w o k (Yaw b h.size)).trans (h.block k b c)⟩
theorem Zdi{a w:World}{r:Option Nat}(h:a.grownBy w r):a.grownBy w.drew r:=⟨h.os,h.tape,h.output,h.size,h.block⟩
theorem ZeT{a b c:World}{r:Option Nat}(h:a.grownBy b r)(d:BW b c):a.grownBy c r:=Zj h (Zw d)
theorem ZLy{w W a:World}{x y z:Value}{t:TypeId}(c:BW W a)(b:W.heap=(w.alloc (.cells #[x,y,z] t)).heap) :
  a.cell? ⟨w.heap.size,0,none⟩=some x/\a.cell? ⟨w.heap.size,1,none⟩=some y/\a.cell? ⟨w.heap.size,2,none⟩=some z/\
  a.frozen? ⟨w.heap.size,0,none⟩=false/\a.frozen? ⟨w.heap.size,1,none⟩=false/\a.frozen? ⟨w.heap.size,2,none⟩=false:=by
 have d:W.heap.size=w.heap.size+1:=by rw[b];exact Go.Deep.nblk_alloc _ _
 have h:a.heap[w.heap.size]?=some (.cells #[x,y,z] t):=by
  rw[c.block _ Om,b];exact Go.Deep.blk_alloc_new _ _
 refine⟨?_,?_,?_,?_,?_,?_⟩ <;> simp[World.cell?,World.frozen?,h]
theorem ZS5{w W y:World}{o:Obj}(b:W.heap=(w.alloc o).heap)(c:W.os=w.os)(d:W.tape=w.tape)(e:W.output=w.output)(a:BW W y):BW w y/\w.heap.size<y.heap.size:=by
 have g:W.heap.size=w.heap.size+1:=by rw[b];exact Go.Deep.nblk_alloc _ _
 have:=a.size;exact⟨⟨a.os.trans c,a.tape.trans d,a.output.trans e,by omega,fun k f=>(a.block k Om).trans (by rw[b];exact Go.Deep.blk_alloc_lt _ _ _ f)⟩,by omega⟩
theorem ZJ4{W:World}{x o p:Nat}{a:Value}{r:Option Value}(h:W.cell? ⟨x,o,none⟩=r)(b:p≠o):(W.setCell ⟨x,p,none⟩ a).cell? ⟨x,o,none⟩=r:=
 (World.cell?_setCell_other _ _ _ _ (by intro e;injection e with _ e2;exact b e2)).trans h
theorem ZND{W:World}{x:Nat}{u v y a b c:Value}(k0:W.cell? ⟨x,0,none⟩=some u)(k1:W.cell? ⟨x,1,none⟩=some v)(k2:W.cell? ⟨x,2,none⟩=some y) :
  (((W.setCell ⟨x,0,none⟩ a).setCell ⟨x,1,none⟩ b).setCell ⟨x,2,none⟩ c).cell? ⟨x,0,none⟩=some a/\(((W.setCell ⟨x,0,none⟩ a).setCell ⟨x,1,none⟩ b).setCell ⟨x,2,none⟩ c).cell? ⟨x,1,none⟩=some b/\
  (((W.setCell ⟨x,0,none⟩ a).setCell ⟨x,1,none⟩ b).setCell ⟨x,2,none⟩ c).cell? ⟨x,2,none⟩=some c:=
 ⟨ZJ4 (ZJ4 (Yf9 _ _ _ k0) Dc) Dc,ZJ4 (Yf9 _ _ _ (ZJ4 k1 Dc)) Dc,Yf9 _ _ _ (ZJ4 (ZJ4 k2 Dc) Dc)⟩
theorem ZNe(w:World)(b:Nat)(q:QV)(e:Nat)(h:QAt w b q)(a:q.e=0) :
  CP 26 #[Vp b,Vi e] w fun r u=>r=.returned (.tuple #[])/\QAt u b { q with e:=e,pl:=q.ta }/\w.grownBy u (some b):=by
 obtain⟨c0,c1,c2,c3,c4,c5,c6,c7,c8⟩:=h.all;have f7:=h.frozen 7;have f8:=h.frozen 8;have d:((q.e:Int) == 0)=true:=by rw[a];rfl
 have c:Hid (QAt w b q):=h;clear h a;go_enter func26,ntmps26;go_wp2
 go_end0
 exact⟨rfl,QAt.set (QAt.set (q':={ q with e:=e }) c.out 7 _ rfl) 8 _ rfl,(by repeat (first|exact ZbM _ _|assumption|refine ZA ?_ (by first|exact Or.inl rfl|(right;omega)|(right;simp;omega))|refine ZbR ?_|refine Zdi ?_))⟩
theorem ZNd(w:World)(b:Nat)(q:QV)(e:Int)(h:QAt w b q)(a:q.e≠0) :
  CP 26 #[Vp b,Vi e] w fun r u=>r=.returned (.tuple #[])/\u=w:=by
 obtain⟨c0,c1,c2,c3,c4,c5,c6,c7,c8⟩:=h.all;have c:((q.e:Int) == 0)=false:=by rw[beq_eq_false_iff_ne];omega
 have d:Hid (QAt w b q):=h;clear h a;go_enter func26,ntmps26;go_wp2
 go_end0
 exact⟨rfl,rfl⟩
theorem ZNf(w:World)(b:Nat)(q:QV)(s:BA)(h:QAt w b q)(a:q.e≠0) :
  CP 61 #[Vp b,.string s] w fun r u=>r=.returned (.bool false)/\u=w:=by
 obtain⟨c0,c1,c2,c3,c4,c5,c6,c7,c8⟩:=h.all;have c:((q.e:Int) == 0)=false:=by rw[beq_eq_false_iff_ne];omega
 have d:Hid (QAt w b q):=h;clear h a;go_enter func61,ntmps61;go_wp2;go_ret;exact⟨rfl,rfl⟩
def ZJB(q:QV):Tok:=⟨q.k,bl q.tx,q.ta⟩
theorem ZML (s : BA) (q : QV) : isT (bl s) (ZJB q) = ((((q.k : Int) == 2) || ((q.k : Int) == 4)) && (q.tx.toList == s.toList)) := by
  unfold isT ZJB;rw[Zbt,Zbt];have e2:((q.k:Int) == 2)=(q.k == 2):=by rw[Ybh,beq_iff_eq,beq_iff_eq];omega
  have e4:((q.k:Int) == 4)=(q.k == 4):=by rw[Ybh,beq_iff_eq,beq_iff_eq];omega
  rw[e2,e4]
theorem ZNg(w:World)(b:Nat)(q:QV)(s:BA)(h:QAt w b q)(a:q.e=0) :
  CP 61 #[Vp b,.string s] w fun r u=>r=.returned (.bool (isT (bl s) (ZJB q)))/\u=w:=by
 obtain⟨c0,c1,c2,c3,c4,c5,c6,c7,c8⟩:=h.all;have g:((q.e:Int) == 0)=true:=by rw[a];rfl
 have i:Hid (QAt w b q):=h;clear h a;rw[ZML];generalize c:((q.k:Int) == 2)=x2;generalize d:((q.k:Int) == 4)=x4;generalize f:(q.tx.toList == s.toList)=xs;go_enter func61,ntmps61;cases x2 <;> cases x4 <;> cases xs <;> (go_wp2;go_ret;exact⟨rfl,rfl⟩)
theorem ZLb(w:World)(b:Nat)(q:QV)(h:QAt w b q)(A:q.s.size<=6000)(B:q.at_<=q.s.size) :
  CP 24 #[Vp b] w fun r u => r = .returned (.tuple #[]) /\ (∃ ts : BA, bl ts = (Zk (bl q.s) q.at_).1.txt /\
    QAt u b { q with at_:=(Zk (bl q.s) q.at_).2,k:=(Zk (bl q.s) q.at_).1.jx,tx:=ts,ta:=(Zk (bl q.s) q.at_).1.at_ })/\w.grownBy u (some b):=by
 obtain⟨c0,c1,c2,c3,c4,c5,c6,c7,c8⟩:=h.all;have G:=h.lt;have p:Hid (QAt w b q):=h;clear h;generalize v:Zk (bl q.s) q.at_=r;have C:Hid _:=v;clear v;go_enter func24,ntmps24
 go_upto_region 0 with fail
 go_cut [2, 3] (fun s2 s3 f => ∃ (x : Nat) (ts : BA), s2 = Vp x /\ s3 = Vi r.2 /\ Hid (bl ts = r.1.txt) /\ b ≠ x /\ Hid (QAt f b q) /\ Hid (w.grownBy f (some b)) /\
   f.cell? ⟨x,0,none⟩=some (Vi r.1.jx)/\f.cell? ⟨x,1,none⟩=some (.string ts)/\f.cell? ⟨x,2,none⟩=some (Vi r.1.at_))
 case first=>
  go_region_with (go_at_call 59;refine(ZMU A B).mono ?_;rintro e g ⟨⟨ts,j⟩,a⟩;rw[C.out]at j;obtain⟨rfl,l⟩:=j;try (have m:=ZLy (w:=w) (x:=Vi 0) (y:=.string ⟨#[]⟩) (z:=Vi 0) (t:=72) a rfl;obtain⟨k0,k1,k2,g0,g1,g2⟩:=m))
  all_goals
   have n:QAt g b q:=by first|exact QAt.below (w:=w.drew) p.out a|exact QAt.below (w:=(w.alloc _).drew) (QAt.alloc p.out _) a
   have i:w.grownBy g (some b):=by first|exact ZeT (b:=w.drew) (Zdi (ZbM _ _)) a|exact ZeT (b:=(w.alloc _).drew) (Zdi (ZbR (ZbM _ _))) a
   have H:w.heap.size<=g.heap.size:=i.size;have d:b≠w.heap.size:=by omega
   have o:b≠g.heap.size:=by omega
   clear c0 c1 c2 c3 c4 c5 c6 c7 c8 a
   go_wp2_with fail
   go_meet
   first
    | exact⟨g.heap.size,ts,rfl,rfl,l,o,QAt.alloc n _,ZbR i,by simp,by simp,by simp⟩
    | exact⟨w.heap.size,ts,rfl,rfl,l,d,QAt.other (QAt.other (QAt.other n d _) d _) d _,ZA (ZA (ZA i (Or.inr (Yac _))) (Or.inr (Yac _))) (Or.inr (Yac _)),ZND k0 k1 k2⟩
 case rest=>
  obtain⟨x,ts,rfl,rfl,D,m,c,E,k0,k1,k2⟩:=hcut;clear c0 c1 c2 c3 c4 c5 c6 c7 c8;obtain⟨c0,c1,c2,c3,c4,c5,c6,c7,c8⟩:=QAt.all c.out;have f2:=QAt.frozen c.out 2;have f3:=QAt.frozen c.out 3;have f4:=QAt.frozen c.out 4;have f5:=QAt.frozen c.out 5;go_wp2
  go_end0
  have F:=c.out;have I:=E.out;refine⟨rfl,⟨ts,D.out,?_⟩,(by repeat (first|exact ZbM _ _|assumption|refine ZA ?_ (by first|exact Or.inl rfl|(right;omega)|(right;simp;omega))|refine ZbR ?_|refine Zdi ?_))⟩;refine QAt.set (q:={ q with k:=r.1.jx,tx:=ts,ta:=r.1.at_ }) ?_ 2 _ rfl;refine QAt.set (q:={ q with k:=r.1.jx,tx:=ts }) ?_ 5 _ rfl;refine QAt.set (q:={ q with k:=r.1.jx }) ?_ 4 _ rfl;refine QAt.set (q:=q) ?_ 3 _ rfl;exact F
end Go.Proofs.YtmncdbepjhmkgaaGreatDoor
namespace Go.Proofs.YtmncdbepjhmkgaaGreatDoor.LS
open Go Go.RowKit
theorem Zye(l:LB)(j:Nat)(c:UInt8)(r:LB)(b:l.drop j=c::r):j<(lexC l j c r).2/\(lexC l j c r).2<=l.length:=by
 have f:l.length=j+(r.length+1):=by
  have:=congrArg List.length b;simp at this
  have e:j<=l.length:=by
   rcases Yav l.length j with h|h
   ·rw[Yb8 Om]at b;cases b
   ·exact h
  omega
 unfold lexC;split
 ·rename_i hd;have d:=Zg6 ZC (c::r);have e:0<run ZC (c::r):=by simp[run,hd]
  simp only[Yaj]at d;exact⟨by show j<j+_;omega,by show j+_<=_;omega⟩
 ·split
  ·rename_i hd;have d:=Zg6 Zp (c::r);have e:0<run Zp (c::r):=by simp[run,hd]
   simp only[Yaj]at d;exact⟨by show j<j+_;omega,by show j+_<=_;omega⟩
  ·split
   ·split
    ·exact⟨by show j<l.length;omega,Yac _⟩
    ·rename_i p g;have:=ZBY g;exact⟨by show j<j+p+2;omega,by show j+p+2<=_;omega⟩
   ·split
    ·rename_i i
     have:0<r.length:=by
      cases r with
      | nil=>simp at i
      | cons a r=>simp
     exact⟨by show j<j+2;omega,by show j+2<=_;omega⟩
    ·split <;> exact⟨by show j<j+1;omega,by show j+1<=_;omega⟩
theorem Zig(l:LB)(i:Nat)(b:i<=l.length):((Zk l i).1.jx≠0->i<(Zk l i).2)/\(Zk l i).2<=l.length:=by
 unfold Zk;have a:=Zg6 (· == 32) (l.drop i);rw[Ybv]at a;generalize run (· == 32) (l.drop i)=n at *
 unfold lexJ;cases hd:l.drop (i+n)with
 | nil=>exact⟨fun h=>absurd rfl h,by show i+n<=_;omega⟩
 | cons c r=>have:=Zye l (i+n) c r hd;exact⟨fun _=>by show i<(lexC l (i+n) c r).2;omega,this.2⟩
theorem Zyb(l:LB)(i:Nat):(Zk l i).1.txt.length<=l.length+2:=by
 unfold Zk lexJ;split
 ·simp
 ·rename_i c r hd
  have a:r.length+1<=l.length:=by
   have:=congrArg List.length hd;rw[Ybv,Yaj]at this;omega
  unfold lexC;split
  ·split
   ·simp only[Ya7,Yaj];omega
   ·simp
  ·split
   ·split
    ·simp
    ·simp only[Ya7,Yaj];omega
   ·split
    ·split
     ·simp
     ·split
      ·simp only[Ya7];omega
      ·simp
    ·split
     ·simp
     ·split <;> simp
theorem ZKq{l:LB}{i:Nat}:(Zk l i).1.jx=1->(ZQ 1000000000 (Zk l i).1.txt).isSome=true:=by
 unfold Zk lexJ;split
 ·intro h;cases h
 ·rename_i c r hd;unfold lexC;split
  ·split
   ·rename_i h;intro _;exact h
   ·intro h;cases h
  ·split
   ·split
    ·intro h;cases h
    ·intro h;cases h
   ·split
    ·split
     ·intro h;cases h
     ·split
      ·intro h;cases h
      ·intro h;cases h
    ·split
     ·intro h;cases h
     ·split
      ·intro h;cases h
      ·intro h;cases h
def Toks(l:LB)(t:Tok)(at_:Nat)(ts:List Tok):Prop:=∃r,ts=t::r/\((t.jx=0∨t.jx=5)->r=[])/\(¬(t.jx=0∨t.jx=5)->∃n,l.length+1<=n+at_/\r=ZN l n at_)/\t.txt.length<=l.length+2/\(t.jx=1->(ZQ 1000000000 t.txt).isSome=true)
theorem Toks.hd{l:LB}{t:Tok}{at_:Nat}{ts:List Tok}(h:Toks l t at_ ts):LS.hd ts=t:=by obtain⟨r,rfl,_⟩:=h;rfl
theorem Toks.pos{l:LB}{t:Tok}{at_:Nat}{ts:List Tok}(h:Toks l t at_ ts):ts.length=ts.tail.length+1:=by obtain⟨r,rfl,_⟩:=h;rfl
theorem Toks.next{l:LB}{t:Tok}{at_:Nat}{ts:List Tok}(h:Toks l t at_ ts)(b:¬(t.jx=0∨t.jx=5))(c:at_<=l.length):Toks l (Zk l at_).1 (Zk l at_).2 ts.tail:=by
 obtain⟨r,rfl,_,h,_⟩:=h;obtain⟨n,e,rfl⟩:=h b;obtain⟨m,rfl⟩:∃m,n=m+1:=⟨n - 1,by omega⟩
 have d:=Zig l at_ c;show Toks _ _ _ (ZN l (m+1) at_);unfold ZN;by_cases a:(Zk l at_).1.jx=0∨(Zk l at_).1.jx=5
 ·rw[if_pos a];exact⟨[],rfl,fun _=>rfl,fun h=>absurd a h,Zyb _ _,ZKq⟩
 ·rw[if_neg a];refine⟨_,rfl,fun h=>absurd h a,fun _=>⟨m,?_,rfl⟩,Zyb _ _,ZKq⟩;have:=d.1 (fun h=>a (Or.inl h));omega
theorem Toks.start(l:LB):Toks l (Zk l 0).1 (Zk l 0).2 (ZN l (l.length+1) 0):=by
 have b:=Zig l 0 (Yag _);show Toks _ _ _ (ZN l (l.length+1) 0);unfold ZN;by_cases a:(Zk l 0).1.jx=0∨(Zk l 0).1.jx=5
 ·rw[if_pos a];exact⟨[],rfl,fun _=>rfl,fun h=>absurd a h,Zyb _ _,ZKq⟩
 ·rw[if_neg a];refine⟨_,rfl,fun h=>absurd h a,fun _=>⟨l.length,?_,rfl⟩,Zyb _ _,ZKq⟩;have:=b.1 (fun h=>a (Or.inl h));omega
theorem ZTa(l:LB)(n i:Nat):(ZN l n i).length<=n:=by
 induction n generalizing i with
 | zero=>exact Yac _
 | succ n ih=>
  unfold ZN;split
  ·simp
  ·simp;exact ih _
theorem ZjB(l:LB)(n i:Nat)(b:i<=l.length):(ZN l n i).length<=l.length+1 - i:=by
 induction n generalizing i with
 | zero=>exact Yag _
 | succ n ih=>
  unfold ZN;have a:=Zig l i b;split
  ·simp;omega
  ·rename_i c;have d:=a.1 (fun h=>c (Or.inl h));have e:=ih (Zk l i).2 a.2;simp;omega
theorem Toks.len{l:LB}{t:Tok}{at_:Nat}{ts:List Tok}(h:Toks l t at_ ts)(b:at_<=l.length):ts.length<=l.length+2:=by
 obtain⟨r,rfl,c,d,_⟩:=h;by_cases a:t.jx=0∨t.jx=5
 ·rw[c a];simp
 ·obtain⟨n,_,rfl⟩:=d a;have:=ZjB l n at_ b;simp;omega
theorem Toks.txt_le{l:LB}{t:Tok}{at_:Nat}{ts:List Tok}(h:Toks l t at_ ts):t.txt.length<=l.length+2:=by
 obtain⟨_,_,_,_,h,_⟩:=h;exact h
theorem Toks.num{l:LB}{t:Tok}{at_:Nat}{ts:List Tok}(h:Toks l t at_ ts):t.jx=1->(ZQ 1000000000 t.txt).isSome=true:=by
 obtain⟨_,_,_,_,_,h⟩:=h;exact h
theorem Zib{s:LB}{t:Tok}(h:isT s t=true):¬(t.jx=0∨t.jx=5):=by
 unfold isT at h;simp only[Yas,Yct,beq_iff_eq]at h;omega
end Go.Proofs.YtmncdbepjhmkgaaGreatDoor.LS
namespace Go.Proofs.YtmncdbepjhmkgaaGreatDoor
open Go.RowKit LS Go.Proofs.Tryz
def QIs(w:World)(b:Nat)(pv:Value)(s:BA)(ts:List Tok)(deep:Nat):Prop:=∃q:QV,QAt w b q/\q.pv=pv/\q.s=s/\q.deep=deep/\q.e=0/\q.at_<=s.size/\Toks (bl s) (ZJB q) q.at_ ts
def QErr(w:World)(b:Nat)(pv:Value)(e p:Nat)(deep:Nat):Prop:=∃q:QV,QAt w b q/\q.pv=pv/\q.deep=deep/\q.e=e/\e≠0/\q.pl=p
def QRes{α:Type}(w:World)(b:Nat)(pv:Value)(s:BA)(deep:Nat)(r:Out α)(good:α->Prop):Prop:=match r with
 | .error x=>QErr w b pv x.1 x.2 deep
 | .ok x=>QIs w b pv s x.2 deep/\good x.1
theorem QIs.kept{w w':World}{b:Nat}{pv:Value}{s:BA}{ts:List Tok}{deep:Nat}(h:QIs w b pv s ts deep)(a:w'.heap[b]?=w.heap[b]?):QIs w' b pv s ts deep:=by
 obtain⟨q,c,d⟩:=h;exact⟨q,a.trans c,d⟩
theorem QErr.kept{w w':World}{b:Nat}{pv:Value}{e p deep:Nat}(h:QErr w b pv e p deep)(a:w'.heap[b]?=w.heap[b]?):QErr w' b pv e p deep:=by
 obtain⟨q,c,d⟩:=h;exact⟨q,a.trans c,d⟩
theorem QIs.lt{w:World}{b:Nat}{pv:Value}{s:BA}{ts:List Tok}{deep:Nat}(h:QIs w b pv s ts deep):b<w.heap.size:=by obtain⟨q,a,_⟩:=h;exact a.lt
theorem QErr.lt{w:World}{b:Nat}{pv:Value}{e p deep:Nat}(h:QErr w b pv e p deep):b<w.heap.size:=by obtain⟨q,a,_⟩:=h;exact a.lt
theorem QIs.is{w:World}{b:Nat}{pv:Value}{s:BA}{ts:List Tok}{deep:Nat}(h:QIs w b pv s ts deep)(c:BA) :
  CP 61 #[Vp b,.string c] w fun r u=>r=.returned (.bool (isT (bl c) (hd ts)))/\u=w:=by
 obtain⟨q,a,_,_,_,d,_,e⟩:=h;rw[e.hd];exact ZNg w b q c a d
theorem QErr.is{w:World}{b:Nat}{pv:Value}{e p deep:Nat}(h:QErr w b pv e p deep)(c:BA) :
  CP 61 #[Vp b,.string c] w fun r u=>r=.returned (.bool false)/\u=w:=by
 obtain⟨q,a,_,_,d,f,_⟩:=h;exact ZNf w b q c a (by rw[d];exact f)
theorem QErr.fail{w:World}{b:Nat}{pv:Value}{e p deep:Nat}(h:QErr w b pv e p deep)(c:Int) :
  CP 26 #[Vp b,Vi c] w fun r u=>r=.returned (.tuple #[])/\u=w:=by
 obtain⟨q,a,_,_,d,f,_⟩:=h;exact ZNd w b q c a (by rw[d];exact f)
theorem QIs.fail{w:World}{b:Nat}{pv:Value}{s:BA}{ts:List Tok}{deep:Nat}(h:QIs w b pv s ts deep)(c:Nat)(ci:Int)(a:ci=c)(d:c≠0) :
  CP 26 #[Vp b,Vi ci] w fun r u=>r=.returned (.tuple #[])/\QErr u b pv c (hd ts).at_ deep/\w.grownBy u (some b):=by
 subst a;obtain⟨q,e,f,m,g,i,n,j⟩:=h;rw[j.hd];refine(ZNe w b q c e i).mono ?_;rintro r u ⟨rfl,k,l⟩;exact⟨rfl,⟨_,k,f,g,rfl,d,rfl⟩,l⟩
theorem QIs.next{w:World}{b:Nat}{pv:Value}{s:BA}{ts:List Tok}{deep:Nat}(h:QIs w b pv s ts deep)(g:s.size<=6000)(c:¬((hd ts).jx=0∨(hd ts).jx=5)) :
  CP 24 #[Vp b] w fun r u=>r=.returned (.tuple #[])/\QIs u b pv s ts.tail deep/\w.grownBy u (some b):=by
 obtain⟨q,i,j,rfl,l,m,a,d⟩:=h;rw[d.hd]at c;refine(ZLb w b q i g a).mono ?_;rintro r u ⟨rfl,⟨tx,f,n⟩,o⟩;have p:=d.next c (by rw[Zd];exact a);refine⟨rfl,⟨_,n,j,rfl,l,m,?_,?_⟩,o⟩
 ·have:=(Zig (bl q.s) q.at_ (by rw[Zd];exact a)).2;rw[Zd]at this;exact this
 ·have e:ZJB { q with at_:=(Zk (bl q.s) q.at_).2,k:=(Zk (bl q.s) q.at_).1.jx,tx:=tx,ta:=(Zk (bl q.s) q.at_).1.at_ }=(Zk (bl q.s) q.at_).1:=by
   show(⟨_,bl tx,_⟩:Tok)=_;rw[f]
  rw[e];exact p
theorem QErr.take{w:World}{b:Nat}{pv:Value}{e p deep:Nat}(h:QErr w b pv e p deep)(c:BA) :
  CP 116 #[Vp b,.string c] w fun r u=>r=.returned (.tuple #[])/\u=w:=by
 have H:Hid (QErr w b pv e p deep):=h;clear h;go_enter func116,ntmps116
 go_wp2_with fail
 refine(QErr.is H.out c).mono ?_;rintro r u ⟨rfl,rfl⟩
 go_wp2_with fail
 refine(QErr.fail H.out _).mono ?_;rintro r u ⟨rfl,rfl⟩;go_wp2
 first|go_end0|refine bodyPost_ret (results_none rfl _ _ _) rfl ?_
 exact⟨rfl,rfl⟩
theorem QIs.take{w:World}{b:Nat}{pv:Value}{s:BA}{ts:List Tok}{deep:Nat}(h:QIs w b pv s ts deep)(k:s.size<=6000)(c:BA) :
  CP 116 #[Vp b,.string c] w fun r u=>r=.returned (.tuple #[])/\QRes u b pv s deep (Zq (bl c) ts) (fun _=>True)/\w.grownBy u (some b):=by
 have H:Hid (QIs w b pv s ts deep):=h;clear h;cases a:isT (bl c) (hd ts)
 ·have g:Hid (Zq (bl c) ts=.error (2,(hd ts).at_)):=hid (by unfold Zq;rw[a];rfl);have f:Hid _:=a;clear a;go_enter func116,ntmps116
  go_wp2_with fail
  refine(QIs.is H.out c).mono ?_;rw[f.out];rintro r u ⟨rfl,rfl⟩
  go_wp2_with fail
  refine(QIs.fail H.out 2 _ rfl Dc).mono ?_;rintro r u ⟨rfl,d,e⟩;have i:Hid _:=d;have j:Hid _:=e;clear d e;go_wp2
  first|go_end0|refine bodyPost_ret (results_none rfl _ _ _) rfl ?_
  rw[g.out];exact⟨rfl,i.out,j.out⟩
 ·have g:Hid (Zq (bl c) ts=.ok ((),ts.tail)):=hid (by unfold Zq;rw[a];rfl);have f:Hid _:=a;clear a;go_enter func116,ntmps116
  go_wp2_with fail
  refine(QIs.is H.out c).mono ?_;rw[f.out];rintro r u ⟨rfl,rfl⟩
  go_wp2_with fail
  refine(QIs.next H.out k (Zib f.out)).mono ?_;rintro r u ⟨rfl,d,e⟩;have i:Hid _:=d;have j:Hid _:=e;clear d e;go_wp2
  first|go_end0|refine bodyPost_ret (results_none rfl _ _ _) rfl ?_
  rw[g.out];exact⟨rfl,⟨i.out,trivial⟩,j.out⟩
theorem QErr.jx{w:World}{b:Nat}{pv:Value}{e p deep:Nat}(h:QErr w b pv e p deep)(c:Int) :
  CP 118 #[Vp b,Vi c] w fun r u=>r=.returned (.string ⟨#[]⟩)/\u=w:=by
 obtain⟨q,a,d,f,g,i,j⟩:=h;obtain⟨c0,c1,c2,c3,c4,c5,c6,c7,c8⟩:=a.all;have k:((q.e:Int) != 0)=true:=by rw[bne_iff_ne];omega
 have H:Hid (QErr w b pv e p deep):=⟨q,a,d,f,g,i,j⟩
 clear a d f g i j;go_enter func118,ntmps118
 go_wp2_with fail
 refine(QErr.fail H.out _).mono ?_;rintro r u ⟨rfl,rfl⟩;go_wp2;go_ret;exact⟨rfl,rfl⟩
theorem QIs.jx{w:World}{b:Nat}{pv:Value}{s:BA}{ts:List Tok}{deep:Nat}(h:QIs w b pv s ts deep)(y:s.size<=6000)(k:Nat)(ki:Int)(n:ki=k)(i:¬(k=0∨k=5)) :
  CP 118 #[Vp b,Vi ki] w fun r u=>∃x:BA,r=.returned (.string x)/\QRes u b pv s deep (ZH k ts) (fun a=>bl x=a)/\w.grownBy u (some b):=by
 subst n;have H:Hid (QIs w b pv s ts deep):=h;obtain⟨q,o,z,A,B,p,C,t⟩:=h;obtain⟨c0,c1,c2,c3,c4,c5,c6,c7,c8⟩:=o.all;have E:((q.e:Int) != 0)=false:=by rw[p];rfl
 have d:=t.hd;clear o z A B p C t;by_cases c:q.k=k
 ·have v:((q.k:Int) != (k:Int))=false:=by rw[c];simp
  have j:Hid (ZH k ts=.ok (bl q.tx,ts.tail)):=hid (by
   unfold ZH;rw[d,if_pos (show(ZJB q).jx=k from c)];rfl)
  have D:Hid (¬((hd ts).jx=0∨(hd ts).jx=5)):=hid (by rw[d];show ¬(q.k=0∨q.k=5);rw[c];exact i);clear c d i;go_enter func118,ntmps118
  go_wp2_with fail
  refine(QIs.next H.out y D.out).mono ?_;rintro r u ⟨rfl,f,g⟩;have l:Hid _:=f;have m:Hid _:=g;clear f g;go_wp2;go_ret;rw[j.out];exact⟨q.tx,rfl,⟨l.out,rfl⟩,m.out⟩
 ·have v:((q.k:Int) != (k:Int))=true:=by rw[bne_iff_ne];omega
  have j:Hid (ZH k ts=.error (2,(hd ts).at_)):=hid (by
   unfold ZH;rw[if_neg (show ¬(hd ts).jx=k by rw[d];exact c)])
  clear c d i;go_enter func118,ntmps118
  go_wp2_with fail
  refine(QIs.fail H.out 2 _ rfl Dc).mono ?_;rintro r u ⟨rfl,f,g⟩;have l:Hid _:=f;have m:Hid _:=g;clear f g;go_wp2;go_ret;rw[j.out];exact⟨⟨#[]⟩,rfl,l.out,m.out⟩
theorem ZtK{P:Program}{w:World}{t ty:TypeId}(base:Nat)(e:TypeId)(i:TypeInfo)(z:Value)(size bytes:Nat)(r:P.underlying t=some (.slice e))(s:P.info? e=some i)(B:i.zero=some z)(o:i.size=size)(C:i.bytes=bytes)(D:z.cells.size=size)(E:0<size)
  (v:Value) (n:Nat) (xs:List Value) (b:w.ownsRow base e size v n xs)
  (ad:Addr) (m c:Nat) (news:List Value) (p:news.length=m*size) (x:∀j u,news[j]?=some u->w.cell? (ad.add j)=some u) (q:∀u∈news,u.oneCell'=true)
  (b1:n+m<=maxLen) (b2:(n+m)*bytes<=140737488355328) {v':Value} {w':World} (d:(Builtin.append_ #[t,t] ty #[v,.slice (some ad) m c]).run P w=.ok v' w') :
  v'.ownBlock=v.ownBlock∨∀k,v'.ownBlock=some k->w.heap.size<=k:=by
 have h:=fun g G=>@World.ownsRow.cells w base e size v n xs b g G;have l:=b.1;rcases b.2 with ⟨rfl,rfl⟩|⟨g,cap,cur,rfl,M,H,J,K,F,L⟩
 ·right
  obtain rfl:xs=[]:=Ya3 (by simpa using l);obtain⟨v2,I,a,r1,_⟩:=run_append_own (P:=P) w w.heap.size t ty e i z size bytes r s B o C D E S0 0 [] (Ybc w _ e size) ad m c news p x q b1 b2 (Yac _);rw[d]at a;injection a with e1 e2;subst e1;exact fun k y=>(r1.lt k y).1
 ·by_cases f:n+m<=cap
  ·left
   have A:n*i.size+news.length<=cur.size:=by rw[o,p,F,<-Nat.add_mul];exact Nat.mul_le_mul_right _ f
   have a:=run_append_room (P:=P) w t ty e i r s g n cap cur H ad m c news (by rw[o];exact p) x q f A;rw[d]at a;injection a with e1 e2;subst e1;rfl
  ·right
   obtain⟨v2,I,a,r1,_⟩:=run_append_arg_grows (P:=P) w t ty e i z size bytes r s B o C D E ⟨g,0,none⟩ n cap xs l (h g rfl) ad m c news p x Om b1 b2;rw[d]at a;injection a with e1 e2;subst e1;exact fun k y=>(r1.lt k y).1
theorem ZfF{P:Program}{ops:Array Oper}{o:Oper}{a:Act}{w:World}{K:Act->World->Prop}{Q:Exit->Act->World->Prop}{E:Prop}
  (G:o.guard=none) (s x:Operand) (t:TypeId) (l:o.op=Op.call { callee:=Callee.builtin Builtin.append,args:=#[s,x],argTypes:=#[t,t] })
  (base:Nat) (e:TypeId) (i:TypeInfo) (z:Value) (size bytes:Nat) (p:P.underlying t=some (.slice e)) (q:P.info? e=some i) (r:i.zero=some z) (y:i.size=size) (A:i.bytes=bytes) (B:z.cells.size=size) (C:0<size)
  (v:Value) (n:Nat) (xs:List Value) (H:a.eval s=v) (b:w.ownsRow base e size v n xs)
  (ad:Addr) (m c:Nat) (news:List Value) (I:a.eval x=.slice (some ad) m c) (D:news.length=m*size) (F:∀j u,news[j]?=some u->w.cell? (ad.add j)=some u) (h:∀u∈news,u.oneCell'=true)
  (b1:n+m<=maxLen) (b2:(n+m)*bytes<=140737488355328) (g:base<=w.heap.size)
  (J:∀v' d,d.ownsRow base e size v' (n+m) (xs++news)->w.grownBy d v.ownBlock->(v'.ownBlock=v.ownBlock∨∀k,v'.ownBlock=some k->w.heap.size<=k)->K (a.put o.dst v') d) :
  if Region.wanted o (yielded ops a.tmps)=true then Oper.wp P o a w K Q else E:=by
 have L:Region.wanted o (yielded ops a.tmps)=true:=by simp[Region.wanted,G]
 rw[if_pos L];obtain⟨v',d,f,r1,r2,_⟩:=run_append_own (P:=P) w base t o.type e i z size bytes p q r y A B C v n xs b ad m c news D F h b1 b2 g;have r3:=ZtK base e i z size bytes p q r y A B C v n xs b ad m c news D F h b1 b2 f;unfold Oper.wp;simp[execOp,l,resolve,invoke,builtin,H,I,f,Result.andThen];exact J v' d r1 r2 r3
structure Kept (b:Nat) (pv:Value) (w:World) (pv':Value) (w':World):Prop where
 os:w'.os=w.os
 tape:w'.tape=w.tape
 output:w'.output=w.output
 size:w.heap.size<=w'.heap.size
 block:∀k,k<w.heap.size->k≠b->some k≠pv.ownBlock->w'.heap[k]?=w.heap[k]?
 own:pv'.ownBlock=pv.ownBlock∨∀k,pv'.ownBlock=some k->w.heap.size<=k
theorem Kept.refl(b:Nat)(pv:Value)(w:World):Kept b pv w pv w:=⟨rfl,rfl,rfl,Yac _,fun _ _ _ _=>rfl,Or.inl rfl⟩
theorem Kept.trans{b:Nat}{p1 p2 p3:Value}{y z d:World}(h:Kept b p1 y p2 z)(a:Kept b p2 z p3 d):Kept b p1 y p3 d:=by
 refine⟨a.os.trans h.os,a.tape.trans h.tape,a.output.trans h.output,Yah h.size a.size,?_,?_⟩
 ·intro k c f g;refine(a.block k (Yaw c h.size) f ?_).trans (h.block k c f g);rcases h.own with e|e
  ·rw[e];exact g
  ·intro e2;have:=e k e2.symm;omega
 ·rcases a.own with e|e
  ·rw[e];exact h.own
  ·exact Or.inr fun k c=>Yah h.size (e k c)
theorem Kept.grown{b:Nat}{p1 p2:Value}{y z c:World}(h:Kept b p1 y p2 z)(a:z.grownBy c (some b)):Kept b p1 y p2 c:=
 h.trans ⟨a.os,a.tape,a.output,a.size,fun k d f _=>a.block k d (fun e=>f (Yax e)),Or.inl rfl⟩
theorem Tryz.infoPart:(Tryz.prog.info? 80).map (fun i=>(i.zero,i.size,i.bytes))=some (some (.agg #[Vi 0,Vi 0,Vi 0,.string ByteArray.empty,S0,S0,Vi 0,Vi 0]),8,104):=by kernel_rfl
theorem ZLA{W:World}{a:Nat}{x0 x1 x2 x3 x4 x5 x6 x7:Value}{t:TypeId}{fr:Nat×Nat}(h:W.heap[a]?=some (.cells #[x0,x1,x2,x3,x4,x5,x6,x7] t fr)):∀j x,[x0,x1,x2,x3,x4,x5,x6,x7][j]?=some x->W.cell? ((⟨a,0,none⟩:Addr).add j)=some x:=by
 intro j x b;rw[ZfO];simp only[World.cell?,h];simpa using b
theorem QAt.grownBy{w w':World}{b:Nat}{q:QV}{r:Option Nat}(h:QAt w b q)(c:w.grownBy w' r)(a:some b≠r):QAt w' b q:=(c.block b h.lt a).trans h
structure PV where
 k:Int
 n:Int
 op:Int
 nm:BA
 ca:Option Addr
 cn:Nat
 cc:Nat
 ba:Option Addr
 bn:Nat
 bc:Nat
 a:Int
 b:Int
def PV.cells(p:PV):List Value:=[Vi p.k,Vi p.n,Vi p.op,.string p.nm,.slice p.ca p.cn p.cc,.slice p.ba p.bn p.bc,Vi p.a,Vi p.b]
theorem ZLa(w:World)(b:Nat)(q:QV)(h:QAt w b q)(n:Nat)(xs:List Value)(g:w.ownsRow 0 80 8 q.pv n xs)(Q:n<=6000)(p:PV) :
  CP 62 #[Vp b,.agg #[Vi p.k,Vi p.n,Vi p.op,.string p.nm,.slice p.ca p.cn p.cc,.slice p.ba p.bn p.bc,Vi p.a,Vi p.b]] w fun r v=>
   ∃pv',r=.returned (Vi n)/\QAt v b { q with pv:=pv' }/\v.ownsRow 0 80 8 pv' (n+1) (xs++p.cells)/\Kept b q.pv w pv' v:=by
 obtain⟨i0,L,A,B,C⟩:=info_parts Tryz.infoPart;obtain⟨c0,c1,c2,c3,c4,c5,c6,c7,c8⟩:=h.all;have P:=h.lt;have H:Hid (QAt w b q):=h;obtain⟨k,pn,op,nm,ca,cn,cc,ba,bn,bc,pa,pb⟩:=p;obtain⟨av,cp,i⟩:=Zl g;have d:w.ownsRow 0 80 8 (.slice av n cp) n xs:=by rw[<-i];exact g
 have M:Hid (some b≠(Value.slice av n cp).ownBlock):=Zcx d h Dc;have x:Hid (q.pv=.slice av n cp):=i;have N:Hid (∀(o1 o2:Obj),((w.alloc o1).alloc o2).drew.ownsRow 0 80 8 (.slice av n cp) n xs):=fun o1 o2=>(d.alloc o1).alloc o2
 have O : Hid (∀ (o1 o2 : Obj), ((w.alloc o1).alloc o2).drew.heap[w.heap.size + 1]? = some o2) := fun o1 o2 => by
   have:=Go.Deep.blk_alloc_new (w.alloc o1) o2;rw[Go.Deep.nblk_alloc]at this;exact this
 have D:Hid (∀(o1 o2:Obj),QAt ((w.alloc o1).alloc o2).drew b q):=fun o1 o2=>QAt.alloc (QAt.alloc h o1) o2;clear h g d;rw[i]at c0;clear i;go_enter func62,ntmps62;go_wp2
 go_region_law (
  refine ZfF rfl (.tmp 9) (.tmp 11) 70 rfl 0 80 i0 _ 8 104 underlying70 L A B C rfl Dc (.slice av n cp) n xs (by simp[Act.eval]) (N.out _ _) ⟨w.heap.size+1,0,none⟩ 1 1 [Vi k,Vi pn,Vi op,.string nm,.slice ca cn cc,.slice ba bn bc,Vi pa,Vi pb] (by simp[Act.eval]) rfl ?h2 ?h3 ?h4 ?h5 (Yag _) ?_
  case h2=>exact ZLA (O.out _ _)
  case h3=>intro u E;simp at E;rcases E with rfl|rfl|rfl|rfl|rfl|rfl|rfl|rfl <;> rfl
  case h4=>unfold maxLen;omega
  case h5=>omega
  intro v1 y f c hwhere1;have l:QAt y b q:=QAt.grownBy (D.out _ _) c M.out;obtain⟨g1,cp1,F⟩:=ZF f Om;subst F;have d0:=(QAt.all l).1;rw[x.out]at d0;have e0:=QAt.frozen l 0)
 all_goals
  have o:Hid (QAt y b q):=l;have s:Hid (y.ownsRow 0 80 8 (.slice (some ⟨g1,0,none⟩) (n+1) cp1) (n+1) (xs++[Vi k,Vi pn,Vi op,.string nm,.slice ca cn cc,.slice ba bn bc,Vi pa,Vi pb])):=f;have G:Hid _:=c;have I:Hid _:=hwhere1;clear l f c hwhere1 c0 c1 c2 c3 c4 c5 c6 c7 c8;go_wp2;go_ret;refine⟨_,ZBw Om,QAt.set o.out 0 _ rfl,Yf6 s.out (ZA (b:=b) (ZbM _ _) (Or.inl rfl)) (Or.inr ?_),?_⟩
  ·exact fun e=>Zcx s.out o.out Dc e.symm
  ·have m:=G.out;have J:=m.size;rw[show((w.alloc _).alloc _).drew.heap.size=w.heap.size+1+1 from by rw[show((w.alloc _).alloc _).drew.heap.size=((w.alloc _).alloc _).heap.size from rfl,Go.Deep.nblk_alloc,Go.Deep.nblk_alloc]]at J;refine⟨m.os,m.tape,m.output,?_,?_,?_⟩
   ·rw[Go.Deep.nblk_setCell];omega
   ·intro j z K t;rw[Go.Deep.blk_setCell_other _ _ _ _ (show j≠b from K)];rw[x.out]at t;refine(m.block j ?_ t).trans ?_
    ·show j<((w.alloc _).alloc _).heap.size;rw[Go.Deep.nblk_alloc,Go.Deep.nblk_alloc];omega
    ·show((w.alloc _).alloc _).heap[j]?=_;rw[Go.Deep.blk_alloc_lt _ _ _ (by rw[Go.Deep.nblk_alloc];omega),Go.Deep.blk_alloc_lt _ _ _ z]
   ·rw[x.out];rcases I.out with h|h
    ·exact Or.inl h
    ·refine Or.inr fun j z=>?_;have:=h j z;have h2:((w.alloc _).alloc _).heap.size<=j:=this;rw[Go.Deep.nblk_alloc,Go.Deep.nblk_alloc]at h2;omega
end Go.Proofs.YtmncdbepjhmkgaaGreatDoor
