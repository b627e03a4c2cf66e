/- Parts. -/
import Derived.Test.YtkodhpilkaihjaaGreatDoorF17
import Derived.Sort.OwnSorted
set_option linter.all false
set_option maxRecDepth 100000
set_option maxHeartbeats 16000000
namespace Go.Proofs.YtkodhpilkaihjaaGreatDoor
open Go.RowKit LS Go.Proofs.Tryz
variable {ca:Addr}{s:BA}{ok:Bool}{fn:Func}{m:Int}{l:LB}{c cs:List Value}{a b k nb p:Nat}{A:Nat->Addr}{x:Nat×Nat}{r:Option (List Nat×List Nat)}{err u v y z:Value}{w w' w0:World}
theorem Zjy(x y:LB):decide (x<=y)=!Op.bytesLess y x:=by
 rw[bytesLess_eq,Ybh,decide_eq_true_iff,Ycr,decide_eq_false_iff_not];exact Iff.rfl
theorem ZCy (ss : List (LB)) : (ss.mergeSort fun x y => decide (x <= y)).Pairwise fun a b => Op.bytesLess b a = false := by
  have h := Yfa (le := fun (x y : LB) => decide (x <= y)) (by
    intro a b c d i;rw[Zjy,Ycr]at *
    cases h:Op.bytesLess c a with
    | false=>rfl
    | true=>
      cases f:Op.bytesLess b c with
      | true=>rw[Zdv _ _ _ f h]at d;cases d
      | false=>
        have e:=Zdh _ _ f i;rw[e,h]at d;cases d) (by
    intro a b;rw[Zjy,Zjy];cases h:Op.bytesLess b a with
    | false=>rfl
    | true=>
      cases f:Op.bytesLess a b with
      | false=>rfl
      | true=>have:=Zdv _ _ _ h f;rw[ZcL]at this;cases this) ss
  refine h.imp (fun {a b} g=>?_);rw[Zjy,Ycr]at g;exact g
theorem ZoW(bs:List BA):Zbc bs=(bs.map bl).map encStr:=by
 unfold Zbc;rw[Yb1];refine Ycb (fun b _=>?_);cases b with
 | mk d=>simp[encStr,bl]
theorem ZCz {l : List (LB)} (e : l.Pairwise fun a b => Op.bytesLess b a = false) (h : ∀ k, k + 1 < l.length -> l[k]? ≠ l[k + 1]?) : l.Nodup := by
  induction l with
  | nil=>exact Yfq
  | cons a l ih=>
    rw[Ybg]at e;rw[List.nodup_cons];refine⟨fun f=>?_,ih e.2 (fun k g=>by have:=h (k+1) (by simpa using g);simpa using this)⟩;cases l with
    | nil=>cases f
    | cons c r=>
      have d:=h 0 (by simp);simp only[Zget,Ycf]at d;rcases Yau.1 f with rfl|f
      · exact d rfl
      · have i:=(Ybg.1 e.2).1 a f
        have j:=e.1 c (by simp);exact d (by rw[Zdh _ _ i j])
theorem ZwD{t:LB}{ms:List (LB)}(g:t≠[])(a:ms.Perm (split 44 t)):ZcG t=if ms.all Zx=true/\ms.Nodup then some (split 44 t)else none:=by
 unfold ZcG;rw[if_neg g]
 have d:(split 44 t).all Zx=true ↔ ms.all Zx=true:=by
  rw[Ybu,Ybu];exact⟨fun h x c=>h x (a.mem_iff.1 c),fun h x c=>h x (a.mem_iff.2 c)⟩
 have f:(split 44 t).Nodup ↔ ms.Nodup:=a.nodup_iff.symm;by_cases e:ms.all Zx=true/\ms.Nodup
 ·rw[if_pos e,if_pos ⟨d.2 e.1,f.2 e.2⟩]
 ·rw[if_neg e,if_neg (fun h=>e ⟨d.1 h.1,f.1 h.2⟩)]
def GrpR(w:World)(r:Option (List (LB)))(v:Value)(ok:Bool):Prop:=match r with
 | some a=>ok=true/\ZfM w a v
 | none=>ok=false/\RowZ v
theorem GrpR.mkNone{r:Option (List (LB))}(a:r=none)(h:ok=false/\RowZ v):GrpR w r v ok:=by subst a;exact h
theorem GrpR.mkSome{r:Option (List (LB))}{a:List (LB)}(c:r=some a)(h:ok=true/\ZfM w a v):GrpR w r v ok:=by subst c;exact h
theorem ZBc(s:BA)(A:Nat->Addr)(m:Int)(w:World)(hs:s.size<=70000)(hv:Vars w A m) :
  CP 198 #[.string s] w fun e u=>∃v ok,e=.returned (.tuple #[v,.bool ok])/\Hid (GrpR u (ZcG (bl s)) v ok)/\BW w u:=by
 have HM:=hid hv.max;clear hv;by_cases h0:s.size=0
 ·have o:s.toList.isEmpty=true:=ZoT Om;have HQ:Hid (ZcG (bl s)=some []):=hid (by unfold ZcG;rw[if_pos (ZgW o)]);go_enter func198,ntmps198;go_wp2;go_ret2;exact⟨_,_,rfl,hid (GrpR.mkSome HQ.out ⟨rfl,⟨none,0,0,[]⟩,rfl,rfl,[],Ybc _ _ _ _,List.Pairwise.nil,fun y=>Iff.rfl,by simp⟩),Yaf _ _⟩
 ·have o:s.toList.isEmpty=false:=Zrh Om;have T:=Zij o;have U:Hid (CP 42 #[.string s,.string ⟨#[44]⟩] w _):=hid (strings_Split s ⟨#[44]⟩ m w Om HM.out (Yac 1));have hd:(Lib.splitB ⟨#[44]⟩ 0 (Lib.countB s ⟨#[44]⟩) s).map bl=split 44 (bl s):=(Lib.splitB_data ⟨#[44]⟩ 0 (Lib.countB s ⟨#[44]⟩) s).trans (Zsq 44 _ (bl s) (Yac _));have E:(Lib.splitB ⟨#[44]⟩ 0 (Lib.countB s ⟨#[44]⟩) s).length=Lib.countB s ⟨#[44]⟩+1:=Lib.splitB_all ⟨#[44]⟩ (Yac 1) 0 _ s rfl;go_enter func198,ntmps198
  go_wp2_with fail
  refine U.mono ?_;rintro e F ⟨rfl,q⟩;obtain⟨bs,V⟩:∃bs,bs=Lib.splitB ⟨#[44]⟩ 0 (Lib.countB s ⟨#[44]⟩) s:=⟨_,rfl⟩
  rw[<-V]at hd E q;have a1:(split 44 (bl s)).length<=s.size+1:=by have:=Zhd 44 (bl s);rwa [Zd]at this
  have a2:bs.length=(split 44 (bl s)).length:=by rw[<-hd,Yak]
  obtain⟨N,hN⟩:∃N,N=Lib.countB s ⟨#[44]⟩+1:=⟨_,rfl⟩
  rw[<-hN]at E ⊢;have b2:N<=70001:=by omega
  have b3:1<=N:=by omega
  obtain⟨ss,r⟩:∃ss,ss=bs.map bl:=⟨_,rfl⟩
  have c:ss.length=N:=by rw[r,Yak,E]
  have W:BW w F:=by rw[q];exact Zbal
  have P:F.heap[w.heap.size]?=some (.cells (bs.map Value.string).toArray 9 (0,0)):=by rw[q];exact Go.Deep.blk_alloc_new _ _
  have a3:w.heap.size<F.heap.size:=(Yae.1 P).1;have G:bs.map Value.string=ss.map encStr:=by rw[r];exact ZoW bs
  have hH:Sort.Holds encStr F w.heap.size 0 ss.toArray:=holds_of_block P (by rw[G,c];exact Ya5 (by rw[Yak,c];exact Yac _));have hS:=slices_Sort_string w.heap.size 0 N ss F hH a3 Om;rw[c]at hS;have HS:=hid hS;have H:=hid W;have HH:=hid P;have I:Hid (ss=split 44 (bl s)):=hid (by rw[r];exact hd);have J:Hid (bs.length=N):=hid E;have a4:=hid T;clear hS hH P W q V hd E a1 a2 r G U T o HM hN
  go_wp2_with (go_at_call 217;refine HS.mono ?_;rintro e z ⟨rfl,nn,os,g⟩;have X:=hid g;clear g)
  have g:=X.out;clear X;obtain⟨ms,t⟩:∃ms,ms=ss.mergeSort (fun x y=>decide (x<=y)):=⟨_,rfl⟩
  have p:Hid (ms.Perm ss):=hid (by rw[t];exact List.mergeSort_perm _ _);have Y:Hid (ms.Pairwise fun a b=>Op.bytesLess b a=false):=hid (by rw[t];exact ZCy ss);have a5:ms.length=N:=by rw[p.length_eq,c]
  have B:z.ownsRow w.heap.size 9 1 (.slice (some ⟨w.heap.size,0,none⟩) N N) N (ms.map encStr):=by
   have Q:=ownsRow_sorted (n:=nn) (os:=os) (cap:=N) (p.length_eq) (Yac _) HH.out (by rw[c];exact Yac _) (by unfold maxLen;omega) (by simp[J.out]);rw[c]at Q;rw[g,<-t];exact Q
  have K:Hid (BW w z):=hid (by rw[g];exact H.grown (grownBy_sorted _) H.size (fun j R=>by cases R;exact Yac _));have L:Hid (ZcG (bl s)=if ms.all Zx=true/\ms.Nodup then some (split 44 (bl s))else none):=hid (ZwD a4.out (by rw[<-I.out];exact p.out))
  have a6 : Hid (∀ k (h : k < ms.length), ms[k].length <= 70000) := hid (fun k h => by
    have d:=p.mem_iff.1 (List.getElem_mem h);rw[I.out]at d;have:=Zne 44 (bl s) _ d;rw[Zd]at this;omega)
  have Z:=hid B;have b4:=hid c;clear B g t HS HH H J c;go_wp2
  go_loop [5,16] (fun lv i=>∃(k:Nat) (last:BA),k<=N/\i=Vi k/\lv=.string last/\Hid (bl last=if k=0 then [] else ms.getD (k - 1) [])/\Hid ((ms.take k).all Zx=true)/\Hid (∀j,j+1<k->ms[j]?≠ms[j+1]?)) (fun _ i=>N - (intOf i).toNat)
  case atStart=>exact⟨0,⟨#[]⟩,Yag _,rfl,rfl,hid rfl,hid rfl,hid (fun j R=>by omega)⟩
  case round=>
   obtain⟨k,last,hk,rfl,rfl,HL,HA,HD⟩:=hrel;by_cases b5:k<N
   ·have f:k<ms.length:=by omega
    have b6:(k:Int)<N:=by omega
    obtain⟨x,hx⟩:∃x:BA,x=⟨ms[k].toArray⟩:=⟨_,rfl⟩
    have D:Hid (bl x=ms[k]):=hid (by rw[hx,ZbF]);have d0:z.cell? ⟨w.heap.size,k,none⟩=some (.string x):=Zi Z.out k _ (by rw[hx,Ya2,List.getElem?_eq_getElem f];rfl);have M:x.size<=70000:=by rw[ZU D.out];exact a6.out k f
    clear hx;cases S:Zx (bl x)with
    | false=>
     have O:Hid (ZcG (bl s)=none):=hid (by
      rw[L.out,if_neg];rintro⟨h,_⟩;have:=Ybu.1 h ms[k] (List.getElem_mem f);rw[<-D.out,S]at this;cases this)
     go_wp2_with (go_at_call 120;refine(Zkt x _ M).mono ?_;rintro e u ⟨rfl,rfl⟩)
     go_ret2;exact⟨_,_,rfl,hid (GrpR.mkNone O.out ⟨rfl,rfl⟩),K.out⟩
    | true=>
     by_cases o:x=last
     ·subst o;have a7:(x.toList == x.toList)=true:=by simp
      have a0:k≠0:=by
       intro e;subst e;have d:=HL.out;rw[if_pos rfl]at d;rw[d]at S;exact absurd S Dc
      have O:Hid (ZcG (bl s)=none):=hid (by
       rw[L.out,if_neg];rintro⟨_,h⟩;have d:=HL.out;rw[if_neg a0,D.out,Yaa,List.getElem?_eq_getElem Om,Ya6]at d;have:=(List.pairwise_iff_getElem.1 h) (k - 1) k Om f Om;exact this d.symm)
      clear a0
      go_wp2_with (go_at_call 120;refine(Zkt x _ M).mono ?_;rintro e u ⟨rfl,rfl⟩)
      go_ret2;exact⟨_,_,rfl,hid (GrpR.mkNone O.out ⟨rfl,rfl⟩),K.out⟩
     ·have a7:(x.toList == last.toList)=false:=by
       rw[beq_eq_false_iff_ne,Zbt,Zbt];intro e;exact o (ZcW e)
      have a8:Hid ((ms.take (k+1)).all Zx=true):=hid (by
       rw[List.take_succ_eq_append_getElem f,List.all_append,HA.out,<-D.out];simp[S])
      have a9 : Hid (∀ j, j + 1 < k + 1 -> ms[j]? ≠ ms[j + 1]?) := hid (fun j R => by
        by_cases e:j+1=k
        · subst e
          rw[List.getElem?_eq_getElem f,List.getElem?_eq_getElem Om,<-D.out];intro e2;injection e2 with e2;have d:=HL.out;rw[if_neg Om,Yaa,Yen,List.getElem?_eq_getElem Om,Ya6]at d;exact o (ZcW (by rw[d,e2]))
        · exact HD.out j Om)
      have b0:Hid (bl x=if k+1=0 then [] else ms.getD (k+1 - 1) []):=hid (by
       rw[if_neg Om,Yen,Yaa,List.getElem?_eq_getElem f,Ya6,D.out])
      clear o
      go_wp2_with (go_at_call 120;refine(Zkt x _ M).mono ?_;rintro e u ⟨rfl,rfl⟩)
      go_round
      case rel=>exact⟨k+1,x,by omega,by go_num,rfl,b0,a8,a9⟩
      case measure=>simp[intOf];omega
   ·obtain rfl:k=N:=by omega
    have O:Hid (ZcG (bl s)=some (split 44 (bl s))):=hid (by
     rw[L.out,if_pos];refine⟨by have:=HA.out;rwa [Ya5 Om]at this,ZCz Y.out (fun j R=>HD.out j Om)⟩)
    have C : (ms.map (fun l => (⟨l.toArray⟩ : BA))).map bl = ms := by
      rw[Yb1]
      conv=>rhs;rw[<-List.map_id ms]
      exact Ycb (fun l _=>by simp[bl])
    have b1 : Hid (ZfM z (split 44 (bl s)) (.slice (some ⟨w.heap.size, 0, none⟩) k k)) := hid ⟨⟨some ⟨w.heap.size, 0, none⟩, k, k, split 44 (bl s)⟩, rfl, rfl, ms.map (fun l => ⟨l.toArray⟩), by
      have Q:=Zgi Z.out;rw[ZoW,C,Yak,a5];exact Q,by rw[C];exact Y.out,fun y=>by rw[C,p.mem_iff,I.out],by rw[Yak];omega⟩
    clear C;go_wp2;go_ret2;exact⟨_,Or.inr ⟨rfl,hid (GrpR.mkSome O.out ⟨rfl,b1.out⟩),K.out⟩⟩
theorem ZfM.below{a:List (LB)}(h:ZfM w a v)(c:BW w w'):ZfM w' a v:=by
 obtain⟨x,d,e,f⟩:=h;exact⟨x,d,e,f.below c⟩
theorem ZBx(s:BA)(b:Nat)(A:Nat->Addr)(m:Int)(w0:World)(u:Ground w0 A m b)(O:s.size<=maxLen) :
  OneC 141 ZfM RowZ w0 b s (A 8) (ZbX (bl s)):=by
 intro p w H I X;have f:=hid u;have B:Hid (CP 196 #[Vp b] w _):=hid (ZrS s p b w I (u.code H) u.ng X O);have P:=hid H;have c1:w.cell? ⟨b,1,none⟩=some (Vi p):=I.cell 1;clear I H u O;go_enter func141,ntmps141
 go_wp2_with fail
 clear c1;refine B.mono ?_;rintro e J ⟨v,err,rfl,i,j⟩;have k:=hid j;have C:Hid (BW w0 J):=hid (ZbV P.out j f.b);clear j B;cases d:ZcH (bl s) p with
 | error x=>
  obtain⟨fa,rfl⟩:=i.jn d;have l:Hid (RdC ZfM RowZ J b s (A 8) (ZbX (bl s) p) S0 (.iface 115 (Vp fa))):=hid (i.km d (by unfold ZbX;rw[d]) rfl);obtain⟨_,_,rfl,_⟩:=i.err d;clear i d;go_wp2;go_ret2;exact⟨_,_,rfl,l,k.out⟩
 | ok x=>
  obtain⟨t,q⟩:=x;obtain⟨rfl,⟨tx,rfl,g⟩,K⟩:=i.ok d;have Q:=(Zkl d).1;simp only at K Q g;have R:tx.size<=70000:=by rw[ZU g];omega
  have D:=hid K
  have h:Hid (ZbX (bl s) p=match ZcG (bl tx)with
   | none=>.error (9,p)
   | some y=>.ok (y,q)):=hid (by unfold ZbX;rw[d,g];simp only;cases ZcG t <;> rfl)
  clear i d K g
  go_wp2_with fail
  refine(ZBc tx A m J R (f.v.below C.out)).mono ?_;rintro e L ⟨v,ok,rfl,a,n⟩;have o:Hid (w.grownBy L (some b)):=hid (ZeT k.out n);have S:Hid (BW w0 L):=hid (ZbV P.out o.out f.b);have E:=hid (D.below n);clear n k C D;cases c:ZcG (bl tx)with
  | none=>
   rw[c]at a;obtain⟨rfl,rfl⟩:=a.out;have M:Hid (ZbX (bl s) p=.error (9,p)):=hid (by rw[h.out,c]);clear a c h
   go_wp2_with fail
   refine(ZfX _ (f.code S.out)).mono ?_;rintro e T ⟨v,rfl,N,r⟩;have l:Hid (RdC ZfM RowZ T b s (A 8) (ZbX (bl s) p) S0 v):=hid (RdC.ku M.out ⟨rfl,N.out,rfl,_,E.below r⟩);have U:Hid (w.grownBy T (some b)):=hid (ZeT o.out r);obtain⟨fa,rfl⟩:=ZM.shape N.out;clear N r;go_wp2;go_ret2;exact⟨_,_,rfl,l,U.out⟩
  | some y=>
   rw[c]at a;obtain⟨rfl,F⟩:=a.out;have G:=hid F;obtain⟨z,rfl,V,W⟩:=F;have M:Hid (ZbX (bl s) p=.ok (y,q)):=hid (by rw[h.out,c]);have l:Hid (RdC ZfM RowZ L b s (A 8) (ZbX (bl s) p) (.slice z.la z.ln z.lc) .nilIface):=hid (RdC.mkOk M.out ⟨rfl,G.out,E.out⟩);clear a c h V W G;go_wp2;go_ret2;exact⟨_,_,rfl,l,o.out⟩
theorem ZzE(a:Ground w0 A m b)(c:s.size<=maxLen):OneC 137 KV NZ w0 b s (A 8) (ZbW (bl s)):=
 fun p w d e f=>ZBb s p b w e (a.code d) a.ng f c
theorem ZzF(a:Ground w0 A m b)(c:s.size<=maxLen):OneC 143 IV IZ w0 b s (A 8) (ZbN (bl s)):=
 fun p w d e f=>ZBy s p b w e (a.code d) a.ng f c
theorem Zle{x:Int×Nat}(h:ZbW l p=.ok x):x.2<=l.length:=by
 unfold ZbW at h;cases a:Zbr l p 4 with
 | error e=>rw[a]at h;cases h
 | ok y=>
  rw[a]at h;simp only at h;split at h
  ·cases h
  ·injection h with h;subst h;have:=Zev a;omega
theorem ZlQ{x:(Nat×Nat)×Nat}(h:ZbN l p=.ok x):x.2<=l.length/\x.1.1<=13/\x.1.2<65536:=by
 unfold ZbN at h;cases c:Zbr l p 1 with
 | error e=>rw[c]at h;cases h
 | ok y=>
  rw[c]at h;simp only at h;split at h
  ·cases h
  ·rename_i g;cases a:Zbr l y.2 2 with
   | error e=>rw[a]at h;cases h
   | ok z=>
    rw[a]at h;injection h with h;subst h;have d:=Zev a;have f:z.1<256 ^ 2:=d.2.2.2;exact⟨by show z.2<=_;omega,by show y.1<=13;omega,f⟩
theorem ZmL{x:(Nd×Nat)×Nat}(h:Zb4 l p=.ok x):x.2<=l.length:=by
 unfold Zb4 at h;cases a:ZcH l p with
 | error e=>rw[a]at h;cases h
 | ok y=>
  rw[a]at h;simp only at h;cases c:ZbA y.1 with
  | none=>rw[c]at h;cases h
  | some z=>rw[c]at h;injection h with h;subst h;exact(Zkl a).2
theorem ZlE{x:List (LB)×Nat}(h:ZbX l p=.ok x):x.2<=l.length:=by
 unfold ZbX at h;cases a:ZcH l p with
 | error e=>rw[a]at h;cases h
 | ok y=>
  rw[a]at h;simp only at h;cases c:ZcG y.1 with
  | none=>rw[c]at h;cases h
  | some z=>rw[c]at h;injection h with h;subst h;exact(Zkl a).2
def Z2(l:LB):RdR CodeQ:=match Zc8 l with
 | .error e=>.error e
 | .ok n => match many (ZbW l) 9 n.1 with
   | .error e=>.error e
   | .ok cs => match many (Zb4 l) cs.2 n.2.1 with
     | .error e=>.error e
     | .ok ps => match many (ZbX l) ps.2 n.2.2.1 with
       | .error e=>.error e
       | .ok gs => match many (ZbN l) gs.2 n.2.2.2 with
         | .error e=>.error e
         | .ok is=>.ok (⟨cs.1,ps.1,gs.1,is.1⟩,is.2)
theorem ZoM(l:LB):Zb7 l=match Z2 l with
  | .error e=>.error e
  | .ok x => if l.length < x.2 + 4 then .error (9, l.length) else if x.2 + 4 < l.length then .error (9, x.2 + 4) else
    if back (l.drop x.2)≠sumQ (l.take x.2)then .error (10,0)else .ok x.1:=by
 unfold Zb7 Z2;cases Zc8 l with
 | error e=>rfl
 | ok n=>
  simp only;cases many (ZbW l) 9 n.1 with
  | error e=>rfl
  | ok cs=>
   simp only;cases many (Zb4 l) cs.2 n.2.1 with
   | error e=>rfl
   | ok ps=>
    simp only;cases many (ZbX l) ps.2 n.2.2.1 with
    | error e=>rfl
    | ok gs=>
     simp only;cases many (ZbN l) gs.2 n.2.2.2 with
     | error e=>rfl
     | ok is=>rfl
structure CodeV (w:World) (c:CodeQ) (cv pv gv iv:Value):Prop where
 cs:Zef w c.jq cv
 ps:Zek w c.jw pv
 gs:Zeh w c.jv gv
 is:InsV w c.jz iv
def CodV(w:World)(c:CodeQ)(v:Value):Prop:=∃cv pv gv iv,v=.agg #[cv,pv,gv,iv]/\CodeV w c cv pv gv iv
def CodZ(v:Value):Prop:=∃(a0 a1 a2 a3:Option Addr) (n0 n1 n2 n3 c0 c1 c2 c3:Nat),v=.agg #[.slice a0 n0 c0,.slice a1 n1 c1,.slice a2 n2 c2,.slice a3 n3 c3]
theorem Zef.ju{l:List Int}(h:Zef w l v){t:TypeId}(a:BAt w b c t)(d:w.grownBy w' (some b))(e:t≠3):Zef w' l v:=ZgZ h a d e
theorem InsV.ju{l:List (Nat×Nat)}(h:InsV w l v){t:TypeId}(a:BAt w b c t)(d:w.grownBy w' (some b))(e:t≠184):InsV w' l v:=ZgZ h a d e
theorem Zek.ju{l:List (Nd×Nat)}(h:Zek w l v){t:TypeId}(a:BAt w b c t)(d:w.grownBy w' (some b))(f:t≠294)(e:t≠379):Zek w' l v:=by
 obtain⟨xs,g,i,j⟩:=h;exact⟨xs,ZgZ g a d f,i,fun x k=>(j x k).ju a d e⟩
theorem Zeh.ju{l:List (List (LB))}(h:Zeh w l v){t:TypeId}(a:BAt w b c t)(d:w.grownBy w' (some b))(f:t≠90)(e:t≠9):Zeh w' l v:=by
 obtain⟨xs,g,i,j⟩:=h;exact⟨xs,ZgZ g a d f,i,fun x k=>(j x k).ju a d e⟩
theorem Zef.shape{l:List Int}(h:Zef w l v):∃a c,v=.slice a l.length c:=Zl h
theorem InsV.shape{l:List (Nat×Nat)}(h:InsV w l v):∃a c,v=.slice a l.length c:=Zl h
theorem Zek.shape{l:List (Nd×Nat)}(h:Zek w l v):∃a c,v=.slice a l.length c:=by
 obtain⟨xs,d,f,_⟩:=h;obtain⟨a,c,e⟩:=Zl d;exact⟨a,c,by rw[e,<-f,Yak]⟩
theorem Zeh.shape{l:List (List (LB))}(h:Zeh w l v):∃a c,v=.slice a l.length c:=by
 obtain⟨xs,d,f,_⟩:=h;obtain⟨a,c,e⟩:=Zl d;exact⟨a,c,by rw[e,<-f,Yak]⟩
theorem CodV.ju{l:CodeQ}(h:CodV w l v){t:TypeId}(a:BAt w b c t)(d:w.grownBy w' (some b))(f:t≠3)(g:t≠294)(i:t≠379)(j:t≠90)(k:t≠9)(m:t≠184):CodV w' l v:=by
 obtain⟨cv,pv,gv,iv,e,h⟩:=h;exact⟨cv,pv,gv,iv,e,h.cs.ju a d f,h.ps.ju a d g i,h.gs.ju a d j k,h.is.ju a d m⟩
theorem BAt.setk{t:TypeId}(h:BAt w a c t)(i:Nat)(v:Value):BAt (w.setCell ⟨a,i,none⟩ v) a (c.set i v) t:=by
 unfold BAt at h ⊢;simp only[World.setCell,Ybn,h,if_true,Ybf];show some (Obj.cells (c.toArray.setIfInBounds i v) t (0,0))=_;rw[Yc4]
def set4(w:World)(a:Nat)(x y z u:Value):World:=(((w.setCell ⟨a,0,none⟩ x).setCell ⟨a,1,none⟩ y).setCell ⟨a,2,none⟩ z).setCell ⟨a,3,none⟩ u
theorem Zgs{p0 p1 p2 p3 x:Value}{t:TypeId}(h:BAt w a [p0,p1,p2,p3] t):BAt (set4 w a x y z u) a [x,y,z,u] t:=
 (((h.setk 0 x).setk 1 y).setk 2 z).setk 3 u
theorem ret4{P:Program}{R:Ending->World->Prop}{a:Act}{v:World}{p q d e x r:Value}{t:TypeId}(c:∀W:World,W.cell? ⟨b,0,none⟩=some x->W.cell? ⟨b,1,none⟩=some y->W.cell? ⟨b,2,none⟩=some z->W.cell? ⟨b,3,none⟩=some u->(results fn a.tmps).run P W=.ok r W)(hd:a.defers=[])(f:BAt v b [p,q,d,e] t)(g:R (.returned r) (set4 v b x y z u)):bodyPost P fn R .ret a (set4 v b x y z u):=by
 have s:=Zgs f (x:=x) (y:=y) (z:=z) (u:=u);exact bodyPost_ret (c _ (s.cell 0) (s.cell 1) (s.cell 2) (s.cell 3)) hd g
theorem Zg8(w:World)(a:Nat)(x y z u:Value):w.grownBy (set4 w a x y z u) (some a):=ZA (ZA (ZA (ZA (ZbM w (some a)) (Or.inl rfl) _) (Or.inl rfl) _) (Or.inl rfl) _) (Or.inl rfl) _
theorem ZB1(h:w0.grownBy w (some b))(c:w0.heap.size<=a){x:Value}:w0.grownBy (set4 w a x y z u) (some b):=
 ZA (ZA (ZA (ZA h (Or.inr c) _) (Or.inr c) _) (Or.inr c) _) (Or.inr c) _
def cntB(l:LB)(k j:Nat):Value:=Vi ((if j<k then back (sub l (1+2*j) 2)else 0:Nat):Int)
def cntL(l:LB)(k:Nat):List Value:=[cntB l k 0,cntB l k 1,cntB l k 2,cntB l k 3]
theorem Zgf{α:Type}{one:Nat->RdR α}{n:Nat}(d:∀p x,one p=.ok x->x.2<=n)(f:p<=n):∀ {k:Nat} {xs:List α} {q:Nat},many one p k=.ok (xs,q)->q<=n
 | 0,xs,q,h=>by injection h with h;injection h with _ h2;omega
 | k + 1, xs, q, h => by
   unfold many at h;cases c:many one p k with
   | error e=>rw[c]at h;cases h
   | ok x=>
     rw[c]at h;simp only at h;cases a:one x.2 with
     | error e=>rw[a]at h;cases h
     | ok y=>
       rw[a]at h;injection h with h;injection h with _ h2;have:=d _ _ a;omega
theorem ZwW(h:l.head?=some 103)(d:k<4)(c:Zbr l (1+2*k) 2=.error x):Zc8 l=.error x:=by
 unfold Zbr at c;cases a:Zcg l (1+2*k) 2 with
 | ok y=>rw[a]at c;cases c
 | error e=>
  rw[a]at c;injection c with c;subst c;unfold Zcg at a;split at a
  ·injection a with a;subst a;unfold Zc8;rw[if_neg (by rw[h];simp),if_pos Om]
  ·cases a
theorem ZwU(h:l.head?=some 103)(a:9<=l.length):Zc8 l=.ok (back (sub l 1 2),back (sub l 3 2),back (sub l 5 2),back (sub l 7 2)):=by
 unfold Zc8;rw[if_neg (by rw[h];simp),if_neg Om]
theorem Zt0{x:Unit×Nat}(h:ZdI l=.ok x):l.head?=some 103/\x.2=1:=by
 unfold ZdI at h;by_cases e:l.head?=some 103
 ·rw[if_neg (by rw[e];simp)]at h;injection h with h;subst h;exact⟨e,rfl⟩
 ·rw[if_pos e]at h;cases h
theorem ZtZ(h:ZdI l=.error x):Z2 l=.error x:=by
 unfold ZdI at h;by_cases e:l.head?=some 103
 ·rw[if_neg (by rw[e];simp)]at h;cases h
 ·rw[if_pos e]at h;injection h with h;subst h;unfold Z2 Zc8;rw[if_pos e]
theorem CodZ.zero:CodZ (.agg #[S0,S0,S0,S0]):=⟨none,none,none,none,0,0,0,0,0,0,0,0,rfl⟩
theorem CodZ.mk{a0 a1 a2 a3:Option Addr}{n0 n1 n2 n3 c0 c1 c2 c3:Nat} : CodZ (.agg #[.slice a0 n0 c0,.slice a1 n1 c1,.slice a2 n2 c2,.slice a3 n3 c3]):=⟨_,_,_,_,_,_,_,_,_,_,_,_,rfl⟩
theorem BAt.four{x:Value}{t:TypeId}(h:BAt w a [x,y,z,u] t):(w.frozen? ⟨a,0,none⟩=false/\w.frozen? ⟨a,1,none⟩=false/\w.frozen? ⟨a,2,none⟩=false/\w.frozen? ⟨a,3,none⟩=false)/\w.cell? ⟨a,0,none⟩=some x/\w.cell? ⟨a,1,none⟩=some y/\w.cell? ⟨a,2,none⟩=some z/\w.cell? ⟨a,3,none⟩=some u:=⟨⟨h.frozen 0,h.frozen 1,h.frozen 2,h.frozen 3⟩,h.cell 0,h.cell 1,h.cell 2,h.cell 3⟩
structure CM (w v:World) (b:Nat) (cs:List Value):Prop where
 x:BAt v w.heap.size [S0,S0,S0,S0] 58
 y:BAt v (w.heap.size+1) cs 58
 g:w.grownBy v (some b)
 lt:b<w.heap.size
theorem CM.call{v v':World}(h:CM w v b cs)(a:v.grownBy v' (some b)):CM w v' b cs:=
 have:=h.lt
 ⟨h.x.grown a (by intro e;injection e with e;omega),h.y.grown a (by intro e;injection e with e;omega),Zj h.g a,h.lt⟩
theorem CM.set{v:World}(h:CM w v b cs)(i:Nat)(u:Value):CM w (v.setCell ⟨w.heap.size+1,i,none⟩ u) b (cs.set i u):=
 ⟨h.x.other (by show w.heap.size≠w.heap.size+1;omega) u,h.y.setk i u,ZA h.g (Or.inr (by show w.heap.size<=w.heap.size+1;omega)) u,h.lt⟩
theorem CM.self{v:World}(_:CM w v b cs)(i:Nat)(u:Value):v.grownBy (v.setCell ⟨w.heap.size+1,i,none⟩ u) (some (w.heap.size+1)):=ZA (ZbM _ _) (Or.inl rfl) _
theorem CM.bad{α:Type}{V:World->α->Value->Prop}{Y:Value->Prop}{v:World}{c0 c1 c2 c3 val err:Value}{r:RdR α}(h:CM w v b [c0,c1,c2,c3])(a:RdC V Y v b s ca r val err)(c:r=.error x)(d:Z2 (bl s)=.error x)(i:Nat)(e:CodZ (.agg #[c0,c1,c2,c3])) :
  RdC CodV CodZ (v.setCell ⟨w.heap.size+1,i,none⟩ S0) b s ca (Z2 (bl s)) (.agg #[c0,c1,c2,c3]) err:=
 RdC.kept (V:=CodV) (a.km c d e) (h.self i _) h.y Dc Dc (fun _ k=>k.ju h.y (h.self i _) Dc Dc Dc Dc Dc Dc)
theorem ZfV{v:World}{q:RdR CodeQ}{p0 p1 p2 p3:Value}{a:Act}
  (d:∀W:World,W.cell? ⟨w.heap.size,0,none⟩=some p0->W.cell? ⟨w.heap.size,1,none⟩=some p1->W.cell? ⟨w.heap.size,2,none⟩=some p2->W.cell? ⟨w.heap.size,3,none⟩=some p3->(results fn a.tmps).run prog W=.ok (.tuple #[.agg #[p0,p1,p2,p3],err]) W)
  (hd:a.defers=[]) (h:CM w v b cs) (f:RdC CodV CodZ v b s ca q (.agg #[p0,p1,p2,p3]) err) :
  bodyPost prog fn (fun e c=>∃v err,e=.returned (.tuple #[v,err])/\Hid (RdC CodV CodZ c b s ca q v err)/\w.grownBy c (some b)) .ret a (set4 v w.heap.size p0 p1 p2 p3):=by
 obtain⟨_,s0,s1,s2,s3⟩:=(Zgs h.x (x:=p0) (y:=p1) (z:=p2) (u:=p3)).four;have e:=Zg8 v w.heap.size p0 p1 p2 p3;exact bodyPost_ret (d _ s0 s1 s2 s3) hd ⟨_,_,rfl,f.kept e h.x Dc Dc (fun _ k=>k.ju h.x e Dc Dc Dc Dc Dc Dc),ZB1 h.g (Yac _)⟩
theorem ZBa(s:BA)(b:Nat)(A:Nat->Addr)(m:Int)(w0 w:World)(hG:Ground w0 A m b)(hs:s.size<=maxLen)(h0:BW w0 w)(hr:RdAt w b s 0) :
  CP 74 #[Vp b] w fun e w'=>∃v err,e=.returned (.tuple #[v,err])/\Hid (RdC CodV CodZ w' b s (A 8) (Z2 (bl s)) v err)/\w.grownBy w' (some b):=by
 have Q:=hr.lt;have C:=hid hG;have R:=hid hs;have H0:=hid h0;have c3:=hid hr;clear hr h0 hG hs;go_enter func74,ntmps74
 go_wp2_with fail
 refine Zm fun W hW=>?_;have a8:BW w W:=by rw[hW];exact Zbal.alloc (by simp) _
 have HM:Hid (CM w W b [S0,S0,S0,S0]):=hid ⟨by
  rw[hW];exact(Zbal.block _ (by simp)).trans (Go.Deep.blk_alloc_new _ _),by
  rw[hW];have:=Go.Deep.blk_alloc_new (w.alloc (.cells #[S0,S0,S0,S0] 58)) (.cells #[S0,S0,S0,S0] 58);rwa [Go.Deep.nblk_alloc]at this,Zw a8,Q⟩
 have b2:=hid (c3.below a8);clear hW a8;refine(ZA9 s b W b2.out (C.code (ZbV H0.out HM.g C.b)) C.ng R.out).mono ?_;rintro e J ⟨err,rfl,c,b3⟩;have H1:=hid (HM.call b3);clear b3 HM b2;cases U:ZdI (bl s)with
 | error x=>
  obtain⟨fa,rfl⟩:=c.jn U;have P:=hid (RdC.km (V':=CodV) (Z':=CodZ) c.out U (ZtZ U) CodZ.zero);have f:=H1.x.four;have d:=H1.y.four;clear c U;go_wp2;exact ZfV (fun W s0 s1 s2 s3=>by simp[results,results74,go_sem,s0,s1,s2,s3]) rfl H1.out P.out
 | ok x=>
  obtain⟨X,b4⟩:=Zt0 U;obtain⟨rfl,_,a9⟩:=c.ok U;have b5:Hid (RdAt J b s 1):=hid (by rw[b4]at a9;exact a9);have b6:=hid X
  have c4:1<=s.size:=by
   rcases Yav 0 s.size with h|h
   ·exact h
   ·rw[Ya3 (l:=bl s) (by rw[Zd];omega)]at X;cases X
  clear c U a9 b4 X;have d3:=H1.y.lt;go_wp2
  go_loopw [17] (fun i wr => ∃ k : Nat, k <= 4 /\ i = Vi k /\ 1 + 2 * k <= s.size /\ Hid (RdAt wr b s (1 + 2 * k)) /\ Hid (BAt wr J.heap.size (cntL (bl s) k) 287) /\ Hid (CM w wr b [S0, S0, S0, S0]))
    (fun i _=>4 - (intOf i).toNat)
  case atStart=>
   have hB:∀o,BW J (J.alloc o):=fun o=>(Yaf _ _).alloc (Yac _) o;exact⟨0,Yag _,rfl,c4,hid (b5.below (hB _)),hid (Go.Deep.blk_alloc_new J _),hid (H1.call (Zw (hB _)))⟩
  case round=>
   obtain⟨k,hk,rfl,b0,Y,Z,Hr⟩:=hrel;clear b5 H1;by_cases c5:k<4
   ·have d4:(k:Int)<4:=by omega
    go_wp2_with fail
    refine(Zis s (1+2*k) 2 b _ wr Y.out (C.code (ZbV H0.out Hr.g C.b)) b0 R.out Om).mono ?_;rintro e z ⟨v,err,rfl,c,j⟩;have V:=hid (Hr.call j);have a4:=hid (Z.grown j (by intro e;injection e with e;have:=Q;omega));clear j Y Z Hr;cases O:Zbr (bl s) (1+2*k) 2 with
    | error x=>
     obtain⟨fa,rfl⟩:=c.jn O;obtain⟨_,_,rfl,_⟩:=c.err O;have P:=hid (RdC.km (V':=CodV) (Z':=CodZ) (r':=Z2 (bl s)) c.out O (by unfold Z2;rw[ZwW b6.out c5 O]) CodZ.zero);have f:=V.x.four;have d:=V.y.four;clear c O;go_wp2;exact ZfV (fun W s0 s1 s2 s3=>by simp[results,results74,go_sem,s0,s1,s2,s3]) rfl V.out P.out
    | ok x=>
     obtain⟨n,q⟩:=x;obtain⟨rfl,rfl,E⟩:=c.ok O;obtain⟨a5,a6,a7,b7⟩:=Zev O;simp only at a5 a6 a7 b7 E;have b8:Hid (RdAt z b s (1+2*(k+1))):=hid (by rw[a7]at E;exact E);have c2:1+2*(k+1)<=s.size:=by rw[Zd]at a5;omega
     have c6:Hid (n=back (sub (bl s) (1+2*k) 2)):=hid a6;have k0:=a4.cell k;have kf:=a4.frozen k
     have c7:Hid (BAt (z.setCell ⟨J.heap.size,k,none⟩ (Vi n)) J.heap.size (cntL (bl s) (k+1)) 287):=hid (by
      have:=a4.setk k (Vi n);rw[c6.out]at this ⊢;rcases(by omega:k=0∨k=1∨k=2∨k=3)with rfl|rfl|rfl|rfl <;> exact this)
     have c8:=hid (b8.other (p:=⟨J.heap.size,k,none⟩) (by show b≠J.heap.size;omega) (Vi n));have c9:Hid (CM w (z.setCell ⟨J.heap.size,k,none⟩ (Vi n)) b [S0,S0,S0,S0]):=hid ⟨V.x.other (by show w.heap.size≠J.heap.size;omega) _,V.y.other (by show w.heap.size+1≠J.heap.size;omega) _,ZA V.g (Or.inr (by show w.heap.size<=J.heap.size;omega)) _,Q⟩
     have d0:∃u,z.cell? ⟨J.heap.size,k,none⟩=some u:=by
      rw[k0];rcases(by omega:k=0∨k=1∨k=2∨k=3)with rfl|rfl|rfl|rfl <;> exact⟨_,rfl⟩
     obtain⟨u,T⟩:=d0;clear c O E a5 a6 a7 b7 k0 b8 V a4;go_wp2
     go_roundw
     case rel=>exact⟨k+1,by omega,by go_num,c2,c8,c7,c9⟩
     case measure=>simp[intOf];omega
   ·obtain rfl:k=4:=by omega
    have b1:Hid (BAt wr J.heap.size [Vi (back (sub (bl s) 1 2)),Vi (back (sub (bl s) 3 2)),Vi (back (sub (bl s) 5 2)),Vi (back (sub (bl s) 7 2))] 287):=Z;have O:∀i,back (sub (bl s) i 2)<65536:=fun i=>ZhM (n:=2) (by unfold sub;rw[Ya7];omega);have d5:=O 1;have a5:=O 3;have a6:=O 5;have a7:=O 7
    have B:Hid (Z2 (bl s)=match many (ZbW (bl s)) 9 (back (sub (bl s) 1 2))with
     | .error e=>.error e
     | .ok cs => match many (Zb4 (bl s)) cs.2 (back (sub (bl s) 3 2)) with
       | .error e=>.error e
       | .ok ps => match many (ZbX (bl s)) ps.2 (back (sub (bl s) 5 2)) with
         | .error e=>.error e
         | .ok gs => match many (ZbN (bl s)) gs.2 (back (sub (bl s) 7 2)) with
           | .error e=>.error e
           | .ok is=>.ok (⟨cs.1,ps.1,gs.1,is.1⟩,is.2)):=hid (by unfold Z2;rw[ZwU b6.out (by rw[Zd];omega)])
    generalize back (sub (bl s) 1 2)=N0 at *
    generalize back (sub (bl s) 3 2)=N1 at *
    generalize back (sub (bl s) 5 2)=N2 at *
    generalize back (sub (bl s) 7 2)=N3 at *
    clear Z O;have b9:Hid (RdAt wr b s 9):=Y;clear Y;have kk0:=b1.cell 0;simp only[Ycy]at kk0
    go_wp2_with fail
    refine(ZyS s 9 N0 b w0 wr (ZbV H0.out Hr.g C.b) C.b b9.out b0 Om (ZbW (bl s)) (ZzE C.out R.out) (fun p x h _=>by have:=Zle h;rwa [Zd]at this)).mono ?_;rintro e z ⟨v,err,rfl,c,j⟩;have a:=hid (Hr.call j);have K:=hid (b1.grown j (by intro e;injection e with e;have:=Q;omega));clear j kk0 b9 b1 Hr;cases r:many (ZbW (bl s)) 9 N0 with
    | error x=>
     obtain⟨fa,rfl⟩:=c.jn r;obtain⟨_,_,rfl,_⟩:=c.err r;have P:=hid (a.bad c.out r (by rw[B.out,r]) 0 CodZ.mk);have G:=hid (a.set 0 S0);have f:=a.x.four;have d:=a.y.four;clear c r B;go_wp2;exact ZfV (fun W s0 s1 s2 s3=>by simp[results,results74,go_sem,s0,s1,s2,s3]) rfl G.out P.out
    | ok x=>
     obtain⟨l0,q0⟩:=x;obtain⟨rfl,N,E⟩:=c.ok r;obtain⟨a0,e0,rfl⟩:=Zef.shape N;have c0:q0<=s.size:=Zgf (fun p x h=>by have:=Zle h;rwa [Zd]at this) b0 r
     replace B:Hid (Z2 (bl s)=match many (Zb4 (bl s)) q0 N1 with
      | .error e=>.error e
      | .ok y1 => match many (ZbX (bl s)) y1.2 N2 with
        | .error e=>.error e
        | .ok z2 => match many (ZbN (bl s)) z2.2 N3 with
          | .error e=>.error e
          | .ok u3=>.ok (⟨l0,y1.1,z2.1,u3.1⟩,u3.2)):=hid (by rw[B.out,r])
     have H:=hid N;have I:=hid E;simp only at H I;have D:=a.self 0 (.slice a0 l0.length e0);have F:=hid (H.ju a.y D Dc);have t:=hid (I.other (p:=⟨w.heap.size+1,0,none⟩) (by show b≠w.heap.size+1;omega) (.slice a0 l0.length e0));have G:=hid (a.set 0 (.slice a0 l0.length e0));have L:=hid (K.other (p:=⟨w.heap.size+1,0,none⟩) (by show J.heap.size≠w.heap.size+1;omega) (.slice a0 l0.length e0));have d:=a.y.four;have kk:=K.cell 1;simp only[Zget]at kk;clear c r N E D H I
     go_wp2_with fail
     refine Zm fun u T=>?_;rw[<-T]at t G L F;clear T a K d kk;refine(ZyT s q0 N1 b w0 u (ZbV H0.out G.g C.b) C.b t.out c0 Om (Zb4 (bl s)) (ZBz s b A m w0 C.out R.out) (fun p x h _=>by have:=ZmL h;rwa [Zd]at this)).mono ?_;rintro e w3 ⟨v,err,rfl,c,j⟩;have a:=hid (G.call j);have K:=hid (L.grown j (by intro e;injection e with e;have:=Q;omega));replace F:=hid (F.ju t.out j Dc);clear j t L G;cases r:many (Zb4 (bl s)) q0 N1 with
     | error x=>
      obtain⟨fa,rfl⟩:=c.jn r;obtain⟨_,_,rfl,_⟩:=c.err r;have P:=hid (a.bad c.out r (by rw[B.out,r]) 1 CodZ.mk);have G:=hid (a.set 1 S0);have f:=a.x.four;have d:=a.y.four;clear c r B;go_wp2;exact ZfV (fun W s0 s1 s2 s3=>by simp[results,results74,go_sem,s0,s1,s2,s3]) rfl G.out P.out
     | ok x=>
      obtain⟨l1,q1⟩:=x;obtain⟨rfl,N,E⟩:=c.ok r;obtain⟨a1,e1,rfl⟩:=Zek.shape N;have c1:q1<=s.size:=Zgf (fun p x h=>by have:=ZmL h;rwa [Zd]at this) c0 r
      replace B:Hid (Z2 (bl s)=match many (ZbX (bl s)) q1 N2 with
       | .error e=>.error e
       | .ok z2 => match many (ZbN (bl s)) z2.2 N3 with
         | .error e=>.error e
         | .ok u3=>.ok (⟨l0,l1,z2.1,u3.1⟩,u3.2)):=hid (by rw[B.out,r])
      have H:=hid N;have I:=hid E;simp only at H I;have D:=a.self 1 (.slice a1 l1.length e1);have F:=hid (F.ju a.y D Dc);have M:=hid (H.ju a.y D Dc Dc);have t:=hid (I.other (p:=⟨w.heap.size+1,1,none⟩) (by show b≠w.heap.size+1;omega) (.slice a1 l1.length e1));have G:=hid (a.set 1 (.slice a1 l1.length e1));have L:=hid (K.other (p:=⟨w.heap.size+1,1,none⟩) (by show J.heap.size≠w.heap.size+1;omega) (.slice a1 l1.length e1));have d:=a.y.four;have kk:=K.cell 2;simp only[Zget]at kk;clear c r N E D H I
      go_wp2_with fail
      refine Zm fun u T=>?_;rw[<-T]at t G L F M;clear T a K d kk;refine(ZyQ s q1 N2 b w0 u (ZbV H0.out G.g C.b) C.b t.out c1 Om (ZbX (bl s)) (ZBx s b A m w0 C.out R.out) (fun p x h _=>by have:=ZlE h;rwa [Zd]at this)).mono ?_;rintro e w4 ⟨v,err,rfl,c,j⟩;have a:=hid (G.call j);have K:=hid (L.grown j (by intro e;injection e with e;have:=Q;omega));replace F:=hid (F.ju t.out j Dc);replace M:=hid (M.ju t.out j Dc Dc);clear j t L G;cases r:many (ZbX (bl s)) q1 N2 with
      | error x=>
       obtain⟨fa,rfl⟩:=c.jn r;obtain⟨_,_,rfl,_⟩:=c.err r;have P:=hid (a.bad c.out r (by rw[B.out,r]) 2 CodZ.mk);have G:=hid (a.set 2 S0);have f:=a.x.four;have d:=a.y.four;clear c r B;go_wp2;exact ZfV (fun W s0 s1 s2 s3=>by simp[results,results74,go_sem,s0,s1,s2,s3]) rfl G.out P.out
      | ok x=>
       obtain⟨l2,q2⟩:=x;obtain⟨rfl,N,E⟩:=c.ok r;obtain⟨a2,e2,rfl⟩:=Zeh.shape N;have d1:q2<=s.size:=Zgf (fun p x h=>by have:=ZlE h;rwa [Zd]at this) c1 r
       replace B:Hid (Z2 (bl s)=match many (ZbN (bl s)) q2 N3 with
        | .error e=>.error e
        | .ok u3=>.ok (⟨l0,l1,l2,u3.1⟩,u3.2)):=hid (by rw[B.out,r])
       have H:=hid N;have I:=hid E;simp only at H I;have D:=a.self 2 (.slice a2 l2.length e2);have F:=hid (F.ju a.y D Dc);have M:=hid (M.ju a.y D Dc Dc);have S:=hid (H.ju a.y D Dc Dc);have t:=hid (I.other (p:=⟨w.heap.size+1,2,none⟩) (by show b≠w.heap.size+1;omega) (.slice a2 l2.length e2));have G:=hid (a.set 2 (.slice a2 l2.length e2));have L:=hid (K.other (p:=⟨w.heap.size+1,2,none⟩) (by show J.heap.size≠w.heap.size+1;omega) (.slice a2 l2.length e2));have d:=a.y.four;have kk:=K.cell 3;simp only[Zget]at kk;clear c r N E D H I
       go_wp2_with fail
       refine Zm fun u T=>?_;rw[<-T]at t G L F M S;clear T a K d kk;refine(ZyR s q2 N3 b w0 u (ZbV H0.out G.g C.b) C.b t.out d1 Om (ZbN (bl s)) (ZzF C.out R.out) (fun p x h _=>by have:=(ZlQ h).1;rwa [Zd]at this)).mono ?_;rintro e w5 ⟨v,err,rfl,c,j⟩;have a:=hid (G.call j);have K:=hid (L.grown j (by intro e;injection e with e;have:=Q;omega));replace F:=hid (F.ju t.out j Dc);replace M:=hid (M.ju t.out j Dc Dc);replace S:=hid (S.ju t.out j Dc Dc);clear j t L G;cases r:many (ZbN (bl s)) q2 N3 with
       | error x=>
        obtain⟨fa,rfl⟩:=c.jn r;obtain⟨_,_,rfl,_⟩:=c.err r;have P:=hid (a.bad c.out r (by rw[B.out,r]) 3 CodZ.mk);have G:=hid (a.set 3 S0);have f:=a.x.four;have d:=a.y.four;clear c r B;go_wp2;exact ZfV (fun W s0 s1 s2 s3=>by simp[results,results74,go_sem,s0,s1,s2,s3]) rfl G.out P.out
       | ok x=>
        obtain⟨l3,q3⟩:=x;obtain⟨rfl,N,E⟩:=c.ok r;obtain⟨a3,e3,rfl⟩:=InsV.shape N;replace B:Hid (Z2 (bl s)=.ok (⟨l0,l1,l2,l3⟩,q3)):=hid (by rw[B.out,r]);have H:=hid N;have I:=hid E;simp only at H I;have D:=a.self 3 (.slice a3 l3.length e3);have F:=hid (F.ju a.y D Dc);have M:=hid (M.ju a.y D Dc Dc);have S:=hid (S.ju a.y D Dc Dc);have d2:=hid (H.ju a.y D Dc);have t:=hid (I.other (p:=⟨w.heap.size+1,3,none⟩) (by show b≠w.heap.size+1;omega) (.slice a3 l3.length e3));have G:=hid (a.set 3 (.slice a3 l3.length e3));have f:=a.x.four;have d:=a.y.four;have P:Hid (RdC CodV CodZ _ b s (A 8) (Z2 (bl s)) _ _):=hid (RdC.mkOk B.out ⟨rfl,⟨_,_,_,_,rfl,F.out,M.out,S.out,d2.out⟩,t.out⟩);clear c r N E D H I B;go_wp2;exact ZfV (fun W s0 s1 s2 s3=>by simp[results,results74,go_sem,s0,s1,s2,s3]) rfl G.out P.out
def DecC(w:World)(A:Nat->Addr)(r:Except (Nat×Nat) CodeQ)(v err:Value):Prop:=match r with
 | .ok c=>err=.nilIface/\CodV w c v
 | .error x=>v=.agg #[.slice none 0 0,.slice none 0 0,.slice none 0 0,.slice none 0 0]/\((x.1=9/\ZM w err x.2 (A 8))∨(x=(10,0)/\err=.iface 491 (.pointer (some (A 9)))))
theorem DecC.mkOk{r:Except (Nat×Nat) CodeQ}{c:CodeQ}(a:r=.ok c)(h:err=.nilIface/\CodV w c v):DecC w A r v err:=by subst a;exact h
theorem DecC.ku{r:Except (Nat×Nat) CodeQ}(a:r=.error x)(h:v=.agg #[S0,S0,S0,S0]/\((x.1=9/\ZM w err x.2 (A 8))∨(x=(10,0)/\err=.iface 491 (.pointer (some (A 9)))))):DecC w A r v err:=by subst a;exact h
theorem Zgt(h:BW w0 w)(c:w0.heap.size<=a)(x y z u:Value):BW w0 (set4 w a x y z u):=
 (((h.setCell (p:=⟨a,0,none⟩) c _).setCell (p:=⟨a,1,none⟩) c _).setCell (p:=⟨a,2,none⟩) c _).setCell (p:=⟨a,3,none⟩) c _
theorem CodV.shape{c:CodeQ}(h:CodV w c v):∃(a0 a1 a2 a3:Option Addr) (n0 n1 n2 n3 c0 c1 c2 c3:Nat),v=.agg #[.slice a0 n0 c0,.slice a1 n1 c1,.slice a2 n2 c2,.slice a3 n3 c3]:=by
 obtain⟨cv,pv,gv,iv,rfl,h⟩:=h;obtain⟨a0,c0,rfl⟩:=h.cs.shape;obtain⟨a1,c1,rfl⟩:=h.ps.shape;obtain⟨a2,c2,rfl⟩:=h.gs.shape;obtain⟨a3,c3,rfl⟩:=h.is.shape;exact⟨_,_,_,_,_,_,_,_,_,_,_,_,rfl⟩
theorem CodV.below{l:CodeQ}(h:CodV w l v)(a:BW w w'):CodV w' l v:=by
 obtain⟨cv,pv,gv,iv,e,h⟩:=h;refine⟨cv,pv,gv,iv,e,Zn h.cs a,?_,?_,Zn h.is a⟩
 ·obtain⟨xs,c,d,f⟩:=h.ps;exact⟨xs,Zn c a,d,fun x g=>(f x g).below a⟩
 ·obtain⟨xs,c,d,f⟩:=h.gs;exact⟨xs,Zn c a,d,fun x g=>(f x g).below a⟩
theorem ZM.ju{p:Int}{a:Addr}(h:ZM w v p a){t:TypeId}(d:BAt w b c t)(e:w.grownBy w' (some b))(f:t≠119):ZM w' v p a:=h.grown e d f
theorem Zud{x:CodeQ×Nat}(h:Z2 l=.ok x):x.2<=l.length:=by
 unfold Z2 at h;cases a:Zc8 l with
 | error e=>rw[a]at h;cases h
 | ok n=>
  rw[a]at h
  have i:9<=l.length:=by
   unfold Zc8 at a;split at a
   ·cases a
   ·split at a
    ·cases a
    ·omega
  simp only at h;cases c:many (ZbW l) 9 n.1 with
  | error e=>rw[c]at h;cases h
  | ok cs=>
   rw[c]at h;simp only at h;have g1:=Zgf (n:=l.length) (fun p x h=>Zle h) i c;cases d:many (Zb4 l) cs.2 n.2.1 with
   | error e=>rw[d]at h;cases h
   | ok ps=>
    rw[d]at h;simp only at h;have g2:=Zgf (n:=l.length) (fun p x h=>ZmL h) g1 d;cases f:many (ZbX l) ps.2 n.2.2.1 with
    | error e=>rw[f]at h;cases h
    | ok gs=>
     rw[f]at h;simp only at h;have g3:=Zgf (n:=l.length) (fun p x h=>ZlE h) g2 f;cases g:many (ZbN l) gs.2 n.2.2.2 with
     | error e=>rw[g]at h;cases h
     | ok is=>
      rw[g]at h;injection h with h;subst h;exact Zgf (n:=l.length) (fun p x h=>(ZlQ h).1) g3 g
theorem ZAU(s:BA)(A:Nat->Addr)(m:Int)(w:World)(N:Vars w A m)(h:ZR w)(hB:20<=w.heap.size)(hs:s.size<=maxLen) :
  CP 38 #[.string s] w fun e w'=>∃v err,e=.returned (.tuple #[v,err])/\Hid (DecC w' A (Zb7 (bl s)) v err)/\BW w w':=by
 have i:Hid (Ground w A m (w.heap.size+1)):=hid ⟨N,h,hB,by omega⟩;have b0:=hid hs;have c8:=hs;unfold maxLen at c8;clear N h hB hs;go_enter func38,ntmps38
 go_wp2_with fail
 refine Zm fun W hW=>?_;have b1:BW w W:=by rw[hW];exact Zbal.alloc (by simp) _
 have b2:Hid (BAt W w.heap.size [S0,S0,S0,S0] 58):=hid (by
  rw[hW];exact(Zbal.block _ (by simp)).trans (Go.Deep.blk_alloc_new _ _))
 have b3:Hid (RdAt W (w.heap.size+1) s 0):=hid (by
  rw[hW];have:=Go.Deep.blk_alloc_new (w.alloc (.cells #[S0,S0,S0,S0] 58)) (.cells #[.string s,Vi 0] 178);rwa [Go.Deep.nblk_alloc]at this)
 have P:=hid b1;clear hW b1;refine(ZBa s (w.heap.size+1) A m w W i.out b0.out P.out b3.out).mono ?_;rintro e I ⟨v,err,rfl,j,Q⟩;have t:Hid (BW w I):=hid (ZbV P.out Q i.b);have d:=hid (b2.grown Q (by intro e;injection e with e;omega));clear Q b2 b3 P;cases B:Z2 (bl s)with
 | error x=>
  obtain⟨fa,rfl⟩:=j.jn B;obtain⟨C,D,⟨a0,a1,a2,a3,n0,n1,n2,n3,e0,e1,e2,e3,rfl⟩,_⟩:=j.err B;have p:Hid (Zb7 (bl s)=.error x):=hid (by rw[ZoM,B]);have R:=hid D;have S:=hid C;have c6:=d.lt;clear j B C D;have f0:=d.frozen 0;have f1:=d.frozen 1;have f2:=d.frozen 2;have f3:=d.frozen 3;have c0:=d.cell 0;have c1:=d.cell 1;have c2:=d.cell 2;have c3:=d.cell 3;simp only[Zget]at c0 c1 c2 c3;go_wp2;change bodyPost _ _ _ _ _ ((set4 I w.heap.size S0 S0 S0 S0).alloc (.cells #[.slice a0 n0 e0,.slice a1 n1 e1,.slice a2 n2 e2,.slice a3 n3 e3] 58));have st:=(Zgs d.out (x:=S0) (y:=S0) (z:=S0) (u:=S0)).below ((Yaf _ _).alloc (Yac _) (.cells #[.slice a0 n0 e0,.slice a1 n1 e1,.slice a2 n2 e2,.slice a3 n3 e3] 58));have s0:=st.cell 0;have s1:=st.cell 1;have s2:=st.cell 2;have s3:=st.cell 3;simp only[Zget]at s0 s1 s2 s3;have T:=hid ((Zgt t.out (Yac _) S0 S0 S0 S0).alloc (Zgt t.out (Yac _) S0 S0 S0 S0).size (.cells #[.slice a0 n0 e0,.slice a1 n1 e1,.slice a2 n2 e2,.slice a3 n3 e3] 58));have c9:=hid ((R.ju d.out (Zg8 I w.heap.size S0 S0 S0 S0) Dc).below ((Yaf _ _).alloc (Yac _) (.cells #[.slice a0 n0 e0,.slice a1 n1 e1,.slice a2 n2 e2,.slice a3 n3 e3] 58)));generalize(set4 I w.heap.size S0 S0 S0 S0).alloc (.cells #[.slice a0 n0 e0,.slice a1 n1 e1,.slice a2 n2 e2,.slice a3 n3 e3] 58)=WX at *
  exact bodyPost_ret (v:=.tuple #[.agg #[S0,S0,S0,S0],.iface 115 (Vp fa)]) (by simp[results,results38,go_sem,s0,s1,s2,s3]) rfl ⟨_,_,rfl,hid (DecC.ku p.out ⟨rfl,Or.inl ⟨S.out,c9.out⟩⟩),T.out⟩
 | ok x=>
  obtain⟨c,q⟩:=x;obtain⟨rfl,J,E⟩:=j.ok B;obtain⟨a0,a1,a2,a3,n0,n1,n2,n3,e0,e1,e2,e3,rfl⟩:=J.shape;have hq:=Zud B;simp only at hq E J;rw[Zd]at hq;have b4:=hid E;have b5:=hid J
  have o:Hid (Zb7 (bl s)=if (bl s).length<q+4 then .error (9,(bl s).length)else if q+4<(bl s).length then .error (9,q+4)else
    if back ((bl s).drop q)≠sumQ ((bl s).take q)then .error (10,0)else .ok c):=hid (by rw[ZoM,B])
  have rc:=E.cell 1;simp only[Zget]at rc;have c6:=d.lt;have d8:=E.lt;clear j B E J
  go_wp2_with fail
  refine Zm fun W2 U=>?_;have F:BW I W2:=by rw[U];exact Zbal
  have V:Hid (BW w W2):=hid (t.trans (F.mono t.size));have b6:=hid (d.below F);have X:=hid (b4.below F);have b7:Hid (BAt W2 I.heap.size [.slice a0 n0 e0,.slice a1 n1 e1,.slice a2 n2 e2,.slice a3 n3 e3] 58):=hid (by rw[U];exact Go.Deep.blk_alloc_new _ _);have Y:=hid (b5.below F);clear U F rc d t b4 b5;refine(Zis s q 4 (w.heap.size+1) _ W2 X.out (i.code V.out) hq b0.out Om).mono ?_;rintro e w3 ⟨v,err,rfl,j,G⟩;have k:Hid (BW w w3):=hid (ZbV V.out G i.b);have a:=hid (b6.grown G (by intro e;injection e with e;omega));have H:=hid (b7.grown G (by intro e;injection e with e;omega));have c7:=hid (Y.ju X.out G Dc Dc Dc Dc Dc Dc);have d6:=a.lt;have d7:=H.lt;clear G b6 b7 Y X V;have f0:=a.frozen 0;have f1:=a.frozen 1;have f2:=a.frozen 2;have f3:=a.frozen 3;have c0:=a.cell 0;have c1:=a.cell 1;have c2:=a.cell 2;have c3:=a.cell 3;simp only[Zget]at c0 c1 c2 c3;cases g:Zbr (bl s) q 4 with
  | error x=>
   obtain⟨fa,rfl⟩:=j.jn g;obtain⟨C,D,rfl,_⟩:=j.err g
   have Z:x=(9,(bl s).length)/\(bl s).length<q+4:=by
    unfold Zbr at g;cases h:Zcg (bl s) q 4 with
    | ok y=>rw[h]at g;cases g
    | error y=>
     rw[h]at g;injection g with g;unfold Zcg at h;split at h
     ·injection h with h;exact⟨by rw[<-g,<-h],by assumption⟩
     ·cases h
   have p:Hid (Zb7 (bl s)=.error x):=hid (by rw[o.out,if_pos Z.2,Z.1]);have R:=hid D;have S:=hid C;clear j g C D Z o;go_wp2;exact ret4 (r:=.tuple #[.agg #[S0,S0,S0,S0],.iface 115 (Vp fa)]) (fun W s0 s1 s2 s3=>by simp[results,results38,go_sem,s0,s1,s2,s3]) rfl a.out ⟨_,_,rfl,hid (DecC.ku p.out ⟨rfl,Or.inl ⟨S.out,R.ju a.out (Zg8 w3 w.heap.size S0 S0 S0 S0) Dc⟩⟩),Zgt k.out (Yac _) S0 S0 S0 S0⟩
  | ok x=>
   obtain⟨n,q2⟩:=x;obtain⟨rfl,rfl,K⟩:=j.ok g;obtain⟨b8,a4,L,a5⟩:=Zev g;simp only at b8 a4 L a5 K;have a5:n<4294967296:=a5;rw[Zd]at b8;have d9:=hid K;have b9:=hid a4;have rc:=K.cell 1;simp only[Zget]at rc;have e4:=hid L;have a6:q2=q+4:=L;clear j g a4 L K;by_cases e5:q2<s.size
   ·have p:Hid (Zb7 (bl s)=.error (9,q2)):=hid (by rw[o.out,if_neg (by rw[Zd];omega),if_pos (by rw[Zd];omega),a6]);have d0:(q2:Int)<s.size:=by omega
    clear o a6
    go_wp2_with fail
    refine(ZfX _ (i.code k.out)).mono ?_;rintro e w4 ⟨v,rfl,N,a7⟩;have R:=N;have d1:Hid (BW w w4):=hid (k.trans (a7.mono k.size));have f:=hid (a.below a7);obtain⟨fa,rfl⟩:=ZM.shape N.out;clear a7 a f0 f1 f2 f3 c0 c1 c2 c3 rc N;have f0:=f.frozen 0;have f1:=f.frozen 1;have f2:=f.frozen 2;have f3:=f.frozen 3;have c0:=f.cell 0;have c1:=f.cell 1;have c2:=f.cell 2;have c3:=f.cell 3;simp only[Zget]at c0 c1 c2 c3;go_wp2;exact ret4 (r:=.tuple #[.agg #[S0,S0,S0,S0],.iface 115 (Vp fa)]) (fun W s0 s1 s2 s3=>by simp[results,results38,go_sem,s0,s1,s2,s3]) rfl f.out ⟨_,_,rfl,hid (DecC.ku p.out ⟨rfl,Or.inl ⟨rfl,R.ju f.out (Zg8 w4 w.heap.size S0 S0 S0 S0) Dc⟩⟩),Zgt d1.out (Yac _) S0 S0 S0 S0⟩
   ·have d0:¬(q2:Int)<s.size:=by omega
    have e6:q+4=s.size:=by omega
    have M:bl (s.extract 0 q)=(bl s).take q:=by rw[Zfh];rfl
    have a8:sub (bl s) q 4=(bl s).drop q:=by unfold sub;exact Ya5 (by rw[Ybv,Zd];omega)
    have hQ:=Znn ((bl s).take q);have l:Hid (Zb7 (bl s)=if n≠sumQ ((bl s).take q)then .error (10,0)else .ok c):=hid (by rw[o.out,if_neg (by rw[Zd];omega),if_neg (by rw[Zd];omega),b9.out,a8]);have c4:(s.extract 0 q).size<=maxLen:=by unfold maxLen;rw[Yga];omega
    obtain⟨SQ,a9⟩:∃SQ,SQ=sumQ ((bl s).take q):=⟨_,rfl⟩
    have c5:Hid (∀W',CP 77 #[.string (s.extract 0 q)] W' fun e w'=>e=.returned (.int .u32 SQ)/\w'=W'):=hid (fun W'=>by rw[a9,<-M];exact Zru (s.extract 0 q) W' c4);rw[<-a9]at l hQ;have d2:=hid (i.v.below k.out);have gs:w3.cell? ⟨9,0,none⟩=some (.iface 491 (.pointer (some (A 9)))):=d2.sent _ Dc;clear o a8 M a9 b9 c4 a6;by_cases he:n=SQ
    ·subst he;have p:Hid (Zb7 (bl s)=.ok c):=hid (by rw[l.out,if_neg (by simp)]);have d3:(((n:Int) % 4294967296) != (n:Int))=false:=by rw[Int.emod_eq_of_lt Om Om];simp
     have y0:=H.cell 0;have y1:=H.cell 1;have y2:=H.cell 2;have y3:=H.cell 3;simp only[Zget]at y0 y1 y2 y3;clear l gs
     go_wp2_with (go_at_call 77;refine(c5.out _).mono ?_;rintro e O ⟨rfl,rfl⟩)
     exact ret4 (r:=.tuple #[.agg #[.slice a0 n0 e0,.slice a1 n1 e1,.slice a2 n2 e2,.slice a3 n3 e3],.nilIface]) (fun W s0 s1 s2 s3=>by simp[results,results38,go_sem,s0,s1,s2,s3]) rfl a.out ⟨_,_,rfl,hid (DecC.mkOk p.out ⟨rfl,c7.ju a.out (Zg8 O w.heap.size (.slice a0 n0 e0) (.slice a1 n1 e1) (.slice a2 n2 e2) (.slice a3 n3 e3)) Dc Dc Dc Dc Dc Dc⟩),Zgt k.out (Yac _) (.slice a0 n0 e0) (.slice a1 n1 e1) (.slice a2 n2 e2) (.slice a3 n3 e3)⟩
    ·have p:Hid (Zb7 (bl s)=.error (10,0)):=hid (by rw[l.out,if_pos he]);have d3:(((n:Int) % 4294967296) != (SQ:Int))=true:=by rw[Int.emod_eq_of_lt Om Om,bne_iff_ne];omega
     clear l
     go_wp2_with (go_at_call 77;refine(c5.out _).mono ?_;rintro e O ⟨rfl,rfl⟩)
     have e7:=i.n;have d4:Hid (BAt O.drew w.heap.size [S0,S0,S0,S0] 58):=hid (a.below ((Yaf _ _).drew));have d5:Hid (BW w O.drew):=hid (k.drew);have h9:¬w.heap.size=9:=by omega
     have e8:¬9=w.heap.size:=by omega
     go_region
     all_goals
      go_wp2;change bodyPost _ _ _ _ _ (set4 O.drew w.heap.size S0 S0 S0 S0);have st:=Zgs d4.out (x:=S0) (y:=S0) (z:=S0) (u:=S0);have s0:=st.cell 0;have s1:=st.cell 1;have s2:=st.cell 2;have s3:=st.cell 3;simp only[Zget]at s0 s1 s2 s3;have T:=hid (Zgt d5.out (Yac _) S0 S0 S0 S0);generalize set4 O.drew w.heap.size S0 S0 S0 S0=WX at *
      exact bodyPost_ret (v:=.tuple #[.agg #[S0,S0,S0,S0],.iface 491 (.pointer (some (A 9)))]) (by simp[results,results38,go_sem,s0,s1,s2,s3]) rfl ⟨_,_,rfl,hid (DecC.ku p.out ⟨rfl,Or.inr ⟨rfl,rfl⟩⟩),T.out⟩
abbrev StAt (w:World) (nb:Nat) (a:Ah):Prop:=BAt w nb (stC a) 312
theorem StAt.cells{a:Ah}(h:StAt w nb a):w.cell? ⟨nb,0,none⟩=some (.bool a.kj)/\w.cell? ⟨nb,1,none⟩=some (.bool a.kw)/\w.cell? ⟨nb,2,none⟩=some (Vi a.jy.length):=
 ⟨(h.cell 0).trans (ZcA a 0 Dc),(h.cell 1).trans (ZcA a 1 Dc),(h.cell 2).trans (ZcA a 2 Dc)⟩
theorem StAt.jy{a:Ah}(h:StAt w nb a)(j:Nat)(c:j<64):w.cell? ⟨nb,3+j,none⟩=some (.int .u8 ((a.jy.reverse.getD j 0:Nat):Int)):=(h.cell _).trans (Zni a j c)
theorem StAt.slot{a:Ah}(h:StAt w nb a)(j:Nat)(c:j<16):w.cell? ⟨nb,67+j,none⟩=some (.int .u8 ((a.jx.getD j 0:Nat):Int)):=(h.cell _).trans (Znh a j c)
def putK(k:Nat)(a:Ah):Option Ah:=if k=0∨a.jy.length=64 then none else some { a with jy:=k::a.jy }
theorem Zfo (k : Nat) (w : World) : CP 202 #[.int .u8 k] w fun e u => e = .returned (.bool (Zby k)) /\ u = w := by
  by_cases a:k=1
  · subst a
    go_enter func202,ntmps202;go_wp2;go_ret;exact⟨rfl,rfl⟩
  · by_cases c:k=2
    · subst c
      go_enter func202,ntmps202;go_wp2;go_ret;exact⟨rfl,rfl⟩
    · have d:Hid (Zby k=false):=hid (by unfold Zby;simp[a,c])
      have e1:((k:Int) == 1)=false:=by rw[beq_eq_false_iff_ne];omega
      have e2:((k:Int) == 2)=false:=by rw[beq_eq_false_iff_ne];omega
      go_enter func202,ntmps202;go_wp2;go_ret;exact⟨Zcy d.symm,rfl⟩
theorem Zeb(nb:Nat)(a:Ah)(k:Nat)(w:World)(h:StAt w nb a)(o:a.jy.length<=64) :
  CP 199 #[Vp nb,.int .u8 k] w fun e u=>e=.returned (.bool (putK k a).isSome)/\Hid (∀a',putK k a=some a'->StAt u nb a')/\w.grownBy u (some nb):=by
 obtain⟨c0,c1,c2⟩:=h.cells;have H:=hid h;by_cases j:k=0
 ·subst j;have c:Hid (putK 0 a=none):=hid (if_pos (Or.inl rfl));clear h c0 c1;go_enter func199,ntmps199;go_wp2;go_ret;exact⟨by rw[c.out];rfl,hid (fun a' e=>by rw[c.out]at e;cases e),ZbM _ _⟩
 ·have m:((k:Int) == 0)=false:=by rw[beq_eq_false_iff_ne];omega
  by_cases d:a.jy.length=64
  ·have c:Hid (putK k a=none):=hid (if_pos (Or.inr d));rw[d]at c2;clear h c0 c1;go_enter func199,ntmps199;go_wp2;go_ret;exact⟨by rw[c.out];rfl,hid (fun a' e=>by rw[c.out]at e;cases e),ZbM _ _⟩
  ·have g:Hid (putK k a=some { a with jy:=k::a.jy }):=hid (if_neg Om);have f:a.jy.length<64:=by omega
   have q:((a.jy.length:Int) == 64)=false:=by rw[beq_eq_false_iff_ne];omega
   have d0:=h.jy a.jy.length f;have f0:=h.frozen (3+a.jy.length);have f2:=h.frozen 2
   have i:Hid (StAt ((w.drew.setCell ⟨nb,3+a.jy.length,none⟩ (.int .u8 k)).setCell ⟨nb,2,none⟩ (Vi ((a.jy.length+1:Nat):Int))) nb { a with jy:=k::a.jy }):=hid (by
    have:=((h.below ((Yaf _ _).drew)).setk (3+a.jy.length) (.int .u8 k)).setk 2 (Vi ((a.jy.length+1:Nat):Int));rw[ZCG a k f]at this;exact this)
   have l:Hid (w.grownBy ((w.drew.setCell ⟨nb,3+a.jy.length,none⟩ (.int .u8 k)).setCell ⟨nb,2,none⟩ (Vi ((a.jy.length+1:Nat):Int))) (some nb)):=hid (ZA (p:=⟨nb,2,none⟩) (ZA (p:=⟨nb,3+a.jy.length,none⟩) (Zdi (ZbM _ _)) (Or.inl rfl) _) (Or.inl rfl) _);generalize r:a.jy.length=n at *
   clear h c0 c1;go_enter func199,ntmps199;go_wp2
   go_region
   all_goals
    go_wp2;go_ret;exact⟨by rw[g.out];rfl,hid (fun a' e=>by rw[g.out]at e;injection e with e;subst e;exact i.out),l.out⟩
theorem Zec(nb:Nat)(a:Ah)(w:World)(h:StAt w nb a)(l:a.jy.length<=64) :
  CP 201 #[Vp nb] w fun e u=>e=.returned (.int .u8 ((a.jy.headD 0:Nat):Int))/\Hid (StAt u nb { a with jy:=a.jy.tail })/\w.grownBy u (some nb):=by
 obtain⟨c0,c1,c2⟩:=h.cells;have H:=hid h;cases c:a.jy with
 | nil=>
  rw[c]at c2
  have m:Hid (StAt w nb { a with jy:=([]:List Nat).tail }):=hid (by
   have : { a with jy:=([]:List Nat).tail }=a:=by rw[<-show a.jy=([]:List Nat).tail from c]
   rw[this];exact h)
  clear h c0 c1 c;go_enter func201,ntmps201;go_wp2;go_ret;exact⟨rfl,m,ZbM _ _⟩
 | cons k r=>
  have d:a.jy.length=r.length+1:=by rw[c];rfl
  have o:r.length<64:=by omega
  have d0:w.cell? ⟨nb,3+r.length,none⟩=some (.int .u8 (k:Int)):=by
   have:=h.jy r.length o;rw[c]at this;rw[this];simp
  have f0:=h.frozen (3+r.length);have f2:=h.frozen 2;rw[d]at c2;have t:(((r.length:Int)+1) == 0)=false:=by rw[beq_eq_false_iff_ne];omega
  have f : Hid (∀ W : World, (∀ j, W.heap[j]? = w.heap[j]?) -> StAt ((W.setCell ⟨nb, 2, none⟩ (Vi (r.length : Int))).setCell ⟨nb, 3 + r.length, none⟩ (.int .u8 0)) nb { a with jy := r }) := hid (fun W q => by
    have s:StAt W nb a:=(q nb).trans h;have g:=(s.setk 2 (Vi (r.length:Int))).setk (3+r.length) (.int .u8 0);have i:=ZCF a l Om;rw[d,Yen]at i;rw[i,show a.jy.tail=r by rw[c];rfl]at g;exact g)
  rw[show(k::r).headD 0=k from rfl,show(k::r).tail=r from rfl];generalize r.length=n at *
  clear h c0 c1 c d H;go_enter func201,ntmps201;go_wp2
  go_region
  all_goals
   go_wp2
   go_region
   all_goals
    go_wp2;go_ret;exact⟨rfl,hid (f.out w (fun _=>rfl)),ZA (p:=⟨nb,3+n,none⟩) (Zdi (Zdi (ZA (p:=⟨nb,2,none⟩) (ZbM _ _) (Or.inl rfl) _))) (Or.inl rfl) _⟩
theorem Zuq (op arg : Nat) (w : World) : CP 146 #[.agg #[Vi op, Vi arg]] w fun e u => e = .returned (.bool (ZcE op)) /\ BW w u := by
  by_cases a:op=9
  · subst a
    go_enter func146,ntmps146;go_wp2;go_ret;exact⟨rfl,belB⟩
  · by_cases c:op=10
    · subst c
      go_enter func146,ntmps146;go_wp2;go_ret;exact⟨rfl,belB⟩
    · have d:Hid (ZcE op=false):=hid (by unfold ZcE;simp[a,c])
      have e1:((op:Int) == 9)=false:=by rw[beq_eq_false_iff_ne];omega
      have e2:((op:Int) == 10)=false:=by rw[beq_eq_false_iff_ne];omega
      go_enter func146,ntmps146;go_wp2;go_ret;exact⟨Zcy d.symm,belB⟩
theorem ZwQ (op arg : Nat) (w : World) : CP 149 #[.agg #[Vi op, Vi arg]] w fun e u => e = .returned (.bool (Zf4 op)) /\ BW w u := by
  by_cases a:op=12
  · subst a
    go_enter func149,ntmps149;go_wp2;go_ret;exact⟨rfl,belB⟩
  · by_cases c:op=13
    · subst c
      go_enter func149,ntmps149;go_wp2;go_ret;exact⟨rfl,belB⟩
    · have d:Hid (Zf4 op=false):=hid (by unfold Zf4;simp[a,c])
      have e1:((op:Int) == 12)=false:=by rw[beq_eq_false_iff_ne];omega
      have e2:((op:Int) == 13)=false:=by rw[beq_eq_false_iff_ne];omega
      go_enter func149,ntmps149;go_wp2;go_ret;exact⟨Zcy d.symm,belB⟩
theorem ZpY (nm : BA) (la : Option Addr) (ln lc n : Nat) (w : World) : CP 226 #[.agg #[.string nm, .slice la ln lc, Vi n]] w fun e u => e = .returned (.bool (decide (0 < n))) /\ BW w u := by
  by_cases h:0<n
  · have a:(0:Int)<n:=by omega
    go_enter func226,ntmps226;go_wp2;go_ret;exact⟨Zcy (by simp[h]),belB⟩
  · have a:¬(0:Int)<n:=by omega
    go_enter func226,ntmps226;go_wp2;go_ret;exact⟨Zcy rfl,belB⟩
theorem Zxw (nm : BA) (la : Option Addr) (ln lc n : Nat) (nd : Nd) (w : World) : CP 200 #[.agg #[.string nm, .slice la ln lc, Vi n]] w fun e u => e = .returned (.int .u8 (Zb3 (nd, n) : Nat)) /\ BW w u := by
  go_enter func200,ntmps200
  go_wp2_with fail
  refine Zm fun W i=>?_;have a:BW w W:=by rw[i];exact Zbal
  have c:=hid a;clear i a;refine(ZpY nm la ln lc n W).mono ?_;rintro e j ⟨rfl,d⟩;have f:Hid (BW w j):=hid (c.trans (d.mono c.size));clear d;by_cases h:0<n
  · have hd:decide (0<n)=true:=by simp[h]
    have g:Hid (Zb3 (nd,n)=3):=hid (if_pos h);rw[hd];clear hd h;go_wp2;go_ret;exact⟨by rw[g.out];rfl,f.out⟩
  · have hd:decide (0<n)=false:=by simp[h]
    have g:Hid (Zb3 (nd,n)=2):=hid (if_neg h);rw[hd];clear hd h;go_wp2;go_ret;exact⟨by rw[g.out];rfl,f.out⟩
theorem ZAZ(c:k≠0)(a:Ah):(putK k a).isSome=(ZE k a.jy a.jx).isSome/\∀st sl,ZE k a.jy a.jx=some (st,sl)->putK k a=some { a with jy:=st,jx:=sl }:=by
 unfold putK ZE;by_cases h:a.jy.length=64
 ·rw[if_pos (Or.inr h),if_pos h];exact⟨rfl,fun _ _ e=>by cases e⟩
 ·rw[if_neg (by rintro(e|e) <;> contradiction),if_neg h];exact⟨rfl,fun st sl e=>by injection e with e;injection e with e1 e2;subst e1;subst e2;rfl⟩
theorem ZA0(a:Ah):putK 0 a=none:=if_pos (Or.inl rfl)
def ZT(w w':World)(nb:Nat)(a:Ah)(r:Option (List Nat×List Nat))(ok:Bool):Prop:=ok=r.isSome/\(∀st sl,r=some (st,sl)->StAt w' nb { a with jy:=st,jx:=sl })/\w.grownBy w' (some nb)
theorem ZT.put{a a1:Ah}(f:k≠0)(g:r=ZE k a1.jy a1.jx)(c:a1.kj=a.kj/\a1.kw=a.kw)(h:∀a',putK k a1=some a'->StAt w' nb a')(i:w.grownBy w' (some nb)):ZT w w' nb a r (putK k a1).isSome:=by
 have d:=ZAZ f a1;subst g;refine⟨d.1,fun st sl e=>?_,i⟩;have:=h _ (d.2 st sl e);rw[c.1,c.2]at this;exact this
theorem ZT.no{a:Ah}(c:r=none)(d:w.grownBy w' (some nb)):ZT w w' nb a r false:=by
 subst c;exact⟨rfl,(fun _ _ e=>(by cases e)),d⟩
