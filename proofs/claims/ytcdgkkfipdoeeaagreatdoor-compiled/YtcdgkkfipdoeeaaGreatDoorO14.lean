/- Parts. -/
import Derived.Test.YtcdgkkfipdoeeaaGreatDoorO13
import Derived.Sort.OwnSorted
set_option linter.all false
set_option maxRecDepth 100000
set_option maxHeartbeats 16000000
namespace Go.Proofs.YtcdgkkfipdoeeaaGreatDoor
open Go.RowKit LS Go.Proofs.Tryz
variable {ca:Addr}{a:Ah}{s:BA}{ok:Bool}{fn:Func}{m:Int}{l:LB}{c cs:List Value}{arg b e0 e1 e2 e3 g i k n0 n1 n2 n3 nb op p:Nat}{A:Nat->Addr}{x:Nat×Nat}{r:Option (List Nat×List Nat)}{a0 a1 a2 a3 la:Option Addr}{err u v y z:Value}{w w' w0:World}
theorem Zjy(x y:LB):decide (x<=y)=!Op.bytesLess y x:=by
 rw[bytesLess_eq,Ybh,decide_eq_true_iff,Ycr,decide_eq_false_iff_not];exact Yez
theorem ZCy (ss : List (LB)) : (ss.mergeSort fun x y => decide (x <= y)).Pairwise fun a b => Op.bytesLess b a = false := by
  have h := Yfa (le := fun (x y) => decide _) (by
    intro a b c d i;rw[Zjy,Ycr]at *
    cases h:Op.bytesLess c a with
    | false=>rfl
    | true=>
      cases f:Op.bytesLess b c with
      | true=>rw[Zdv _ _ _ f h]at d;cases d
      | false=>
        have e:=Zdh _ _ f i;rw[e,h]at d;cases d) (by
    intro a b;rw[Zjy,Zjy];cases h:Op.bytesLess b a with
    | false=>rfl
    | true=>
      cases f:Op.bytesLess a b with
      | false=>rfl
      | true=>have:=Zdv _ _ _ h f;rw[ZcL]at this;cases this) ss
  refine h.imp (fun {a b} g=>?_);rw[Zjy,Ycr]at g;exact g
theorem ZoW(bs:List BA):Zbc bs=(bs.map bl).map encStr:=by
 unfold Zbc;rw[Yb1];refine Ycb (fun b _=>?_);cases b with
 | mk d=>simp[encStr,bl]
theorem ZCz {l : List (LB)} (e : l.Pairwise fun a b => Op.bytesLess b a = false) (h : ∀ k, k + 1 < l.length -> l[k]? ≠ l[k + 1]?) : l.Nodup := by
  induction l with
  | nil=>exact Yfq
  | cons a l ih=>
    rw[Ybg]at e;rw[List.nodup_cons];refine⟨fun f=>?_,ih e.2 (fun k g=>by have:=h _ (by simpa using g);simpa using this)⟩;cases l with
    | nil=>cases f
    | cons c r=>
      have d:=h 0 (by simp);simp only[Zget,Ycf]at d;rcases Yau.1 f with rfl|f
      · exact d rfl
      · have i:=(Ybg.1 e.2).1 a f
        have j:=e.1 c (by simp);exact d (by rw[Zdh _ _ i j])
theorem ZwD{t:LB}{ms:List (LB)}(g:t≠[])(a:ms.Perm (split 44 t)):ZcG t=if ms.all Zx=true/\ms.Nodup then some (split 44 t)else none:=by
 unfold ZcG;rw[if_neg g]
 have d:(split 44 t).all Zx=true ↔ ms.all Zx=true:=by
  rw[Ybu,Ybu];exact⟨fun h x c=>h x (a.mem_iff.1 c),fun h x c=>h x (a.mem_iff.2 c)⟩
 have f:=a.nodup_iff.symm;by_cases e:ms.all Zx=true/\ms.Nodup
 ·rw[if_pos e,if_pos ⟨d.2 e.1,f.2 e.2⟩]
 ·rw[if_neg e,if_neg (fun h=>e ⟨d.1 h.1,f.1 h.2⟩)]
def GrpR(w:World)(r:Option (List (LB)))(v:Value)(ok:Bool):Prop:=match r with
 | some a=>ok=true/\ZfM w a v
 | none=>ok=false/\RowZ v
theorem GrpR.mkNone{r:Option (List (LB))}(a:r=none)(h:ok=false/\RowZ v):GrpR w r v ok:=by subst a;exact h
theorem GrpR.mkSome{r:Option (List (LB))}{a:List (LB)}(c:r=some a)(h:ok=true/\ZfM w a v):GrpR w r v ok:=by subst c;exact h
theorem ZBc(A:Nat->Addr)(m:Int)(hs:s.size<=70000)(hv:Vars w A m) :
  CP 184 #[.string s] w fun e u=>∃v ok,e=.returned (.tuple #[v,.bool ok])/\Hid (GrpR u (ZcG (bl s)) v ok)/\BW w u:=by
 have HM:=hid hv.max;clear hv;by_cases h0:s.size=0
 ·have o:s.toList.isEmpty=true:=ZoT Om;have HQ:Hid (ZcG _=some _):=hid (by unfold ZcG;rw[if_pos (ZgW o)]);go_enter func184,ntmps184;go_wp2;go_ret2;exact⟨_,_,rfl,hid (GrpR.mkSome HQ ⟨rfl,⟨none,0,0,[]⟩,rfl,rfl,[],Ybc _ _ _ _,List.Pairwise.nil,fun y=>Yez,by simp⟩),Yaf _ _⟩
 ·have o:s.toList.isEmpty=false:=Zrh Om;have S:=Zij o;have T:=hid (strings_Split s ⟨#[44]⟩ m w Om HM (Yac 1));have hd:(Lib.splitB ⟨#[44]⟩ 0 _ s).map bl=split _ _:=(Lib.splitB_data _ 0 (Lib.countB s ⟨#[44]⟩) s).trans (Zsq _ _ (bl s) (Yac _));have E:=Lib.splitB_all ⟨#[44]⟩ (Yac 1) 0 _ s rfl;go_enter func184,ntmps184
  go_wp2_with fail
  refine T.mono ?_;rintro e w1 ⟨rfl,p⟩;obtain⟨bs,U⟩:∃bs,bs=Lib.splitB ⟨#[44]⟩ 0 (Lib.countB s ⟨#[44]⟩) s:=⟨_,rfl⟩
  rw[<-U]at hd E p;have Z:(split 44 (bl s)).length<=s.size+1:=by have:=Zhd 44 (bl s);rwa [Zd]at this
  have a0:bs.length=(split 44 (bl s)).length:=by rw[<-hd,Yak]
  obtain⟨N,hN⟩:∃N,N=Lib.countB s ⟨#[44]⟩+1:=⟨_,rfl⟩
  rw[<-hN]at E ⊢;have b1:N<=70001:=by omega
  have b2:1<=N:=by omega
  obtain⟨ss,q⟩:∃ss,ss=bs.map bl:=⟨_,rfl⟩
  have c:ss.length=N:=by rw[q,Yak,E]
  have V:Below _ w _:=p▸Zbal;have O:w1.heap[w.heap.size]?=some (.cells _ 9 _):=p▸bnw;have a1:=(Yae.1 O).1;have F:bs.map _=ss.map _:=q▸ZoW bs;have hH:=holds_of_block O (by rw[F,c];exact Ya5 (by rw[Yak,c];exact Yac _));have hS:=slices_Sort_string _ 0 N _ _ hH a1 Om;rw[c]at hS;have HS:=hid hS;have G:=hid V;have HH:=hid O;have H:Hid (ss=split 44 (bl s)):=by rwa [q]
  have I:=hid E;have a2:=hid S;clear hS hH O V p U hd E Z a0 q F T S o HM hN
  go_wp2_with (go_at_call 203;refine HS.mono ?_;rintro e z ⟨rfl,nn,os,f⟩;have W:=hid f;clear f)
  have f:=W.out;clear W;obtain⟨ms,r⟩:∃ms,ms=ss.mergeSort (fun x y=>decide (x<=y)):=⟨_,rfl⟩
  have t:Hid _:=r▸List.mergeSort_perm _ _;have a3:Hid (ms.Pairwise fun a b=>Op.bytesLess b a=false):=r▸ZCy ss;have a4:ms.length=N:=by rw[t.length_eq,c]
  have B:z.ownsRow w.heap.size 9 1 (.slice (some ⟨w.heap.size,0,none⟩) N N) N (ms.map encStr):=by
   have P:=ownsRow_sorted (n:=nn) (os:=os) (cap:=N) (t.length_eq) (Yac _) HH (c▸Yac _) (by unfold maxLen;omega) (by simp[I.out]);rw[c]at P;rw[f,<-r];exact P
  have J:Hid _:=f▸G.grown (grownBy_sorted _) G.size (fun j Q=>by cases Q;exact Yac _);have K:Hid (ZcG _=if ms.all _=true/\ms.Nodup then some _ else none):=hid (ZwD a2 (by rwa [<-H.out]))
  have a5 : Hid (∀ k (h : k < ms.length), ms[k].length <= 70000) := hid (fun k h => by
    have d:=t.mem_iff.1 (List.getElem_mem h);rw[H]at d;have:=Zne _ _ _ d;rw[Zd]at this;omega)
  have X:=hid B;have b3:=hid c;clear B f r HS HH G I c;go_wp2
  go_loop [5,16] (fun lv i=>∃(k:Nat) (last:BA),k<=N/\i=Vi k/\lv=.string last/\Hid (bl last=if k=0 then [] else ms.getD (k - 1) [])/\Hid ((ms.take k).all Zx=true)/\Hid (∀j,j+1<k->ms[j]?≠ms[j+1]?)) (fun _ i=>N - (intOf i).toNat)
  case atStart=>exact⟨0,⟨#[]⟩,Yag _,rfl,rfl,hid rfl,hid rfl,hid (fun j Q=>by omega)⟩
  case round=>
   obtain⟨k,last,hk,rfl,rfl,HL,HA,HD⟩:=hrel;by_cases b4:k<N
   ·have g:k<ms.length:=by omega
    have b5:(k:Int)<N:=by omega
    obtain⟨x,hx⟩:∃x:BA,x=⟨ms[k].toArray⟩:=⟨_,rfl⟩
    have D:Hid (bl x=ms[k]):=hid (by rw[hx,ZbF]);have d0:z.cell? _=some (.string x):=Zi X k _ (by rw[hx,Ya2,List.getElem?_eq_getElem g];rfl);have L:x.size<=70000:=ZU D.out▸a5.out k g;clear hx;cases R:Zx (bl x)with
    | false=>
     have M:Hid (ZcG _=none):=hid (by
      rw[K,if_neg];rintro⟨h,_⟩;have:=Ybu.1 h _ (List.getElem_mem g);rw[<-D,R]at this;cases this)
     go_wp2_with (go_at_call 48;refine(Zkt x _ L).mono ?_;rintro e u ⟨rfl,rfl⟩)
     go_ret2;exact⟨_,_,rfl,hid (GrpR.mkNone M ⟨rfl,rfl⟩),J⟩
    | true=>
     by_cases o:x=last
     ·subst o;have a6:(x.toList == x.toList)=true:=by simp
      have Y:k≠0:=by
       intro e;subst e;have d:=HL.out;rw[if_pos rfl]at d;rw[d]at R;exact absurd R Dc
      have M:Hid (ZcG _=none):=hid (by
       rw[K,if_neg];rintro⟨_,h⟩;have d:=HL.out;rw[if_neg Y,D,Yaa,List.getElem?_eq_getElem Om,Ya6]at d;have:=(List.pairwise_iff_getElem.1 h) (k - 1) k Om g Om;exact this d.symm)
      clear Y
      go_wp2_with (go_at_call 48;refine(Zkt x _ L).mono ?_;rintro e u ⟨rfl,rfl⟩)
      go_ret2;exact⟨_,_,rfl,hid (GrpR.mkNone M ⟨rfl,rfl⟩),J⟩
     ·have a6:(x.toList == last.toList)=false:=by
       rw[beq_eq_false_iff_ne,Zbt,Zbt];intro e;exact o (ZcW e)
      have a7:Hid ((ms.take _).all _=true):=hid (by
       rw[List.take_succ_eq_append_getElem g,Yfc,HA,<-D];simp[R])
      have a8 : Hid (∀ j, j + 1 < k + 1 -> ms[j]? ≠ ms[j + 1]?) := hid (fun j Q => by
        by_cases e:j+1=k
        · subst e
          rw[List.getElem?_eq_getElem g,List.getElem?_eq_getElem Om,<-D];intro e2;injection e2 with e2;have d:=HL.out;rw[if_neg Om,Yaa,Yen,List.getElem?_eq_getElem Om,Ya6]at d;exact o (ZcW (by rw[d,e2]))
        · exact HD j Om)
      have a9:Hid (bl x=if k+1=0 then [] else ms.getD (k+1 - 1) []):=hid (by
       rw[if_neg Om,Yen,Yaa,List.getElem?_eq_getElem _,Ya6,D])
      clear o
      go_wp2_with (go_at_call 48;refine(Zkt x _ L).mono ?_;rintro e u ⟨rfl,rfl⟩)
      go_round
      case rel=>exact⟨k+1,x,by omega,by go_num,rfl,a9,a7,a8⟩
      case measure=>simp[intOf];omega
   ·obtain rfl:k=N:=by omega
    have M:Hid (ZcG _=some _):=hid (by
     rw[K,if_pos];refine⟨by have:=HA.out;rwa [Ya5 Om]at this,ZCz a3 (fun j Q=>HD j Om)⟩)
    have C : (ms.map (fun l => (⟨l.toArray⟩))).map bl = ms := by
      rw[Yb1]
      conv=>rhs;rw[<-List.map_id ms]
      exact Ycb (fun l _=>by simp[bl])
    have b0:Hid (ZfM _ (split _ _) (.slice (some _) k k)):=hid ⟨⟨some _,k,k,split _ _⟩,rfl,rfl,ms.map _,by
     have P:=Zgi X;rw[ZoW,C,Yak,a4];exact P,by rwa [C],fun y=>by rw[C,t.mem_iff,H],by rw[Yak];omega⟩
    clear C;go_wp2;go_ret2;exact⟨_,.inr ⟨rfl,hid (GrpR.mkSome M ⟨rfl,b0⟩),J⟩⟩
theorem ZBx(s:BA)(b:Nat)(A:Nat->Addr)(m:Int)(u:Ground w0 A m b)(M:s.size<=maxLen) :
  OneC 138 ZfM RowZ w0 b s (A 8) (ZbX (bl s)):=by
 intro p w H I U;have f:=hid u;have B:=hid (ZrS s p b w I (u.code H) u.ng U M);have N:=hid H;have c1:w.cell? _=some _:=I.cell 1;clear I H u M;go_enter func138,ntmps138
 go_wp2_with fail
 clear c1;refine B.mono ?_;rintro e V ⟨v,err,rfl,i,j⟩;have k:=hid j;have C:=hid (ZbV N j f.b);clear j B;cases d:ZcH (bl s) p with
 | error x=>
  obtain⟨fa,rfl⟩:=i.kq d;have l:Hid (RdC ZfM RowZ _ b s _ (ZbX _ p) _ _):=hid (i.qj d (by unfold ZbX;rw[d]) rfl);obtain⟨_,_,rfl,_⟩:=i.err d;clear i d;go_wp2;go_ret2;exact⟨_,_,rfl,l,k⟩
 | ok x=>
  obtain⟨t,q⟩:=x;obtain⟨rfl,⟨tx,rfl,g⟩,J⟩:=i.ok d;have O:=(Zkl d).1;simp only at J O g;have P:tx.size<=70000:=by rw[ZU g];omega
  have D:=hid J
  have h:Hid (ZbX (bl s) p=match ZcG (bl tx)with
   | none=>.error (9,p)
   | some y=>.ok (y,q)):=by unfold ZbX;rw[d,g];simp only;cases ZcG t <;> rfl
  clear i d J g
  go_wp2_with fail
  refine(ZBc A m P (f.v.below C)).mono ?_;rintro e W ⟨v,ok,rfl,a,n⟩;have o:=hid (ZeT k n);have Q:=hid (ZbV N o f.b);have E:=hid (D.below n);clear n k C D;cases c:ZcG (bl tx)with
  | none=>
   rw[c]at a;obtain⟨rfl,rfl⟩:=a.out;have K:Hid (ZbX _ p=.error _):=hid (by rw[h,c]);clear a c h
   go_wp2_with fail
   refine(ZfX _ (f.code Q)).mono ?_;rintro e X ⟨v,rfl,L,r⟩;have l:Hid (RdC ZfM RowZ _ b s _ _ _ v):=hid (RdC.qq K ⟨rfl,L,rfl,_,E.below r⟩);have R:=hid (ZeT o r);obtain⟨fa,rfl⟩:=ZM.shape L;clear L r;go_wp2;go_ret2;exact⟨_,_,rfl,l,R⟩
  | some y=>
   rw[c]at a;obtain⟨rfl,F⟩:=a.out;have G:=hid F;obtain⟨z,rfl,S,T⟩:=F;have K:Hid (ZbX _ p=.ok _):=hid (by rw[h,c]);have l:Hid (RdC _ RowZ _ b s (A 8) _ _ _):=hid (RdC.mkOk K ⟨rfl,G,E⟩);clear a c h S T G;go_wp2;go_ret2;exact⟨_,_,rfl,l,o⟩
theorem ZzE(a:Ground w0 A m b)(c:s.size<=maxLen):OneC 134 KV NZ w0 b s (A 8) (ZbW (bl s)):=
 fun p w d e f=>ZBb s p b w e (a.code d) a.ng f c
theorem ZzF(a:Ground w0 A m b)(c:s.size<=maxLen):OneC 140 IV IZ w0 b s (A 8) (ZbN (bl s)):=
 fun p w d e f=>ZBy s p b w e (a.code d) a.ng f c
theorem Zle{x:Int×Nat}(h:ZbW l p=.ok x):x.2<=l.length:=by
 unfold ZbW at h;cases a:Zbr l p 4 with
 | error e=>rw[a]at h;cases h
 | ok y=>
  rw[a]at h;simp only at h;split at h
  ·cases h
  ·injection h with h;subst h;have:=Zev a;omega
theorem ZlQ{x:(Nat×Nat)×Nat}(h:ZbN l p=.ok x):x.2<=l.length/\x.1.1<=13/\x.1.2<65536:=by
 unfold ZbN at h;cases c:Zbr l p 1 with
 | error e=>rw[c]at h;cases h
 | ok y=>
  rw[c]at h;simp only at h;split at h
  ·cases h
  ·rename_i g;cases a:Zbr l y.2 2 with
   | error e=>rw[a]at h;cases h
   | ok z=>
    rw[a]at h;injection h with h;subst h;have d:=Zev a;have f:=d.2.2.2;exact⟨by show z.2<=_;omega,by show y.1<=13;omega,f⟩
theorem ZmL{x:(Nd×Nat)×Nat}(h:Zb4 l p=.ok x):x.2<=l.length:=by
 unfold Zb4 at h;cases a:ZcH l p with
 | error e=>rw[a]at h;cases h
 | ok y=>
  rw[a]at h;simp only at h;cases c:ZbA y.1 with
  | none=>rw[c]at h;cases h
  | some z=>rw[c]at h;injection h with h;subst h;exact(Zkl a).2
theorem ZlE{x:List (LB)×Nat}(h:ZbX l p=.ok x):x.2<=l.length:=by
 unfold ZbX at h;cases a:ZcH l p with
 | error e=>rw[a]at h;cases h
 | ok y=>
  rw[a]at h;simp only at h;cases c:ZcG y.1 with
  | none=>rw[c]at h;cases h
  | some z=>rw[c]at h;injection h with h;subst h;exact(Zkl a).2
def Z2(l:LB):RdR CodeQ:=match Zc8 l with
 | .error e=>.error e
 | .ok n => match many (ZbW l) 9 n.1 with
   | .error e=>.error e
   | .ok cs => match many (Zb4 l) cs.2 n.2.1 with
     | .error e=>.error e
     | .ok ps => match many (ZbX l) ps.2 n.2.2.1 with
       | .error e=>.error e
       | .ok gs => match many (ZbN l) gs.2 n.2.2.2 with
         | .error e=>.error e
         | .ok is=>.ok (⟨cs.1,ps.1,gs.1,is.1⟩,is.2)
theorem ZoM(l:LB):Zb7 l=match Z2 l with
  | .error e=>.error e
  | .ok x => if l.length < x.2 + 4 then .error (9, l.length) else if x.2 + 4 < l.length then .error (9, x.2 + 4) else
    if back (l.drop x.2)≠sumQ (l.take x.2)then .error (10,0)else .ok x.1:=by
 unfold Zb7 Z2;cases Zc8 l with
 | error e=>rfl
 | ok n=>
  simp only;cases many (ZbW l) 9 n.1 with
  | error e=>rfl
  | ok cs=>
   simp only;cases many (Zb4 l) cs.2 n.2.1 with
   | error e=>rfl
   | ok ps=>
    simp only;cases many (ZbX l) ps.2 n.2.2.1 with
    | error e=>rfl
    | ok gs=>
     simp only;cases many (ZbN l) gs.2 n.2.2.2 with
     | error e=>rfl
     | ok is=>rfl
structure CodeV (w:World) (c:CodeQ) (cv pv gv iv:Value):Prop where
 cs:Zef w c.jj cv
 ps:Zek w c.ju pv
 gs:Zeh w c.jw gv
 is:InsV w c.jq iv
def CodV(w:World)(c:CodeQ)(v:Value):Prop:=∃cv pv gv iv,v=.agg #[cv,pv,gv,iv]/\CodeV w c cv pv gv iv
def CodZ(v:Value):Prop:=∃(a0 a1 a2 a3:Option Addr) (n0 n1 n2 n3 c0 c1 c2 c3:Nat),v=.agg #[.slice a0 n0 c0,.slice a1 n1 c1,.slice a2 n2 c2,.slice a3 n3 c3]
theorem Zef.jm{l:List Int}(h:Zef w l v){t:TypeId}(a:BAt w b c t)(hg:w.grownBy w' (some b))(d:t≠3):Zef w' l v:=ZgZ h a hg d
theorem InsV.jm{l:List (Nat×Nat)}(h:InsV w l v){t:TypeId}(a:BAt w b c t)(hg:w.grownBy w' (some b))(d:t≠159):InsV w' l v:=ZgZ h a hg d
theorem Zek.jm{l:List (Nd×Nat)}(h:Zek w l v){t:TypeId}(a:BAt w b c t)(hg:w.grownBy w' (some b))(e:t≠156)(d:t≠224):Zek w' l v:=by
 obtain⟨xs,f,g,i⟩:=h;exact⟨xs,ZgZ f a hg e,g,fun x j=>(i x j).jm a hg d⟩
theorem Zeh.jm{l:List (List (LB))}(h:Zeh w l v){t:TypeId}(a:BAt w b c t)(hg:w.grownBy w' (some b))(e:t≠122)(d:t≠9):Zeh w' l v:=by
 obtain⟨xs,f,g,i⟩:=h;exact⟨xs,ZgZ f a hg e,g,fun x j=>(i x j).jm a hg d⟩
theorem Zef.shape{l:List Int}(h:Zef w l v):∃a c,v=.slice a l.length c:=Zl h
theorem InsV.shape{l:List (Nat×Nat)}(h:InsV w l v):∃a c,v=.slice a l.length c:=Zl h
theorem Zek.shape{l:List (Nd×Nat)}(h:Zek w l v):∃a c,v=.slice a l.length c:=by
 obtain⟨xs,d,f,_⟩:=h;obtain⟨a,c,e⟩:=Zl d;exact⟨a,c,by rw[e,<-f,Yak]⟩
theorem Zeh.shape{l:List (List (LB))}(h:Zeh w l v):∃a c,v=.slice a l.length c:=by
 obtain⟨xs,d,f,_⟩:=h;obtain⟨a,c,e⟩:=Zl d;exact⟨a,c,by rw[e,<-f,Yak]⟩
theorem CodV.jm{l:CodeQ}(h:CodV w l v){t:TypeId}(a:BAt w b c t)(hg:w.grownBy w' (some b))(d:t≠3)(f:t≠156)(g:t≠224)(i:t≠122)(j:t≠9)(k:t≠159):CodV w' l v:=by
 obtain⟨cv,pv,gv,iv,e,h⟩:=h;exact⟨cv,pv,gv,iv,e,h.cs.jm a hg d,h.ps.jm a hg f g,h.gs.jm a hg i j,h.is.jm a hg k⟩
theorem BAt.setk{a:Nat}{t:TypeId}(h:BAt w a c t)(i:Nat)(v:Value):BAt (w.setCell ⟨a,i,none⟩ v) a (c.set i v) t:=by
 unfold BAt at h ⊢;simp only[World.setCell,Ybn,h,if_true,Ybf];show some (Obj.cells (c.toArray.setIfInBounds i v) t (0,0))=_;rw[Yc4]
def set4(w:World)(a:Nat)(x y z u:Value):World:=(((w.setCell ⟨a,0,none⟩ x).setCell ⟨a,1,none⟩ y).setCell ⟨a,2,none⟩ z).setCell ⟨a,3,none⟩ u
theorem Zgs{a:Nat}{p0 p1 p2 p3 x:Value}{t:TypeId}(h:BAt w a [p0,p1,p2,p3] t):BAt (set4 w a x y z u) a [x,y,z,u] t:=
 (((h.setk 0 x).setk 1 y).setk 2 z).setk 3 u
theorem ret4{P:Program}{R:Ending->World->Prop}{a:Act}{v:World}{p q d e x r:Value}{t:TypeId}(c:∀W:World,W.cell? ⟨b,0,none⟩=some x->W.cell? ⟨b,1,none⟩=some y->W.cell? ⟨b,2,none⟩=some z->W.cell? ⟨b,3,none⟩=some u->(results fn a.tmps).run P W=.ok r W)(hd:a.defers=[])(f:BAt v b [p,q,d,e] t)(g:R (.returned r) (set4 v b x y z u)):bodyPost P fn R .ret a (set4 v b x y z u):=by
 have s:=Zgs f (x:=x) (y:=y) (z:=z) (u:=u);exact bodyPost_ret (c _ (s.cell 0) (s.cell 1) (s.cell 2) (s.cell 3)) hd g
theorem Zg8(w:World)(a:Nat)(x y z u:Value):w.grownBy (set4 w a x y z u) (some a):=ZA (ZA (ZA (ZA (ZbM w (some a)) (.inl rfl) _) (.inl rfl) _) (.inl rfl) _) (.inl rfl) _
theorem ZB1{a:Nat}(h:w0.grownBy w (some b))(c:w0.heap.size<=a){x:Value}:w0.grownBy (set4 w a x y z u) (some b):=
 ZA (ZA (ZA (ZA h (.inr c) _) (.inr c) _) (.inr c) _) (.inr c) _
def cntB(l:LB)(k j:Nat):Value:=Vi ((if j<k then back (sub l (1+2*j) 2)else 0:Nat):Int)
def cntL(l:LB)(k:Nat):List Value:=[cntB l k 0,cntB l k 1,cntB l k 2,cntB l k 3]
theorem Zgf{α:Type}{one:Nat->RdR α}{n:Nat}(d:∀p x,one p=.ok x->x.2<=n)(f:p<=n):∀ {k:Nat} {xs:List α} {q:Nat},many one p k=.ok (xs,q)->q<=n
 | 0,xs,q,h=>by injection h with h;injection h with _ h2;omega
 | k + 1, xs, q, h => by
   unfold many at h;cases c:many one p k with
   | error e=>rw[c]at h;cases h
   | ok x=>
     rw[c]at h;simp only at h;cases a:one x.2 with
     | error e=>rw[a]at h;cases h
     | ok y=>
       rw[a]at h;injection h with h;injection h with _ h2;have:=d _ _ a;omega
theorem ZwW(h:l.head?=some 103)(d:k<4)(c:Zbr l (1+2*k) 2=.error x):Zc8 l=.error x:=by
 unfold Zbr at c;cases a:Zcg l (1+2*k) 2 with
 | ok y=>rw[a]at c;cases c
 | error e=>
  rw[a]at c;cases c;unfold Zcg at a;split at a
  ·cases a;unfold Zc8;rw[if_neg (by rw[h];simp),if_pos Om]
  ·cases a
theorem ZwU(h:l.head?=some 103)(a:9<=l.length):Zc8 l=.ok (back (sub l 1 2),back (sub l 3 2),back (sub l 5 2),back (sub l 7 2)):=by
 unfold Zc8;rw[if_neg (by rw[h];simp),if_neg Om]
theorem Zt0{x:Unit×Nat}(h:ZdI l=.ok x):l.head?=some 103/\x.2=1:=by
 unfold ZdI at h;by_cases e:l.head?=some 103
 ·rw[if_neg (by rw[e];simp)]at h;cases h;exact⟨e,rfl⟩
 ·rw[if_pos e]at h;cases h
theorem ZtZ(h:ZdI l=.error x):Z2 l=.error x:=by
 unfold ZdI at h;by_cases e:l.head?=some 103
 ·rw[if_neg (by rw[e];simp)]at h;cases h
 ·rw[if_pos e]at h;cases h;unfold Z2 Zc8;rw[if_pos e]
theorem CodZ.zero:CodZ (.agg #[S0,S0,S0,S0]):=⟨none,none,none,none,0,0,0,0,0,0,0,0,rfl⟩
theorem CodZ.mk{n0 n1 n2 n3 c0 c1 c2 c3:Nat} : CodZ (.agg #[.slice a0 n0 c0,.slice a1 n1 c1,.slice a2 n2 c2,.slice a3 n3 c3]):=⟨_,_,_,_,_,_,_,_,_,_,_,_,rfl⟩
theorem BAt.four{a:Nat}{x:Value}{t:TypeId}(h:BAt w a [x,y,z,u] t):(w.frozen? ⟨a,0,none⟩=false/\w.frozen? ⟨a,1,none⟩=false/\w.frozen? ⟨a,2,none⟩=false/\w.frozen? ⟨a,3,none⟩=false)/\w.cell? ⟨a,0,none⟩=some x/\w.cell? ⟨a,1,none⟩=some y/\w.cell? ⟨a,2,none⟩=some z/\w.cell? ⟨a,3,none⟩=some u:=⟨⟨h.frozen 0,h.frozen 1,h.frozen 2,h.frozen 3⟩,h.cell 0,h.cell 1,h.cell 2,h.cell 3⟩
structure CM (w v:World) (b:Nat) (cs:List Value):Prop where
 x:BAt v w.heap.size [S0,S0,S0,S0] 59
 y:BAt v (w.heap.size+1) cs 59
 g:w.grownBy v (some b)
 lt:b<w.heap.size
theorem CM.call{v v':World}(h:CM w v b cs)(hg:v.grownBy v' (some b)):CM w v' b cs:=
 have:=h.lt
 ⟨h.x.grown hg (by intro e;injection e with e;omega),h.y.grown hg (by intro e;injection e with e;omega),Zj h.g hg,h.lt⟩
theorem CM.set{v:World}(h:CM w v b cs)(i:Nat)(u:Value):CM w (v.setCell ⟨w.heap.size+1,i,none⟩ u) b (cs.set i u):=
 ⟨h.x.other (by show w.heap.size≠w.heap.size+1;omega) u,h.y.setk i u,ZA h.g (.inr (by show w.heap.size<=w.heap.size+1;omega)) u,h.lt⟩
theorem CM.self{v:World}(_:CM w v b cs)(i:Nat)(u:Value):v.grownBy (v.setCell ⟨w.heap.size+1,i,none⟩ u) (some (w.heap.size+1)):=ZA (ZbM _ _) (.inl rfl) _
theorem CM.bad{α:Type}{V:World->α->Value->Prop}{Y:Value->Prop}{v:World}{c0 c1 c2 c3 val err:Value}{r:RdR α}(h:CM w v b [c0,c1,c2,c3])(a:RdC V Y v b s ca r val err)(c:r=.error x)(d:Z2 (bl s)=.error x)(i:Nat)(e:CodZ (.agg #[c0,c1,c2,c3])) :
  RdC CodV CodZ (v.setCell ⟨w.heap.size+1,i,none⟩ S0) b s ca (Z2 (bl s)) (.agg #[c0,c1,c2,c3]) err:=
 RdC.kept (a.qj c d e) (h.self i _) h.y Dc Dc (fun _ k=>k.jm h.y (h.self i _) Dc Dc Dc Dc Dc Dc)
theorem ZfV{v:World}{q:RdR CodeQ}{p0 p1 p2 p3:Value}{a:Act}
  (d:∀W:World,W.cell? ⟨w.heap.size,0,none⟩=some p0->W.cell? ⟨w.heap.size,1,none⟩=some p1->W.cell? ⟨w.heap.size,2,none⟩=some p2->W.cell? ⟨w.heap.size,3,none⟩=some p3->(results fn a.tmps).run prog W=.ok (.tuple #[.agg #[p0,p1,p2,p3],err]) W)
  (hd:a.defers=[]) (h:CM w v b cs) (f:RdC CodV CodZ v b s ca q (.agg #[p0,p1,p2,p3]) err) :
  bodyPost prog fn (fun e c=>∃v err,e=.returned (.tuple #[v,err])/\Hid (RdC CodV CodZ c b s ca q v err)/\w.grownBy c (some b)) .ret a (set4 v w.heap.size p0 p1 p2 p3):=by
 obtain⟨_,s0,s1,s2,s3⟩:=(Zgs h.x (x:=p0) (y:=p1) (z:=p2) (u:=p3)).four;have e:=Zg8 v w.heap.size p0 p1 p2 p3;exact bodyPost_ret (d _ s0 s1 s2 s3) hd ⟨_,_,rfl,f.kept e h.x Dc Dc (fun _ k=>k.jm h.x e Dc Dc Dc Dc Dc Dc),ZB1 h.g (Yac _)⟩
theorem ZBa(s:BA)(b:Nat)(A:Nat->Addr)(m:Int)(w0 w:World)(hG:Ground w0 A m b)(hs:s.size<=maxLen)(h0:BW w0 w)(hr:RdAt w b s 0) :
  CP 79 #[Vp b] w fun e w'=>∃v err,e=.returned (.tuple #[v,err])/\Hid (RdC CodV CodZ w' b s (A 8) (Z2 (bl s)) v err)/\w.grownBy w' (some b):=by
 have Q:=hr.lt;have C:=hid hG;have R:=hid hs;have H0:=hid h0;have b8:=hid hr;go_enter func79,ntmps79
 go_wp2_with fail
 refine Zm fun W hW=>?_;have a9:Below _ w W:=hW▸Zbal.alloc (by simp) _
 have HM : Hid (CM w W b _) := hid ⟨hW▸(Zbal.block _ (by simp)).trans bnw, by
   rw[hW];have:=Go.Deep.blk_alloc_new (w.alloc (.cells #[S0,S0,S0,S0] 59)) (.cells #[S0,S0,S0,S0] 59);rwa [Go.Deep.nblk_alloc]at this,Zw a9,Q⟩
 have b9:=hid (b8.below a9);refine(ZA9 s b W b9 (C.code (ZbV H0 HM.g C.b)) C.ng R).mono ?_;rintro e M ⟨err,rfl,c,c1⟩;have H1:=hid (HM.call c1);cases ht:ZdI (bl s)with
 | error x=>
  obtain⟨fa,rfl⟩:=c.kq ht;have P:=hid (RdC.qj (V':=CodV) c ht (ZtZ ht) CodZ.zero);have f:=H1.x.four;have d:=H1.y.four;go_wp2;exact ZfV (fun W s0 s1 s2 s3=>by simp[results,results79,go_sem,s0,s1,s2,s3]) rfl H1 P
 | ok x=>
  obtain⟨a6,c2⟩:=Zt0 ht;obtain⟨rfl,_,b0⟩:=c.ok ht;have c3:Hid (RdAt M b s 1):=by rw[c2]at b0;exact b0
  have b1:=hid a6
  have c4:1<=s.size:=by
   rcases Yav 0 s.size with h|h
   ·exact h
   ·rw[Ya3 (l:=bl s) (by rw[Zd];omega)]at a6;cases a6
  have d3:=H1.y.lt;go_wp2
  go_loopw [17] (fun i wr => ∃ k : Nat, k <= 4 /\ i = Vi k /\ 1 + 2 * k <= s.size /\ Hid (RdAt wr b s (1 + 2 * k)) /\ Hid (BAt wr M.heap.size (cntL (bl s) k) 153) /\ Hid (CM w wr b [S0, S0, S0, S0]))
    (fun i _=>4 - (intOf i).toNat)
  case atStart=>
   have hB:∀o,Below _ M _:=fun o=>(Yaf _ _).alloc (Yac _) o;exact⟨0,Yag _,rfl,c4,hid (c3.below (hB _)),hid bnw,hid (H1.call (Zw (hB _)))⟩
  case round=>
   obtain⟨k,hk,rfl,a7,V,X,Hr⟩:=hrel;by_cases c5:k<4
   ·have d4:(k:Int)<4:=by omega
    go_wp2_with fail
    refine(Zis s _ 2 b _ _ V (C.code (ZbV H0 Hr.g C.b)) a7 R Om).mono ?_;rintro e z ⟨v,err,rfl,c,j⟩;have U:=hid (Hr.call j);have Y:=hid (X.grown j (by intro e;injection e with e;have:=Q;omega));clear j V X Hr;cases O:Zbr (bl s) (1+2*k) 2 with
    | error x=>
     obtain⟨fa,rfl⟩:=c.kq O;obtain⟨_,_,rfl,_⟩:=c.err O;have P:=hid (RdC.qj (V':=CodV) (r':=Z2 _) c O (by unfold Z2;rw[ZwW b1 c5 O]) CodZ.zero);have f:=U.x.four;have d:=U.y.four;clear c O;go_wp2;exact ZfV (fun W s0 s1 s2 s3=>by simp[results,results79,go_sem,s0,s1,s2,s3]) rfl U P
    | ok x=>
     obtain⟨n,q⟩:=x;obtain⟨rfl,rfl,E⟩:=c.ok O;obtain⟨Z,a4,a5,b2⟩:=Zev O;simp only at Z a4 a5 b2 E;have b3:Hid (RdAt z b s (1+2*(k+1))):=by rw[a5]at E;exact E
     have b7:1+2*(k+1)<=s.size:=by rw[Zd]at Z;omega
     have c6:=hid a4;have k0:=Y.cell k;have kf:=Y.frozen k
     have c7:Hid (BAt (z.setCell ⟨M.heap.size,k,none⟩ (Vi n)) M.heap.size (cntL (bl s) (k+1)) 153):=by
      have:=Y.setk k (Vi n);rw[c6]at this ⊢;rcases(by omega:k=0∨k=1∨k=2∨k=3)with rfl|rfl|rfl|rfl <;> exact this
     have c8:=hid (b3.other (p:=⟨M.heap.size,k,none⟩) (by show b≠M.heap.size;omega) (Vi n));have c9:Hid (CM w (z.setCell ⟨M.heap.size,k,none⟩ (Vi n)) b _):=hid ⟨U.x.other (by show w.heap.size≠M.heap.size;omega) _,U.y.other (by show w.heap.size+1≠M.heap.size;omega) _,ZA U.g (.inr (by show w.heap.size<=M.heap.size;omega)) _,Q⟩
     have d0:∃u,z.cell? ⟨M.heap.size,k,none⟩=some u:=by
      rw[k0];rcases(by omega:k=0∨k=1∨k=2∨k=3)with rfl|rfl|rfl|rfl <;> exact⟨_,rfl⟩
     obtain⟨u,T⟩:=d0;clear c O E Z a4 a5 b2 k0 b3 U Y;go_wp2
     go_roundw
     case rel=>exact⟨k+1,by omega,by go_num,b7,c8,c7,c9⟩
     case measure=>simp[intOf];omega
   ·obtain rfl:k=4:=by omega
    have a8:Hid (BAt _ _ [.int _ (back (sub _ 1 2)),.int _ (back (sub _ 3 2)),.int _ (back (sub _ 5 2)),.int _ (back (sub _ 7 2))] _):=X;have O:∀i,back (sub (bl s) i 2)<65536:=fun i=>ZhM (n:=2) (by unfold sub;rw[Ya7];omega);have d5:=O 1;have Z:=O 3;have a4:=O 5;have a5:=O 7
    have B:Hid (Z2 _=match many (ZbW _) 9 (back _)with
     | .error e=>.error e
     | .ok _ => match many (Zb4 _) _ (back _) with
       | .error e=>.error e
       | .ok _ => match many (ZbX _) _ (back _) with
         | .error e=>.error e
         | .ok _ => match many (ZbN _) _ (back _) with
           | .error e=>.error e
           | .ok _=>.ok _):=hid (by unfold Z2;rw[ZwU b1 (by rw[Zd];omega)])
    generalize back (sub (bl s) 1 2)=N0 at *
    generalize back (sub (bl s) 3 2)=N1 at *
    generalize back (sub (bl s) 5 2)=N2 at *
    generalize back (sub (bl s) 7 2)=N3 at *
    clear X O;have b4:Hid (RdAt _ b s 9):=V;clear V;have kk0:=a8.cell
    go_wp2_with fail
    refine(ZyS s 9 b (ZbV H0 Hr.g C.b) C.b b4 a7 Om (ZzE C R) (fun p x h _=>by have:=Zle h;rwa [Zd]at this)).mono ?_;rintro e z ⟨v,err,rfl,c,j⟩;have a:=hid (Hr.call j);have J:=hid (a8.grown j (by intro e;injection e with e;have:=Q;omega));clear j kk0 b4 a8 Hr;cases r:many (ZbW (bl s)) 9 N0 with
    | error x=>
     obtain⟨fa,rfl⟩:=c.kq r;obtain⟨_,_,rfl,_⟩:=c.err r;have P:=hid (a.bad c r (by rw[B,r]) 0 CodZ.mk);have G:=hid (a.set 0 S0);have f:=a.x.four;have d:=a.y.four;clear c r B;go_wp2;exact ZfV (fun W s0 s1 s2 s3=>by simp[results,results79,go_sem,s0,s1,s2,s3]) rfl G P
    | ok x=>
     obtain⟨l0,q0⟩:=x;obtain⟨rfl,N,E⟩:=c.ok r;obtain⟨a0,e0,rfl⟩:=Zef.shape N;have b5:=Zgf (fun p x h=>by have:=Zle h;rwa [Zd]at this) a7 r
     replace B:Hid (Z2 (bl s)=match many (Zb4 (bl s)) q0 N1 with
      | .error e=>.error e
      | .ok y1 => match many (ZbX (bl s)) y1.2 N2 with
        | .error e=>.error e
        | .ok z2 => match many (ZbN (bl s)) z2.2 N3 with
          | .error e=>.error e
          | .ok u3=>.ok (⟨l0,y1.1,z2.1,u3.1⟩,u3.2)):=hid (by rw[B,r])
     have H:=hid N;have I:=hid E;simp only at H I;have D:=a.self 0 (.slice a0 l0.length e0);have F:=hid (H.jm a.y D Dc);have t:=hid (I.other (p:=⟨w.heap.size+1,0,none⟩) (by show b≠w.heap.size+1;omega) (.slice a0 l0.length e0));have G:=hid (a.set 0 (.slice a0 l0.length e0));have K:=hid (J.other (p:=⟨w.heap.size+1,0,none⟩) (by show M.heap.size≠w.heap.size+1;omega) (.slice a0 l0.length e0));have d:=a.y.four;have kk:=J.cell 1;simp only[Zget]at kk;clear c r N E D H I
     go_wp2_with fail
     refine Zm fun u T=>?_;rw[<-T]at t G K F;clear T a J d kk;refine(ZyT s b u (ZbV H0 G.g C.b) C.b t b5 Om (ZBz s b A m C R) (fun p x h _=>by have:=ZmL h;rwa [Zd]at this)).mono ?_;rintro e w3 ⟨v,err,rfl,c,j⟩;have a:=hid (G.call j);have J:=hid (K.grown j (by intro e;injection e with e;have:=Q;omega));replace F:=hid (F.jm t.out j Dc);clear j t K G;cases r:many (Zb4 (bl s)) q0 N1 with
     | error x=>
      obtain⟨fa,rfl⟩:=c.kq r;obtain⟨_,_,rfl,_⟩:=c.err r;have P:=hid (a.bad c r (by rw[B,r]) 1 CodZ.mk);have G:=hid (a.set 1 S0);have f:=a.x.four;have d:=a.y.four;clear c r B;go_wp2;exact ZfV (fun W s0 s1 s2 s3=>by simp[results,results79,go_sem,s0,s1,s2,s3]) rfl G P
     | ok x=>
      obtain⟨l1,q1⟩:=x;obtain⟨rfl,N,E⟩:=c.ok r;obtain⟨a1,e1,rfl⟩:=Zek.shape N;have b6:=Zgf (fun p x h=>by have:=ZmL h;rwa [Zd]at this) b5 r
      replace B:Hid (Z2 (bl s)=match many (ZbX (bl s)) q1 N2 with
       | .error e=>.error e
       | .ok z2 => match many (ZbN (bl s)) z2.2 N3 with
         | .error e=>.error e
         | .ok u3=>.ok (⟨l0,l1,z2.1,u3.1⟩,u3.2)):=hid (by rw[B,r])
      have H:=hid N;have I:=hid E;simp only at H I;have D:=a.self 1 (.slice a1 l1.length e1);have F:=hid (F.jm a.y D Dc);have L:=hid (H.jm a.y D Dc Dc);have t:=hid (I.other (p:=⟨w.heap.size+1,1,none⟩) (by show b≠w.heap.size+1;omega) (.slice a1 l1.length e1));have G:=hid (a.set 1 (.slice a1 l1.length e1));have K:=hid (J.other (p:=⟨w.heap.size+1,1,none⟩) (by show M.heap.size≠w.heap.size+1;omega) (.slice a1 l1.length e1));have d:=a.y.four;have kk:=J.cell 2;simp only[Zget]at kk;clear c r N E D H I
      go_wp2_with fail
      refine Zm fun u T=>?_;rw[<-T]at t G K F L;clear T a J d kk;refine(ZyQ s b u (ZbV H0 G.g C.b) C.b t b6 Om (ZBx s b A m C R) (fun p x h _=>by have:=ZlE h;rwa [Zd]at this)).mono ?_;rintro e w4 ⟨v,err,rfl,c,j⟩;have a:=hid (G.call j);have J:=hid (K.grown j (by intro e;injection e with e;have:=Q;omega));replace F:=hid (F.jm t.out j Dc);replace L:=hid (L.jm t.out j Dc Dc);clear j t K G;cases r:many (ZbX (bl s)) q1 N2 with
      | error x=>
       obtain⟨fa,rfl⟩:=c.kq r;obtain⟨_,_,rfl,_⟩:=c.err r;have P:=hid (a.bad c r (by rw[B,r]) 2 CodZ.mk);have G:=hid (a.set 2 S0);have f:=a.x.four;have d:=a.y.four;clear c r B;go_wp2;exact ZfV (fun W s0 s1 s2 s3=>by simp[results,results79,go_sem,s0,s1,s2,s3]) rfl G P
      | ok x=>
       obtain⟨l2,q2⟩:=x;obtain⟨rfl,N,E⟩:=c.ok r;obtain⟨a2,e2,rfl⟩:=Zeh.shape N;have d1:=Zgf (fun p x h=>by have:=ZlE h;rwa [Zd]at this) b6 r
       replace B:Hid (Z2 (bl s)=match many (ZbN (bl s)) q2 N3 with
        | .error e=>.error e
        | .ok u3=>.ok (⟨l0,l1,l2,u3.1⟩,u3.2)):=hid (by rw[B,r])
       have H:=hid N;have I:=hid E;simp only at H I;have D:=a.self 2 (.slice a2 l2.length e2);have F:=hid (F.jm a.y D Dc);have L:=hid (L.jm a.y D Dc Dc);have S:=hid (H.jm a.y D Dc Dc);have t:=hid (I.other (p:=⟨w.heap.size+1,2,none⟩) (by show b≠w.heap.size+1;omega) (.slice a2 l2.length e2));have G:=hid (a.set 2 (.slice a2 l2.length e2));have K:=hid (J.other (p:=⟨w.heap.size+1,2,none⟩) (by show M.heap.size≠w.heap.size+1;omega) (.slice a2 l2.length e2));have d:=a.y.four;have kk:=J.cell;clear c r N E D H I
       go_wp2_with fail
       refine Zm fun u T=>?_;rw[<-T]at t G K F L S;clear T a J d kk;refine(ZyR s b u (ZbV H0 G.g C.b) C.b t d1 Om (ZzF C R) (fun p x h _=>by have:=(ZlQ h).1;rwa [Zd]at this)).mono ?_;rintro e w5 ⟨v,err,rfl,c,j⟩;have a:=hid (G.call j);have J:=hid (K.grown j (by intro e;injection e with e;have:=Q;omega));replace F:=hid (F.jm t.out j Dc);replace L:=hid (L.jm t.out j Dc Dc);replace S:=hid (S.jm t.out j Dc Dc);clear j t K G;cases r:many (ZbN (bl s)) q2 N3 with
       | error x=>
        obtain⟨fa,rfl⟩:=c.kq r;obtain⟨_,_,rfl,_⟩:=c.err r;have P:=hid (a.bad c r (by rw[B,r]) 3 CodZ.mk);have G:=hid (a.set 3 S0);have f:=a.x.four;have d:=a.y.four;clear c r B;go_wp2;exact ZfV (fun W s0 s1 s2 s3=>by simp[results,results79,go_sem,s0,s1,s2,s3]) rfl G P
       | ok x=>
        obtain⟨l3,q3⟩:=x;obtain⟨rfl,N,E⟩:=c.ok r;obtain⟨a3,e3,rfl⟩:=InsV.shape N;replace B:Hid (Z2 (bl s)=.ok (⟨l0,l1,l2,l3⟩,q3)):=hid (by rw[B,r]);have H:=hid N;have I:=hid E;simp only at H I;have D:=a.self 3 (.slice a3 l3.length e3);have F:=hid (F.jm a.y D Dc);have L:=hid (L.jm a.y D Dc Dc);have S:=hid (S.jm a.y D Dc Dc);have d2:=hid (H.jm a.y D Dc);have t:=hid (I.other (p:=⟨w.heap.size+1,3,none⟩) (by show b≠w.heap.size+1;omega) (.slice a3 l3.length e3));have G:=hid (a.set 3 (.slice a3 l3.length e3));have f:=a.x.four;have d:=a.y.four;have P:Hid (RdC CodV CodZ _ b s (A 8) _ _ _):=hid (RdC.mkOk B ⟨rfl,⟨_,_,_,_,rfl,F,L,S,d2⟩,t⟩);clear c r N E D H I B;go_wp2;exact ZfV (fun W s0 s1 s2 s3=>by simp[results,results79,go_sem,s0,s1,s2,s3]) rfl G P
def DecC(w:World)(A:Nat->Addr)(r:Except (Nat×Nat) CodeQ)(v err:Value):Prop:=match r with
 | .ok c=>err=.nilIface/\CodV w c v
 | .error x=>v=.agg #[.slice none 0 0,.slice none 0 0,.slice none 0 0,.slice none 0 0]/\((x.1=9/\ZM w err x.2 (A 8))∨(x=(10,0)/\err=.iface 432 (.pointer (some (A 9)))))
theorem DecC.mkOk{r:Except (Nat×Nat) CodeQ}{c:CodeQ}(a:r=.ok c)(h:err=.nilIface/\CodV w c v):DecC w A r v err:=by subst a;exact h
theorem DecC.qq{r:Except (Nat×Nat) CodeQ}(a:r=.error x)(h:v=.agg #[S0,S0,S0,S0]/\((x.1=9/\ZM w err x.2 (A 8))∨(x=(10,0)/\err=.iface 432 (.pointer (some (A 9)))))):DecC w A r v err:=by subst a;exact h
theorem Zgt{a:Nat}(h:BW w0 w)(c:w0.heap.size<=a)(x y z u:Value):BW w0 (set4 w a x y z u):=
 (((h.setCell (p:=⟨a,0,none⟩) c _).setCell (p:=⟨a,1,none⟩) c _).setCell (p:=⟨a,2,none⟩) c _).setCell (p:=⟨a,3,none⟩) c _
theorem CodV.shape{c:CodeQ}(h:CodV w c v):∃(a0 a1 a2 a3:Option Addr) (n0 n1 n2 n3 c0 c1 c2 c3:Nat),v=.agg #[.slice a0 n0 c0,.slice a1 n1 c1,.slice a2 n2 c2,.slice a3 n3 c3]:=by
 obtain⟨cv,pv,gv,iv,rfl,h⟩:=h;obtain⟨a0,c0,rfl⟩:=h.cs.shape;obtain⟨a1,c1,rfl⟩:=h.ps.shape;obtain⟨a2,c2,rfl⟩:=h.gs.shape;obtain⟨a3,c3,rfl⟩:=h.is.shape;exact⟨_,_,_,_,_,_,_,_,_,_,_,_,rfl⟩
theorem CodV.below{l:CodeQ}(h:CodV w l v)(a:BW w w'):CodV w' l v:=by
 obtain⟨cv,pv,gv,iv,e,h⟩:=h;refine⟨cv,pv,gv,iv,e,Zn h.cs a,?_,?_,Zn h.is a⟩
 ·obtain⟨xs,c,d,f⟩:=h.ps;exact⟨xs,Zn c a,d,fun x g=>(f x g).below a⟩
 ·obtain⟨xs,c,d,f⟩:=h.gs;exact⟨xs,Zn c a,d,fun x g=>(f x g).below a⟩
theorem ZM.jm{p:Int}{a:Addr}(h:ZM w v p a){t:TypeId}(d:BAt w b c t)(hg:w.grownBy w' (some b))(e:t≠85):ZM w' v p a:=h.grown hg d e
theorem Zud{x:CodeQ×Nat}(h:Z2 l=.ok x):x.2<=l.length:=by
 unfold Z2 at h;cases a:Zc8 l with
 | error e=>rw[a]at h;cases h
 | ok n=>
  rw[a]at h
  have i:9<=l.length:=by
   unfold Zc8 at a;split at a
   ·cases a
   ·split at a
    ·cases a
    ·omega
  simp only at h;cases c:many (ZbW l) 9 n.1 with
  | error e=>rw[c]at h;cases h
  | ok cs=>
   rw[c]at h;simp only at h;have g1:=Zgf (n:=l.length) (fun p x h=>Zle h) i c;cases d:many (Zb4 l) cs.2 n.2.1 with
   | error e=>rw[d]at h;cases h
   | ok ps=>
    rw[d]at h;simp only at h;have g2:=Zgf (n:=l.length) (fun p x h=>ZmL h) g1 d;cases f:many (ZbX l) ps.2 n.2.2.1 with
    | error e=>rw[f]at h;cases h
    | ok gs=>
     rw[f]at h;simp only at h;have g3:=Zgf (n:=l.length) (fun p x h=>ZlE h) g2 f;cases g:many (ZbN l) gs.2 n.2.2.2 with
     | error e=>rw[g]at h;cases h
     | ok is=>
      rw[g]at h;injection h with h;subst h;exact Zgf (n:=l.length) (fun p x h=>(ZlQ h).1) g3 g
theorem ZAU(s:BA)(A:Nat->Addr)(m:Int)(w:World)(M:Vars w A m)(g:ZR w)(hB:20<=w.heap.size)(hs:s.size<=maxLen) :
  CP 38 #[.string s] w fun e w'=>∃v err,e=.returned (.tuple #[v,err])/\Hid (DecC w' A (Zb7 (bl s)) v err)/\BW w w':=by
 have h:Hid (Ground w A m (w.heap.size+1)):=hid ⟨M,g,hB,by omega⟩;have a9:=hid hs;have c8:=hs;unfold maxLen at c8;clear M g hB hs;go_enter func38,ntmps38
 go_wp2_with fail
 refine Zm fun W hW=>?_;have b0:BW w W:=by rw[hW];exact Zbal.alloc (by simp) _
 have b1:Hid (BAt W w.heap.size [S0,S0,S0,S0] 59):=hid (by
  rw[hW];exact(Zbal.block _ (by simp)).trans bnw)
 have b2:Hid (RdAt W (w.heap.size+1) s 0):=hid (by
  rw[hW];have:=Go.Deep.blk_alloc_new (w.alloc (.cells #[S0,S0,S0,S0] 59)) (.cells #[.string s,Vi 0] 178);rwa [Go.Deep.nblk_alloc]at this)
 have O:=hid b0;clear hW b0;refine(ZBa s (w.heap.size+1) A m w W h.out a9.out O.out b2.out).mono ?_;rintro e G ⟨v,err,rfl,i,P⟩;have p:Hid (BW w G):=hid (ZbV O.out P h.b);have f:=hid (b1.grown P (by intro e;injection e with e;omega));clear P b1 b2 O;cases t:Z2 (bl s)with
 | error x=>
  obtain⟨fa,rfl⟩:=i.kq t;obtain⟨B,C,⟨a0,a1,a2,a3,n0,n1,n2,n3,e0,e1,e2,e3,rfl⟩,_⟩:=i.err t;have o:Hid (Zb7 (bl s)=.error x):=hid (by rw[ZoM,t]);have Q:=hid C;have R:=hid B;have c6:=f.lt;clear i t B C;have f0:=f.frozen;have c0:=f.cell;go_wp2;change bodyPost _ _ _ _ _ ((set4 G w.heap.size S0 S0 S0 S0).alloc (.cells #[.slice a0 n0 e0,.slice a1 n1 e1,.slice a2 n2 e2,.slice a3 n3 e3] 59));have st:=(Zgs f.out (x:=S0) (y:=S0) (z:=S0) (u:=S0)).below ((Yaf _ _).alloc (Yac _) (.cells #[.slice a0 n0 e0,.slice a1 n1 e1,.slice a2 n2 e2,.slice a3 n3 e3] 59));have s0:=st.cell 0;have s1:=st.cell 1;have s2:=st.cell 2;have s3:=st.cell 3;simp only[Zget]at s0 s1 s2 s3;have S:=hid ((Zgt p.out (Yac _) S0 S0 S0 S0).alloc (Zgt p.out (Yac _) S0 S0 S0 S0).size (.cells #[.slice a0 n0 e0,.slice a1 n1 e1,.slice a2 n2 e2,.slice a3 n3 e3] 59));have c9:=hid ((Q.jm f.out (Zg8 G w.heap.size S0 S0 S0 S0) Dc).below ((Yaf _ _).alloc (Yac _) (.cells #[.slice a0 n0 e0,.slice a1 n1 e1,.slice a2 n2 e2,.slice a3 n3 e3] 59)));generalize(set4 G w.heap.size S0 S0 S0 S0).alloc (.cells #[.slice a0 n0 e0,.slice a1 n1 e1,.slice a2 n2 e2,.slice a3 n3 e3] 59)=WX at *
  exact bodyPost_ret (v:=.tuple #[.agg #[S0,S0,S0,S0],.iface 81 (Vp fa)]) (by simp[results,results38,go_sem,s0,s1,s2,s3]) rfl ⟨_,_,rfl,hid (DecC.qq o.out ⟨rfl,Or.inl ⟨R.out,c9.out⟩⟩),S.out⟩
 | ok x=>
  obtain⟨c,q⟩:=x;obtain⟨rfl,H,D⟩:=i.ok t;obtain⟨a0,a1,a2,a3,n0,n1,n2,n3,e0,e1,e2,e3,rfl⟩:=H.shape;have hq:=Zud t;simp only at hq D H;rw[Zd]at hq;have b3:=hid D;have b4:=hid H
  have l:Hid (Zb7 (bl s)=if (bl s).length<q+4 then .error (9,(bl s).length)else if q+4<(bl s).length then .error (9,q+4)else
    if back ((bl s).drop q)≠sumQ ((bl s).take q)then .error (10,0)else .ok c):=hid (by rw[ZoM,t])
  have rc:=D.cell 1;simp only[Zget]at rc;have c6:=f.lt;have d8:=D.lt;clear i t D H
  go_wp2_with fail
  refine Zm fun W2 T=>?_;have E:BW G W2:=by rw[T];exact Zbal
  have U:Hid (BW w W2):=hid (p.trans (E.mono p.size));have b5:=hid (f.below E);have V:=hid (b3.below E);have b6:Hid (BAt W2 G.heap.size [.slice a0 n0 e0,.slice a1 n1 e1,.slice a2 n2 e2,.slice a3 n3 e3] 59):=hid (by rw[T];exact bnw);have X:=hid (b4.below E);clear T E rc f p b3 b4;refine(Zis s q 4 (w.heap.size+1) _ W2 V.out (h.code U.out) hq a9.out Om).mono ?_;rintro e w3 ⟨v,err,rfl,i,F⟩;have j:Hid (BW w w3):=hid (ZbV U.out F h.b);have a:=hid (b5.grown F (by intro e;injection e with e;omega));have b7:=hid (b6.grown F (by intro e;injection e with e;omega));have c7:=hid (X.jm V.out F Dc Dc Dc Dc Dc Dc);have d6:=a.lt;have d7:=b7.lt;clear F b5 b6 X V U;have f0:=a.frozen;have c0:=a.cell 0;have c1:=a.cell 1;have c2:=a.cell 2;have c3:=a.cell 3;simp only[Zget]at c0 c1 c2 c3;cases d:Zbr (bl s) q 4 with
  | error x=>
   obtain⟨fa,rfl⟩:=i.kq d;obtain⟨B,C,rfl,_⟩:=i.err d
   have Y:x=(9,(bl s).length)/\(bl s).length<q+4:=by
    unfold Zbr at d;cases g:Zcg (bl s) q 4 with
    | ok y=>rw[g]at d;cases d
    | error y=>
     rw[g]at d;injection d with d;unfold Zcg at g;split at g
     ·injection g with g;exact⟨by rw[<-d,<-g],by assumption⟩
     ·cases g
   have o:Hid (Zb7 (bl s)=.error x):=hid (by rw[l.out,if_pos Y.2,Y.1]);have Q:=hid C;have R:=hid B;clear i d B C Y l;go_wp2;exact ret4 (r:=.tuple #[.agg #[S0,S0,S0,S0],.iface 81 (Vp fa)]) (fun W s0 s1 s2 s3=>by simp[results,results38,go_sem,s0,s1,s2,s3]) rfl a.out ⟨_,_,rfl,hid (DecC.qq o.out ⟨rfl,Or.inl ⟨R.out,Q.jm a.out (Zg8 w3 w.heap.size S0 S0 S0 S0) Dc⟩⟩),Zgt j.out (Yac _) S0 S0 S0 S0⟩
  | ok x=>
   obtain⟨n,q2⟩:=x;obtain⟨rfl,rfl,I⟩:=i.ok d;obtain⟨b8,Z,J,a4⟩:=Zev d;simp only at b8 Z J a4 I;have a4:n<4294967296:=a4;rw[Zd]at b8;have d9:=hid I;have b9:=hid Z;have rc:=I.cell;have e4:=hid J;have a5:q2=q+4:=J;clear i d Z J I;by_cases e5:q2<s.size
   ·have o:Hid (Zb7 (bl s)=.error (9,q2)):=hid (by rw[l.out,if_neg (by rw[Zd];omega),if_pos (by rw[Zd];omega),a5]);have d0:(q2:Int)<s.size:=by omega
    clear l a5
    go_wp2_with fail
    refine(ZfX _ (h.code j.out)).mono ?_;rintro e w4 ⟨v,rfl,M,a6⟩;have Q:=M;have d1:Hid (BW w w4):=hid (j.trans (a6.mono j.size));have K:=hid (a.below a6);obtain⟨fa,rfl⟩:=ZM.shape M.out;clear a6 a f0 c0 c1 c2 c3 rc M;have f0:=K.frozen;have c0:=K.cell;go_wp2;exact ret4 (r:=.tuple #[.agg #[S0,S0,S0,S0],.iface 81 (Vp fa)]) (fun W s0 s1 s2 s3=>by simp[results,results38,go_sem,s0,s1,s2,s3]) rfl K.out ⟨_,_,rfl,hid (DecC.qq o.out ⟨rfl,Or.inl ⟨rfl,Q.jm K.out (Zg8 w4 w.heap.size S0 S0 S0 S0) Dc⟩⟩),Zgt d1.out (Yac _) S0 S0 S0 S0⟩
   ·have d0:¬(q2:Int)<s.size:=by omega
    have e6:q+4=s.size:=by omega
    have L:bl (s.extract 0 q)=(bl s).take q:=by rw[Zfh];rfl
    have a7:sub (bl s) q 4=(bl s).drop q:=by unfold sub;exact Ya5 (by rw[Ybv,Zd];omega)
    have hQ:=Znn ((bl s).take q);have k:Hid (Zb7 (bl s)=if n≠sumQ ((bl s).take q)then .error (10,0)else .ok c):=hid (by rw[l.out,if_neg (by rw[Zd];omega),if_neg (by rw[Zd];omega),b9.out,a7]);have c4:(s.extract 0 q).size<=maxLen:=by unfold maxLen;rw[ByteArray.size_extract];omega
    obtain⟨SQ,a8⟩:∃SQ,SQ=sumQ ((bl s).take q):=⟨_,rfl⟩
    have c5:Hid (∀W',CP 73 #[.string (s.extract 0 q)] W' fun e w'=>e=.returned (.int .u32 SQ)/\w'=W'):=hid (fun W'=>by rw[a8,<-L];exact Zru (s.extract 0 q) W' c4);rw[<-a8]at k hQ;have d2:=hid (h.v.below j.out);have gs:w3.cell? ⟨9,0,none⟩=some (.iface 432 (.pointer (some (A 9)))):=d2.sent _ Dc;clear l a7 L a8 b9 c4 a5;by_cases he:n=SQ
    ·subst he;have o:Hid (Zb7 (bl s)=.ok c):=hid (by rw[k.out,if_neg (by simp)]);have d3:(((n:Int) % 4294967296) != (n:Int))=false:=by rw[Int.emod_eq_of_lt Om Om];simp
     have y0:=b7.cell;clear k gs
     go_wp2_with (go_at_call 73;refine(c5.out _).mono ?_;rintro e N ⟨rfl,rfl⟩)
     exact ret4 (r:=.tuple #[.agg #[.slice a0 n0 e0,.slice a1 n1 e1,.slice a2 n2 e2,.slice a3 n3 e3],.nilIface]) (fun W s0 s1 s2 s3=>by simp[results,results38,go_sem,s0,s1,s2,s3]) rfl a.out ⟨_,_,rfl,hid (DecC.mkOk o.out ⟨rfl,c7.jm a.out (Zg8 N w.heap.size (.slice a0 n0 e0) (.slice a1 n1 e1) (.slice a2 n2 e2) (.slice a3 n3 e3)) Dc Dc Dc Dc Dc Dc⟩),Zgt j.out (Yac _) (.slice a0 n0 e0) (.slice a1 n1 e1) (.slice a2 n2 e2) (.slice a3 n3 e3)⟩
    ·have o:Hid (Zb7 (bl s)=.error (10,0)):=hid (by rw[k.out,if_pos he]);have d3:(((n:Int) % 4294967296) != (SQ:Int))=true:=by rw[Int.emod_eq_of_lt Om Om,bne_iff_ne];omega
     clear k
     go_wp2_with (go_at_call 73;refine(c5.out _).mono ?_;rintro e N ⟨rfl,rfl⟩)
     have e7:=h.n;have d4:Hid (BAt N.drew w.heap.size [S0,S0,S0,S0] 59):=hid (a.below ((Yaf _ _).drew));have d5:Hid (BW w N.drew):=hid (j.drew);have h9:¬w.heap.size=9:=by omega
     have e8:¬9=w.heap.size:=by omega
     go_region
     all_goals
      go_wp2;change bodyPost _ _ _ _ _ (set4 N.drew w.heap.size S0 S0 S0 S0);have st:=Zgs d4.out (x:=S0) (y:=S0) (z:=S0) (u:=S0);have s0:=st.cell 0;have s1:=st.cell 1;have s2:=st.cell 2;have s3:=st.cell 3;simp only[Zget]at s0 s1 s2 s3;have S:=hid (Zgt d5.out (Yac _) S0 S0 S0 S0);generalize set4 N.drew w.heap.size S0 S0 S0 S0=WX at *
      exact bodyPost_ret (v:=.tuple #[.agg #[S0,S0,S0,S0],.iface 432 (.pointer (some (A 9)))]) (by simp[results,results38,go_sem,s0,s1,s2,s3]) rfl ⟨_,_,rfl,hid (DecC.qq o.out ⟨rfl,Or.inr ⟨rfl,rfl⟩⟩),S.out⟩
abbrev StAt (w:World) (nb:Nat) (a:Ah):Prop:=BAt w nb (stC a) 262
theorem StAt.cells(h:StAt w nb a):w.cell? ⟨nb,0,none⟩=some (.bool a.qy)/\w.cell? ⟨nb,1,none⟩=some (.bool a.qz)/\w.cell? ⟨nb,2,none⟩=some (Vi a.jz.length):=
 ⟨(h.cell 0).trans (ZcA a 0 Dc),(h.cell 1).trans (ZcA a 1 Dc),(h.cell 2).trans (ZcA a 2 Dc)⟩
theorem StAt.jz(h:StAt w nb a)(j:Nat)(c:j<64):w.cell? ⟨nb,3+j,none⟩=some (.int .u8 ((a.jz.reverse.getD j 0:Nat):Int)):=(h.cell _).trans (Zni a j c)
theorem StAt.slot(h:StAt w nb a)(j:Nat)(c:j<16):w.cell? ⟨nb,67+j,none⟩=some (.int .u8 ((a.jy.getD j 0:Nat):Int)):=(h.cell _).trans (Znh a j c)
def putK(k:Nat)(a:Ah):Option Ah:=if k=0∨a.jz.length=64 then none else some { a with jz:=k::a.jz }
theorem Zfo (k : Nat) (w : World) : CP 188 #[.int .u8 k] w fun e u => e = .returned (.bool (Zby k)) /\ u = w := by
  by_cases a:k=1
  · subst a
    go_enter func188,ntmps188;go_wp2;go_ret;exact⟨rfl,rfl⟩
  · by_cases c:k=2
    · subst c
      go_enter func188,ntmps188;go_wp2;go_ret;exact⟨rfl,rfl⟩
    · have d:Hid (Zby k=false):=hid (by unfold Zby;simp[a,c])
      have e1:((k:Int) == 1)=false:=by rw[beq_eq_false_iff_ne];omega
      have e2:((k:Int) == 2)=false:=by rw[beq_eq_false_iff_ne];omega
      go_enter func188,ntmps188;go_wp2;go_ret;exact⟨Zcy d.symm,rfl⟩
theorem Zeb(nb:Nat)(a:Ah)(k:Nat)(w:World)(h:StAt w nb a)(o:a.jz.length<=64) :
  CP 185 #[Vp nb,.int .u8 k] w fun e u=>e=.returned (.bool (putK k a).isSome)/\Hid (∀a',putK k a=some a'->StAt u nb a')/\w.grownBy u (some nb):=by
 obtain⟨c0,c1,c2⟩:=h.cells;have H:=hid h;by_cases j:k=0
 ·subst j;have c:Hid (putK 0 a=none):=hid (if_pos (.inl rfl));clear h c0 c1;go_enter func185,ntmps185;go_wp2;go_ret;exact⟨by rw[c];rfl,hid (fun a' e=>by rw[c]at e;cases e),ZbM _ _⟩
 ·have m:((k:Int) == 0)=false:=by rw[beq_eq_false_iff_ne];omega
  by_cases d:a.jz.length=64
  ·have c:Hid (putK k a=none):=hid (if_pos (.inr d));rw[d]at c2;clear h c0 c1;go_enter func185,ntmps185;go_wp2;go_ret;exact⟨by rw[c];rfl,hid (fun a' e=>by rw[c]at e;cases e),ZbM _ _⟩
  ·have g:Hid (putK k a=some _):=hid (if_neg Om);have f:a.jz.length<64:=by omega
   have q:((a.jz.length:Int) == 64)=false:=by rw[beq_eq_false_iff_ne];omega
   have d0:=h.jz _ f;have f0:=h.frozen (3+a.jz.length);have f2:=h.frozen 2
   have i:Hid (StAt ((w.drew.setCell ⟨nb,3+a.jz.length,none⟩ (.int .u8 k)).setCell ⟨nb,2,none⟩ (Vi ((a.jz.length+1:Nat)))) nb { a with jz:=k::a.jz }):=by
    have:=((h.below ((Yaf _ _).drew)).setk (3+a.jz.length) (.int .u8 k)).setk 2 (Vi ((a.jz.length+1:Nat)));rw[ZCG a k f]at this;exact this
   have l:Hid (w.grownBy ((w.drew.setCell ⟨nb,3+a.jz.length,none⟩ (.int .u8 k)).setCell ⟨nb,2,none⟩ (Vi ((a.jz.length+1:Nat):Int))) (some nb)):=hid (ZA (p:=⟨nb,2,none⟩) (ZA (p:=⟨nb,3+a.jz.length,none⟩) (Zdi (ZbM _ _)) (Or.inl rfl) _) (Or.inl rfl) _);generalize r:a.jz.length=n at *
   clear h c0 c1;go_enter func185,ntmps185;go_wp2
   go_region
   all_goals
    go_wp2;go_ret;exact⟨by rw[g];rfl,hid (fun a' e=>by rw[g]at e;injection e with e;subst e;exact i),l⟩
theorem Zec(nb:Nat)(a:Ah)(w:World)(h:StAt w nb a)(l:a.jz.length<=64) :
  CP 187 #[Vp nb] w fun e u=>e=.returned (.int .u8 ((a.jz.headD 0:Nat):Int))/\Hid (StAt u nb { a with jz:=a.jz.tail })/\w.grownBy u (some nb):=by
 obtain⟨c0,c1,c2⟩:=h.cells;have H:=hid h;cases c:a.jz with
 | nil=>
  rw[c]at c2
  have m:Hid (StAt w nb { a with jz:=([]).tail }):=by
   have : { a with jz:=([]).tail }=a:=by rw[<-show a.jz=([]).tail from c]
   rw[this];exact h
  clear h c0 c1 c;go_enter func187,ntmps187;go_wp2;go_ret;exact⟨rfl,m,ZbM _ _⟩
 | cons k r=>
  have d:a.jz.length=r.length+1:=by rw[c];rfl
  have o:r.length<64:=by omega
  have d0:w.cell? ⟨nb,3+r.length,none⟩=some (.int .u8 (k)):=by
   have:=h.jz _ o;rw[c]at this;rw[this];simp
  have f0:=h.frozen (3+r.length);have f2:=h.frozen 2;rw[d]at c2;have t:(((r.length:Int)+1) == 0)=false:=by rw[beq_eq_false_iff_ne];omega
  have f : Hid (∀ W : World, (∀ j, W.heap[j]? = w.heap[j]?) -> StAt _ _ _) := hid (fun W q => by
    have s:StAt W _ a:=(q _).trans h;have g:=(s.setk 2 (Vi (r.length))).setk (3+r.length) (.int .u8 0);have i:=ZCF a l Om;rw[d,Yen]at i;rw[i,show a.jz.tail=r by rw[c];rfl]at g;exact g)
  rw[show(k::r).headD 0=k from rfl,show(k::r).tail=r from rfl];generalize r.length=n at *
  clear h c0 c1 c d H;go_enter func187,ntmps187;go_wp2
  go_region
  all_goals
   go_wp2
   go_region
   all_goals
    go_wp2;go_ret;exact⟨rfl,hid (f.out w (fun _=>rfl)),ZA (p:=⟨nb,3+n,none⟩) (Zdi (Zdi (ZA (p:=⟨nb,2,none⟩) (ZbM _ _) (Or.inl rfl) _))) (Or.inl rfl) _⟩
theorem Zuq   : CP 143 #[.agg #[Vi op, Vi arg]] w fun e u => e = .returned (.bool (ZcE op)) /\ BW w u := by
  by_cases a:op=9
  · subst a
    go_enter func143,ntmps143;go_wp2;go_ret;exact⟨rfl,belB⟩
  · by_cases c:op=10
    · subst c
      go_enter func143,ntmps143;go_wp2;go_ret;exact⟨rfl,belB⟩
    · have d:Hid (ZcE op=false):=hid (by unfold ZcE;simp[a,c])
      have e1:((op:Int) == 9)=false:=by rw[beq_eq_false_iff_ne];omega
      have e2:((op:Int) == 10)=false:=by rw[beq_eq_false_iff_ne];omega
      go_enter func143,ntmps143;go_wp2;go_ret;exact⟨Zcy d.symm,belB⟩
theorem ZwQ (op arg : Nat) (w : World) : CP 146 #[.agg #[Vi op, Vi arg]] w fun e u => e = .returned (.bool (Zf4 op)) /\ BW w u := by
  by_cases a:op=12
  · subst a
    go_enter func146,ntmps146;go_wp2;go_ret;exact⟨rfl,belB⟩
  · by_cases c:op=13
    · subst c
      go_enter func146,ntmps146;go_wp2;go_ret;exact⟨rfl,belB⟩
    · have d:Hid (Zf4 op=false):=hid (by unfold Zf4;simp[a,c])
      have e1:((op:Int) == 12)=false:=by rw[beq_eq_false_iff_ne];omega
      have e2:((op:Int) == 13)=false:=by rw[beq_eq_false_iff_ne];omega
      go_enter func146,ntmps146;go_wp2;go_ret;exact⟨Zcy d.symm,belB⟩
theorem ZpY (nm : BA) (la : Option Addr) (ln lc n : Nat) (w : World) : CP 116 #[.agg #[.string nm, .slice la ln lc, Vi n]] w fun e u => e = .returned (.bool (decide (0 < n))) /\ BW w u := by
  by_cases h:0<n
  · have a:(0:Int)<n:=by omega
    go_enter func116,ntmps116;go_wp2;go_ret;exact⟨Zcy (by simp[h]),belB⟩
  · have a:¬(0:Int)<n:=by omega
    go_enter func116,ntmps116;go_wp2;go_ret;exact⟨Zcy rfl,belB⟩
theorem Zxw {nm:BA}  {ln lc n:Nat} (nd : Nd) (w : World) : CP 186 #[.agg #[.string nm, .slice la ln lc, Vi n]] w fun e u => e = .returned (.int .u8 (Zb3 (nd, n) : Nat)) /\ BW w u := by
  go_enter func186,ntmps186
  go_wp2_with fail
  refine Zm fun W i=>?_;have a:Below _ w W:=i▸Zbal;have c:=hid a;clear i a;refine(ZpY _ _ _ _ n W).mono ?_;rintro e j ⟨rfl,d⟩;have f:=hid (c.trans (d.mono c.size));clear d;by_cases h:0<n
  · have hd:decide (0<n)=true:=by simp[h]
    have g:Hid (Zb3 (nd,n)=3):=hid (if_pos h);rw[hd];clear hd h;go_wp2;go_ret;exact⟨by rw[g];rfl,f⟩
  · have hd:decide (0<n)=false:=by simp[h]
    have g:Hid (Zb3 (nd,n)=2):=hid (if_neg h);rw[hd];clear hd h;go_wp2;go_ret;exact⟨by rw[g];rfl,f⟩
theorem ZAZ(c:k≠0)(a:Ah):(putK k a).isSome=(ZE k a.jz a.jy).isSome/\∀st sl,ZE k a.jz a.jy=some (st,sl)->putK k a=some { a with jz:=st,jy:=sl }:=by
 unfold putK ZE;by_cases h:a.jz.length=64
 ·rw[if_pos (.inr h),if_pos h];exact⟨rfl,fun _ _ e=>by cases e⟩
 ·rw[if_neg (by rintro(e|e) <;> contradiction),if_neg h];exact⟨rfl,fun st sl e=>by injection e with e;injection e with e1 e2;subst e1;subst e2;rfl⟩
theorem ZA0(a:Ah):putK 0 a=none:=if_pos (.inl rfl)
def ZT(w w':World)(nb:Nat)(a:Ah)(r:Option (List Nat×List Nat))(ok:Bool):Prop:=ok=r.isSome/\(∀st sl,r=some (st,sl)->StAt w' nb { a with jz:=st,jy:=sl })/\w.grownBy w' (some nb)
theorem ZT.put{a1:Ah}(f:k≠0)(g:r=ZE k a1.jz a1.jy)(c:a1.qy=a.qy/\a1.qz=a.qz)(h:∀a',putK k a1=some a'->StAt w' nb a')(hg:w.grownBy w' (some nb)):ZT w w' nb a r (putK k a1).isSome:=by
 have d:=ZAZ f a1;subst g;refine⟨d.1,fun st sl e=>?_,hg⟩;have:=h _ (d.2 _ _ e);rw[c.1,c.2]at this;exact this
theorem ZT.no(c:r=none)(hg:w.grownBy w' (some nb)):ZT w w' nb a r false:=by
 subst c;exact⟨rfl,(fun _ _ e=>(by cases e)),hg⟩
structure DoP (w:World) (nb:Nat) (a:Ah) (c:CodeQ) (op arg:Nat) (a0 a1 a2 a3:Option Addr) (n0 n1 n2 n3 e0 e1 e2 e3:Nat):Prop where
 st:StAt w nb a
 cv:CodeV w c (.slice a0 n0 e0) (.slice a1 n1 e1) (.slice a2 n2 e2) (.slice a3 n3 e3)
 rf:∃i,Zy c i (op,arg)=true
 ln:a.jz.length<=64
 sl:a.jy.length=16
 kd:∀k∈a.jz,k≠0
theorem do_0(w:World)(a:Ah)(c:CodeQ)(h:DoP w nb a c 0 arg a0 a1 a2 a3 n0 n1 n2 n3 e0 e1 e2 e3) :
  CP 142 #[Vp nb,.agg #[.slice a0 n0 e0,.slice a1 n1 e1,.slice a2 n2 e2,.slice a3 n3 e3],.agg #[Vi (0:Nat),Vi arg]] w fun e u=>∃ok,e=.returned (.bool ok)/\Hid (ZT w u nb a (Zt c (0,arg) a.jz a.jy) ok):=by
 have f:=hid h;have n:=h.st.lt;go_enter func142,ntmps142
 go_wp2_with fail
 refine Zm fun W m=>?_;have d:Below _ w W:=m▸Zbal.alloc (by simp) _;have g:=hid (f.st.below d);have i:Hid (w.grownBy W (some nb)):=hid (Zw d);refine(Zeb _ a 1 W g f.ln).mono ?_;rintro e o ⟨rfl,j,k⟩;have l:=hid (Zj i k);go_wp2;go_ret;exact⟨_,rfl,hid (ZT.put Dc rfl ⟨rfl,rfl⟩ j l)⟩
theorem do_2(w:World)(a:Ah)(c:CodeQ)(h:DoP w nb a c 2 arg a0 a1 a2 a3 n0 n1 n2 n3 e0 e1 e2 e3) :
  CP 142 #[Vp nb,.agg #[.slice a0 n0 e0,.slice a1 n1 e1,.slice a2 n2 e2,.slice a3 n3 e3],.agg #[Vi (2:Nat),Vi arg]] w fun e u=>∃ok,e=.returned (.bool ok)/\Hid (ZT w u nb a (Zt c (2,arg) a.jz a.jy) ok):=by
 have l:=hid h;have v:=h.st.lt;go_enter func142,ntmps142
 go_wp2_with fail
 refine Zm fun W t=>?_;have i:Below _ w W:=t▸Zbal.alloc (by simp) _;have n:=hid (l.st.below i);have o:Hid (w.grownBy W (some nb)):=hid (Zw i);refine(Zec _ a W n l.ln).mono ?_;rintro e A ⟨rfl,p,f⟩;have j:=hid (Zj o f);by_cases d:a.jz.headD 0=3
 ·have m:Hid (Zt c (2,arg) a.jz a.jy=ZE 2 { a with jz:=a.jz.tail }.jz { a with jz:=a.jz.tail }.jy):=by
   cases g:a.jz with
   | nil=>rw[g]at d;cases d
   | cons k r=>rw[g]at d;obtain rfl:=d;rfl
  rw[d]
  go_wp2_with fail
  refine(Zeb _ _ 2 _ p (by have:=l.ln;simp;omega)).mono ?_;rintro e z ⟨rfl,q,f⟩;have s:=hid (Zj j f);go_wp2;go_ret;exact⟨_,rfl,hid (ZT.put Dc m ⟨rfl,rfl⟩ q s)⟩
 ·have m:Hid (Zt c (2,arg) a.jz a.jy=none):=by
   cases g:a.jz with
   | nil=>rfl
   | cons k r=>rw[g]at d;exact if_neg d
  have x:(((a.jz.headD 0):Int) == 3)=false:=by rw[beq_eq_false_iff_ne];omega
  generalize a.jz.headD 0=k0 at *
  go_wp2;go_ret;exact⟨_,rfl,hid (ZT.no m j)⟩
theorem do_5(w:World)(a:Ah)(c:CodeQ)(h:DoP w nb a c 5 arg a0 a1 a2 a3 n0 n1 n2 n3 e0 e1 e2 e3) :
  CP 142 #[Vp nb,.agg #[.slice a0 n0 e0,.slice a1 n1 e1,.slice a2 n2 e2,.slice a3 n3 e3],.agg #[Vi (5:Nat),Vi arg]] w fun e u=>∃ok,e=.returned (.bool ok)/\Hid (ZT w u nb a (Zt c (5,arg) a.jz a.jy) ok):=by
 have l:=hid h;have v:=h.st.lt;go_enter func142,ntmps142
 go_wp2_with fail
 refine Zm fun W t=>?_;have i:Below _ w W:=t▸Zbal.alloc (by simp) _;have n:=hid (l.st.below i);have o:Hid (w.grownBy W (some nb)):=hid (Zw i);refine(Zec _ a W n l.ln).mono ?_;rintro e A ⟨rfl,p,f⟩;have j:=hid (Zj o f);by_cases d:a.jz.headD 0=2
 ·have m:Hid (Zt c (5,arg) a.jz a.jy=ZE 2 { a with jz:=a.jz.tail }.jz { a with jz:=a.jz.tail }.jy):=by
   cases g:a.jz with
   | nil=>rw[g]at d;cases d
   | cons k r=>rw[g]at d;obtain rfl:=d;rfl
  rw[d]
  go_wp2_with fail
  refine(Zeb _ _ 2 _ p (by have:=l.ln;simp;omega)).mono ?_;rintro e z ⟨rfl,q,f⟩;have s:=hid (Zj j f);go_wp2;go_ret;exact⟨_,rfl,hid (ZT.put Dc m ⟨rfl,rfl⟩ q s)⟩
 ·have m:Hid (Zt c (5,arg) a.jz a.jy=none):=by
   cases g:a.jz with
   | nil=>rfl
   | cons k r=>rw[g]at d;exact if_neg d
  have x:(((a.jz.headD 0):Int) == 2)=false:=by rw[beq_eq_false_iff_ne];omega
  generalize a.jz.headD 0=k0 at *
  go_wp2;go_ret;exact⟨_,rfl,hid (ZT.no m j)⟩
theorem do_6(w:World)(a:Ah)(c:CodeQ)(h:DoP w nb a c 6 arg a0 a1 a2 a3 n0 n1 n2 n3 e0 e1 e2 e3) :
  CP 142 #[Vp nb,.agg #[.slice a0 n0 e0,.slice a1 n1 e1,.slice a2 n2 e2,.slice a3 n3 e3],.agg #[Vi (6:Nat),Vi arg]] w fun e u=>∃ok,e=.returned (.bool ok)/\Hid (ZT w u nb a (Zt c (6,arg) a.jz a.jy) ok):=by
 have l:=hid h;have v:=h.st.lt;go_enter func142,ntmps142
 go_wp2_with fail
 refine Zm fun W t=>?_;have i:Below _ w W:=t▸Zbal.alloc (by simp) _;have n:=hid (l.st.below i);have o:Hid (w.grownBy W (some nb)):=hid (Zw i);refine(Zec _ a W n l.ln).mono ?_;rintro e A ⟨rfl,p,f⟩;have j:=hid (Zj o f);by_cases d:a.jz.headD 0=2
 ·have m:Hid (Zt c (6,arg) a.jz a.jy=ZE 2 { a with jz:=a.jz.tail }.jz { a with jz:=a.jz.tail }.jy):=by
   cases g:a.jz with
   | nil=>rw[g]at d;cases d
   | cons k r=>rw[g]at d;obtain rfl:=d;rfl
  rw[d]
  go_wp2_with fail
  refine(Zeb _ _ 2 _ p (by have:=l.ln;simp;omega)).mono ?_;rintro e z ⟨rfl,q,f⟩;have s:=hid (Zj j f);go_wp2;go_ret;exact⟨_,rfl,hid (ZT.put Dc m ⟨rfl,rfl⟩ q s)⟩
 ·have m:Hid (Zt c (6,arg) a.jz a.jy=none):=by
   cases g:a.jz with
   | nil=>rfl
   | cons k r=>rw[g]at d;exact if_neg d
  have x:(((a.jz.headD 0):Int) == 2)=false:=by rw[beq_eq_false_iff_ne];omega
  generalize a.jz.headD 0=k0 at *
  go_wp2;go_ret;exact⟨_,rfl,hid (ZT.no m j)⟩
theorem do_7(w:World)(a:Ah)(c:CodeQ)(h:DoP w nb a c 7 arg a0 a1 a2 a3 n0 n1 n2 n3 e0 e1 e2 e3) :
  CP 142 #[Vp nb,.agg #[.slice a0 n0 e0,.slice a1 n1 e1,.slice a2 n2 e2,.slice a3 n3 e3],.agg #[Vi (7:Nat),Vi arg]] w fun e u=>∃ok,e=.returned (.bool ok)/\Hid (ZT w u nb a (Zt c (7,arg) a.jz a.jy) ok):=by
 have l:=hid h;have v:=h.st.lt;go_enter func142,ntmps142
 go_wp2_with fail
 refine Zm fun W t=>?_;have i:Below _ w W:=t▸Zbal.alloc (by simp) _;have n:=hid (l.st.below i);have o:Hid (w.grownBy W (some nb)):=hid (Zw i);refine(Zec _ a W n l.ln).mono ?_;rintro e A ⟨rfl,p,f⟩;have j:=hid (Zj o f);by_cases d:a.jz.headD 0=2
 ·have m:Hid (Zt c (7,arg) a.jz a.jy=ZE 2 { a with jz:=a.jz.tail }.jz { a with jz:=a.jz.tail }.jy):=by
   cases g:a.jz with
   | nil=>rw[g]at d;cases d
   | cons k r=>rw[g]at d;obtain rfl:=d;rfl
  rw[d]
  go_wp2_with fail
  refine(Zeb _ _ 2 _ p (by have:=l.ln;simp;omega)).mono ?_;rintro e z ⟨rfl,q,f⟩;have s:=hid (Zj j f);go_wp2;go_ret;exact⟨_,rfl,hid (ZT.put Dc m ⟨rfl,rfl⟩ q s)⟩
 ·have m:Hid (Zt c (7,arg) a.jz a.jy=none):=by
   cases g:a.jz with
   | nil=>rfl
   | cons k r=>rw[g]at d;exact if_neg d
  have x:(((a.jz.headD 0):Int) == 2)=false:=by rw[beq_eq_false_iff_ne];omega
  generalize a.jz.headD 0=k0 at *
  go_wp2;go_ret;exact⟨_,rfl,hid (ZT.no m j)⟩
theorem do_8(w:World)(a:Ah)(c:CodeQ)(h:DoP w nb a c 8 arg a0 a1 a2 a3 n0 n1 n2 n3 e0 e1 e2 e3) :
  CP 142 #[Vp nb,.agg #[.slice a0 n0 e0,.slice a1 n1 e1,.slice a2 n2 e2,.slice a3 n3 e3],.agg #[Vi (8:Nat),Vi arg]] w fun e u=>∃ok,e=.returned (.bool ok)/\Hid (ZT w u nb a (Zt c (8,arg) a.jz a.jy) ok):=by
 have l:=hid h;have v:=h.st.lt;go_enter func142,ntmps142
 go_wp2_with fail
 refine Zm fun W t=>?_;have i:Below _ w W:=t▸Zbal.alloc (by simp) _;have n:=hid (l.st.below i);have o:Hid (w.grownBy W (some nb)):=hid (Zw i);refine(Zec _ a W n l.ln).mono ?_;rintro e A ⟨rfl,p,f⟩;have j:=hid (Zj o f);by_cases d:a.jz.headD 0=2
 ·have m:Hid (Zt c (8,arg) a.jz a.jy=ZE 2 { a with jz:=a.jz.tail }.jz { a with jz:=a.jz.tail }.jy):=by
   cases g:a.jz with
   | nil=>rw[g]at d;cases d
   | cons k r=>rw[g]at d;obtain rfl:=d;rfl
  rw[d]
  go_wp2_with fail
  refine(Zeb _ _ 2 _ p (by have:=l.ln;simp;omega)).mono ?_;rintro e z ⟨rfl,q,f⟩;have s:=hid (Zj j f);go_wp2;go_ret;exact⟨_,rfl,hid (ZT.put Dc m ⟨rfl,rfl⟩ q s)⟩
 ·have m:Hid (Zt c (8,arg) a.jz a.jy=none):=by
   cases g:a.jz with
   | nil=>rfl
   | cons k r=>rw[g]at d;exact if_neg d
  have x:(((a.jz.headD 0):Int) == 2)=false:=by rw[beq_eq_false_iff_ne];omega
  generalize a.jz.headD 0=k0 at *
  go_wp2;go_ret;exact⟨_,rfl,hid (ZT.no m j)⟩
theorem Zvy(w:World)(a:Ah)(c:CodeQ)(h:DoP w nb a c 10 arg a0 a1 a2 a3 n0 n1 n2 n3 e0 e1 e2 e3) :
  CP 142 #[Vp nb,.agg #[.slice a0 n0 e0,.slice a1 n1 e1,.slice a2 n2 e2,.slice a3 n3 e3],.agg #[Vi (10:Nat),Vi arg]] w fun e u=>∃ok,e=.returned (.bool ok)/\Hid (ZT w u nb a (Zt c (10,arg) a.jz a.jy) ok):=by
 have l:=hid h;have v:=h.st.lt;go_enter func142,ntmps142
 go_wp2_with fail
 refine Zm fun W t=>?_;have i:Below _ w W:=t▸Zbal.alloc (by simp) _;have n:=hid (l.st.below i);have o:Hid (w.grownBy W (some nb)):=hid (Zw i);refine(Zec _ a W n l.ln).mono ?_;rintro e A ⟨rfl,p,f⟩;have j:=hid (Zj o f);by_cases d:a.jz.headD 0=2
 ·have m:Hid (Zt c (10,arg) a.jz a.jy=ZE 2 { a with jz:=a.jz.tail }.jz { a with jz:=a.jz.tail }.jy):=by
   cases g:a.jz with
   | nil=>rw[g]at d;cases d
   | cons k r=>rw[g]at d;obtain rfl:=d;rfl
  rw[d]
  go_wp2_with fail
  refine(Zeb _ _ 2 _ p (by have:=l.ln;simp;omega)).mono ?_;rintro e z ⟨rfl,q,f⟩;have s:=hid (Zj j f);go_wp2;go_ret;exact⟨_,rfl,hid (ZT.put Dc m ⟨rfl,rfl⟩ q s)⟩
 ·have m:Hid (Zt c (10,arg) a.jz a.jy=none):=by
   cases g:a.jz with
   | nil=>rfl
   | cons k r=>rw[g]at d;exact if_neg d
  have x:(((a.jz.headD 0):Int) == 2)=false:=by rw[beq_eq_false_iff_ne];omega
  generalize a.jz.headD 0=k0 at *
  go_wp2;go_ret;exact⟨_,rfl,hid (ZT.no m j)⟩
theorem do_4(w:World)(a:Ah)(c:CodeQ)(h:DoP w nb a c 4 arg a0 a1 a2 a3 n0 n1 n2 n3 e0 e1 e2 e3) :
  CP 142 #[Vp nb,.agg #[.slice a0 n0 e0,.slice a1 n1 e1,.slice a2 n2 e2,.slice a3 n3 e3],.agg #[Vi (4:Nat),Vi arg]] w fun e u=>∃ok,e=.returned (.bool ok)/\Hid (ZT w u nb a (Zt c (4,arg) a.jz a.jy) ok):=by
 have n:=hid h;have D:=h.st.lt;go_enter func142,ntmps142
 go_wp2_with fail
 refine Zm fun W C=>?_;have l:Below _ w W:=C▸Zbal.alloc (by simp) _;have p:=hid (n.st.below l);have q:Hid (w.grownBy W (some nb)):=hid (Zw l);refine(Zec _ a W p n.ln).mono ?_;rintro e E ⟨rfl,s,f⟩;have m:=hid (Zj q f);cases d:Zby (a.jz.headD 0)with
 | true=>
  have o:Hid (Zt c (4,arg) a.jz a.jy=ZE (a.jz.headD 0) { a with jz:=a.jz.tail }.jz { a with jz:=a.jz.tail }.jy):=by
   cases j:a.jz with
   | nil=>rw[j]at d;cases d
   | cons k r=>rw[j]at d;exact if_pos d
  have t:a.jz.headD 0≠0:=by intro e;rw[e]at d;cases d
  have v:=hid t;have g:=hid (fun i=>by have:=Zfo (a.jz.headD 0) i;rwa [d]at this);have x:=hid (fun i h=>Zeb nb { a with jz:=a.jz.tail } (a.jz.headD 0) i h (by have:=n.ln;simp;omega));generalize a.jz.headD 0=k0 at *
  go_wp2_with (go_at_call 188;refine cret (g.out _) ?_)
  refine(x _ s).mono ?_;rintro e z ⟨rfl,A,f⟩;have B:=hid (Zj m f);go_wp2;go_ret;exact⟨_,rfl,hid (ZT.put v o ⟨rfl,rfl⟩ A B)⟩
 | false=>
  have o:Hid (Zt c (4,arg) a.jz a.jy=none):=by
   cases j:a.jz with
   | nil=>rfl
   | cons k r=>rw[j]at d;exact if_neg (by show ¬Zby k=true;rw[show Zby k=false from d];simp)
  have g:=hid (fun i=>by have:=Zfo (a.jz.headD 0) i;rwa [d]at this);generalize a.jz.headD 0=k0 at *
  go_wp2_with (go_at_call 188;refine cret (g.out _) ?_)
  go_ret;exact⟨_,rfl,hid (ZT.no o m)⟩
theorem do_9(w:World)(a:Ah)(c:CodeQ)(h:DoP w nb a c 9 arg a0 a1 a2 a3 n0 n1 n2 n3 e0 e1 e2 e3) :
  CP 142 #[Vp nb,.agg #[.slice a0 n0 e0,.slice a1 n1 e1,.slice a2 n2 e2,.slice a3 n3 e3],.agg #[Vi (9:Nat),Vi arg]] w fun e u=>∃ok,e=.returned (.bool ok)/\Hid (ZT w u nb a (Zt c (9,arg) a.jz a.jy) ok):=by
 have d:=hid h;have g:=h.st.lt;go_enter func142,ntmps142;have f:Hid (∀o1 o2,StAt ((w.alloc o1).alloc o2) _ a):=hid (fun o1 o2=>d.st.below (Zbal.alloc (by simp) _));go_wp2;go_ret;exact⟨_,rfl,hid ⟨rfl,fun st sl e=>by injection e with e;cases e;exact f _ _,ZbR (ZbR (ZbM _ _) _) _⟩⟩
theorem Zvz(w:World)(a:Ah)(c:CodeQ)(h:DoP w nb a c 11 arg a0 a1 a2 a3 n0 n1 n2 n3 e0 e1 e2 e3) :
  CP 142 #[Vp nb,.agg #[.slice a0 n0 e0,.slice a1 n1 e1,.slice a2 n2 e2,.slice a3 n3 e3],.agg #[Vi (11:Nat),Vi arg]] w fun e u=>∃ok,e=.returned (.bool ok)/\Hid (ZT w u nb a (Zt c (11,arg) a.jz a.jy) ok):=by
 have g:=hid h;have s:=h.st.lt;go_enter func142,ntmps142
 go_wp2_with fail
 refine Zm fun W o=>?_;have d:Below _ w W:=o▸Zbal.alloc (by simp) _;have i:=hid (g.st.below d);have j:Hid (w.grownBy W (some nb)):=hid (Zw d);refine(Zec _ a W i g.ln).mono ?_;rintro e p ⟨rfl,l,m⟩;have f:=hid (Zj j m)
 have t:Hid (ZT w p nb a (Zt c (11,arg) a.jz a.jy) (decide (a.jz.headD 0≠0))):=by
  cases n:a.jz with
  | nil=>exact ZT.no rfl f
  | cons k r=>
   have q:=g.kd k (by rw[n];simp);refine⟨by show decide (k≠0)=true;simp[q],fun st sl e=>?_,f⟩;injection e with e;cases e;have:=l.out;rw[n]at this;exact this
 generalize a.jz.headD 0=k0 at *
 go_wp2;go_ret;exact⟨_,rfl,hid (by rwa [show(((k0:Nat):Int) != 0)=decide (k0≠0) from by rw[Ybh,bne_iff_ne,decide_eq_true_iff];omega])⟩
theorem do_1(w:World)(a:Ah)(c:CodeQ)(h:DoP w nb a c 1 arg a0 a1 a2 a3 n0 n1 n2 n3 e0 e1 e2 e3) :
  CP 142 #[Vp nb,.agg #[.slice a0 n0 e0,.slice a1 n1 e1,.slice a2 n2 e2,.slice a3 n3 e3],.agg #[Vi (1:Nat),Vi arg]] w fun e u=>∃ok,e=.returned (.bool ok)/\Hid (ZT w u nb a (Zt c (1,arg) a.jz a.jy) ok):=by
 have l:=hid h;have I:=h.st.lt;clear h;obtain⟨i,m⟩:=l.rf;obtain⟨xs,d,f,r⟩:=l.cv.ps;have q:arg<c.ju.length:=by simpa [Zy] using m
 have s:xs.length=c.ju.length:=by rw[<-f,Yak]
 have t:n1=xs.length:=by
  obtain⟨av,cp,e⟩:=Zl d;injection e
 subst t;obtain⟨g,cp,hg⟩:=ZF d Om;injection hg with hg1 hg2 hg3;subst hg1;have o:arg<xs.length:=by omega
 obtain⟨g0,g1,g2⟩:=ZoU _ _ o;have x0:=Zi d _ _ g0;have x1:=Zi d _ _ g1;have x2:=Zi d _ _ g2;have J:=Z1 d
 have H:Hid (Zt c (1,arg) a.jz a.jy=ZE (Zb3 (xs[arg].nd,xs[arg].n)) a.jz a.jy):=by
  show ZE ((c.ju[arg]?.map Zb3).getD 0) _ _=_;rw[<-f,Ya2,List.getElem?_eq_getElem o];rfl
 generalize xs[arg]=x at *
 have v:Hid (Zb3 (x.nd,x.n)≠0):=hid (by unfold Zb3;split <;> decide);have K:(arg:Int)<xs.length:=by omega
 clear m d f r g0 g1 g2 s q hg2 hg3;go_enter func142,ntmps142
 go_wp2_with fail
 refine Zm fun W A=>?_;have j:Below _ w W:=A▸Zbal.alloc (by simp) _;have B:=hid (l.st.below j);have C:Hid (w.grownBy W (some nb)):=hid (Zw j);clear A j x0 x1 x2;refine(Zxw x.nd W).mono ?_;rintro e L ⟨rfl,k⟩;have D:=hid (B.below k);have E:=hid (ZeT C k);clear k;generalize Zb3 (x.nd,x.n)=kk at *
 go_wp2_with fail
 refine(Zeb _ a _ _ D l.ln).mono ?_;rintro e z ⟨rfl,F,p⟩;have G:=hid (Zj E p);clear p;go_wp2;go_ret;exact⟨_,rfl,hid (ZT.put v H ⟨rfl,rfl⟩ F G)⟩
theorem do_3(w:World)(a:Ah)(c:CodeQ)(h:DoP w nb a c 3 arg a0 a1 a2 a3 n0 n1 n2 n3 e0 e1 e2 e3) :
  CP 142 #[Vp nb,.agg #[.slice a0 n0 e0,.slice a1 n1 e1,.slice a2 n2 e2,.slice a3 n3 e3],.agg #[Vi (3:Nat),Vi arg]] w fun e u=>∃ok,e=.returned (.bool ok)/\Hid (ZT w u nb a (Zt c (3,arg) a.jz a.jy) ok):=by
 have E:=hid h;have V:=h.st.lt;clear h;go_enter func142,ntmps142
 go_wp2_with fail
 refine Zm fun W L=>?_;have q:Below _ w W:=L▸Zbal.alloc (by simp) _;have M:=hid (E.st.below q);have N:Hid (w.grownBy W (some nb)):=hid (Zw q);clear L q;obtain⟨y,f⟩:∃y,y=a.jz.headD 0:=⟨_,rfl⟩
 obtain⟨x,g⟩:∃x,x=a.jz.tail.headD 0:=⟨_,rfl⟩
 have l:=Zec _ a W M E.ln;rw[<-f]at l;refine l.mono ?_;clear l;rintro e X ⟨rfl,H,i⟩;have O:=hid (Zj N i);have P:=hid f;have I:=hid g;clear i f g
 go_wp2_with fail
 have g:=I.out;have f:=P.out;have l:=Zec _ _ _ H (by have:=E.ln;simp;omega);rw[g.symm]at l;refine l.mono ?_;clear l;rintro e z ⟨rfl,s,i⟩;have t:=hid (Zj O i);clear i;have Q:Hid (StAt _ _ { a with jz:=a.jz.tail.tail }):=hid s
 have v : Hid ((Zby x && Zby y) = false -> Zt c (3, arg) a.jz a.jy = none) := hid (fun R => by
   cases A:a.jz with
   | nil=>rfl
   | cons k r=>
     cases F:r with
     | nil=>rfl
     | cons k2 r2=>
       rw[A,F]at g f;have g:x=k2:=g;have f:y=k:=f;rw[g,f]at R;show(if (Zby k2 && Zby k)=true then _ else none)=none;rw[R];rfl)
 have B : Hid (Zby x = true -> Zby y = true -> Zt c (3, arg) a.jz a.jy = ZE (max x y) { a with jz := a.jz.tail.tail }.jz { a with jz := a.jz.tail.tail }.jy) := hid (fun o p => by
   cases A:a.jz with
   | nil=>rw[A]at f;rw[f]at p;cases p
   | cons k r=>
     cases F:r with
     | nil=>rw[A,F]at g;rw[g]at o;cases o
     | cons k2 r2=>
       rw[A,F]at g f;have g:x=k2:=g;have f:y=k:=f;rw[g]at o ⊢;rw[f]at p ⊢;show(if (Zby k2 && Zby k)=true then _ else none)=_;rw[o,p];rfl)
 clear g f H s I P;cases d:Zby x with
 | false=>
  have C:=hid (v (by rw[d];rfl));have n:=hid (fun m=>by have:=Zfo x m;rwa [d]at this);clear d
  go_wp2_with (go_at_call 188;refine(n.out _).mono ?_;rintro e G ⟨rfl,rfl⟩)
  go_ret;exact⟨_,rfl,hid (ZT.no C t)⟩
 | true=>
  cases j:Zby y with
  | false=>
   have C:=hid (v (by rw[d,j];rfl));have n:=hid (fun m=>by have:=Zfo x m;rwa [d]at this);have D:=hid (fun m=>by have:=Zfo y m;rwa [j]at this);clear d j
   go_wp2_with fail
   refine(n _).mono ?_;rintro e G ⟨rfl,rfl⟩
   go_wp2_with fail
   refine(D _).mono ?_;rintro e G ⟨rfl,rfl⟩;go_wp2;go_ret;exact⟨_,rfl,hid (ZT.no C t)⟩
  | true=>
   have C:=hid (B d j);have n:=hid (fun m=>by have:=Zfo x m;rwa [d]at this);have D:=hid (fun m=>by have:=Zfo y m;rwa [j]at this);have J:x=1∨x=2:=by unfold Zby at d;simpa using d
   have K:y=1∨y=2:=by unfold Zby at j;simpa using j
   have S:Hid (max x y≠0):=hid Om;clear d j v B
   go_wp2_with fail
   refine(n _).mono ?_;rintro e G ⟨rfl,rfl⟩
   go_wp2_with fail
   refine(D _).mono ?_;rintro e G ⟨rfl,rfl⟩;rcases J with rfl|rfl <;> rcases K with rfl|rfl
   all_goals
    go_wp2_with fail
    refine(Zeb _ _ _ _ Q (by have:=E.ln;simp;omega)).mono ?_;rintro e Y ⟨rfl,T,i⟩;have U:=hid (Zj t i);clear i;go_wp2;go_ret;exact⟨_,rfl,hid (ZT.put S C ⟨rfl,rfl⟩ T U)⟩
theorem ZvB(w:World)(a:Ah)(c:CodeQ)(h:DoP w nb a c 13 arg a0 a1 a2 a3 n0 n1 n2 n3 e0 e1 e2 e3) :
  CP 142 #[Vp nb,.agg #[.slice a0 n0 e0,.slice a1 n1 e1,.slice a2 n2 e2,.slice a3 n3 e3],.agg #[Vi (13:Nat),Vi arg]] w fun e u=>∃ok,e=.returned (.bool ok)/\Hid (ZT w u nb a (Zt c (13,arg) a.jz a.jy) ok):=by
 have q:=hid h;have C:=h.st.lt;obtain⟨i,f⟩:=h.rf;have m:arg<16:=by simpa [Zy] using f
 have D:(arg:Int)<16:=by omega
 clear h f;go_enter func142,ntmps142
 go_upto_region 26 with fail
 refine ZP fun W n=>?_;have d:Below _ w W:=n▸Zbal.alloc (by simp) _;have g:=hid (q.st.below d);have r:Hid (w.grownBy W (some nb)):=hid (Zw d)
 have s:Hid (BAt W (w.heap.size+1) [Vi (13:Nat),Vi arg] 159):=by
  rw[n];have:=Go.Deep.blk_alloc_new (w.alloc (.cells #[.slice a0 n0 e0,.slice a1 n1 e1,.slice a2 n2 e2,.slice a3 n3 e3] 59)) (.cells #[Vi (13:Nat),Vi arg] 159);rwa [Go.Deep.nblk_alloc]at this
 clear n d;have o1:=s.cell;have s1:=StAt.slot g _ m;obtain⟨k,o⟩:∃k,k=a.jy.getD arg 0:=⟨_,rfl⟩
 rw[<-o]at s1;have t:=hid o;have v:=hid (fun A h=>Zeb nb a k A h q.ln);have x:Hid (StAt _ _ a):=hid (g.below ((Yaf _ _).drew));clear o
 go_region_with (first
   | (go_at_call 185
      refine(v.out _ x.out).mono ?_;rintro e B ⟨rfl,z,j⟩;have l:Hid (w.grownBy B (some nb)):=hid (Zj (Zdi r.out) j);clear j))
 all_goals
  go_wp2;go_ret;refine⟨_,rfl,hid ?_⟩;by_cases p:k=0
  ·subst p;rw[ZA0];refine ZT.no ?_ l;show(if a.jy.getD arg 0=0 then none else _)=none;rw[<-t];rfl
  ·refine ZT.put p ?_ ⟨rfl,rfl⟩ z l;show(if a.jy.getD arg 0=0 then none else ZE (a.jy.getD arg 0) a.jz a.jy)=_;rw[<-t,if_neg p]
theorem ZvA(w:World)(a:Ah)(c:CodeQ)(h:DoP w nb a c 12 arg a0 a1 a2 a3 n0 n1 n2 n3 e0 e1 e2 e3) :
  CP 142 #[Vp nb,.agg #[.slice a0 n0 e0,.slice a1 n1 e1,.slice a2 n2 e2,.slice a3 n3 e3],.agg #[Vi (12:Nat),Vi arg]] w fun e u=>∃ok,e=.returned (.bool ok)/\Hid (ZT w u nb a (Zt c (12,arg) a.jz a.jy) ok):=by
 have p:=hid h;have M:=h.st.lt;obtain⟨i,q⟩:=h.rf;have l:arg<16:=by simpa [Zy] using q
 have N:(arg:Int)<16:=by omega
 clear h q;go_enter func142,ntmps142
 go_upto_region 23 with fail
 refine ZP fun W z=>?_;have m:Below _ w W:=z▸Zbal.alloc (by simp) _;have B:=hid (p.st.below m);have C:Hid (w.grownBy W (some nb)):=hid (Zw m)
 have n:Hid (BAt W (w.heap.size+1) [Vi (12:Nat),Vi arg] 159):=by
  rw[z];have:=Go.Deep.blk_alloc_new (w.alloc (.cells #[.slice a0 n0 e0,.slice a1 n1 e1,.slice a2 n2 e2,.slice a3 n3 e3] 59)) (.cells #[Vi (12:Nat),Vi arg] 159);rwa [Go.Deep.nblk_alloc]at this
 clear z m;have o1:=n.cell;obtain⟨y,d⟩:∃y,y=a.jz.headD 0:=⟨_,rfl⟩
 have I:=hid d;have s:Hid (∀f,StAt f _ a->Calls _ _ _ _ fun e u=>e=.returned _/\Hid _/\f.grownBy _ _):=hid (fun f h=>d▸Zec nb a f h p.ln);have t:Hid (StAt _ _ a):=hid (B.below ((Yaf _ _).drew));clear d;have O:¬nb=w.heap.size+1:=by omega
 have J:¬w.heap.size+1=nb:=by omega
 go_region_with (first
   | (go_at_call 187
      refine(s.out _ t.out).mono ?_;rintro e D ⟨rfl,g,o⟩;have E:Hid (w.grownBy D (some nb)):=hid (Zj (Zdi C.out) o);have v:=hid ((n.below ((Yaf _ _).drew)).grown o (by intro e;injection e with e;omega));have p1:=v.cell;have s5:=StAt.slot g.out arg l;have fz5:=g.frozen (67+arg);clear o))
 all_goals
  have F : Hid (∀ f : World, (∀ j, f.heap[j]? = (D.setCell _ _).heap[j]?) -> w.grownBy f _ -> ZT w f nb a (Zt c (12, arg) a.jz _) (((y) : Int) != 0)) := hid (fun f K G => by
    have x:StAt _ _ { a with jz:=a.jz.tail,jy:=a.jy.set _ y }:=(K _).trans (by
      have H:=g.setk (67+arg) (.int .u8 (y));rw[Znj { a with jz:=a.jz.tail } _ y l p.sl]at H;exact H)
    rw[show(((y):Int) != 0)=decide (y≠0) from by rw[Ybh,bne_iff_ne,decide_eq_true_iff];omega];have d:=I.out;cases A:a.jz with
    | nil=>rw[A]at d;subst d;exact ZT.no rfl G
    | cons k r=>
      rw[A]at d x;have d:y=k:=d;subst d;have L:=p.kd y (by rw[A];simp);refine⟨by show decide (y≠0)=true;simp[L],fun st sl e=>?_,G⟩;injection e with e;injection e with e1 e2;subst e1;subst e2;exact x)
  clear s t n v g;go_wp2
  go_region
  all_goals
   go_wp2;go_ret;exact⟨_,rfl,hid (F _ (fun _=>rfl) (Zdi (ZA E (.inl rfl) _)))⟩
theorem ZBV(w:World)(a:Ah)(c:CodeQ)(n3:Nat)(h:DoP w nb a c op arg a0 a1 a2 a3 n0 n1 n2 n3 e0 e1 e2 e3)(d:op<=13) :
  CP 142 #[Vp nb,.agg #[.slice a0 n0 e0,.slice a1 n1 e1,.slice a2 n2 e2,.slice a3 n3 e3],.agg #[Vi op,Vi arg]] w fun e u=>∃ok,e=.returned (.bool ok)/\Hid (ZT w u nb a (Zt c (op,arg) a.jz a.jy) ok):=by
 rcases(by omega:op=0∨op=1∨op=2∨op=3∨op=4∨op=5∨op=6∨op=7∨op=8∨op=9∨op=10∨op=11∨op=12∨op=13)with rfl|rfl|rfl|rfl|rfl|rfl|rfl|rfl|rfl|rfl|rfl|rfl|rfl|rfl
 ·exact do_0 w a c h
 ·exact do_1 w a c h
 ·exact do_2 w a c h
 ·exact do_3 w a c h
 ·exact do_4 w a c h
 ·exact do_5 w a c h
 ·exact do_6 w a c h
 ·exact do_7 w a c h
 ·exact do_8 w a c h
 ·exact do_9 w a c h
 ·exact Zvy w a c h
 ·exact Zvz w a c h
 ·exact ZvA w a c h
 ·exact ZvB w a c h
def stCs(l:List Ah):List Value:=(List.range (83*l.length)).map fun t=>Zck (l.getD (t / 83) ah0) (t % 83)
theorem Zhe(l:List Ah):(stCs l).length=83*l.length:=by simp[stCs]
theorem Ziz(l:List Ah)(i j:Nat)(a:i<l.length)(c:j<83):(stCs l)[i*83+j]?=some (Zck (l.getD i ah0) j):=by
 unfold stCs;rw[Ya2,List.getElem?_range Om];simp only[Ybf];rw[show(i*83+j) / 83=i by omega,show(i*83+j) % 83=j by omega]
theorem Znk(l:List Ah)(t:Nat)(a:t<83*l.length):(stCs l)[t]?=some (Zck (l.getD (t / 83) ah0) (t % 83)):=by
 unfold stCs
 simp_all
theorem Zf3(l:List Ah)(i:Nat)(c:i<l.length):(l.set i a).getD i ah0=a:=by
 simp_all
theorem getD_set_ne(l:List Ah)(i j:Nat)(a:Ah)(h:i≠j):(l.set i a).getD j ah0=l.getD j ah0:=by
 simp_all
theorem Znl{l:List Ah}(d:c.length=83*l.length)(h:∀t,t<83*l.length->c[t]?=some (Zck (l.getD (t / 83) ah0) (t % 83))):c=stCs l:=by
 apply Ycs;intro t;by_cases a:t<83*l.length
 ·rw[h t a,Znk l t a]
 ·rw[Ya9 Om,Ya9 (by rw[Zhe];omega)]
theorem Zkf{l:List Ah}{j:Nat}{a2:Ah}(a:i<l.length)(f:j<83)(h:(stC (l.getD i ah0)).set j v=stC a2):(stCs l).set (i*83+j) v=stCs (l.set i a2):=by
 refine Znl (by simp[Zhe]) (fun t c=>?_);rw[Yat]at c;have d:∀k,k<83->((stC _).set j v)[k]?=some _:=fun k g=>by rw[h,ZcA _ k g]
 rw[Ya0];by_cases e:i*83+j=t
 ·subst e;rw[if_pos rfl,if_pos (by rwa [Zhe]),show(i*83+j) / 83=i by omega,show(i*83+j) % 83=j by omega,Zf3 l i a];have:=d j f;rw[List.getElem?_set_self (by assumption)]at this;omega
 ·rw[if_neg e,Znk l t c];by_cases ei:i=t / 83
  ·rw[<-ei,Zf3 l i a];have:=d (t % 83) Om;rw[List.getElem?_set_ne Om,ZcA _ _ Om]at this;omega
  simp_all
def ZfD:List Value->Nat->List Value->List Value
 | c,_,[]=>c
 | c,o,v::r=>ZfD (c.set o v) (o+1) r
theorem Zsh(vs:List Value):∀(c:List Value) (o t:Nat),o+vs.length<=c.length->(ZfD c o vs)[t]?=if o<=t/\t<o+vs.length then vs[t - o]? else c[t]?:=by
 induction vs with
 | nil=>intro c o t h;rw[if_neg (by simp)];rfl
 | cons v r ih=>
  intro c o t h;rw[Yaj]at h;show(ZfD (c.set o v) (o+1) r)[t]?=_;rw[ih _ _ _ (by simp_all;omega)];by_cases a:o+1<=t/\t<o+1+r.length
  ·rw[if_pos a,if_pos (by simp_all;omega),show t - o=(t - (o+1))+1 by omega,Ye8]
  ·rw[if_neg a,Ya0];by_cases d:o=t
   ·simp_all;omega
   simp_all;omega
theorem Zsi(vs:List Value):∀(c:List Value) (o:Nat),(ZfD c o vs).length=c.length:=by
 induction vs with
 | nil=>intro c o;rfl
 | cons v r ih=>intro c o;show(ZfD (c.set o v) (o+1) r).length=_;simp_all
theorem ZCH{l:List Ah}{a2:Ah}(c:i<l.length):ZfD (stCs l) (i*83) (stC a2)=stCs (l.set i a2):=by
 refine Znl (by rw[Zsi];simp[Zhe]) (fun t a=>?_);rw[Yat]at a;rw[Zsh _ _ _ _ (by rw[ZbE,Zhe];omega),ZbE];by_cases e:i*83<=t/\t<i*83+83
 ·rw[if_pos e,show t / 83=i by omega,Zf3 l i c,ZcA _ _ Om,show t - i*83=t % 83 by omega]
 ·rw[if_neg e,Znk l t a,getD_set_ne l i _ _ Om]
theorem BAt.setCells{t:TypeId} : ∀(vs:List Value) {w:World} {c:List Value} (o:Nat),BAt w g c t->BAt (w.setCells g o vs) g (ZfD c o vs) t
 | [],_,_,_,h=>h
 | v :: r, w, c, o, h => by
   rw[World.setCells];exact BAt.setCells r _ (h.setk o v)
theorem ZpN : ∀(vs:List Value) {w0 w:World} (o:Nat),w0.grownBy w (some g)->w0.grownBy (w.setCells g o vs) (some g)
 | [],_,_,_,h=>h
 | v :: r, w0, w, o, h => by
   rw[World.setCells];exact ZpN r _ (ZA h (.inl rfl) _)
theorem BAt.range    {t : TypeId} (h : BAt w g c t) (o : Nat) (cs : List Value) (d : ∀ j, j < cs.length -> c[o + j]? = cs[j]?) : w.rangeAt g o cs := fun j v a => by
  have e:=(Ycm.1 a).1;rw[h.cell _,d j e,a]
theorem BAt.there    {t : TypeId} (h : BAt w g c t) (o n : Nat) (a : o + n <= c.length) : w.there g o n := fun j d => by
  refine⟨?_,h.frozen _⟩;rw[h.cell _,List.getElem?_eq_getElem Om];rfl
def stkC(a:Ah):List Value:=(List.range 64).map fun j=>.int .u8 ((a.jz.reverse.getD j 0:Nat):Int)
theorem Zhg(a:Ah):(stkC a).length=64:=by rfl
theorem Zkh(a:Ah)(j:Nat)(c:j<64):(stkC a)[j]?=some (.int .u8 ((a.jz.reverse.getD j 0:Nat):Int)):=by
 unfold stkC;simp_all
theorem ZCI{x y:List Nat}(c:x.length<=64)(d:y.length<=64)(kx:∀k∈x,k≠0)(ky:∀k∈y,k≠0)(h:∀j,j<64->x.getD j 0=y.getD j 0):x=y:=by
 have a : ∀ (x y : List _), x.length <= 64 -> y.length <= 64 -> (∀ k ∈ y, k ≠ 0) -> (∀ j, j < 64 -> x.getD j 0 = y.getD j 0) -> ¬ x.length < y.length := fun x y c d ky h e => by
   have:=h x.length Om;rw[Yaa,Ya9 (Yac _),Yaa,List.getElem?_eq_getElem e]at this;exact ky _ (List.getElem_mem _) this.symm
 have f:x.length=y.length:=by
  have g:=a x y c d ky h;have i:=a y x d c kx (fun j l=>(h j l).symm);omega
 refine List.ext_getElem f (fun j g i=>?_);have:=h j Om
 simp_all
theorem ZCQ{b:Ah}(d:a.jz.length<=64)(e:b.jz.length<=64)(kx:∀k∈a.jz,k≠0)(ky:∀k∈b.jz,k≠0):(∀j,j<64->a.jz.reverse.getD j 0=b.jz.reverse.getD j 0) ↔ a.jz=b.jz:=by
 constructor
 ·intro h;have:=ZCI (by simp_all) (by simp_all) (fun k c=>kx k (by simp_all)) (fun k c=>ky k (by simp_all)) h
  simp_all
 simp_all
theorem ZrX{X:Array Value}(i:Nat)(a:X[i]?=some v)(w:World):(part 258 X (i*1)).run prog w=.ok v w:=by
 have c:prog.underlying 258=some _:=underlying258;unfold part
 simp_all
theorem ZrW (a b : Ah) (d : Nat) (w : World) : ∀ is : List Nat, (∀ i ∈ is, i < 64) -> (Op.eqItems (d + 1) 258 1 (stkC a).toArray (stkC b).toArray is).run prog w = .ok (is.all fun i => a.jz.reverse.getD i 0 == b.jz.reverse.getD i 0) w
  | [],_=>rfl
  | i :: is, h => by
    have c:=h i (by simp);have ih:=ZrW a b d w is (fun j f=>h j (by simp[f]));have g:prog.underlying 258=some _:=underlying258;simp only[Op.eqItems,Ye5];rw[ZrX i (Yd7▸Zkh a i c)];simp only[Ydz];rw[ZrX i (Yd7▸Zkh b i c)];simp only[Ydz];rw[run_equalIn_int w d _ _ _ _ _ g];simp only[Ydz,Yep];by_cases e:a.jz.reverse.getD i 0=b.jz.reverse.getD i 0
    · simp_all
    · have e1:((((a.jz.reverse.getD i 0))) == (((b.jz.reverse.getD i 0):Int)))=false:=by rw[beq_eq_false_iff_ne];omega
      simp_all
