/- Parts. -/
import Derived.Test.YtpbemaaghbbocaaGreatDoorW10
set_option linter.all false
set_option maxRecDepth 100000
set_option maxHeartbeats 16000000
namespace Go.Proofs.YtpbemaaghbbocaaGreatDoor
open Go.RowKit LS Go.Proofs.Tryz
variable {s:BA}{b:Bool}{l last:LB}{ps:List (LB)}{acc:List (LB×LB)}{k:Nat}{w:World}
theorem ZrN(s:BA)(m:Int)(w:World)(o:s.size<=6000)(p:w.cell? ⟨14,0,none⟩=some (Vi m)) :
  Cq 140 #[.string s] w fun e u => ∃ (sv : Value) (ok : Bool), e = .returned (.tuple #[sv, .bool ok]) /\
    Hid ((ok=true/\∃a n cap,sv=.slice a n cap/\Zcz (bl s)=some n/\u.ownsRow w.heap.size 313 2 sv n (Zca (Zez (bl s))))∨(ok=false/\Zcz (bl s)=none))/\BW w u:=by
 cases h:s.toList.isEmpty
 ·have g:=Zij h;cases d:ZbI 32 (bl s)with
  | mk r f=>
   cases f
   ·have i:Hid (Zcz (bl s)=none):=hid (by unfold Zcz;rw[d];simp[g]);have j:Hid (ZbI 32 (bl s)=(r,false)):=d;clear d g;go_enter func140,ntmps140
    go_wp2_with fail
    refine(Zi5 j.out).mono ?_;rintro e u ⟨a,rfl,y,rfl⟩;go_wp2;go_ret2;exact⟨_,false,rfl,Or.inr ⟨rfl,i.out⟩,Yaf _ _⟩
   ·have q:Zcz (bl s)=Zcq (-1) 0 (split 32 r):=by unfold Zcz;rw[d];simp[g]
    have v:Zez (bl s)=(split 32 r).map smV:=by
     cases k:bl s with
     | nil=>exact absurd k g
     | cons c t=>
      rw[k]at d;by_cases l:c=32
      ·subst l;simp[ZbI]at d;rw[<-d];rfl
      ·simp[ZbI,l]at d
    rw[q,v];have:=ZBJ s ⟨r.toArray⟩ m w o p (by rw[ZbF];exact d) h
    rwa [ZbF]at this
 ·have i:Hid (Zcz (bl s)=some 0):=hid (by rw[ZgW h];rfl);go_enter func140,ntmps140;go_wp2;go_ret2;have x:Hid (Zez (bl s)=[]):=hid (by rw[ZgW h];rfl);exact⟨_,true,rfl,Or.inl ⟨rfl,none,0,0,rfl,i.out,by rw[x.out];exact Ybc _ _ _ _⟩,Yaf _ _⟩
def Zb2:List (BA×BA)->List Value
 | []=>[]
 | p::l=>.string p.1::.string p.2::Zb2 l
def blP(p:BA×BA):LB×LB:=(bl p.1,bl p.2)
theorem Zpm(l m:List (BA×BA)):Zb2 (l++m)=Zb2 l++Zb2 m:=by
 induction l with
 | nil=>rfl
 | cons a l ih=>simp[Zb2,ih]
theorem Zi9(l:List (BA×BA)):(Zb2 l).length=l.length*2:=by
 induction l with
 | nil=>rfl
 | cons a l ih=>simp[Zb2,ih];omega
theorem Zi8 (l : List (BA × BA)) (j : Nat) : (Zb2 l)[j * 2]? = l[j]?.map (fun p => .string p.1) /\ (Zb2 l)[j * 2 + 1]? = l[j]?.map (fun p => .string p.2) := by
  induction l generalizing j with
  | nil=>simp[Zb2]
  | cons r l ih=>
    cases j with
    | zero=>simp[Zb2]
    | succ j=>
      obtain⟨a,c⟩:=ih j;refine⟨?_,?_⟩
      · rw[show(j+1)*2=j*2+1+1 by omega];simpa [Zb2] using a
      · rw[show(j+1)*2+1=j*2+1+1+1 by omega];simpa [Zb2] using c
theorem ZmF{base:Nat}{e:TypeId}{size:Nat}{v:Value}{n:Nat}{xs:List Value}(h:w.ownsRow base e size v n xs):w.ownsRow 0 e size v n xs:=by
 refine⟨h.1,?_⟩;rcases h.2 with a|⟨g,cap,cur,rfl,_,r⟩
 ·exact Or.inl a
 ·exact Or.inr ⟨g,cap,cur,rfl,Yag _,r⟩
def ZcB(w:World)(base:Nat)(v:Value)(n:Nat)(qs:List (BA×BA)):Prop:=w.ownsRow base 320 2 v n (Zb2 qs)/\n<=6001/\∀p∈qs,p.1.size<=6000/\p.2.size<=6000
theorem Tryz.infoLabel:(Tryz.prog.info? 320).map (fun i=>(i.zero,i.size,i.bytes))=some (some (.agg #[.string ByteArray.empty,.string ByteArray.empty]),2,32):=by kernel_rfl
theorem ZxH(a:k<ps.length)(c:l=ps.getD k []){p:LB×LB}(d:Zd5 last l=some p) :
  ZbS last acc (ps.drop k)=ZbS p.1 (acc++[p]) (ps.drop (k+1)):=by
 have e:ps.getD k []=ps[k]:=by simp[a]
 rw[List.drop_eq_getElem_cons a,ZbS,<-e,<-c,d]
theorem Zqq(a:k<ps.length)(c:l=ps.getD k [])(d:Zd5 last l=none) :
  ZbS last acc (ps.drop k)=none:=by
 have e:ps.getD k []=ps[k]:=by simp[a]
 rw[List.drop_eq_getElem_cons a,ZbS,<-e,<-c,d]
theorem ZxI(a:¬k<ps.length):ZbS last acc (ps.drop k)=some acc:=by
 rw[Yb8 Om];rfl
theorem ZxE{n v:LB}(h:cut 61 l=some (n,v)):Zd5 last l=if Zx n && Z3 v && !v.isEmpty && !leS n last then some (n,v)else none:=by
 unfold Zd5;rw[h]
theorem ZxF(h:cut 61 l=none):Zd5 last l=none:=by unfold Zd5;rw[h]
theorem Zqz(a b:BA):(Op.bytesLess a.toList b.toList || a.toList == b.toList)=leS (bl a) (bl b):=by rw[Zbt,Zbt];rfl
theorem Zku(a:s.size<=6000)(h:Zx (bl s)=b) :
  Cq 62 #[.string s] w fun e u=>e=.returned (.bool b)/\u=w:=by
 have:=Znv s w a;rwa [h]at this
theorem Zs1(a:s.size<=6000)(h:Z3 (bl s)=b) :
  Cq 63 #[.string s] w fun e u=>e=.returned (.bool b)/\u=w:=by
 have:=Znw s w a;rwa [h]at this
theorem ZBg(s:BA)(m:Int)(w:World)(hs:s.size<=6000)(V:w.cell? ⟨14,0,none⟩=some (Vi m))(a8:s.toList.isEmpty=false) :
  Cq 139 #[.string s] w fun e M => ∃ (a : Option Addr) (n cap : Nat) (ok : Bool), e = .returned (.tuple #[.slice a n cap, .bool ok]) /\
    Hid (ok=(ZbS [] [] (split 44 (bl s))).isSome/\(ok=true->∃qs,ZcB M 0 (.slice a n cap) n qs/\ZbS [] [] (split 44 (bl s))=some (qs.map blP)))/\BW w M:=by
 obtain⟨i0,hi,a0,a1,a2⟩:=info_parts Tryz.infoLabel;have T:=Yai _ _ V;go_enter func139,ntmps139
 go_wp2_with fail
 refine(Znd 44 s m hs V).mono ?_;rintro e W ⟨n,rfl,X,N,H⟩;have HP:Hid (n=(split 44 (bl s)).length):=X;have a9:n<=6001:=by rw[X];have:=Zhd 44 (bl s);rw[Zd]at this;omega
 clear X;have a3:w.heap.size+1<=W.heap.size:=N.1;go_wp2
 go_loopw [4, 5, 16] (fun v last i wr => ∃ (k : Nat) (ls : BA) (qs : List (BA × BA)), k <= n /\ i = Vi k /\ last = .string ls /\ wr.ownsRow (w.heap.size + 1) 320 2 v k (Zb2 qs) /\ Hid (ZbS [] [] (split 44 (bl s)) = ZbS (bl ls) (qs.map blP) ((split 44 (bl s)).drop k)) /\ Below (w.heap.size + 1) W wr /\ Hid (∀ p ∈ qs, p.1.size <= 6000 /\ p.2.size <= 6000))
   (fun _ _ i _=>n - (intOf i).toNat)
 case atStart=>exact⟨0,⟨#[]⟩,[],Yag _,rfl,rfl,Ybc _ _ _ _,rfl,Yaf _ _,fun p Y=>(by cases Y)⟩
 case round=>
  obtain⟨k,ls,qs,hk,rfl,rfl,f,Q,g,HZ⟩:=hrel;have b0:w.heap.size+1<=wr.heap.size:=Yah a3 g.size;by_cases U:k<n
  ·have r:k<(split 44 (bl s)).length:=by rw[<-HP.out];exact U
   obtain⟨sk,b5,O⟩:=(N.below g (Ybd _)).2 k r;have B:sk.size<=6000:=by rw[ZU O];have:=Zkd 44 (bl s) k r;rw[Zd]at this;omega
   have Z:Hid (bl sk=(split 44 (bl s)).getD k []):=O;clear O
   have P:wr.cell? ⟨14,0,none⟩=some (Vi m):=by
    rw[g.cell (p:=⟨_,0,none⟩) (by simpa using Nat.lt_succ_of_lt T),H.cell (p:=⟨_,0,none⟩) T];exact V
   cases C:cut 61 (bl sk)with
   | none=>
    have t:Hid (ZbS [] [] (split 44 (bl s))=none):=hid (by rw[Q.out];exact Zqq r Z.out (ZxF C));have R:Hid (cut 61 (bl sk)=none):=C;clear C
    go_wp2_with fail
    refine(ZgH m _ B P R.out).mono ?_;rintro e z ⟨a,b,rfl,c,j,rfl⟩;go_wp2;go_ret2;exact⟨none,0,0,false,rfl,⟨by rw[t.out];rfl,fun h=>(by cases h)⟩,H.trans (ZhQ (g.mono Om) _)⟩
   | some p=>
    obtain⟨x,y⟩:=p;have b6:x.length<=sk.size/\y.length<=sk.size:=by rw[<-Zd,(Zdx C).1];simp;omega
    have l:=ZxE (last:=bl ls) C;have R:Hid (cut 61 (bl sk)=some (x,y)):=C;clear C;obtain⟨b1,D⟩:∃b,Zx x=b:=⟨_,rfl⟩
    obtain⟨b2,E⟩:∃b,y.isEmpty=b:=⟨_,rfl⟩
    obtain⟨b3,F⟩:∃b,Z3 y=b:=⟨_,rfl⟩
    obtain⟨b4,G⟩:∃b,leS x (bl ls)=b:=⟨_,rfl⟩
    rw[D,E,F,G]at l;have A:Hid (Zx x=b1/\y.isEmpty=b2/\Z3 y=b3/\leS x (bl ls)=b4):=⟨D,E,F,G⟩
    clear D E F G
    have d:(b1=true/\b2=false/\b3=true/\b4=false)∨(b1=false∨(b1=true/\b2=true)∨(b1=true/\b2=false/\b3=false)∨(b1=true/\b2=false/\b3=true/\b4=true)):=by
     cases b1 <;> cases b2 <;> cases b3 <;> cases b4 <;> simp
    rcases d with ⟨rfl,rfl,rfl,rfl⟩|d
    ·have t:Hid (ZbS [] [] (split 44 (bl s))=ZbS x (qs.map blP++[(x,y)]) ((split 44 (bl s)).drop (k+1))):=hid (by
      rw[Q.out];exact ZxH r Z.out (by simpa using l))
     clear l
     go_wp2_with fail
     refine(Zep m _ B P R.out).mono ?_;rintro e z ⟨a,b,rfl,c,j,rfl⟩;have I:a.size<=6000:=by rw[ZU c.1];omega
     have J:b.size<=6000:=by rw[ZU c.2];omega
     have f1:Hid (Zx (bl a)=true):=by rw[c.1];exact A.1
     have f2:b.toList.isEmpty=false:=by rw[Zbt,c.2];exact A.2.1
     have f3:Hid (Z3 (bl b)=true):=by rw[c.2];exact A.2.2.1
     have f4:(Op.bytesLess a.toList ls.toList || a.toList == ls.toList)=false:=by rw[Zqz,c.1];exact A.2.2.2
     have a4:Hid (ZbS [] [] (split 44 (bl s))=ZbS (bl a) ((qs++[(a,b)]).map blP) ((split 44 (bl s)).drop (k+1))):=by rw[Yaq,Yco,blP,c.1,c.2];exact t
     have a5:Hid (∀p∈qs++[(a,b)],p.1.size<=6000/\p.2.size<=6000):=hid (by
      intro p Y;rcases Yar.1 Y with h|h
      ·exact HZ.out p h
      ·rw[Yap.1 h];exact⟨I,J⟩)
     have o:=ZzW f j
     go_wp2_with (first|(go_at_call 62;refine(Zku I f1.out).mono ?_;rintro e M ⟨rfl,rfl⟩)|(go_at_call 63;refine(Zs1 J f3.out).mono ?_;rintro e M ⟨rfl,rfl⟩)|(at_builtin;refine wpList_append_own _ rfl (.tmp 47) (.tmp 51) 194 rfl (w.heap.size+1) 320 i0 (.agg #[.string ByteArray.empty,.string ByteArray.empty]) 2 32 underlying194 hi a0 a1 a2 rfl Dc _ _ _ rfl (o.alloc _) ⟨wr.heap.size,0,none⟩ 1 1 [.string a,.string b] rfl rfl ?c1 ?c2 ?c3 ?c4 ?c5 ?_))
     case c1=>exact Zn9 ((Ydm _ _ _ _ rfl).trans rfl) ((Ydm _ _ _ _ rfl).trans rfl)
     case c2=>intro u hu;simp at hu;rcases hu with rfl|rfl <;> rfl
     case c3=>unfold maxLen;omega
     case c4=>omega
     case c5=>simp;omega
     intro v' w3 K L _;have a6:Below (w.heap.size+1) W w3:=((ZhQ g j).alloc (by simp;omega) _).grown L (by simp;omega) (fun q hq=>(o.lt q hq).1);have S:w3.ownsRow (w.heap.size+1) 320 2 v' (k+1) (Zb2 (qs++[(a,b)])):=by rw[Zpm];exact K
     clear o f L K;go_wp2
     go_roundw
     case rel=>exact⟨k+1,a,_,by omega,by go_num,rfl,S,a4,a6,a5⟩
     case measure=>simp[intOf];omega
    ·have t:Hid (ZbS [] [] (split 44 (bl s))=none):=hid (by
      rw[Q.out];refine Zqq r Z.out ?_;rw[l];rcases d with rfl|⟨rfl,rfl⟩|⟨rfl,rfl,rfl⟩|⟨rfl,rfl,rfl,rfl⟩ <;> simp)
     clear l
     go_wp2_with fail
     refine(Zep m _ B P R.out).mono ?_;rintro e z ⟨a,b,rfl,c,j,rfl⟩;have I:a.size<=6000:=by rw[ZU c.1];omega
     have J:b.size<=6000:=by rw[ZU c.2];omega
     have f1:Hid (Zx (bl a)=b1):=by rw[c.1];exact A.1
     have f2:b.toList.isEmpty=b2:=by rw[Zbt,c.2];exact A.2.1
     have f3:Hid (Z3 (bl b)=b3):=by rw[c.2];exact A.2.2.1
     have f4:(Op.bytesLess a.toList ls.toList || a.toList == ls.toList)=b4:=by rw[Zqz,c.1];exact A.2.2.2
     rcases d with rfl|⟨rfl,rfl⟩|⟨rfl,rfl,rfl⟩|⟨rfl,rfl,rfl,rfl⟩
     all_goals
      go_wp2_with (first|(go_at_call 62;refine(Zku I f1.out).mono ?_;rintro e M ⟨rfl,rfl⟩)|(go_at_call 63;refine(Zs1 J f3.out).mono ?_;rintro e M ⟨rfl,rfl⟩))
      go_ret2;exact⟨none,0,0,false,rfl,⟨by rw[t.out];rfl,fun h=>(by cases h)⟩,H.trans (ZhQ (g.mono Om) _)⟩
  ·have t:Hid (ZbS [] [] (split 44 (bl s))=some (qs.map blP)):=hid (by
    rw[Q.out];exact ZxI (by rw[<-HP.out];exact U))
   obtain⟨av,cp,hv⟩:=Zl f;rw[hv];rw[hv]at f;have a7:k<=6001:=by omega
   go_wp2;go_ret2;exact⟨_,_,_,true,rfl,⟨by rw[t.out];rfl,fun _=>⟨qs,⟨ZmF f,a7,HZ.out⟩,t.out⟩⟩,H.trans (g.mono Om)⟩
