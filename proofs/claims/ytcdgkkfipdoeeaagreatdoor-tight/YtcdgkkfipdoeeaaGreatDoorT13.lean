/- Parts. -/
import Derived.Test.YtcdgkkfipdoeeaaGreatDoorTX
import Derived.Deep.Onto
import Derived.Test.YtcdgkkfipdoeeaaGreatDoorT06
set_option linter.all false
set_option maxRecDepth 100000
set_option maxHeartbeats 16000000
namespace Go.Proofs.YtcdgkkfipdoeeaaGreatDoor
open Go.RowKit LS Go.Proofs.Tryz
variable {dp lg sy tp:Addr}{s:BA}{b:Bool}{r:Except (Nat×Nat) Tr}{mi:Int}{l last x:LB}{ps:List (LB)}{acc:List (LB×LB)}{xs:List Value}{B base j k most n size:Nat}{c:UInt8}{pv v:Value}{W w w':World}
theorem ZoD{y:LB}(m:Int)(w:World)(g:s.size<=70000)(d:w.cell? ⟨14,0,none⟩=some (Vi m))(h:cut c (bl s)=some (x,y)) :
  Cz 150 #[.string s,.string ⟨#[c]⟩] w fun e u=>∃a b:BA,e=.returned (.tuple #[.string a,.string b,.bool true])/\Hid (bl a=x/\bl b=y)/\∃n,u=w.drewN n:=by
 refine(strings_Cut s _ m w Om d).mono ?_;rintro e u ⟨rfl,f⟩;have e1:Lib.cut s.data.toList (⟨#[c]⟩:BA).data.toList=(x,y,true):=Zyn h;rw[e1];exact⟨_,_,rfl,⟨ZbF x,ZbF y⟩,f⟩
theorem Zep{y:LB}(m:Int)(w:World)(f:s.size<=6000)(d:w.cell? ⟨14,0,none⟩=some (Vi m))(h:cut c (bl s)=some (x,y)) :
  Cz 150 #[.string s,.string ⟨#[c]⟩] w fun e u=>∃a b:BA,e=.returned (.tuple #[.string a,.string b,.bool true])/\Hid (bl a=x/\bl b=y)/\∃n,u=w.drewN n:=ZoD m w Om d h
theorem ZoF(m:Int)(w:World)(g:s.size<=70000)(d:w.cell? ⟨14,0,none⟩=some (Vi m))(h:cut c (bl s)=none) :
  Cz 150 #[.string s,.string ⟨#[c]⟩] w fun e u=>∃a b:BA,e=.returned (.tuple #[.string a,.string b,.bool false])/\Hid (bl a=bl s/\bl b=[])/\∃n,u=w.drewN n:=by
 refine(strings_Cut s _ m w Om d).mono ?_;rintro e u ⟨rfl,f⟩;have e1:Lib.cut s.data.toList (⟨#[c]⟩:BA).data.toList=(bl s,[],false):=Zym h;rw[e1];exact⟨_,_,rfl,⟨ZbF _,ZbF _⟩,f⟩
theorem ZgH(m:Int)(w:World)(f:s.size<=6000)(d:w.cell? ⟨14,0,none⟩=some (Vi m))(h:cut c (bl s)=none) :
  Cz 150 #[.string s,.string ⟨#[c]⟩] w fun e u=>∃a b:BA,e=.returned (.tuple #[.string a,.string b,.bool false])/\Hid (bl a=bl s/\bl b=[])/\∃n,u=w.drewN n:=ZoF m w Om d h
theorem Zvo(c:UInt8)(s:BA)(w:World) :
  Cz 226 #[.string s,.string ⟨#[c]⟩] w fun e u=>∃a:BA,e=.returned (.tuple #[.string a,.bool (ZbI c (bl s)).2])/\Hid (bl a=(ZbI c (bl s)).1)/\u=w:=by
 refine(strings_CutPrefix s _ w).mono ?_;rintro e u ⟨rfl,d⟩;have e1:=Zyo c (bl s);rw[<-e1];exact⟨_,rfl,ZbF _,d⟩
def ZfN(w:World)(g:Nat)(ps:List (LB)):Prop:=g<w.heap.size/\∀i,i<ps.length->∃s:BA,w.cell? ⟨g,i,none⟩=some (.string s)/\bl s=ps.getD i []
theorem ZfN.below{g:Nat}(h:ZfN w g ps)(a:Below B w w')(c:g<B):ZfN w' g ps:=
 ⟨Yaw h.1 a.size, fun i d => by
   obtain⟨s,e,f⟩:=h.2 i d;exact⟨s,(a.cell c).trans e,f⟩⟩
theorem ZCC(c:UInt8)(s:BA)(m:Int)(w:World)(j:s.size<=70000)(g:w.cell? ⟨14,0,none⟩=some (Vi m)) :
  Cz 86 #[.string s,.string ⟨#[c]⟩] w fun e u=>
   ∃n,e=.returned (.slice (some ⟨w.heap.size,0,none⟩) n n)/\n=(split c (bl s)).length/\ZfN u w.heap.size (split c (bl s))/\BW w u:=by
 refine(strings_Split s ⟨#[c]⟩ m w Om g (Yac 1)).mono ?_;rintro e u ⟨rfl,rfl⟩
 have hd:(Lib.splitB ⟨#[c]⟩ 0 (Lib.countB s ⟨#[c]⟩) s).map bl=split c (bl s):=by
  refine(Lib.splitB_data _ 0 _ s).trans ?_;exact Zsq c _ _ (Yac _)
 have d:=Lib.splitB_all ⟨#[c]⟩ (Yac 1) 0 _ s rfl;have a:(split c (bl s)).length=Lib.countB s ⟨#[c]⟩+1:=by rw[<-hd,Yak,d]
 refine⟨_,rfl,a.symm,⟨by simp,fun i h=>?_⟩,Zbal⟩;have f:i<(Lib.splitB _ 0 _ s).length:=d▸a▸h;refine⟨(Lib.splitB _ 0 _ s)[i],?_,?_⟩
 ·simp
 ·rw[<-hd];simp[f]
theorem Znd(s:BA)(m:Int)(d:s.size<=6000)(a:w.cell? ⟨14,0,none⟩=some (Vi m)) :
  Cz 86 #[.string s,.string ⟨#[c]⟩] w fun e u=>
   ∃n,e=.returned (.slice (some ⟨w.heap.size,0,none⟩) n n)/\n=(split c (bl s)).length/\ZfN u w.heap.size (split c (bl s))/\BW w u:=ZCC c s m w Om a
theorem ZDS{d:LB}(h:ZQ 1000000000 (ZbI 45 d).1=none):Zds d=false:=by unfold Zds;rw[h]
theorem ZDT{d:LB}{v:Nat}(h:ZQ 1000000000 (ZbI 45 d).1=some v):Zds d=!((ZbI 45 d).2 && v == 0):=by unfold Zds;rw[h]
theorem Zs3{r:LB}(s:BA)(a:mi=most)(d:s.size<=6000)(c:9<=most)(f:most<=1000000000)(g:bl s=r)(h:ZQ most r=none) :
  Cz 46 #[.string s,Vi mi] w fun e u=>e=.returned (.tuple #[Vi 0,.bool false])/\u=w:=by
 subst a;subst g;have:=Zkv s _ w d c f
 rwa [Zgg h]at this
theorem Zs4{r:LB}{v:Nat}(s:BA)(a:mi=most)(d:s.size<=6000)(c:9<=most)(f:most<=1000000000)(g:bl s=r)(h:ZQ most r=some v) :
  Cz 46 #[.string s,Vi mi] w fun e u=>e=.returned (.tuple #[Vi v,.bool true])/\u=w:=by
 subst a;subst g;have:=Zkv s _ w d c f
 rwa [ZjO h]at this
theorem Zi5{r:LB}{f:Bool}(h:ZbI c (bl s)=(r,f)) :
  Cz 226 #[.string s,.string ⟨#[c]⟩] w fun e u=>∃a:BA,e=.returned (.tuple #[.string a,.bool f])/\Hid (bl a=r)/\u=w:=by
 have:=Zvo c s w
 rwa [h]at this
theorem ZDL{d d':LB}{less:Bool}{v:Int}(a:ZbI 45 d=(d',less))(c:numI 1000000000 d'=v):valI d=if less then -v else v:=by
 unfold valI;rw[a];simp only[c]
theorem ZBp(s:BA)(z:s.size<=6000) :
  Cz 253 #[.string s] w fun e u=>∃v:Int,e=.returned (.tuple #[Vi v,.bool (Zds (bl s))])/\u=w/\Hid (Zds (bl s)=true->v=valI (bl s)):=by
 have x:(ZbI 45 (bl s)).1.length<=s.size:=by rw[<-Zd];exact Znm _ _
 have g:=@ZDS (bl s);have i:=@ZDT (bl s);generalize p:ZbI 45 (bl s)=st at *
 obtain⟨r,f⟩:=st;have j:=hid p;clear p;simp only at x g i;cases d:ZQ 1000000000 r with
 | none=>
  have k:=hid (g d);have n:=hid d;clear d g i;cases f <;>
  ·go_enter func253,ntmps253
   go_wp2_with fail
   refine(Zi5 j).mono ?_;rintro e u ⟨a,rfl,l,rfl⟩;have m:a.size<=6000:=by rw[ZU l];omega
   go_wp2_with fail
   refine(Zs3 a rfl m Om Om l n).mono ?_;rintro e u ⟨rfl,rfl⟩;go_wp2;go_ret2;exact⟨_,by rw[k];rfl,rfl,hid (fun h=>by rw[k]at h;cases h)⟩
 | some v=>
  have A:=Zgh d;have n:=hid d;have c:=i d;clear d g i
  have o:(f=false/\Zds (bl s)=true)∨(f=true/\((v:Int) != 0)=true/\Zds (bl s)=true)∨(f=true/\((v:Int) != 0)=false/\Zds (bl s)=false):=by
   cases f
   ·exact .inl ⟨rfl,by simpa using c⟩
   ·by_cases q:v=0
    ·subst q;exact .inr (.inr ⟨rfl,rfl,by simpa using c⟩)
    ·exact .inr (.inl ⟨rfl,by simp;omega,by rw[c];simp[q]⟩)
  clear c;rcases o with ⟨rfl,c⟩|⟨rfl,y,c⟩|⟨rfl,y,c⟩
  all_goals
   have k:=hid c;have t:=hid (ZDL j (ZgX n)).symm;clear c;go_enter func253,ntmps253
   go_wp2_with fail
   refine(Zi5 j).mono ?_;rintro e u ⟨a,rfl,l,rfl⟩;have m:a.size<=6000:=by rw[ZU l];omega
   go_wp2_with fail
   refine(Zs4 a rfl m Om Om l n).mono ?_;rintro e u ⟨rfl,rfl⟩;go_wp2;go_ret2;exact⟨_,by rw[k];rfl,rfl,hid (fun h=>by first|(rw[k.out]at h;cases h;done)|exact t.out)⟩
def ZiN(l:LB)(tm v:Int)(ok:Bool):Prop:=(ok=true/\∃t:Nat,Zdn l=some t/\tm=t/\t<=1000000/\smV l=(tm,v))∨(ok=false/\Zdn l=none)
theorem ZBl(m:Int)(l:s.size<=6000)(r:w.cell? ⟨14,0,none⟩=some (Vi m)) :
  Cz 227 #[.string s] w fun e u=>∃(tm v:Int) (ok:Bool),e=.returned (.tuple #[.agg #[Vi tm,Vi v],.bool ok])/\Hid (ZiN (bl s) tm v ok)/\BW w u:=by
 have g:∀o,(w.alloc o).cell? _=some _:=fun o=>Ybm _ _ _ (Yai _ _ r)▸r;cases d:cut 58 (bl s)with
 | none=>
  have h:Hid (ZiN _ 0 0 _):=.inr ⟨rfl,by unfold Zdn;rw[d]⟩;have j:=hid d;clear d;go_enter func227,ntmps227
  go_wp2_with fail
  refine(ZgH m _ l (g _) j).mono ?_;rintro e u ⟨a,b,rfl,c,n,rfl⟩;go_wp2;exact bodyPost_ret (by simp[results,results227,go_sem]) rfl ⟨0,0,false,rfl,h,belB⟩
 | some xy=>
  obtain⟨x,y⟩:=xy
  have C:x.length<=s.size/\y.length<=s.size:=by
   rw[<-Zd,(Zdx d).1];simp;omega
  have j:=hid d;cases f:ZQ 1000000 x with
  | none=>
   have h:Hid (ZiN _ 0 0 _):=.inr ⟨rfl,by unfold Zdn;rw[d];simp only[f]⟩;have p:=hid f;clear d f;go_enter func227,ntmps227
   go_wp2_with fail
   refine(Zep m _ l (g _) j).mono ?_;rintro e u ⟨a,b,rfl,c,n,rfl⟩;have i:a.size<=6000:=by rw[ZU c.1];omega
   go_wp2_with fail
   refine(Zs3 a rfl i Om Om c.1 p).mono ?_;rintro e u ⟨rfl,rfl⟩;go_wp2;exact bodyPost_ret (by simp[results,results227,go_sem]) rfl ⟨0,0,false,rfl,h,belB⟩
  | some t=>
   have B:=Zgh f
   have h:Hid (∀v:Int,(Zds y=true->v=valI y)->ZiN (bl s) t v (Zds y)):=by
    intro v z;cases q:Zds y
    ·exact .inr ⟨rfl,by unfold Zdn;rw[d];simp[f,q]⟩
    ·exact .inl ⟨rfl,t,by unfold Zdn;rw[d];simp[f,q],rfl,B,by unfold smV;rw[d];simp only[ZgX f,z q]⟩
   have p:=hid f;clear d f;go_enter func227,ntmps227
   go_wp2_with fail
   refine(Zep m _ l (g _) j).mono ?_;rintro e u ⟨a,b,rfl,c,n,rfl⟩;have i:a.size<=6000:=by rw[ZU c.1];omega
   have A:b.size<=6000:=by rw[ZU c.2];omega
   go_wp2_with fail
   refine(Zs4 a rfl i Om Om c.1 p).mono ?_;rintro e u ⟨rfl,rfl⟩
   go_wp2_with fail
   refine(ZBp b A).mono ?_;rintro e u ⟨v,rfl,rfl,k⟩;rw[c.2];rw[c.2]at k;go_wp2;exact bodyPost_ret (by simp[results,results227,go_sem]) rfl ⟨t,v,Zds y,rfl,hid (h v k),belB⟩
theorem Tryz.infoSample:(Tryz.prog.info? 358).map (fun i=>(i.zero,i.size,i.bytes))=some (some (.agg #[Vi 0,Vi 0]),2,16):=by kernel_rfl
theorem ZBG{last:Int}(a:k<ps.length)(c:l=ps.getD k []){t:Nat}(d:Zdn l=some t)(f:¬(t:Int)<=last) :
  Zcq last n (ps.drop k)=Zcq t (n+1) (ps.drop (k+1)):=by
 have e:ps.getD k []=ps[k]:=by simp[a]
 rw[List.drop_eq_getElem_cons a,Zcq,<-e,<-c,d];simp[f]
theorem ZrZ{last:Int}(a:k<ps.length)(c:l=ps.getD k [])(d:Zdn l=none∨∃t:Nat,Zdn l=some t/\(t:Int)<=last) :
  Zcq last n (ps.drop k)=none:=by
 have e:ps.getD k []=ps[k]:=by simp[a]
 rw[List.drop_eq_getElem_cons a,Zcq,<-e,<-c];rcases d with h|⟨t,h,f⟩
 ·rw[h]
 ·rw[h];simp[f]
theorem ZBH{last:Int}(a:¬k<ps.length):Zcq last n (ps.drop k)=some n:=by
 rw[Yb8 Om];rfl
theorem ZBJ(s r:BA)(m:Int)(w:World)(hs:s.size<=6000)(S:w.cell? ⟨14,0,none⟩=some (Vi m))(K:Hid (ZbI 32 (bl s)=(bl r,true)))(a6:s.toList.isEmpty=false) :
  Cz 193 #[.string s] w fun e l => ∃ (sv : Value) (ok : Bool), e = .returned (.tuple #[sv, .bool ok]) /\
    Hid ((ok=true/\∃a n cap,sv=.slice a n cap/\Zcq (-1) 0 (split 32 (bl r))=some n/\l.ownsRow w.heap.size 358 2 sv n (Zca ((split 32 (bl r)).map smV)))∨(ok=false/\Zcq (-1) 0 (split 32 (bl r))=none))/\BW w l:=by
 have hr:r.size<=6000:=by
  have:=Znm 32 (bl s);rw[K,Zd,Zd]at this;omega
 obtain⟨i0,hi,W,X,Y⟩:=info_parts Tryz.infoSample;have M:=Yai _ _ S;go_enter func193,ntmps193
 go_wp2_with fail
 refine(Zi5 K).mono ?_;rintro e l ⟨a,rfl,Z,rfl⟩;obtain rfl:=ZcW Z;clear Z
 go_wp2_with fail
 refine(Znd a m hr S).mono ?_;rintro e y ⟨n,rfl,T,D,x⟩;have U:=hid T;have a7:n<=6001:=by rw[T];have:=Zhd 32 (bl a);rw[Zd]at this;omega
 clear T;have a0:l.heap.size+1<=y.heap.size:=D.1;go_wp2
 go_loopw [6, 7, 24] (fun v last i wr => ∃ (k : Nat) (L : Int), k <= n /\ i = Vi k /\ last = Vi L /\ -1 <= L /\ L <= 1000000 /\ wr.ownsRow (l.heap.size + 1) 358 2 v k (Zca (((split 32 (bl a)).map smV).take k)) /\ Hid (Zcq (-1) 0 (split 32 (bl a)) = Zcq L k ((split 32 (bl a)).drop k)) /\ Below (l.heap.size + 1) y wr)
   (fun _ _ i _=>n - (intOf i).toNat)
 case atStart=>exact⟨0,-1,Yag _,rfl,rfl,by omega,by omega,Ybc _ _ _ _,rfl,Yaf _ _⟩
 case round=>
  obtain⟨k,L,hk,rfl,rfl,a8,a9,c,I,o⟩:=hrel;have a1:=Yah a0 o.size;by_cases N:k<n
  ·have d:k<(split _ _).length:=U.out▸N;obtain⟨sk,b0,E⟩:=(D.below o (Ybd _)).2 k d;have V:sk.size<=6000:=by rw[ZU E];have:=Zkd _ _ k d;rw[Zd]at this;omega
   have J:=hid E;clear E;have a2:wr.cell? _=some _:=o.cell (p:=⟨_,0,none⟩) (by simpa using Nat.lt_succ_of_lt M)▸x.cell (p:=⟨_,0,none⟩) M▸S
   go_wp2_with fail
   refine(ZBl m V a2).mono ?_;rintro e z ⟨tm,v2,ok,rfl,q,F⟩;have b1:=F.size;have A:=o.trans (F.mono a1);have f:=Zn c F;cases ok
   ·have C:Hid (Zcq (-1) 0 (split 32 (bl a))=none):=by
     rw[I];refine ZrZ d J (.inl ?_);rcases q.out with ⟨h,_⟩|⟨_,h⟩
     ·cases h
     ·exact h
    go_wp2;go_ret2;exact⟨_,false,rfl,.inr ⟨rfl,C⟩,(x.trans (A.mono Om)).alloc Om _⟩
   ·obtain⟨t,O,P,b2,Q⟩:∃t:Nat,Zdn _=some t/\tm=t/\t<=1000000/\smV _=(tm,v2):=by
     rcases q.out with ⟨_,h⟩|⟨h,_⟩
     ·exact h
     ·cases h
    have HT:=hid O;have a3:=hid (Zwi d J Q);clear O q Q;have b3:tm<=1000000:=by omega
    have b4:0<=tm:=by omega
    have G:=hid P;clear P;by_cases R:tm<=L
    ·have C:Hid _:=I.out▸ZrZ d J.out (Or.inr ⟨t,HT.out,by rw[<-G.out];exact R⟩);go_wp2;go_ret2;exact⟨_,false,rfl,.inr ⟨rfl,C⟩,(x.trans (A.mono Om)).alloc Om _⟩
    ·have C:Hid _:=I.out▸ZBG d J.out HT.out (by rw[<-G.out];exact R)
     go_wp2_with (at_builtin;refine wpList_append_own _ rfl (.tmp 41) (.tmp 43) 269 rfl (l.heap.size+1) 358 i0 (.agg #[Vi 0,Vi 0]) 2 16 underlying269 hi W X Y rfl Dc _ _ _ rfl ((f.alloc _).alloc _) ⟨z.heap.size+1,0,none⟩ 1 1 [Vi tm,Vi v2] rfl rfl ?c1 ?c2 ?c3 ?c4 ?c5 ?_)
     case c1=>exact Zn9 (by simp) (by simp)
     case c2=>intro u hu;simp at hu;rcases hu with rfl|rfl <;> rfl
     case c3=>unfold maxLen;omega
     case c4=>omega
     case c5=>simp;omega
     intro v' w3 B g _;rw[<-a3]at B;have H:=f.lt;have a4:=(((A.alloc Om _).alloc (by simp;omega) _)).grown g (by simp;omega) (fun j hj=>(H j hj).1)
     have b5:w3.cell? ⟨z.heap.size,0,none⟩=some (Vi tm):=by
      refine g.cell (by simp) ?_;intro he;have:=(H _ he.symm).2;simp at this
     clear f c g A;go_wp2
     go_roundw
     case rel=>exact⟨k+1,tm,by omega,by go_num,rfl,by omega,by omega,B,by rwa [G.out],a4⟩
     case measure=>simp[intOf];omega
  ·have C:Hid _:=I.out▸ZBH (by rw[<-U.out];exact N);obtain⟨av,cp,hv⟩:=Zl c;rw[hv]at c;rw[hv]
   have a5:Hid (wr.ownsRow l.heap.size 358 2 (.slice av k cp) k (Zca ((split 32 (bl a)).map smV))):=by
    rw[Ya5 (by rw[Yak];have:=U.out;omega)]at c;exact c.mono Om
   clear c;go_wp2;go_ret2;exact⟨_,true,rfl,.inl ⟨rfl,av,k,cp,rfl,C,a5⟩,x.trans (o.mono Om)⟩
theorem ZrN(s:BA)(m:Int)(w:World)(o:s.size<=6000)(p:w.cell? ⟨14,0,none⟩=some (Vi m)) :
  Cz 193 #[.string s] w fun e u => ∃ (sv : Value) (ok : Bool), e = .returned (.tuple #[sv, .bool ok]) /\
    Hid ((ok=true/\∃a n cap,sv=.slice a n cap/\Zcz (bl s)=some n/\u.ownsRow w.heap.size 358 2 sv n (Zca (Zez (bl s))))∨(ok=false/\Zcz (bl s)=none))/\BW w u:=by
 cases h:s.toList.isEmpty
 ·have g:=Zij h;cases d:ZbI 32 (bl s)with
  | mk r f=>
   cases f
   ·have i:Hid (Zcz _=none):=hid (by unfold Zcz;rw[d];simp[g]);have j:=hid d;clear d g;go_enter func193,ntmps193
    go_wp2_with fail
    refine(Zi5 j).mono ?_;rintro e u ⟨a,rfl,y,rfl⟩;go_wp2;go_ret2;exact⟨_,false,rfl,.inr ⟨rfl,i⟩,Yaf _ _⟩
   ·have q:Zcz (bl s)=Zcq (-1) 0 (split 32 r):=by unfold Zcz;rw[d];simp[g]
    have v:Zez (bl s)=(split 32 r).map smV:=by
     cases k:bl s with
     | nil=>exact absurd k g
     | cons c t=>
      rw[k]at d;by_cases l:c=32
      ·subst l;simp[ZbI]at d;rw[<-d];rfl
      ·simp[ZbI,l]at d
    rw[q,v];have:=ZBJ s ⟨r.toArray⟩ m w o p (by rwa [ZbF]) h
    rwa [ZbF]at this
 ·have i:Hid (Zcz (bl s)=some 0):=by rw[ZgW h];rfl
  go_enter func193,ntmps193;go_wp2;go_ret2;have x:Hid (Zez (bl s)=[]):=by rw[ZgW h];rfl
  exact⟨_,true,rfl,.inl ⟨rfl,none,0,0,rfl,i,x.out▸Ybc _ _ _ _⟩,Yaf _ _⟩
def Zb2:List (BA×BA)->List Value
 | []=>[]
 | p::l=>.string p.1::.string p.2::Zb2 l
def blP(p:BA×BA):LB×LB:=(bl p.1,bl p.2)
theorem Zpm(l m:List (BA×BA)):Zb2 (l++m)=Zb2 l++Zb2 m:=by
 induction l with
 | nil=>rfl
 | cons a l ih=>simp[Zb2,ih]
theorem Zi9(l:List (BA×BA)):(Zb2 l).length=l.length*2:=by
 induction l with
 | nil=>rfl
 | cons a l ih=>simp[Zb2,ih];omega
theorem Zi8 (l : List (BA × BA)) (j : Nat) : (Zb2 l)[j * 2]? = l[j]?.map (fun p => .string p.1) /\ (Zb2 l)[j * 2 + 1]? = l[j]?.map (fun p => .string p.2) := by
  induction l generalizing j with
  | nil=>simp[Zb2]
  | cons r l ih=>
    cases j with
    | zero=>simp[Zb2]
    | succ j=>
      obtain⟨a,c⟩:=ih j;refine⟨?_,?_⟩
      · rw[show(j+1)*2=j*2+1+1 by omega];simpa [Zb2] using a
      · rw[show(j+1)*2+1=j*2+1+1+1 by omega];simpa [Zb2] using c
theorem ZmF{e:TypeId}(h:w.ownsRow base e size v n xs):w.ownsRow 0 e size v n xs:=by
 refine⟨h.1,?_⟩;rcases h.2 with a|⟨g,cap,cur,rfl,_,r⟩
 ·exact .inl a
 ·exact .inr ⟨g,cap,cur,rfl,Yag _,r⟩
def ZcB(w:World)(base:Nat)(v:Value)(n:Nat)(qs:List (BA×BA)):Prop:=w.ownsRow base 378 2 v n (Zb2 qs)/\n<=6001/\∀p∈qs,p.1.size<=6000/\p.2.size<=6000
theorem Tryz.infoLabel:(Tryz.prog.info? 378).map (fun i=>(i.zero,i.size,i.bytes))=some (some (.agg #[.string ByteArray.empty,.string ByteArray.empty]),2,32):=by kernel_rfl
theorem ZxH(a:k<ps.length)(c:l=ps.getD k []){p:LB×LB}(d:Zd5 last l=some p) :
  ZbS last acc (ps.drop k)=ZbS p.1 (acc++[p]) (ps.drop (k+1)):=by
 have e:ps.getD k []=ps[k]:=by simp[a]
 rw[List.drop_eq_getElem_cons a,ZbS,<-e,<-c,d]
theorem Zqq(a:k<ps.length)(c:l=ps.getD k [])(d:Zd5 last l=none) :
  ZbS last acc (ps.drop k)=none:=by
 have e:ps.getD k []=ps[k]:=by simp[a]
 rw[List.drop_eq_getElem_cons a,ZbS,<-e,<-c,d]
theorem ZxI(a:¬k<ps.length):ZbS last acc (ps.drop k)=some acc:=by
 rw[Yb8 Om];rfl
theorem ZxE{n v:LB}(h:cut 61 l=some (n,v)):Zd5 last l=if Zx n && Z3 v && !v.isEmpty && !leS n last then some (n,v)else none:=by
 unfold Zd5;rw[h]
theorem ZxF(h:cut 61 l=none):Zd5 last l=none:=by unfold Zd5;rw[h]
theorem Zqz(a b:BA):(Op.bytesLess a.toList b.toList || a.toList == b.toList)=leS (bl a) (bl b):=by rw[Zbt,Zbt];rfl
theorem Zku(a:s.size<=6000)(h:Zx (bl s)=b) :
  Cz 48 #[.string s] w fun e u=>e=.returned (.bool b)/\u=w:=by
 have:=Znv s w a;rwa [h]at this
theorem Zs1(a:s.size<=6000)(h:Z3 (bl s)=b) :
  Cz 49 #[.string s] w fun e u=>e=.returned (.bool b)/\u=w:=by
 have:=Znw s w a;rwa [h]at this
theorem ZBg(s:BA)(m:Int)(w:World)(hs:s.size<=6000)(V:w.cell? ⟨14,0,none⟩=some (Vi m))(a7:s.toList.isEmpty=false) :
  Cz 192 #[.string s] w fun e L => ∃ (a : Option Addr) (n cap : Nat) (ok : Bool), e = .returned (.tuple #[.slice a n cap, .bool ok]) /\
    Hid (ok=(ZbS [] [] (split 44 (bl s))).isSome/\(ok=true->∃qs,ZcB L 0 (.slice a n cap) n qs/\ZbS [] [] (split 44 (bl s))=some (qs.map blP)))/\BW w L:=by
 obtain⟨i0,hi,Z,a0,a1⟩:=info_parts Tryz.infoLabel;have T:=Yai _ _ V;go_enter func192,ntmps192
 go_wp2_with fail
 refine(Znd s m hs V).mono ?_;rintro e w1 ⟨n,rfl,W,M,H⟩;have HP:=hid W;have a8:n<=6001:=by rw[W];have:=Zhd 44 (bl s);rw[Zd]at this;omega
 clear W;have a2:w.heap.size+1<=w1.heap.size:=M.1;go_wp2
 go_loopw [4, 5, 16] (fun v last i wr => ∃ (k : Nat) (ls : BA) (qs : List (BA × BA)), k <= n /\ i = Vi k /\ last = .string ls /\ wr.ownsRow (w.heap.size + 1) 378 2 v k (Zb2 qs) /\ Hid (ZbS [] [] (split 44 (bl s)) = ZbS (bl ls) (qs.map blP) ((split 44 (bl s)).drop k)) /\ Below (w.heap.size + 1) w1 wr /\ Hid (∀ p ∈ qs, p.1.size <= 6000 /\ p.2.size <= 6000))
   (fun _ _ i _=>n - (intOf i).toNat)
 case atStart=>exact⟨0,⟨#[]⟩,[],Yag _,rfl,rfl,Ybc _ _ _ _,rfl,Yaf _ _,fun p X=>(by cases X)⟩
 case round=>
  obtain⟨k,ls,qs,hk,rfl,rfl,f,P,g,HZ⟩:=hrel;have a9:=Yah a2 g.size;by_cases U:k<n
  ·have r:k<(split _ _).length:=HP.out▸U;obtain⟨sk,b0,N⟩:=(M.below g (Ybd _)).2 k r;have A:sk.size<=6000:=by rw[ZU N];have:=Zkd _ _ k r;rw[Zd]at this;omega
   have Y:=hid N;clear N;have O:wr.cell? _=some _:=g.cell (p:=⟨_,0,none⟩) (by simpa using Nat.lt_succ_of_lt T)▸H.cell (p:=⟨_,0,none⟩) T▸V;cases B:cut 61 (bl sk)with
   | none=>
    have C:Hid _:=P.out▸Zqq r Y.out (ZxF B);have Q:=hid B;clear B
    go_wp2_with fail
    refine(ZgH m _ A O Q).mono ?_;rintro e z ⟨a,b,rfl,c,j,rfl⟩;go_wp2;go_ret2;exact⟨none,0,0,false,rfl,⟨by rw[C];rfl,fun h=>(by cases h)⟩,H.trans (ZhQ (g.mono Om) _)⟩
   | some p=>
    obtain⟨x,y⟩:=p;have b5:x.length<=sk.size/\y.length<=sk.size:=by rw[<-Zd,(Zdx B).1];simp;omega
    have l:=ZxE (last:=bl ls) B;have Q:=hid B;clear B;obtain⟨b1,D⟩:∃b,Zx x=b:=⟨_,rfl⟩
    obtain⟨b2,E⟩:∃b,y.isEmpty=b:=⟨_,rfl⟩
    obtain⟨b3,F⟩:∃b,Z3 y=b:=⟨_,rfl⟩
    obtain⟨b4,G⟩:∃b,leS x (bl ls)=b:=⟨_,rfl⟩
    rw[D,E,F,G]at l;have t:Hid (Zx x=b1/\y.isEmpty=b2/\Z3 y=b3/\leS x _=b4):=⟨D,E,F,G⟩
    clear D E F G
    have d:(b1=true/\b2=false/\b3=true/\b4=false)∨(b1=false∨(b1=true/\b2=true)∨(b1=true/\b2=false/\b3=false)∨(b1=true/\b2=false/\b3=true/\b4=true)):=by
     cases b1 <;> cases b2 <;> cases b3 <;> cases b4 <;> simp
    rcases d with ⟨rfl,rfl,rfl,rfl⟩|d
    ·have C:Hid (ZbS [] [] (split 44 (bl s))=ZbS x (qs.map blP++[(x,y)]) ((split 44 (bl s)).drop (k+1))):=by
      rw[P];exact ZxH r Y (by simpa using l)
     clear l
     go_wp2_with fail
     refine(Zep m _ A O Q).mono ?_;rintro e z ⟨a,b,rfl,c,j,rfl⟩;have I:a.size<=6000:=by rw[ZU c.1];omega
     have J:b.size<=6000:=by rw[ZU c.2];omega
     have f1:Hid _:=c.1▸t.1;have f2:b.toList.isEmpty=false:=by rw[Zbt,c.2];exact t.2.1
     have f3:Hid _:=c.2▸t.2.2.1;have f4:(Op.bytesLess a.toList ls.toList || a.toList == ls.toList)=false:=by rw[Zqz,c.1];exact t.2.2.2
     have a3:Hid (ZbS [] [] (split 44 (bl s))=ZbS (bl a) ((qs++[(a,b)]).map blP) ((split 44 (bl s)).drop (k+1))):=by rwa [Yaq,Yco,blP,c.1,c.2]
     have a4:Hid (∀p∈qs++[(a,b)],p.1.size<=6000/\p.2.size<=6000):=by
      intro p X;rcases Yar.1 X with h|h
      ·exact HZ p h
      ·rw[Yap.1 h];exact⟨I,J⟩
     have o:=ZzW f j
     go_wp2_with (first|(go_at_call 48;refine(Zku I f1.out).mono ?_;rintro e L ⟨rfl,rfl⟩)|(go_at_call 49;refine(Zs1 J f3.out).mono ?_;rintro e L ⟨rfl,rfl⟩)|(at_builtin;refine wpList_append_own _ rfl (.tmp 47) (.tmp 51) 266 rfl (w.heap.size+1) 378 i0 (.agg #[.string ByteArray.empty,.string ByteArray.empty]) 2 32 underlying266 hi Z a0 a1 rfl Dc _ _ _ rfl (o.alloc _) ⟨wr.heap.size,0,none⟩ 1 1 [.string a,.string b] rfl rfl ?c1 ?c2 ?c3 ?c4 ?c5 ?_))
     case c1=>exact Zn9 ((Ydm _ _ _ _ rfl).trans rfl) ((Ydm _ _ _ _ rfl).trans rfl)
     case c2=>intro u hu;simp at hu;rcases hu with rfl|rfl <;> rfl
     case c3=>unfold maxLen;omega
     case c4=>omega
     case c5=>simp;omega
     intro v' w3 R K _;have a5:=((ZhQ g j).alloc (by simp;omega) _).grown K (by simp;omega) (fun q hq=>(o.lt q hq).1);have S:w3.ownsRow (w.heap.size+1) 378 2 v' (k+1) (Zb2 (qs++[(a,b)])):=by rwa [Zpm]
     clear o f K R;go_wp2
     go_roundw
     case rel=>exact⟨k+1,a,_,by omega,by go_num,rfl,S,a3,a5,a4⟩
     case measure=>simp[intOf];omega
    ·have C:Hid (ZbS [] [] (split 44 (bl s))=none):=by
      rw[P];refine Zqq r Y ?_;rw[l];rcases d with rfl|⟨rfl,rfl⟩|⟨rfl,rfl,rfl⟩|⟨rfl,rfl,rfl,rfl⟩ <;> simp
     clear l
     go_wp2_with fail
     refine(Zep m _ A O Q).mono ?_;rintro e z ⟨a,b,rfl,c,j,rfl⟩;have I:a.size<=6000:=by rw[ZU c.1];omega
     have J:b.size<=6000:=by rw[ZU c.2];omega
     have f1:Hid _:=c.1▸t.1;have f2:b.toList.isEmpty=b2:=by rw[Zbt,c.2];exact t.2.1
     have f3:Hid _:=c.2▸t.2.2.1;have f4:(Op.bytesLess a.toList ls.toList || a.toList == ls.toList)=b4:=by rw[Zqz,c.1];exact t.2.2.2
     rcases d with rfl|⟨rfl,rfl⟩|⟨rfl,rfl,rfl⟩|⟨rfl,rfl,rfl,rfl⟩
     all_goals
      go_wp2_with (first|(go_at_call 48;refine(Zku I f1.out).mono ?_;rintro e L ⟨rfl,rfl⟩)|(go_at_call 49;refine(Zs1 J f3.out).mono ?_;rintro e L ⟨rfl,rfl⟩))
      go_ret2;exact⟨none,0,0,false,rfl,⟨by rw[C];rfl,fun h=>(by cases h)⟩,H.trans (ZhQ (g.mono Om) _)⟩
  ·have C:Hid _:=P.out▸ZxI (by rw[<-HP.out];exact U);obtain⟨av,cp,hv⟩:=Zl f;rw[hv];rw[hv]at f;have a6:k<=6001:=by omega
   go_wp2;go_ret2;exact⟨_,_,_,true,rfl,⟨by rw[C];rfl,fun _=>⟨qs,⟨ZmF f,a6,HZ⟩,C⟩⟩,H.trans (g.mono Om)⟩
def Zfs(c:UInt8)(r:LB):LB:=if c == 33 && r.head? == some 61 then [33,61] else if (seek c Zdq).isSome then [c] else []
theorem ZpT(c:UInt8):∀l:LB,decide (0<=Lib.indexByte l c)=(seek c l).isSome/\-1<=Lib.indexByte l c
 | []=>⟨rfl,Yd0 (-1)⟩
 | b :: l => by
   obtain⟨d,f⟩:=ZpT c l;unfold Lib.indexByte seek;by_cases a:b=c
   · subst a;simp
   · have e:(b == c)=false:=by simpa using a
     rw[e];simp only[Yde,if_false];rw[Option.isSome_map,<-d];split
     · rename_i h
       have:Lib.indexByte l c=-1:=by simpa using h
       rw[this];exact⟨by decide,by decide⟩
     · rename_i h
       have:Lib.indexByte l c≠-1:=by simpa using h
       refine⟨?_,by omega⟩;rw[decide_eq_true (show 0<=Lib.indexByte l c+1 by omega),decide_eq_true (show 0<=Lib.indexByte l c by omega)]
theorem ZAV(c:UInt8)(r:LB):Lib.hasPrefix (c::r) [33,61]=(c == 33 && r.head? == some 61):=by
 cases r with
 | nil=>simp[Lib.hasPrefix,List.isPrefixOf]
 | cons d r=>
  simp only[Lib.hasPrefix,List.isPrefixOf,List.head?_cons];rw[Yd3]
  congr 1
  ·rw[Ybh,beq_iff_eq,beq_iff_eq];exact eq_comm
  ·rw[Ybh,beq_iff_eq,beq_iff_eq];exact⟨fun h=>by rw[h],fun h=>by injection h with h;exact h.symm⟩
theorem ZqU(s:BA)(k:Nat)(r:s.size<=6000)(n:k<s.size) :
  Cz 50 #[.string s,Vi k] w fun e u=>∃x:BA,e=.returned (.string x)/\Hid (bl x=Zfs s[k] ((bl s).drop (k+1)))/\u=w:=by
 have j:(s.extract k s.size).data.toList=s[k]::(bl s).drop (k+1):=by
  show bl _=_;rw[Zfh,<-Zd,Ya4,ZdW s k _]
 have a:Lib.hasPrefix (s.extract k s.size).data.toList [33,61]=(s[k] == 33 && ((bl s).drop (k+1)).head? == some 61):=by rw[j,ZAV]
 obtain⟨b1,d⟩:∃x,(s[k] == 33 && ((bl s).drop (k+1)).head? == some 61)=x:=⟨_,rfl⟩
 obtain⟨b2,f⟩:∃x,(seek s[k] Zdq).isSome=x:=⟨_,rfl⟩
 have g:Hid (Zfs _ _=if b1 then [33,61] else if b2 then [s[k]] else []):=hid (by unfold Zfs;rw[d,f]);have h:=ZpT s[k] Zdq;rw[f]at h;rw[d]at a;have i:=hid a;have l:=hid h;have q:Hid (bl (s.extract k (k+1))=[s[k]]):=by rw[Zfh,Yc8,ZdW s k n,show k+1 - k=1 by omega];rfl
 clear j a d f h;have m:∀c:UInt8,((c.toNat:Int).toNat.toUInt8)=c:=fun c=>by simp
 cases b1
 ·cases b2
  ·have o:=of_decide_eq_false l.1;go_enter func50,ntmps50
   go_wp2_with fail
   refine(strings_HasPrefix _ _ _).mono ?_;rintro e u ⟨rfl,rfl⟩;rw[show(⟨#[33,61]⟩:BA).data.toList=[33,61] from rfl,i]
   go_wp2_with fail
   refine(strings_IndexByte _ _ _).mono ?_;rintro e u ⟨rfl,rfl⟩;rw[m,show(⟨#[40,41,123,125,91,93,44,61,43,45,42,47]⟩:BA).data.toList=Zdq from rfl];generalize Lib.indexByte Zdq s[k]=ix at *
   go_wp2;go_ret;exact⟨_,rfl,hid (by rw[g];rfl),rfl⟩
  ·have p:=of_decide_eq_true l.1;go_enter func50,ntmps50
   go_wp2_with fail
   refine(strings_HasPrefix _ _ _).mono ?_;rintro e u ⟨rfl,rfl⟩;rw[show(⟨#[33,61]⟩:BA).data.toList=[33,61] from rfl,i]
   go_wp2_with fail
   refine(strings_IndexByte _ _ _).mono ?_;rintro e u ⟨rfl,rfl⟩;rw[m,show(⟨#[40,41,123,125,91,93,44,61,43,45,42,47]⟩:BA).data.toList=Zdq from rfl];generalize Lib.indexByte Zdq s[k]=ix at *
   go_wp2;go_ret;exact⟨_,rfl,hid (by rwa [g.out]),rfl⟩
 ·go_enter func50,ntmps50
  go_wp2_with fail
  refine(strings_HasPrefix _ _ _).mono ?_;rintro e u ⟨rfl,rfl⟩;rw[show(⟨#[33,61]⟩:BA).data.toList=[33,61] from rfl,i];go_wp2;go_ret;exact⟨_,rfl,hid (by rw[g];rfl),rfl⟩
theorem Zx4{h:k<s.size}(a:s[k]≠32)(hd:ZC s[k]=false)(c:Zp s[k]=false)(d:s[k]≠34):Zk (bl s) k=if Zfs s[k] ((bl s).drop (k+1))=[] then (⟨5,[],k⟩,k+1)else (⟨4,Zfs s[k] ((bl s).drop (k+1)),k⟩,k+(Zfs s[k] ((bl s).drop (k+1))).length):=by
 rw[ZjD s k h a];unfold lexC Zfs;rw[hd,c,beq_eq_false_iff_ne.2 d];simp only[Yde,if_false];split
 ·rfl
 split<;>rfl
theorem Zxk{a b:LB}(h:Z3 (a++b)=true):Z3 a=true:=by
 unfold Z3 at h ⊢
 simp_all;omega
theorem Zl8(h:k<s.size)(a:s[k]=34):Zk (bl s) k=match seek 34 ((bl s).drop (k+1))with
  | none=>(⟨5,[],k⟩,(bl s).length)
  | some p=>(if Z3 (((bl s).drop (k+1)).take p)then ⟨3,((bl s).drop (k+1)).take p,k⟩else ⟨5,[],k⟩,k+p+2):=by
 rw[ZjD s k h (by simp_all)];unfold lexC;rw[a];rfl
theorem Zx7{h:k<s.size}(c:s[k]=34){d:k+1+n<s.size}(e:s[k+1+n]=34)(a:34∉((bl s).drop (k+1)).take n)(g:Z3 (((bl s).drop (k+1)).take n)=true):Zk (bl s) k=(⟨3,((bl s).drop (k+1)).take n,k⟩,k+n+2):=by
 rw[Zl8 h c];have f:(((bl s).drop (k+1)).take n).length=n:=by rw[Ya7,Ybv,Zd];omega
 have i:seek 34 ((bl s).drop (k+1))=some n:=by
  rw[<-Ycn n ((bl s).drop _),Yei,ZdW s _ d,e,Zgq _ _ _ a,f]
 simp_all
theorem Zx6{h:k<s.size}(c:s[k]=34)(a:34∉(bl s).drop (k+1)):Zk (bl s) k=(⟨5,[],k⟩,(bl s).length):=by
 rw[Zl8 h c,(Zj9 _ _).2 a]
theorem Zx5(h:k<s.size)(f:s[k]=34)(c:34∉((bl s).drop (k+1)).take n)(g:Z3 (((bl s).drop (k+1)).take n)=false):∃e,Zk (bl s) k=(⟨5,[],k⟩,e):=by
 rw[Zl8 h f];cases i:seek 34 ((bl s).drop (k+1))with
 | none=>simp
 | some p=>
  refine⟨k+p+2,?_⟩;obtain⟨a,b,j,o,q⟩:=Ziv i
  have m:n<=p:=by
   by_cases l:n<=p
   ·exact l
   ·exfalso
    apply c;rw[j,List.take_append,Ya5 Om];rw[show n - a.length=(n - a.length - 1)+1 by omega];simp
  have r:Z3 (((bl s).drop (k+1)).take p)=false:=by
   cases d:Z3 (((bl s).drop (k+1)).take p)
   ·rfl
   ·exfalso
    have:((bl s).drop (k+1)).take p=((bl s).drop (k+1)).take n++(((bl s).drop (k+1)).drop n).take (p - n):=by
     rw[<-List.take_add];congr 1;omega
    rw[this]at d;rw[Zxk d]at g
    simp_all
  simp_all
def QRel(s:BA)(k n:Nat):Prop:=k+1+n<=s.size/\34∉((bl s).drop (k+1)).take n/\Z3 (((bl s).drop (k+1)).take n)=true
theorem QRel.start(h:k<s.size):QRel s k 0:=⟨by omega,by simp,by rfl⟩
theorem ZkZ(_:k+1+n<=s.size):bl (s.extract (k+1) (k+1+n))=((bl s).drop (k+1)).take n:=by
 rw[Zfh,Yc8];simp
theorem QRel.shut{ps:List PTok}(h:QRel s k n)(a:Zct s ps k)(f:k<s.size)(c:s[k]=34)(g:k+1+n<s.size)(d:s[k+1+n]=34):Zct s (ps++[⟨2,k,s.extract (k+1) (k+1+n),0⟩]) (k+1+n+1):=by
 have e:=Zx7 c d h.2.1 h.2.2;rw[show k+1+n+1=k+n+2 by omega];exact a.token e (by simp) ⟨rfl,rfl,ZkZ Om,fun h=>by cases h⟩
theorem QRel.never{ps:List PTok}(h:QRel s k n)(c:Zct s ps k)(e:k<s.size)(d:s[k]=34)(f:¬k+1+n<s.size):Zci (ps++[⟨5,k,⟨#[]⟩,0⟩]) (ZN (bl s) ((bl s).length+1) 0):=by
 have a:34∉(bl s).drop (k+1):=by
  have:=h.2.1
  rwa [Ya5 (by rw[Ybv,Zd];omega)]at this
 exact c.done (Zx6 d a) (.inr rfl) ⟨rfl,rfl,rfl,fun h=>by cases h⟩
theorem ZC9(a:k+1+n<s.size):((bl s).drop (k+1)).take (n+1)=((bl s).drop (k+1)).take n++[s[k+1+n]]:=by
 rw[List.take_add,Yei,ZdW s _ a];rfl
theorem QRel.no(h:QRel s k n)(c:k+1+n<s.size)(d:s[k+1+n]≠34):34∉((bl s).drop (k+1)).take (n+1):=by
 rw[ZC9 c,Yar];rintro(a|a)
 ·exact h.2.1 a
 simp_all
theorem QRel.bad{ps:List PTok}(h:QRel s k n)(c:Zct s ps k)(d:k<s.size)(f:s[k]=34)(g:k+1+n<s.size)(i:s[k+1+n]≠34)(a:Z3 (bl (s.extract (k+1) (k+1+n+1)))=false):Zci (ps++[⟨5,k,⟨#[]⟩,0⟩]) (ZN (bl s) ((bl s).length+1) 0):=by
 rw[show k+1+n+1=k+1+(n+1) by omega,ZkZ Om]at a;obtain⟨e,j⟩:=Zx5 d f (h.no g i) a;exact c.done j (.inr rfl) ⟨rfl,rfl,rfl,fun h=>by cases h⟩
theorem QRel.go(h:QRel s k n)(d:k+1+n<s.size)(c:s[k+1+n]≠34)(a:Z3 (bl (s.extract (k+1) (k+1+n+1)))=true):QRel s k (n+1):=by
 rw[show k+1+n+1=k+1+(n+1) by omega,ZkZ Om]at a;exact⟨by omega,h.no _ c,a⟩
theorem Tryz.infoTok:(Tryz.prog.info? 74).map (fun i=>(i.zero,i.size,i.bytes))=some (some (.agg #[Vi 0,Vi 0,.string ByteArray.empty,Vi 0]),4,40):=by kernel_rfl
theorem Zen{a b c d:Value}{t:TypeId}(e:W.heap.size=n):∀j x,[a,b,c,d][j]?=some x->(W.alloc (.cells #[a,b,c,d] t)).cell? ((⟨n,0,none⟩:Addr).add j)=some x:=by
 intro j x f;subst e;rw[ZfO];have h:=Go.Deep.blk_alloc_new W (.cells #[a,b,c,d] t);simp only[World.cell?,h];simpa using f
theorem Zm2(p:UInt8->Bool):∀l:LB,(l.take (run p l)).all p=true
 | []=>rfl
 | b :: l => by
   unfold run;split
   · rename_i h;simp[h];exact fun x a=>(Ybu.1 (Zm2 p l)) x a
   · rfl
theorem Zin{e:TypeId}(h:w.ownsRow base e size v n xs):w.ownsRow 0 e size v n xs:=by
 refine⟨h.1,?_⟩;rcases h.2 with a|⟨g,cap,cur,h,_,r⟩
 ·exact .inl a
 ·exact .inr ⟨g,cap,cur,h,Yag _,r⟩
theorem Zyk(s:BA)(w:World)(hs:s.size<=300) :
  Cz 27 #[.string s] w fun e o=>∃(v:Value) (ps:List PTok),e=.returned v/\o.ownsRow 0 74 4 v ps.length (ZbC ps)/\Hid (Zci ps (ZN (bl s) ((bl s).length+1) 0))/\BW w o:=by
 obtain⟨i0,U,G,H,I⟩:=info_parts Tryz.infoTok;go_enter func27,ntmps27;go_wp2
 go_step3
 go_wp2
 go_step3
 go_wp2
 go_loopg [3,4] s.size (fun gg v3 v4 wr=>∃(ps:List PTok) (k:Nat),gg=s.size - k/\v4=Vi k/\Hid (Zct s ps k)/\wr.ownsRow w.heap.size 74 4 v3 ps.length (ZbC ps)/\Hid (BW w wr))
 case atStart=>exact⟨[],0,rfl,rfl,Zct.start s,Ybc _ _ _ _,Yaf _ _⟩
 case round=>
  obtain⟨ps,k,b6,rfl,N,c,P⟩:=hrel;have hk:=N.1;have b7:=N.2.1;have J:=P.size;by_cases a4:k<s.size
  ·by_cases a5:s[k]=32
   ·have K:=hid (N.skip _ a5);go_wp2
    go_roundg (s.size - (k+1))
    case measure=>omega
    case rel=>exact⟨ps,k+1,rfl,by go_num,K,c,P⟩
   ·have c32:((s[k].toNat:Int) == 32)=false:=by
     rw[beq_eq_false_iff_ne];intro e;exact a5 (Ydf.1 (by show s[k].toNat=32;omega))
    cases V:ZC s[k]
    ·have Q:=hid V;clear V;cases W:Zp s[k]
     ·have a2:=hid W;clear W;by_cases X:s[k]=34
      ·have c34:((s[k].toNat:Int) == 34)=true:=by rw[X];rfl
       have HK:=hid X;clear X
       go_wp2_with fail
       refine(Zdk).mono ?_;rintro e o ⟨rfl,rfl⟩;rw[Q]
       go_wp2_with fail
       refine(Zd2).mono ?_;rintro e wq ⟨rfl,rfl⟩;rw[a2];go_wp2;obtain⟨L3,b0⟩:∃L3,L3=u3:=⟨_,rfl⟩
       go_loopg [3,4,10] (s.size - (k+1)) (fun gi x3 x4 v10 wi=>∃n:Nat,x3=L3/\x4=Vi (k:Int)/\gi=s.size - (k+1+n)/\v10=Vi ((k+1+n:Nat):Int)/\Hid (QRel s k n)/\wi=wq)
       case atStart=>exact⟨0,b0.symm,rfl,rfl,by go_num,QRel.start a4,rfl⟩
       case round=>
        obtain⟨n,e3,rfl,b8,rfl,HQ,rfl⟩:=hrel;subst e3;subst b0;have hn:=HQ.1;by_cases b1:k+1+n<s.size
        ·by_cases A:s[k+1+n]=34
         ·have cE:((s[k+1+n].toNat:Int) == 34)=true:=by rw[A];rfl
          have K:=hid (HQ.shut N _ HK _ A);clear A
          go_wp2_with (at_builtin;refine wpList_append_own _ rfl (.tmp 103) (.tmp 111) 66 rfl w.heap.size 74 i0 (.agg #[Vi 0,Vi 0,.string ByteArray.empty,Vi 0]) 4 40 underlying66 U G H I rfl Dc _ _ _ rfl (c.alloc _) ⟨wr.heap.size,0,none⟩ 1 1 [Vi 2,Vi k,.string (s.extract (k+1) (k+1+n)),Vi 0] rfl rfl ?c1 ?c2 ?c3 ?c4 ?c5 ?_)
          case c1=>exact Zen rfl
          case c2=>intro u y;simp at y;rcases y with rfl|rfl|rfl|rfl <;> rfl
          case c3=>unfold maxLen;omega
          case c4=>omega
          case c5=>simp;omega
          intro v' C f a _;have z:=hid ((P.alloc J _).grown a (by simp;omega) (fun q D=>(c.lt q D).1));have i:C.ownsRow w.heap.size 74 4 v' (ps++[(⟨2,k,s.extract (k+1) (k+1+n),0⟩:PTok)]).length (ZbC (ps++[(⟨2,k,s.extract (k+1) (k+1+n),0⟩)])):=by rwa [Zer,Yab]
          clear f a c;go_wp2
          go_roundg (s.size - (k+1+n+1))
          case measure=>omega
          case rel=>exact⟨_,k+1+n+1,rfl,by first|rfl|go_num,K,i,z⟩
         ·have cE:((s[k+1+n].toNat:Int) == 34)=false:=by
           rw[beq_eq_false_iff_ne];intro e;exact A (Ydf.1 (by show s[k+1+n].toNat=34;omega))
          have a6:(s.extract (k+1) (k+1+n+1)).size<=6000:=by simp;omega
          obtain⟨sx,B⟩:∃sx,sx=s.extract (k+1) (k+1+n+1):=⟨_,rfl⟩
          have L:=hid B;rw[<-B]at a6;cases hw:Z3 (bl sx)
          ·have R:=hid (HQ.bad N _ HK _ A (by rwa [<-B]));have HW:=hid hw;clear A hw B
           go_wp2_with fail
           rw[<-L];refine(Znw _ _ a6).mono ?_;rintro e wq ⟨rfl,rfl⟩;rw[HW]
           go_wp2_with (at_builtin;refine wpList_append_own _ rfl (.tmp 127) (.tmp 130) 66 rfl w.heap.size 74 i0 (.agg #[Vi 0,Vi 0,.string ByteArray.empty,Vi 0]) 4 40 underlying66 U G H I rfl Dc _ _ _ rfl (c.alloc _) ⟨wq.heap.size,0,none⟩ 1 1 [Vi 5,Vi k,.string ⟨#[]⟩,Vi 0] rfl rfl ?c1 ?c2 ?c3 ?c4 ?c5 ?_)
           case c1=>exact Zen rfl
           case c2=>intro u y;simp at y;rcases y with rfl|rfl|rfl|rfl <;> rfl
           case c3=>unfold maxLen;omega
           case c4=>omega
           case c5=>simp;omega
           intro v' C f a _;have z:=hid ((P.alloc J _).grown a (by simp;omega) (fun q D=>(c.lt q D).1));have i:C.ownsRow w.heap.size 74 4 v' (ps++[(⟨5,k,⟨#[]⟩,0⟩:PTok)]).length (ZbC (ps++[(⟨5,k,⟨#[]⟩,0⟩)])):=by rwa [Zer,Yab]
           clear f a c;go_wp2
           try rw[Ycl]
           go_ret;exact⟨_,_,rfl,Zin i,R,z⟩
          ·have b2:=hid (HQ.go _ A (by rwa [<-B]));have HW:=hid hw;clear A hw B
           go_wp2_with fail
           rw[<-L];refine(Znw _ _ a6).mono ?_;rintro e wq ⟨rfl,rfl⟩;rw[HW];go_wp2
           go_roundg (s.size - (k+1+(n+1)))
           case measure=>omega
           case rel=>exact⟨n+1,rfl,rfl,rfl,by go_num,b2,rfl⟩
        ·have R:=hid (HQ.never N _ HK b1)
         go_wp2_with (at_builtin;refine wpList_append_own _ rfl (.tmp 127) (.tmp 130) 66 rfl w.heap.size 74 i0 (.agg #[Vi 0,Vi 0,.string ByteArray.empty,Vi 0]) 4 40 underlying66 U G H I rfl Dc _ _ _ rfl (c.alloc _) ⟨wr.heap.size,0,none⟩ 1 1 [Vi 5,Vi k,.string ⟨#[]⟩,Vi 0] rfl rfl ?c1 ?c2 ?c3 ?c4 ?c5 ?_)
         case c1=>exact Zen rfl
         case c2=>intro u y;simp at y;rcases y with rfl|rfl|rfl|rfl <;> rfl
         case c3=>unfold maxLen;omega
         case c4=>omega
         case c5=>simp;omega
         intro v' C f a _;have z:=hid ((P.alloc J _).grown a (by simp;omega) (fun q D=>(c.lt q D).1));have i:C.ownsRow w.heap.size 74 4 v' (ps++[(⟨5,k,⟨#[]⟩,0⟩:PTok)]).length (ZbC (ps++[(⟨5,k,⟨#[]⟩,0⟩)])):=by rwa [Zer,Yab]
         clear f a c;go_wp2
         try rw[Ycl]
         go_ret;exact⟨_,_,rfl,Zin i,R,z⟩
      ·have c34:((s[k].toNat:Int) == 34)=false:=by
        rw[beq_eq_false_iff_ne];intro e;exact X (Ydf.1 (by show s[k].toNat=34;omega))
       have j:=Zx4 a5 Q a2 X;obtain⟨m,hm⟩:∃m,m=Zfs s[k] ((bl s).drop (k+1)):=⟨_,rfl⟩
       rw[<-hm]at j;have HM:=hid hm;clear hm;by_cases a3:m=[]
       ·rw[if_pos a3]at j;have R:Hid (Zci (ps++[⟨5,k,⟨#[]⟩,0⟩]) _):=hid (N.done j (.inr rfl) ⟨rfl,rfl,rfl,fun h=>by cases h⟩);clear j
        go_wp2_with fail
        refine(Zdk).mono ?_;rintro e o ⟨rfl,rfl⟩;rw[Q]
        go_wp2_with fail
        refine(Zd2).mono ?_;rintro e o ⟨rfl,rfl⟩;rw[a2]
        go_wp2_with fail
        refine(ZqU s k Om a4).mono ?_;rintro e o ⟨x,rfl,O,rfl⟩;have Y:bl x=[]:=by rwa [O.out,<-HM.out]
        obtain rfl:x=⟨#[]⟩:=by
         cases x with|mk d=>cases d with|mk l=>simp[bl]at Y;subst Y;rfl
        clear Y O
        go_wp2_with (at_builtin;refine wpList_append_own _ rfl (.tmp 127) (.tmp 130) 66 rfl w.heap.size 74 i0 (.agg #[Vi 0,Vi 0,.string ByteArray.empty,Vi 0]) 4 40 underlying66 U G H I rfl Dc _ _ _ rfl (c.alloc _) ⟨o.heap.size,0,none⟩ 1 1 [Vi 5,Vi k,.string ⟨#[]⟩,Vi 0] rfl rfl ?c1 ?c2 ?c3 ?c4 ?c5 ?_)
        case c1=>exact Zen rfl
        case c2=>intro u y;simp at y;rcases y with rfl|rfl|rfl|rfl <;> rfl
        case c3=>unfold maxLen;omega
        case c4=>omega
        case c5=>simp;omega
        intro v' C f a _;have z:=hid ((P.alloc J _).grown a (by simp;omega) (fun q D=>(c.lt q D).1));have i:C.ownsRow w.heap.size 74 4 v' (ps++[(⟨5,k,⟨#[]⟩,0⟩:PTok)]).length (ZbC (ps++[(⟨5,k,⟨#[]⟩,0⟩)])):=by rwa [Zer,Yab]
        clear f a c;go_wp2
        try rw[Ycl]
        go_ret;exact⟨_,_,rfl,Zin i,R,z⟩
       ·rw[if_neg a3]at j
        go_wp2_with fail
        refine(Zdk).mono ?_;rintro e o ⟨rfl,rfl⟩;rw[Q]
        go_wp2_with fail
        refine(Zd2).mono ?_;rintro e o ⟨rfl,rfl⟩;rw[a2]
        go_wp2_with fail
        refine(ZqU s k Om a4).mono ?_;rintro e o ⟨x,rfl,O,rfl⟩;have Y:bl x=m:=by rw[O,<-HM]
        rw[<-Y]at j
        have K:Hid (Zct s (ps++[⟨3,k,x,0⟩]) (k+x.size)):=by
         have:=N.token (p:=⟨3,k,x,0⟩) j (by show ¬((4:Nat)=0∨(4:Nat)=5);decide) ⟨rfl,rfl,rfl,fun h=>by cases h⟩
         rwa [Zd]at this
        have b9:0<x.size:=by rw[<-Zd,Y];exact Ycj.2 a3
        have c6:x.toList.isEmpty=false:=by
         rw[Zbt,Y];cases m with
         | nil=>exact absurd rfl a3
         | cons=>rfl
        have c7:=K.1;clear Y O j
        go_wp2_with (at_builtin;refine wpList_append_own _ rfl (.tmp 24) (.tmp 28) 66 rfl w.heap.size 74 i0 (.agg #[Vi 0,Vi 0,.string ByteArray.empty,Vi 0]) 4 40 underlying66 U G H I rfl Dc _ _ _ rfl (c.alloc _) ⟨o.heap.size,0,none⟩ 1 1 [Vi 3,Vi k,.string x,Vi 0] rfl rfl ?c1 ?c2 ?c3 ?c4 ?c5 ?_)
        case c1=>exact Zen rfl
        case c2=>intro u y;simp at y;rcases y with rfl|rfl|rfl|rfl <;> rfl
        case c3=>unfold maxLen;omega
        case c4=>omega
        case c5=>simp;omega
        intro v' C f a _;have z:=hid ((P.alloc J _).grown a (by simp;omega) (fun q D=>(c.lt q D).1));have i:C.ownsRow w.heap.size 74 4 v' (ps++[(⟨3,k,x,0⟩:PTok)]).length (ZbC (ps++[(⟨3,k,x,0⟩)])):=by rwa [Zer,Yab]
        clear f a c;go_wp2
        go_roundg (s.size - (k+x.size))
        case measure=>omega
        case rel=>exact⟨_,k+x.size,rfl,by first|rfl|go_num,K,i,z⟩
     ·obtain⟨E,A⟩:∃E,E=k+run Zp ((bl s).drop k):=⟨_,rfl⟩
      have S:Hid (∀w,Calls _ _ _ w fun e o=>e=.returned _/\o=w):=hid (fun w=>A▸ZBD s k w Om hk);have Z:0<run Zp ((bl s).drop k):=by rw[Zj5 s k W];omega
      have T:=Zg6 Zp ((bl s).drop k);rw[Ybv,Zd]at T;have b3:k<E:=by omega
      have b4:E<=s.size:=by omega
      have O:Hid (bl (s.extract k E)=((bl s).drop k).take (run Zp ((bl s).drop k))):=by rw[Zfh,Yc8,A];congr 1;omega
      have j:=Zx3 Q W;rw[<-O,<-A]at j;have B:(s.extract k E).size=run Zp ((bl s).drop k):=by rw[ZU O,Ya7,Ybv,Zd];omega
      have a0:Hid (Zx (bl _)=decide (run Zp ((bl s).drop k)<=8)):=hid (by
       unfold Zx;rw[O,Zm2,Ya7,Ybv,Zd];rw[Yc3 Om];by_cases h8:run Zp ((bl s).drop k)<=8
       ·simp[h8];omega
       ·simp[h8];omega)
      have a1:(s.extract k E).size<=6000:=by omega
      obtain⟨sx,F⟩:∃sx,sx=s.extract k E:=⟨_,rfl⟩
      rw[<-F]at j a1 a0;have L:=hid F;by_cases h8:8<run Zp ((bl s).drop k)
      ·rw[if_pos h8]at j;have R:Hid (Zci (ps++[⟨5,k,⟨#[]⟩,0⟩]) _):=hid (N.done j (.inr rfl) ⟨rfl,rfl,rfl,fun h=>by cases h⟩);have a7:Hid _:=a0.out▸decide_eq_false Om;clear j A F Z T h8 B O a0
       go_wp2_with fail
       refine(Zdk).mono ?_;rintro e o ⟨rfl,rfl⟩;rw[Q]
       go_wp2_with fail
       refine(Zd2).mono ?_;rintro e o ⟨rfl,rfl⟩;rw[W]
       go_wp2_with fail
       refine(S _).mono ?_;rintro e o ⟨rfl,rfl⟩
       go_wp2_with fail
       rw[<-L];refine(Znv _ _ a1).mono ?_;rintro e o ⟨rfl,rfl⟩;rw[a7]
       go_wp2_with (at_builtin;refine wpList_append_own _ rfl (.tmp 127) (.tmp 130) 66 rfl w.heap.size 74 i0 (.agg #[Vi 0,Vi 0,.string ByteArray.empty,Vi 0]) 4 40 underlying66 U G H I rfl Dc _ _ _ rfl (c.alloc _) ⟨o.heap.size,0,none⟩ 1 1 [Vi 5,Vi k,.string ⟨#[]⟩,Vi 0] rfl rfl ?c1 ?c2 ?c3 ?c4 ?c5 ?_)
       case c1=>exact Zen rfl
       case c2=>intro u y;simp at y;rcases y with rfl|rfl|rfl|rfl <;> rfl
       case c3=>unfold maxLen;omega
       case c4=>omega
       case c5=>simp;omega
       intro v' C f a _;have z:=hid ((P.alloc J _).grown a (by simp;omega) (fun q D=>(c.lt q D).1));have i:C.ownsRow w.heap.size 74 4 v' (ps++[(⟨5,k,⟨#[]⟩,0⟩:PTok)]).length (ZbC (ps++[(⟨5,k,⟨#[]⟩,0⟩)])):=by rwa [Zer,Yab]
       clear f a c;go_wp2
       try rw[Ycl]
       go_ret;exact⟨_,_,rfl,Zin i,R,z⟩
      ·rw[if_neg h8]at j;have K:Hid (Zct s (ps++[⟨1,k,sx,0⟩]) E):=N.token j (by show ¬((2:Nat)=0∨(2:Nat)=5);decide) ⟨rfl,rfl,rfl,fun h=>by cases h⟩;have a7:Hid _:=a0.out▸decide_eq_true Om;clear j A F Z T h8 B O a0
       go_wp2_with fail
       refine(Zdk).mono ?_;rintro e o ⟨rfl,rfl⟩;rw[Q]
       go_wp2_with fail
       refine(Zd2).mono ?_;rintro e o ⟨rfl,rfl⟩;rw[W]
       go_wp2_with fail
       refine(S _).mono ?_;rintro e o ⟨rfl,rfl⟩
       go_wp2_with fail
       rw[<-L];refine(Znv _ _ a1).mono ?_;rintro e o ⟨rfl,rfl⟩;rw[a7]
       go_wp2_with (at_builtin;refine wpList_append_own _ rfl (.tmp 78) (.tmp 85) 66 rfl w.heap.size 74 i0 (.agg #[Vi 0,Vi 0,.string ByteArray.empty,Vi 0]) 4 40 underlying66 U G H I rfl Dc _ _ _ rfl (c.alloc _) ⟨o.heap.size,0,none⟩ 1 1 [Vi 1,Vi k,.string (s.extract k E),Vi 0] rfl rfl ?c1 ?c2 ?c3 ?c4 ?c5 ?_)
       case c1=>exact Zen rfl
       case c2=>intro u y;simp at y;rcases y with rfl|rfl|rfl|rfl <;> rfl
       case c3=>unfold maxLen;omega
       case c4=>omega
       case c5=>simp;omega
       intro v' C f a _;have z:=hid ((P.alloc J _).grown a (by simp;omega) (fun q D=>(c.lt q D).1));have i:C.ownsRow w.heap.size 74 4 v' (ps++[(⟨1,k,sx,0⟩:PTok)]).length (ZbC (ps++[(⟨1,k,sx,0⟩)])):=by rwa [Zer,Yab,L.out]
       clear f a c;go_wp2
       go_roundg (s.size - E)
       case measure=>omega
       case rel=>exact⟨_,E,rfl,by first|rfl|go_num,K,i,z⟩
    ·obtain⟨E,A⟩:∃E,E=k+run ZC ((bl s).drop k):=⟨_,rfl⟩
     have S:Hid (∀w,Calls _ _ _ w fun e o=>e=.returned _/\o=w):=hid (fun w=>A▸ZBB s k w Om hk);have Z:0<run ZC ((bl s).drop k):=by rw[Zj5 s k V];omega
     have T:=Zg6 ZC ((bl s).drop k);rw[Ybv,Zd]at T;have b3:k<E:=by omega
     have b4:E<=s.size:=by omega
     have O:Hid (bl (s.extract k E)=((bl s).drop k).take (run ZC ((bl s).drop k))):=by rw[Zfh,Yc8,A];congr 1;omega
     have j:=Zx2 V;rw[<-O,<-A]at j;have B:(s.extract k E).size<=6000:=by simp;omega
     obtain⟨sx,F⟩:∃sx,sx=s.extract k E:=⟨_,rfl⟩
     rw[<-F]at j B;have L:=hid F;cases M:ZQ 1000000000 (bl sx)with
     | none=>
      rw[M]at j;have R:Hid (Zci (ps++[⟨5,k,⟨#[]⟩,0⟩]) _):=hid (N.done j (.inr rfl) ⟨rfl,rfl,rfl,fun h=>by cases h⟩);have a8:=hid (Zgg M);clear M j A F Z T
      go_wp2_with fail
      refine(Zdk).mono ?_;rintro e o ⟨rfl,rfl⟩;rw[V]
      go_wp2_with fail
      refine(S _).mono ?_;rintro e o ⟨rfl,rfl⟩
      go_wp2_with fail
      rw[<-L];refine(Zkv _ 1000000000 _ B Dc Dc).mono ?_;rintro e o ⟨rfl,rfl⟩;rw[a8]
      go_wp2_with (at_builtin;refine wpList_append_own _ rfl (.tmp 127) (.tmp 130) 66 rfl w.heap.size 74 i0 (.agg #[Vi 0,Vi 0,.string ByteArray.empty,Vi 0]) 4 40 underlying66 U G H I rfl Dc _ _ _ rfl (c.alloc _) ⟨o.heap.size,0,none⟩ 1 1 [Vi 5,Vi k,.string ⟨#[]⟩,Vi 0] rfl rfl ?c1 ?c2 ?c3 ?c4 ?c5 ?_)
      case c1=>exact Zen rfl
      case c2=>intro u y;simp at y;rcases y with rfl|rfl|rfl|rfl <;> rfl
      case c3=>unfold maxLen;omega
      case c4=>omega
      case c5=>simp;omega
      intro v' C f a _;have z:=hid ((P.alloc J _).grown a (by simp;omega) (fun q D=>(c.lt q D).1));have i:C.ownsRow w.heap.size 74 4 v' (ps++[(⟨5,k,⟨#[]⟩,0⟩:PTok)]).length (ZbC (ps++[(⟨5,k,⟨#[]⟩,0⟩)])):=by rwa [Zer,Yab]
      clear f a c;go_wp2
      try rw[Ycl]
      go_ret;exact⟨_,_,rfl,Zin i,R,z⟩
     | some v=>
      rw[M]at j;have K:Hid (Zct s (ps++[⟨0,k,sx,v⟩]) E):=N.token (t:=⟨1,bl _,k⟩) j (by show ¬((1:Nat)=0∨(1:Nat)=5);decide) ⟨rfl,rfl,rfl,fun _=>by unfold numV;rw[M];rfl⟩;have a8:=hid (ZjO M);clear M j A F Z T
      go_wp2_with fail
      refine(Zdk).mono ?_;rintro e o ⟨rfl,rfl⟩;rw[V]
      go_wp2_with fail
      refine(S _).mono ?_;rintro e o ⟨rfl,rfl⟩
      go_wp2_with fail
      rw[<-L];refine(Zkv _ 1000000000 _ B Dc Dc).mono ?_;rintro e o ⟨rfl,rfl⟩;rw[a8]
      go_wp2_with (at_builtin;refine wpList_append_own _ rfl (.tmp 55) (.tmp 63) 66 rfl w.heap.size 74 i0 (.agg #[Vi 0,Vi 0,.string ByteArray.empty,Vi 0]) 4 40 underlying66 U G H I rfl Dc _ _ _ rfl (c.alloc _) ⟨o.heap.size,0,none⟩ 1 1 [Vi 0,Vi k,.string (s.extract k E),Vi v] rfl rfl ?c1 ?c2 ?c3 ?c4 ?c5 ?_)
      case c1=>exact Zen rfl
      case c2=>intro u y;simp at y;rcases y with rfl|rfl|rfl|rfl <;> rfl
      case c3=>unfold maxLen;omega
      case c4=>omega
      case c5=>simp;omega
      intro v' C f a _;have z:=hid ((P.alloc J _).grown a (by simp;omega) (fun q D=>(c.lt q D).1));have i:C.ownsRow w.heap.size 74 4 v' (ps++[(⟨0,k,sx,v⟩:PTok)]).length (ZbC (ps++[(⟨0,k,sx,v⟩)])):=by rwa [Zer,Yab,L.out]
      clear f a c;go_wp2
      go_roundg (s.size - E)
      case measure=>omega
      case rel=>exact⟨_,E,rfl,by first|rfl|go_num,K,i,z⟩
  ·have a9:k=s.size:=by omega
   have R:Hid (Zci (ps++[⟨4,k,⟨#[]⟩,0⟩]) _):=N.done (t:=⟨0,[],s.size⟩) (e:=s.size) (by rw[a9];exact ZqF s) (Or.inl rfl) ⟨rfl,a9,rfl,fun h=>by cases h⟩;clear a9
   go_wp2_with (at_builtin;refine wpList_append_own _ rfl (.tmp 132) (.tmp 135) 66 rfl w.heap.size 74 i0 (.agg #[Vi 0,Vi 0,.string ByteArray.empty,Vi 0]) 4 40 underlying66 U G H I rfl Dc _ _ _ rfl (c.alloc _) ⟨wr.heap.size,0,none⟩ 1 1 [Vi 4,Vi k,.string ⟨#[]⟩,Vi 0] rfl rfl ?c1 ?c2 ?c3 ?c4 ?c5 ?_)
   case c1=>exact Zen rfl
   case c2=>intro u y;simp at y;rcases y with rfl|rfl|rfl|rfl <;> rfl
   case c3=>unfold maxLen;omega
   case c4=>omega
   case c5=>simp;omega
   intro v' C f a _;have z:=hid ((P.alloc J _).grown a (by simp;omega) (fun q D=>(c.lt q D).1))
   have b5:Hid (C.ownsRow 0 74 4 v' (ps++[(⟨4,k,⟨#[]⟩,0⟩:PTok)]).length (ZbC (ps++[(⟨4,k,⟨#[]⟩,0⟩)]))):=by
    rw[Zer,Yab];refine⟨f.1,?_⟩;rcases f.2 with h2|⟨g,cap,cur,h,_,r⟩
    ·exact .inl h2
    ·exact .inr ⟨g,cap,cur,h,Yag _,r⟩
   clear f a c;go_wp2
   try rw[Ycl]
   go_ret;exact⟨_,_,rfl,b5,R,z⟩
theorem ZfJ(a:k≠2)(c:k≠4)(d:k<=5):Zdt ⟨k,x,j⟩/\(⟨k,x,j⟩:Tok).jj<=5:=⟨⟨fun h=>absurd h a,fun h=>absurd h c⟩,d⟩
theorem ZEG(h:x.all Zp=true):Zdt ⟨2,x,j⟩/\(⟨2,x,j⟩:Tok).jj<=5:=⟨⟨fun _=>h,fun h=>absurd (show(2)=4 from h) Dc⟩,by show(2:Nat)<=5;decide⟩
theorem Zs7(h:x.all (fun c=>!Zp c)=true):Zdt ⟨4,x,j⟩/\(⟨4,x,j⟩:Tok).jj<=5:=⟨⟨fun h=>absurd (show(4)=2 from h) Dc,fun _=>h⟩,by show(4:Nat)<=5;decide⟩
theorem Zyi{r:LB}:Zdt (lexC l j c r).1/\(lexC l j c r).1.jj<=5:=by
 unfold lexC;split
 ·split
  ·exact ZfJ Dc Dc Dc
  ·exact ZfJ Dc Dc Dc
 ·rename_i hd;split
  ·split
   ·exact ZfJ Dc Dc Dc
   ·exact ZEG (Zm2 _ _)
  ·rename_i a;split
   ·split
    ·exact ZfJ Dc Dc Dc
    ·split
     ·exact ZfJ Dc Dc Dc
     ·exact ZfJ Dc Dc Dc
   ·split
    ·exact Zs7 Dc
    ·split
     ·refine Zs7 ?_;show([c].all fun c=>!Zp c)=true;have:=Yce.2 a;simp[this]
     ·exact ZfJ Dc Dc Dc
theorem Zyd(l:LB)(i:Nat):Zdt (Zk l i).1/\(Zk l i).1.jj<=5:=by
 unfold Zk lexJ;split
 ·exact ZfJ Dc Dc Dc
 ·exact Zyi
theorem ZsQ(l:LB):∀(n i:Nat),i<=l.length->l.length+1<=n+i->ZeQ (ZN l n i)
 | 0,i,a,c=>absurd c Om
 | n + 1, i, a, c => by
   show ZeQ (if (Zk l i).1.jj=0∨(Zk l i).1.jj=5 then [(Zk l i).1] else (Zk l i).1::ZN l n (Zk l i).2);by_cases h:(Zk l i).1.jj=0∨(Zk l i).1.jj=5
   · rw[if_pos h];exact h
   · rw[if_neg h]
     have d:=Zig l i a;have f:=Zyd l i;have ih:=ZsQ l n _ d.2 (by have:=d.1 (fun e=>h (.inl e));omega);cases g:ZN l n (Zk l i).2 with
     | nil=>rw[g]at ih;exact ih.elim
     | cons u m=>
       rw[g]at ih;exact⟨by have:=f.2;omega,f.1,ih⟩
theorem Zt3{b:Nat}(h:w.grownBy w' (some b))(a:B<=b)(c:B<=w.heap.size):Below B w w':=
 ⟨h.os,h.tape,h.output,h.size,fun j d=>h.block j Om (fun e=>by injection e with e;omega)⟩
def RdIs(w:World)(lg sy dp tp:Addr)(r:Except (Nat×Nat) Tr)(pv v:Value):Prop:=match r with
 | .ok t=>v=.nilIface/\Zh w t pv
 | .error x=>(x=(1,0)/\v=.iface 432 (.pointer (some lg)))∨(x=(4,0)/\v=.iface 432 (.pointer (some tp)))∨(x.1=2/\ZM w v x.2 sy)∨(x.1=3/\ZM w v x.2 dp)
theorem RdIs.error{x:Nat×Nat}(a:r=.error x)(h:(x=(1,0)/\v=.iface 432 (.pointer (some lg)))∨(x=(4,0)/\v=.iface 432 (.pointer (some tp)))∨(x.1=2/\ZM w v x.2 sy)∨(x.1=3/\ZM w v x.2 dp)):RdIs w lg sy dp tp r pv v:=by subst a;exact h
theorem RdIs.fine{t:Tr}(a:r=.ok t)(h:v=.nilIface/\Zh w t pv):RdIs w lg sy dp tp r pv v:=by subst a;exact h
structure Sents (w:World) (lg sy dp tp:Addr):Prop where
 lg:w.cell? ⟨0,0,none⟩=some (.iface 432 (.pointer (some lg)))
 sy:w.cell? ⟨1,0,none⟩=some (.iface 432 (.pointer (some sy)))
 dp:w.cell? ⟨2,0,none⟩=some (.iface 432 (.pointer (some dp)))
 tp:w.cell? ⟨3,0,none⟩=some (.iface 432 (.pointer (some tp)))
theorem Sents.below(h:Sents w lg sy dp tp)(a:BW w w'):Sents w' lg sy dp tp:=
 ⟨(a.cell (Yai _ _ h.lg)).trans h.lg,(a.cell (Yai _ _ h.sy)).trans h.sy,(a.cell (Yai _ _ h.dp)).trans h.dp,(a.cell (Yai _ _ h.tp)).trans h.tp⟩
theorem Ziu(s:BA)(w:World)(b1:s.size<=9223372036854775807)(J:Sents w lg sy dp tp) :
  Cz 17 #[.string s] w fun e w'=>∃pv v:Value,e=.returned (.tuple #[pv,v])/\Hid (RdIs w' lg sy dp tp (ZD (bl s)) pv v)/\BW w w':=by
 by_cases hl:300<s.size
 ·have HR:Hid (ZD _=.error _):=hid (by unfold ZD;rw[Zd,if_pos hl]);have hd:(300:Int)<s.size:=by omega
  have b2:=J.lg;clear J;go_enter func17,ntmps17;go_wp2
  go_region
  all_goals
   go_wp2;go_ret2;exact⟨_,_,rfl,RdIs.error HR (.inl ⟨rfl,rfl⟩),belB⟩
 ·have a1:s.size<=300:=by omega
  have hd:¬((300:Int)<s.size):=by omega
  obtain⟨ts,h⟩:∃ts,ts=ZN (bl s) ((bl s).length+1) 0:=⟨_,rfl⟩
  have a2:Hid (ts.length<=301):=hid (by
   have:=ZjB (bl s) ((bl s).length+1) 0 (Yag _);rw[<-h,Zd]at this;omega)
  have L:Hid _:=h▸ZsQ _ _ _ (Yag _) Om
  have q:Hid (ZD (bl s)=match Zs (10*ts.length+5) false 0 .nil ts 0 with
   | .error e=>.error e
   | .ok (t,r)=>if (LS.hd r).jj=0 then (if Zf t=0 then .error (4,0)else .ok t)else .error (2,(LS.hd r).at_)):=by
   unfold ZD;rw[Zd,if_neg hl,<-Zd,<-h];cases Zs (10*ts.length+5) false 0 .nil ts 0 with
   | error e=>rfl
   | ok x=>rfl
  have HS:=hid J;have a3:=hid h;clear h J hl;go_enter func17,ntmps17
  go_wp2_with fail
  refine(Zyk s w a1).mono ?_;rintro e y ⟨v,ps,rfl,l,d,A⟩;rw[<-a3]at d;have M:=hid d.length;have N:0<ps.length:=M.out▸L.head.2.1;obtain⟨g,cp,rfl⟩:=ZF l N;have O:=hid l;have m:=hid A;have P:=hid (HS.below A);clear l A
  go_wp2_with fail
  refine Zm fun W K=>?_;have n:Below _ _ W:=K▸Zbal;have a4:=hid (m.trans (n.mono m.size));have Q:=hid (P.below n);have HK:Hid (RK W ⟨y.heap.size,g,cp,ps,sy,dp⟩ 0 _):=hid ⟨⟨K▸bnw,Zn O n,N⟩,d,L,by show ps.length<=302;rw[M];have:=a2.out;omega,Q.sy,Q.dp⟩;have b3:y.heap.size<W.heap.size:=by rw[K];simp
  have a5:=m.size;clear K n O d P m;refine((ZnQ _).1 0 Dc _ (Yac _) W _ 0 ts 0 HK.out Dc (by show 10*ts.length+5<=10*ts.length+5+0;omega)).mono ?_;rintro e z ⟨pv,v,rfl,a6,f,R⟩;have S:=Zt3 R a5 Om;have i:=hid (a4.trans S);have b4:=hid (HS.below i);clear R S;cases a:Zs (10*ts.length+5) false 0 .nil ts 0 with
  | error er=>
   have B:=hid (f.err a);obtain⟨fa,rfl⟩:=B.shape;have a7:Hid (ZD _=.error _):=hid (by rw[q,a]);clear f a;go_wp2;go_ret2;exact⟨_,_,rfl,RdIs.error a7 (.inr (.inr B)),i⟩
  | ok pr=>
   obtain⟨t,r⟩:=pr;obtain⟨rfl,⟨k2,T⟩,C⟩:=f.good a;have D:=hid T;have U:=hid C;have E:Hid (ZD _=if (LS.hd r).jj=0 then (if Zf t=0 then .error _ else .ok t)else .error _):=hid (by rw[q,a]);obtain⟨ty,u,a8⟩:=Zh.shape C;subst a8;clear f a T C a6 q
   go_wp2_with fail
   refine(Zee D.out).mono ?_;rintro e w3 ⟨⟨kd,at_,tx,tv⟩,rfl,ht,o⟩;have j:=hid (i.trans (o.mono i.size));have V:=hid (D.below o);have X:=hid (U.below o);clear o i D U;have p:=Ze0 V.wf.head.2.2;by_cases c:(LS.hd r).jj=0
   ·have Y:kd=4:=by have:=ht.1;simp only at this;rw[this,p.2.2.2.2.2 c]
    subst Y;have F:Hid (ZD _=if Zf t=0 then .error _ else .ok t):=hid (by rw[E,if_pos c]);have hf:∀W:World,(Instr.field 74 (.agg #[Vi 4,Vi at_,.string tx,Vi tv]) 0).run prog W=.ok (.int _ 4) W:=fun _=>rfl;clear c p ht
    go_wp2_with fail
    refine(Zl2 t _ _ _ X (HS.below j).tp).mono ?_;rintro e w4 ⟨kd,err,rfl,G,H⟩;have Z:=hid (j.trans (H.mono j.size));have a9:=hid (X.below H);clear H;rcases G.out with ⟨I,rfl⟩|⟨I,rfl,rfl⟩|⟨I,rfl,rfl⟩
    ·have k:Hid (ZD _=.error _):=hid (by rw[F,if_pos I]);clear G I;go_wp2;go_ret2;exact⟨_,_,rfl,RdIs.error k (.inr (.inl ⟨rfl,rfl⟩)),Z⟩
    all_goals
     have k:Hid (ZD _=.ok t):=hid (by rw[F,if_neg Om]);clear G I;go_wp2;go_ret2;exact⟨_,_,rfl,RdIs.fine k ⟨rfl,a9⟩,Z⟩
   ·have Y:((kd:Int) != 4)=true:=by
     rw[bne_iff_ne];intro e;exact c (p.2.2.2.2.1 (by have:=ht.1;simp only at this;omega))
    have k:Hid (ZD _=.error _):=hid (by rw[E,if_neg c]);have hf:∀W:World,(Instr.field 74 (.agg #[.int _ kd,Vi at_,.string tx,Vi tv]) 0).run prog W=.ok (Vi _) W:=fun _=>rfl;clear c p
    go_wp2_with fail
    refine(Zfi V.out).mono ?_;rintro e wE ⟨v,rfl,B,a0⟩;obtain⟨fa,rfl⟩:=B.shape;have b0:=hid (j.trans (a0.mono j.size));clear a0;go_wp2;go_ret2;exact⟨_,_,rfl,RdIs.error k (.inr (.inr B)),b0⟩
