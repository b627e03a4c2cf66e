/- Parts. -/
import Derived.Test.YtmfnolgpaoldpaaGreatDoorW00
import Derived.Deep.Trees
import Derived.Deep.RegionWith
import Derived.Deep.DeepCutAuto
set_option linter.all false
set_option maxRecDepth 100000
set_option maxHeartbeats 16000000
namespace Go.Proofs.YtmfnolgpaoldpaaGreatDoor.LS
open Go Go.RowKit
structure Yg where
 jj:Nat
 txt:LB
 at_:Nat
def run(p:UInt8->Bool):LB->Nat
 |[]=>0
 |b::l=>if p b then run p l+1 else 0
def QH:LB:=[40,41,123,125,91,93,44,61,43,45,42,47]
def XS(l:LB)(j:Nat)(c:UInt8)(r:LB):Yg×Nat:=
 if Zt c then(if(ZC 1000000000<|(c::r).take<|run Zt<|c::r).isSome then⟨1,(c::r).take<|run Zt<|c::r,j⟩else⟨5,[],j⟩,j+run Zt (c::r))
 else if Zl c then(if 8<run Zl (c::r)then⟨5,[],j⟩else⟨2,(c::r).take<|run Zl<|c::r,j⟩,j+run Zl (c::r))
 else if c==34 then match seek 34 r with
  |none=>(⟨5,[],j⟩,l.length)
  |some p=>(if ZY (r.take p)then⟨3,r.take p,j⟩else⟨5,[],j⟩,j+p+2)
 else if c==33&&r.head?==some 61 then(⟨4,[33,61],j⟩,j+2)
 else if(seek c QH).isSome then(⟨4,[c],j⟩,j+1)else(⟨5,[],j⟩,j+1)
def UV(l:LB)(j:Nat):Yg×Nat:=match l.drop j with
 |[]=>(⟨0,[],j⟩,j)
 |c::r=>XS l j c r
def Zg(l:LB)(i:Nat):Yg×Nat:=UV l (i+run (·==32) (l.drop i))
theorem NH(p:UInt8->Bool)(l:LB):run p l<=l.length:=by
 induction l with
 |nil=>exact Yj _
 |cons b l ih=>unfold run;split<;>simp_all
theorem Bf(s:BA)(j:Nat)(h:j<s.size)(a:s[j]=32):Zg (bl s) j=Zg (bl s) (j+1):=by
 unfold Zg;rw[Te s j h];have:run (·==32) (s[j]::(bl s).drop (j+1))=run (·==32) ((bl s).drop<|j+1)+1:=by rw[a];rfl
 rw[this,show j+(run _ _+1)=j+1+run (·==32) ((bl s).drop<|j+1)by omega]
theorem Lx(s:BA)(j:Nat)(h:j<s.size)(a:s[j]≠32):Zg (bl s) j=XS (bl s) j s[j] ((bl s).drop<|j+1):=by
 unfold Zg;rw[Te s j h];have:run (·==32) (s[j]::(bl s).drop (j+1))=0:=by simp[run,a]
 rw[this,IB];unfold UV;rw[Te s j h]
theorem Zkg(s:BA)(j:Nat)(h:¬j<s.size)(a:j<=s.size):Zg (bl s) j=(⟨0,[],j⟩,j):=by
 have hd:(bl s).drop j=[]:=Ts<|by rw[Zb];omega
 unfold Zg;rw[hd];show UV (bl s) j=_;unfold UV;rw[hd]
theorem JF(p:UInt8->Bool)(s:BA)(j k:Nat)(f:j<=k)(g:k<=s.size)(a:∀i (h:i<s.size),j<=i->i<k->p s[i]=true)(c:∀h:k<s.size,p s[k]=false):j+run p ((bl s).drop j)=k:=by
 induction hd:k-j generalizing j with
 |zero=>
  obtain rfl:j=k:=X;by_cases h:j<s.size
  .rw[Te s j h];simp[run,c h]
  .rw[Ts<|by rw[Zb];omega];rfl
 |succ n ih=>
  have h:j<s.size:=X;have:=ih (j+1) X (λi d l e=>a i d X e) X;rw[Te s j h];simp only[run,a j h (Yj _) X,VE];omega
end Go.Proofs.YtmfnolgpaoldpaaGreatDoor.LS
namespace Go.Proofs.YtmfnolgpaoldpaaGreatDoor
open Go.RowKit LS Go.Proofs.Tryz
theorem yz(s:BA)(j:Nat){w:World}(r:s.size<=6000)(p:j<=s.size):
 CP 213 #[.string s,E j,.bool true] w λe u=>e=.returned (E ((j+run Zt ((bl s).drop j):Nat):Int))/\u=w:=by
 go_enter func213,ntmps213;go_wp2;go_loop [1] (λi=>∃k:Nat,k<=s.size/\j<=k/\i=E k/\Hid (∀q (h:q<s.size),j<=q->q<k->Zt s[q]=true)) (λi=>s.size-(intOf i).toNat);case atStart=>exact⟨j,p,Yj _,C,λq h g l=>X⟩
 case round=>
  obtain⟨k,m,c,rfl,d⟩:=hrel;by_cases n:k<s.size
  .cases o:Zt s[k]
   .have a:Hid<|j+run Zt ((bl s).drop j)=k:=JF _ s j k c m d.out λ_=>o;go_wp2_with(first|(go_at_call 108;refine(Sn).mono ?_;rintro e u ⟨rfl,rfl⟩)|(go_at_call 151;refine(TS).mono ?_;rintro e u ⟨rfl,rfl⟩));go_ret;exact⟨TY<|by have:=a.out;omega,C⟩
   .have a:Hid<|∀q (h:q<s.size),j<=q->q<k+1->Zt s[q]=true:=λq h g l=>by
      rcases Kf.1 l with f|f
      .exact d.out q h g f
      .subst f;exact o
    go_wp2_with(first|(go_at_call 108;refine(Sn).mono ?_;rintro e u ⟨rfl,rfl⟩)|(go_at_call 151;refine(TS).mono ?_;rintro e u ⟨rfl,rfl⟩));go_round;case rel=>exact⟨k+1,X,X,by go_num,a⟩
    case measure=>simp[intOf];omega
  .have a:Hid<|j+run Zt ((bl s).drop j)=k:=JF _ s j k c m d.out λh=>absurd h n;go_wp2;go_ret;exact⟨TY<|by have:=a.out;omega,C⟩
theorem Ar(s:BA)(j:Nat){w:World}(r:s.size<=6000)(p:j<=s.size):
 CP 213 #[.string s,E j,.bool false] w λe u=>e=.returned (E ((j+run Zl ((bl s).drop j):Nat):Int))/\u=w:=by
 go_enter func213,ntmps213;go_wp2;go_loop [1] (λi=>∃k:Nat,k<=s.size/\j<=k/\i=E k/\Hid (∀q (h:q<s.size),j<=q->q<k->Zl s[q]=true)) (λi=>s.size-(intOf i).toNat);case atStart=>exact⟨j,p,Yj _,C,λq h g l=>X⟩
 case round=>
  obtain⟨k,m,c,rfl,d⟩:=hrel;by_cases n:k<s.size
  .cases o:Zl s[k]
   .have a:Hid<|j+run Zl ((bl s).drop j)=k:=JF _ s j k c m d.out λ_=>o;go_wp2_with(first|(go_at_call 108;refine(Sn).mono ?_;rintro e u ⟨rfl,rfl⟩)|(go_at_call 151;refine(TS).mono ?_;rintro e u ⟨rfl,rfl⟩));go_ret;exact⟨TY<|by have:=a.out;omega,C⟩
   .have a:Hid<|∀q (h:q<s.size),j<=q->q<k+1->Zl s[q]=true:=λq h g l=>by
      rcases Kf.1 l with f|f
      .exact d.out q h g f
      .subst f;exact o
    go_wp2_with(first|(go_at_call 108;refine(Sn).mono ?_;rintro e u ⟨rfl,rfl⟩)|(go_at_call 151;refine(TS).mono ?_;rintro e u ⟨rfl,rfl⟩));go_round;case rel=>exact⟨k+1,X,X,by go_num,a⟩
    case measure=>simp[intOf];omega
  .have a:Hid<|j+run Zl ((bl s).drop j)=k:=JF _ s j k c m d.out λh=>absurd h n;go_wp2;go_ret;exact⟨TY<|by have:=a.out;omega,C⟩
def E6(e:Ending)(ts:BA)(r:Yg×Nat):Prop:=e=.returned (.tuple #[.agg #[E (r.1.jj:Nat),.string ts,E (r.1.at_:Nat)],E (r.2:Nat)])/\bl ts=r.1.txt
theorem QD{ts:BA}{k a p:Nat}{r:Yg×Nat}{x y z:Int}(h:r=(⟨k,bl ts,a⟩,p))(c:x=(k:Nat))(d:y=(a:Nat))(e:z=(p:Nat)):E6 (.returned<|.tuple #[.agg #[E x,.string ts,E y],E z]) ts r:=by
 subst h;subst c;subst d;subst e;exact⟨C,C⟩
theorem qT{s:BA}{i:Nat}{w:World}(Q:s.size<=6000)(Z:i<=s.size):
 CP 183 #[.string s,E i] w λe u=>(∃ts:BA,E6 e ts<|Zg (bl s) i)/\BW w u:=by
 go_enter func183,ntmps183;go_wp2;go_loop [1] (λv=>∃j:Nat,j<=s.size/\v=E j/\Hid (Zg (bl s) i=Zg (bl s) j)) (λv=>s.size-(intOf v).toNat);case atStart=>exact⟨i,Z,C,C⟩
 case round=>
  obtain⟨j,U,rfl,L⟩:=hrel;by_cases r:j<s.size
  .by_cases t:s[j]=32
   .have c:Hid _:=L.out▸Bf s j r t;have hb:((s[j].toNat:Int)==32)=true:=by rw[t];rfl
    clear t;go_wp2;go_round;case rel=>exact⟨j+1,X,by go_num,c⟩
    case measure=>simp[intOf];omega
   .have c:Hid<|Zg _ i=XS _ j _ _:=L.out▸Lx s j r t;have hb:((s[j].toNat:Int)==32)=false:=by
     rw[YB];intro h;exact t<|TO.1<|by show s[j].toNat=32;omega
    have V:((j:Int)==(s.size))=false:=by rw[YB];omega
    clear t L;have g:=Te s j r;have a0:j+1<=s.size:=r;have a1:=U;cases hd:Zt s[j]
    .cases M:Zl s[j]
     .by_cases B:s[j]=34
      .have R:((s[j].toNat:Int)==34)=true:=by rw[B];rfl
       have e2:bl (s.extract (j+1) s.size)=(bl s).drop (j+1):=by rw[WL,Wm<|by rw[Zb];exact Yj _]
       have A:(s.extract (j+1) s.size).size<=6000:=by rw[V5];omega
       cases f:LS.seek 34<|bl (s.extract (j+1) s.size)with
       |none=>
        have d:Zg (bl s) i=(⟨5,bl ⟨#[]⟩,j⟩,s.size):=by
         rw[c];unfold XS;rw[hd,M,B,<-e2,f,Zb];rfl
        have o:=I f;clear c g B f e2;have c:=I d;clear d;go_wp2_with(first|(go_at_call 151;refine(TS).mono ?_;rintro e u ⟨rfl,rfl⟩)|(go_at_call 108;refine(Sn).mono ?_;rintro e u ⟨rfl,rfl⟩)|fail);refine(ON C A o.out).mono ?_;rintro e u ⟨rfl,rfl⟩;go_wp2;exact YQ (v:=.tuple #[.agg _,E<|(s.size)]) (by simp[results,results183,go_sem]) C ⟨⟨⟨#[]⟩,QD c C C X⟩,Yh⟩
       |some p=>
        have hp:p<(s.extract (j+1) s.size).size:=by rw[<-Zb];exact NI f
        rw[V5]at hp;have e3:bl (s.extract (j+1)<|j+1+p)=((bl s).drop<|j+1).take p:=by rw[WL,Ri];congr 1;omega
        have H:(s.extract (j+1)<|j+1+p).size<=6000:=by rw[V5];omega
        have a2:j+1+p<=s.size:=X;have d:Zg (bl s) i=(if ZY<|bl<|s.extract (j+1) (j+1+p)then⟨3,bl<|s.extract (j+1)<|j+1+p,j⟩else⟨5,[],j⟩,j+p+2):=by
         rw[c];unfold XS;rw[hd,M,B,<-e2,f,e3,e2];rfl
        have o:=I f;clear c g B f e2 e3;cases G:ZY<|bl<|s.extract (j+1)<|j+1+p
        .have c:Hid<|Zg (bl s) i=(⟨5,bl ⟨#[]⟩,j⟩,j+p+2):=by rw[d,G];rfl
         have S:=I G;clear d G;go_wp2_with(first|(go_at_call 151;refine(TS).mono ?_;rintro e u ⟨rfl,rfl⟩)|(go_at_call 108;refine(Sn).mono ?_;rintro e u ⟨rfl,rfl⟩)|fail);refine(Qe C A o.out).mono ?_;rintro e u ⟨rfl,rfl⟩;go_wp2_with fail;refine(Jz H S).mono ?_;rintro e u ⟨rfl,rfl⟩;go_wp2;exact YQ (v:=.tuple #[.agg _,E<|(j:Int)+p+2]) (by simp[results,results183,go_sem]) C ⟨⟨⟨#[]⟩,QD c.out C C X⟩,Yh⟩
        .have c:Hid<|Zg (bl s) i=(⟨3,bl<|s.extract (j+1)<|j+1+p,j⟩,j+p+2):=by rw[d,G];rfl
         have S:=I G;clear d G;go_wp2_with(first|(go_at_call 151;refine(TS).mono ?_;rintro e u ⟨rfl,rfl⟩)|(go_at_call 108;refine(Sn).mono ?_;rintro e u ⟨rfl,rfl⟩)|fail);refine(Qe C A o.out).mono ?_;rintro e u ⟨rfl,rfl⟩;go_wp2_with fail;refine(Jz H S).mono ?_;rintro e u ⟨rfl,rfl⟩;go_wp2;exact YQ (v:=.tuple #[.agg _,E<|(j:Int)+p+2]) (by simp[results,results183,go_sem]) C ⟨⟨(s.extract _ _),QD c.out C C X⟩,Yh⟩
      .have R:((s[j].toNat:Int)==34)=false:=by
        rw[YB];intro h;exact B<|TO.1<|by show s[j].toNat=34;omega
       have P:(s[j]==34)=false:=by rwa [YB]
       have d:Zg (bl s) i=if s[j]==33&&((bl s).drop<|j+1).head?==some 61 then(⟨4,[33,61],j⟩,j+2)else if(LS.seek s[j] QH).isSome then(⟨4,[s[j]],j⟩,j+1)else(⟨5,[],j⟩,j+1):=by
        rw[c];unfold XS;rw[hd,M,P];rfl
       clear c;have z:(∃h:j+1<s.size,((s[j].toNat:Int)==33)=true/\((s[j+1].toNat:Int)==61)=true/\(s[j]==33&&((bl s).drop<|j+1).head?==some 61)=true)∨
        ((((s[j].toNat:Int)==33)=false∨(((s[j].toNat:Int)==33)=true/\¬j+1<s.size)∨(∃h:j+1<s.size,((s[j].toNat:Int)==33)=true/\((s[j+1].toNat:Int)==61)=false))/\(s[j]==33&&((bl s).drop<|j+1).head?==some 61)=false):=by
        by_cases D:s[j]=33
        .have b33:((s[j].toNat:Int)==33)=true:=by rw[D];rfl
         by_cases l:j+1<s.size
         .rw[Te s _ l];by_cases F:s[j+1]=61
          .exact .inl ⟨l,b33,by rw[F];rfl,by rw[D,F];rfl⟩
          .refine .inr ⟨.inr<|.inr ⟨l,b33,?_⟩,by simp[F]⟩;rw[YB];intro h;exact F<|TO.1<|by show s[j+1].toNat=61;omega
         .refine .inr ⟨.inr<|.inl ⟨b33,l⟩,?_⟩;rw[Ts<|by rw[Zb];omega];simp
        .refine .inr ⟨.inl ?_,by simp[D]⟩;rw[YB];intro h;exact D<|TO.1<|by show s[j].toNat=33;omega
       clear g B P;rcases z with⟨l,b33,b61,x⟩|⟨z,x⟩
       .have c:Hid<|Zg (bl s) i=(⟨4,bl ⟨#[33,61]⟩,j⟩,j+2):=by rw[d,Ye x];rfl
        clear d x;go_wp2_with(first|(go_at_call 151;refine(TS).mono ?_;rintro e u ⟨rfl,rfl⟩)|(go_at_call 108;refine(Sn).mono ?_;rintro e u ⟨rfl,rfl⟩)|fail);exact YQ (v:=.tuple #[.agg _,E<|(j)+2]) (by simp[results,results183,go_sem]) C ⟨⟨⟨#[33,61]⟩,QD c.out C C X⟩,Yh⟩
       .rw[x]at d;have e1:bl (s.extract j<|j+1)=[s[j]]:=by
         rw[WL,Ri,Te s j r,Nat.add_sub_cancel_left];rfl
        have J:(⟨#[40,41,123,125,91,93,44,61,43,45,42,47]⟩:BA).size<=6000:=N;have ebs:bl ⟨#[40,41,123,125,91,93,44,61,43,45,42,47]⟩=QH:=C;cases f:LS.seek s[j] QH with
        |none=>
         have c:Hid<|Zg (bl s) i=(⟨5,bl ⟨#[]⟩,j⟩,j+1):=by rw[d,f];rfl
         have o:Hid<|LS.seek _ (bl ⟨#[40,41,123,125,91,93,44,61,43,45,42,47]⟩)=none:=f;clear d x f e1 ebs;rcases z with b33|⟨b33,l⟩|⟨l,b33,b61⟩;all_goals
          go_wp2_with(first|(go_at_call 151;refine(TS).mono ?_;rintro e u ⟨rfl,rfl⟩)|(go_at_call 108;refine(Sn).mono ?_;rintro e u ⟨rfl,rfl⟩)|fail);refine(ON C J o).mono ?_;rintro e u ⟨rfl,rfl⟩;go_wp2;exact YQ (v:=.tuple #[.agg _,E<|(j:Int)+1]) (by simp[results,results183,go_sem]) C ⟨⟨⟨#[]⟩,QD (k:=5) (a:=j) c.out C C X⟩,Yh⟩
        |some p=>
         have c:Hid<|Zg (bl s) i=(⟨4,bl<|s.extract j<|j+1,j⟩,j+1):=by rw[d,f,e1];rfl
         have o:Hid<|LS.seek _ (bl ⟨#[40,41,123,125,91,93,44,61,43,45,42,47]⟩)=some p:=f;clear d x f e1 ebs;rcases z with b33|⟨b33,l⟩|⟨l,b33,b61⟩;all_goals
          go_wp2_with(first|(go_at_call 151;refine(TS).mono ?_;rintro e u ⟨rfl,rfl⟩)|(go_at_call 108;refine(Sn).mono ?_;rintro e u ⟨rfl,rfl⟩)|fail);refine(Qe C J o).mono ?_;rintro e u ⟨rfl,rfl⟩;go_wp2;exact YQ (v:=.tuple #[.agg _,E<|(j:Int)+1]) (by simp[results,results183,go_sem]) C ⟨⟨(s.extract j<|j+1),QD (k:=4) (a:=j) (p:=j+1) c.out C C X⟩,Yh⟩
     .have q:run Zl _<=((bl s).drop j).length:=NH _ _;rw[Ur,Zb]at q;have d:Zg (bl s) i=(if 8<run Zl ((bl s).drop j)then⟨5,[],j⟩else⟨2,((bl s).drop j).take<|run Zl<|(bl s).drop j,j⟩,j+run Zl ((bl s).drop j)):=by
       rw[c];unfold XS;rw[hd,M,<-g];rfl
      obtain⟨n,l⟩:∃n,run Zl ((bl s).drop j)=n:=⟨_,C⟩;rw[l]at d q;have K:=I d;have O:=I l;clear d l c g;have T:j+n<=s.size:=X;have e3:bl (s.extract j<|j+n)=((bl s).drop j).take n:=by rw[WL,Ri];congr 1;omega
      have E3:=I e3;clear e3;by_cases W:8<n
      .have c:Hid<|Zg (bl s) i=(⟨5,bl ⟨#[]⟩,j⟩,j+n):=by rw[K,Ye W];rfl
       go_wp2_with(first|(go_at_call 151;refine(TS).mono ?_;rintro e u ⟨rfl,rfl⟩)|(go_at_call 108;refine(Sn).mono ?_;rintro e u ⟨rfl,rfl⟩)|fail);refine(Ar s j Q X).mono ?_;rintro e u ⟨rfl,rfl⟩;rw[O];go_wp2;exact YQ (v:=.tuple #[.agg _,E<|(j:Int)+n]) (by simp[results,results183,go_sem]) C ⟨⟨⟨#[]⟩,QD (k:=5) (a:=j) c.out C C X⟩,Yh⟩
      .have c:Hid<|Zg _ i=(⟨2,bl _,j⟩,j+n):=I<|by rw[K,Yd W,E3]
       go_wp2_with(first|(go_at_call 151;refine(TS).mono ?_;rintro e u ⟨rfl,rfl⟩)|(go_at_call 108;refine(Sn).mono ?_;rintro e u ⟨rfl,rfl⟩)|fail);refine(Ar s j Q X).mono ?_;rintro e u ⟨rfl,rfl⟩;rw[O];go_wp2;exact YQ (v:=.tuple #[.agg _,E<|(j:Int)+n]) (by simp[results,results183,go_sem]) C ⟨⟨(s.extract j<|j+n),QD (k:=2) (a:=j) c.out C C X⟩,Yh⟩
    .have q:run Zt _<=((bl s).drop j).length:=NH _ _;rw[Ur,Zb]at q;have d:Zg (bl s) i=(if(ZC 1000000000<|((bl s).drop j).take<|run Zt<|(bl s).drop j).isSome then⟨1,((bl s).drop j).take<|run Zt<|(bl s).drop j,j⟩else⟨5,[],j⟩,j+run Zt ((bl s).drop j)):=by
      rw[c];unfold XS;rw[hd,<-g];rfl
     obtain⟨n,l⟩:∃n,run Zt ((bl s).drop j)=n:=⟨_,C⟩;rw[l]at d q;have O:=I l;clear l c g;have T:j+n<=s.size:=X;have e3:bl (s.extract j<|j+n)=((bl s).drop j).take n:=by rw[WL,Ri];congr 1;omega
     have A:(s.extract j<|j+n).size<=6000:=by rw[V5];omega
     rw[<-e3]at d;have K:=I d;clear e3 d;have Y:=Ny 1000000000<|bl<|s.extract j<|j+n;go_wp2_with(first|(go_at_call 151;refine(TS).mono ?_;rintro e u ⟨rfl,rfl⟩)|(go_at_call 108;refine(Sn).mono ?_;rintro e u ⟨rfl,rfl⟩)|fail);refine(yz s j Q X).mono ?_;rintro e u ⟨rfl,rfl⟩;rw[O];go_wp2_with fail;refine(LJ 1000000000 C A X).mono ?_;rintro e u ⟨rfl,rfl⟩;cases m:ZC 1000000000<|bl<|s.extract j (j+n)with
     |none=>
      have c:Hid<|Zg (bl s) i=(⟨5,bl ⟨#[]⟩,j⟩,j+n):=by rw[K,m];rfl
      rw[P1 m];clear m Y;go_wp2;exact YQ (v:=.tuple #[.agg _,E<|(j:Int)+n]) (by simp[results,results183,go_sem]) C ⟨⟨⟨#[]⟩,QD (k:=5) (a:=j) (p:=j+n) c.out C C X⟩,Yh⟩
     |some v=>
      have c:Hid<|Zg (bl s) i=(⟨1,bl<|s.extract j<|j+n,j⟩,j+n):=by rw[K,m];rfl
      rw[RB m];clear m Y;go_wp2;exact YQ (v:=.tuple #[.agg _,E<|(j:Int)+n]) (by simp[results,results183,go_sem]) C ⟨⟨(s.extract j<|j+n),QD (k:=1) (a:=j) c.out C C X⟩,Yh⟩
  .have c:Hid _:=L.out▸LS.Zkg s j r U;have V:((j:Int)==(s.size))=true:=by rw[XL];omega
   go_wp2;exact YQ (by simp[results,results183,go_sem]) C ⟨⟨⟨#[]⟩,QD c.out C C C⟩,Yh⟩
end Go.Proofs.YtmfnolgpaoldpaaGreatDoor
namespace Go.Proofs.YtmfnolgpaoldpaaGreatDoor.LS
open Go Go.RowKit
structure Nd where
 jj:Nat
 op:Nat
 n:Int
 name:LB
 kq:List<|LB×LB×Bool
 by_:List<|LB
abbrev Tr:=Go.Deep.BT Nd
abbrev Yl (α:Type):=Except (Nat×Nat)<|α×List Yg
def TX(a:Nd):Tr:=.node 0 0 a .nil .nil
def VM(jj op:Nat):Nd:=⟨jj,op,0,[],[],[]⟩
def Z7(l:LB):Nat->Nat->List Yg
 |0,_=>[]
 |n+1,i=>if(Zg l i).1.jj=0∨(Zg l i).1.jj=5 then[(Zg l i).1]else(Zg l i).1::Z7 l n (Zg l i).2
def hd(ts:List Yg):Yg:=ts.headD ⟨0,[],0⟩
def UD:LB:=[111,114]
def UZ:LB:=[98,121]
def Wu:List<|LB:=[[115,117,109],[109,97,120],[109,105,110],[99,111,117,110,116]]
def WN:List<|LB:=[[116,111,116,97,108],[112,101,97,107],[108,111,119],[115,105,122,101],[114,105,115,101]]
def Y7(w:LB):List (LB)->Option Nat
 |[]=>none
 |x::l=>if x=w then some 0 else(Y7 w l).map (·+1)
def Yk(s:LB)(t:Yg):Bool:=(t.jj==2||t.jj==4)&&t.txt==s
def bnd{α β:Type}(x:Yl α)(f:α->List Yg->Yl β):Yl β:=match x with
 |.error e=>.error e
 |.ok (a,ts)=>f a ts
def Zf(s:LB)(ts:List Yg):Yl Unit:=if Yk s (hd ts)then .ok ((),ts.tail)else .error (2,(hd ts).at_)
def Zk(k:Nat)(ts:List Yg):Yl<|LB:=if(hd ts).jj=k then .ok ((hd ts).txt,ts.tail)else .error (2,(hd ts).at_)
def ZI{α:Type}(item:List Yg->Yl α)(close:LB):Nat->List α->List Yg->Yl (List α)
 |0,_,_=>.error (0,0)
 |n+1,acc,ts=>if Yk close<|hd ts then .ok (acc,ts.tail)else
  bnd (if acc.isEmpty then .ok ((),ts)else Zf [44] ts) λ_ r=>bnd (item r) λa r=>ZI item close n (acc++[a]) r
def RC(ts:List Yg):Yl Bool:=if Yk [33,61] (hd ts)then .ok (true,ts.tail)else bnd (Zf [61] ts) λ_ r=>.ok (false,r)
def ZK(ts:List Yg):Yl<|LB×LB×Bool:=bnd (Zk 2 ts) λa r=>bnd (RC r) λn r=>bnd (Zk 3 r) λb r=>.ok ((a,b,n),r)
def Qc(t:Yg):Bool:=(Y7 t.txt Wu).isSome||(Y7 t.txt WN).isSome||Yk UD t||Yk UZ t
def Qb(ts:List Yg):Yl<|LB:=if Qc (hd ts)then .error (2,(hd ts).at_)else Zk 2 ts
def YP(ts:List Yg):Yl Nd:=bnd (Qb ts) λa r=>if Yk [123] (hd r)then bnd (ZI ZK [125] r.length [] r.tail) λcs r=>.ok (⟨1,0,0,a,cs,[]⟩,r)else .ok (⟨1,0,0,a,[],[]⟩,r)
def T0(ts:List Yg):Yl Int:=if(hd ts).jj=1/\1<=YL 1000 (hd ts).txt then .ok (YL 1000 (hd ts).txt,ts.tail)else .error (2,(hd ts).at_)
def Xu(o:Nat)(ts:List Yg):Yl Tr:=bnd (Zf [40] ts) λ_ r=>bnd (YP r) λp r=>bnd (Zf [91] r) λ_ r=>bnd (T0 r) λn r=>bnd (Zf [93] r) λ_ r=>bnd (Zf [41] r) λ_ r=>.ok (TX ⟨2,o,n,p.name,p.kq,[]⟩,r)
def Z9(rec:Nat->List Yg->Nat->Yl Tr)(ts:List Yg)(deep:Nat):Yl Tr:=bnd (Zf [40] ts) λ_ r=>bnd (rec 0 r deep) λa r=>bnd (Zf [41] r) λ_ r=>.ok (a,r)
def Tg(rec:Nat->List Yg->Nat->Yl Tr)(g:Nat)(ts:List Yg)(deep:Nat):Yl Tr:=bnd (Zf UZ ts) λ_ r=>bnd (Zf [40] r) λ_ r=>bnd (ZI (Zk 2) [41] (r.length+1) [] r) λns r=>bnd (Z9 rec r deep) λa r=>.ok (.node 0 0 ⟨5,g,0,[],[],ns⟩ a .nil,r)
def Qg(t:Yg):Bool:=t.jj==1||Yk [45] t||Yk [40] t||(t.jj==2&&!Yk UD t&&!Yk UZ t)
def Wz(l:LB):Int:=((ZC 1000000000 l).getD 0:Nat)
def ZR(rec:Nat->List Yg->Nat->Yl Tr)(ts:List Yg)(deep:Nat):Yl Tr:=
 if(hd ts).jj=1 then .ok (TX ⟨0,0,Wz (hd ts).txt,[],[],[]⟩,ts.tail)
 else if Yk [45] (hd ts)then bnd (rec 3 ts.tail deep) λa r=>.ok (.node 0 0 (VM 3 0) a .nil,r)
 else if Yk [40] (hd ts)then Z9 rec ts deep
 else match Y7 (hd ts).txt Wu with
  |some g=>Tg rec g ts.tail deep
  |none=>match Y7 (hd ts).txt WN with
   |some o=>Xu o ts.tail
   |none=>bnd (YP ts) λp r=>.ok (TX p,r)
def Ug(rec:Nat->List Yg->Nat->Yl Tr)(ts:List Yg)(deep:Nat):Yl Tr:=
 if Qg (hd ts)then(if deep=20 then .error (3,(hd ts).at_)else ZR rec ts<|deep+1)else .error (2,(hd ts).at_)
def opAt(lv:Nat)(t:Yg):Option<|Nat×Nat:=
 if lv=0 then(if Yk UD t then some (6,0)else none)
 else if lv=1 then(if Yk [43] t then some (4,0)else if Yk [45] t then some (4,1)else none)
 else(if Yk [42] t then some (4,2)else if Yk [47] t then some (4,3)else none)
def Zh:Nat->Bool->Nat->Tr->List Yg->Nat->Yl Tr
 |0,_,_,_,_,_=>.error (0,0)
 |n+1,false,lv,_,ts,deep=>if lv=3 then Ug (λlv ts d=>Zh n false lv .nil ts d) ts deep
  else bnd (Zh n false (lv+1) .nil ts deep) λa r=>Zh n true lv a r deep
 |n+1,true,lv,a,ts,deep=>match opAt lv<|hd ts with
  |none=>.ok (a,ts)
  |some p=>bnd (Zh n false (lv+1) .nil ts.tail deep) λb r=>Zh n true lv (.node 0 0 (VM p.1 p.2) a b) r deep
def Zq:Tr->Nat
 |.nil=>1
 |.node _ _ a l r=>if a.jj=0 then 1 else if a.jj=1∨a.jj=2 then 2 else if a.jj=3 then Zq l
  else if a.jj=5 then(if Zq l=2 then 2 else 0)
  else if Zq l=0∨Zq r=0∨(a.jj=6/\Zq l+Zq r≠4)then 0 else if Zq l+Zq r=2 then 1 else 2
def Z5(l:LB):Except (Nat×Nat) Tr:=
 if 300<l.length then .error (1,0)else
 match Zh (10*(Z7 l (l.length+1) 0).length+5) false 0 .nil (Z7 l (l.length+1) 0) 0 with
 |.error e=>.error e
 |.ok (t,r)=>if(hd r).jj=0 then(if Zq t=0 then .error (4,0)else .ok t)else .error (2,(hd r).at_)
def V0(a:Nd):Nat:=if a.jj=6 then 1 else if a.jj=4 then(if a.op<2 then 2 else 3)else 4
def commas:List (LB)->LB
 |[]=>[]
 |[a]=>a
 |a::l=>a++44::commas l
def VT(c:LB×LB×Bool):LB:=c.1++(if c.2.2 then[33,61]else[61])++[34]++c.2.1++[34]
def Xl(a:Nd):LB:=if a.kq=[]then a.name else a.name++[123]++commas (a.kq.map VT)++[125]
end Go.Proofs.YtmfnolgpaoldpaaGreatDoor.LS
namespace Go.Proofs.YtmfnolgpaoldpaaGreatDoor
open Go.RowKit LS Go.Proofs.Tryz
structure QV where
 pv:Value
 s:BA
 at_:Nat
 k:Nat
 tx:BA
 ta:Nat
 deep:Nat
 e:Nat
 pl:Nat
def QV.cells(q:QV):Array Value:=#[q.pv,.string q.s,E q.at_,E q.k,.string q.tx,E q.ta,E q.deep,E q.e,E q.pl]
def YN(w:World)(b:Nat)(q:QV):Prop:=w.heap[b]?=some (.cells q.cells 264 (0,0))
theorem YN.lt{w:World}{b:Nat}{q:QV}(h:YN w b q):b<w.heap.size:=(Xr.1 h).1
theorem YN.frozen{w:World}{b:Nat}{q:QV}(h:YN w b q)(o:Nat):w.frozen? ⟨b,o,none⟩=false:=by
 unfold YN at h;simp[World.frozen?,h]
theorem YN.cell{w:World}{b:Nat}{q:QV}(h:YN w b q)(o:Nat)(v:Value)(a:q.cells[o]?=some v):w.cell? ⟨b,o,none⟩=some v:=by
 unfold YN at h;simp only[World.cell?,h];simpa using a
theorem YN.all{w:World}{b:Nat}{q:QV}(h:YN w b q):
 w.cell? ⟨b,0,none⟩=some q.pv/\w.cell? ⟨b,1,none⟩=some (.string q.s)/\w.cell? ⟨b,2,none⟩=some (E q.at_)/\w.cell? ⟨b,3,none⟩=some (E q.k)/\w.cell? ⟨b,4,none⟩=some (.string q.tx)/\
 w.cell? ⟨b,5,none⟩=some (E q.ta)/\w.cell? ⟨b,6,none⟩=some (E q.deep)/\w.cell? ⟨b,7,none⟩=some (E q.e)/\w.cell? ⟨b,8,none⟩=some (E q.pl):=
 ⟨h.cell 0 _ C,h.cell 1 _ C,h.cell 2 _ C,h.cell 3 _ C,h.cell 4 _ C,h.cell 5 _ C,h.cell 6 _ C,h.cell 7 _ C,h.cell 8 _ C⟩
theorem YN.set{w:World}{b:Nat}{q q':QV}(h:YN w b q)(o:Nat)(v:Value)(a:q.cells.setIfInBounds o v=q'.cells):YN (w.setCell ⟨b,o,none⟩ v) b q':=by
 unfold YN at h⊢;simp only[World.setCell,V4,h,VE,Wr];rw[<-a];rfl
theorem YN.other{w:World}{b:Nat}{q:QV}(h:YN w b q){a:Addr}(c:b≠a.block)(v:Value):YN (w.setCell a v) b q:=(Go.Deep.blk_setCell_other w a v b c).trans h
theorem YN.alloc{w:World}{b:Nat}{q:QV}(h:YN w b q)(o:Obj):YN (w.alloc o) b q:=(Go.Deep.blk_alloc_lt w o b h.lt).trans h
theorem YN.below{w w':World}{b:Nat}{q:QV}(h:YN w b q)(a:BW w w'):YN w' b q:=(a.block b h.lt).trans h
theorem ZB{w w':World}{r:Option Nat}(h:BW w w'):w.grownBy w' r:=⟨h.os,h.tape,h.output,h.size,λk a _=>h.block k a⟩
theorem Z2(w:World)(r:Option Nat):w.grownBy w r:=⟨C,C,C,Yj _,λ_ _ _=>C⟩
theorem Zi{a b c:World}{r:Option Nat}(h:a.grownBy b r)(d:b.grownBy c r):a.grownBy c r:=
 ⟨d.os.trans h.os,d.tape.trans h.tape,d.output.trans h.output,Xb h.size d.size,λk e f=>(d.block k (WH e h.size) f).trans<|h.block k e f⟩
theorem Zn{a w:World}{b:Nat}(h:a.grownBy w<|some b){p:Addr}(e:p.block=b∨a.heap.size<=p.block)(v:Value):a.grownBy (w.setCell p v)<|some b:=
 ⟨h.os,h.tape,h.output,by rw[Go.Deep.nblk_setCell];exact h.size,λk c d=>(Go.Deep.blk_setCell_other w p v k<|by simp_all;omega).trans<|h.block k c d⟩
theorem Vh{a w:World}{r:Option Nat}(h:a.grownBy w r)(o:Obj):a.grownBy (w.alloc o) r:=
 ⟨h.os,h.tape,h.output,by rw[Go.Deep.nblk_alloc];have:=h.size;omega,λk c d=>(Go.Deep.blk_alloc_lt w o k<|WH c h.size).trans<|h.block k c d⟩
theorem TV{a w:World}{r:Option Nat}(h:a.grownBy w r):a.grownBy w.drew r:=⟨h.os,h.tape,h.output,h.size,h.block⟩
theorem Qz{a b c:World}{r:Option Nat}(h:a.grownBy b r)(d:BW b c):a.grownBy c r:=Zi h<|ZB d
theorem wY{w W a:World}{x y z:Value}{t:TypeId}(d:BW W a)(c:W.heap=(w.alloc<|.cells #[x,y,z] t).heap):
 a.cell? ⟨w.heap.size,0,none⟩=some x/\a.cell? ⟨w.heap.size,1,none⟩=some y/\a.cell? ⟨w.heap.size,2,none⟩=some z/\
 a.frozen? ⟨w.heap.size,0,none⟩=false/\a.frozen? ⟨w.heap.size,1,none⟩=false/\a.frozen? ⟨w.heap.size,2,none⟩=false:=by
 have e:W.heap.size=w.heap.size+1:=by rw[c];exact Go.Deep.nblk_alloc _ _
 have h:a.heap[w.heap.size]?=some (.cells #[x,y,z] t):=by
  rw[d.block _ X,c];exact Go.Deep.blk_alloc_new _ _
 refine⟨?_,?_,?_,?_,?_,?_⟩<;>simp[World.cell?,World.frozen?,h]
theorem Ml{W:World}{x o p:Nat}{a:Value}{r:Option Value}(h:W.cell? ⟨x,o,none⟩=r)(c:p≠o):(W.setCell ⟨x,p,none⟩ a).cell? ⟨x,o,none⟩=r:=
 (World.cell?_setCell_other _ _ _ _<|by intro e;injection e with _ e2;exact c e2).trans h
theorem hU{W:World}{x:Nat}{u v y a b c:Value}(k0:W.cell? ⟨x,0,none⟩=some u)(k1:W.cell? ⟨x,1,none⟩=some v)(k2:W.cell? ⟨x,2,none⟩=some y):
 (((W.setCell ⟨x,0,none⟩ a).setCell ⟨x,1,none⟩ b).setCell ⟨x,2,none⟩ c).cell? ⟨x,0,none⟩=some a/\(((W.setCell ⟨x,0,none⟩ a).setCell ⟨x,1,none⟩ b).setCell ⟨x,2,none⟩ c).cell? ⟨x,1,none⟩=some b/\
 (((W.setCell ⟨x,0,none⟩ a).setCell ⟨x,1,none⟩ b).setCell ⟨x,2,none⟩ c).cell? ⟨x,2,none⟩=some c:=
 ⟨Ml (Ml (Ke _ _ _ k0) N) N,Ml (Ke _ _ _<|Ml k1 N) N,Ke _ _ _<|Ml (Ml k2 N) N⟩
theorem ja(w:World)(b:Nat)(q:QV)(e:Nat)(h:YN w b q)(a:q.e=0):
 CP 154 #[Vp b,E e] w λr u=>r=.returned (.tuple #[])/\YN u b {q with e:=e,pl:=q.ta}/\w.grownBy u (some b):=by
 obtain⟨c0,c1,c2,c3,c4,c5,c6,c7,c8⟩:=h.all;have f7:=h.frozen 7;have f8:=h.frozen 8;have d:((q.e:Int)==0)=true:=by rw[a];rfl
 have c:Hid<|YN w b q:=h;clear h a;go_enter func154,ntmps154;go_wp2;go_end0;exact⟨C,YN.set (YN.set (q':={q with e:=e}) c.out 7 _ C) 8 _ C,(by repeat(first|exact Z2 _ _|assumption|refine Zn ?_ (by first|exact Or.inl C|(right;omega)|(right;simp;omega)) _|refine Vh ?_ _|refine TV ?_))⟩
theorem kZ(w:World)(b:Nat)(q:QV)(e:Int)(h:YN w b q)(a:q.e≠0):
 CP 154 #[Vp b,E e] w λr u=>r=.returned (.tuple #[])/\u=w:=by
 obtain⟨c0,c1,c2,c3,c4,c5,c6,c7,c8⟩:=h.all;have c:((q.e:Int)==0)=false:=by rw[YB];omega
 have d:Hid<|YN w b q:=h;clear h a;go_enter func154,ntmps154;go_wp2;go_end0;exact⟨C,C⟩
theorem jb(w:World)(b:Nat)(q:QV)(s:BA)(h:YN w b q)(a:q.e≠0):
 CP 185 #[Vp b,.string s] w λr u=>r=.returned (.bool false)/\u=w:=by
 obtain⟨c0,c1,c2,c3,c4,c5,c6,c7,c8⟩:=h.all;have c:((q.e:Int)==0)=false:=by rw[YB];omega
 have d:Hid<|YN w b q:=h;clear h a;go_enter func185,ntmps185;go_wp2;go_ret;exact⟨C,C⟩
def S4(q:QV):Yg:=⟨q.k,bl q.tx,q.ta⟩
theorem pY (s:BA)(q:QV):Yk (bl s) (S4 q)=((((q.k:Int)==2)||((q.k:Int)==4))&&(q.tx.toList==s.toList)):=by
 unfold Yk S4;rw[ZA,ZA];have e2:((q.k:Int)==2)=(q.k==2):=by rw[Ud,XL,XL];omega
 have e4:((q.k:Int)==4)=(q.k==4):=by rw[Ud,XL,XL];omega
 rw[e2,e4]
theorem jc(w:World)(b:Nat)(q:QV)(s:BA)(h:YN w b q)(a:q.e=0):
 CP 185 #[Vp b,.string s] w λr u=>r=.returned (.bool<|Yk (bl s)<|S4 q)/\u=w:=by
 obtain⟨c0,c1,c2,c3,c4,c5,c6,c7,c8⟩:=h.all;have g:((q.e:Int)==0)=true:=by rw[a];rfl
 have i:Hid<|YN w b q:=h;clear h a;rw[pY];generalize c:((q.k:Int)==2)=x2;generalize d:((q.k:Int)==4)=x4;generalize f:(q.tx.toList==s.toList)=xs;go_enter func185,ntmps185;cases x2<;>cases x4<;>cases xs<;>(go_wp2;go_ret;exact⟨C,C⟩)
theorem Ak(w:World)(b:Nat)(q:QV)(h:YN w b q)(A:q.s.size<=6000)(B:q.at_<=q.s.size):
 CP 152 #[Vp b] w λr u=>r=.returned (.tuple #[])/\(∃ts:BA,bl ts=(Zg (bl q.s) q.at_).1.txt/\
  YN u b {q with at_:=(Zg (bl q.s) q.at_).2,k:=(Zg (bl q.s) q.at_).1.jj,tx:=ts,ta:=(Zg (bl q.s) q.at_).1.at_})/\w.grownBy u (some b):=by
 obtain⟨c0,c1,c2,c3,c4,c5,c6,c7,c8⟩:=h.all;have J:=h.lt;have p:Hid<|YN w b q:=h;clear h;generalize v:Zg (bl q.s) q.at_=r;have D:Hid _:=v;clear v;go_enter func152,ntmps152;go_upto_region 0 with fail;go_cut [2,3] (λs2 s3 f=>∃(x:Nat)(ts:BA),s2=Vp x/\s3=E r.2/\Hid (bl ts=r.1.txt)/\b≠x/\Hid (YN f b q)/\Hid (w.grownBy f<|some b)/\
  f.cell? ⟨x,0,none⟩=some (E r.1.jj)/\f.cell? ⟨x,1,none⟩=some (.string ts)/\f.cell? ⟨x,2,none⟩=some (E r.1.at_));case first=>
  go_region_with (go_at_call 183;refine(qT A B).mono ?_;rintro e g ⟨⟨ts,j⟩,a⟩;rw[D.out]at j;obtain⟨rfl,l⟩:=j;try(have m:=wY (w:=w) (x:=E 0) (y:=.string ⟨#[]⟩) (z:=E 0) (t:=262) a C;obtain⟨k0,k1,k2,g0,g1,g2⟩:=m));all_goals
   have n:YN g b q:=by first|exact YN.below (w:=w.drew) p.out a|exact YN.below (w:=(w.alloc _).drew) (YN.alloc p.out _) a
   have i:w.grownBy g<|some b:=by first|exact Qz (b:=w.drew) (TV<|Z2 _ _) a|exact Qz (b:=(w.alloc _).drew) (TV<|Vh (Z2 _ _) _) a
   have K:w.heap.size<=g.heap.size:=i.size;have d:b≠w.heap.size:=X;have o:b≠g.heap.size:=X;clear c0 c1 c2 c3 c4 c5 c6 c7 c8 a;go_wp2_with fail;go_meet;first
    |exact⟨g.heap.size,ts,C,C,l,o,YN.alloc n _,Vh i _,Sm,Sm,Sm⟩
    |exact⟨w.heap.size,ts,C,C,l,d,YN.other (YN.other (YN.other n d _) d _) d _,Zn (Zn (Zn i (Or.inr<|Yj _) _) (Or.inr<|Yj _) _) (Or.inr<|Yj _) _,hU k0 k1 k2⟩
 case rest=>
  obtain⟨x,ts,rfl,rfl,F,m,c,G,k0,k1,k2⟩:=hcut;clear c0 c1 c2 c3 c4 c5 c6 c7 c8;obtain⟨c0,c1,c2,c3,c4,c5,c6,c7,c8⟩:=YN.all c.out;have f2:=YN.frozen c.out 2;have f3:=YN.frozen c.out 3;have f4:=YN.frozen c.out 4;have f5:=YN.frozen c.out 5;go_wp2;go_end0;have H:=c.out;have L:=G.out;refine⟨C,⟨ts,F.out,?_⟩,(by repeat(first|exact Z2 _ _|assumption|refine Zn ?_ (by first|exact Or.inl C|(right;omega)|(right;simp;omega)) _|refine Vh ?_ _|refine TV ?_))⟩;refine YN.set (q:={q with k:=r.1.jj,tx:=ts,ta:=r.1.at_}) ?_ 2 _ C;refine YN.set (q:={q with k:=r.1.jj,tx:=ts}) ?_ 5 _ C;refine YN.set (q:={q with k:=r.1.jj}) ?_ 4 _ C;refine YN.set (q:=q) ?_ 3 _ C;exact H
end Go.Proofs.YtmfnolgpaoldpaaGreatDoor
namespace Go.Proofs.YtmfnolgpaoldpaaGreatDoor.LS
open Go Go.RowKit
theorem pT(l:LB){j:Nat}(c:UInt8)(r:LB)(e:l.drop j=c::r):j<(XS l j c r).2/\(XS l j c r).2<=l.length:=by
 have f:l.length=j+(r.length+1):=by
  have:=congrArg List.length e;simp at this;have d:j<=l.length:=by
   rcases Sg l.length j with h|h
   .omega
   .exact h
  omega
 unfold XS;split
 .rename_i hd;have g:=NH Zt<|c::r;have d:0<run Zt (c::r):=by simp[run,hd]
  simp_all
 .split
  .rename_i hd;have g:=NH Zl<|c::r;have d:0<run Zl (c::r):=by simp[run,hd]
   simp_all
  .split
   .split
    .omega
    .rename_i p i;have:=NI i;omega
   .split
    .rename_i k;have:0<r.length:=by
      cases r with
     |nil=>simp at k
     |cons a r=>simp
     omega
    split<;>omega
theorem Nw(l:LB)(i:Nat)(d:i<=l.length):((Zg l i).1.jj≠0->i<(Zg l i).2)/\(Zg l i).2<=l.length:=by
 unfold Zg;have a:=NH (·==32)<|l.drop i;rw[Ur]at a;generalize run (·==32) (l.drop i)=n at*;unfold UV;cases hd:l.drop (i+n)with
 |nil=>simp_all;omega
 |cons c r=>have:=pT l c r hd;simp_all;omega
theorem Ly(l:LB)(i:Nat):(Zg l i).1.txt.length<=l.length+2:=by
 unfold Zg UV;split
 .simp
 .rename_i c r hd;have a:r.length+1<=l.length:=by
   have:=congrArg List.length hd;rw[Ur,Y1]at this;omega
  unfold XS;split
  .split
   .simp_all;omega
   .simp
  .split
   .split
    .simp
    simp_all;omega
   .split
    .split
     .simp
     .split
      .simp_all;omega
      .simp
    .split
     .simp
     split<;>simp
theorem KN{l:LB}{i:Nat}:(Zg l i).1.jj=1->(ZC 1000000000 (Zg l i).1.txt).isSome=true:=by
 unfold Zg UV;split
 .intro h;cases h
 .rename_i c r hd;unfold XS;split
  .split
   .rename_i h;intro _;exact h
   .intro h;cases h
  .split
   .split
    .intro h;cases h
    .intro h;cases h
   .split
    .split
     .intro h;cases h
     .split
      .intro h;cases h
      .intro h;cases h
    .split
     .intro h;cases h
     .split
      .intro h;cases h
      .intro h;cases h
def XB(l:LB)(t:Yg)(at_:Nat)(ts:List Yg):Prop:=∃r,ts=t::r/\((t.jj=0∨t.jj=5)->r=[])/\(¬(t.jj=0∨t.jj=5)->∃n,l.length+1<=n+at_/\r=Z7 l n at_)/\t.txt.length<=l.length+2/\(t.jj=1->(ZC 1000000000 t.txt).isSome=true)
theorem XB.hd{l:LB}{t:Yg}{at_:Nat}{ts:List Yg}(h:XB l t at_ ts):LS.hd ts=t:=by obtain⟨r,rfl,_⟩:=h;rfl
theorem XB.pos{l:LB}{t:Yg}{at_:Nat}{ts:List Yg}(h:XB l t at_ ts):ts.length=ts.tail.length+1:=by obtain⟨r,rfl,_⟩:=h;rfl
theorem XB.next{l:LB}{t:Yg}{at_:Nat}{ts:List Yg}(h:XB l t at_ ts)(c:¬(t.jj=0∨t.jj=5))(d:at_<=l.length):XB l (Zg l at_).1 (Zg l at_).2 ts.tail:=by
 obtain⟨r,rfl,_,h,_⟩:=h;obtain⟨n,f,rfl⟩:=h c;obtain⟨m,rfl⟩:∃m,n=m+1:=⟨n-1,X⟩;have e:=Nw l at_ d;show XB _ _ _<|Z7 l (m+1) at_;unfold Z7;by_cases a:(Zg l at_).1.jj=0∨(Zg l at_).1.jj=5
 .rw[Ye a];exact⟨[],C,λ_=>C,λh=>absurd a h,Ly _ _,KN⟩
 .rw[Yd a];refine⟨_,C,λh=>absurd h a,λ_=>⟨m,?_,C⟩,Ly _ _,KN⟩;have:=e.1 λh=>a<|Or.inl h;omega
theorem XB.start(l:LB):XB l (Zg l 0).1 (Zg l 0).2<|Z7 l (l.length+1) 0:=by
 have c:=Nw l 0<|Yr _;show XB _ _ _<|Z7 l (l.length+1) 0;unfold Z7;by_cases a:(Zg l 0).1.jj=0∨(Zg l 0).1.jj=5
 .rw[Ye a];exact⟨[],C,λ_=>C,λh=>absurd a h,Ly _ _,KN⟩
 .rw[Yd a];refine⟨_,C,λh=>absurd h a,λ_=>⟨l.length,?_,C⟩,Ly _ _,KN⟩;have:=c.1 λh=>a<|Or.inl h;omega
theorem Lc(l:LB)(n i:Nat)(c:i<=l.length):(Z7 l n i).length<=l.length+1-i:=by
 induction n generalizing i with
 |zero=>exact Yr _
 |succ n ih=>
  unfold Z7;have a:=Nw l i c;split
  .simp;omega
  .rename_i d;have e:=a.1 λh=>d<|.inl h;have f:=ih _ a.2;simp;omega
theorem XB.len{l:LB}{t:Yg}{at_:Nat}{ts:List Yg}(h:XB l t at_ ts)(c:at_<=l.length):ts.length<=l.length+2:=by
 obtain⟨r,rfl,d,e,_⟩:=h;by_cases a:t.jj=0∨t.jj=5
 .rw[d a];simp
 .obtain⟨n,_,rfl⟩:=e a;have:=Lc l n at_ c;simp;omega
theorem XB.txt_le{l:LB}{t:Yg}{at_:Nat}{ts:List Yg}(h:XB l t at_ ts):t.txt.length<=l.length+2:=by
 obtain⟨_,_,_,_,h,_⟩:=h;exact h
theorem XB.num{l:LB}{t:Yg}{at_:Nat}{ts:List Yg}(h:XB l t at_ ts):t.jj=1->(ZC 1000000000 t.txt).isSome=true:=by
 obtain⟨_,_,_,_,_,h⟩:=h;exact h
theorem QC{s:LB}{t:Yg}(h:Yk s t=true):¬(t.jj=0∨t.jj=5):=by
 unfold Yk at h;simp_all;omega
end Go.Proofs.YtmfnolgpaoldpaaGreatDoor.LS
namespace Go.Proofs.YtmfnolgpaoldpaaGreatDoor
open Go.RowKit LS Go.Proofs.Tryz
def WA(w:World)(b:Nat)(pv:Value)(s:BA)(ts:List Yg)(deep:Nat):Prop:=∃q:QV,YN w b q/\q.pv=pv/\q.s=s/\q.deep=deep/\q.e=0/\q.at_<=s.size/\XB (bl s) (S4 q) q.at_ ts
def Yx(w:World)(b:Nat)(pv:Value)(e p:Nat)(deep:Nat):Prop:=∃q:QV,YN w b q/\q.pv=pv/\q.deep=deep/\q.e=e/\e≠0/\q.pl=p
def O2{α:Type}(w:World)(b:Nat)(pv:Value)(s:BA)(deep:Nat)(r:Yl α)(good:α->Prop):Prop:=match r with
 |.error x=>Yx w b pv x.1 x.2 deep
 |.ok x=>WA w b pv s x.2 deep/\good x.1
theorem WA.kept{w w':World}{b:Nat}{pv:Value}{s:BA}{ts:List Yg}{deep:Nat}(h:WA w b pv s ts deep)(a:w'.heap[b]?=w.heap[b]?):WA w' b pv s ts deep:=by
 obtain⟨q,c,d⟩:=h;exact⟨q,a.trans c,d⟩
theorem Yx.kept{w w':World}{b:Nat}{pv:Value}{e p deep:Nat}(h:Yx w b pv e p deep)(a:w'.heap[b]?=w.heap[b]?):Yx w' b pv e p deep:=by
 obtain⟨q,c,d⟩:=h;exact⟨q,a.trans c,d⟩
theorem WA.lt{w:World}{b:Nat}{pv:Value}{s:BA}{ts:List Yg}{deep:Nat}(h:WA w b pv s ts deep):b<w.heap.size:=by obtain⟨q,a,_⟩:=h;exact a.lt
theorem Yx.lt{w:World}{b:Nat}{pv:Value}{e p deep:Nat}(h:Yx w b pv e p deep):b<w.heap.size:=by obtain⟨q,a,_⟩:=h;exact a.lt
theorem WA.is{w:World}{b:Nat}{pv:Value}{s:BA}{ts:List Yg}{deep:Nat}(h:WA w b pv s ts deep)(c:BA):
 CP 185 #[Vp b,.string c] w λr u=>r=.returned (.bool<|Yk (bl c)<|hd ts)/\u=w:=by
 obtain⟨q,a,_,_,_,d,_,e⟩:=h;rw[e.hd];exact jc w b q c a d
theorem Yx.is{w:World}{b:Nat}{pv:Value}{e p deep:Nat}(h:Yx w b pv e p deep)(c:BA):
 CP 185 #[Vp b,.string c] w λr u=>r=.returned (.bool false)/\u=w:=by
 obtain⟨q,a,_,_,d,f,_⟩:=h;exact jb w b q c a<|by rw[d];exact f
theorem Yx.fail{w:World}{b:Nat}{pv:Value}{e p deep:Nat}(h:Yx w b pv e p deep)(c:Int):
 CP 154 #[Vp b,E c] w λr u=>r=.returned (.tuple #[])/\u=w:=by
 obtain⟨q,a,_,_,d,f,_⟩:=h;exact kZ w b q c a<|by rw[d];exact f
theorem WA.fail{w:World}{b:Nat}{pv:Value}{s:BA}{ts:List Yg}{deep:Nat}(h:WA w b pv s ts deep)(c:Nat)(ci:Int)(a:ci=c)(d:c≠0):
 CP 154 #[Vp b,E ci] w λr u=>r=.returned (.tuple #[])/\Yx u b pv c (hd ts).at_ deep/\w.grownBy u (some b):=by
 subst a;obtain⟨q,e,f,m,g,i,n,j⟩:=h;rw[j.hd];refine(ja w b q c e i).mono ?_;rintro r u ⟨rfl,k,l⟩;exact⟨C,⟨_,k,f,g,C,d,C⟩,l⟩
theorem WA.next{w:World}{b:Nat}{pv:Value}{s:BA}{ts:List Yg}{deep:Nat}(h:WA w b pv s ts deep)(g:s.size<=6000)(c:¬((hd ts).jj=0∨(hd ts).jj=5)):
 CP 152 #[Vp b] w λr u=>r=.returned (.tuple #[])/\WA u b pv s ts.tail deep/\w.grownBy u (some b):=by
 obtain⟨q,i,j,rfl,l,m,a,d⟩:=h;rw[d.hd]at c;refine(Ak w b q i g a).mono ?_;rintro r u ⟨rfl,⟨tx,f,n⟩,o⟩;have p:=d.next c<|by rw[Zb];exact a
 refine⟨C,⟨_,n,j,C,l,m,?_,?_⟩,o⟩
 .have:=(Nw (bl q.s) q.at_<|by rw[Zb];exact a).2;rw[Zb]at this;exact this
 .have e:S4 {q with at_:=(Zg (bl q.s) q.at_).2,k:=(Zg (bl q.s) q.at_).1.jj,tx:=tx,ta:=(Zg (bl q.s) q.at_).1.at_}=(Zg (bl q.s) q.at_).1:=by
   show(⟨_,bl tx,_⟩:Yg)=_;rw[f]
  rw[e];exact p
theorem Yx.take{w:World}{b:Nat}{pv:Value}{e p deep:Nat}(h:Yx w b pv e p deep)(c:BA):
 CP 290 #[Vp b,.string c] w λr u=>r=.returned (.tuple #[])/\u=w:=by
 have H:Hid<|Yx w b pv e p deep:=h;clear h;go_enter func290,ntmps290;go_wp2_with fail;refine(Yx.is H.out c).mono ?_;rintro r u ⟨rfl,rfl⟩;go_wp2_with fail;refine(Yx.fail H.out _).mono ?_;rintro r u ⟨rfl,rfl⟩;go_wp2;first|go_end0|refine YQ (Tq C _ _ _) C ?_
 exact⟨C,C⟩
theorem WA.take{w:World}{b:Nat}{pv:Value}{s:BA}{ts:List Yg}{deep:Nat}(h:WA w b pv s ts deep)(k:s.size<=6000)(c:BA):
 CP 290 #[Vp b,.string c] w λr u=>r=.returned (.tuple #[])/\O2 u b pv s deep (Zf (bl c) ts) (λ_=>True)/\w.grownBy u (some b):=by
 have H:Hid<|WA w b pv s ts deep:=h;clear h;cases a:Yk (bl c)<|hd ts
 .have g:Hid<|Zf (bl c) ts=.error (2,(hd ts).at_):=I<|by unfold Zf;rw[a];rfl
  have f:Hid _:=a;clear a;go_enter func290,ntmps290;go_wp2_with fail;refine(WA.is H.out c).mono ?_;rw[f.out];rintro r u ⟨rfl,rfl⟩;go_wp2_with fail;refine(WA.fail H.out 2 _ C N).mono ?_;rintro r u ⟨rfl,d,e⟩;have i:Hid _:=d;have j:Hid _:=e;clear d e;go_wp2;first|go_end0|refine YQ (Tq C _ _ _) C ?_
  rw[g.out];exact⟨C,i.out,j.out⟩
 .have g:Hid<|Zf (bl c) ts=.ok ((),ts.tail):=I<|by unfold Zf;rw[a];rfl
  have f:Hid _:=a;clear a;go_enter func290,ntmps290;go_wp2_with fail;refine(WA.is H.out c).mono ?_;rw[f.out];rintro r u ⟨rfl,rfl⟩;go_wp2_with fail;refine(WA.next H.out k<|QC f.out).mono ?_;rintro r u ⟨rfl,d,e⟩;have i:Hid _:=d;have j:Hid _:=e;clear d e;go_wp2;first|go_end0|refine YQ (Tq C _ _ _) C ?_
  rw[g.out];exact⟨C,⟨i.out,trivial⟩,j.out⟩
theorem Yx.jj{w:World}{b:Nat}{pv:Value}{e p deep:Nat}(h:Yx w b pv e p deep)(c:Int):
 CP 292 #[Vp b,E c] w λr u=>r=.returned (.string ⟨#[]⟩)/\u=w:=by
 obtain⟨q,a,d,f,g,i,j⟩:=h;obtain⟨c0,c1,c2,c3,c4,c5,c6,c7,c8⟩:=a.all;have k:((q.e:Int) !=0)=true:=by rw[Vg];omega
 have H:Hid<|Yx w b pv e p deep:=⟨q,a,d,f,g,i,j⟩;clear a d f g i j;go_enter func292,ntmps292;go_wp2_with fail;refine(Yx.fail H.out _).mono ?_;rintro r u ⟨rfl,rfl⟩;go_wp2;go_ret;exact⟨C,C⟩
theorem WA.jj{w:World}{b:Nat}{pv:Value}{s:BA}{ts:List Yg}{deep:Nat}(h:WA w b pv s ts deep)(z:s.size<=6000)(k:Nat)(ki:Int)(n:ki=k)(i:¬(k=0∨k=5)):
 CP 292 #[Vp b,E ki] w λr u=>∃x:BA,r=.returned (.string x)/\O2 u b pv s deep (Zk k ts) (λa=>bl x=a)/\w.grownBy u (some b):=by
 subst n;have H:Hid<|WA w b pv s ts deep:=h;obtain⟨q,o,A,B,D,p,F,t⟩:=h;obtain⟨c0,c1,c2,c3,c4,c5,c6,c7,c8⟩:=o.all;have J:((q.e:Int) !=0)=false:=by rw[p];rfl
 have d:=t.hd;clear o A B D p F t;by_cases c:q.k=k
 .have v:((q.k:Int) !=(k:Int))=false:=by rw[c];simp
  have j:Hid<|Zk k ts=.ok (bl q.tx,ts.tail):=I<|by
   unfold Zk;rw[d,Ye<|show(S4 q).jj=k from c];rfl
  have G:Hid<|¬((hd ts).jj=0∨(hd ts).jj=5):=I<|by rw[d];show¬(q.k=0∨q.k=5);rw[c];exact i
  clear c d i;go_enter func292,ntmps292;go_wp2_with fail;refine(WA.next H.out z G.out).mono ?_;rintro r u ⟨rfl,f,g⟩;have l:Hid _:=f;have m:Hid _:=g;clear f g;go_wp2;go_ret;rw[j.out];exact⟨q.tx,C,⟨l.out,C⟩,m.out⟩
 .have v:((q.k:Int) !=(k:Int))=true:=by rw[Vg];omega
  have j:Hid<|Zk k ts=.error (2,(hd ts).at_):=I<|by
   unfold Zk;rw[Yd<|show¬(hd ts).jj=k by rw[d];exact c]
  clear c d i;go_enter func292,ntmps292;go_wp2_with fail;refine(WA.fail H.out 2 _ C N).mono ?_;rintro r u ⟨rfl,f,g⟩;have l:Hid _:=f;have m:Hid _:=g;clear f g;go_wp2;go_ret;rw[j.out];exact⟨⟨#[]⟩,C,l.out,m.out⟩
end Go.Proofs.YtmfnolgpaoldpaaGreatDoor
