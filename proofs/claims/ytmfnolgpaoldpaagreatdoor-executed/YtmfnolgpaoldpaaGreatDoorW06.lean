/- Parts. -/
import Derived.Test.YtmfnolgpaoldpaaGreatDoorW05
set_option linter.all false
set_option maxRecDepth 100000
set_option maxHeartbeats 16000000
namespace Go.Proofs.YtmfnolgpaoldpaaGreatDoor.LS
open Go Go.RowKit
def Yp(l:LB):Nat:=l.foldl (λn c=>256*n+c.toNat) 0
theorem Lj(l:LB)(c:UInt8):Yp (l++[c])=256*Yp l+c.toNat:=by simp[Yp]
theorem vx(l:LB):Yp l.reverse<256^l.length:=by
 induction l with
 |nil=>decide
 |cons c l ih=>
  rw[Sf,Lj,Y1,ID];have:=c.toNat_lt;omega
theorem vw(l:LB):Yp l<256^l.length:=by
 have:=vx l.reverse;simp_all
theorem PS{l:LB}{n:Nat}(h:l.length<=n):Yp l<256^n:=WH (vw l)<|Nat.pow_le_pow_right N h
def XQ:Nat->Nat->LB
 |_,0=>[]
 |n,k+1=>XQ (n/256) k++[UInt8.ofNat<|n%256]
theorem Hn(k:Nat):∀n,(XQ n k).length=k:=by
 induction k with
 |zero=>intro n;rfl
 |succ k ih=>intro n;simp[XQ,ih]
theorem vY(k:Nat):∀n,XQ n (k+1)=UInt8.ofNat (n/256^k%256)::XQ n k:=by
 induction k with
 |zero=>intro n;simp[XQ]
 |succ k ih=>
  intro n;show XQ (n/256) (k+1)++[UInt8.ofNat<|n%256]=_;rw[ih,Es,<-Nat.pow_succ'];rfl
theorem vu(k:Nat):∀n,n<256^k->Yp (XQ n k)=n:=by
 induction k with
 |zero=>intro n h;simp at h;subst h;rfl
 |succ k ih=>
  intro n h;show Yp (XQ (n/256) k++[UInt8.ofNat<|n%256])=n;rw[Lj,ih _<|by rw[ID]at h;omega,UInt8.toNat_ofNat_of_lt'<|by show n%256<256;omega];omega
theorem vX(l:LB):XQ (Yp l.reverse) l.length=l.reverse:=by
 induction l with
 |nil=>rfl
 |cons c l ih=>
  rw[Sf,Lj,Y1];show XQ ((256*Yp l.reverse+c.toNat)/256) l.length++[UInt8.ofNat<|(256*Yp l.reverse+c.toNat)%256]=_;have a:=c.toNat_lt;rw[show(256*Yp l.reverse+c.toNat)/256=Yp l.reverse by omega,show(256*Yp l.reverse+c.toNat)%256=c.toNat by omega,ih];simp
theorem vW(l:LB):XQ (Yp l) l.length=l:=by
 have:=vX l.reverse;rwa [List.reverse_reverse,Q0]at this
def S6(h:Nat):Nat:=if h%2=1 then(h/2)^^^3988292384 else h/2
def R5:Nat->Nat->Nat
 |0,h=>h
 |k+1,h=>S6<|R5 k h
def Gw(h:Nat)(c:UInt8):Nat:=R5 8<|h^^^c.toNat
def VP(l:LB):Nat:=l.foldl Gw 4294967295
def XK(l:LB):Nat:=4294967295-VP l
theorem FG(l:LB)(c:UInt8):VP (l++[c])=Gw (VP l) c:=by simp[VP]
theorem vK{h:Nat}(a:h<4294967296):S6 h<4294967296:=by
 unfold S6;split
 .exact Nat.xor_lt_two_pow (n:=32) X N
 .omega
theorem K3{h:Nat}(a:h<4294967296):∀k,R5 k h<4294967296
 |0=>a
 |k+1=>vK<|K3 a k
theorem FX{h:Nat}(a:h<4294967296)(c:UInt8):h^^^c.toNat<4294967296:=Nat.xor_lt_two_pow (n:=32) a<|by have:=c.toNat_lt;omega
theorem uV{h:Nat}(a:h<4294967296)(c:UInt8):Gw h c<4294967296:=K3 (FX a c) 8
theorem fH(l:LB):VP l.reverse<4294967296:=by
 induction l with
 |nil=>decide
 |cons c l ih=>rw[Sf,FG];exact uV ih c
theorem zj(l:LB):VP l<4294967296:=by
 have:=fH l.reverse;simp_all
theorem FH(l:LB):XK l<4294967296:=by unfold XK;omega
def Xg(l:LB):Option Nd:=match Z5 l with
 |.ok<|.node _ _ a _ _=>if a.jj=1/\Xl a=l then some a else none
 |_=>none
def ZL(t:LB):Option<|Nd×Nat:=match seek 91 t with
 |none=>(Xg t).map λa=>(a,0)
 |some p=>if t.getLast?=some 93 then(match ZC 1000 (t.drop<|p+1).dropLast with
  |some n=>if n=0 then none else(Xg<|t.take p).map λa=>(a,n)
  |none=>none)else none
def VW(t:LB):Option<|List<|LB:=if t=[]then some []else if(split 44 t).all Zx=true/\(split 44 t).Nodup then some (split 44 t)else none
structure Yb where
 jq:List Int
 jw:List<|Nd×Nat
 jv:List<|List<|LB
 jz:List<|Nat×Nat
abbrev X9 (α:Type):=Except (Nat×Nat)<|α×Nat
def Y6(l:LB)(p n:Nat):LB:=(l.drop p).take n
def VJ(l:LB)(p n:Nat):X9<|LB:=if l.length<p+n then .error (9,l.length)else .ok (Y6 l p n,p+n)
def Z8(l:LB)(p n:Nat):X9 Nat:=match VJ l p n with
 |.error e=>.error e
 |.ok x=>.ok (Yp x.1,x.2)
def TZ(v:Nat):Int:=if 2147483648<=v then(v:Int)-4294967296 else v
def Vx(l:LB)(p:Nat):X9 Int:=match Z8 l p 4 with
 |.error e=>.error e
 |.ok x=>if TZ x.1< -1000000000∨1000000000<TZ x.1 then .error (9,p)else .ok (TZ x.1,x.2)
def VA(l:LB)(p:Nat):X9<|LB:=match Z8 l p 2 with
 |.error e=>.error e
 |.ok x=>VJ l x.2 x.1
def pickAt(l:LB)(p:Nat):X9<|Nd×Nat:=match VA l p with
 |.error e=>.error e
 |.ok x=>match ZL x.1 with
  |none=>.error (9,p)
  |some y=>.ok (y,x.2)
def groupAt(l:LB)(p:Nat):X9<|List<|LB:=match VA l p with
 |.error e=>.error e
 |.ok x=>match VW x.1 with
  |none=>.error (9,p)
  |some y=>.ok (y,x.2)
def WM(l:LB)(p:Nat):X9<|Nat×Nat:=match Z8 l p 1 with
 |.error e=>.error e
 |.ok x=>if 13<x.1 then .error (9,p)else match Z8 l x.2 2 with
  |.error e=>.error e
  |.ok y=>.ok ((x.1,y.1),y.2)
def Yo{α:Type}(one:Nat->X9 α)(p:Nat):Nat->X9 (List α)
 |0=>.ok ([],p)
 |k+1=>match Yo one p k with
  |.error e=>.error e
  |.ok x=>match one x.2 with
   |.error e=>.error e
   |.ok y=>.ok (x.1++[y.1],y.2)
theorem Fu{α:Type}{one:Nat->X9 α}{p k:Nat}{e:Nat×Nat}(h:Yo one p k=.error e):∀n,k<=n->Yo one p n=.error e:=by
 intro n a;induction n with
 |zero=>simp_all
 |succ n ih=>
  by_cases c:k=n+1
  .simp_all
  .have:=ih X;unfold Yo;rw[this]
theorem Rr{α:Type}{one:Nat->X9 α}{p k:Nat}{xs:List α}{q:Nat}{e:Nat×Nat}(h:Yo one p k=.ok (xs,q))(c:one q=.error e):∀n,k<n->Yo one p n=.error e:=
 λn a=>Fu (k:=k+1) (by unfold Yo;simp_all) n a
theorem OE{α:Type}{one:Nat->X9 α}{p k:Nat}{xs:List α}{q r:Nat}{y:α}(h:Yo one p k=.ok (xs,q))(a:one q=.ok (y,r)):Yo one p (k+1)=.ok (xs++[y],r):=by
 unfold Yo;simp_all
theorem KO{α:Type}{one:Nat->X9 α}{p:Nat}:∀{k:Nat}{xs:List α}{q:Nat},Yo one p k=.ok (xs,q)->xs.length=k
 |0,xs,q,h=>by injection h with h;simp_all
 |k+1,xs,q,h=>by
  unfold Yo at h;cases a:Yo one p k with
  |error e=>simp_all
  |ok x=>
   rw[a]at h;simp only at h;cases c:one x.2 with
   |error e=>simp_all
   |ok y=>
    rw[c]at h;injection h with h;injection h with h1 h2;subst h1;have:=KO<|a;simp_all
def US(l:LB):Except (Nat×Nat)<|Nat×Nat×Nat×Nat:=
 if l.head?≠some 103 then .error (9,0)else if l.length<9 then .error (9,l.length)else .ok (Yp<|Y6 l 1 2,Yp<|Y6 l 3 2,Yp<|Y6 l 5 2,Yp<|Y6 l 7 2)
def Wt(l:LB):Except (Nat×Nat) Yb:=match US l with
 |.error e=>.error e
 |.ok n=>match Yo (Vx l) 9 n.1 with
  |.error e=>.error e
  |.ok cs=>match Yo (pickAt l) cs.2 n.2.1 with
   |.error e=>.error e
   |.ok ps=>match Yo (groupAt l) ps.2 n.2.2.1 with
    |.error e=>.error e
    |.ok gs=>match Yo (WM l) gs.2 n.2.2.2 with
     |.error e=>.error e
     |.ok is=>if l.length<is.2+4 then .error (9,l.length)else if is.2+4<l.length then .error (9,is.2+4)else
      if Yp (l.drop is.2)≠XK (l.take is.2)then .error (10,0)else .ok ⟨cs.1,ps.1,gs.1,is.1⟩
def Zy(c:Yb)(i:Nat)(x:Nat×Nat):Bool:=match x.1 with
 |0=>decide<|x.2<c.jq.length
 |1=>decide<|x.2<c.jw.length
 |2=>decide<|x.2<5
 |3=>decide<|x.2<4
 |4=>decide<|x.2=0
 |9=>decide<|i<x.2/\x.2<=c.jz.length
 |10=>decide<|i<x.2/\x.2<=c.jz.length
 |11=>decide<|x.2=0
 |12=>decide<|x.2<16
 |13=>decide<|x.2<16
 |_=>decide<|x.2<c.jv.length
def Pj(op:Nat):Bool:=op==12||op==13
def UT(l:List<|Nat×Nat):Nat:=l.foldl (λn x=>if Pj x.1 then max n (x.2+1)else n) 0
theorem zd(l:List<|Nat×Nat)(x:Nat×Nat):UT (l++[x])=if Pj x.1 then max (UT l) (x.2+1)else UT l:=by simp[UT]
structure Ah where
 kj:Bool
 kw:Bool
 jy:List Nat
 jx:List Nat
def Ys:Ah:=⟨false,false,[],List.replicate 16 0⟩
def Z4(k:Nat)(st sl:List Nat):Option<|List Nat×List Nat:=if st.length=64 then none else some (k::st,sl)
def ZO(k:Nat):Bool:=k==1||k==2
def VF(x:Nd×Nat):Nat:=if 0<x.2 then 3 else 2
def Zr(c:Yb)(x:Nat×Nat)(st sl:List Nat):Option<|List Nat×List Nat:=match x.1 with
 |0=>Z4 1 st sl
 |1=>Z4 ((c.jw[x.2]?.map VF).getD 0) st sl
 |2=>match st with
  |k::r=>if k=3 then Z4 2 r sl else none
  |[]=>none
 |3=>match st with
  |y::k::r=>if ZO k&&ZO y then Z4 (max k y) r sl else none
  |_=>none
 |4=>match st with
  |k::r=>if ZO k then Z4 k r sl else none
  |[]=>none
 |9=>some (st,sl)
 |11=>match st with
  |_::r=>some (r,sl)
  |[]=>none
 |12=>match st with
  |k::r=>some (r,sl.set x.2 k)
  |[]=>none
 |13=>if sl.getD x.2 0=0 then none else Z4 (sl.getD x.2 0) st sl
 |_=>match st with
  |k::r=>if k=2 then Z4 2 r sl else none
  |[]=>none
def Xx(a b:List Nat):List Nat:=List.zipWith (λx y=>if x=y then x else 0) a b
def ZZ(a:Ah)(st sl:List Nat):Ah:=if a.kj then⟨true,a.kw||decide (a.jy≠st),a.jy,Xx a.jx sl⟩else⟨true,false,st,sl⟩
def TC(op:Nat):Bool:=op==9||op==10
def goOn(x:Nat×Nat)(i:Nat)(st sl:List Nat)(l:List Ah):List Ah:=
 let l1:=if TC x.1 then l.set x.2 (ZZ (l.getD x.2 Ys) st sl)else l;if x.1=9 then l1 else l1.set (i+1)<|ZZ (l1.getD (i+1) Ys) st sl
def SC(c:Yb)(i:Nat)(l:List Ah)(m:Nat):Except (Nat×Nat)<|List Ah×Nat:=
 let a:=l.getD i Ys;if a.kj then(if a.kw then .error (12,i)else match Zr c (c.jz.getD i (0,0)) a.jy a.jx with
  |none=>.error (12,i)
  |some s=>.ok (goOn (c.jz.getD i (0,0)) i s.1 s.2 l,max m s.1.length))else .ok (l,m)
def Po(n:Nat):List Ah:=⟨true,false,[],List.replicate 16 0⟩::List.replicate n Ys
def Z3(c:Yb):Nat->Except (Nat×Nat) (List Ah×Nat)
 |0=>.ok (Po c.jz.length,0)
 |i+1=>match Z3 c i with
  |.error e=>.error e
  |.ok x=>SC c i x.1 x.2
def Ro(a:Ah):Bool:=!a.kw&&(decide (a.jy=[1])||decide (a.jy=[2]))
def Vj(c:Yb):Nat->Except (Nat×Nat) Unit
 |0=>.ok ()
 |i+1=>match Vj c i with
  |.error e=>.error e
  |.ok _=>if Zy c i<|c.jz.getD i (0,0)then .ok ()else .error (11,i)
def Tv(c:Yb):Except (Nat×Nat) Nat:=match Z3 c c.jz.length with
 |.error e=>.error e
 |.ok x=>if Ro (x.1.getD c.jz.length Ys)then .ok x.2 else .error (12,c.jz.length)
def Vl(c:Yb):Except (Nat×Nat)<|Nat×Nat:=match Vj c c.jz.length with
 |.error e=>.error e
 |.ok _=>match Tv c with
  |.error e=>.error e
  |.ok m=>.ok (m,UT c.jz)
def Tj(l:LB):Except (Nat×Nat)<|Yb×Nat×Nat:=match Wt l with
 |.error e=>.error e
 |.ok c=>match Vl c with
  |.error e=>.error e
  |.ok x=>.ok (c,x)
theorem GQ{c:Yb}{k:Nat}{e:Nat×Nat}(h:Z3 c k=.error e):∀n,k<=n->Z3 c n=.error e:=by
 intro n a;induction n with
 |zero=>simp_all
 |succ n ih=>
  by_cases d:k=n+1
  .simp_all
  .have:=ih X;unfold Z3;rw[this]
theorem BG{c:Yb}{k:Nat}{e:Nat×Nat}(h:Vj c k=.error e):∀n,k<=n->Vj c n=.error e:=by
 intro n a;induction n with
 |zero=>simp_all
 |succ n ih=>
  by_cases d:k=n+1
  .simp_all
  .have:=ih X;unfold Vj;rw[this]
theorem Mb{l:LB}{p n:Nat}{x:LB×Nat}(h:VJ l p n=.ok x):p+n<=l.length/\x.1=Y6 l p n/\x.2=p+n:=by
 unfold VJ at h;split at h
 .cases h
 .cases h;simp_all
theorem JR{l:LB}{p n:Nat}(h:p+n<=l.length):(Y6 l p n).length=n:=by
 unfold Y6;simp_all;omega
theorem Zdd{l:LB}{p n:Nat}{x:Nat×Nat}(h:Z8 l p n=.ok x):p+n<=l.length/\x.1=Yp (Y6 l p n)/\x.2=p+n/\x.1<256^n:=by
 unfold Z8 at h;cases a:VJ l p n with
 |error e=>simp_all
 |ok y=>
  rw[a]at h;cases h;obtain⟨c,d,f⟩:=Mb a;refine⟨c,by rw[d],f,?_⟩;show Yp y.1<_;rw[d];exact PS<|by rw[JR c];omega
theorem fU{v:Nat}(h:v<4294967296):-2147483648<=TZ v/\TZ v<=2147483647:=by unfold TZ;omega
theorem Zex(s:BA)(p n:Nat):Y6 (bl s) p n=bl (s.extract p<|p+n):=by
 rw[WL,Ri];unfold Y6;simp
end Go.Proofs.YtmfnolgpaoldpaaGreatDoor.LS
namespace Go.Proofs.YtmfnolgpaoldpaaGreatDoor
open Go.RowKit LS Go.Proofs.Tryz
theorem EJ{h:Nat}(a:h%2=1):S6 h=(h/2)^^^3988292384:=Ye a
theorem EI{h:Nat}(a:¬h%2=1):S6 h=h/2:=Yd a
theorem JC{k:IntKind}{a b:Int}(h:a=b):Ending.returned (.int k a)=.returned (.int k b):=by rw[h]
theorem zL{a:Nat}(d:a<4294967296)(c:UInt8):bits .xor .u32 (a:Int) ((c.toNat:Int)%4294967296)=((a^^^c.toNat:Nat):Int):=by
 have e:=c.toNat_lt;rw[show((c.toNat:Int)%4294967296)=(c.toNat)by omega];exact KF _ _ d X
theorem xQ{z:Nat}(a:z<4294967296):4294967295^^^z=4294967295-z:=by
 have h:(BitVec.allOnes _^^^BitVec.ofNat 32 z).toNat=(~~~BitVec.ofNat 32 z).toNat:=by rw[BitVec.allOnes_xor]
 rw[BitVec.toNat_xor,BitVec.toNat_not,Iq,Iv a]at h;exact h
theorem nN{z:Nat}(a:z<4294967296):bits .xor .u32 IntKind.u32.max (z:Int)=4294967295-(z:Int):=by
 have:=KF 4294967295 z N a;rw[xQ a]at this;rw[show IntKind.u32.max=((4294967295:Nat))from C,this];omega
theorem vQ{z:Nat}(a:z<4294967296):bits .and .u32 (z:Int) 1=(z:Int)%2:=by
 have:=u32_and_nat z 1 a N;rw[Nat.and_one_is_mod]at this;rw[show(1)=((1:Nat):Int)from C,this];omega
theorem jE(s:BA){w:World}(r:s.size<=maxLen):
 CP 21 #[.string s] w λe u=>e=.returned (.int .u32<|XK<|bl s)/\u=w:=by
 unfold maxLen at r;go_enter func21,ntmps21;go_wp2;go_loop [3,4] (λh i=>∃k:Nat,k<=s.size/\i=E k/\h=.int .u32 (VP<|(bl s).take k)) (λ_ i=>s.size-(intOf i).toNat);case atStart=>exact⟨0,Yr _,C,C⟩
 case round=>
  obtain⟨k,D,rfl,rfl⟩:=hrel;have n:=zj<|(bl s).take k;obtain⟨a,d⟩:∃a,VP ((bl s).take k)=a:=⟨_,C⟩;have c:Hid<|VP ((bl s).take k)=a:=d;rw[d]at n⊢;clear d;by_cases p:k<s.size
  .have t:=zL n s[k];have g:Hid<|VP ((bl s).take<|k+1)=R5 8 (a^^^s[k].toNat):=I<|by rw[PH s k p,FG,c.out];rfl
   have l:a^^^s[k].toNat<4294967296:=FX n _;obtain⟨g0,m⟩:∃g0,a^^^s[k].toNat=g0:=⟨_,C⟩;rw[m]at t g l;clear m c;go_wp2;go_loop [3,5] (λh i=>∃j:Nat,j<=8/\i=E j/\h=.int .u32 (R5 j g0)) (λ_ i=>8-(intOf i).toNat);case atStart=>exact⟨0,Yr _,C,C⟩
   case round=>
    obtain⟨j,F,rfl,rfl⟩:=hrel;by_cases A:j<8
    .have G:=K3 l j;have q:Hid<|R5 (j+1) g0=S6 (R5 j g0):=C;generalize R5 j g0=z at*;by_cases f:z%2=1
     .have B:bits .xor .u32 ((z:Int)/2) 3988292384=((z/2^^^3988292384:Nat):Int):=by
       have:=KF (z/2) 3988292384 X X;simpa using this
      have v:((z:Int)%2==1)=true:=by rw[XL];omega
      have o:=I<|EJ f;clear f;go_wp2;go_round;case rel=>exact⟨j+1,X,by go_num,by rw[q.out,o.out]⟩
      case measure=>simp[intOf];omega
     .have v:((z:Int)%2==1)=false:=by rw[YB];omega
      have o:=I<|EI f;clear f;go_wp2;go_round;case rel=>exact⟨j+1,X,by go_num,by rw[q.out,o.out];go_num⟩
      case measure=>simp[intOf];omega
    .obtain rfl:j=8:=X;go_wp2;go_round;case rel=>exact⟨k+1,X,by go_num,by rw[g.out]⟩
     case measure=>simp[intOf];omega
  .have x:Hid<|XK (bl s)=4294967295-a:=I<|by
    unfold XK;rw[<-c.out,Wm<|by rw[Zb];omega]
   clear c;go_wp2;go_ret;exact⟨JC<|by rw[x.out];omega,C⟩
theorem kK(s:BA)(w:World)(r:s.size<=maxLen):
 CP 82 #[.string s] w λe u=>e=.returned (.int .u32<|XK<|bl s)/\u=w:=by
 unfold maxLen at r;go_enter func82,ntmps82;go_wp2;go_loop [3,8] (λh i=>∃k:Nat,k<=s.size/\i=E k/\h=.int .u32 (VP<|(bl s).take k)) (λ_ i=>s.size-(intOf i).toNat);case atStart=>exact⟨0,Yr _,C,C⟩
 case round=>
  obtain⟨k,G,rfl,rfl⟩:=hrel;have c:=zj<|(bl s).take k;obtain⟨a,d⟩:∃a,VP ((bl s).take k)=a:=⟨_,C⟩;have f:=I d;rw[d]at c⊢;by_cases n:k<s.size
  .have t:=zL c s[k];have g:Hid<|VP ((bl s).take<|k+1)=R5 8 (a^^^s[k].toNat):=by rw[PH s k n,FG,f];rfl
   have l:a^^^s[k].toNat<4294967296:=FX c _;obtain⟨g0,o⟩:∃g0,a^^^s[k].toNat=g0:=⟨_,C⟩;rw[o]at t g l;go_wp2;go_loop [3,17] (λh i=>∃j:Nat,j<=8/\i=E j/\h=.int .u32 (R5 j g0)) (λ_ i=>8-(intOf i).toNat);case atStart=>exact⟨0,Yr _,C,C⟩
   case round=>
    obtain⟨j,H,rfl,rfl⟩:=hrel;by_cases D:j<8
    .have v:=K3 l j;have p:Hid<|R5 (j+1) g0=S6 _:=C;generalize R5 j g0=z at*;have x:=vQ v;by_cases q:z%2=1
     .have F:bits .xor .u32 ((z)/2) 3988292384=((z/2^^^3988292384:Nat)):=by
       have:=KF (z/2) 3988292384 X X;simpa using this
      have A:((z:Int)%2==1)=true:=by rw[XL];omega
      have m:=I<|EJ q;go_wp2;go_round;case rel=>exact⟨j+1,X,by go_num,by rw[p,m]⟩
      case measure=>simp[intOf];omega
     .have A:((z:Int)%2==1)=false:=by rw[YB];omega
      have m:=I<|EI q;go_wp2;go_round;case rel=>exact⟨j+1,X,by go_num,by rw[p,m];go_num⟩
      case measure=>simp[intOf];omega
    .obtain rfl:j=8:=X;go_wp2;go_round;case rel=>exact⟨k+1,X,by go_num,by rw[g]⟩
     case measure=>simp[intOf];omega
  .have B:Hid<|XK _=4294967295-a:=I<|by
    unfold XK;rw[<-f,Wm<|by rw[Zb];omega]
   have J:=nN c;go_wp2;go_ret;exact⟨JC<|by rw[B];omega,C⟩
theorem NF{s:BA}{w:World}(m:s.size<=6):
 CP 59 #[.string s] w λe u=>e=.returned (E<|Yp<|bl s)/\u=w:=by
 go_enter func59,ntmps59;go_wp2;go_loop [3,4] (λh i=>∃k:Nat,k<=s.size/\i=E k/\h=E (Yp<|(bl s).take k)) (λ_ i=>s.size-(intOf i).toNat);case atStart=>exact⟨0,Yr _,C,C⟩
 case round=>
  obtain⟨k,n,rfl,rfl⟩:=hrel;have j:Yp ((bl s).take k)<256^6:=PS<|by rw[Xw];omega
  obtain⟨c,d⟩:∃c,Yp ((bl s).take k)=c:=⟨_,C⟩;have a:Hid<|Yp ((bl s).take k)=c:=d;rw[d]at j⊢;clear d;by_cases f:k<s.size
  .have g:Hid<|Yp ((bl s).take<|k+1)=256*c+s[k].toNat:=I<|by rw[PH s k f,Lj,a.out]
   have o:=s[k].toNat_lt;clear a;go_wp2;go_round;case rel=>exact⟨k+1,X,by go_num,by rw[g.out];go_num⟩
   case measure=>simp[intOf];omega
  .have l:Hid<|Yp (bl s)=c:=I<|by rw[<-a.out,Wm<|by rw[Zb];omega]
   clear a;go_wp2;go_ret;exact⟨JC<|by rw[l.out],C⟩
theorem PT(a b:BA):bl (a++b)=bl a++bl b:=by
 simp[bl,ByteArray.data_append]
theorem uw(W:World)(d:Nat)(hd:d<256):(convert 119 9<|.slice (some ⟨W.heap.size,0,none⟩) 1 1).run prog (W.alloc<|.cells #[.int .u8 (d:Int)] 5)=.ok (.string ⟨#[UInt8.ofNat d]⟩) (W.alloc<|.cells #[.int .u8 (d:Int)] 5):=by
 refine run_convert_bytes_back _ _ _ 5 ⟨W.heap.size,0,none⟩ 1 [UInt8.ofNat d] underlying119 underlying5 underlying9 ?_;intro j a;obtain rfl:j=0:=by simp at a;omega
 rw[QJ];have h:=Go.Deep.blk_alloc_new W<|.cells #[.int .u8 (d:Int)] 5;simp only[World.cell?,h];simp;omega
theorem jf(n:Nat){w:World}(f:n<4294967296):
 CP 20 #[E n,E 4] w λe u=>∃r:BA,e=.returned (.string r)/\Hid (bl r=XQ n 4)/\BW w u:=by
 go_enter func20,ntmps20;go_wp2;go_loopw [0,5,6] (λnv sv iv wr=>∃(k:Nat)(r:BA),k<=4/\iv=E k/\nv=E ((n/256^k:Nat):Int)/\sv=.string r/\Hid (bl r=XQ n k)/\BW w wr) (λ_ _ iv _=>4-(intOf iv).toNat);case atStart=>exact⟨0,⟨#[]⟩,Yr _,C,Sm,C,I C,Ym _ _⟩
 case round=>
  obtain⟨k,r,g,rfl,rfl,rfl,a,c⟩:=hrel;have l:=c.size;have h:Hid<|n/256^(k+1)=n/256^k/256:=I<|by rw[Es,<-ID]
  have q:n/256^k<4294967296:=Nat.lt_of_le_of_lt (MU _ _) f;have i:Hid<|XQ n (k+1)=UInt8.ofNat (n/256^k%256)::XQ n k:=I<|vY k n;have o:r.size<=4:=by rw[ZE a.out,Hn];exact g
  generalize n/256^k=m at*;by_cases p:k<4
  .have d:=uw wr (m%256) X;rw[show((m%256:Nat):Int)=(m:Int)%256 from by omega]at d;have j:Hid<|bl (⟨#[UInt8.ofNat<|m%256]⟩++r)=XQ n (k+1):=I<|by rw[PT,i.out,a.out];rfl
   have e1:(⟨#[UInt8.ofNat<|m%256]⟩:BA).size=1:=C;have a1:∀W,(Op.stringOp .add ⟨#[UInt8.ofNat<|m%256]⟩ r).run prog W=.ok (.string<|⟨#[UInt8.ofNat<|m%256]⟩++r) W:=λW=>XV W _ _ X;go_wp2;go_roundw;case rel=>exact⟨k+1,_,X,by go_num,by rw[h.out];go_num,C,j,Yh⟩
   case measure=>simp[intOf];omega
  .obtain rfl:k=4:=X;go_wp2;go_ret;exact⟨r,C,a,c⟩
theorem Ao{s:BA}(w:World)(g:s.size+4<=9223372036854775807):
 CP 10 #[.string s] w λe u=>∃r:BA,e=.returned (.string r)/\Hid (bl r=bl s++XQ (XK<|bl s) 4)/\BW w u:=by
 have d:=FH<|bl s;go_enter func10,ntmps10;go_wp2_with fail;refine(jE s<|by unfold maxLen;omega).mono ?_;rintro e o ⟨rfl,rfl⟩;go_wp2_with fail;refine(jf (XK<|bl s) d).mono ?_;rintro e h ⟨r,rfl,a,f⟩;have c:r.size=4:=by rw[ZE a.out,Hn]
 have a1:∀W,(Op.stringOp .add s r).run prog W=.ok (.string<|s++r) W:=λW=>XV W _ _ X;clear c;go_wp2;go_ret;exact⟨_,C,I<|by rw[PT,a.out],f⟩
abbrev YH (w:World)(b:Nat)(s:BA)(p:Nat):Prop:=Ya w b [.string s,E p] 186
abbrev UQ (w:World)(ca:Addr):Prop:=w.cell? ⟨8,0,none⟩=some (.iface 469<|.pointer<|some ca)
def YF{α:Type}(V:World->α->Value->Prop)(Z:Value->Prop)(w:World)(b:Nat)(s:BA)(ca:Addr)(r:X9 α)(v err:Value):Prop:=match r with
 |.ok x=>err=.nilIface/\V w x.1 v/\YH w b s x.2
 |.error x=>x.1=9/\ZF w err x.2 ca/\Z v/\∃p:Nat,YH w b s p
theorem YF.ok{α:Type}{V:World->α->Value->Prop}{Z:Value->Prop}{w:World}{b:Nat}{s:BA}{ca:Addr}{r:X9 α}{v err:Value}(h:YF V Z w b s ca r v err){x:α×Nat}(a:r=.ok x):err=.nilIface/\V w x.1 v/\YH w b s x.2:=by subst a;exact h
theorem YF.err{α:Type}{V:World->α->Value->Prop}{Z:Value->Prop}{w:World}{b:Nat}{s:BA}{ca:Addr}{r:X9 α}{v err:Value}(h:YF V Z w b s ca r v err){x:Nat×Nat}(a:r=.error x):x.1=9/\ZF w err x.2 ca/\Z v/\∃p:Nat,YH w b s p:=by subst a;exact h
theorem YF.mkOk{α:Type}{V:World->α->Value->Prop}{Z:Value->Prop}{w:World}{b:Nat}{s:BA}{ca:Addr}{r:X9 α}{v err:Value}{x:α×Nat}(a:r=.ok x)(h:err=.nilIface/\V w x.1 v/\YH w b s x.2):YF V Z w b s ca r v err:=by subst a;exact h
theorem YF.ku{α:Type}{V:World->α->Value->Prop}{Z:Value->Prop}{w:World}{b:Nat}{s:BA}{ca:Addr}{r:X9 α}{v err:Value}{x:Nat×Nat}(a:r=.error x)(h:x.1=9/\ZF w err x.2 ca/\Z v/\∃p:Nat,YH w b s p):YF V Z w b s ca r v err:=by subst a;exact h
theorem UQ.grown{w w':World}{ca:Addr}{b:Nat}(h:UQ w ca)(a:w.grownBy w'<|some b)(d:20<=b):UQ w' ca:=by
 have c:8<w.heap.size:=Xi _ _ h;have e:=a.block _ c<|by intro e;injection e with e;have:8<20:=N;omega
 unfold UQ at h⊢;unfold World.cell? at h⊢;simp only at h⊢;rw[e];exact h
theorem UQ.below{w w':World}{ca:Addr}(h:UQ w ca)(a:BW w w'):UQ w' ca:=
 (a.cell<|Xi _ _ h).trans h
theorem YH.step{w:World}{b:Nat}{s:BA}{p:Nat}(h:YH w b s p)(q:Nat):YH (w.setCell ⟨b,1,none⟩<|E (q:Int)) b s q:=by
 unfold YH Ya at h⊢;simp only[World.setCell,V4,h,VE,Wr];rfl
theorem ZF.shape{w:World}{v:Value}{p:Int}{a:Addr}(h:ZF w v p a):∃fa:Nat,v=.iface 92 (Vp fa):=ZF.lt h
theorem No{i:Int}(ca:Addr){w:World}(a:UQ w ca):
 CP 81 #[E i] w λe u=>∃v,e=.returned v/\Hid (ZF u v i ca)/\BW w u:=by
 have d:w.cell? _=some _:=a;go_enter func81,ntmps81;go_wp2_with fail;refine YK (Gn i w) ?_;have c:Hid<|ZF _ (.iface _<|Vp w.heap.size) i ca:=I ⟨_,C,YO⟩;go_wp2;go_ret;exact⟨_,C,c,Yc⟩
def MP(_:World)(a:LB)(v:Value):Prop:=∃t:BA,v=.string t/\bl t=a
def MR(v:Value):Prop:=v=.string ⟨#[]⟩
theorem G1(s:BA)(p n b:Nat)(ca:Addr)(w:World)(j:YH w b s p)(l:UQ w ca)(t:p<=s.size)(m:s.size<=maxLen)(x:n<=70000):
 CP 120 #[Vp b,E n] w λe u=>∃v err,e=.returned (.tuple #[v,err])/\Hid (YF MP MR u b s ca (VJ (bl s) p n) v err)/\w.grownBy u (some b):=by
 unfold maxLen at m;have d:=I j;have o:=I l;have a:Hid<|YH _ b s p:=I<|j.below<|(Ym _ _).drew;have c0:w.cell? _=some _:=d.cell 0;have c1:w.cell? _=some _:=d.cell 1;have f1:=d.frozen 1;by_cases h:s.size<p+n
 .have hd:(s.size:Int)-p<n:=X;have f:Hid<|VJ _ p n=.error _:=I<|by unfold VJ;rw[Ye<|by rwa [Zb],Zb]
  go_enter func120,ntmps120;go_wp2;go_region;all_goals
   go_wp2_with fail;refine(No _<|o.below<|(Ym _ _).drew).mono ?_;rintro e z ⟨v,rfl,k,c⟩;have q:=I<|ZF.shape k;have g:Hid<|YF MP MR _ b s _ _ _ v:=I<|YF.ku f ⟨C,k,C,p,a.below c⟩;have i:Hid<|w.grownBy _<|some b:=I<|ZB<|((Ym _ w).drew).trans c;obtain⟨fa,rfl⟩:=q.out;go_wp2;go_ret2;exact⟨_,_,C,g,i⟩
 .have hd:¬(s.size:Int)-p<n:=X;have f:Hid<|VJ (bl s) p n=.ok (bl<|s.extract p<|p+n,p+n):=I<|by unfold VJ;rw[Yd<|by rw[Zb];omega,LS.Zex]
  have g:Hid<|YH _ b s<|p+n:=I<|YH.step a _;have i:Hid<|w.grownBy (w.drew.setCell ⟨b,1,none⟩<|E<|(p+n:Nat))<|some b:=I<|Zn (TV<|Z2 _ _) (.inl C) _;have r:p+n<=s.size:=X;go_enter func120,ntmps120;go_wp2;go_region;all_goals
   go_wp2;go_region;all_goals
    go_wp2;go_ret2;exact⟨_,_,C,I<|YF.mkOk f ⟨C,⟨_,C,C⟩,g.below<|(Ym _ _).drew⟩,TV i⟩
def NV(_:World)(a:Nat)(v:Value):Prop:=v=E a
def NZ(v:Value):Prop:=v=E 0
theorem kB{a c:Nat}(h:a<16777216)(d:c<256):bits .or .i64 ((a:Int)*256) (c:Int)=((256*a+c:Nat):Int):=by
 have e:(BitVec.ofInt 64<|(a)*256).toNat=a*256:=by
  rw[show((a)*256)=((a*256:Nat):Int)by omega,BitVec.ofInt_natCast,Iq];exact Iv X
 have f:(BitVec.ofInt 64<|c).toNat=c:=by
  rw[BitVec.ofInt_natCast,Iq];exact Iv X
 have g:a*256|||c=256*a+c:=by
  have:=Nat.two_pow_add_eq_or_of_lt (i:=8) d a;rw[show(2)^8=256 from C]at this;rw[Nat.mul_comm a _];exact this.symm
 show IntKind.i64.wrap ((BitVec.ofInt 64 ((a:Int)*256)|||BitVec.ofInt 64 (c:Int)).toNat:Int)=_;rw[BitVec.toNat_or,e,f,g,Us];omega
theorem LM(s:BA)(p n b:Nat)(ca:Addr)(w:World)(A:YH w b s p)(h:UQ w ca)(B:p<=s.size)(D:s.size<=maxLen)(R:n<=4):
 CP 80 #[Vp b,E n] w λe u=>∃v err,e=.returned (.tuple #[v,err])/\Hid (YF NV NZ u b s ca (Z8 (bl s) p n) v err)/\w.grownBy u (some b):=by
 have F:=I<|G1 s p n b _ w A h B D X;go_enter func80,ntmps80;go_wp2_with fail;refine F.mono ?_;rintro e S ⟨v,err,rfl,j,l⟩;cases a:VJ (bl s) p n with
 |error x=>
  obtain⟨G,m,rfl,H⟩:=j.err a;obtain⟨fa,rfl⟩:=ZF.shape m;have o:Hid<|YF NV NZ _ b s _ (Z8 _ p n) _ _:=I<|YF.ku (by unfold Z8;rw[a]) ⟨G,m,C,H⟩;go_wp2;go_loop [8,18] (λv i=>v=E 0/\i=E 0) (λ_ _=>0);case atStart=>exact⟨C,C⟩
  case round=>
   obtain⟨rfl,rfl⟩:=hrel;go_wp2;go_ret2;exact⟨_,_,C,o,l⟩
 |ok x=>
  obtain⟨rfl,⟨t,rfl,f⟩,J⟩:=j.ok a;obtain⟨q,r,M⟩:=Mb a;have O:t.size<=4:=by rwa [ZE f,r,JR q]
  have o:Hid<|YF NV NZ _ b s ca (Z8 _ p n) (.int _<|Yp<|bl t) _:=I<|YF.mkOk (by unfold Z8;rw[a]) ⟨C,by rw[f];rfl,J⟩;go_wp2;go_loop [8,18] (λv i=>∃k:Nat,k<=t.size/\i=E k/\v=E (Yp<|(bl t).take k)) (λ_ i=>t.size-(intOf i).toNat);case atStart=>exact⟨0,Yr _,C,C⟩
  case round=>
   obtain⟨k,T,rfl,rfl⟩:=hrel;obtain⟨c,g⟩:∃c,Yp ((bl t).take k)=c:=⟨_,C⟩;have d:=I g;rw[g];by_cases P:k<t.size
   .have K:c<16777216:=by
     have:Yp ((bl t).take k)<256^3:=PS<|by rw[Xw];omega
     rw[d]at this;exact this
    have h:=t[k].toNat_lt;have Q:=kB K h;have z:Hid<|Yp ((bl t).take _)=256*c+t[k].toNat:=I<|by rw[PH t k _,Lj,d]
    go_wp2;go_round;case rel=>exact⟨k+1,X,by go_num,by rw[z];go_num⟩
    case measure=>simp[intOf];omega
   .have L:Hid<|Yp _=c:=I<|by rw[<-d,Wm<|by rw[Zb];omega]
    go_wp2;go_ret2;exact⟨_,_,C,by rwa [<-L.out],l⟩
def R4(l:LB):X9 Unit:=if l.head?≠some 103 then .error (9,0)else .ok ((),1)
theorem rP(s:BA){h:0<s.size}:(bl s).head?=some s[0]:=by
 rw[Kh,List.getElem?_eq_getElem<|by rwa [Zb],SP s 0 h]
theorem kP(s:BA)(b:Nat){ca:Addr}(w:World)(H:YH w b s 0)(n:UQ w ca)(J:20<=b)(K:s.size<=maxLen):
 CP 111 #[Vp b] w λe u=>∃err,e=.returned err/\Hid (YF (λ_ _ _=>True) (λ_=>True) u b s ca (R4<|bl s) .nilIface err)/\w.grownBy u (some b):=by
 have L:=I<|G1 s 0 1 b _ w H n (Yr _) K X;have o:=I n;go_enter func111,ntmps111;go_wp2_with fail;refine L.mono ?_;rintro e M ⟨v,err,rfl,p,f⟩;cases a:VJ (bl s) 0 1 with
 |error x=>
  obtain⟨S,m,rfl,O⟩:=p.err a;obtain⟨fa,rfl⟩:=ZF.shape m;have q:s.size=0/\x=(9,0):=by
   unfold VJ at a;rw[Zb]at a;split at a
   .injection a with a;exact⟨X,by rw[<-a];congr 1;omega⟩
   .cases a
  have d:Hid<|YF (λ_ _ _=>True) (λ_=>True) _ b s _ (R4<|bl s) .nilIface _:=I<|YF.ku (by
   unfold R4;rw[Ye];rw[Qr (l:=bl s)<|by rw[Zb];exact q.1];simp) ⟨C,by rw[q.2]at m;exact m,trivial,O⟩;go_wp2;go_ret;exact⟨_,C,d,f⟩
 |ok x=>
  obtain⟨rfl,⟨t,rfl,g⟩,r⟩:=p.ok a;obtain⟨A,h,B⟩:=Mb a;rw[Zb]at A;have R:t.size=1:=by rw[ZE g,h,JR<|by rwa [Zb]]
  have i:some t[0]=(bl s).head?:=by
   rw[<-rP t,g,h];unfold Y6;rw[PF,List.head?_take,Yd N]
  have j:Hid<|YH M b s 1:=by rw[B]at r;exact r
  have D:=I<|o.grown f J;by_cases c:t[0]=103
  .have d:Hid<|YF (λ_ _ _=>True) (λ_=>True) _ b s ca (R4 _) .nilIface _:=I<|YF.mkOk (by unfold R4;rw[<-i,c];rfl) ⟨C,trivial,j.out⟩;have P:((t[0].toNat:Int) !=103)=false:=by rw[c];rfl
   go_wp2;go_ret;exact⟨_,C,d,f⟩
  .have P:((t[0].toNat:Int) !=103)=true:=by
    rw[Vg];intro e;exact c<|TO.1<|by show _=103;omega
   have Q:Hid<|R4 _=.error _:=I<|by
    unfold R4;rw[<-i,Ye];intro e;injection e with e;exact c e
   go_wp2_with fail;refine(No _ D).mono ?_;rintro e z ⟨v,rfl,F,k⟩;have d:Hid<|YF (λ_ _ _=>True) (λ_=>True) _ b s _ _ .nilIface v:=I<|YF.ku Q ⟨C,F,trivial,1,j.below k⟩;have G:=I<|Qz f k;obtain⟨fa,rfl⟩:=ZF.shape F;go_wp2;go_ret;exact⟨_,C,d,G⟩
def KV(_:World)(a:Int)(v:Value):Prop:=v=E a
theorem fV{v:Nat}(a:v<4294967296):wrap32 (v:Int)=TZ v:=by
 unfold TZ wrap32;split<;>omega
theorem kR(s:BA)(p b:Nat){ca:Addr}(w:World)(k:YH w b s p)(l:UQ w ca)(H:20<=b)(J:p<=s.size)(K:s.size<=maxLen):
 CP 113 #[Vp b] w λe u=>∃v err,e=.returned (.tuple #[v,err])/\Hid (YF KV NZ u b s ca (Vx (bl s) p) v err)/\w.grownBy u (some b):=by
 have L:=I<|LM s p 4 b _ w k l J K X;have m:=I l;have c1:w.cell? _=some _:=k.cell 1;go_enter func113,ntmps113;go_wp2_with fail;refine L.mono ?_;rintro e R ⟨v,err,rfl,n,f⟩;cases c:Z8 (bl s) p 4 with
 |error x=>
  obtain⟨M,o,rfl,O⟩:=n.err c;obtain⟨fa,rfl⟩:=ZF.shape o;have d:Hid<|YF KV NZ _ b s _ (Vx _ p) _ _:=I<|YF.ku (by unfold Vx;rw[c]) ⟨M,o,C,O⟩;go_wp2;go_ret2;exact⟨_,_,C,d,f⟩
 |ok x=>
  obtain⟨x1,x2⟩:=x;obtain⟨rfl,rfl,q⟩:=n.ok c;have a:=(LS.Zdd c).2.2.2;simp only at q a;have g:=I q;have a:x1<4294967296:=a;have P:=fV a;have Q:=fU a;have r:Hid<|Vx _ p=if TZ x1< -1000000000∨1000000000<TZ x1 then .error _ else .ok (TZ x1,x2):=I<|by unfold Vx;rw[c]
  have t:=I<|m.grown f H;generalize TZ x1=z at*;by_cases i:z< -1000000000∨1000000000<z
  .have j:Hid<|Vx _ p=.error _:=I<|by rw[r,Ye i]
   have A:(decide (z< -1000000000)||decide (1000000000<z))=true:=by simpa using i
   by_cases B:z< -1000000000;all_goals
    have D:wrap64 z=z:=by unfold wrap64;omega
    go_wp2_with fail;refine(No _ t).mono ?_;rintro e S ⟨v,rfl,F,h⟩;have d:Hid<|YF KV NZ _ b s _ _ _ v:=I<|YF.ku j ⟨C,F,C,_,g.below h⟩;have G:=I<|Qz f h;obtain⟨fa,rfl⟩:=ZF.shape F;go_wp2;go_ret2;exact⟨_,_,C,d,G⟩
  .have j:Hid<|Vx _ p=.ok _:=I<|by rw[r,Yd i]
   have A:-1000000000<=z:=X;have B:z<=1000000000:=X;have D:wrap64 z=z:=by unfold wrap64;omega
   have d:Hid<|YF KV NZ _ b s ca _ (.int _ z) _:=I<|YF.mkOk j ⟨C,C,g⟩;go_wp2;go_ret2;exact⟨_,_,C,d,f⟩
theorem YF.kept{α:Type}{V:World->α->Value->Prop}{Z:Value->Prop}{w w':World}{b:Nat}{s:BA}{ca:Addr}{r:X9 α}{v err:Value}(h:YF V Z w b s ca r v err){a:Nat}{c:List Value}{t:TypeId}(i:w.grownBy w'<|some a)(d:Ya w a c t)(g:t≠186)(k:t≠96)(l:∀x,V w x v->V w' x v):YF V Z w' b s ca r v err:=by
 have j:∀p,YH w b s p->YH w' b s p:=λp f=>f.grown i λe=>by
  cases e;unfold YH at f;unfold Ya at f d;rw[f]at d;injection d with d;injection d with _ e2;exact g e2.symm
 cases r with
 |ok x=>exact⟨h.1,l _ h.2.1,j _ h.2.2⟩
 |error x=>
  obtain⟨g,m,n,p,o⟩:=h;exact⟨g,m.grown i d k,n,p,j _ o⟩
theorem JK(w:World)(a:Nat)(x y:Value):w.grownBy (set2 w a x y)<|some a:=Zn (Zn (Z2 w<|some a) (Or.inl C) _) (Or.inl C) _
def IV(_:World)(a:Nat×Nat)(v:Value):Prop:=v=.agg #[E a.1,E a.2]
def IZ(v:Value):Prop:=∃x y:Int,v=.agg #[E x,E y]
theorem YF.km{α β:Type}{V:World->α->Value->Prop}{Z:Value->Prop}{V':World->β->Value->Prop}{Z':Value->Prop}{w:World}{b:Nat}{s:BA}{ca:Addr}{r:X9 α}{r':X9 β}{v v' err:Value}{x:Nat×Nat}(h:YF V Z w b s ca r v err)(c:r=.error x)(a:r'=.error x)(d:Z' v'):YF V' Z' w b s ca r' v' err:=by
 obtain⟨e,f,_,g⟩:=h.err c;exact YF.ku a ⟨e,f,d,g⟩
theorem YF.jn{α:Type}{V:World->α->Value->Prop}{Z:Value->Prop}{w:World}{b:Nat}{s:BA}{ca:Addr}{r:X9 α}{v err:Value}{x:Nat×Nat}(h:YF V Z w b s ca r v err)(a:r=.error x):∃fa:Nat,err=.iface 92 (Vp fa):=ZF.shape (h.err a).2.1
theorem gL(s:BA)(p b:Nat){ca:Addr}(w:World)(O:YH w b s p)(hc:UQ w ca)(hb:20<=b)(hp:p<=s.size)(hs:s.size<=maxLen):
 CP 119 #[Vp b] w λe u=>∃v err,e=.returned (.tuple #[v,err])/\Hid (YF IV IZ u b s ca (WM (bl s) p) v err)/\w.grownBy u (some b):=by
 have a3:=O.lt;have R:Hid<|∀(p n:Nat)(w:World),YH w b s p->UQ w ca->p<=s.size->n<=4->CP 80 #[Vp b,E n] w _:=I λp n w B P Q h4=>LM s p n b ca w B P Q hs h4;have S:Hid<|UQ w ca:=hc;have T:=I O;have c1:w.cell? ⟨b,1,none⟩=some (E p):=O.cell 1;go_enter func119,ntmps119;go_wp2_with fail;refine Zv λW U=>?_;have i:BW w W:=by rw[U];exact Yc
 have V:Hid<|Ya W w.heap.size [E 0,E 0] 137:=I<|by rw[U];exact YO
 have Y:Hid<|w.grownBy W<|some b:=I<|ZB i;have F:=I<|S.below i;have Z:=I<|T.below i;refine(R.out p 1 W Z.out F.out hp X).mono ?_;rintro e j ⟨v,err,rfl,g,k⟩;have l:Hid<|w.grownBy j<|some b:=I<|Zi Y.out k;have d:=I<|V.grown k<|by intro e;injection e with e;omega
 have G:Hid<|UQ j ca:=I<|F.grown k hb;cases c:Z8 (bl s) p 1 with
 |error x=>
  obtain⟨fa,rfl⟩:=g.jn c;have m:Hid<|YF IV IZ j b s ca (WM (bl s) p) (.agg #[E 0,E 0])<|.iface 92<|Vp fa:=I<|g.km c (by unfold WM;rw[c]) ⟨0,0,C⟩;obtain⟨_,_,rfl,_⟩:=g.err c;have f0:=d.frozen;have c0:=d.cell;go_wp2;exact Ss (r:=.tuple #[.agg #[E 0,E 0],.iface 92<|Vp fa]) (λW s0 s1=>by simp[results,results119,go_sem,s0,s1]) C d.out ⟨_,_,C,m.kept (JK j w.heap.size (E 0)<|E 0) d.out N N λ_ h=>h,Na l.out (Yj _) (E 0)<|E 0⟩
 |ok x=>
  obtain⟨op,q⟩:=x;obtain⟨rfl,rfl,hq⟩:=g.ok c;have o:=(LS.Zdd c).2.2.2;have a0:q<=s.size:=by have:=LS.Zdd c;rw[Zb]at this;simp only at this;omega
  simp only at hq o;have o:op<256:=o;have H:=I hq;have HX:Hid<|WM (bl s) p=if 13<op then .error (9,p)else match Z8 (bl s) q 2 with
   |.error e=>.error e
   |.ok y=>.ok ((op,y.1),y.2):=I<|by unfold WM;rw[c]<;>rfl
  have f0:=d.frozen;have c0:=d.cell 0;have c1:=d.cell 1;simp only[Yf]at c0 c1;by_cases J:13<op
  .have D:Hid<|WM (bl s) p=.error (9,p):=I<|by rw[HX.out,Ye J]
   have hd:(13:Int)<op:=X;go_wp2_with fail;refine(No ca G.out).mono ?_;rintro e z ⟨v,rfl,hv,t⟩;have m:Hid<|YF IV IZ z b s ca (WM (bl s) p) (.agg #[E 0,E 0]) v:=I<|YF.ku D.out ⟨C,hv.out,⟨0,0,C⟩,_,H.below t⟩;have A:Hid<|w.grownBy z<|some b:=I<|Qz l.out t;have f:=I<|d.below t;obtain⟨fa,rfl⟩:=ZF.shape hv.out;have f0:=f.frozen;have c0:=f.cell;go_wp2;exact Ss (r:=.tuple #[.agg #[E 0,E 0],.iface 92<|Vp fa]) (λW s0 s1=>by simp[results,results119,go_sem,s0,s1]) C f.out ⟨_,_,C,m.kept (JK z w.heap.size (E 0)<|E 0) f.out N N λ_ h=>h,Na A.out (Yj _) (E 0)<|E 0⟩
  .have hd:¬(13:Int)<op:=X;have D:Hid<|WM (bl s) p=match Z8 (bl s) q 2 with
   |.error e=>.error e
   |.ok y=>.ok ((op,y.1),y.2):=I<|by rw[HX.out,Yd J]
   go_wp2_with fail;refine(R.out q 2 j H.out G.out a0 X).mono ?_;rintro e z ⟨v,err,rfl,g,K⟩;have A:Hid<|w.grownBy z<|some b:=I<|Zi l.out K;have f:=I<|d.grown K<|by intro e;injection e with e;omega
   have f0:=f.frozen;have c0:=f.cell;obtain⟨a,a1,a2,m⟩:∃a:Nat,v=E a/\(err=.nilIface∨∃fa:Nat,err=.iface 92 (Vp fa))/\Hid (YF IV IZ z b s ca (WM (bl s) p) (.agg #[E op,E a]) err):=by
    cases c:Z8 (bl s) q 2 with
    |error x=>
     obtain⟨_,_,hz,_⟩:=g.err c;exact⟨0,hz,Or.inr<|g.jn c,I<|g.km c (by rw[D.out,c]) ⟨_,_,C⟩⟩
    |ok x=>
     obtain⟨B,P,Q⟩:=g.ok c;exact⟨x.1,P,Or.inl B,I<|YF.mkOk (x:=((op,x.1),x.2)) (by rw[D.out,c]) ⟨B,C,Q⟩⟩
   subst a1;rcases a2 with rfl|⟨fa,rfl⟩;all_goals
    go_wp2;change bodyPost _ _ _ _ _<|set2 z w.heap.size (E op)<|E a;have st:=JI f.out (x:=E op) (y:=E a);have s0:=st.cell;have L:=I<|m.kept (JK z w.heap.size (E op)<|E a) f.out N N λ_ h=>h;have M:=I<|Na A.out (Yj _) (E op)<|E a;generalize set2 z w.heap.size (E op) (E a)=WX at*
   .exact YQ (v:=.tuple #[.agg #[E op,E a],.nilIface]) (by simp[results,results119,go_sem,s0]) C ⟨_,_,C,L,M.out⟩
   .exact YQ (v:=.tuple #[.agg #[E op,E a],.iface 92<|Vp fa]) (by simp[results,results119,go_sem,s0]) C ⟨_,_,C,L,M.out⟩
theorem BL(s:BA)(p b:Nat){ca:Addr}(w:World)(K:YH w b s p)(k:UQ w ca)(L:20<=b)(M:p<=s.size)(l:s.size<=maxLen):
 CP 156 #[Vp b] w λe u=>∃v err,e=.returned (.tuple #[v,err])/\Hid (YF MP MR u b s ca (VA (bl s) p) v err)/\w.grownBy u (some b):=by
 have O:Hid<|CP 80 #[Vp b,E (2:Nat)] w _:=I<|LM s p 2 b ca w K k M l X;have P:Hid<|∀(p n:Nat)(w:World),YH w b s p->UQ w ca->p<=s.size->n<=70000->CP 120 #[Vp b,E n] w _:=I λp n w f g m Q=>G1 s p n b ca w f g m l Q;have o:Hid<|UQ w ca:=k;go_enter func156,ntmps156;go_wp2_with fail;refine O.mono ?_;rintro e h ⟨v,err,rfl,c,i⟩;cases a:Z8 (bl s) p 2 with
 |error x=>
  obtain⟨fa,rfl⟩:=c.jn a;have j:Hid<|YF MP MR h b s ca (VA (bl s) p) (.string ⟨#[]⟩)<|.iface 92<|Vp fa:=I<|c.km a (by unfold VA;rw[a]) C;obtain⟨_,_,rfl,_⟩:=c.err a;go_wp2;go_ret2;exact⟨_,_,C,j,i⟩
 |ok x=>
  obtain⟨n,q⟩:=x;obtain⟨rfl,rfl,r⟩:=c.ok a;have d:=(LS.Zdd a).2.2.2;have A:q<=s.size:=by have:=LS.Zdd a;rw[Zb]at this;simp only at this;omega
  simp only at r d;have d:n<65536:=d;have B:=I r;have D:Hid<|UQ h ca:=I<|o.grown i L;have R:Hid<|VA (bl s) p=VJ (bl s) q n:=I<|by unfold VA;rw[a]
  go_wp2_with fail;refine(P.out q n h B.out D.out A X).mono ?_;rintro e z ⟨v,err,rfl,c,F⟩;have G:Hid<|w.grownBy z<|some b:=I<|Zi i F;have j:Hid<|YF MP MR z b s ca (VA (bl s) p) v err:=I<|by rw[R.out];exact c.out
  obtain⟨⟨t,H⟩,J⟩:(∃t:BA,v=.string t)/\(err=.nilIface∨∃fa:Nat,err=.iface 92 (Vp fa)):=by
   cases a:VJ (bl s) q n with
   |error x=>
    obtain⟨_,_,S,_⟩:=c.err a;exact⟨⟨_,S⟩,Or.inr<|c.jn a⟩
   |ok x=>
    obtain⟨f,⟨t,g,_⟩,m⟩:=c.ok a;exact⟨⟨t,g⟩,Or.inl f⟩
  subst H;rcases J with rfl|⟨fa,rfl⟩;all_goals
   go_wp2;go_ret2;exact⟨_,_,C,j,G.out⟩
def SS:List (Nat×Nat)->List Value
 |[]=>[]
 |x::l=>.int .i64 x.1::.int .i64 x.2::SS l
theorem Dz(l m:List<|Nat×Nat):SS (l++m)=SS l++SS m:=by
 induction l with
 |nil=>rfl
 |cons a l ih=>simp[SS,ih]
theorem SA(l:List<|Nat×Nat)(j:Nat)(a:j<l.length):(SS l)[j*2]?=some (E l[j].1)/\(SS l)[j*2+1]?=some (E l[j].2):=by
 induction l generalizing j with
 |nil=>simp at a
 |cons r l ih=>
  cases j with
  |zero=>exact⟨C,C⟩
  |succ j=>
   have h:=ih j<|by simp_all
   rw[show(j+1)*2=j*2+1+1 by omega];assumption
def T8{α:Type}(f:FuncId)(V:World->α->Value->Prop)(Z:Value->Prop)(w0:World)(b:Nat)(s:BA)(ca:Addr)(one:Nat->X9 α):Prop:=
 ∀(p:Nat)(w:World),BW w0 w->YH w b s p->p<=s.size->
  CP f #[Vp b] w λe w'=>∃v err,e=.returned (.tuple #[v,err])/\Hid (YF V Z w' b s ca (one p) v err)/\w.grownBy w' (some b)
theorem Uz{w0 w w':World}{b:Nat}(h:BW w0 w)(a:w.grownBy w'<|some b)(d:w0.heap.size<=b):BW w0 w':=
 h.trans ⟨a.os,a.tape,a.output,a.size,λk c=>a.block k (WH c h.size)<|by intro e;injection e with e;omega⟩
def XW(v:Value):Prop:=v=S0
def Q7(w:World)(cs:List Int)(v:Value):Prop:=w.ownsRow 0 3 1 v cs.length<|cs.map<|.int .i64
theorem Tryz.infoIntV:(Tryz.prog.info? 3).map (λi=>(i.zero,i.size,i.bytes))=some (some<|E 0,1,8):=Kr
theorem Tryz.infoIns:(Tryz.prog.info? 137).map (λi=>(i.zero,i.size,i.bytes))=some (some<|.agg #[E 0,E 0],2,16):=Kr
theorem JD{w w':World}{b base:Nat}{e:TypeId}{sz:Nat}{v:Value}{n:Nat}{xs:List Value}(h:w.ownsRow base e sz v n xs)(a:w.grownBy w'<|some b)(c:b<base):w'.ownsRow base e sz v n xs:=
 h.kept a<|Or.inr λe=>by have:=(h.lt b e).1;omega
theorem mJ(s:BA)(p:Nat){n:Nat}(b:Nat){ca:Addr}{w0 w:World}(h0:BW w0 w)(hb:w0.heap.size<=b)(K:YH w b s p)(hp:p<=s.size)(hn:n<=65535){one:Nat->X9 Int}(h1:T8 113 KV NZ w0 b s ca one)(r:∀p x,one p=.ok x->p<=s.size->x.2<=s.size):
 CP 112 #[Vp b,E n,.func (.func 113) #[] #[]] w λe L=>∃v err,e=.returned (.tuple #[v,err])/\Hid (YF Q7 XW L b s ca (Yo one p n) v err)/\w.grownBy L (some b):=by
 have M:=K.lt;obtain⟨i0,hi,O,P,Q⟩:=Xv Tryz.infoIntV;have H1:=I h1;have HQ:=I r;have H0:=I h0;have HR:=I K;have R:=I hb;go_enter func112,ntmps112;go_wp2;go_loopw [8,12] (λv i wr=>∃(k q:Nat)(xs:List Int),k<=n/\i=E k/\q<=s.size/\Hid (Yo one p k=.ok (xs,q))/\Hid (YH wr b s q)/\xs.length=k/\wr.ownsRow w.heap.size 3 1 v xs.length (xs.map<|.int .i64)/\Hid (w.grownBy wr<|some b))
  (λ_ i _=>n-(intOf i).toNat);case atStart=>exact⟨0,p,[],Yr _,C,hp,I C,HR,C,Xm _ _ _ _,I<|Z2 _ _⟩
 case round=>
  obtain⟨k,q,xs,hk,rfl,r,t,l,D,c,A⟩:=hrel;have g:=I D;clear D;by_cases S:k<n
  .have a0:(k:Int)<n:=X;obtain⟨av,cp,rfl⟩:=Zd c;have T:=I c;clear c;go_wp2_with fail;refine(H1 q _ (Uz H0 A R) l r).mono ?_;rintro e w1 ⟨v,err,rfl,j,m⟩;have o:=I<|Zi A m;have a:=JD T m M;clear m T A l;cases d:one q with
   |error x=>
    obtain⟨fa,rfl⟩:=j.jn d;have H:Hid<|YF Q7 XW _ b s _ _ _ _:=I<|j.km d (Rr t d n S) C;have J:=(j.err d).2.2.1;obtain rfl:=J;clear j d a;go_wp2;go_ret2;exact⟨_,_,C,H,o⟩
   |ok x=>
    obtain⟨y,q2⟩:=x;obtain⟨rfl,hv,F⟩:=j.ok d;have U:=I<|OE t d;have G:=HQ q _ d r;have V:=I F;simp only at G;have a1:=o.size;obtain rfl:=hv;clear j d F t;go_wp2_with(at_builtin;refine XC _ C (.tmp 23) (.tmp 25) 76 C w.heap.size 3 i0 (E 0) 1 8 underlying76 hi O P Q C N _ _ _ C (a.alloc _) ⟨w1.heap.size,0,none⟩ 1 1 [E y] C C ?c1 ?c2 ?c3 ?c4 ?c5 ?_);case c1=>exact Z1 C
    case c2=>intro u W;simp at W;rw[W];rfl
    case c3=>have:=g.out;unfold maxLen;omega
    case c4=>have:=g.out;omega
    case c5=>have:=g.out;simp;omega
    intro v' w3 h f _;have Y:=I<|OB (Vh o _) f λz J=>(a.lt z J).1;have Z:Hid<|YH _ b s _:=I<|(V.below Yc).grown f λe=>by have:=(a.lt b e.symm).1;omega
    have B:w3.ownsRow w.heap.size 3 1 v' (xs++[y]).length<|(xs++[y]).map<|.int .i64:=Yv▸Y9▸h;clear a f h;go_wp2;go_roundw;case rel=>exact⟨k+1,q2,xs++[y],X,by go_num,G,U,Z,by rw[Yv,g];rfl,B,Y⟩
    case measure=>simp[intOf];omega
  .obtain rfl:k=n:=X;obtain⟨av,cp,rfl⟩:=Zd c;have H:Hid<|YF Q7 XW _ b s ca _ _ _:=I<|YF.mkOk t ⟨C,U6 c,l⟩;clear c;go_wp2;go_ret2;exact⟨_,_,C,H,A⟩
def SY(o:Nat):Nat:=if o=0 then 0 else if o<=2 then 1 else 2
def P7(o:Nat):LB:=if o=0 then[111,114]else if o=1 then[43]else if o=2 then[45]else if o=3 then[42]else[47]
theorem GZ (o:Nat)(a:o<=4){w:World}:CP 248 #[E o] w λe u=>e=.returned (E<|SY o)/\u=w:=by
 have h:o=0∨o=1∨o=2∨o=3∨o=4:=X;rcases h with rfl|rfl|rfl|rfl|rfl;all_goals
  go_enter func248,ntmps248;go_wp2;go_ret;exact⟨C,C⟩
theorem fS (o:Nat)(a:o<=4){w:World}:CP 253 #[E o] w λe u=>e=.returned (.string ⟨(P7 o).toArray⟩)/\u=w:=by
 have h:o=0∨o=1∨o=2∨o=3∨o=4:=X;rcases h with rfl|rfl|rfl|rfl|rfl;all_goals
  go_enter func253,ntmps253;go_wp2;go_ret;exact⟨C,C⟩
def Ll(t:Yu):Bool:=if((t.kd:Int)==0)then true else if((t.kd:Int)==1)then !(t.tx.toList==[111,114])&&!(t.tx.toList==[98,121])else ZU t ⟨#[45]⟩||ZU t ⟨#[40]⟩
theorem vG(t:Yu)(w:World):
 CP 273 #[.agg #[E t.kd,E t.at_,.string t.tx,E t.v]] w λe u=>e=.returned (.bool<|Ll t)/\BW w u:=by
 have g:Hid<|Sb _ w.heap.size t:=YO;have a:Hid<|Below _ w<|w.alloc<|.cells #[E t.kd,E t.at_,.string t.tx,E t.v] 389:=Yc;obtain⟨x0,i⟩:∃x,((t.kd:Int)==0)=x:=⟨_,C⟩;obtain⟨x1,j⟩:∃x,((t.kd:Int)==1)=x:=⟨_,C⟩;obtain⟨y1,g1⟩:∃x,(t.tx.toList==[111,114])=x:=⟨_,C⟩;obtain⟨y2,g2⟩:∃x,(t.tx.toList==[98,121])=x:=⟨_,C⟩;obtain⟨z1,f1⟩:∃x,ZU t ⟨#[45]⟩=x:=⟨_,C⟩;obtain⟨z2,f2⟩:∃x,ZU t ⟨#[40]⟩=x:=⟨_,C⟩;have k:Hid<|Ll t=if x0 then true else if x1 then !y1&&!y2 else z1||z2:=I<|by unfold Ll;rw[i,j,g1,g2,f1,f2]
 have h:Hid<|ZU t _=z1/\ZU t _=z2:=⟨f1,f2⟩;rw[k];cases x0
 .cases x1
  .go_enter func273,ntmps273;go_wp2_with fail;refine(Mv t h.1 w g a).mono ?_;rintro e m ⟨rfl,c,d⟩;cases z1
   .obtain⟨k0,k1,k2,k3⟩:=Sb.all c;go_wp2_with fail;refine(Mv t h.2 w c d).mono ?_;rintro e z ⟨rfl,l,f⟩;cases z2
    .go_wp2;go_ret;exact⟨C,f⟩
    .go_wp2;go_ret;exact⟨C,f⟩
   .go_wp2;go_ret;exact⟨C,d⟩
  .cases y1<;>cases y2;all_goals
   go_enter func273,ntmps273;go_wp2;go_ret;exact⟨C,a⟩
 .go_enter func273,ntmps273;go_wp2;go_ret;exact⟨C,a⟩
end Go.Proofs.YtmfnolgpaoldpaaGreatDoor
