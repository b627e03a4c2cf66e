/- Parts. -/
import Derived.Test.YtmfnolgpaoldpaaGreatDoorXX
import Derived.Test.YtmfnolgpaoldpaaGreatDoorX06
import Derived.Deep.Onto
set_option linter.all false
set_option maxRecDepth 100000
set_option maxHeartbeats 16000000
namespace Go.Proofs.YtmfnolgpaoldpaaGreatDoor
open Go.RowKit LS Go.Proofs.Tryz
open Go renaming World->Y,Value->F
open Go.RowKit renaming Hid->U
variable {dp lg sy tp:Addr}{s:BA}{b:Bool}{r:Except (Nat×Nat) Tr}{v:F}{mi:Int}{l last x:LB}{xs:List F}{ps:List<|LB}{acc:List<|LB×LB}{B base j k most n size:Nat}{c:UInt8}{w w':Y}
def OG(c:UInt8)(r:LB):LB:=if c==33&&r.head?==some 61 then[33,61]else if(seek c QG).isSome then[c]else[]
theorem Df(c:UInt8):∀l:LB,decide (0<=Lib.indexByte l c)=(seek c l).isSome/\-1<=Lib.indexByte l c
 |[]=>⟨C,M0<|-1⟩
 |b::l=>by
  obtain⟨d,f⟩:=Df c l;unfold Lib.indexByte seek;by_cases a:b=c
  .subst a;simp
  · have e:(b==c)=false:=by simpa using a
    rw[e];simp only[O6,Q0];rw[Option.isSome_map,<-d];split
    · rename_i h;have:Lib.indexByte l c=-1:=by simpa using h
      rw[this];exact⟨N,N⟩
    · rename_i h;have:Lib.indexByte l c≠-1:=by simpa using h
      refine⟨?_,X⟩;rw[WI<|show 0<=Lib.indexByte l c+1 by omega,WI<|show 0<=Lib.indexByte l c by omega]
theorem ie(c:UInt8)(r:LB):Lib.hasPrefix (c::r) [33,61]=(c==33&&r.head?==some 61):=by
 cases r with
 |nil=>simp[Lib.hasPrefix,List.isPrefixOf]
 |cons d r=>
  simp only[Lib.hasPrefix,List.isPrefixOf,List.head?_cons];rw[On];congr 1
  .rw[Uc,XM,XM];exact eq_comm
  .rw[Uc,XM,XM];exact⟨λh=>by rw[h],λh=>by injection h with h;exact h.symm⟩
theorem Cx(s:BA)(k:Nat)(r:s.size<=6000)(n:k<s.size):
 CP 245 #[.string s,E k] w λe u=>∃x:BA,e=.returned (.string x)/\U (bl x=OG s[k] ((bl s).drop<|k+1))/\u=w:=by
 have j:(s.extract k s.size).data.toList=s[k]::(bl s).drop (k+1):=by
  show bl _=_;rw[WL,<-Zb,X1,Td s k _]
 have a:Lib.hasPrefix (s.extract k s.size).data.toList [33,61]=(s[k]==33&&((bl s).drop<|k+1).head?==some 61):=by rw[j,ie]
 obtain⟨b1,d⟩:∃x,(s[k]==33&&((bl s).drop<|k+1).head?==some 61)=x:=⟨_,C⟩;obtain⟨b2,f⟩:∃x,(seek s[k] QG).isSome=x:=⟨_,C⟩;have g:U<|OG _ _=if b1 then[33,61]else if b2 then[s[k]]else[]:=I<|by unfold OG;rw[d,f]
 have h:=Df s[k] QG;rw[f]at h;rw[d]at a;have i:=I a;have l:=I h;have q:U<|bl (s.extract k<|k+1)=[s[k]]:=by rw[WL,Ri,Td s k n,show k+1-k=1 by omega];rfl
 clear j a d f h;have m:∀c:UInt8,((c.toNat:Int).toNat.toUInt8)=c:=λc=>by simp
 cases b1
 .cases b2
  .have o:=Kh l.1;go_enter func245,ntmps245;go_wp2_with fail;refine(strings_HasPrefix _ _ _).m ?_;rintro e u ⟨rfl,rfl⟩;rw[show(⟨#[33,61]⟩:BA).data.toList=[33,61]from C,i];go_wp2_with fail;refine(strings_IndexByte _ _ _).m ?_;rintro e u ⟨rfl,rfl⟩;rw[m,show(⟨#[40,41,123,125,91,93,44,61,43,45,42,47]⟩:BA).data.toList=QG from C];generalize Lib.indexByte QG s[k]=ix at*;go_wp2;go_ret;exact⟨_,C,I<|by rw[g];rfl,C⟩
  .have p:=Rw l.1;go_enter func245,ntmps245;go_wp2_with fail;refine(strings_HasPrefix _ _ _).m ?_;rintro e u ⟨rfl,rfl⟩;rw[show(⟨#[33,61]⟩:BA).data.toList=[33,61]from C,i];go_wp2_with fail;refine(strings_IndexByte _ _ _).m ?_;rintro e u ⟨rfl,rfl⟩;rw[m,show(⟨#[40,41,123,125,91,93,44,61,43,45,42,47]⟩:BA).data.toList=QG from C];generalize Lib.indexByte QG s[k]=ix at*;go_wp2;go_ret;exact⟨_,C,I<|by rwa [g.o],C⟩
 .go_enter func245,ntmps245;go_wp2_with fail;refine(strings_HasPrefix _ _ _).m ?_;rintro e u ⟨rfl,rfl⟩;rw[show(⟨#[33,61]⟩:BA).data.toList=[33,61]from C,i];go_wp2;go_ret;exact⟨_,C,I<|by rw[g];rfl,C⟩
theorem pK{h:k<s.size}(a:s[k]≠32)(hd:Zt s[k]=false)(c:Zl s[k]=false)(d:s[k]≠34):Zg (bl s) k=if OG s[k] ((bl s).drop<|k+1)=[]then(⟨5,[],k⟩,k+1)else(⟨4,OG s[k]<|(bl s).drop<|k+1,k⟩,k+(OG s[k]<|(bl s).drop<|k+1).length):=by
 rw[Lw s k h a];unfold XT OG;rw[hd,c,YB.2 d];simp only[O6,Q0];split
 .rfl
 split<;>rfl
theorem pV{a b:LB}(h:ZY (a++b)=true):ZY a=true:=by
 unfold ZY at h⊢;simp_all;omega
theorem Fk(h:k<s.size)(a:s[k]=34):Zg (bl s) k=match seek 34<|(bl s).drop<|k+1with
 |none=>(⟨5,[],k⟩,(bl s).length)
 |some p=>(if ZY (((bl s).drop<|k+1).take p)then⟨3,((bl s).drop<|k+1).take p,k⟩else⟨5,[],k⟩,k+p+2):=by
 rw[Lw s k h<|by simp_all];unfold XT;rw[a];rfl
theorem pN{h:k<s.size}(c:s[k]=34){d:k+1+n<s.size}(e:s[k+1+n]=34)(a:34∉((bl s).drop<|k+1).take n)(g:ZY (((bl s).drop<|k+1).take n)=true):Zg (bl s) k=(⟨3,((bl s).drop<|k+1).take n,k⟩,k+n+2):=by
 rw[Fk h c];have f:(((bl s).drop<|k+1).take n).length=n:=by rw[Xw,Ur,Zb];omega
 have i:seek 34 ((bl s).drop<|k+1)=some n:=by
  rw[<-Oi n<|(bl s).drop _,List.drop_drop,Td s _ d,e,LM _ _ _ a,f]
 simp_all
theorem pM{h:k<s.size}(c:s[k]=34)(a:34∉(bl s).drop (k+1)):Zg (bl s) k=(⟨5,[],k⟩,(bl s).length):=by
 rw[Fk h c,(LN _ _).2 a]
theorem pL(h:k<s.size)(f:s[k]=34)(c:34∉((bl s).drop<|k+1).take n)(g:ZY (((bl s).drop<|k+1).take n)=false):∃e,Zg (bl s) k=(⟨5,[],k⟩,e):=by
 rw[Fk h f];cases i:seek 34<|(bl s).drop<|k+1with
 |none=>simp
 |some p=>
  refine⟨k+p+2,?_⟩;obtain⟨a,b,j,o,q⟩:=Pq i;have m:n<=p:=by
   by_cases l:n<=p
   .exact l
   .exfalso;apply c;rw[j,List.take_append,Wm X];rw[show n-a.length=(n-a.length-1)+1 by omega];simp
  have r:ZY (((bl s).drop<|k+1).take p)=false:=by
   cases d:ZY<|((bl s).drop<|k+1).take p
   .rfl
   .exfalso;have:((bl s).drop<|k+1).take p=((bl s).drop<|k+1).take n++(((bl s).drop<|k+1).drop n).take (p-n):=by
     rw[<-List.take_add];congr 1;omega
    rw[this]at d;rw[pV d]at g;simp_all
  simp_all
def WS(s:BA)(k n:Nat):Prop:=k+1+n<=s.size/\34∉((bl s).drop<|k+1).take n/\ZY (((bl s).drop<|k+1).take n)=true
theorem WS.start(h:k<s.size):WS s k 0:=⟨X,Sm,by rfl⟩
theorem Gt(_:k+1+n<=s.size):bl (s.extract (k+1)<|k+1+n)=((bl s).drop<|k+1).take n:=by
 rw[WL,Ri];simp
theorem WS.shut{ps:List Yu}(h:WS s k n)(a:TA s ps k)(f:k<s.size)(c:s[k]=34)(g:k+1+n<s.size)(d:s[k+1+n]=34):TA s (ps++[⟨2,k,s.extract (k+1)<|k+1+n,0⟩])<|k+1+n+1:=by
 have e:=pN c d h.2.1 h.2.2;rw[show k+1+n+1=k+n+2 by omega];exact a.token e (Sm) ⟨C,C,Gt X,λh=>by cases h⟩
theorem WS.never{ps:List Yu}(h:WS s k n)(c:TA s ps k)(e:k<s.size)(d:s[k]=34)(f:¬k+1+n<s.size):Uy (ps++[⟨5,k,⟨#[]⟩,0⟩])<|Z7 (bl s) ((bl s).length+1) 0:=by
 have a:34∉(bl s).drop (k+1):=by
  have:=h.2.1;rwa [Wm<|by rw[Ur,Zb];omega]at this
 exact c.done (pM d a) (.inr C) ⟨C,C,C,λh=>by cases h⟩
theorem gT(a:k+1+n<s.size):((bl s).drop<|k+1).take (n+1)=((bl s).drop<|k+1).take n++[s[k+1+n]]:=by
 rw[List.take_add,List.drop_drop,Td s _ a];rfl
theorem WS.no(h:WS s k n)(c:k+1+n<s.size)(d:s[k+1+n]≠34):34∉((bl s).drop<|k+1).take (n+1):=by
 rw[gT c,Wk];rintro(a|a)
 .exact h.2.1 a
 simp_all
theorem WS.bad{ps:List Yu}(h:WS s k n)(c:TA s ps k)(d:k<s.size)(f:s[k]=34)(g:k+1+n<s.size)(i:s[k+1+n]≠34)(a:ZY (bl<|s.extract (k+1)<|k+1+n+1)=false):Uy (ps++[⟨5,k,⟨#[]⟩,0⟩])<|Z7 (bl s) ((bl s).length+1) 0:=by
 rw[show k+1+n+1=k+1+(n+1)by omega,Gt X]at a;obtain⟨e,j⟩:=pL d f (h.no g i) a;exact c.done j (.inr C) ⟨C,C,C,λh=>by cases h⟩
theorem WS.go(h:WS s k n)(d:k+1+n<s.size)(c:s[k+1+n]≠34)(a:ZY (bl<|s.extract (k+1)<|k+1+n+1)=true):WS s k<|n+1:=by
 rw[show k+1+n+1=k+1+(n+1)by omega,Gt X]at a;exact⟨X,h.no _ c,a⟩
theorem Tryz.infoTok:(Tryz.prog.info? 389).map (λi=>(i.zero,i.size,i.bytes))=some (some<|.agg #[E 0,E 0,.string ByteArray.empty,E 0],4,40):=Kr
theorem Pd{W:Y}{a b c d:F}{t:TypeId}(e:W.heap.size=n):∀j x,[a,b,c,d][j]?=some x->(W.alloc<|.cells #[a,b,c,d] t).cell? ((⟨n,0,none⟩:Addr).add j)=some x:=by
 intro j x f;subst e;rw[QI];have h:=Go.Deep.blk_alloc_new W<|.cells #[a,b,c,d] t;simp only[World.cell?,h];simpa using f
theorem G1(p:UInt8->Bool):∀l:LB,(l.take<|run p l).all p=true
 |[]=>C
 |b::l=>by
  unfold run;split
  .rename_i h;simp[h];exact λx a=>(Tt.1<|G1 p l) x a
  .rfl
theorem LC{e:TypeId}(h:w.ownsRow base e size v n xs):w.ownsRow 0 e size v n xs:=by
 refine⟨h.1,?_⟩;rcases h.2 with a|⟨g,cap,cur,h,_,r⟩
 .exact .inl a
 .exact .inr ⟨g,cap,cur,h,Yr _,r⟩
theorem qQ(s:BA)(w:Y)(hs:s.size<=300):
 CP 216 #[.string s] w λe o=>∃(v:F)(ps:List Yu),e=.returned v/\o.ownsRow 0 389 4 v ps.length (VA ps)/\U (Uy ps<|Z7 (bl s) ((bl s).length+1) 0)/\BW w o:=by
 obtain⟨i0,hi,K,L,M⟩:=Xv Tryz.infoTok;go_enter func216,ntmps216;go_wp2;go_step3;go_wp2;go_step3;go_wp2;go_loopg [3,4] s.size (λgg v3 v4 wr=>∃(ps:List Yu)(k:Nat),gg=s.size-k/\v4=Vi k/\U (TA s ps k)/\wr.ownsRow w.heap.size 389 4 v3 ps.length (VA ps)/\U (BW w wr));case atStart=>exact⟨[],0,C,C,TA.start s,Xm _ _ _ _,Ym _ _⟩
 case round=>
  obtain⟨ps,k,c7,rfl,S,c,V⟩:=hrel;have hk:=S.1;have c8:=S.2.1;have O:=V.size;by_cases b0:k<s.size
  .by_cases b1:s[k]=32
   .have P:=I<|S.skip _ b1;go_wp2;go_roundg (s.size-(k+1));case measure=>omega
    case rel=>exact⟨ps,k+1,C,by go_num,P,c,V⟩
   .have c32:((s[k].toNat:Int)==32)=false:=by
     rw[YB];intro e;exact b1<|TN.1<|by show s[k].toNat=32;omega
    cases a2:Zt s[k]
    .have W:=I a2;clear a2;cases a3:Zl s[k]
     .have a8:=I a3;clear a3;by_cases a4:s[k]=34
      .have c34:((s[k].toNat:Int)==34)=true:=by rw[a4];rfl
       have HK:=I a4;clear a4;go_wp2_with fail;refine(Rp).m ?_;rintro e o ⟨rfl,rfl⟩;rw[W];go_wp2_with fail;refine(Qz).m ?_;rintro e wq ⟨rfl,rfl⟩;rw[a8];go_wp2;obtain⟨L3,b6⟩:∃L3,L3=u3:=⟨_,C⟩;go_loopg [3,4,10] (s.size-(k+1)) (λgi x3 x4 v10 wi=>∃n:Nat,x3=L3/\x4=Vi (k:Int)/\gi=s.size-(k+1+n)/\v10=Vi ((k+1+n:Nat):Int)/\U (WS s k n)/\wi=wq);case atStart=>exact⟨0,b6.symm,C,C,by go_num,WS.start b0,C⟩
       case round=>
        obtain⟨n,e3,rfl,c9,rfl,HQ,rfl⟩:=hrel;subst e3;subst b6;have hn:=HQ.1;by_cases b7:k+1+n<s.size
        .by_cases B:s[k+1+n]=34
         .have cE:((s[k+1+n].toNat:Int)==34)=true:=by rw[B];rfl
          have P:=I<|HQ.shut S _ HK _ B;clear B;go_wp2_with(at_builtin;refine XC _ C (.tmp 103) (.tmp 111) 381 C w.heap.size 389 i0 (.agg #[Vi 0,Vi 0,.string ByteArray.empty,Vi 0]) 4 40 underlying381 hi K L M C N _ _ _ C (c.alloc _) ⟨wr.heap.size,0,none⟩ 1 1 [Vi 2,Vi k,.string<|s.extract (k+1)<|k+1+n,Vi 0] C C ?c1 ?c2 ?c3 ?c4 ?c5 ?_);case c1=>exact Pd C
          case c2=>intro u z;simp at z;rcases z with rfl|rfl|rfl|rfl<;>rfl
          case c3=>unfold maxLen;omega
          case c4=>omega
          case c5=>simp;omega
          intro v' G f a _;have A:=I<|(V.alloc O _).grown a (by simp;omega) λq H=>(c.lt q H).1;have i:G.ownsRow w.heap.size 389 4 v' (ps++[(⟨2,k,s.extract (k+1)<|k+1+n,0⟩:Yu)]).length<|VA<|ps++[(⟨2,k,s.extract (k+1)<|k+1+n,0⟩)]:=by rwa [Pg,Yx]
          clear f a c;go_wp2;go_roundg (s.size-(k+1+n+1));case measure=>omega
          case rel=>exact⟨_,k+1+n+1,C,by first|rfl|go_num,P,i,A⟩
         .have cE:((s[k+1+n].toNat:Int)==34)=false:=by
           rw[YB];intro e;exact B<|TN.1<|by show s[k+1+n].toNat=34;omega
          have b2:(s.extract (k+1)<|k+1+n+1).size<=6000:=by simp;omega
          obtain⟨sx,D⟩:∃sx,sx=s.extract (k+1) (k+1+n+1):=⟨_,C⟩;have Q:=I D;rw[<-D]at b2;cases hw:ZY<|bl sx
          .have Z:=I<|HQ.bad S _ HK _ B<|by rwa [<-D]
           have HW:=I hw;clear B hw D;go_wp2_with fail;rw[<-Q];refine(FK _ _ b2).m ?_;rintro e wq ⟨rfl,rfl⟩;rw[HW];go_wp2_with(at_builtin;refine XC _ C (.tmp 127) (.tmp 130) 381 C w.heap.size 389 i0 (.agg #[Vi 0,Vi 0,.string ByteArray.empty,Vi 0]) 4 40 underlying381 hi K L M C N _ _ _ C (c.alloc _) ⟨wq.heap.size,0,none⟩ 1 1 [Vi 5,Vi k,.string ⟨#[]⟩,Vi 0] C C ?c1 ?c2 ?c3 ?c4 ?c5 ?_);case c1=>exact Pd C
           case c2=>intro u z;simp at z;rcases z with rfl|rfl|rfl|rfl<;>rfl
           case c3=>unfold maxLen;omega
           case c4=>omega
           case c5=>simp;omega
           intro v' G f a _;have A:=I<|(V.alloc O _).grown a (by simp;omega) λq H=>(c.lt q H).1;have i:G.ownsRow w.heap.size 389 4 v' (ps++[(⟨5,k,⟨#[]⟩,0⟩:Yu)]).length<|VA<|ps++[(⟨5,k,⟨#[]⟩,0⟩)]:=by rwa [Pg,Yx]
           clear f a c;go_wp2;try rw[QQ]
           go_ret;exact⟨_,_,C,LC i,Z,A⟩
          .have b8:=I<|HQ.go _ B<|by rwa [<-D]
           have HW:=I hw;clear B hw D;go_wp2_with fail;rw[<-Q];refine(FK _ _ b2).m ?_;rintro e wq ⟨rfl,rfl⟩;rw[HW];go_wp2;go_roundg (s.size-(k+1+(n+1)));case measure=>omega
           case rel=>exact⟨n+1,C,C,C,by go_num,b8,C⟩
        .have Z:=I<|HQ.never S _ HK b7;go_wp2_with(at_builtin;refine XC _ C (.tmp 127) (.tmp 130) 381 C w.heap.size 389 i0 (.agg #[Vi 0,Vi 0,.string ByteArray.empty,Vi 0]) 4 40 underlying381 hi K L M C N _ _ _ C (c.alloc _) ⟨wr.heap.size,0,none⟩ 1 1 [Vi 5,Vi k,.string ⟨#[]⟩,Vi 0] C C ?c1 ?c2 ?c3 ?c4 ?c5 ?_);case c1=>exact Pd C
         case c2=>intro u z;simp at z;rcases z with rfl|rfl|rfl|rfl<;>rfl
         case c3=>unfold maxLen;omega
         case c4=>omega
         case c5=>simp;omega
         intro v' G f a _;have A:=I<|(V.alloc O _).grown a (by simp;omega) λq H=>(c.lt q H).1;have i:G.ownsRow w.heap.size 389 4 v' (ps++[(⟨5,k,⟨#[]⟩,0⟩:Yu)]).length<|VA<|ps++[(⟨5,k,⟨#[]⟩,0⟩)]:=by rwa [Pg,Yx]
         clear f a c;go_wp2;try rw[QQ]
         go_ret;exact⟨_,_,C,LC i,Z,A⟩
      .have c34:((s[k].toNat:Int)==34)=false:=by
        rw[YB];intro e;exact a4<|TN.1<|by show s[k].toNat=34;omega
       have j:=pK b1 W a8 a4;obtain⟨m,hm⟩:∃m,m=OG s[k] ((bl s).drop<|k+1):=⟨_,C⟩;rw[<-hm]at j;have HM:=I hm;clear hm;by_cases a9:m=[]
       .rw[Ye a9]at j;have Z:U<|Uy (ps++[⟨5,k,⟨#[]⟩,0⟩]) _:=I<|S.done j (.inr C) ⟨C,C,C,λh=>by cases h⟩;clear j;go_wp2_with fail;refine(Rp).m ?_;rintro e o ⟨rfl,rfl⟩;rw[W];go_wp2_with fail;refine(Qz).m ?_;rintro e o ⟨rfl,rfl⟩;rw[a8];go_wp2_with fail;refine(Cx s k X b0).m ?_;rintro e o ⟨x,rfl,T,rfl⟩;have hx:bl x=[]:=by rwa [T.o,<-HM.o]
        obtain rfl:x=⟨#[]⟩:=by
         cases x with|mk d=>cases d with|mk l=>simp[bl]at hx;subst hx;rfl
        clear hx T;go_wp2_with(at_builtin;refine XC _ C (.tmp 127) (.tmp 130) 381 C w.heap.size 389 i0 (.agg #[Vi 0,Vi 0,.string ByteArray.empty,Vi 0]) 4 40 underlying381 hi K L M C N _ _ _ C (c.alloc _) ⟨o.heap.size,0,none⟩ 1 1 [Vi 5,Vi k,.string ⟨#[]⟩,Vi 0] C C ?c1 ?c2 ?c3 ?c4 ?c5 ?_);case c1=>exact Pd C
        case c2=>intro u z;simp at z;rcases z with rfl|rfl|rfl|rfl<;>rfl
        case c3=>unfold maxLen;omega
        case c4=>omega
        case c5=>simp;omega
        intro v' G f a _;have A:=I<|(V.alloc O _).grown a (by simp;omega) λq H=>(c.lt q H).1;have i:G.ownsRow w.heap.size 389 4 v' (ps++[(⟨5,k,⟨#[]⟩,0⟩:Yu)]).length<|VA<|ps++[(⟨5,k,⟨#[]⟩,0⟩)]:=by rwa [Pg,Yx]
        clear f a c;go_wp2;try rw[QQ]
        go_ret;exact⟨_,_,C,LC i,Z,A⟩
       .rw[Yd a9]at j;go_wp2_with fail;refine(Rp).m ?_;rintro e o ⟨rfl,rfl⟩;rw[W];go_wp2_with fail;refine(Qz).m ?_;rintro e o ⟨rfl,rfl⟩;rw[a8];go_wp2_with fail;refine(Cx s k X b0).m ?_;rintro e o ⟨x,rfl,T,rfl⟩;have hx:bl x=m:=by rw[T,<-HM]
        rw[<-hx]at j;have P:U<|TA s (ps++[⟨3,k,x,0⟩])<|k+x.size:=by
         have:=S.token (p:=⟨3,k,x,0⟩) j (by show¬((4:Nat)=0\/(4:Nat)=5);decide) ⟨C,C,C,λh=>by cases h⟩;rwa [Zb]at this
        have d0:0<x.size:=by rw[<-Zb,hx];exact QX.2 a9
        have d1:x.toList.isEmpty=false:=by
         rw[ZA,hx];cases m with
         |nil=>exact absurd C a9
         |cons=>rfl
        have d2:=P.1;clear hx T j;go_wp2_with(at_builtin;refine XC _ C (.tmp 24) (.tmp 28) 381 C w.heap.size 389 i0 (.agg #[Vi 0,Vi 0,.string ByteArray.empty,Vi 0]) 4 40 underlying381 hi K L M C N _ _ _ C (c.alloc _) ⟨o.heap.size,0,none⟩ 1 1 [Vi 3,Vi k,.string x,Vi 0] C C ?c1 ?c2 ?c3 ?c4 ?c5 ?_);case c1=>exact Pd C
        case c2=>intro u z;simp at z;rcases z with rfl|rfl|rfl|rfl<;>rfl
        case c3=>unfold maxLen;omega
        case c4=>omega
        case c5=>simp;omega
        intro v' G f a _;have A:=I<|(V.alloc O _).grown a (by simp;omega) λq H=>(c.lt q H).1;have i:G.ownsRow w.heap.size 389 4 v' (ps++[(⟨3,k,x,0⟩:Yu)]).length<|VA<|ps++[(⟨3,k,x,0⟩)]:=by rwa [Pg,Yx]
        clear f a c;go_wp2;go_roundg (s.size-(k+x.size));case measure=>omega
        case rel=>exact⟨_,k+x.size,C,by first|rfl|go_num,P,i,A⟩
     .obtain⟨E,B⟩:∃E,E=k+run Zl ((bl s).drop k):=⟨_,C⟩;have a0:U<|∀w,Calls _ _ _ w λe o=>e=.returned _/\o=w:=I λw=>B▸gN s k w X hk;have a5:0<run Zl ((bl s).drop k):=by rw[JD s k a3];omega
      have a1:=NI Zl<|(bl s).drop k;rw[Ur,Zb]at a1;have b9:k<E:=X;have c0:E<=s.size:=X;have T:U<|bl (s.extract k E)=((bl s).drop k).take (run Zl<|(bl s).drop k):=by rw[WL,Ri,B];congr 1;omega
      have j:=pJ W a3;rw[<-T,<-B]at j;have D:(s.extract k E).size=run Zl ((bl s).drop k):=by rw[ZE T,Xw,Ur,Zb];omega
      have a6:U<|Zx (bl _)=decide (run Zl ((bl s).drop k)<=8):=I (by
       unfold Zx;rw[T,G1,Xw,Ur,Zb];rw[QR X];by_cases h8:run Zl ((bl s).drop k)<=8
       .simp[h8];omega
       .simp[h8];omega);have a7:(s.extract k E).size<=6000:=X;obtain⟨sx,J⟩:∃sx,sx=s.extract k E:=⟨_,C⟩;rw[<-J]at j a7 a6;have Q:=I J;by_cases h8:8<run Zl ((bl s).drop k)
      .rw[Ye h8]at j;have Z:U<|Uy (ps++[⟨5,k,⟨#[]⟩,0⟩]) _:=I<|S.done j (.inr C) ⟨C,C,C,λh=>by cases h⟩;have b3:U _:=a6.o▸Wl X;clear j B J a5 a1 h8 D T a6;go_wp2_with fail;refine(Rp).m ?_;rintro e o ⟨rfl,rfl⟩;rw[W];go_wp2_with fail;refine(Qz).m ?_;rintro e o ⟨rfl,rfl⟩;rw[a3];go_wp2_with fail;refine(a0 _).m ?_;rintro e o ⟨rfl,rfl⟩;go_wp2_with fail;rw[<-Q];refine(FJ _ _ a7).m ?_;rintro e o ⟨rfl,rfl⟩;rw[b3];go_wp2_with(at_builtin;refine XC _ C (.tmp 127) (.tmp 130) 381 C w.heap.size 389 i0 (.agg #[Vi 0,Vi 0,.string ByteArray.empty,Vi 0]) 4 40 underlying381 hi K L M C N _ _ _ C (c.alloc _) ⟨o.heap.size,0,none⟩ 1 1 [Vi 5,Vi k,.string ⟨#[]⟩,Vi 0] C C ?c1 ?c2 ?c3 ?c4 ?c5 ?_);case c1=>exact Pd C
       case c2=>intro u z;simp at z;rcases z with rfl|rfl|rfl|rfl<;>rfl
       case c3=>unfold maxLen;omega
       case c4=>omega
       case c5=>simp;omega
       intro v' G f a _;have A:=I<|(V.alloc O _).grown a (by simp;omega) λq H=>(c.lt q H).1;have i:G.ownsRow w.heap.size 389 4 v' (ps++[(⟨5,k,⟨#[]⟩,0⟩:Yu)]).length<|VA<|ps++[(⟨5,k,⟨#[]⟩,0⟩)]:=by rwa [Pg,Yx]
       clear f a c;go_wp2;try rw[QQ]
       go_ret;exact⟨_,_,C,LC i,Z,A⟩
      .rw[Yd h8]at j;have P:U<|TA s (ps++[⟨1,k,sx,0⟩]) E:=S.token j (by show¬((2:Nat)=0\/(2:Nat)=5);decide) ⟨C,C,C,λh=>by cases h⟩;have b3:U _:=a6.o▸WI X;clear j B J a5 a1 h8 D T a6;go_wp2_with fail;refine(Rp).m ?_;rintro e o ⟨rfl,rfl⟩;rw[W];go_wp2_with fail;refine(Qz).m ?_;rintro e o ⟨rfl,rfl⟩;rw[a3];go_wp2_with fail;refine(a0 _).m ?_;rintro e o ⟨rfl,rfl⟩;go_wp2_with fail;rw[<-Q];refine(FJ _ _ a7).m ?_;rintro e o ⟨rfl,rfl⟩;rw[b3];go_wp2_with(at_builtin;refine XC _ C (.tmp 78) (.tmp 85) 381 C w.heap.size 389 i0 (.agg #[Vi 0,Vi 0,.string ByteArray.empty,Vi 0]) 4 40 underlying381 hi K L M C N _ _ _ C (c.alloc _) ⟨o.heap.size,0,none⟩ 1 1 [Vi 1,Vi k,.string<|s.extract k E,Vi 0] C C ?c1 ?c2 ?c3 ?c4 ?c5 ?_);case c1=>exact Pd C
       case c2=>intro u z;simp at z;rcases z with rfl|rfl|rfl|rfl<;>rfl
       case c3=>unfold maxLen;omega
       case c4=>omega
       case c5=>simp;omega
       intro v' G f a _;have A:=I<|(V.alloc O _).grown a (by simp;omega) λq H=>(c.lt q H).1;have i:G.ownsRow w.heap.size 389 4 v' (ps++[(⟨1,k,sx,0⟩:Yu)]).length<|VA<|ps++[(⟨1,k,sx,0⟩)]:=by rwa [Pg,Yx,Q.o]
       clear f a c;go_wp2;go_roundg (s.size-E);case measure=>omega
       case rel=>exact⟨_,E,C,by first|rfl|go_num,P,i,A⟩
    .obtain⟨E,B⟩:∃E,E=k+run Zt ((bl s).drop k):=⟨_,C⟩;have a0:U<|∀w,Calls _ _ _ w λe o=>e=.returned _/\o=w:=I λw=>B▸gM s k w X hk;have a5:0<run Zt ((bl s).drop k):=by rw[JD s k a2];omega
     have a1:=NI Zt<|(bl s).drop k;rw[Ur,Zb]at a1;have b9:k<E:=X;have c0:E<=s.size:=X;have T:U<|bl (s.extract k E)=((bl s).drop k).take (run Zt<|(bl s).drop k):=by rw[WL,Ri,B];congr 1;omega
     have j:=pH a2;rw[<-T,<-B]at j;have D:(s.extract k E).size<=6000:=by simp;omega
     obtain⟨sx,J⟩:∃sx,sx=s.extract k E:=⟨_,C⟩;rw[<-J]at j D;have Q:=I J;cases R:ZC 1000000000 (bl sx)with
     |none=>
      rw[R]at j;have Z:U<|Uy (ps++[⟨5,k,⟨#[]⟩,0⟩]) _:=I<|S.done j (.inr C) ⟨C,C,C,λh=>by cases h⟩;have b4:=I<|NA R;clear R j B J a5 a1;go_wp2_with fail;refine(Rp).m ?_;rintro e o ⟨rfl,rfl⟩;rw[a2];go_wp2_with fail;refine(a0 _).m ?_;rintro e o ⟨rfl,rfl⟩;go_wp2_with fail;rw[<-Q];refine(Jo _ 1000000000 _ D N N).m ?_;rintro e o ⟨rfl,rfl⟩;rw[b4];go_wp2_with(at_builtin;refine XC _ C (.tmp 127) (.tmp 130) 381 C w.heap.size 389 i0 (.agg #[Vi 0,Vi 0,.string ByteArray.empty,Vi 0]) 4 40 underlying381 hi K L M C N _ _ _ C (c.alloc _) ⟨o.heap.size,0,none⟩ 1 1 [Vi 5,Vi k,.string ⟨#[]⟩,Vi 0] C C ?c1 ?c2 ?c3 ?c4 ?c5 ?_);case c1=>exact Pd C
      case c2=>intro u z;simp at z;rcases z with rfl|rfl|rfl|rfl<;>rfl
      case c3=>unfold maxLen;omega
      case c4=>omega
      case c5=>simp;omega
      intro v' G f a _;have A:=I<|(V.alloc O _).grown a (by simp;omega) λq H=>(c.lt q H).1;have i:G.ownsRow w.heap.size 389 4 v' (ps++[(⟨5,k,⟨#[]⟩,0⟩:Yu)]).length<|VA<|ps++[(⟨5,k,⟨#[]⟩,0⟩)]:=by rwa [Pg,Yx]
      clear f a c;go_wp2;try rw[QQ]
      go_ret;exact⟨_,_,C,LC i,Z,A⟩
     |some v=>
      rw[R]at j;have P:U<|TA s (ps++[⟨0,k,sx,v⟩]) E:=S.token (t:=⟨1,bl _,k⟩) j (by show¬((1:Nat)=0\/(1:Nat)=5);decide) ⟨C,C,C,λ_=>by unfold Wz;rw[R];rfl⟩;have b4:=I<|Js R;clear R j B J a5 a1;go_wp2_with fail;refine(Rp).m ?_;rintro e o ⟨rfl,rfl⟩;rw[a2];go_wp2_with fail;refine(a0 _).m ?_;rintro e o ⟨rfl,rfl⟩;go_wp2_with fail;rw[<-Q];refine(Jo _ 1000000000 _ D N N).m ?_;rintro e o ⟨rfl,rfl⟩;rw[b4];go_wp2_with(at_builtin;refine XC _ C (.tmp 55) (.tmp 63) 381 C w.heap.size 389 i0 (.agg #[Vi 0,Vi 0,.string ByteArray.empty,Vi 0]) 4 40 underlying381 hi K L M C N _ _ _ C (c.alloc _) ⟨o.heap.size,0,none⟩ 1 1 [Vi 0,Vi k,.string<|s.extract k E,Vi v] C C ?c1 ?c2 ?c3 ?c4 ?c5 ?_);case c1=>exact Pd C
      case c2=>intro u z;simp at z;rcases z with rfl|rfl|rfl|rfl<;>rfl
      case c3=>unfold maxLen;omega
      case c4=>omega
      case c5=>simp;omega
      intro v' G f a _;have A:=I<|(V.alloc O _).grown a (by simp;omega) λq H=>(c.lt q H).1;have i:G.ownsRow w.heap.size 389 4 v' (ps++[(⟨0,k,sx,v⟩:Yu)]).length<|VA<|ps++[(⟨0,k,sx,v⟩)]:=by rwa [Pg,Yx,Q.o]
      clear f a c;go_wp2;go_roundg (s.size-E);case measure=>omega
      case rel=>exact⟨_,E,C,by first|rfl|go_num,P,i,A⟩
  .have b5:k=s.size:=X;have Z:U<|Uy (ps++[⟨4,k,⟨#[]⟩,0⟩]) _:=S.done (t:=⟨0,[],s.size⟩) (e:=s.size) (by rw[b5];exact Zkg s) (Or.inl C) ⟨C,b5,C,λh=>by cases h⟩;clear b5;go_wp2_with(at_builtin;refine XC _ C (.tmp 132) (.tmp 135) 381 C w.heap.size 389 i0 (.agg #[Vi 0,Vi 0,.string ByteArray.empty,Vi 0]) 4 40 underlying381 hi K L M C N _ _ _ C (c.alloc _) ⟨wr.heap.size,0,none⟩ 1 1 [Vi 4,Vi k,.string ⟨#[]⟩,Vi 0] C C ?c1 ?c2 ?c3 ?c4 ?c5 ?_);case c1=>exact Pd C
   case c2=>intro u z;simp at z;rcases z with rfl|rfl|rfl|rfl<;>rfl
   case c3=>unfold maxLen;omega
   case c4=>omega
   case c5=>simp;omega
   intro v' G f a _;have A:=I<|(V.alloc O _).grown a (by simp;omega) λq H=>(c.lt q H).1;have c6:U<|G.ownsRow 0 389 4 v' (ps++[(⟨4,k,⟨#[]⟩,0⟩:Yu)]).length<|VA<|ps++[(⟨4,k,⟨#[]⟩,0⟩)]:=by
    rw[Pg,Yx];refine⟨f.1,?_⟩;rcases f.2 with h2|⟨g,cap,cur,h,_,r⟩
    .exact .inl h2
    .exact .inr ⟨g,cap,cur,h,Yr _,r⟩
   clear f a c;go_wp2;try rw[QQ]
   go_ret;exact⟨_,_,C,c6,Z,A⟩
theorem OX(a:k≠2)(c:k≠4)(d:k<=5):RL ⟨k,x,j⟩/\(⟨k,x,j⟩:Yg).jj<=5:=⟨⟨λh=>absurd h a,λh=>absurd h c⟩,d⟩
theorem yr(h:x.all Zl=true):RL ⟨2,x,j⟩/\(⟨2,x,j⟩:Yg).jj<=5:=⟨⟨λ_=>h,λh=>absurd (show(2)=4 from h) N⟩,by show(2:Nat)<=5;decide⟩
theorem Am(h:x.all (λc=>!Zl c)=true):RL ⟨4,x,j⟩/\(⟨4,x,j⟩:Yg).jj<=5:=⟨⟨λh=>absurd (show(4)=2 from h) N,λ_=>h⟩,by show(4:Nat)<=5;decide⟩
theorem qO{r:LB}:RL (XT l j c r).1/\(XT l j c r).1.jj<=5:=by
 unfold XT;split
 .split
  .exact OX N N N
  .exact OX N N N
 .rename_i hd;split
  .split
   .exact OX N N N
   .exact yr<|G1 _ _
  .rename_i a;split
   .split
    .exact OX N N N
    .split
     .exact OX N N N
     .exact OX N N N
   .split
    .exact Am N
    .split
     .refine Am ?_;show([c].all λc=>!Zl c)=true;have:=Qs.2 a;simp[this]
     .exact OX N N N
theorem pO(l:LB)(i:Nat):RL (Zg l i).1/\(Zg l i).1.jj<=5:=by
 unfold Zg UV;split
 .exact OX N N N
 .exact qO
theorem Ay(l:LB):∀(n i:Nat),i<=l.length->l.length+1<=n+i->PP (Z7 l n i)
 |0,i,a,c=>absurd c X
 |n+1,i,a,c=>by
  show PP<|if(Zg l i).1.jj=0\/(Zg l i).1.jj=5 then[(Zg l i).1]else(Zg l i).1::Z7 l n (Zg l i).2;by_cases h:(Zg l i).1.jj=0\/(Zg l i).1.jj=5
  .rw[Ye h];exact h
  · rw[Yd h];have d:=Nx l i a;have f:=pO l i;have ih:=Ay l n _ d.2<|by have:=d.1 λe=>h<|.inl e;omega
    cases g:Z7 l n (Zg l i).2 with
   |nil=>rw[g]at ih;exact ih.elim
   |cons u m=>
    rw[g]at ih;exact⟨by have:=f.2;omega,f.1,ih⟩
theorem vC{b:Nat}(h:w.grownBy w'<|some b)(a:B<=b)(c:B<=w.heap.size):Below B w w':=
 ⟨h.os,h.tape,h.output,h.size,λj d=>h.block j X λe=>by injection e with e;omega⟩
def WT(w:Y)(lg sy dp tp:Addr)(r:Except (Nat×Nat) Tr)(pv v:F):Prop:=match r with
 |.ok t=>v=.nilIface/\Zo w t pv
 |.error x=>(x=(1,0)/\v=.iface 469 (.pointer<|some lg))\/(x=(4,0)/\v=.iface 469 (.pointer<|some tp))\/(x.1=2/\ZF w v x.2 sy)\/(x.1=3/\ZF w v x.2 dp)
theorem WT.error{pv:F}{x:Nat×Nat}(a:r=.error x)(h:(x=(1,0)/\v=.iface 469 (.pointer<|some lg))\/(x=(4,0)/\v=.iface 469 (.pointer<|some tp))\/(x.1=2/\ZF w v x.2 sy)\/(x.1=3/\ZF w v x.2 dp)):WT w lg sy dp tp r pv v:=by subst a;exact h
theorem WT.fine{pv:F}{t:Tr}(a:r=.ok t)(h:v=.nilIface/\Zo w t pv):WT w lg sy dp tp r pv v:=by subst a;exact h
structure Rc (w:Y)(lg sy dp tp:Addr):Prop where
 lg:w.cell? ⟨0,0,none⟩=some (.iface 469<|.pointer<|some lg)
 sy:w.cell? ⟨1,0,none⟩=some (.iface 469<|.pointer<|some sy)
 dp:w.cell? ⟨2,0,none⟩=some (.iface 469<|.pointer<|some dp)
 tp:w.cell? ⟨3,0,none⟩=some (.iface 469<|.pointer<|some tp)
theorem Rc.below(h:Rc w lg sy dp tp)(a:BW w w'):Rc w' lg sy dp tp:=
 ⟨(a.cell<|Xi _ _ h.lg).trans h.lg,(a.cell<|Xi _ _ h.sy).trans h.sy,(a.cell<|Xi _ _ h.dp).trans h.dp,(a.cell<|Xi _ _ h.tp).trans h.tp⟩
theorem BQ(s:BA)(w:Y)(b9:s.size<=9223372036854775807)(O:Rc w lg sy dp tp):
 CP 189 #[.string s] w λe w'=>∃pv v:F,e=.returned (.tuple #[pv,v])/\U (WT w' lg sy dp tp (Z5<|bl s) pv v)/\BW w w':=by
 by_cases hl:300<s.size
 .have HR:U<|Z5 _=.error _:=I<|by unfold Z5;rw[Zb,Ye hl]
  have hd:(300:Int)<s.size:=X;have c0:=O.lg;clear O;go_enter func189,ntmps189;go_wp2;go_region;all_goals
   go_wp2;go_ret2;exact⟨_,_,C,WT.error HR<|.inl ⟨C,C⟩,Yh⟩
 .have a9:s.size<=300:=X;have hd:¬((300:Int)<s.size):=X;obtain⟨ts,h⟩:∃ts,ts=Z7 (bl s) ((bl s).length+1) 0:=⟨_,C⟩;have b0:U<|ts.length<=301:=I<|by
   have:=Lb (bl s) ((bl s).length+1) 0<|Yr _;rw[<-h,Zb]at this;omega
  have Q:U _:=h▸Ay _ _ _ (Yr _) X;have q:U<|Z5 (bl s)=match Zh (10*ts.length+5) false 0 .nil ts 0 with
   |.error e=>.error e
   |.ok (t,r)=>if(LS.hd r).jj=0 then(if Zq t=0 then .error (4,0)else .ok t)else .error (2,(LS.hd r).at_):=by
   unfold Z5;rw[Zb,Yd hl,<-Zb,<-h];cases Zh (10*ts.length+5) false 0 .nil ts 0 with
   |error e=>rfl
   |ok x=>rfl
  have HS:=I O;have b1:=I h;clear h O hl;go_enter func189,ntmps189;go_wp2_with fail;refine(qQ s w a9).m ?_;rintro e w1 ⟨v,ps,rfl,l,d,A⟩;rw[<-b1]at d;have R:=I d.length;have S:0<ps.length:=R.o▸Q.head.2.1;obtain⟨g,cp,rfl⟩:=Zm l S;have T:=I l;have m:=I A;have V:=I<|HS.below A;clear l A;go_wp2_with fail;refine Zv λW P=>?_;have n:Below _ _ W:=P▸Yc;have b2:=I<|m.trans<|n.mono m.size;have Z:=I<|V.below n;have HK:U<|RK W ⟨w1.heap.size,g,cp,ps,sy,dp⟩ 0 _:=I ⟨⟨P▸YO,Ze T n,S⟩,d,Q,by show ps.length<=302;rw[R];have:=b0.o;omega,Z.sy,Z.dp⟩;have c1:w1.heap.size<W.heap.size:=by rw[P];simp
  have b3:=m.size;clear P n T d V m;refine((Da _).1 0 N _ (Yj _) W _ 0 ts 0 HK.o N<|by show 10*ts.length+5<=10*ts.length+5+0;omega).m ?_;rintro e z ⟨pv,v,rfl,b4,f,a0⟩;have a1:=vC a0 b3 X;have i:=I<|b2.trans a1;have c2:=I<|HS.below i;clear a0 a1;cases a:Zh (10*ts.length+5) false 0 .nil ts 0 with
  |error er=>
   have B:=I<|f.err a;obtain⟨fa,rfl⟩:=B.shape;have b5:U<|Z5 _=.error _:=I<|by rw[q,a]
   clear f a;go_wp2;go_ret2;exact⟨_,_,C,WT.error b5<|.inr<|.inr B,i⟩
  |ok pr=>
   obtain⟨t,r⟩:=pr;obtain⟨rfl,⟨k2,a2⟩,D⟩:=f.good a;have G:=I a2;have a3:=I D;have H:U<|Z5 _=if(LS.hd r).jj=0 then(if Zq t=0 then .error _ else .ok t)else .error _:=I<|by rw[q,a]
   obtain⟨ty,u,b6⟩:=Zo.shape D;subst b6;clear f a a2 D b4 q;go_wp2_with fail;refine(QL G.o).m ?_;rintro e w3 ⟨⟨kd,at_,tx,tv⟩,rfl,ht,o⟩;have j:=I<|i.trans<|o.mono i.size;have a4:=I<|G.below o;have a5:=I<|a3.below o;clear o i G a3;have p:=P3 a4.wf.head.2.2;by_cases c:(LS.hd r).jj=0
   .have a6:kd=4:=by have:=ht.1;simp only at this;rw[this,p.2.2.2.2.2 c]
    subst a6;have J:U<|Z5 _=if Zq t=0 then .error _ else .ok t:=I<|by rw[H,Ye c]
    have hf:∀W:Y,(Instr.field 389 (.agg #[E 4,E at_,.string tx,E tv]) 0).run prog W=.ok (.int _ 4) W:=λ_=>C;clear c p ht;go_wp2_with fail;refine(Hf t _ _ _ a5 (HS.below j).tp).m ?_;rintro e w4 ⟨kd,err,rfl,K,L⟩;have a7:=I<|j.trans<|L.mono j.size;have b7:=I<|a5.below L;clear L;rcases K.o with⟨M,rfl⟩|⟨M,rfl,rfl⟩|⟨M,rfl,rfl⟩
    .have k:U<|Z5 _=.error _:=I<|by rw[J,Ye M]
     clear K M;go_wp2;go_ret2;exact⟨_,_,C,WT.error k<|.inr<|.inl ⟨C,C⟩,a7⟩
    all_goals
     have k:U<|Z5 _=.ok t:=I<|by rw[J,Yd X]
     clear K M;go_wp2;go_ret2;exact⟨_,_,C,WT.fine k ⟨C,b7⟩,a7⟩
   .have a6:((kd:Int) !=4)=true:=by
     rw[Vg];intro e;exact c<|p.2.2.2.2.1<|by have:=ht.1;simp only at this;omega
    have k:U<|Z5 _=.error _:=I<|by rw[H,Yd c]
    have hf:∀W:Y,(Instr.field 389 (.agg #[.int _ kd,E at_,.string tx,E tv]) 0).run prog W=.ok (E _) W:=λ_=>C;clear c p;go_wp2_with fail;refine(Oy a4.o).m ?_;rintro e wE ⟨v,rfl,B,a8⟩;obtain⟨fa,rfl⟩:=B.shape;have b8:=I<|j.trans<|a8.mono j.size;clear a8;go_wp2;go_ret2;exact⟨_,_,C,WT.error k<|.inr<|.inr B,b8⟩
theorem Es{y:LB}(m:Int)(w:Y)(g:s.size<=70000)(d:w.cell? ⟨14,0,none⟩=some (E m))(h:cut c (bl s)=some (x,y)):
 CP 90 #[.string s,.string ⟨#[c]⟩] w λe u=>∃a b:BA,e=.returned (.tuple #[.string a,.string b,.bool true])/\U (bl a=x/\bl b=y)/\∃n,u=w.drewN n:=by
 refine(strings_Cut s _ m w X d).m ?_;rintro e u ⟨rfl,f⟩;have e1:Lib.cut s.data.toList (⟨#[c]⟩:BA).data.toList=(x,y,true):=qT h;rw[e1];exact⟨_,_,C,⟨U9 x,U9 y⟩,f⟩
theorem Pe{y:LB}(m:Int)(w:Y)(f:s.size<=6000)(d:w.cell? ⟨14,0,none⟩=some (E m))(h:cut c (bl s)=some (x,y)):
 CP 90 #[.string s,.string ⟨#[c]⟩] w λe u=>∃a b:BA,e=.returned (.tuple #[.string a,.string b,.bool true])/\U (bl a=x/\bl b=y)/\∃n,u=w.drewN n:=Es m w X d h
theorem Et(m:Int)(w:Y)(g:s.size<=70000)(d:w.cell? ⟨14,0,none⟩=some (E m))(h:cut c (bl s)=none):
 CP 90 #[.string s,.string ⟨#[c]⟩] w λe u=>∃a b:BA,e=.returned (.tuple #[.string a,.string b,.bool false])/\U (bl a=bl s/\bl b=[])/\∃n,u=w.drewN n:=by
 refine(strings_Cut s _ m w X d).m ?_;rintro e u ⟨rfl,f⟩;have e1:Lib.cut s.data.toList (⟨#[c]⟩:BA).data.toList=(bl s,[],false):=qS h;rw[e1];exact⟨_,_,C,⟨U9 _,U9 _⟩,f⟩
theorem Mm(m:Int)(w:Y)(f:s.size<=6000)(d:w.cell? ⟨14,0,none⟩=some (E m))(h:cut c (bl s)=none):
 CP 90 #[.string s,.string ⟨#[c]⟩] w λe u=>∃a b:BA,e=.returned (.tuple #[.string a,.string b,.bool false])/\U (bl a=bl s/\bl b=[])/\∃n,u=w.drewN n:=Et m w X d h
theorem uC(c:UInt8)(s:BA)(w:Y):
 CP 169 #[.string s,.string ⟨#[c]⟩] w λe u=>∃a:BA,e=.returned (.tuple #[.string a,.bool (Z6 c<|bl s).2])/\U (bl a=(Z6 c<|bl s).1)/\u=w:=by
 refine(strings_CutPrefix s _ w).m ?_;rintro e u ⟨rfl,d⟩;have e1:=qU c<|bl s;rw[<-e1];exact⟨_,C,U9 _,d⟩
def Nl(w:Y)(g:Nat)(ps:List<|LB):Prop:=g<w.heap.size/\∀i,i<ps.length->∃s:BA,w.cell? ⟨g,i,none⟩=some (.string s)/\bl s=ps.getD i []
theorem Nl.below{g:Nat}(h:Nl w g ps)(a:Below B w w')(c:g<B):Nl w' g ps:=
 ⟨WH h.1 a.size,λi d=>by
  obtain⟨s,e,f⟩:=h.2 i d;exact⟨s,(a.cell c).trans e,f⟩⟩
theorem ew(c:UInt8)(s:BA)(m:Int)(w:Y)(j:s.size<=70000)(g:w.cell? ⟨14,0,none⟩=some (E m)):
 CP 41 #[.string s,.string ⟨#[c]⟩] w λe u=>
  ∃n,e=.returned (.slice (some ⟨w.heap.size,0,none⟩) n n)/\n=(split c<|bl s).length/\Nl u w.heap.size (split c<|bl s)/\BW w u:=by
 refine(strings_Split s ⟨#[c]⟩ m w X g<|Yj 1).m ?_;rintro e u ⟨rfl,rfl⟩;have hd:(Lib.splitB ⟨#[c]⟩ 0 (Lib.countB s ⟨#[c]⟩) s).map bl=split c (bl s):=by
  refine(Lib.splitB_data _ 0 _ s).trans ?_;exact A9 c _ _<|Yj _
 have d:=Lib.splitB_all ⟨#[c]⟩ (Yj 1) 0 _ s C;have a:(split c<|bl s).length=Lib.countB s ⟨#[c]⟩+1:=by rw[<-hd,Yz,d]
 refine⟨_,C,a.symm,⟨Sm,λi h=>?_⟩,Yc⟩;have f:i<(Lib.splitB _ 0 _ s).length:=d▸a▸h;refine⟨(Lib.splitB _ 0 _ s)[i],?_,?_⟩
 .simp
 .rw[<-hd];simp[f]
theorem Fb(s:BA)(m:Int)(d:s.size<=6000)(a:w.cell? ⟨14,0,none⟩=some (E m)):
 CP 41 #[.string s,.string ⟨#[c]⟩] w λe u=>
  ∃n,e=.returned (.slice (some ⟨w.heap.size,0,none⟩) n n)/\n=(split c<|bl s).length/\Nl u w.heap.size (split c<|bl s)/\BW w u:=ew c s m w X a
theorem zX{d:LB}(h:ZC 1000000000 (Z6 45 d).1=none):T2 d=false:=by unfold T2;rw[h]
theorem zY{d:LB}{v:Nat}(h:ZC 1000000000 (Z6 45 d).1=some v):T2 d=!((Z6 45 d).2&&v==0):=by unfold T2;rw[h]
theorem AT{r:LB}(s:BA)(a:mi=most)(d:s.size<=6000)(c:9<=most)(f:most<=1000000000)(g:bl s=r)(h:ZC most r=none):
 CP 188 #[.string s,E mi] w λe u=>e=.returned (.tuple #[E 0,.bool false])/\u=w:=by
 subst a;subst g;have:=Jo s _ w d c f;rwa [NA h]at this
theorem AU{r:LB}{v:Nat}(s:BA)(a:mi=most)(d:s.size<=6000)(c:9<=most)(f:most<=1000000000)(g:bl s=r)(h:ZC most r=some v):
 CP 188 #[.string s,E mi] w λe u=>e=.returned (.tuple #[E v,.bool true])/\u=w:=by
 subst a;subst g;have:=Jo s _ w d c f;rwa [Js h]at this
theorem K6{r:LB}{f:Bool}(h:Z6 c (bl s)=(r,f)):
 CP 169 #[.string s,.string ⟨#[c]⟩] w λe u=>∃a:BA,e=.returned (.tuple #[.string a,.bool f])/\U (bl a=r)/\u=w:=by
 have:=uC c s w;rwa [h]at this
theorem zT{d d':LB}{less:Bool}{v:Int}(a:Z6 45 d=(d',less))(c:YL 1000000000 d'=v):S8 d=if less then-v else v:=by
 unfold S8;rw[a];simp only[c]
theorem gq(s:BA)(A:s.size<=6000):
 CP 199 #[.string s] w λe u=>∃v:Int,e=.returned (.tuple #[E v,.bool<|T2<|bl s])/\u=w/\U (T2 (bl s)=true->v=S8 (bl s)):=by
 have x:(Z6 45<|bl s).1.length<=s.size:=by rw[<-Zb];exact GM _ _
 have g:=@zX<|bl s;have i:=@zY<|bl s;generalize p:Z6 45 (bl s)=st at*;obtain⟨r,f⟩:=st;have j:=I p;clear p;simp only at x g i;cases d:ZC 1000000000 r with
 |none=>
  have k:=I<|g d;have n:=I d;clear d g i;cases f<;>
  .go_enter func199,ntmps199;go_wp2_with fail;refine(K6 j).m ?_;rintro e u ⟨a,rfl,l,rfl⟩;have m:a.size<=6000:=by rw[ZE l];omega
   go_wp2_with fail;refine(AT a C m X X l n).m ?_;rintro e u ⟨rfl,rfl⟩;go_wp2;go_ret2;exact⟨_,by rw[k];rfl,C,I λh=>by rw[k]at h;cases h⟩
 |some v=>
  have B:=Mw d;have n:=I d;have c:=i d;clear d g i;have o:(f=false/\T2 (bl s)=true)\/(f=true/\((v:Int) !=0)=true/\T2 (bl s)=true)\/(f=true/\((v:Int) !=0)=false/\T2 (bl s)=false):=by
   cases f
   .exact .inl ⟨C,by simpa using c⟩
   .by_cases q:v=0
    .subst q;exact .inr<|.inr ⟨C,C,by simpa using c⟩
    .exact .inr<|.inl ⟨C,by simp;omega,by rw[c];simp[q]⟩
  clear c;rcases o with⟨rfl,c⟩|⟨rfl,z,c⟩|⟨rfl,z,c⟩;all_goals
   have k:=I c;have t:=I (zT j<|RB n).symm;clear c;go_enter func199,ntmps199;go_wp2_with fail;refine(K6 j).m ?_;rintro e u ⟨a,rfl,l,rfl⟩;have m:a.size<=6000:=by rw[ZE l];omega
   go_wp2_with fail;refine(AU a C m X X l n).m ?_;rintro e u ⟨rfl,rfl⟩;go_wp2;go_ret2;exact⟨_,by rw[k];rfl,C,I λh=>by first|(rw[k.o]at h;cases h;done)|exact t.o⟩
def KS(l:LB)(tm v:Int)(ok:Bool):Prop:=(ok=true/\∃t:Nat,Tw l=some t/\tm=t/\t<=1000000/\UJ l=(tm,v))\/(ok=false/\Tw l=none)
theorem hZ(m:Int)(l:s.size<=6000)(r:w.cell? ⟨14,0,none⟩=some (E m)):
 CP 170 #[.string s] w λe u=>∃(tm v:Int)(ok:Bool),e=.returned (.tuple #[.agg #[E tm,E v],.bool ok])/\U (KS (bl s) tm v ok)/\BW w u:=by
 have g:∀o,(w.alloc o).cell? _=some _:=λo=>TM _ _ _ (Xi _ _ r)▸r;cases d:cut 58 (bl s)with
 |none=>
  have h:U<|KS _ 0 0 _:=.inr ⟨C,by unfold Tw;rw[d]⟩;have j:=I d;clear d;go_enter func170,ntmps170;go_wp2_with fail;refine(Mm m _ l (g _) j).m ?_;rintro e u ⟨a,b,rfl,c,n,rfl⟩;go_wp2;exact YQ (by simp[results,results170,go_sem]) C ⟨0,0,false,C,h,Yh⟩
 |some xy=>
  obtain⟨x,y⟩:=xy;have D:x.length<=s.size/\y.length<=s.size:=by
   rw[<-Zb,(Rm d).1];simp;omega
  have j:=I d;cases f:ZC 1000000 x with
  |none=>
   have h:U<|KS _ 0 0 _:=.inr ⟨C,by unfold Tw;rw[d];simp only[f]⟩;have p:=I f;clear d f;go_enter func170,ntmps170;go_wp2_with fail;refine(Pe m _ l (g _) j).m ?_;rintro e u ⟨a,b,rfl,c,n,rfl⟩;have i:a.size<=6000:=by rw[ZE c.1];omega
   go_wp2_with fail;refine(AT a C i X X c.1 p).m ?_;rintro e u ⟨rfl,rfl⟩;go_wp2;exact YQ (by simp[results,results170,go_sem]) C ⟨0,0,false,C,h,Yh⟩
  |some t=>
   have B:=Mw f;have h:U<|∀v:Int,(T2 y=true->v=S8 y)->KS (bl s) t v (T2 y):=by
    intro v z;cases q:T2 y
    .exact .inr ⟨C,by unfold Tw;rw[d];simp[f,q]⟩
    .exact .inl ⟨C,t,by unfold Tw;rw[d];simp[f,q],C,B,by unfold UJ;rw[d];simp only[RB f,z q]⟩
   have p:=I f;clear d f;go_enter func170,ntmps170;go_wp2_with fail;refine(Pe m _ l (g _) j).m ?_;rintro e u ⟨a,b,rfl,c,n,rfl⟩;have i:a.size<=6000:=by rw[ZE c.1];omega
   have A:b.size<=6000:=by rw[ZE c.2];omega
   go_wp2_with fail;refine(AU a C i X X c.1 p).m ?_;rintro e u ⟨rfl,rfl⟩;go_wp2_with fail;refine(gq b A).m ?_;rintro e u ⟨v,rfl,rfl,k⟩;rw[c.2];rw[c.2]at k;go_wp2;exact YQ (by simp[results,results170,go_sem]) C ⟨t,v,T2 y,C,I<|h v k,Yh⟩
theorem Tryz.infoSample:(Tryz.prog.info? 315).map (λi=>(i.zero,i.size,i.bytes))=some (some<|.agg #[E 0,E 0],2,16):=Kr
theorem BR{last:Int}(a:k<ps.length)(c:l=ps.getD k []){t:Nat}(d:Tw l=some t)(f:¬(t:Int)<=last):
 Vk last n (ps.drop k)=Vk t (n+1) (ps.drop<|k+1):=by
 have e:ps.getD k []=ps[k]:=by simp[a]
 rw[List.drop_eq_getElem_cons a,Vk,<-e,<-c,d];simp[f]
theorem JF{last:Int}(a:k<ps.length)(c:l=ps.getD k [])(d:Tw l=none\/∃t:Nat,Tw l=some t/\(t:Int)<=last):
 Vk last n (ps.drop k)=none:=by
 have e:ps.getD k []=ps[k]:=by simp[a]
 rw[List.drop_eq_getElem_cons a,Vk,<-e,<-c];rcases d with h|⟨t,h,f⟩
 .rw[h]
 .rw[h];simp[f]
theorem BS{last:Int}(a:¬k<ps.length):Vk last n (ps.drop k)=some n:=by
 rw[Ts X];rfl
theorem iG(s r:BA)(m:Int)(w:Y)(hs:s.size<=6000)(hm:w.cell? ⟨14,0,none⟩=some (E m))(Q:U<|Z6 32 (bl s)=(bl r,true))(b0:s.toList.isEmpty=false):
 CP 132 #[.string s] w λe l=>∃(sv:F)(ok:Bool),e=.returned (.tuple #[sv,.bool ok])/\
  U ((ok=true/\∃a n cap,sv=.slice a n cap/\Vk (-1) 0 (split 32<|bl r)=some n/\l.ownsRow w.heap.size 315 2 sv n (ZQ<|(split 32<|bl r).map UJ))\/(ok=false/\Vk (-1) 0 (split 32<|bl r)=none))/\BW w l:=by
 have hr:r.size<=6000:=by
  have:=GM 32<|bl s;rw[Q,Zb,Zb]at this;omega
 obtain⟨i0,hi,a1,a2,a3⟩:=Xv Tryz.infoSample;have R:=Xi _ _ hm;go_enter func132,ntmps132;go_wp2_with fail;refine(K6 Q).m ?_;rintro e l ⟨a,rfl,ha,rfl⟩;obtain rfl:=ZbH ha;clear ha;go_wp2_with fail;refine(Fb a m hr hm).m ?_;rintro e w1 ⟨n,rfl,hn,G,x⟩;have HP:=I hn;have b1:n<=6001:=by rw[hn];have:=Qe 32<|bl a;rw[Zb]at this;omega
 clear hn;have a4:l.heap.size+1<=w1.heap.size:=G.1;go_wp2;go_loopw [6,7,24] (λv last i wr=>∃(k:Nat)(L:Int),k<=n/\i=E k/\last=E L/\-1<=L/\L<=1000000/\wr.ownsRow (l.heap.size+1) 315 2 v k (ZQ<|((split 32<|bl a).map UJ).take k)/\U (Vk (-1) 0 (split 32<|bl a)=Vk L k ((split 32<|bl a).drop k))/\Below (l.heap.size+1) w1 wr)
  (λ_ _ i _=>n-(intOf i).toNat);case atStart=>exact⟨0,-1,Yr _,C,C,X,X,Xm _ _ _ _,C,Ym _ _⟩
 case round=>
  obtain⟨k,L,hk,rfl,rfl,b2,b3,c,O,o⟩:=hrel;have a5:=Xb a4 o.size;by_cases S:k<n
  .have d:k<(split _ _).length:=HP.o▸S;obtain⟨sk,b4,H⟩:=(G.below o<|RA _).2 k d;have a0:sk.size<=6000:=by rw[ZE H];have:=OV _ _ k d;rw[Zb]at this;omega
   have P:=I H;clear H;have a6:wr.cell? _=some _:=o.cell (p:=⟨_,0,none⟩) (by simpa using Nat.lt_succ_of_lt R)▸x.cell (p:=⟨_,0,none⟩) R▸hm;go_wp2_with fail;refine(hZ m a0 a6).m ?_;rintro e z ⟨tm,v2,ok,rfl,q,J⟩;have b5:=J.size;have A:=o.trans<|J.mono a5;have f:=Ze c J;cases ok
   .have D:U<|Vk (-1) 0 (split 32<|bl a)=none:=by
     rw[O];refine JF d P<|.inl ?_;rcases q.o with⟨h,_⟩|⟨_,h⟩
     .cases h
     .exact h
    go_wp2;go_ret2;exact⟨_,false,C,.inr ⟨C,D⟩,(x.trans<|A.mono X).alloc X _⟩
   .obtain⟨t,T,V,b6,W⟩:∃t:Nat,Tw _=some t/\tm=t/\t<=1000000/\UJ _=(tm,v2):=by
     rcases q.o with⟨_,h⟩|⟨h,_⟩
     .exact h
     .cases h
    have HT:=I T;have a7:=I<|DA d P W;clear T q W;have b7:tm<=1000000:=X;have b8:0<=tm:=X;have K:=I V;clear V;by_cases Z:tm<=L
    .have D:U _:=O.o▸JF d P.o (Or.inr ⟨t,HT.o,by rw[<-K.o];exact Z⟩);go_wp2;go_ret2;exact⟨_,false,C,.inr ⟨C,D⟩,(x.trans<|A.mono X).alloc X _⟩
    .have D:U _:=O.o▸BR d P.o HT.o (by rw[<-K.o];exact Z);go_wp2_with(at_builtin;refine XC _ C (.tmp 41) (.tmp 43) 199 C (l.heap.size+1) 315 i0 (.agg #[E 0,E 0]) 2 16 underlying199 hi a1 a2 a3 C N _ _ _ C ((f.alloc _).alloc _) ⟨z.heap.size+1,0,none⟩ 1 1 [E tm,E v2] C C ?c1 ?c2 ?c3 ?c4 ?c5 ?_);case c1=>exact PW (Sm)<|Sm
     case c2=>intro u hu;simp at hu;rcases hu with rfl|rfl<;>rfl
     case c3=>unfold maxLen;omega
     case c4=>omega
     case c5=>simp;omega
     intro v' w3 B g _;rw[<-a7]at B;have M:=f.lt;have a8:=(((A.alloc X _).alloc (by simp;omega) _)).grown g (by simp;omega) λj hj=>(M j hj).1;have b9:w3.cell? ⟨z.heap.size,0,none⟩=some (E tm):=by
      refine g.cell (Sm) ?_;intro he;have:=(M _ he.symm).2;simp at this
     clear f c g A;go_wp2;go_roundw;case rel=>exact⟨k+1,tm,X,by go_num,C,X,X,B,by rwa [K.o],a8⟩
     case measure=>simp[intOf];omega
  .have D:U _:=O.o▸BS (by rw[<-HP.o];exact S);obtain⟨av,cp,hv⟩:=Zd c;rw[hv]at c;rw[hv];have a9:U<|wr.ownsRow l.heap.size 315 2 (.slice av k cp) k<|ZQ<|(split 32<|bl a).map UJ:=by
    rw[Wm<|by rw[Yz];have:=HP.o;omega]at c;exact c.mono X
   clear c;go_wp2;go_ret2;exact⟨_,true,C,.inl ⟨C,av,k,cp,C,D,a9⟩,x.trans<|o.mono X⟩
theorem By(s:BA)(m:Int)(w:Y)(o:s.size<=6000)(p:w.cell? ⟨14,0,none⟩=some (E m)):
 CP 132 #[.string s] w λe u=>∃(sv:F)(ok:Bool),e=.returned (.tuple #[sv,.bool ok])/\
  U ((ok=true/\∃a n cap,sv=.slice a n cap/\VI (bl s)=some n/\u.ownsRow w.heap.size 315 2 sv n (ZQ<|Qc<|bl s))\/(ok=false/\VI (bl s)=none))/\BW w u:=by
 cases h:s.toList.isEmpty
 .have g:=OI h;cases d:Z6 32 (bl s)with
  |mk r f=>
   cases f
   .have i:U<|VI _=none:=I<|by unfold VI;rw[d];simp[g]
    have j:=I d;clear d g;go_enter func132,ntmps132;go_wp2_with fail;refine(K6 j).m ?_;rintro e u ⟨a,rfl,z,rfl⟩;go_wp2;go_ret2;exact⟨_,false,C,.inr ⟨C,i⟩,Ym _ _⟩
   .have q:VI (bl s)=Vk (-1) 0 (split 32 r):=by unfold VI;rw[d];simp[g]
    have v:Qc (bl s)=(split 32 r).map UJ:=by
     cases k:bl s with
     |nil=>exact absurd k g
     |cons c t=>
      rw[k]at d;by_cases l:c=32
      .subst l;simp[Z6]at d;rw[<-d];rfl
      .simp[Z6,l]at d
    rw[q,v];have:=iG s ⟨r.toArray⟩ m w o p (by rwa [U9]) h;rwa [U9]at this
 .have i:U<|VI (bl s)=some 0:=by rw[Pm h];rfl
  go_enter func132,ntmps132;go_wp2;go_ret2;have x:U<|Qc (bl s)=[]:=by rw[Pm h];rfl
  exact⟨_,true,C,.inl ⟨C,none,0,0,C,i,x.o▸Xm _ _ _ _⟩,Ym _ _⟩
def UG:List (BA×BA)->List F
 |[]=>[]
 |p::l=>.string p.1::.string p.2::UG l
def Xt(p:BA×BA):LB×LB:=(bl p.1,bl p.2)
theorem Dx(l m:List<|BA×BA):UG (l++m)=UG l++UG m:=by
 induction l with
 |nil=>rfl
 |cons a l ih=>simp[UG,ih]
theorem Jc(l:List<|BA×BA):(UG l).length=l.length*2:=by
 induction l with
 |nil=>rfl
 |cons a l ih=>simp[UG,ih];omega
theorem Jb (l:List<|BA×BA)(j:Nat):(UG l)[j*2]?=l[j]?.map (λp=>.string p.1)/\(UG l)[j*2+1]?=l[j]?.map λp=>.string p.2:=by
 induction l generalizing j with
 |nil=>simp[UG]
 |cons r l ih=>
  cases j with
  |zero=>simp[UG]
  |succ j=>
   obtain⟨a,c⟩:=ih j;refine⟨?_,?_⟩
   .rw[show(j+1)*2=j*2+1+1 by omega];simpa [UG]using a
   .rw[show(j+1)*2+1=j*2+1+1+1 by omega];simpa [UG]using c
theorem GO{e:TypeId}(h:w.ownsRow base e size v n xs):w.ownsRow 0 e size v n xs:=by
 refine⟨h.1,?_⟩;rcases h.2 with a|⟨g,cap,cur,rfl,_,r⟩
 .exact .inl a
 .exact .inr ⟨g,cap,cur,C,Yr _,r⟩
def TP(w:Y)(base:Nat)(v:F)(n:Nat)(qs:List<|BA×BA):Prop:=w.ownsRow base 340 2 v n (UG qs)/\n<=6001/\∀p∈qs,p.1.size<=6000/\p.2.size<=6000
theorem Tryz.infoLabel:(Tryz.prog.info? 340).map (λi=>(i.zero,i.size,i.bytes))=some (some<|.agg #[.string ByteArray.empty,.string ByteArray.empty],2,32):=Kr
theorem C6(a:k<ps.length)(c:l=ps.getD k []){p:LB×LB}(d:Rq last l=some p):
 Wf last acc (ps.drop k)=Wf p.1 (acc++[p]) (ps.drop<|k+1):=by
 have e:ps.getD k []=ps[k]:=by simp[a]
 rw[List.drop_eq_getElem_cons a,Wf,<-e,<-c,d]
theorem KJ(a:k<ps.length)(c:l=ps.getD k [])(d:Rq last l=none):
 Wf last acc (ps.drop k)=none:=by
 have e:ps.getD k []=ps[k]:=by simp[a]
 rw[List.drop_eq_getElem_cons a,Wf,<-e,<-c,d]
theorem C7(a:¬k<ps.length):Wf last acc (ps.drop k)=some acc:=by
 rw[Ts X];rfl
theorem C4{n v:LB}(h:cut 61 l=some (n,v)):Rq last l=if Zx n&&ZY v&&!v.isEmpty&&!MI n last then some (n,v)else none:=by
 unfold Rq;rw[h]
theorem C5(h:cut 61 l=none):Rq last l=none:=by unfold Rq;rw[h]
theorem Fh(a b:BA):(Op.bytesLess a.toList b.toList||a.toList==b.toList)=MI (bl a) (bl b):=by rw[ZA,ZA];rfl
theorem Jn(a:s.size<=6000)(h:Zx (bl s)=b):
 CP 130 #[.string s] w λe u=>e=.returned (.bool b)/\u=w:=by
 have:=FJ s w a;rwa [h]at this
theorem AR(a:s.size<=6000)(h:ZY (bl s)=b):
 CP 168 #[.string s] w λe u=>e=.returned (.bool b)/\u=w:=by
 have:=FK s w a;rwa [h]at this
theorem kS(s:BA)(m:Int)(w:Y)(hs:s.size<=6000)(hm:w.cell? ⟨14,0,none⟩=some (E m))(b5:s.toList.isEmpty=false):
 CP 131 #[.string s] w λe Q=>∃(a:Option Addr)(n cap:Nat)(ok:Bool),e=.returned (.tuple #[.slice a n cap,.bool ok])/\
  U (ok=(Wf [] []<|split 44<|bl s).isSome/\(ok=true->∃qs,TP Q 0 (.slice a n cap) n qs/\Wf [] [] (split 44<|bl s)=some (qs.map Xt)))/\BW w Q:=by
 obtain⟨i0,hi,a3,a4,a5⟩:=Xv Tryz.infoLabel;have a1:=Xi _ _ hm;go_enter func131,ntmps131;go_wp2_with fail;refine(Fb s m hs hm).m ?_;rintro e w1 ⟨n,rfl,hn,R,L⟩;have HP:=I hn;have b6:n<=6001:=by rw[hn];have:=Qe 44<|bl s;rw[Zb]at this;omega
 clear hn;have a6:w.heap.size+1<=w1.heap.size:=R.1;go_wp2;go_loopw [4,5,16] (λv last i wr=>∃(k:Nat)(ls:BA)(qs:List<|BA×BA),k<=n/\i=E k/\last=.string ls/\wr.ownsRow (w.heap.size+1) 340 2 v k (UG qs)/\U (Wf [] [] (split 44<|bl s)=Wf (bl ls) (qs.map Xt) ((split 44<|bl s).drop k))/\Below (w.heap.size+1) w1 wr/\U (∀p∈qs,p.1.size<=6000/\p.2.size<=6000))
  (λ_ _ i _=>n-(intOf i).toNat);case atStart=>exact⟨0,⟨#[]⟩,[],Yr _,C,C,Xm _ _ _ _,C,Ym _ _,λp hp=>(by cases hp)⟩
 case round=>
  obtain⟨k,ls,qs,hk,rfl,rfl,f,V,g,HZ⟩:=hrel;have b7:=Xb a6 g.size;by_cases a2:k<n
  .have r:k<(split _ _).length:=HP.o▸a2;obtain⟨sk,b8,S⟩:=(R.below g<|RA _).2 k r;have A:sk.size<=6000:=by rw[ZE S];have:=OV _ _ k r;rw[Zb]at this;omega
   have HK:=I S;clear S;have T:wr.cell? _=some _:=g.cell (p:=⟨_,0,none⟩) (by simpa using Nat.lt_succ_of_lt a1)▸L.cell (p:=⟨_,0,none⟩) a1▸hm;cases B:cut 61 (bl sk)with
   |none=>
    have D:U _:=V.o▸KJ r HK.o (C5 B);have W:=I B;clear B;go_wp2_with fail;refine(Mm m _ A T W).m ?_;rintro e z ⟨a,b,rfl,c,j,rfl⟩;go_wp2;go_ret2;exact⟨none,0,0,false,C,⟨by rw[D];rfl,λh=>(by cases h)⟩,L.trans<|Wn (g.mono X) _⟩
   |some p=>
    obtain⟨x,y⟩:=p;have b9:x.length<=sk.size/\y.length<=sk.size:=by rw[<-Zb,(Rm B).1];simp;omega
    have l:=C4 (last:=bl ls) B;have W:=I B;clear B;obtain⟨b1,G⟩:∃b,Zx x=b:=⟨_,C⟩;obtain⟨b2,H⟩:∃b,y.isEmpty=b:=⟨_,C⟩;obtain⟨b3,J⟩:∃b,ZY y=b:=⟨_,C⟩;obtain⟨b4,K⟩:∃b,MI x (bl ls)=b:=⟨_,C⟩;rw[G,H,J,K]at l;have t:U<|Zx x=b1/\y.isEmpty=b2/\ZY y=b3/\MI x _=b4:=⟨G,H,J,K⟩;clear G H J K;have d:(b1=true/\b2=false/\b3=true/\b4=false)\/(b1=false\/(b1=true/\b2=true)\/(b1=true/\b2=false/\b3=false)\/(b1=true/\b2=false/\b3=true/\b4=true)):=by
     cases b1<;>cases b2<;>cases b3<;>cases b4<;>simp
    rcases d with⟨rfl,rfl,rfl,rfl⟩|d
    .have D:U<|Wf [] [] (split 44<|bl s)=Wf x (qs.map Xt++[(x,y)]) ((split 44<|bl s).drop<|k+1):=by
      rw[V];exact C6 r HK<|by simpa using l
     clear l;go_wp2_with fail;refine(Pe m _ A T W).m ?_;rintro e z ⟨a,b,rfl,c,j,rfl⟩;have M:a.size<=6000:=by rw[ZE c.1];omega
     have O:b.size<=6000:=by rw[ZE c.2];omega
     have f1:U _:=c.1▸t.1;have f2:b.toList.isEmpty=false:=by rw[ZA,c.2];exact t.2.1
     have f3:U _:=c.2▸t.2.2.1;have f4:(Op.bytesLess a.toList ls.toList||a.toList==ls.toList)=false:=by rw[Fh,c.1];exact t.2.2.2
     have a7:U<|Wf [] [] (split 44<|bl s)=Wf (bl a) ((qs++[(a,b)]).map Xt) ((split 44<|bl s).drop<|k+1):=by rwa [Xa,PE,Xt,c.1,c.2]
     have a8:U<|∀p∈qs++[(a,b)],p.1.size<=6000/\p.2.size<=6000:=by
      intro p hp;rcases Wk.1 hp with h|h
      .exact HZ p h
      .rw[Vr.1 h];exact⟨M,O⟩
     have o:=FE f j;go_wp2_with(first|(go_at_call 130;refine(Jn M f1.o).m ?_;rintro e Q ⟨rfl,rfl⟩)|(go_at_call 168;refine(AR O f3.o).m ?_;rintro e Q ⟨rfl,rfl⟩)|(at_builtin;refine XC _ C (.tmp 47) (.tmp 51) 196 C (w.heap.size+1) 340 i0 (.agg #[.string ByteArray.empty,.string ByteArray.empty]) 2 32 underlying196 hi a3 a4 a5 C N _ _ _ C (o.alloc _) ⟨wr.heap.size,0,none⟩ 1 1 [.string a,.string b] C C ?c1 ?c2 ?c3 ?c4 ?c5 ?_));case c1=>exact PW ((Ry _ _ _ _ C).trans C)<|(Ry _ _ _ _ C).trans C
     case c2=>intro u hu;simp at hu;rcases hu with rfl|rfl<;>rfl
     case c3=>unfold maxLen;omega
     case c4=>omega
     case c5=>simp;omega
     intro v' w3 Z P _;have a9:=((Wn g j).alloc (by simp;omega) _).grown P (by simp;omega) λq hq=>(o.lt q hq).1;have a0:w3.ownsRow (w.heap.size+1) 340 2 v' (k+1)<|UG<|qs++[(a,b)]:=by rwa [Dx]
     clear o f P Z;go_wp2;go_roundw;case rel=>exact⟨k+1,a,_,X,by go_num,C,a0,a7,a9,a8⟩
     case measure=>simp[intOf];omega
    .have D:U<|Wf [] [] (split 44<|bl s)=none:=by
      rw[V];refine KJ r HK ?_;rw[l];rcases d with rfl|⟨rfl,rfl⟩|⟨rfl,rfl,rfl⟩|⟨rfl,rfl,rfl,rfl⟩<;>simp
     clear l;go_wp2_with fail;refine(Pe m _ A T W).m ?_;rintro e z ⟨a,b,rfl,c,j,rfl⟩;have M:a.size<=6000:=by rw[ZE c.1];omega
     have O:b.size<=6000:=by rw[ZE c.2];omega
     have f1:U _:=c.1▸t.1;have f2:b.toList.isEmpty=b2:=by rw[ZA,c.2];exact t.2.1
     have f3:U _:=c.2▸t.2.2.1;have f4:(Op.bytesLess a.toList ls.toList||a.toList==ls.toList)=b4:=by rw[Fh,c.1];exact t.2.2.2
     rcases d with rfl|⟨rfl,rfl⟩|⟨rfl,rfl,rfl⟩|⟨rfl,rfl,rfl,rfl⟩;all_goals
      go_wp2_with(first|(go_at_call 130;refine(Jn M f1.o).m ?_;rintro e Q ⟨rfl,rfl⟩)|(go_at_call 168;refine(AR O f3.o).m ?_;rintro e Q ⟨rfl,rfl⟩));go_ret2;exact⟨none,0,0,false,C,⟨by rw[D];rfl,λh=>(by cases h)⟩,L.trans<|Wn (g.mono X) _⟩
  .have D:U _:=V.o▸C7 (by rw[<-HP.o];exact a2);obtain⟨av,cp,hv⟩:=Zd f;rw[hv];rw[hv]at f;have b0:k<=6001:=X;go_wp2;go_ret2;exact⟨_,_,_,true,C,⟨by rw[D];rfl,λ_=>⟨qs,⟨GO f,b0,HZ⟩,D⟩⟩,L.trans<|g.mono X⟩
