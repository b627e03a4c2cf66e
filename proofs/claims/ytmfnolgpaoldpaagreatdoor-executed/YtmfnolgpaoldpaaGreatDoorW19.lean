/- Parts. -/
import Derived.Test.YtmfnolgpaoldpaaGreatDoorWX
import Derived.Test.YtmfnolgpaoldpaaGreatDoorW15
import Derived.Deep.Onto
set_option linter.all false
set_option maxRecDepth 100000
set_option maxHeartbeats 16000000
namespace Go.Proofs.YtmfnolgpaoldpaaGreatDoor
open Go.RowKit LS Go.Proofs.Tryz
variable {dp lg sy tp:Addr}{s:BA}{r:Except (Nat×Nat) Tr}{last mi:Int}{l x:LB}{ps:List<|LB}{B j k most n:Nat}{c:UInt8}{pv v:Value}{W w w':World}
def OF(c:UInt8)(r:LB):LB:=if c==33&&r.head?==some 61 then[33,61]else if(seek c QH).isSome then[c]else[]
theorem Dj(c:UInt8):∀l:LB,decide (0<=Lib.indexByte l c)=(seek c l).isSome/\-1<=Lib.indexByte l c
 |[]=>⟨C,M0<|-1⟩
 |b::l=>by
  obtain⟨d,f⟩:=Dj c l;unfold Lib.indexByte seek;by_cases a:b=c
  .subst a;simp
  · have e:(b==c)=false:=by simpa using a
    rw[e];simp only[O5,Q2];rw[Option.isSome_map,<-d];split
    · rename_i h;have:Lib.indexByte l c=-1:=by simpa using h
      rw[this];exact⟨N,N⟩
    · rename_i h;have:Lib.indexByte l c≠-1:=by simpa using h
      refine⟨?_,X⟩;rw[WI<|show 0<=Lib.indexByte l c+1 by omega,WI<|show 0<=Lib.indexByte l c by omega]
theorem il(c:UInt8)(r:LB):Lib.hasPrefix (c::r) [33,61]=(c==33&&r.head?==some 61):=by
 cases r with
 |nil=>simp[Lib.hasPrefix,List.isPrefixOf]
 |cons d r=>
  simp only[Lib.hasPrefix,List.isPrefixOf,List.head?_cons];rw[Ol];congr 1
  .rw[Ud,XL,XL];exact eq_comm
  .rw[Ud,XL,XL];exact⟨λh=>by rw[h],λh=>by injection h with h;exact h.symm⟩
theorem CB(s:BA)(k:Nat)(r:s.size<=6000)(n:k<s.size):
 CP 245 #[.string s,E k] w λe u=>∃x:BA,e=.returned (.string x)/\Hid (bl x=OF s[k] ((bl s).drop<|k+1))/\u=w:=by
 have j:(s.extract k s.size).data.toList=s[k]::(bl s).drop (k+1):=by
  show bl _=_;rw[WL,<-Zb,X1,Te s k _]
 have a:Lib.hasPrefix (s.extract k s.size).data.toList [33,61]=(s[k]==33&&((bl s).drop<|k+1).head?==some 61):=by rw[j,il]
 obtain⟨b1,d⟩:∃x,(s[k]==33&&((bl s).drop<|k+1).head?==some 61)=x:=⟨_,C⟩;obtain⟨b2,f⟩:∃x,(seek s[k] QH).isSome=x:=⟨_,C⟩;have g:Hid<|OF _ _=if b1 then[33,61]else if b2 then[s[k]]else[]:=I<|by unfold OF;rw[d,f]
 have h:=Dj s[k] QH;rw[f]at h;rw[d]at a;have i:=I a;have l:=I h;have q:Hid<|bl (s.extract k<|k+1)=[s[k]]:=by rw[WL,Ri,Te s k n,show k+1-k=1 by omega];rfl
 clear j a d f h;have m:∀c:UInt8,((c.toNat:Int).toNat.toUInt8)=c:=λc=>by simp
 cases b1
 .cases b2
  .have o:=Ki l.1;go_enter func245,ntmps245;go_wp2_with fail;refine(strings_HasPrefix _ _ _).mono ?_;rintro e u ⟨rfl,rfl⟩;rw[show(⟨#[33,61]⟩:BA).data.toList=[33,61]from C,i];go_wp2_with fail;refine(strings_IndexByte _ _ _).mono ?_;rintro e u ⟨rfl,rfl⟩;rw[m,show(⟨#[40,41,123,125,91,93,44,61,43,45,42,47]⟩:BA).data.toList=QH from C];generalize Lib.indexByte QH s[k]=ix at*;go_wp2;go_ret;exact⟨_,C,I<|by rw[g];rfl,C⟩
  .have p:=Rw l.1;go_enter func245,ntmps245;go_wp2_with fail;refine(strings_HasPrefix _ _ _).mono ?_;rintro e u ⟨rfl,rfl⟩;rw[show(⟨#[33,61]⟩:BA).data.toList=[33,61]from C,i];go_wp2_with fail;refine(strings_IndexByte _ _ _).mono ?_;rintro e u ⟨rfl,rfl⟩;rw[m,show(⟨#[40,41,123,125,91,93,44,61,43,45,42,47]⟩:BA).data.toList=QH from C];generalize Lib.indexByte QH s[k]=ix at*;go_wp2;go_ret;exact⟨_,C,I<|by rwa [g.out],C⟩
 .go_enter func245,ntmps245;go_wp2_with fail;refine(strings_HasPrefix _ _ _).mono ?_;rintro e u ⟨rfl,rfl⟩;rw[show(⟨#[33,61]⟩:BA).data.toList=[33,61]from C,i];go_wp2;go_ret;exact⟨_,C,I<|by rw[g];rfl,C⟩
theorem pO{h:k<s.size}(a:s[k]≠32)(hd:Zt s[k]=false)(c:Zl s[k]=false)(d:s[k]≠34):Zg (bl s) k=if OF s[k] ((bl s).drop<|k+1)=[]then(⟨5,[],k⟩,k+1)else(⟨4,OF s[k]<|(bl s).drop<|k+1,k⟩,k+(OF s[k]<|(bl s).drop<|k+1).length):=by
 rw[Lx s k h a];unfold XS OF;rw[hd,c,YB.2 d];simp only[O5,Q2];split
 .rfl
 split<;>rfl
theorem pZ{a b:LB}(h:ZY (a++b)=true):ZY a=true:=by
 unfold ZY at h⊢;simp_all;omega
theorem Fl(h:k<s.size)(a:s[k]=34):Zg (bl s) k=match seek 34<|(bl s).drop<|k+1with
 |none=>(⟨5,[],k⟩,(bl s).length)
 |some p=>(if ZY (((bl s).drop<|k+1).take p)then⟨3,((bl s).drop<|k+1).take p,k⟩else⟨5,[],k⟩,k+p+2):=by
 rw[Lx s k h<|by simp_all];unfold XS;rw[a];rfl
theorem pR{h:k<s.size}(c:s[k]=34){d:k+1+n<s.size}(e:s[k+1+n]=34)(a:34∉((bl s).drop<|k+1).take n)(g:ZY (((bl s).drop<|k+1).take n)=true):Zg (bl s) k=(⟨3,((bl s).drop<|k+1).take n,k⟩,k+n+2):=by
 rw[Fl h c];have f:(((bl s).drop<|k+1).take n).length=n:=by rw[Xw,Ur,Zb];omega
 have i:seek 34 ((bl s).drop<|k+1)=some n:=by
  rw[<-Oh n<|(bl s).drop _,List.drop_drop,Te s _ d,e,LN _ _ _ a,f]
 simp_all
theorem pQ{h:k<s.size}(c:s[k]=34)(a:34∉(bl s).drop (k+1)):Zg (bl s) k=(⟨5,[],k⟩,(bl s).length):=by
 rw[Fl h c,(LP _ _).2 a]
theorem pP(h:k<s.size)(f:s[k]=34)(c:34∉((bl s).drop<|k+1).take n)(g:ZY (((bl s).drop<|k+1).take n)=false):∃e,Zg (bl s) k=(⟨5,[],k⟩,e):=by
 rw[Fl h f];cases i:seek 34<|(bl s).drop<|k+1with
 |none=>simp
 |some p=>
  refine⟨k+p+2,?_⟩;obtain⟨a,b,j,o,q⟩:=Pr i;have m:n<=p:=by
   by_cases l:n<=p
   .exact l
   .exfalso;apply c;rw[j,List.take_append,Wm X];rw[show n-a.length=(n-a.length-1)+1 by omega];simp
  have r:ZY (((bl s).drop<|k+1).take p)=false:=by
   cases d:ZY<|((bl s).drop<|k+1).take p
   .rfl
   .exfalso;have:((bl s).drop<|k+1).take p=((bl s).drop<|k+1).take n++(((bl s).drop<|k+1).drop n).take (p-n):=by
     rw[<-List.take_add];congr 1;omega
    rw[this]at d;rw[pZ d]at g;simp_all
  simp_all
def WT(s:BA)(k n:Nat):Prop:=k+1+n<=s.size/\34∉((bl s).drop<|k+1).take n/\ZY (((bl s).drop<|k+1).take n)=true
theorem WT.start(h:k<s.size):WT s k 0:=⟨X,Sm,by rfl⟩
theorem Gu(_:k+1+n<=s.size):bl (s.extract (k+1)<|k+1+n)=((bl s).drop<|k+1).take n:=by
 rw[WL,Ri];simp
theorem WT.shut{ps:List Yu}(h:WT s k n)(a:TA s ps k)(f:k<s.size)(c:s[k]=34)(g:k+1+n<s.size)(d:s[k+1+n]=34):TA s (ps++[⟨2,k,s.extract (k+1)<|k+1+n,0⟩])<|k+1+n+1:=by
 have e:=pR c d h.2.1 h.2.2;rw[show k+1+n+1=k+n+2 by omega];exact a.token e Sm ⟨C,C,Gu X,λh=>by cases h⟩
theorem WT.never{ps:List Yu}(h:WT s k n)(c:TA s ps k)(e:k<s.size)(d:s[k]=34)(f:¬k+1+n<s.size):Uy (ps++[⟨5,k,⟨#[]⟩,0⟩])<|Z7 (bl s) ((bl s).length+1) 0:=by
 have a:34∉(bl s).drop (k+1):=by
  have:=h.2.1;rwa [Wm<|by rw[Ur,Zb];omega]at this
 exact c.done (pQ d a) (.inr C) ⟨C,C,C,λh=>by cases h⟩
theorem gX(a:k+1+n<s.size):((bl s).drop<|k+1).take (n+1)=((bl s).drop<|k+1).take n++[s[k+1+n]]:=by
 rw[List.take_add,List.drop_drop,Te s _ a];rfl
theorem WT.no(h:WT s k n)(c:k+1+n<s.size)(d:s[k+1+n]≠34):34∉((bl s).drop<|k+1).take (n+1):=by
 rw[gX c,Wk];rintro(a|a)
 .exact h.2.1 a
 simp_all
theorem WT.bad{ps:List Yu}(h:WT s k n)(c:TA s ps k)(d:k<s.size)(f:s[k]=34)(g:k+1+n<s.size)(i:s[k+1+n]≠34)(a:ZY (bl<|s.extract (k+1)<|k+1+n+1)=false):Uy (ps++[⟨5,k,⟨#[]⟩,0⟩])<|Z7 (bl s) ((bl s).length+1) 0:=by
 rw[show k+1+n+1=k+1+(n+1)by omega,Gu X]at a;obtain⟨e,j⟩:=pP d f (h.no g i) a;exact c.done j (.inr C) ⟨C,C,C,λh=>by cases h⟩
theorem WT.go(h:WT s k n)(d:k+1+n<s.size)(c:s[k+1+n]≠34)(a:ZY (bl<|s.extract (k+1)<|k+1+n+1)=true):WT s k<|n+1:=by
 rw[show k+1+n+1=k+1+(n+1)by omega,Gu X]at a;exact⟨X,h.no _ c,a⟩
theorem Tryz.infoTok:(Tryz.prog.info? 389).map (λi=>(i.zero,i.size,i.bytes))=some (some<|.agg #[E 0,E 0,.string ByteArray.empty,E 0],4,40):=Kr
theorem Pf{a b c d:Value}{t:TypeId}(e:W.heap.size=n):∀j x,[a,b,c,d][j]?=some x->(W.alloc<|.cells #[a,b,c,d] t).cell? ((⟨n,0,none⟩:Addr).add j)=some x:=by
 intro j x f;subst e;rw[QJ];have h:=Go.Deep.blk_alloc_new W<|.cells #[a,b,c,d] t;simp only[World.cell?,h];simpa using f
theorem G2(p:UInt8->Bool):∀l:LB,(l.take<|run p l).all p=true
 |[]=>C
 |b::l=>by
  unfold run;split
  .rename_i h;simp[h];exact λx a=>(Tt.1<|G2 p l) x a
  .rfl
theorem LD{base:Nat}{e:TypeId}{size:Nat}{xs:List Value}(h:w.ownsRow base e size v n xs):w.ownsRow 0 e size v n xs:=by
 refine⟨h.1,?_⟩;rcases h.2 with a|⟨g,cap,cur,h,_,r⟩
 .exact .inl a
 .exact .inr ⟨g,cap,cur,h,Yr _,r⟩
theorem qU(s:BA)(w:World)(hs:s.size<=300):
 CP 216 #[.string s] w λe o=>∃(v:Value)(ps:List Yu),e=.returned v/\o.ownsRow 0 389 4 v ps.length (VB ps)/\Hid (Uy ps<|Z7 (bl s) ((bl s).length+1) 0)/\BW w o:=by
 obtain⟨i0,Z,J,K,L⟩:=Xv Tryz.infoTok;go_enter func216,ntmps216;go_wp2;go_step3;go_wp2;go_step3;go_wp2;go_loopg [3,4] s.size (λgg v3 v4 wr=>∃(ps:List Yu)(k:Nat),gg=s.size-k/\v4=Vi k/\Hid (TA s ps k)/\wr.ownsRow w.heap.size 389 4 v3 ps.length (VB ps)/\Hid (BW w wr));case atStart=>exact⟨[],0,C,C,TA.start s,Xm _ _ _ _,Ym _ _⟩
 case round=>
  obtain⟨ps,k,c0,rfl,R,c,T⟩:=hrel;have hk:=R.1;have c6:=R.2.1;have M:=T.size;by_cases a8:k<s.size
  .by_cases a9:s[k]=32
   .have O:=I<|R.skip _ a9;go_wp2;go_roundg (s.size-(k+1));case measure=>omega
    case rel=>exact⟨ps,k+1,C,by go_num,O,c,T⟩
   .have c32:((s[k].toNat:Int)==32)=false:=by
     rw[YB];intro e;exact a9<|TO.1<|by show s[k].toNat=32;omega
    cases a0:Zt s[k]
    .have U:=I a0;clear a0;cases a1:Zl s[k]
     .have a6:=I a1;clear a1;by_cases a2:s[k]=34
      .have c34:((s[k].toNat:Int)==34)=true:=by rw[a2];rfl
       have HK:=I a2;clear a2;go_wp2_with fail;refine(Rp).mono ?_;rintro e o ⟨rfl,rfl⟩;rw[U];go_wp2_with fail;refine(QA).mono ?_;rintro e wq ⟨rfl,rfl⟩;rw[a6];go_wp2;obtain⟨L3,b4⟩:∃L3,L3=u3:=⟨_,C⟩;go_loopg [3,4,10] (s.size-(k+1)) (λgi x3 x4 v10 wi=>∃n:Nat,x3=L3/\x4=Vi (k:Int)/\gi=s.size-(k+1+n)/\v10=Vi ((k+1+n:Nat):Int)/\Hid (WT s k n)/\wi=wq);case atStart=>exact⟨0,b4.symm,C,C,by go_num,WT.start a8,C⟩
       case round=>
        obtain⟨n,e3,rfl,c7,rfl,HQ,rfl⟩:=hrel;subst e3;subst b4;have hn:=HQ.1;by_cases b5:k+1+n<s.size
        .by_cases B:s[k+1+n]=34
         .have cE:((s[k+1+n].toNat:Int)==34)=true:=by rw[B];rfl
          have O:=I<|HQ.shut R _ HK _ B;clear B;go_wp2_with(at_builtin;refine XC _ C (.tmp 103) (.tmp 111) 381 C w.heap.size 389 i0 (.agg #[Vi 0,Vi 0,.string ByteArray.empty,Vi 0]) 4 40 underlying381 Z J K L C N _ _ _ C (c.alloc _) ⟨wr.heap.size,0,none⟩ 1 1 [Vi 2,Vi k,.string<|s.extract (k+1)<|k+1+n,Vi 0] C C ?c1 ?c2 ?c3 ?c4 ?c5 ?_);case c1=>exact Pf C
          case c2=>intro u z;simp at z;rcases z with rfl|rfl|rfl|rfl<;>rfl
          case c3=>unfold maxLen;omega
          case c4=>omega
          case c5=>simp;omega
          intro v' F f a _;have A:=I<|(T.alloc M _).grown a (by simp;omega) λq G=>(c.lt q G).1;have i:F.ownsRow w.heap.size 389 4 v' (ps++[(⟨2,k,s.extract (k+1)<|k+1+n,0⟩:Yu)]).length<|VB<|ps++[(⟨2,k,s.extract (k+1)<|k+1+n,0⟩)]:=by rwa [Ph,Yv]
          clear f a c;go_wp2;go_roundg (s.size-(k+1+n+1));case measure=>omega
          case rel=>exact⟨_,k+1+n+1,C,by first|rfl|go_num,O,i,A⟩
         .have cE:((s[k+1+n].toNat:Int)==34)=false:=by
           rw[YB];intro e;exact B<|TO.1<|by show s[k+1+n].toNat=34;omega
          have b0:(s.extract (k+1)<|k+1+n+1).size<=6000:=by simp;omega
          obtain⟨sx,D⟩:∃sx,sx=s.extract (k+1) (k+1+n+1):=⟨_,C⟩;have P:=I D;rw[<-D]at b0;cases hw:ZY<|bl sx
          .have V:=I<|HQ.bad R _ HK _ B<|by rwa [<-D]
           have HW:=I hw;clear B hw D;go_wp2_with fail;rw[<-P];refine(FL _ _ b0).mono ?_;rintro e wq ⟨rfl,rfl⟩;rw[HW];go_wp2_with(at_builtin;refine XC _ C (.tmp 127) (.tmp 130) 381 C w.heap.size 389 i0 (.agg #[Vi 0,Vi 0,.string ByteArray.empty,Vi 0]) 4 40 underlying381 Z J K L C N _ _ _ C (c.alloc _) ⟨wq.heap.size,0,none⟩ 1 1 [Vi 5,Vi k,.string ⟨#[]⟩,Vi 0] C C ?c1 ?c2 ?c3 ?c4 ?c5 ?_);case c1=>exact Pf C
           case c2=>intro u z;simp at z;rcases z with rfl|rfl|rfl|rfl<;>rfl
           case c3=>unfold maxLen;omega
           case c4=>omega
           case c5=>simp;omega
           intro v' F f a _;have A:=I<|(T.alloc M _).grown a (by simp;omega) λq G=>(c.lt q G).1;have i:F.ownsRow w.heap.size 389 4 v' (ps++[(⟨5,k,⟨#[]⟩,0⟩:Yu)]).length<|VB<|ps++[(⟨5,k,⟨#[]⟩,0⟩)]:=by rwa [Ph,Yv]
           clear f a c;go_wp2;try rw[QS]
           go_ret;exact⟨_,_,C,LD i,V,A⟩
          .have b6:=I<|HQ.go _ B<|by rwa [<-D]
           have HW:=I hw;clear B hw D;go_wp2_with fail;rw[<-P];refine(FL _ _ b0).mono ?_;rintro e wq ⟨rfl,rfl⟩;rw[HW];go_wp2;go_roundg (s.size-(k+1+(n+1)));case measure=>omega
           case rel=>exact⟨n+1,C,C,C,by go_num,b6,C⟩
        .have V:=I<|HQ.never R _ HK b5;go_wp2_with(at_builtin;refine XC _ C (.tmp 127) (.tmp 130) 381 C w.heap.size 389 i0 (.agg #[Vi 0,Vi 0,.string ByteArray.empty,Vi 0]) 4 40 underlying381 Z J K L C N _ _ _ C (c.alloc _) ⟨wr.heap.size,0,none⟩ 1 1 [Vi 5,Vi k,.string ⟨#[]⟩,Vi 0] C C ?c1 ?c2 ?c3 ?c4 ?c5 ?_);case c1=>exact Pf C
         case c2=>intro u z;simp at z;rcases z with rfl|rfl|rfl|rfl<;>rfl
         case c3=>unfold maxLen;omega
         case c4=>omega
         case c5=>simp;omega
         intro v' F f a _;have A:=I<|(T.alloc M _).grown a (by simp;omega) λq G=>(c.lt q G).1;have i:F.ownsRow w.heap.size 389 4 v' (ps++[(⟨5,k,⟨#[]⟩,0⟩:Yu)]).length<|VB<|ps++[(⟨5,k,⟨#[]⟩,0⟩)]:=by rwa [Ph,Yv]
         clear f a c;go_wp2;try rw[QS]
         go_ret;exact⟨_,_,C,LD i,V,A⟩
      .have c34:((s[k].toNat:Int)==34)=false:=by
        rw[YB];intro e;exact a2<|TO.1<|by show s[k].toNat=34;omega
       have j:=pO a9 U a6 a2;obtain⟨m,hm⟩:∃m,m=OF s[k] ((bl s).drop<|k+1):=⟨_,C⟩;rw[<-hm]at j;have HM:=I hm;clear hm;by_cases a7:m=[]
       .rw[Ye a7]at j;have V:Hid<|Uy (ps++[⟨5,k,⟨#[]⟩,0⟩]) _:=I<|R.done j (.inr C) ⟨C,C,C,λh=>by cases h⟩;clear j;go_wp2_with fail;refine(Rp).mono ?_;rintro e o ⟨rfl,rfl⟩;rw[U];go_wp2_with fail;refine(QA).mono ?_;rintro e o ⟨rfl,rfl⟩;rw[a6];go_wp2_with fail;refine(CB s k X a8).mono ?_;rintro e o ⟨x,rfl,S,rfl⟩;have hx:bl x=[]:=by rwa [S.out,<-HM.out]
        obtain rfl:x=⟨#[]⟩:=by
         cases x with|mk d=>cases d with|mk l=>simp[bl]at hx;subst hx;rfl
        clear hx S;go_wp2_with(at_builtin;refine XC _ C (.tmp 127) (.tmp 130) 381 C w.heap.size 389 i0 (.agg #[Vi 0,Vi 0,.string ByteArray.empty,Vi 0]) 4 40 underlying381 Z J K L C N _ _ _ C (c.alloc _) ⟨o.heap.size,0,none⟩ 1 1 [Vi 5,Vi k,.string ⟨#[]⟩,Vi 0] C C ?c1 ?c2 ?c3 ?c4 ?c5 ?_);case c1=>exact Pf C
        case c2=>intro u z;simp at z;rcases z with rfl|rfl|rfl|rfl<;>rfl
        case c3=>unfold maxLen;omega
        case c4=>omega
        case c5=>simp;omega
        intro v' F f a _;have A:=I<|(T.alloc M _).grown a (by simp;omega) λq G=>(c.lt q G).1;have i:F.ownsRow w.heap.size 389 4 v' (ps++[(⟨5,k,⟨#[]⟩,0⟩:Yu)]).length<|VB<|ps++[(⟨5,k,⟨#[]⟩,0⟩)]:=by rwa [Ph,Yv]
        clear f a c;go_wp2;try rw[QS]
        go_ret;exact⟨_,_,C,LD i,V,A⟩
       .rw[Yd a7]at j;go_wp2_with fail;refine(Rp).mono ?_;rintro e o ⟨rfl,rfl⟩;rw[U];go_wp2_with fail;refine(QA).mono ?_;rintro e o ⟨rfl,rfl⟩;rw[a6];go_wp2_with fail;refine(CB s k X a8).mono ?_;rintro e o ⟨x,rfl,S,rfl⟩;have hx:bl x=m:=by rw[S,<-HM]
        rw[<-hx]at j;have O:Hid<|TA s (ps++[⟨3,k,x,0⟩])<|k+x.size:=by
         have:=R.token (p:=⟨3,k,x,0⟩) j (by show¬((4:Nat)=0∨(4:Nat)=5);decide) ⟨C,C,C,λh=>by cases h⟩;rwa [Zb]at this
        have c8:0<x.size:=by rw[<-Zb,hx];exact QZ.2 a7
        have c9:x.toList.isEmpty=false:=by
         rw[ZA,hx];cases m with
         |nil=>exact absurd C a7
         |cons=>rfl
        have d0:=O.1;clear hx S j;go_wp2_with(at_builtin;refine XC _ C (.tmp 24) (.tmp 28) 381 C w.heap.size 389 i0 (.agg #[Vi 0,Vi 0,.string ByteArray.empty,Vi 0]) 4 40 underlying381 Z J K L C N _ _ _ C (c.alloc _) ⟨o.heap.size,0,none⟩ 1 1 [Vi 3,Vi k,.string x,Vi 0] C C ?c1 ?c2 ?c3 ?c4 ?c5 ?_);case c1=>exact Pf C
        case c2=>intro u z;simp at z;rcases z with rfl|rfl|rfl|rfl<;>rfl
        case c3=>unfold maxLen;omega
        case c4=>omega
        case c5=>simp;omega
        intro v' F f a _;have A:=I<|(T.alloc M _).grown a (by simp;omega) λq G=>(c.lt q G).1;have i:F.ownsRow w.heap.size 389 4 v' (ps++[(⟨3,k,x,0⟩:Yu)]).length<|VB<|ps++[(⟨3,k,x,0⟩)]:=by rwa [Ph,Yv]
        clear f a c;go_wp2;go_roundg (s.size-(k+x.size));case measure=>omega
        case rel=>exact⟨_,k+x.size,C,by first|rfl|go_num,O,i,A⟩
     .obtain⟨E,B⟩:∃E,E=k+run Zl ((bl s).drop k):=⟨_,C⟩;have W:Hid<|∀w,Calls _ _ _ w λe o=>e=.returned _/\o=w:=I λw=>B▸gR s k w X hk;have a3:0<run Zl ((bl s).drop k):=by rw[JE s k a1];omega
      have Y:=NH Zl<|(bl s).drop k;rw[Ur,Zb]at Y;have b7:k<E:=X;have b8:E<=s.size:=X;have S:Hid<|bl (s.extract k E)=((bl s).drop k).take (run Zl<|(bl s).drop k):=by rw[WL,Ri,B];congr 1;omega
      have j:=pN U a1;rw[<-S,<-B]at j;have D:(s.extract k E).size=run Zl ((bl s).drop k):=by rw[ZE S,Xw,Ur,Zb];omega
      have a4:Hid<|Zx (bl _)=decide (run Zl ((bl s).drop k)<=8):=I (by
       unfold Zx;rw[S,G2,Xw,Ur,Zb];rw[QT X];by_cases h8:run Zl ((bl s).drop k)<=8
       .simp[h8];omega
       .simp[h8];omega);have a5:(s.extract k E).size<=6000:=X;obtain⟨sx,H⟩:∃sx,sx=s.extract k E:=⟨_,C⟩;rw[<-H]at j a5 a4;have P:=I H;by_cases h8:8<run Zl ((bl s).drop k)
      .rw[Ye h8]at j;have V:Hid<|Uy (ps++[⟨5,k,⟨#[]⟩,0⟩]) _:=I<|R.done j (.inr C) ⟨C,C,C,λh=>by cases h⟩;have b1:Hid _:=a4.out▸Wl X;clear j B H a3 Y h8 D S a4;go_wp2_with fail;refine(Rp).mono ?_;rintro e o ⟨rfl,rfl⟩;rw[U];go_wp2_with fail;refine(QA).mono ?_;rintro e o ⟨rfl,rfl⟩;rw[a1];go_wp2_with fail;refine(W _).mono ?_;rintro e o ⟨rfl,rfl⟩;go_wp2_with fail;rw[<-P];refine(FK _ _ a5).mono ?_;rintro e o ⟨rfl,rfl⟩;rw[b1];go_wp2_with(at_builtin;refine XC _ C (.tmp 127) (.tmp 130) 381 C w.heap.size 389 i0 (.agg #[Vi 0,Vi 0,.string ByteArray.empty,Vi 0]) 4 40 underlying381 Z J K L C N _ _ _ C (c.alloc _) ⟨o.heap.size,0,none⟩ 1 1 [Vi 5,Vi k,.string ⟨#[]⟩,Vi 0] C C ?c1 ?c2 ?c3 ?c4 ?c5 ?_);case c1=>exact Pf C
       case c2=>intro u z;simp at z;rcases z with rfl|rfl|rfl|rfl<;>rfl
       case c3=>unfold maxLen;omega
       case c4=>omega
       case c5=>simp;omega
       intro v' F f a _;have A:=I<|(T.alloc M _).grown a (by simp;omega) λq G=>(c.lt q G).1;have i:F.ownsRow w.heap.size 389 4 v' (ps++[(⟨5,k,⟨#[]⟩,0⟩:Yu)]).length<|VB<|ps++[(⟨5,k,⟨#[]⟩,0⟩)]:=by rwa [Ph,Yv]
       clear f a c;go_wp2;try rw[QS]
       go_ret;exact⟨_,_,C,LD i,V,A⟩
      .rw[Yd h8]at j;have O:Hid<|TA s (ps++[⟨1,k,sx,0⟩]) E:=R.token j (by show¬((2:Nat)=0∨(2:Nat)=5);decide) ⟨C,C,C,λh=>by cases h⟩;have b1:Hid _:=a4.out▸WI X;clear j B H a3 Y h8 D S a4;go_wp2_with fail;refine(Rp).mono ?_;rintro e o ⟨rfl,rfl⟩;rw[U];go_wp2_with fail;refine(QA).mono ?_;rintro e o ⟨rfl,rfl⟩;rw[a1];go_wp2_with fail;refine(W _).mono ?_;rintro e o ⟨rfl,rfl⟩;go_wp2_with fail;rw[<-P];refine(FK _ _ a5).mono ?_;rintro e o ⟨rfl,rfl⟩;rw[b1];go_wp2_with(at_builtin;refine XC _ C (.tmp 78) (.tmp 85) 381 C w.heap.size 389 i0 (.agg #[Vi 0,Vi 0,.string ByteArray.empty,Vi 0]) 4 40 underlying381 Z J K L C N _ _ _ C (c.alloc _) ⟨o.heap.size,0,none⟩ 1 1 [Vi 1,Vi k,.string<|s.extract k E,Vi 0] C C ?c1 ?c2 ?c3 ?c4 ?c5 ?_);case c1=>exact Pf C
       case c2=>intro u z;simp at z;rcases z with rfl|rfl|rfl|rfl<;>rfl
       case c3=>unfold maxLen;omega
       case c4=>omega
       case c5=>simp;omega
       intro v' F f a _;have A:=I<|(T.alloc M _).grown a (by simp;omega) λq G=>(c.lt q G).1;have i:F.ownsRow w.heap.size 389 4 v' (ps++[(⟨1,k,sx,0⟩:Yu)]).length<|VB<|ps++[(⟨1,k,sx,0⟩)]:=by rwa [Ph,Yv,P.out]
       clear f a c;go_wp2;go_roundg (s.size-E);case measure=>omega
       case rel=>exact⟨_,E,C,by first|rfl|go_num,O,i,A⟩
    .obtain⟨E,B⟩:∃E,E=k+run Zt ((bl s).drop k):=⟨_,C⟩;have W:Hid<|∀w,Calls _ _ _ w λe o=>e=.returned _/\o=w:=I λw=>B▸gQ s k w X hk;have a3:0<run Zt ((bl s).drop k):=by rw[JE s k a0];omega
     have Y:=NH Zt<|(bl s).drop k;rw[Ur,Zb]at Y;have b7:k<E:=X;have b8:E<=s.size:=X;have S:Hid<|bl (s.extract k E)=((bl s).drop k).take (run Zt<|(bl s).drop k):=by rw[WL,Ri,B];congr 1;omega
     have j:=pM a0;rw[<-S,<-B]at j;have D:(s.extract k E).size<=6000:=by simp;omega
     obtain⟨sx,H⟩:∃sx,sx=s.extract k E:=⟨_,C⟩;rw[<-H]at j D;have P:=I H;cases Q:ZC 1000000000 (bl sx)with
     |none=>
      rw[Q]at j;have V:Hid<|Uy (ps++[⟨5,k,⟨#[]⟩,0⟩]) _:=I<|R.done j (.inr C) ⟨C,C,C,λh=>by cases h⟩;have b2:=I<|Nz Q;clear Q j B H a3 Y;go_wp2_with fail;refine(Rp).mono ?_;rintro e o ⟨rfl,rfl⟩;rw[a0];go_wp2_with fail;refine(W _).mono ?_;rintro e o ⟨rfl,rfl⟩;go_wp2_with fail;rw[<-P];refine(Jp _ 1000000000 _ D N N).mono ?_;rintro e o ⟨rfl,rfl⟩;rw[b2];go_wp2_with(at_builtin;refine XC _ C (.tmp 127) (.tmp 130) 381 C w.heap.size 389 i0 (.agg #[Vi 0,Vi 0,.string ByteArray.empty,Vi 0]) 4 40 underlying381 Z J K L C N _ _ _ C (c.alloc _) ⟨o.heap.size,0,none⟩ 1 1 [Vi 5,Vi k,.string ⟨#[]⟩,Vi 0] C C ?c1 ?c2 ?c3 ?c4 ?c5 ?_);case c1=>exact Pf C
      case c2=>intro u z;simp at z;rcases z with rfl|rfl|rfl|rfl<;>rfl
      case c3=>unfold maxLen;omega
      case c4=>omega
      case c5=>simp;omega
      intro v' F f a _;have A:=I<|(T.alloc M _).grown a (by simp;omega) λq G=>(c.lt q G).1;have i:F.ownsRow w.heap.size 389 4 v' (ps++[(⟨5,k,⟨#[]⟩,0⟩:Yu)]).length<|VB<|ps++[(⟨5,k,⟨#[]⟩,0⟩)]:=by rwa [Ph,Yv]
      clear f a c;go_wp2;try rw[QS]
      go_ret;exact⟨_,_,C,LD i,V,A⟩
     |some v=>
      rw[Q]at j;have O:Hid<|TA s (ps++[⟨0,k,sx,v⟩]) E:=R.token (t:=⟨1,bl _,k⟩) j (by show¬((1:Nat)=0∨(1:Nat)=5);decide) ⟨C,C,C,λ_=>by unfold Wz;rw[Q];rfl⟩;have b2:=I<|Jt Q;clear Q j B H a3 Y;go_wp2_with fail;refine(Rp).mono ?_;rintro e o ⟨rfl,rfl⟩;rw[a0];go_wp2_with fail;refine(W _).mono ?_;rintro e o ⟨rfl,rfl⟩;go_wp2_with fail;rw[<-P];refine(Jp _ 1000000000 _ D N N).mono ?_;rintro e o ⟨rfl,rfl⟩;rw[b2];go_wp2_with(at_builtin;refine XC _ C (.tmp 55) (.tmp 63) 381 C w.heap.size 389 i0 (.agg #[Vi 0,Vi 0,.string ByteArray.empty,Vi 0]) 4 40 underlying381 Z J K L C N _ _ _ C (c.alloc _) ⟨o.heap.size,0,none⟩ 1 1 [Vi 0,Vi k,.string<|s.extract k E,Vi v] C C ?c1 ?c2 ?c3 ?c4 ?c5 ?_);case c1=>exact Pf C
      case c2=>intro u z;simp at z;rcases z with rfl|rfl|rfl|rfl<;>rfl
      case c3=>unfold maxLen;omega
      case c4=>omega
      case c5=>simp;omega
      intro v' F f a _;have A:=I<|(T.alloc M _).grown a (by simp;omega) λq G=>(c.lt q G).1;have i:F.ownsRow w.heap.size 389 4 v' (ps++[(⟨0,k,sx,v⟩:Yu)]).length<|VB<|ps++[(⟨0,k,sx,v⟩)]:=by rwa [Ph,Yv,P.out]
      clear f a c;go_wp2;go_roundg (s.size-E);case measure=>omega
      case rel=>exact⟨_,E,C,by first|rfl|go_num,O,i,A⟩
  .have b3:k=s.size:=X;have V:Hid<|Uy (ps++[⟨4,k,⟨#[]⟩,0⟩]) _:=R.done (t:=⟨0,[],s.size⟩) (e:=s.size) (by rw[b3];exact Zkg s) (Or.inl C) ⟨C,b3,C,λh=>by cases h⟩;clear b3;go_wp2_with(at_builtin;refine XC _ C (.tmp 132) (.tmp 135) 381 C w.heap.size 389 i0 (.agg #[Vi 0,Vi 0,.string ByteArray.empty,Vi 0]) 4 40 underlying381 Z J K L C N _ _ _ C (c.alloc _) ⟨wr.heap.size,0,none⟩ 1 1 [Vi 4,Vi k,.string ⟨#[]⟩,Vi 0] C C ?c1 ?c2 ?c3 ?c4 ?c5 ?_);case c1=>exact Pf C
   case c2=>intro u z;simp at z;rcases z with rfl|rfl|rfl|rfl<;>rfl
   case c3=>unfold maxLen;omega
   case c4=>omega
   case c5=>simp;omega
   intro v' F f a _;have A:=I<|(T.alloc M _).grown a (by simp;omega) λq G=>(c.lt q G).1;have b9:Hid<|F.ownsRow 0 389 4 v' (ps++[(⟨4,k,⟨#[]⟩,0⟩:Yu)]).length<|VB<|ps++[(⟨4,k,⟨#[]⟩,0⟩)]:=by
    rw[Ph,Yv];refine⟨f.1,?_⟩;rcases f.2 with h2|⟨g,cap,cur,h,_,r⟩
    .exact .inl h2
    .exact .inr ⟨g,cap,cur,h,Yr _,r⟩
   clear f a c;go_wp2;try rw[QS]
   go_ret;exact⟨_,_,C,b9,V,A⟩
theorem OW(a:k≠2)(c:k≠4)(d:k<=5):RL ⟨k,x,j⟩/\(⟨k,x,j⟩:Yg).jj<=5:=⟨⟨λh=>absurd h a,λh=>absurd h c⟩,d⟩
theorem yy(h:x.all Zl=true):RL ⟨2,x,j⟩/\(⟨2,x,j⟩:Yg).jj<=5:=⟨⟨λ_=>h,λh=>absurd (show(2)=4 from h) N⟩,by show(2:Nat)<=5;decide⟩
theorem Aq(h:x.all (λc=>!Zl c)=true):RL ⟨4,x,j⟩/\(⟨4,x,j⟩:Yg).jj<=5:=⟨⟨λh=>absurd (show(4)=2 from h) N,λ_=>h⟩,by show(4:Nat)<=5;decide⟩
theorem qS{r:LB}:RL (XS l j c r).1/\(XS l j c r).1.jj<=5:=by
 unfold XS;split
 .split
  .exact OW N N N
  .exact OW N N N
 .rename_i hd;split
  .split
   .exact OW N N N
   .exact yy<|G2 _ _
  .rename_i a;split
   .split
    .exact OW N N N
    .split
     .exact OW N N N
     .exact OW N N N
   .split
    .exact Aq N
    .split
     .refine Aq ?_;show([c].all λc=>!Zl c)=true;have:=Qt.2 a;simp[this]
     .exact OW N N N
theorem pS(l:LB)(i:Nat):RL (Zg l i).1/\(Zg l i).1.jj<=5:=by
 unfold Zg UV;split
 .exact OW N N N
 .exact qS
theorem AC(l:LB):∀(n i:Nat),i<=l.length->l.length+1<=n+i->PP (Z7 l n i)
 |0,i,a,c=>absurd c X
 |n+1,i,a,c=>by
  show PP<|if(Zg l i).1.jj=0∨(Zg l i).1.jj=5 then[(Zg l i).1]else(Zg l i).1::Z7 l n (Zg l i).2;by_cases h:(Zg l i).1.jj=0∨(Zg l i).1.jj=5
  .rw[Ye h];exact h
  · rw[Yd h];have d:=Nw l i a;have f:=pS l i;have ih:=AC l n _ d.2<|by have:=d.1 λe=>h<|.inl e;omega
    cases g:Z7 l n (Zg l i).2 with
   |nil=>rw[g]at ih;exact ih.elim
   |cons u m=>
    rw[g]at ih;exact⟨by have:=f.2;omega,f.1,ih⟩
theorem vI{b:Nat}(h:w.grownBy w'<|some b)(a:B<=b)(c:B<=w.heap.size):Below B w w':=
 ⟨h.os,h.tape,h.output,h.size,λj d=>h.block j X λe=>by injection e with e;omega⟩
def WU(w:World)(lg sy dp tp:Addr)(r:Except (Nat×Nat) Tr)(pv v:Value):Prop:=match r with
 |.ok t=>v=.nilIface/\Zo w t pv
 |.error x=>(x=(1,0)/\v=.iface 469 (.pointer<|some lg))∨(x=(4,0)/\v=.iface 469 (.pointer<|some tp))∨(x.1=2/\ZF w v x.2 sy)∨(x.1=3/\ZF w v x.2 dp)
theorem WU.error{x:Nat×Nat}(a:r=.error x)(h:(x=(1,0)/\v=.iface 469 (.pointer<|some lg))∨(x=(4,0)/\v=.iface 469 (.pointer<|some tp))∨(x.1=2/\ZF w v x.2 sy)∨(x.1=3/\ZF w v x.2 dp)):WU w lg sy dp tp r pv v:=by subst a;exact h
theorem WU.fine{t:Tr}(a:r=.ok t)(h:v=.nilIface/\Zo w t pv):WU w lg sy dp tp r pv v:=by subst a;exact h
structure T9 (w:World)(lg sy dp tp:Addr):Prop where
 lg:w.cell? ⟨0,0,none⟩=some (.iface 469<|.pointer<|some lg)
 sy:w.cell? ⟨1,0,none⟩=some (.iface 469<|.pointer<|some sy)
 dp:w.cell? ⟨2,0,none⟩=some (.iface 469<|.pointer<|some dp)
 tp:w.cell? ⟨3,0,none⟩=some (.iface 469<|.pointer<|some tp)
theorem T9.below(h:T9 w lg sy dp tp)(a:BW w w'):T9 w' lg sy dp tp:=
 ⟨(a.cell<|Xi _ _ h.lg).trans h.lg,(a.cell<|Xi _ _ h.sy).trans h.sy,(a.cell<|Xi _ _ h.dp).trans h.dp,(a.cell<|Xi _ _ h.tp).trans h.tp⟩
theorem BV(s:BA)(w:World)(b6:s.size<=9223372036854775807)(M:T9 w lg sy dp tp):
 CP 189 #[.string s] w λe w'=>∃pv v:Value,e=.returned (.tuple #[pv,v])/\Hid (WU w' lg sy dp tp (Z5<|bl s) pv v)/\BW w w':=by
 by_cases hl:300<s.size
 .have HR:Hid<|Z5 _=.error _:=I<|by unfold Z5;rw[Zb,Ye hl]
  have hd:(300:Int)<s.size:=X;have b7:=M.lg;clear M;go_enter func189,ntmps189;go_wp2;go_region;all_goals
   go_wp2;go_ret2;exact⟨_,_,C,WU.error HR<|.inl ⟨C,C⟩,Yh⟩
 .have a6:s.size<=300:=X;have hd:¬((300:Int)<s.size):=X;obtain⟨ts,h⟩:∃ts,ts=Z7 (bl s) ((bl s).length+1) 0:=⟨_,C⟩;have a7:Hid<|ts.length<=301:=I<|by
   have:=Lc (bl s) ((bl s).length+1) 0<|Yr _;rw[<-h,Zb]at this;omega
  have P:Hid _:=h▸AC _ _ _ (Yr _) X;have q:Hid<|Z5 (bl s)=match Zh (10*ts.length+5) false 0 .nil ts 0 with
   |.error e=>.error e
   |.ok (t,r)=>if(LS.hd r).jj=0 then(if Zq t=0 then .error (4,0)else .ok t)else .error (2,(LS.hd r).at_):=by
   unfold Z5;rw[Zb,Yd hl,<-Zb,<-h];cases Zh (10*ts.length+5) false 0 .nil ts 0 with
   |error e=>rfl
   |ok x=>rfl
  have HS:=I M;have a8:=I h;clear h M hl;go_enter func189,ntmps189;go_wp2_with fail;refine(qU s w a6).mono ?_;rintro e w1 ⟨v,ps,rfl,l,d,A⟩;rw[<-a8]at d;have Q:=I d.length;have R:0<ps.length:=Q.out▸P.head.2.1;obtain⟨g,cp,rfl⟩:=Zm l R;have S:=I l;have m:=I A;have T:=I<|HS.below A;clear l A;go_wp2_with fail;refine Zv λW O=>?_;have n:Below _ _ W:=O▸Yc;have a9:=I<|m.trans<|n.mono m.size;have U:=I<|T.below n;have HK:Hid<|RK W ⟨w1.heap.size,g,cp,ps,sy,dp⟩ 0 _:=I ⟨⟨O▸YO,Ze S n,R⟩,d,P,by show ps.length<=302;rw[Q];have:=a7.out;omega,U.sy,U.dp⟩;have b8:w1.heap.size<W.heap.size:=by rw[O];simp
  have b0:=m.size;clear O n S d T m;refine((Df _).1 0 N _ (Yj _) W _ 0 ts 0 HK.out N<|by show 10*ts.length+5<=10*ts.length+5+0;omega).mono ?_;rintro e z ⟨pv,v,rfl,b1,f,V⟩;have Y:=vI V b0 X;have i:=I<|a9.trans Y;have b9:=I<|HS.below i;clear V Y;cases a:Zh (10*ts.length+5) false 0 .nil ts 0 with
  |error er=>
   have B:=I<|f.err a;obtain⟨fa,rfl⟩:=B.shape;have b2:Hid<|Z5 _=.error _:=I<|by rw[q,a]
   clear f a;go_wp2;go_ret2;exact⟨_,_,C,WU.error b2<|.inr<|.inr B,i⟩
  |ok pr=>
   obtain⟨t,r⟩:=pr;obtain⟨rfl,⟨k2,Z⟩,D⟩:=f.good a;have F:=I Z;have a0:=I D;have G:Hid<|Z5 _=if(LS.hd r).jj=0 then(if Zq t=0 then .error _ else .ok t)else .error _:=I<|by rw[q,a]
   obtain⟨ty,u,b3⟩:=Zo.shape D;subst b3;clear f a Z D b1 q;go_wp2_with fail;refine(QM F.out).mono ?_;rintro e w3 ⟨⟨kd,at_,tx,tv⟩,rfl,ht,o⟩;have j:=I<|i.trans<|o.mono i.size;have a1:=I<|F.below o;have a2:=I<|a0.below o;clear o i F a0;have p:=P3 a1.wf.head.2.2;by_cases c:(LS.hd r).jj=0
   .have a3:kd=4:=by have:=ht.1;simp only at this;rw[this,p.2.2.2.2.2 c]
    subst a3;have H:Hid<|Z5 _=if Zq t=0 then .error _ else .ok t:=I<|by rw[G,Ye c]
    have hf:∀W:World,(Instr.field 389 (.agg #[E 4,E at_,.string tx,E tv]) 0).run prog W=.ok (.int _ 4) W:=λ_=>C;clear c p ht;go_wp2_with fail;refine(Hg t _ _ _ a2 (HS.below j).tp).mono ?_;rintro e w4 ⟨kd,err,rfl,J,K⟩;have a4:=I<|j.trans<|K.mono j.size;have b4:=I<|a2.below K;clear K;rcases J.out with⟨L,rfl⟩|⟨L,rfl,rfl⟩|⟨L,rfl,rfl⟩
    .have k:Hid<|Z5 _=.error _:=I<|by rw[H,Ye L]
     clear J L;go_wp2;go_ret2;exact⟨_,_,C,WU.error k<|.inr<|.inl ⟨C,C⟩,a4⟩
    all_goals
     have k:Hid<|Z5 _=.ok t:=I<|by rw[H,Yd X]
     clear J L;go_wp2;go_ret2;exact⟨_,_,C,WU.fine k ⟨C,b4⟩,a4⟩
   .have a3:((kd:Int) !=4)=true:=by
     rw[Vg];intro e;exact c<|p.2.2.2.2.1<|by have:=ht.1;simp only at this;omega
    have k:Hid<|Z5 _=.error _:=I<|by rw[G,Yd c]
    have hf:∀W:World,(Instr.field 389 (.agg #[.int _ kd,E at_,.string tx,E tv]) 0).run prog W=.ok (E _) W:=λ_=>C;clear c p;go_wp2_with fail;refine(Ox a1.out).mono ?_;rintro e wE ⟨v,rfl,B,a5⟩;obtain⟨fa,rfl⟩:=B.shape;have b5:=I<|j.trans<|a5.mono j.size;clear a5;go_wp2;go_ret2;exact⟨_,_,C,WU.error k<|.inr<|.inr B,b5⟩
theorem Ew{y:LB}(m:Int)(w:World)(g:s.size<=70000)(d:w.cell? ⟨14,0,none⟩=some (E m))(h:cut c (bl s)=some (x,y)):
 CP 90 #[.string s,.string ⟨#[c]⟩] w λe u=>∃a b:BA,e=.returned (.tuple #[.string a,.string b,.bool true])/\Hid (bl a=x/\bl b=y)/\∃n,u=w.drewN n:=by
 refine(strings_Cut s _ m w X d).mono ?_;rintro e u ⟨rfl,f⟩;have e1:Lib.cut s.data.toList (⟨#[c]⟩:BA).data.toList=(x,y,true):=qX h;rw[e1];exact⟨_,_,C,⟨Ta x,Ta y⟩,f⟩
theorem Pg{y:LB}(m:Int)(w:World)(f:s.size<=6000)(d:w.cell? ⟨14,0,none⟩=some (E m))(h:cut c (bl s)=some (x,y)):
 CP 90 #[.string s,.string ⟨#[c]⟩] w λe u=>∃a b:BA,e=.returned (.tuple #[.string a,.string b,.bool true])/\Hid (bl a=x/\bl b=y)/\∃n,u=w.drewN n:=Ew m w X d h
theorem Ex(m:Int)(w:World)(g:s.size<=70000)(d:w.cell? ⟨14,0,none⟩=some (E m))(h:cut c (bl s)=none):
 CP 90 #[.string s,.string ⟨#[c]⟩] w λe u=>∃a b:BA,e=.returned (.tuple #[.string a,.string b,.bool false])/\Hid (bl a=bl s/\bl b=[])/\∃n,u=w.drewN n:=by
 refine(strings_Cut s _ m w X d).mono ?_;rintro e u ⟨rfl,f⟩;have e1:Lib.cut s.data.toList (⟨#[c]⟩:BA).data.toList=(bl s,[],false):=qW h;rw[e1];exact⟨_,_,C,⟨Ta _,Ta _⟩,f⟩
theorem Mm(m:Int)(w:World)(f:s.size<=6000)(d:w.cell? ⟨14,0,none⟩=some (E m))(h:cut c (bl s)=none):
 CP 90 #[.string s,.string ⟨#[c]⟩] w λe u=>∃a b:BA,e=.returned (.tuple #[.string a,.string b,.bool false])/\Hid (bl a=bl s/\bl b=[])/\∃n,u=w.drewN n:=Ex m w X d h
theorem uH(c:UInt8)(s:BA)(w:World):
 CP 169 #[.string s,.string ⟨#[c]⟩] w λe u=>∃a:BA,e=.returned (.tuple #[.string a,.bool (Z6 c<|bl s).2])/\Hid (bl a=(Z6 c<|bl s).1)/\u=w:=by
 refine(strings_CutPrefix s _ w).mono ?_;rintro e u ⟨rfl,d⟩;have e1:=qY c<|bl s;rw[<-e1];exact⟨_,C,Ta _,d⟩
def Nk(w:World)(g:Nat)(ps:List<|LB):Prop:=g<w.heap.size/\∀i,i<ps.length->∃s:BA,w.cell? ⟨g,i,none⟩=some (.string s)/\bl s=ps.getD i []
theorem Nk.below{g:Nat}(h:Nk w g ps)(a:Below B w w')(c:g<B):Nk w' g ps:=
 ⟨WH h.1 a.size,λi d=>by
  obtain⟨s,e,f⟩:=h.2 i d;exact⟨s,(a.cell c).trans e,f⟩⟩
theorem eD(c:UInt8)(s:BA)(m:Int)(w:World)(j:s.size<=70000)(g:w.cell? ⟨14,0,none⟩=some (E m)):
 CP 41 #[.string s,.string ⟨#[c]⟩] w λe u=>
  ∃n,e=.returned (.slice (some ⟨w.heap.size,0,none⟩) n n)/\n=(split c<|bl s).length/\Nk u w.heap.size (split c<|bl s)/\BW w u:=by
 refine(strings_Split s ⟨#[c]⟩ m w X g<|Yj 1).mono ?_;rintro e u ⟨rfl,rfl⟩;have hd:(Lib.splitB ⟨#[c]⟩ 0 (Lib.countB s ⟨#[c]⟩) s).map bl=split c (bl s):=by
  refine(Lib.splitB_data _ 0 _ s).trans ?_;exact ze c _ _<|Yj _
 have d:=Lib.splitB_all ⟨#[c]⟩ (Yj 1) 0 _ s C;have a:(split c<|bl s).length=Lib.countB s ⟨#[c]⟩+1:=by rw[<-hd,Yz,d]
 refine⟨_,C,a.symm,⟨Sm,λi h=>?_⟩,Yc⟩;have f:i<(Lib.splitB _ 0 _ s).length:=d▸a▸h;refine⟨(Lib.splitB _ 0 _ s)[i],?_,?_⟩
 .simp
 .rw[<-hd];simp[f]
theorem Fc(s:BA)(m:Int)(d:s.size<=6000)(a:w.cell? ⟨14,0,none⟩=some (E m)):
 CP 41 #[.string s,.string ⟨#[c]⟩] w λe u=>
  ∃n,e=.returned (.slice (some ⟨w.heap.size,0,none⟩) n n)/\n=(split c<|bl s).length/\Nk u w.heap.size (split c<|bl s)/\BW w u:=eD c s m w X a
theorem ye{d:LB}(h:ZC 1000000000 (Z6 45 d).1=none):T2 d=false:=by unfold T2;rw[h]
theorem yg{d:LB}{v:Nat}(h:ZC 1000000000 (Z6 45 d).1=some v):T2 d=!((Z6 45 d).2&&v==0):=by unfold T2;rw[h]
theorem AX{r:LB}(s:BA)(a:mi=most)(d:s.size<=6000)(c:9<=most)(f:most<=1000000000)(g:bl s=r)(h:ZC most r=none):
 CP 188 #[.string s,E mi] w λe u=>e=.returned (.tuple #[E 0,.bool false])/\u=w:=by
 subst a;subst g;have:=Jp s _ w d c f;rwa [Nz h]at this
theorem AY{r:LB}{v:Nat}(s:BA)(a:mi=most)(d:s.size<=6000)(c:9<=most)(f:most<=1000000000)(g:bl s=r)(h:ZC most r=some v):
 CP 188 #[.string s,E mi] w λe u=>e=.returned (.tuple #[E v,.bool true])/\u=w:=by
 subst a;subst g;have:=Jp s _ w d c f;rwa [Jt h]at this
theorem K7{r:LB}{f:Bool}(h:Z6 c (bl s)=(r,f)):
 CP 169 #[.string s,.string ⟨#[c]⟩] w λe u=>∃a:BA,e=.returned (.tuple #[.string a,.bool f])/\Hid (bl a=r)/\u=w:=by
 have:=uH c s w;rwa [h]at this
theorem zX{d d':LB}{less:Bool}{v:Int}(a:Z6 45 d=(d',less))(c:YL 1000000000 d'=v):Ra d=if less then-v else v:=by
 unfold Ra;rw[a];simp only[c]
theorem gA(s:BA)(A:s.size<=6000):
 CP 199 #[.string s] w λe u=>∃v:Int,e=.returned (.tuple #[E v,.bool<|T2<|bl s])/\u=w/\Hid (T2 (bl s)=true->v=Ra (bl s)):=by
 have x:(Z6 45<|bl s).1.length<=s.size:=by rw[<-Zb];exact GN _ _
 have g:=@ye<|bl s;have i:=@yg<|bl s;generalize p:Z6 45 (bl s)=st at*;obtain⟨r,f⟩:=st;have j:=I p;clear p;simp only at x g i;cases d:ZC 1000000000 r with
 |none=>
  have k:=I<|g d;have n:=I d;clear d g i;cases f<;>
  .go_enter func199,ntmps199;go_wp2_with fail;refine(K7 j).mono ?_;rintro e u ⟨a,rfl,l,rfl⟩;have m:a.size<=6000:=by rw[ZE l];omega
   go_wp2_with fail;refine(AX a C m X X l n).mono ?_;rintro e u ⟨rfl,rfl⟩;go_wp2;go_ret2;exact⟨_,by rw[k];rfl,C,I λh=>by rw[k]at h;cases h⟩
 |some v=>
  have B:=Mw d;have n:=I d;have c:=i d;clear d g i;have o:(f=false/\T2 (bl s)=true)∨(f=true/\((v:Int) !=0)=true/\T2 (bl s)=true)∨(f=true/\((v:Int) !=0)=false/\T2 (bl s)=false):=by
   cases f
   .exact .inl ⟨C,by simpa using c⟩
   .by_cases q:v=0
    .subst q;exact .inr<|.inr ⟨C,C,by simpa using c⟩
    .exact .inr<|.inl ⟨C,by simp;omega,by rw[c];simp[q]⟩
  clear c;rcases o with⟨rfl,c⟩|⟨rfl,z,c⟩|⟨rfl,z,c⟩;all_goals
   have k:=I c;have t:=I (zX j<|RB n).symm;clear c;go_enter func199,ntmps199;go_wp2_with fail;refine(K7 j).mono ?_;rintro e u ⟨a,rfl,l,rfl⟩;have m:a.size<=6000:=by rw[ZE l];omega
   go_wp2_with fail;refine(AY a C m X X l n).mono ?_;rintro e u ⟨rfl,rfl⟩;go_wp2;go_ret2;exact⟨_,by rw[k];rfl,C,I λh=>by first|(rw[k.out]at h;cases h;done)|exact t.out⟩
def KT(l:LB)(tm v:Int)(ok:Bool):Prop:=(ok=true/\∃t:Nat,Tw l=some t/\tm=t/\t<=1000000/\UJ l=(tm,v))∨(ok=false/\Tw l=none)
theorem gq(m:Int)(l:s.size<=6000)(r:w.cell? ⟨14,0,none⟩=some (E m)):
 CP 170 #[.string s] w λe u=>∃(tm v:Int)(ok:Bool),e=.returned (.tuple #[.agg #[E tm,E v],.bool ok])/\Hid (KT (bl s) tm v ok)/\BW w u:=by
 have g:∀o,(w.alloc o).cell? _=some _:=λo=>TN _ _ _ (Xi _ _ r)▸r;cases d:cut 58 (bl s)with
 |none=>
  have h:Hid<|KT _ 0 0 _:=.inr ⟨C,by unfold Tw;rw[d]⟩;have j:=I d;clear d;go_enter func170,ntmps170;go_wp2_with fail;refine(Mm m _ l (g _) j).mono ?_;rintro e u ⟨a,b,rfl,c,n,rfl⟩;go_wp2;exact YQ (by simp[results,results170,go_sem]) C ⟨0,0,false,C,h,Yh⟩
 |some xy=>
  obtain⟨x,y⟩:=xy;have D:x.length<=s.size/\y.length<=s.size:=by
   rw[<-Zb,(Rm d).1];simp;omega
  have j:=I d;cases f:ZC 1000000 x with
  |none=>
   have h:Hid<|KT _ 0 0 _:=.inr ⟨C,by unfold Tw;rw[d];simp only[f]⟩;have p:=I f;clear d f;go_enter func170,ntmps170;go_wp2_with fail;refine(Pg m _ l (g _) j).mono ?_;rintro e u ⟨a,b,rfl,c,n,rfl⟩;have i:a.size<=6000:=by rw[ZE c.1];omega
   go_wp2_with fail;refine(AX a C i X X c.1 p).mono ?_;rintro e u ⟨rfl,rfl⟩;go_wp2;exact YQ (by simp[results,results170,go_sem]) C ⟨0,0,false,C,h,Yh⟩
  |some t=>
   have B:=Mw f;have h:Hid<|∀v:Int,(T2 y=true->v=Ra y)->KT (bl s) t v (T2 y):=by
    intro v z;cases q:T2 y
    .exact .inr ⟨C,by unfold Tw;rw[d];simp[f,q]⟩
    .exact .inl ⟨C,t,by unfold Tw;rw[d];simp[f,q],C,B,by unfold UJ;rw[d];simp only[RB f,z q]⟩
   have p:=I f;clear d f;go_enter func170,ntmps170;go_wp2_with fail;refine(Pg m _ l (g _) j).mono ?_;rintro e u ⟨a,b,rfl,c,n,rfl⟩;have i:a.size<=6000:=by rw[ZE c.1];omega
   have A:b.size<=6000:=by rw[ZE c.2];omega
   go_wp2_with fail;refine(AY a C i X X c.1 p).mono ?_;rintro e u ⟨rfl,rfl⟩;go_wp2_with fail;refine(gA b A).mono ?_;rintro e u ⟨v,rfl,rfl,k⟩;rw[c.2];rw[c.2]at k;go_wp2;exact YQ (by simp[results,results170,go_sem]) C ⟨t,v,T2 y,C,I<|h v k,Yh⟩
theorem Tryz.infoSample:(Tryz.prog.info? 315).map (λi=>(i.zero,i.size,i.bytes))=some (some<|.agg #[E 0,E 0],2,16):=Kr
theorem BX(a:k<ps.length)(c:l=ps.getD k []){t:Nat}(d:Tw l=some t)(f:¬(t:Int)<=last):
 Vk last n (ps.drop k)=Vk t (n+1) (ps.drop<|k+1):=by
 have e:ps.getD k []=ps[k]:=by simp[a]
 rw[List.drop_eq_getElem_cons a,Vk,<-e,<-c,d];simp[f]
theorem JG(a:k<ps.length)(c:l=ps.getD k [])(d:Tw l=none∨∃t:Nat,Tw l=some t/\(t:Int)<=last):
 Vk last n (ps.drop k)=none:=by
 have e:ps.getD k []=ps[k]:=by simp[a]
 rw[List.drop_eq_getElem_cons a,Vk,<-e,<-c];rcases d with h|⟨t,h,f⟩
 .rw[h]
 .rw[h];simp[f]
theorem BY(a:¬k<ps.length):Vk last n (ps.drop k)=some n:=by
 rw[Ts X];rfl
theorem iK(s r:BA)(m:Int)(w:World)(hs:s.size<=6000)(W:w.cell? ⟨14,0,none⟩=some (E m))(P:Hid<|Z6 32 (bl s)=(bl r,true))(b0:s.toList.isEmpty=false):
 CP 132 #[.string s] w λe l=>∃(sv:Value)(ok:Bool),e=.returned (.tuple #[sv,.bool ok])/\
  Hid ((ok=true/\∃a n cap,sv=.slice a n cap/\Vk (-1) 0 (split 32<|bl r)=some n/\l.ownsRow w.heap.size 315 2 sv n (ZQ<|(split 32<|bl r).map UJ))∨(ok=false/\Vk (-1) 0 (split 32<|bl r)=none))/\BW w l:=by
 have hr:r.size<=6000:=by
  have:=GN 32<|bl s;rw[P,Zb,Zb]at this;omega
 obtain⟨i0,hi,a1,a2,a3⟩:=Xv Tryz.infoSample;have Q:=Xi _ _ W;go_enter func132,ntmps132;go_wp2_with fail;refine(K7 P).mono ?_;rintro e l ⟨a,rfl,ha,rfl⟩;obtain rfl:=LS.ZbH ha;clear ha;go_wp2_with fail;refine(Fc a m hr W).mono ?_;rintro e w1 ⟨n,rfl,Y,F,x⟩;have Z:=I Y;have b1:n<=6001:=by rw[Y];have:=Qf 32<|bl a;rw[Zb]at this;omega
 clear Y;have a4:l.heap.size+1<=w1.heap.size:=F.1;go_wp2;go_loopw [6,7,24] (λv last i wr=>∃(k:Nat)(L:Int),k<=n/\i=E k/\last=E L/\-1<=L/\L<=1000000/\wr.ownsRow (l.heap.size+1) 315 2 v k (ZQ<|((split 32<|bl a).map UJ).take k)/\Hid (Vk (-1) 0 (split 32<|bl a)=Vk L k ((split 32<|bl a).drop k))/\Below (l.heap.size+1) w1 wr)
  (λ_ _ i _=>n-(intOf i).toNat);case atStart=>exact⟨0,-1,Yr _,C,C,X,X,Xm _ _ _ _,C,Ym _ _⟩
 case round=>
  obtain⟨k,L,hk,rfl,rfl,b2,b3,c,M,o⟩:=hrel;have a5:=Xb a4 o.size;by_cases R:k<n
  .have d:k<(split _ _).length:=Z.out▸R;obtain⟨sk,b4,G⟩:=(F.below o<|RA _).2 k d;have a0:sk.size<=6000:=by rw[ZE G];have:=OU _ _ k d;rw[Zb]at this;omega
   have O:=I G;clear G;have a6:wr.cell? _=some _:=o.cell (p:=⟨_,0,none⟩) (by simpa using Nat.lt_succ_of_lt Q)▸x.cell (p:=⟨_,0,none⟩) Q▸W;go_wp2_with fail;refine(gq m a0 a6).mono ?_;rintro e z ⟨tm,v2,ok,rfl,q,H⟩;have b5:=H.size;have A:=o.trans<|H.mono a5;have f:=Ze c H;cases ok
   .have D:Hid<|Vk (-1) 0 (split 32<|bl a)=none:=by
     rw[M];refine JG d O<|.inl ?_;rcases q.out with⟨h,_⟩|⟨_,h⟩
     .cases h
     .exact h
    go_wp2;go_ret2;exact⟨_,false,C,.inr ⟨C,D⟩,(x.trans<|A.mono X).alloc X _⟩
   .obtain⟨t,S,T,b6,U⟩:∃t:Nat,Tw _=some t/\tm=t/\t<=1000000/\UJ _=(tm,v2):=by
     rcases q.out with⟨_,h⟩|⟨h,_⟩
     .exact h
     .cases h
    have HT:=I S;have a7:=I<|DE d O U;clear S q U;have b7:tm<=1000000:=X;have b8:0<=tm:=X;have J:=I T;clear T;by_cases V:tm<=L
    .have D:Hid _:=M.out▸JG d O.out (Or.inr ⟨t,HT.out,by rw[<-J.out];exact V⟩);go_wp2;go_ret2;exact⟨_,false,C,.inr ⟨C,D⟩,(x.trans<|A.mono X).alloc X _⟩
    .have D:Hid _:=M.out▸BX d O.out HT.out (by rw[<-J.out];exact V);go_wp2_with(at_builtin;refine XC _ C (.tmp 41) (.tmp 43) 199 C (l.heap.size+1) 315 i0 (.agg #[E 0,E 0]) 2 16 underlying199 hi a1 a2 a3 C N _ _ _ C ((f.alloc _).alloc _) ⟨z.heap.size+1,0,none⟩ 1 1 [E tm,E v2] C C ?c1 ?c2 ?c3 ?c4 ?c5 ?_);case c1=>exact PW Sm Sm
     case c2=>intro u hu;simp at hu;rcases hu with rfl|rfl<;>rfl
     case c3=>unfold maxLen;omega
     case c4=>omega
     case c5=>simp;omega
     intro v' w3 B g _;rw[<-a7]at B;have K:=f.lt;have a8:=(((A.alloc X _).alloc (by simp;omega) _)).grown g (by simp;omega) λj hj=>(K j hj).1;have b9:w3.cell? ⟨z.heap.size,0,none⟩=some (E tm):=by
      refine g.cell Sm ?_;intro he;have:=(K _ he.symm).2;simp at this
     clear f c g A;go_wp2;go_roundw;case rel=>exact⟨k+1,tm,X,by go_num,C,X,X,B,by rwa [J.out],a8⟩
     case measure=>simp[intOf];omega
  .have D:Hid _:=M.out▸BY (by rw[<-Z.out];exact R);obtain⟨av,cp,hv⟩:=Zd c;rw[hv]at c;rw[hv];have a9:Hid<|wr.ownsRow l.heap.size 315 2 (.slice av k cp) k<|ZQ<|(split 32<|bl a).map UJ:=by
    rw[Wm<|by rw[Yz];have:=Z.out;omega]at c;exact c.mono X
   clear c;go_wp2;go_ret2;exact⟨_,true,C,.inl ⟨C,av,k,cp,C,D,a9⟩,x.trans<|o.mono X⟩
