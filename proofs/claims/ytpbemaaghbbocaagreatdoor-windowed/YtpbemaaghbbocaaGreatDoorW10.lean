/- Parts. -/
import Derived.Test.YtpbemaaghbbocaaGreatDoorWX
import Derived.Test.YtpbemaaghbbocaaGreatDoorW06
import Derived.Deep.Onto
set_option linter.all false
set_option maxRecDepth 100000
set_option maxHeartbeats 16000000
namespace Go.Proofs.YtpbemaaghbbocaaGreatDoor
open Go.RowKit LS Go.Proofs.Tryz
variable {dp lg sy tp:Addr}{s:BA}{r:Except (Nat×Nat) Tr}{last mi:Int}{l x:LB}{ps:List (LB)}{B j k n:Nat}{c:UInt8}{pv v:Value}{W w w':World}
def Zfs(c:UInt8)(r:LB):LB:=if c == 33 && r.head? == some 61 then [33,61] else if (seek c Zdq).isSome then [c] else []
theorem ZpT(c:UInt8):∀l:LB,decide (0<=Lib.indexByte l c)=(seek c l).isSome/\-1<=Lib.indexByte l c
 | []=>⟨rfl,Yd0 (-1)⟩
 | b :: l => by
   obtain⟨d,f⟩:=ZpT c l;unfold Lib.indexByte seek;by_cases a:b=c
   · subst a;simp
   · have e:(b == c)=false:=by simpa using a
     rw[e];simp only[Yde,if_false];rw[Option.isSome_map,<-d];split
     · rename_i h
       have:Lib.indexByte l c=-1:=by simpa using h
       rw[this];exact⟨by decide,by decide⟩
     · rename_i h
       have:Lib.indexByte l c≠-1:=by simpa using h
       refine⟨?_,by omega⟩;rw[decide_eq_true (show 0<=Lib.indexByte l c+1 by omega),decide_eq_true (show 0<=Lib.indexByte l c by omega)]
theorem ZAV(c:UInt8)(r:LB):Lib.hasPrefix (c::r) [33,61]=(c == 33 && r.head? == some 61):=by
 cases r with
 | nil=>simp[Lib.hasPrefix,List.isPrefixOf]
 | cons d r=>
  simp only[Lib.hasPrefix,List.isPrefixOf,List.head?_cons];rw[Yd3]
  congr 1
  ·rw[Ybh,beq_iff_eq,beq_iff_eq];exact eq_comm
  ·rw[Ybh,beq_iff_eq,beq_iff_eq];exact⟨fun h=>by rw[h],fun h=>by injection h with h;exact h.symm⟩
theorem ZqU(s:BA)(k:Nat)(r:s.size<=6000)(j:k<s.size) :
  Cq 64 #[.string s,Vi k] w fun e u=>∃x:BA,e=.returned (.string x)/\Hid (bl x=Zfs s[k] ((bl s).drop (k+1)))/\u=w:=by
 have l:(s.extract k s.size).data.toList=s[k]::(bl s).drop (k+1):=by
  show bl _=_;rw[Zfh,<-Zd,Ya4,ZdW s k j]
 have a:Lib.hasPrefix (s.extract k s.size).data.toList [33,61]=(s[k] == 33 && ((bl s).drop (k+1)).head? == some 61):=by rw[l,ZAV]
 obtain⟨b1,d⟩:∃x,(s[k] == 33 && ((bl s).drop (k+1)).head? == some 61)=x:=⟨_,rfl⟩
 obtain⟨b2,f⟩:∃x,(seek s[k] Zdq).isSome=x:=⟨_,rfl⟩
 have g:Hid (Zfs s[k] ((bl s).drop (k+1))=if b1 then [33,61] else if b2 then [s[k]] else []):=hid (by unfold Zfs;rw[d,f]);have h:=ZpT s[k] Zdq;rw[f]at h;rw[d]at a;have i:Hid (Lib.hasPrefix (s.extract k s.size).data.toList [33,61]=b1):=a;have m:Hid (decide (0<=Lib.indexByte Zdq s[k])=b2/\-1<=Lib.indexByte Zdq s[k]):=h;have n:Hid (bl (s.extract k (k+1))=[s[k]]):=hid (by rw[Zfh,Yc8,ZdW s k j,show k+1 - k=1 by omega];rfl);clear l a d f h;have o:∀c:UInt8,((c.toNat:Int).toNat.toUInt8)=c:=fun c=>by simp
 cases b1
 ·cases b2
  ·have p:¬(0<=Lib.indexByte Zdq s[k]):=of_decide_eq_false m.1;go_enter func64,ntmps64
   go_wp2_with fail
   refine(strings_HasPrefix _ _ _).mono ?_;rintro e u ⟨rfl,rfl⟩;rw[show(⟨#[33,61]⟩:BA).data.toList=[33,61] from rfl,i.out]
   go_wp2_with fail
   refine(strings_IndexByte _ _ _).mono ?_;rintro e u ⟨rfl,rfl⟩;rw[o,show(⟨#[40,41,123,125,91,93,44,61,43,45,42,47]⟩:BA).data.toList=Zdq from rfl];generalize Lib.indexByte Zdq s[k]=ix at *
   go_wp2;go_ret;exact⟨_,rfl,hid (by rw[g.out];rfl),rfl⟩
  ·have q:0<=Lib.indexByte Zdq s[k]:=of_decide_eq_true m.1;go_enter func64,ntmps64
   go_wp2_with fail
   refine(strings_HasPrefix _ _ _).mono ?_;rintro e u ⟨rfl,rfl⟩;rw[show(⟨#[33,61]⟩:BA).data.toList=[33,61] from rfl,i.out]
   go_wp2_with fail
   refine(strings_IndexByte _ _ _).mono ?_;rintro e u ⟨rfl,rfl⟩;rw[o,show(⟨#[40,41,123,125,91,93,44,61,43,45,42,47]⟩:BA).data.toList=Zdq from rfl];generalize Lib.indexByte Zdq s[k]=ix at *
   go_wp2;go_ret;exact⟨_,rfl,hid (by rw[g.out];exact n.out),rfl⟩
 ·go_enter func64,ntmps64
  go_wp2_with fail
  refine(strings_HasPrefix _ _ _).mono ?_;rintro e u ⟨rfl,rfl⟩;rw[show(⟨#[33,61]⟩:BA).data.toList=[33,61] from rfl,i.out];go_wp2;go_ret;exact⟨_,rfl,hid (by rw[g.out];rfl),rfl⟩
theorem Zx4(h:k<s.size)(a:s[k]≠32)(hd:ZC s[k]=false)(c:Zp s[k]=false)(d:s[k]≠34):Zk (bl s) k=if Zfs s[k] ((bl s).drop (k+1))=[] then (⟨5,[],k⟩,k+1)else (⟨4,Zfs s[k] ((bl s).drop (k+1)),k⟩,k+(Zfs s[k] ((bl s).drop (k+1))).length):=by
 rw[ZjD s k h a];unfold lexC Zfs;rw[hd,c,beq_eq_false_iff_ne.2 d];simp only[Yde,if_false];split
 ·rfl
 ·split <;> rfl
theorem Zxk{a b:LB}(h:Z3 (a++b)=true):Z3 a=true:=by
 unfold Z3 at h ⊢;rw[Yas]at h ⊢;obtain⟨c,d⟩:=h;simp at c d ⊢;constructor
 ·exact c.1
 ·omega
theorem Zl8(h:k<s.size)(a:s[k]=34):Zk (bl s) k=match seek 34 ((bl s).drop (k+1))with
  | none=>(⟨5,[],k⟩,(bl s).length)
  | some p=>(if Z3 (((bl s).drop (k+1)).take p)then ⟨3,((bl s).drop (k+1)).take p,k⟩else ⟨5,[],k⟩,k+p+2):=by
 rw[ZjD s k h (by rw[a];decide)];unfold lexC;rw[a];rw[show ZC 34=false by decide,show Zp 34=false by decide];simp only[Yde,if_false,beq_self_eq_true,if_true];rfl
theorem Zx7(h:k<s.size)(c:s[k]=34)(d:k+1+n<s.size)(e:s[k+1+n]=34)(a:34∉((bl s).drop (k+1)).take n)(f:Z3 (((bl s).drop (k+1)).take n)=true):Zk (bl s) k=(⟨3,((bl s).drop (k+1)).take n,k⟩,k+n+2):=by
 rw[Zl8 h c];have g:(((bl s).drop (k+1)).take n).length=n:=by rw[Ya7,Ybv,Zd];omega
 have i:seek 34 ((bl s).drop (k+1))=some n:=by
  rw[<-Ycn n ((bl s).drop (k+1)),Yei,ZdW s (k+1+n) d,e,Zgq 34 _ _ a,g]
 rw[i];simp only[f,if_true]
theorem Zx6(h:k<s.size)(c:s[k]=34)(a:34∉(bl s).drop (k+1)):Zk (bl s) k=(⟨5,[],k⟩,(bl s).length):=by
 rw[Zl8 h c,(Zj9 34 _).2 a]
theorem Zx5(h:k<s.size)(g:s[k]=34)(c:34∉((bl s).drop (k+1)).take n)(d:Z3 (((bl s).drop (k+1)).take n)=false):∃e,Zk (bl s) k=(⟨5,[],k⟩,e):=by
 rw[Zl8 h g];cases i:seek 34 ((bl s).drop (k+1))with
 | none=>exact⟨_,rfl⟩
 | some p=>
  refine⟨k+p+2,?_⟩;obtain⟨a,b,j,q,r⟩:=Ziv i
  have o:n<=p:=by
   by_cases l:n<=p
   ·exact l
   ·exfalso
    apply c;rw[j,List.take_append,Ya5 Om];rw[show n - a.length=(n - a.length - 1)+1 by omega];simp
  have m:Z3 (((bl s).drop (k+1)).take p)=false:=by
   cases f:Z3 (((bl s).drop (k+1)).take p)
   ·rfl
   ·exfalso
    have:((bl s).drop (k+1)).take p=((bl s).drop (k+1)).take n++(((bl s).drop (k+1)).drop n).take (p - n):=by
     rw[<-List.take_add];congr 1;omega
    rw[this]at f;rw[Zxk f]at d;exact Bool.noConfusion d
  simp only[m,Yde,if_false]
def QRel(s:BA)(k n:Nat):Prop:=k+1+n<=s.size/\34∉((bl s).drop (k+1)).take n/\Z3 (((bl s).drop (k+1)).take n)=true
theorem QRel.start(h:k<s.size):QRel s k 0:=⟨by omega,by simp,by rfl⟩
theorem ZkZ(_:k+1+n<=s.size):bl (s.extract (k+1) (k+1+n))=((bl s).drop (k+1)).take n:=by
 rw[Zfh,Yc8];congr 1;omega
theorem QRel.shut{ps:List PTok}(h:QRel s k n)(a:Zct s ps k)(c:k<s.size)(d:s[k]=34)(e:k+1+n<s.size)(f:s[k+1+n]=34):Zct s (ps++[⟨2,k,s.extract (k+1) (k+1+n),0⟩]) (k+1+n+1):=by
 have g:=Zx7 c d e f h.2.1 h.2.2;rw[show k+1+n+1=k+n+2 by omega];exact a.token (t:=⟨3,((bl s).drop (k+1)).take n,k⟩) g (by show ¬((3:Nat)=0∨(3:Nat)=5);decide) ⟨rfl,rfl,ZkZ Om,fun h=>by cases h⟩
theorem QRel.never{ps:List PTok}(h:QRel s k n)(c:Zct s ps k)(d:k<s.size)(e:s[k]=34)(f:¬k+1+n<s.size):Zci (ps++[⟨5,k,⟨#[]⟩,0⟩]) (ZN (bl s) ((bl s).length+1) 0):=by
 have a:34∉(bl s).drop (k+1):=by
  have:=h.2.1
  rwa [Ya5 (by rw[Ybv,Zd];omega)]at this
 exact c.done (t:=⟨5,[],k⟩) (Zx6 d e a) (Or.inr rfl) ⟨rfl,rfl,rfl,fun h=>by cases h⟩
theorem ZC9(a:k+1+n<s.size):((bl s).drop (k+1)).take (n+1)=((bl s).drop (k+1)).take n++[s[k+1+n]]:=by
 rw[List.take_add,Yei,ZdW s (k+1+n) a];rfl
theorem QRel.no(h:QRel s k n)(c:k+1+n<s.size)(d:s[k+1+n]≠34):34∉((bl s).drop (k+1)).take (n+1):=by
 rw[ZC9 c,Yar];rintro(a|a)
 ·exact h.2.1 a
 ·simp at a;exact d a.symm
theorem QRel.bad{ps:List PTok}(h:QRel s k n)(c:Zct s ps k)(d:k<s.size)(f:s[k]=34)(g:k+1+n<s.size)(i:s[k+1+n]≠34)(a:Z3 (bl (s.extract (k+1) (k+1+n+1)))=false):Zci (ps++[⟨5,k,⟨#[]⟩,0⟩]) (ZN (bl s) ((bl s).length+1) 0):=by
 rw[show k+1+n+1=k+1+(n+1) by omega,ZkZ Om]at a;obtain⟨e,j⟩:=Zx5 d f (h.no g i) a;exact c.done (t:=⟨5,[],k⟩) j (Or.inr rfl) ⟨rfl,rfl,rfl,fun h=>by cases h⟩
theorem QRel.go(h:QRel s k n)(c:k+1+n<s.size)(d:s[k+1+n]≠34)(a:Z3 (bl (s.extract (k+1) (k+1+n+1)))=true):QRel s k (n+1):=by
 rw[show k+1+n+1=k+1+(n+1) by omega,ZkZ Om]at a;exact⟨by omega,h.no c d,a⟩
theorem Tryz.infoTok:(Tryz.prog.info? 87).map (fun i=>(i.zero,i.size,i.bytes))=some (some (.agg #[Vi 0,Vi 0,.string ByteArray.empty,Vi 0]),4,40):=by kernel_rfl
theorem Zen{a b c d:Value}{t:TypeId}(e:W.heap.size=n):∀j x,[a,b,c,d][j]?=some x->(W.alloc (.cells #[a,b,c,d] t)).cell? ((⟨n,0,none⟩:Addr).add j)=some x:=by
 intro j x f;subst e;rw[ZfO];have h:=Go.Deep.blk_alloc_new W (.cells #[a,b,c,d] t);simp only[World.cell?,h];simpa using f
theorem Zm2(p:UInt8->Bool):∀l:LB,(l.take (run p l)).all p=true
 | []=>rfl
 | b :: l => by
   unfold run;split
   · rename_i h;simp[h];exact fun x a=>(Ybu.1 (Zm2 p l)) x a
   · rfl
theorem Zin{base:Nat}{e:TypeId}{size:Nat}{xs:List Value}(h:w.ownsRow base e size v n xs):w.ownsRow 0 e size v n xs:=by
 refine⟨h.1,?_⟩;rcases h.2 with a|⟨g,cap,cur,h,_,r⟩
 ·exact Or.inl a
 ·exact Or.inr ⟨g,cap,cur,h,Yag _,r⟩
theorem Zyk(s:BA)(w:World)(hs:s.size<=300) :
  Cq 31 #[.string s] w fun e o=>∃(v:Value) (ps:List PTok),e=.returned v/\o.ownsRow 0 87 4 v ps.length (ZbC ps)/\Hid (Zci ps (ZN (bl s) ((bl s).length+1) 0))/\BW w o:=by
 obtain⟨i0,V,H,I,J⟩:=info_parts Tryz.infoTok;go_enter func31,ntmps31;go_wp2
 go_step3
 go_wp2
 go_step3
 go_wp2
 go_loopg [3,4] s.size (fun gg v3 v4 wr=>∃(ps:List PTok) (k:Nat),gg=s.size - k/\v4=Vi k/\Hid (Zct s ps k)/\wr.ownsRow w.heap.size 87 4 v3 ps.length (ZbC ps)/\Hid (BW w wr))
 case atStart=>exact⟨[],0,rfl,rfl,Zct.start s,Ybc _ _ _ _,Yaf _ _⟩
 case round=>
  obtain⟨ps,k,b5,rfl,O,f,Q⟩:=hrel;have hk:=O.1;have b6:=O.2.1;have K:=Q.size;by_cases G:k<s.size
  ·by_cases a5:s[k]=32
   ·have L:Hid (Zct s ps (k+1)):=O.skip G a5;go_wp2
    go_roundg (s.size - (k+1))
    case measure=>omega
    case rel=>exact⟨ps,k+1,rfl,by go_num,L,f,Q⟩
   ·have c32:((s[k].toNat:Int) == 32)=false:=by
     rw[beq_eq_false_iff_ne];intro e;exact a5 (Ydf.1 (by show s[k].toNat=32;omega))
    cases W:ZC s[k]
    ·have R:Hid (ZC s[k]=false):=W;clear W;cases X:Zp s[k]
     ·have a4:Hid (Zp s[k]=false):=X;clear X;by_cases Z:s[k]=34
      ·have c34:((s[k].toNat:Int) == 34)=true:=by rw[Z];rfl
       have HK:Hid (s[k]=34):=Z;clear Z
       go_wp2_with fail
       refine(Zdk).mono ?_;rintro e o ⟨rfl,rfl⟩;rw[R.out]
       go_wp2_with fail
       refine(Zd2).mono ?_;rintro e wq ⟨rfl,rfl⟩;rw[a4.out];go_wp2;obtain⟨L3,b0⟩:∃L3,L3=u3:=⟨_,rfl⟩
       go_loopg [3,4,10] (s.size - (k+1)) (fun gi x3 x4 v10 wi=>∃n:Nat,x3=L3/\x4=Vi (k:Int)/\gi=s.size - (k+1+n)/\v10=Vi ((k+1+n:Nat):Int)/\Hid (QRel s k n)/\wi=wq)
       case atStart=>exact⟨0,b0.symm,rfl,rfl,by go_num,QRel.start G,rfl⟩
       case round=>
        obtain⟨n,e3,rfl,b7,rfl,HQ,rfl⟩:=hrel;subst e3;subst b0;have hn:=HQ.1;by_cases Y:k+1+n<s.size
        ·by_cases B:s[k+1+n]=34
         ·have cE:((s[k+1+n].toNat:Int) == 34)=true:=by rw[B];rfl
          have L:Hid (Zct s (ps++[⟨2,k,s.extract (k+1) (k+1+n),0⟩]) (k+1+n+1)):=HQ.shut O.out G HK.out Y B;clear B
          go_wp2_with (at_builtin;refine wpList_append_own _ rfl (.tmp 103) (.tmp 111) 79 rfl w.heap.size 87 i0 (.agg #[Vi 0,Vi 0,.string ByteArray.empty,Vi 0]) 4 40 underlying79 V H I J rfl Dc _ _ _ rfl (f.alloc _) ⟨wr.heap.size,0,none⟩ 1 1 [Vi 2,Vi k,.string (s.extract (k+1) (k+1+n)),Vi 0] rfl rfl ?c1 ?c2 ?c3 ?c4 ?c5 ?_)
          case c1=>exact Zen rfl
          case c2=>intro u y;simp at y;rcases y with rfl|rfl|rfl|rfl <;> rfl
          case c3=>unfold maxLen;omega
          case c4=>omega
          case c5=>simp;omega
          intro v' z a c _;have A:Hid (BW w z):=hid ((Q.alloc K _).grown c (by simp;omega) (fun q D=>(f.lt q D).1))
          have i:z.ownsRow w.heap.size 87 4 v' (ps++[(⟨2,k,s.extract (k+1) (k+1+n),0⟩:PTok)]).length (ZbC (ps++[(⟨2,k,s.extract (k+1) (k+1+n),0⟩:PTok)])):=by
           rw[Zer,Yab];exact a
          clear a c f;go_wp2
          go_roundg (s.size - (k+1+n+1))
          case measure=>omega
          case rel=>exact⟨_,k+1+n+1,rfl,by first|rfl|go_num,L,i,A⟩
         ·have cE:((s[k+1+n].toNat:Int) == 34)=false:=by
           rw[beq_eq_false_iff_ne];intro e;exact B (Ydf.1 (by show s[k+1+n].toNat=34;omega))
          have a6:(s.extract (k+1) (k+1+n+1)).size<=6000:=by simp;omega
          obtain⟨sx,C⟩:∃sx,sx=s.extract (k+1) (k+1+n+1):=⟨_,rfl⟩
          have M:Hid (sx=s.extract (k+1) (k+1+n+1)):=C;rw[<-C]at a6;cases hw:Z3 (bl sx)
          ·have S:Hid (Zci (ps++[⟨5,k,⟨#[]⟩,0⟩]) (ZN (bl s) ((bl s).length+1) 0)):=HQ.bad O.out G HK.out Y B (by rw[<-C];exact hw);have HW:Hid (Z3 (bl sx)=false):=hw;clear B hw C
           go_wp2_with fail
           rw[<-M.out];refine(Znw sx _ a6).mono ?_;rintro e wq ⟨rfl,rfl⟩;rw[HW.out]
           go_wp2_with (at_builtin;refine wpList_append_own _ rfl (.tmp 127) (.tmp 130) 79 rfl w.heap.size 87 i0 (.agg #[Vi 0,Vi 0,.string ByteArray.empty,Vi 0]) 4 40 underlying79 V H I J rfl Dc _ _ _ rfl (f.alloc _) ⟨wq.heap.size,0,none⟩ 1 1 [Vi 5,Vi k,.string ⟨#[]⟩,Vi 0] rfl rfl ?c1 ?c2 ?c3 ?c4 ?c5 ?_)
           case c1=>exact Zen rfl
           case c2=>intro u y;simp at y;rcases y with rfl|rfl|rfl|rfl <;> rfl
           case c3=>unfold maxLen;omega
           case c4=>omega
           case c5=>simp;omega
           intro v' z a c _;have A:Hid (BW w z):=hid ((Q.alloc K _).grown c (by simp;omega) (fun q D=>(f.lt q D).1))
           have i:z.ownsRow w.heap.size 87 4 v' (ps++[(⟨5,k,⟨#[]⟩,0⟩:PTok)]).length (ZbC (ps++[(⟨5,k,⟨#[]⟩,0⟩:PTok)])):=by
            rw[Zer,Yab];exact a
           clear a c f;go_wp2
           try rw[Ycl]
           go_ret;exact⟨_,_,rfl,Zin i,S,A.out⟩
          ·have b1:Hid (QRel s k (n+1)):=HQ.go Y B (by rw[<-C];exact hw);have HW:Hid (Z3 (bl sx)=true):=hw;clear B hw C
           go_wp2_with fail
           rw[<-M.out];refine(Znw sx _ a6).mono ?_;rintro e wq ⟨rfl,rfl⟩;rw[HW.out];go_wp2
           go_roundg (s.size - (k+1+(n+1)))
           case measure=>omega
           case rel=>exact⟨n+1,rfl,rfl,rfl,by go_num,b1,rfl⟩
        ·have S:Hid (Zci (ps++[⟨5,k,⟨#[]⟩,0⟩]) (ZN (bl s) ((bl s).length+1) 0)):=HQ.never O.out G HK.out Y
         go_wp2_with (at_builtin;refine wpList_append_own _ rfl (.tmp 127) (.tmp 130) 79 rfl w.heap.size 87 i0 (.agg #[Vi 0,Vi 0,.string ByteArray.empty,Vi 0]) 4 40 underlying79 V H I J rfl Dc _ _ _ rfl (f.alloc _) ⟨wr.heap.size,0,none⟩ 1 1 [Vi 5,Vi k,.string ⟨#[]⟩,Vi 0] rfl rfl ?c1 ?c2 ?c3 ?c4 ?c5 ?_)
         case c1=>exact Zen rfl
         case c2=>intro u y;simp at y;rcases y with rfl|rfl|rfl|rfl <;> rfl
         case c3=>unfold maxLen;omega
         case c4=>omega
         case c5=>simp;omega
         intro v' z a c _;have A:Hid (BW w z):=hid ((Q.alloc K _).grown c (by simp;omega) (fun q D=>(f.lt q D).1))
         have i:z.ownsRow w.heap.size 87 4 v' (ps++[(⟨5,k,⟨#[]⟩,0⟩:PTok)]).length (ZbC (ps++[(⟨5,k,⟨#[]⟩,0⟩:PTok)])):=by
          rw[Zer,Yab];exact a
         clear a c f;go_wp2
         try rw[Ycl]
         go_ret;exact⟨_,_,rfl,Zin i,S,A.out⟩
      ·have c34:((s[k].toNat:Int) == 34)=false:=by
        rw[beq_eq_false_iff_ne];intro e;exact Z (Ydf.1 (by show s[k].toNat=34;omega))
       have j:=Zx4 G a5 R.out a4.out Z;obtain⟨m,hm⟩:∃m,m=Zfs s[k] ((bl s).drop (k+1)):=⟨_,rfl⟩
       rw[<-hm]at j;have HM:Hid (m=Zfs s[k] ((bl s).drop (k+1))):=hm;clear hm;by_cases a0:m=[]
       ·rw[if_pos a0]at j;have S:Hid (Zci (ps++[⟨5,k,⟨#[]⟩,0⟩]) (ZN (bl s) ((bl s).length+1) 0)):=hid (O.done (t:=⟨5,[],k⟩) j (Or.inr rfl) ⟨rfl,rfl,rfl,fun h=>by cases h⟩);clear j
        go_wp2_with fail
        refine(Zdk).mono ?_;rintro e o ⟨rfl,rfl⟩;rw[R.out]
        go_wp2_with fail
        refine(Zd2).mono ?_;rintro e o ⟨rfl,rfl⟩;rw[a4.out]
        go_wp2_with fail
        refine(ZqU s k Om G).mono ?_;rintro e o ⟨x,rfl,P,rfl⟩;have hx:bl x=[]:=by rw[P.out,<-HM.out];exact a0
        obtain rfl:x=⟨#[]⟩:=by
         cases x with|mk d=>cases d with|mk l=>simp[bl]at hx;subst hx;rfl
        clear hx P
        go_wp2_with (at_builtin;refine wpList_append_own _ rfl (.tmp 127) (.tmp 130) 79 rfl w.heap.size 87 i0 (.agg #[Vi 0,Vi 0,.string ByteArray.empty,Vi 0]) 4 40 underlying79 V H I J rfl Dc _ _ _ rfl (f.alloc _) ⟨o.heap.size,0,none⟩ 1 1 [Vi 5,Vi k,.string ⟨#[]⟩,Vi 0] rfl rfl ?c1 ?c2 ?c3 ?c4 ?c5 ?_)
        case c1=>exact Zen rfl
        case c2=>intro u y;simp at y;rcases y with rfl|rfl|rfl|rfl <;> rfl
        case c3=>unfold maxLen;omega
        case c4=>omega
        case c5=>simp;omega
        intro v' z a c _;have A:Hid (BW w z):=hid ((Q.alloc K _).grown c (by simp;omega) (fun q D=>(f.lt q D).1))
        have i:z.ownsRow w.heap.size 87 4 v' (ps++[(⟨5,k,⟨#[]⟩,0⟩:PTok)]).length (ZbC (ps++[(⟨5,k,⟨#[]⟩,0⟩:PTok)])):=by
         rw[Zer,Yab];exact a
        clear a c f;go_wp2
        try rw[Ycl]
        go_ret;exact⟨_,_,rfl,Zin i,S,A.out⟩
       ·rw[if_neg a0]at j
        go_wp2_with fail
        refine(Zdk).mono ?_;rintro e o ⟨rfl,rfl⟩;rw[R.out]
        go_wp2_with fail
        refine(Zd2).mono ?_;rintro e o ⟨rfl,rfl⟩;rw[a4.out]
        go_wp2_with fail
        refine(ZqU s k Om G).mono ?_;rintro e o ⟨x,rfl,P,rfl⟩;have hx:bl x=m:=by rw[P.out,<-HM.out]
        rw[<-hx]at j
        have L:Hid (Zct s (ps++[⟨3,k,x,0⟩]) (k+x.size)):=hid (by
         have:=O.token (p:=⟨3,k,x,0⟩) j (by show ¬((4:Nat)=0∨(4:Nat)=5);decide) ⟨rfl,rfl,rfl,fun h=>by cases h⟩
         rwa [Zd]at this)
        have b8:0<x.size:=by rw[<-Zd,hx];exact Ycj.2 a0
        have b9:x.toList.isEmpty=false:=by
         rw[Zbt,hx];cases m with
         | nil=>exact absurd rfl a0
         | cons=>rfl
        have c0:=L.1;clear hx P j
        go_wp2_with (at_builtin;refine wpList_append_own _ rfl (.tmp 24) (.tmp 28) 79 rfl w.heap.size 87 i0 (.agg #[Vi 0,Vi 0,.string ByteArray.empty,Vi 0]) 4 40 underlying79 V H I J rfl Dc _ _ _ rfl (f.alloc _) ⟨o.heap.size,0,none⟩ 1 1 [Vi 3,Vi k,.string x,Vi 0] rfl rfl ?c1 ?c2 ?c3 ?c4 ?c5 ?_)
        case c1=>exact Zen rfl
        case c2=>intro u y;simp at y;rcases y with rfl|rfl|rfl|rfl <;> rfl
        case c3=>unfold maxLen;omega
        case c4=>omega
        case c5=>simp;omega
        intro v' z a c _;have A:Hid (BW w z):=hid ((Q.alloc K _).grown c (by simp;omega) (fun q D=>(f.lt q D).1))
        have i:z.ownsRow w.heap.size 87 4 v' (ps++[(⟨3,k,x,0⟩:PTok)]).length (ZbC (ps++[(⟨3,k,x,0⟩:PTok)])):=by
         rw[Zer,Yab];exact a
        clear a c f;go_wp2
        go_roundg (s.size - (k+x.size))
        case measure=>omega
        case rel=>exact⟨_,k+x.size,rfl,by first|rfl|go_num,L,i,A⟩
     ·obtain⟨E,B⟩:∃E,E=k+run Zp ((bl s).drop k):=⟨_,rfl⟩
      have T:Hid (∀w,Cq 59 #[.string s,Vi k,.func (.func 61) #[] #[]] w fun e o=>e=.returned (Vi (E:Int))/\o=w):=hid (fun w=>by rw[B];exact ZBD s k w Om hk);have a1:0<run Zp ((bl s).drop k):=by rw[Zj5 s k G X];omega
      have U:=Zg6 Zp ((bl s).drop k);rw[Ybv,Zd]at U;have b2:k<E:=by omega
      have b3:E<=s.size:=by omega
      have P:Hid (bl (s.extract k E)=((bl s).drop k).take (run Zp ((bl s).drop k))):=hid (by rw[Zfh,Yc8,B];congr 1;omega);have j:=Zx3 G R.out X;rw[<-P.out,<-B]at j;have C:(s.extract k E).size=run Zp ((bl s).drop k):=by rw[ZU P.out,Ya7,Ybv,Zd];omega
      have a2:Hid (Zx (bl (s.extract k E))=decide (run Zp ((bl s).drop k)<=8)):=hid (by
       unfold Zx;rw[P.out,Zm2,Ya7,Ybv,Zd];rw[Yc3 Om];by_cases h8:run Zp ((bl s).drop k)<=8
       ·simp[h8];omega
       ·simp[h8];omega)
      have a3:(s.extract k E).size<=6000:=by omega
      obtain⟨sx,F⟩:∃sx,sx=s.extract k E:=⟨_,rfl⟩
      rw[<-F]at j a3 a2;have M:Hid (sx=s.extract k E):=F;by_cases h8:8<run Zp ((bl s).drop k)
      ·rw[if_pos h8]at j;have S:Hid (Zci (ps++[⟨5,k,⟨#[]⟩,0⟩]) (ZN (bl s) ((bl s).length+1) 0)):=hid (O.done (t:=⟨5,[],k⟩) (e:=E) j (Or.inr rfl) ⟨rfl,rfl,rfl,fun h=>by cases h⟩);have a7:Hid (Zx (bl sx)=false):=hid (by rw[a2.out];exact decide_eq_false Om);clear j B F a1 U h8 C P a2
       go_wp2_with fail
       refine(Zdk).mono ?_;rintro e o ⟨rfl,rfl⟩;rw[R.out]
       go_wp2_with fail
       refine(Zd2).mono ?_;rintro e o ⟨rfl,rfl⟩;rw[X]
       go_wp2_with fail
       refine(T.out _).mono ?_;rintro e o ⟨rfl,rfl⟩
       go_wp2_with fail
       rw[<-M.out];refine(Znv sx _ a3).mono ?_;rintro e o ⟨rfl,rfl⟩;rw[a7.out]
       go_wp2_with (at_builtin;refine wpList_append_own _ rfl (.tmp 127) (.tmp 130) 79 rfl w.heap.size 87 i0 (.agg #[Vi 0,Vi 0,.string ByteArray.empty,Vi 0]) 4 40 underlying79 V H I J rfl Dc _ _ _ rfl (f.alloc _) ⟨o.heap.size,0,none⟩ 1 1 [Vi 5,Vi k,.string ⟨#[]⟩,Vi 0] rfl rfl ?c1 ?c2 ?c3 ?c4 ?c5 ?_)
       case c1=>exact Zen rfl
       case c2=>intro u y;simp at y;rcases y with rfl|rfl|rfl|rfl <;> rfl
       case c3=>unfold maxLen;omega
       case c4=>omega
       case c5=>simp;omega
       intro v' z a c _;have A:Hid (BW w z):=hid ((Q.alloc K _).grown c (by simp;omega) (fun q D=>(f.lt q D).1))
       have i:z.ownsRow w.heap.size 87 4 v' (ps++[(⟨5,k,⟨#[]⟩,0⟩:PTok)]).length (ZbC (ps++[(⟨5,k,⟨#[]⟩,0⟩:PTok)])):=by
        rw[Zer,Yab];exact a
       clear a c f;go_wp2
       try rw[Ycl]
       go_ret;exact⟨_,_,rfl,Zin i,S,A.out⟩
      ·rw[if_neg h8]at j;have L:Hid (Zct s (ps++[⟨1,k,sx,0⟩]) E):=O.token (t:=⟨2,bl sx,k⟩) j (by show ¬((2:Nat)=0∨(2:Nat)=5);decide) ⟨rfl,rfl,rfl,fun h=>by cases h⟩;have a7:Hid (Zx (bl sx)=true):=hid (by rw[a2.out];exact decide_eq_true Om);clear j B F a1 U h8 C P a2
       go_wp2_with fail
       refine(Zdk).mono ?_;rintro e o ⟨rfl,rfl⟩;rw[R.out]
       go_wp2_with fail
       refine(Zd2).mono ?_;rintro e o ⟨rfl,rfl⟩;rw[X]
       go_wp2_with fail
       refine(T.out _).mono ?_;rintro e o ⟨rfl,rfl⟩
       go_wp2_with fail
       rw[<-M.out];refine(Znv sx _ a3).mono ?_;rintro e o ⟨rfl,rfl⟩;rw[a7.out]
       go_wp2_with (at_builtin;refine wpList_append_own _ rfl (.tmp 78) (.tmp 85) 79 rfl w.heap.size 87 i0 (.agg #[Vi 0,Vi 0,.string ByteArray.empty,Vi 0]) 4 40 underlying79 V H I J rfl Dc _ _ _ rfl (f.alloc _) ⟨o.heap.size,0,none⟩ 1 1 [Vi 1,Vi k,.string (s.extract k E),Vi 0] rfl rfl ?c1 ?c2 ?c3 ?c4 ?c5 ?_)
       case c1=>exact Zen rfl
       case c2=>intro u y;simp at y;rcases y with rfl|rfl|rfl|rfl <;> rfl
       case c3=>unfold maxLen;omega
       case c4=>omega
       case c5=>simp;omega
       intro v' z a c _;have A:Hid (BW w z):=hid ((Q.alloc K _).grown c (by simp;omega) (fun q D=>(f.lt q D).1))
       have i:z.ownsRow w.heap.size 87 4 v' (ps++[(⟨1,k,sx,0⟩:PTok)]).length (ZbC (ps++[(⟨1,k,sx,0⟩:PTok)])):=by
        rw[Zer,Yab,M.out];exact a
       clear a c f;go_wp2
       go_roundg (s.size - E)
       case measure=>omega
       case rel=>exact⟨_,E,rfl,by first|rfl|go_num,L,i,A⟩
    ·obtain⟨E,B⟩:∃E,E=k+run ZC ((bl s).drop k):=⟨_,rfl⟩
     have T:Hid (∀w,Cq 59 #[.string s,Vi k,.func (.func 58) #[] #[]] w fun e o=>e=.returned (Vi (E:Int))/\o=w):=hid (fun w=>by rw[B];exact ZBB s k w Om hk);have a1:0<run ZC ((bl s).drop k):=by rw[Zj5 s k G W];omega
     have U:=Zg6 ZC ((bl s).drop k);rw[Ybv,Zd]at U;have b2:k<E:=by omega
     have b3:E<=s.size:=by omega
     have P:Hid (bl (s.extract k E)=((bl s).drop k).take (run ZC ((bl s).drop k))):=hid (by rw[Zfh,Yc8,B];congr 1;omega);have j:=Zx2 G W;rw[<-P.out,<-B]at j;have C:(s.extract k E).size<=6000:=by simp;omega
     obtain⟨sx,F⟩:∃sx,sx=s.extract k E:=⟨_,rfl⟩
     rw[<-F]at j C;have M:Hid (sx=s.extract k E):=F;cases N:ZQ 1000000000 (bl sx)with
     | none=>
      rw[N]at j;have S:Hid (Zci (ps++[⟨5,k,⟨#[]⟩,0⟩]) (ZN (bl s) ((bl s).length+1) 0)):=hid (O.done (t:=⟨5,[],k⟩) (e:=E) j (Or.inr rfl) ⟨rfl,rfl,rfl,fun h=>by cases h⟩);have a8:Hid (numT 1000000000 (bl sx)=.tuple #[Vi 0,.bool false]):=Zgg N;clear N j B F a1 U
      go_wp2_with fail
      refine(Zdk).mono ?_;rintro e o ⟨rfl,rfl⟩;rw[W]
      go_wp2_with fail
      refine(T.out _).mono ?_;rintro e o ⟨rfl,rfl⟩
      go_wp2_with fail
      rw[<-M.out];refine(Zkv sx 1000000000 _ C Dc Dc).mono ?_;rintro e o ⟨rfl,rfl⟩;rw[a8.out]
      go_wp2_with (at_builtin;refine wpList_append_own _ rfl (.tmp 127) (.tmp 130) 79 rfl w.heap.size 87 i0 (.agg #[Vi 0,Vi 0,.string ByteArray.empty,Vi 0]) 4 40 underlying79 V H I J rfl Dc _ _ _ rfl (f.alloc _) ⟨o.heap.size,0,none⟩ 1 1 [Vi 5,Vi k,.string ⟨#[]⟩,Vi 0] rfl rfl ?c1 ?c2 ?c3 ?c4 ?c5 ?_)
      case c1=>exact Zen rfl
      case c2=>intro u y;simp at y;rcases y with rfl|rfl|rfl|rfl <;> rfl
      case c3=>unfold maxLen;omega
      case c4=>omega
      case c5=>simp;omega
      intro v' z a c _;have A:Hid (BW w z):=hid ((Q.alloc K _).grown c (by simp;omega) (fun q D=>(f.lt q D).1))
      have i:z.ownsRow w.heap.size 87 4 v' (ps++[(⟨5,k,⟨#[]⟩,0⟩:PTok)]).length (ZbC (ps++[(⟨5,k,⟨#[]⟩,0⟩:PTok)])):=by
       rw[Zer,Yab];exact a
      clear a c f;go_wp2
      try rw[Ycl]
      go_ret;exact⟨_,_,rfl,Zin i,S,A.out⟩
     | some v=>
      rw[N]at j;have L:Hid (Zct s (ps++[⟨0,k,sx,v⟩]) E):=O.token (t:=⟨1,bl sx,k⟩) j (by show ¬((1:Nat)=0∨(1:Nat)=5);decide) ⟨rfl,rfl,rfl,fun _=>by unfold numV;rw[N];rfl⟩;have a8:Hid (numT 1000000000 (bl sx)=.tuple #[Vi v,.bool true]):=ZjO N;clear N j B F a1 U
      go_wp2_with fail
      refine(Zdk).mono ?_;rintro e o ⟨rfl,rfl⟩;rw[W]
      go_wp2_with fail
      refine(T.out _).mono ?_;rintro e o ⟨rfl,rfl⟩
      go_wp2_with fail
      rw[<-M.out];refine(Zkv sx 1000000000 _ C Dc Dc).mono ?_;rintro e o ⟨rfl,rfl⟩;rw[a8.out]
      go_wp2_with (at_builtin;refine wpList_append_own _ rfl (.tmp 55) (.tmp 63) 79 rfl w.heap.size 87 i0 (.agg #[Vi 0,Vi 0,.string ByteArray.empty,Vi 0]) 4 40 underlying79 V H I J rfl Dc _ _ _ rfl (f.alloc _) ⟨o.heap.size,0,none⟩ 1 1 [Vi 0,Vi k,.string (s.extract k E),Vi v] rfl rfl ?c1 ?c2 ?c3 ?c4 ?c5 ?_)
      case c1=>exact Zen rfl
      case c2=>intro u y;simp at y;rcases y with rfl|rfl|rfl|rfl <;> rfl
      case c3=>unfold maxLen;omega
      case c4=>omega
      case c5=>simp;omega
      intro v' z a c _;have A:Hid (BW w z):=hid ((Q.alloc K _).grown c (by simp;omega) (fun q D=>(f.lt q D).1))
      have i:z.ownsRow w.heap.size 87 4 v' (ps++[(⟨0,k,sx,v⟩:PTok)]).length (ZbC (ps++[(⟨0,k,sx,v⟩:PTok)])):=by
       rw[Zer,Yab,M.out];exact a
      clear a c f;go_wp2
      go_roundg (s.size - E)
      case measure=>omega
      case rel=>exact⟨_,E,rfl,by first|rfl|go_num,L,i,A⟩
  ·have a9:k=s.size:=by omega
   have S:Hid (Zci (ps++[⟨4,k,⟨#[]⟩,0⟩]) (ZN (bl s) ((bl s).length+1) 0)):=hid (by
    exact O.done (t:=⟨0,[],s.size⟩) (e:=s.size) (by rw[a9];exact ZqF s) (Or.inl rfl) ⟨rfl,a9,rfl,fun h=>by cases h⟩)
   clear a9
   go_wp2_with (at_builtin;refine wpList_append_own _ rfl (.tmp 132) (.tmp 135) 79 rfl w.heap.size 87 i0 (.agg #[Vi 0,Vi 0,.string ByteArray.empty,Vi 0]) 4 40 underlying79 V H I J rfl Dc _ _ _ rfl (f.alloc _) ⟨wr.heap.size,0,none⟩ 1 1 [Vi 4,Vi k,.string ⟨#[]⟩,Vi 0] rfl rfl ?c1 ?c2 ?c3 ?c4 ?c5 ?_)
   case c1=>exact Zen rfl
   case c2=>intro u y;simp at y;rcases y with rfl|rfl|rfl|rfl <;> rfl
   case c3=>unfold maxLen;omega
   case c4=>omega
   case c5=>simp;omega
   intro v' z a c _;have A:Hid (BW w z):=hid ((Q.alloc K _).grown c (by simp;omega) (fun q D=>(f.lt q D).1))
   have b4:Hid (z.ownsRow 0 87 4 v' (ps++[(⟨4,k,⟨#[]⟩,0⟩:PTok)]).length (ZbC (ps++[(⟨4,k,⟨#[]⟩,0⟩:PTok)]))):=hid (by
    rw[Zer,Yab];refine⟨a.1,?_⟩;rcases a.2 with h2|⟨g,cap,cur,h,_,r⟩
    ·exact Or.inl h2
    ·exact Or.inr ⟨g,cap,cur,h,Yag _,r⟩)
   clear a c f;go_wp2
   try rw[Ycl]
   go_ret;exact⟨_,_,rfl,b4.out,S,A.out⟩
theorem ZfJ(a:k≠2)(c:k≠4)(d:k<=5):Zdt ⟨k,x,j⟩/\(⟨k,x,j⟩:Tok).jx<=5:=⟨⟨fun h=>absurd h a,fun h=>absurd h c⟩,d⟩
theorem ZEG(h:x.all Zp=true):Zdt ⟨2,x,j⟩/\(⟨2,x,j⟩:Tok).jx<=5:=⟨⟨fun _=>h,fun h=>absurd (show(2:Nat)=4 from h) Dc⟩,by show(2:Nat)<=5;decide⟩
theorem Zs7(h:x.all (fun c=>!Zp c)=true):Zdt ⟨4,x,j⟩/\(⟨4,x,j⟩:Tok).jx<=5:=⟨⟨fun h=>absurd (show(4:Nat)=2 from h) Dc,fun _=>h⟩,by show(4:Nat)<=5;decide⟩
theorem Zyi{r:LB}:Zdt (lexC l j c r).1/\(lexC l j c r).1.jx<=5:=by
 unfold lexC;split
 ·split
  ·exact ZfJ Dc Dc Dc
  ·exact ZfJ Dc Dc Dc
 ·rename_i hd;split
  ·split
   ·exact ZfJ Dc Dc Dc
   ·exact ZEG (Zm2 Zp _)
  ·rename_i a;split
   ·split
    ·exact ZfJ Dc Dc Dc
    ·split
     ·exact ZfJ Dc Dc Dc
     ·exact ZfJ Dc Dc Dc
   ·split
    ·exact Zs7 Dc
    ·split
     ·refine Zs7 ?_;show([c].all fun c=>!Zp c)=true;have:Zp c=false:=Yce.2 a;simp[this]
     ·exact ZfJ Dc Dc Dc
theorem Zyd(l:LB)(i:Nat):Zdt (Zk l i).1/\(Zk l i).1.jx<=5:=by
 unfold Zk lexJ;split
 ·exact ZfJ Dc Dc Dc
 ·exact Zyi
theorem ZsQ(l:LB):∀(n i:Nat),i<=l.length->l.length+1<=n+i->ZeQ (ZN l n i)
 | 0,i,a,c=>absurd c Om
 | n + 1, i, a, c => by
   show ZeQ (if (Zk l i).1.jx=0∨(Zk l i).1.jx=5 then [(Zk l i).1] else (Zk l i).1::ZN l n (Zk l i).2);by_cases h:(Zk l i).1.jx=0∨(Zk l i).1.jx=5
   · rw[if_pos h];exact h
   · rw[if_neg h]
     have d:=Zig l i a;have f:=Zyd l i;have ih:=ZsQ l n (Zk l i).2 d.2 (by have:=d.1 (fun e=>h (Or.inl e));omega);cases g:ZN l n (Zk l i).2 with
     | nil=>rw[g]at ih;exact ih.elim
     | cons u m=>
       rw[g]at ih;exact⟨by have:=f.2;omega,f.1,ih⟩
theorem Zt3{b:Nat}(h:w.grownBy w' (some b))(a:B<=b)(c:B<=w.heap.size):Below B w w':=
 ⟨h.os,h.tape,h.output,h.size,fun j d=>h.block j Om (fun e=>by injection e with e;omega)⟩
def RdIs(w:World)(lg sy dp tp:Addr)(r:Except (Nat×Nat) Tr)(pv v:Value):Prop:=match r with
 | .ok t=>v=.nilIface/\Zh w t pv
 | .error x=>(x=(1,0)/\v=.iface 389 (.pointer (some lg)))∨(x=(4,0)/\v=.iface 389 (.pointer (some tp)))∨(x.1=2/\ZM w v x.2 sy)∨(x.1=3/\ZM w v x.2 dp)
theorem RdIs.error{x:Nat×Nat}(a:r=.error x)(h:(x=(1,0)/\v=.iface 389 (.pointer (some lg)))∨(x=(4,0)/\v=.iface 389 (.pointer (some tp)))∨(x.1=2/\ZM w v x.2 sy)∨(x.1=3/\ZM w v x.2 dp)):RdIs w lg sy dp tp r pv v:=by subst a;exact h
theorem RdIs.fine{t:Tr}(a:r=.ok t)(h:v=.nilIface/\Zh w t pv):RdIs w lg sy dp tp r pv v:=by subst a;exact h
structure Sents (w:World) (lg sy dp tp:Addr):Prop where
 lg:w.cell? ⟨0,0,none⟩=some (.iface 389 (.pointer (some lg)))
 sy:w.cell? ⟨1,0,none⟩=some (.iface 389 (.pointer (some sy)))
 dp:w.cell? ⟨2,0,none⟩=some (.iface 389 (.pointer (some dp)))
 tp:w.cell? ⟨3,0,none⟩=some (.iface 389 (.pointer (some tp)))
theorem Sents.below(h:Sents w lg sy dp tp)(a:BW w w'):Sents w' lg sy dp tp:=
 ⟨(a.cell (p:=⟨_,0,none⟩) (Yai _ _ h.lg)).trans h.lg,(a.cell (p:=⟨_,0,none⟩) (Yai _ _ h.sy)).trans h.sy,(a.cell (p:=⟨_,0,none⟩) (Yai _ _ h.dp)).trans h.dp,(a.cell (p:=⟨_,0,none⟩) (Yai _ _ h.tp)).trans h.tp⟩
theorem Ziu(s:BA)(w:World)(b1:s.size<=9223372036854775807)(J:Sents w lg sy dp tp) :
  Cq 19 #[.string s] w fun e w'=>∃pv v:Value,e=.returned (.tuple #[pv,v])/\Hid (RdIs w' lg sy dp tp (ZD (bl s)) pv v)/\BW w w':=by
 by_cases hl:300<s.size
 ·have HR:Hid (ZD (bl s)=.error (1,0)):=hid (by unfold ZD;rw[Zd,if_pos hl]);have hd:(300:Int)<s.size:=by omega
  have b2:=J.lg;clear J;go_enter func19,ntmps19;go_wp2
  go_region
  all_goals
   go_wp2;go_ret2;exact⟨_,_,rfl,RdIs.error HR.out (Or.inl ⟨rfl,rfl⟩),belB⟩
 ·have a1:s.size<=300:=by omega
  have hd:¬((300:Int)<s.size):=by omega
  obtain⟨ts,h⟩:∃ts,ts=ZN (bl s) ((bl s).length+1) 0:=⟨_,rfl⟩
  have a2:Hid (ts.length<=301):=hid (by
   have:=ZjB (bl s) ((bl s).length+1) 0 (Yag _);rw[<-h,Zd]at this;omega)
  have L:Hid (ZeQ ts):=hid (by rw[h];exact ZsQ _ _ _ (Yag _) Om)
  have q:Hid (ZD (bl s)=match Zs (10*ts.length+5) false 0 .nil ts 0 with
   | .error e=>.error e
   | .ok (t,r)=>if (LS.hd r).jx=0 then (if Zf t=0 then .error (4,0)else .ok t)else .error (2,(LS.hd r).at_)):=hid (by
   unfold ZD;rw[Zd,if_neg hl,<-Zd,<-h];cases Zs (10*ts.length+5) false 0 .nil ts 0 with
   | error e=>rfl
   | ok x=>rfl)
  have HS:Hid (Sents w lg sy dp tp):=J;have a3:Hid (ts=ZN (bl s) ((bl s).length+1) 0):=h;clear h J hl;go_enter func19,ntmps19
  go_wp2_with fail
  refine(Zyk s w a1).mono ?_;rintro e y ⟨v,ps,rfl,l,d,A⟩;rw[<-a3.out]at d;have M:Hid (ps.length=ts.length):=d.length;have N:0<ps.length:=by rw[M.out];exact L.head.2.1
  obtain⟨g,cp,rfl⟩:=ZF l N;have O:Hid (y.ownsRow 0 87 4 (.slice (some ⟨g,0,none⟩) ps.length cp) ps.length (ZbC ps)):=l;have m:Hid (BW w y):=A;have P:Hid (Sents y lg sy dp tp):=HS.below A;clear l A
  go_wp2_with fail
  refine Zm fun W K=>?_;have n:BW y W:=by rw[K];exact Zbal
  have a4:Hid (BW w W):=m.trans (n.mono m.size);have Q:Hid (Sents W lg sy dp tp):=P.below n;have HK:Hid (RK W ⟨y.heap.size,g,cp,ps,sy,dp⟩ 0 ts):=hid ⟨⟨by rw[K];exact Go.Deep.blk_alloc_new _ _,Zn O.out n,N⟩,d.out,L.out,by show ps.length<=302;rw[M.out];have:=a2.out;omega,Q.sy,Q.dp⟩;have b3:y.heap.size<W.heap.size:=by rw[K];simp
  have a5:w.heap.size<=y.heap.size:=m.size;clear K n O d P m;refine((ZnQ (10*ts.length+5)).1 0 Dc (10*ts.length+5) (Yac _) W ⟨y.heap.size,g,cp,ps,sy,dp⟩ 0 ts 0 HK.out Dc (by show 10*ts.length+5<=10*ts.length+5+0;omega)).mono ?_;rintro e z ⟨pv,v,rfl,a6,f,R⟩;have S:Below w.heap.size W z:=Zt3 R a5 Om;have i:Hid (BW w z):=a4.trans S;have b4:Hid (Sents z lg sy dp tp):=HS.below i.out;clear R S;cases a:Zs (10*ts.length+5) false 0 .nil ts 0 with
  | error er=>
   have B:=hid (f.err a);obtain⟨fa,rfl⟩:=B.shape;have a7:Hid (ZD (bl s)=.error er):=hid (by rw[q.out,a]);clear f a;go_wp2;go_ret2;exact⟨_,_,rfl,RdIs.error a7.out (Or.inr (Or.inr B.out)),i.out⟩
  | ok pr=>
   obtain⟨t,r⟩:=pr;obtain⟨rfl,⟨k2,T⟩,C⟩:=f.good a;have D:Hid (RK z ⟨y.heap.size,g,cp,ps,sy,dp⟩ k2 r):=T;have U:Hid (Zh z t pv):=C;have E:Hid (ZD (bl s)=if (LS.hd r).jx=0 then (if Zf t=0 then .error (4,0)else .ok t)else .error (2,(LS.hd r).at_)):=hid (by rw[q.out,a]);obtain⟨ty,u,a8⟩:=Zh.shape C;subst a8;clear f a T C a6 q
   go_wp2_with fail
   refine(Zee D.out).mono ?_;rintro e w3 ⟨⟨kd,at_,tx,tv⟩,rfl,ht,o⟩;have j:Hid (BW w w3):=i.trans (o.mono i.size);have V:=hid (D.below o);have X:Hid (Zh w3 t (.iface ty u)):=U.below o;clear o i D U;have p:=Ze0 V.wf.head.2.2;by_cases c:(LS.hd r).jx=0
   ·have Y:kd=4:=by have:=ht.1;simp only at this;rw[this,p.2.2.2.2.2 c]
    subst Y;have F:Hid (ZD (bl s)=if Zf t=0 then .error (4,0)else .ok t):=hid (by rw[E.out,if_pos c]);have hf:∀W:World,(Instr.field 87 (.agg #[Vi 4,Vi at_,.string tx,Vi tv]) 0).run prog W=.ok (Vi 4) W:=fun _=>rfl;clear c p ht
    go_wp2_with fail
    refine(Zl2 t w3 _ tp X.out (HS.below j.out).tp).mono ?_;rintro e w4 ⟨kd,err,rfl,G,H⟩;have Z:Hid (BW w w4):=j.trans (H.mono j.size);have a9:Hid (Zh w4 t (.iface ty u)):=X.below H;clear H;rcases G.out with ⟨I,rfl⟩|⟨I,rfl,rfl⟩|⟨I,rfl,rfl⟩
    ·have k:Hid (ZD (bl s)=.error (4,0)):=hid (by rw[F.out,if_pos I]);clear G I;go_wp2;go_ret2;exact⟨_,_,rfl,RdIs.error k.out (Or.inr (Or.inl ⟨rfl,rfl⟩)),Z.out⟩
    all_goals
     have k:Hid (ZD (bl s)=.ok t):=hid (by rw[F.out,if_neg Om]);clear G I;go_wp2;go_ret2;exact⟨_,_,rfl,RdIs.fine k.out ⟨rfl,a9.out⟩,Z.out⟩
   ·have Y:((kd:Int) != 4)=true:=by
     rw[bne_iff_ne];intro e;exact c (p.2.2.2.2.1 (by have:=ht.1;simp only at this;omega))
    have k:Hid (ZD (bl s)=.error (2,(LS.hd r).at_)):=hid (by rw[E.out,if_neg c]);have hf:∀W:World,(Instr.field 87 (.agg #[Vi kd,Vi at_,.string tx,Vi tv]) 0).run prog W=.ok (Vi kd) W:=fun _=>rfl;clear c p
    go_wp2_with fail
    refine(Zfi V.out).mono ?_;rintro e wE ⟨v,rfl,B,a0⟩;obtain⟨fa,rfl⟩:=B.shape;have b0:Hid (BW w wE):=j.trans (a0.mono j.size);clear a0;go_wp2;go_ret2;exact⟨_,_,rfl,RdIs.error k.out (Or.inr (Or.inr B.out)),b0.out⟩
theorem ZoD{y:LB}(m:Int)(w:World)(g:s.size<=70000)(d:w.cell? ⟨14,0,none⟩=some (Vi m))(h:cut c (bl s)=some (x,y)) :
  Cq 91 #[.string s,.string ⟨#[c]⟩] w fun e u=>∃a b:BA,e=.returned (.tuple #[.string a,.string b,.bool true])/\Hid (bl a=x/\bl b=y)/\∃n,u=w.drewN n:=by
 refine(strings_Cut s ⟨#[c]⟩ m w Om d).mono ?_;rintro e u ⟨rfl,f⟩;have e1:Lib.cut s.data.toList (⟨#[c]⟩:BA).data.toList=(x,y,true):=Zyn h;rw[e1];exact⟨_,_,rfl,⟨ZbF x,ZbF y⟩,f⟩
theorem Zep{y:LB}(m:Int)(w:World)(f:s.size<=6000)(d:w.cell? ⟨14,0,none⟩=some (Vi m))(h:cut c (bl s)=some (x,y)) :
  Cq 91 #[.string s,.string ⟨#[c]⟩] w fun e u=>∃a b:BA,e=.returned (.tuple #[.string a,.string b,.bool true])/\Hid (bl a=x/\bl b=y)/\∃n,u=w.drewN n:=ZoD m w Om d h
theorem ZoF(m:Int)(w:World)(g:s.size<=70000)(d:w.cell? ⟨14,0,none⟩=some (Vi m))(h:cut c (bl s)=none) :
  Cq 91 #[.string s,.string ⟨#[c]⟩] w fun e u=>∃a b:BA,e=.returned (.tuple #[.string a,.string b,.bool false])/\Hid (bl a=bl s/\bl b=[])/\∃n,u=w.drewN n:=by
 refine(strings_Cut s ⟨#[c]⟩ m w Om d).mono ?_;rintro e u ⟨rfl,f⟩;have e1:Lib.cut s.data.toList (⟨#[c]⟩:BA).data.toList=(bl s,[],false):=Zym h;rw[e1];exact⟨_,_,rfl,⟨ZbF _,ZbF _⟩,f⟩
theorem ZgH(m:Int)(w:World)(f:s.size<=6000)(d:w.cell? ⟨14,0,none⟩=some (Vi m))(h:cut c (bl s)=none) :
  Cq 91 #[.string s,.string ⟨#[c]⟩] w fun e u=>∃a b:BA,e=.returned (.tuple #[.string a,.string b,.bool false])/\Hid (bl a=bl s/\bl b=[])/\∃n,u=w.drewN n:=ZoF m w Om d h
theorem Zvo(c:UInt8)(s:BA)(w:World) :
  Cq 182 #[.string s,.string ⟨#[c]⟩] w fun e u=>∃a:BA,e=.returned (.tuple #[.string a,.bool (ZbI c (bl s)).2])/\Hid (bl a=(ZbI c (bl s)).1)/\u=w:=by
 refine(strings_CutPrefix s ⟨#[c]⟩ w).mono ?_;rintro e u ⟨rfl,d⟩;have e1:=Zyo c (bl s);rw[<-e1];exact⟨_,rfl,ZbF _,d⟩
def ZfN(w:World)(g:Nat)(ps:List (LB)):Prop:=g<w.heap.size/\∀i,i<ps.length->∃s:BA,w.cell? ⟨g,i,none⟩=some (.string s)/\bl s=ps.getD i []
theorem ZfN.below{g:Nat}(h:ZfN w g ps)(a:Below B w w')(c:g<B):ZfN w' g ps:=
 ⟨Yaw h.1 a.size, fun i d => by
   obtain⟨s,e,f⟩:=h.2 i d;exact⟨s,(a.cell (p:=⟨g,i,none⟩) c).trans e,f⟩⟩
theorem ZCC(c:UInt8)(s:BA)(m:Int)(w:World)(j:s.size<=70000)(g:w.cell? ⟨14,0,none⟩=some (Vi m)) :
  Cq 42 #[.string s,.string ⟨#[c]⟩] w fun e u=>
   ∃n,e=.returned (.slice (some ⟨w.heap.size,0,none⟩) n n)/\n=(split c (bl s)).length/\ZfN u w.heap.size (split c (bl s))/\BW w u:=by
 refine(strings_Split s ⟨#[c]⟩ m w Om g (Yac 1)).mono ?_;rintro e u ⟨rfl,rfl⟩
 have hd:(Lib.splitB ⟨#[c]⟩ 0 (Lib.countB s ⟨#[c]⟩) s).map bl=split c (bl s):=by
  refine(Lib.splitB_data ⟨#[c]⟩ 0 (Lib.countB s ⟨#[c]⟩) s).trans ?_;exact Zsq c _ (bl s) (Yac _)
 have f:(Lib.splitB ⟨#[c]⟩ 0 (Lib.countB s ⟨#[c]⟩) s).length=Lib.countB s ⟨#[c]⟩+1:=Lib.splitB_all ⟨#[c]⟩ (Yac 1) 0 _ s rfl;have a:(split c (bl s)).length=Lib.countB s ⟨#[c]⟩+1:=by rw[<-hd,Yak,f]
 refine⟨_,rfl,a.symm,⟨by simp,fun i h=>?_⟩,Zbal⟩;have d:i<(Lib.splitB ⟨#[c]⟩ 0 (Lib.countB s ⟨#[c]⟩) s).length:=by rw[f,<-a];exact h
 refine⟨(Lib.splitB ⟨#[c]⟩ 0 (Lib.countB s ⟨#[c]⟩) s)[i],?_,?_⟩
 ·rw[Ydm _ _ _ _ rfl];simp[d]
 ·rw[<-hd];simp[d]
theorem Znd(c:UInt8)(s:BA)(m:Int)(d:s.size<=6000)(a:w.cell? ⟨14,0,none⟩=some (Vi m)) :
  Cq 42 #[.string s,.string ⟨#[c]⟩] w fun e u=>
   ∃n,e=.returned (.slice (some ⟨w.heap.size,0,none⟩) n n)/\n=(split c (bl s)).length/\ZfN u w.heap.size (split c (bl s))/\BW w u:=ZCC c s m w Om a
theorem ZDS{d:LB}(h:ZQ 1000000000 (ZbI 45 d).1=none):Zds d=false:=by unfold Zds;rw[h]
theorem ZDT{d:LB}{v:Nat}(h:ZQ 1000000000 (ZbI 45 d).1=some v):Zds d=!((ZbI 45 d).2 && v == 0):=by unfold Zds;rw[h]
theorem Zs3{r:LB}(s:BA)(most:Nat)(a:mi=most)(d:s.size<=6000)(c:9<=most)(f:most<=1000000000)(g:bl s=r)(h:ZQ most r=none) :
  Cq 60 #[.string s,Vi mi] w fun e u=>e=.returned (.tuple #[Vi 0,.bool false])/\u=w:=by
 subst a;subst g;have:=Zkv s most w d c f
 rwa [Zgg h]at this
theorem Zs4{r:LB}{v:Nat}(s:BA)(most:Nat)(a:mi=most)(d:s.size<=6000)(c:9<=most)(f:most<=1000000000)(g:bl s=r)(h:ZQ most r=some v) :
  Cq 60 #[.string s,Vi mi] w fun e u=>e=.returned (.tuple #[Vi v,.bool true])/\u=w:=by
 subst a;subst g;have:=Zkv s most w d c f
 rwa [ZjO h]at this
theorem Zi5{r:LB}{f:Bool}(h:ZbI c (bl s)=(r,f)) :
  Cq 182 #[.string s,.string ⟨#[c]⟩] w fun e u=>∃a:BA,e=.returned (.tuple #[.string a,.bool f])/\Hid (bl a=r)/\u=w:=by
 have:=Zvo c s w
 rwa [h]at this
theorem ZDL{d d':LB}{less:Bool}{v:Int}(a:ZbI 45 d=(d',less))(c:numI 1000000000 d'=v):valI d=if less then -v else v:=by
 unfold valI;rw[a];simp only[c]
theorem ZBp(s:BA)(z:s.size<=6000) :
  Cq 208 #[.string s] w fun e u=>∃v:Int,e=.returned (.tuple #[Vi v,.bool (Zds (bl s))])/\u=w/\Hid (Zds (bl s)=true->v=valI (bl s)):=by
 have x:(ZbI 45 (bl s)).1.length<=s.size:=by rw[<-Zd];exact Znm 45 (bl s)
 have g:=@ZDS (bl s);have i:=@ZDT (bl s);generalize p:ZbI 45 (bl s)=st at *
 obtain⟨r,f⟩:=st;have j:Hid (ZbI 45 (bl s)=(r,f)):=p;clear p;simp only at x g i;cases d:ZQ 1000000000 r with
 | none=>
  have k:Hid (Zds (bl s)=false):=g d;have n:Hid (ZQ 1000000000 r=none):=d;clear d g i;cases f <;>
  ·go_enter func208,ntmps208
   go_wp2_with fail
   refine(Zi5 j.out).mono ?_;rintro e u ⟨a,rfl,l,rfl⟩;have m:a.size<=6000:=by rw[ZU l.out];omega
   go_wp2_with fail
   refine(Zs3 a 1000000000 rfl m Om Om l.out n.out).mono ?_;rintro e u ⟨rfl,rfl⟩;go_wp2;go_ret2;exact⟨_,by rw[k.out];rfl,rfl,hid (fun h=>by rw[k.out]at h;cases h)⟩
 | some v=>
  have A:=Zgh d;have n:Hid (ZQ 1000000000 r=some v):=d;have c:=i d;clear d g i
  have o:(f=false/\Zds (bl s)=true)∨(f=true/\((v:Int) != 0)=true/\Zds (bl s)=true)∨(f=true/\((v:Int) != 0)=false/\Zds (bl s)=false):=by
   cases f
   ·exact Or.inl ⟨rfl,by simpa using c⟩
   ·by_cases q:v=0
    ·subst q;exact Or.inr (Or.inr ⟨rfl,rfl,by simpa using c⟩)
    ·exact Or.inr (Or.inl ⟨rfl,by simp;omega,by rw[c];simp[q]⟩)
  clear c;rcases o with ⟨rfl,c⟩|⟨rfl,y,c⟩|⟨rfl,y,c⟩
  all_goals
   have k:Hid (Zds (bl s)=_):=c;have t:=hid (ZDL j.out (ZgX n.out)).symm;clear c;go_enter func208,ntmps208
   go_wp2_with fail
   refine(Zi5 j.out).mono ?_;rintro e u ⟨a,rfl,l,rfl⟩;have m:a.size<=6000:=by rw[ZU l.out];omega
   go_wp2_with fail
   refine(Zs4 a 1000000000 rfl m Om Om l.out n.out).mono ?_;rintro e u ⟨rfl,rfl⟩;go_wp2;go_ret2;exact⟨_,by rw[k.out];rfl,rfl,hid (fun h=>by first|(rw[k.out]at h;cases h;done)|exact t.out)⟩
def ZiN(l:LB)(tm v:Int)(ok:Bool):Prop:=(ok=true/\∃t:Nat,Zdn l=some t/\tm=t/\t<=1000000/\smV l=(tm,v))∨(ok=false/\Zdn l=none)
theorem ZBl(s:BA)(m:Int)(l:s.size<=6000)(r:w.cell? ⟨14,0,none⟩=some (Vi m)) :
  Cq 183 #[.string s] w fun e u=>∃(tm v:Int) (ok:Bool),e=.returned (.tuple #[.agg #[Vi tm,Vi v],.bool ok])/\Hid (ZiN (bl s) tm v ok)/\BW w u:=by
 have g : ∀ o, (w.alloc o).cell? ⟨14, 0, none⟩ = some (Vi m) := fun o => by
   rw[Ybm _ _ _ (Yai _ _ r)];exact r
 cases d:cut 58 (bl s)with
 | none=>
  have h:Hid (ZiN (bl s) 0 0 false):=Or.inr ⟨rfl,by unfold Zdn;rw[d]⟩;have j:Hid (cut 58 (bl s)=none):=d;clear d;go_enter func183,ntmps183
  go_wp2_with fail
  refine(ZgH m _ l (g _) j.out).mono ?_;rintro e u ⟨a,b,rfl,c,n,rfl⟩;go_wp2;exact bodyPost_ret (v:=.tuple #[.agg #[Vi 0,Vi 0],.bool false]) (by simp[results,results183,go_sem]) rfl ⟨0,0,false,rfl,h,belB⟩
 | some xy=>
  obtain⟨x,y⟩:=xy
  have C:x.length<=s.size/\y.length<=s.size:=by
   rw[<-Zd,(Zdx d).1];simp;omega
  have j:Hid (cut 58 (bl s)=some (x,y)):=d;cases f:ZQ 1000000 x with
  | none=>
   have h:Hid (ZiN (bl s) 0 0 false):=Or.inr ⟨rfl,by unfold Zdn;rw[d];simp only[f]⟩;have p:Hid (ZQ 1000000 x=none):=f;clear d f;go_enter func183,ntmps183
   go_wp2_with fail
   refine(Zep m _ l (g _) j.out).mono ?_;rintro e u ⟨a,b,rfl,c,n,rfl⟩;have i:a.size<=6000:=by rw[ZU c.1];omega
   go_wp2_with fail
   refine(Zs3 a 1000000 rfl i Om Om c.1 p.out).mono ?_;rintro e u ⟨rfl,rfl⟩;go_wp2;exact bodyPost_ret (v:=.tuple #[.agg #[Vi 0,Vi 0],.bool false]) (by simp[results,results183,go_sem]) rfl ⟨0,0,false,rfl,h,belB⟩
  | some t=>
   have B:=Zgh f
   have h:Hid (∀v:Int,(Zds y=true->v=valI y)->ZiN (bl s) t v (Zds y)):=hid (by
    intro v z;cases q:Zds y
    ·exact Or.inr ⟨rfl,by unfold Zdn;rw[d];simp[f,q]⟩
    ·exact Or.inl ⟨rfl,t,by unfold Zdn;rw[d];simp[f,q],rfl,B,by unfold smV;rw[d];simp only[ZgX f,z q]⟩)
   have p:Hid (ZQ 1000000 x=some t):=f;clear d f;go_enter func183,ntmps183
   go_wp2_with fail
   refine(Zep m _ l (g _) j.out).mono ?_;rintro e u ⟨a,b,rfl,c,n,rfl⟩;have i:a.size<=6000:=by rw[ZU c.1];omega
   have A:b.size<=6000:=by rw[ZU c.2];omega
   go_wp2_with fail
   refine(Zs4 a 1000000 rfl i Om Om c.1 p.out).mono ?_;rintro e u ⟨rfl,rfl⟩
   go_wp2_with fail
   refine(ZBp b A).mono ?_;rintro e u ⟨v,rfl,rfl,k⟩;rw[c.2];rw[c.2]at k;go_wp2;exact bodyPost_ret (v:=.tuple #[.agg #[Vi t,Vi v],.bool (Zds y)]) (by simp[results,results183,go_sem]) rfl ⟨t,v,Zds y,rfl,hid (h.out v k.out),belB⟩
theorem Tryz.infoSample:(Tryz.prog.info? 313).map (fun i=>(i.zero,i.size,i.bytes))=some (some (.agg #[Vi 0,Vi 0]),2,16):=by kernel_rfl
theorem ZBG(a:k<ps.length)(c:l=ps.getD k []){t:Nat}(d:Zdn l=some t)(f:¬(t:Int)<=last) :
  Zcq last n (ps.drop k)=Zcq t (n+1) (ps.drop (k+1)):=by
 have e:ps.getD k []=ps[k]:=by simp[a]
 rw[List.drop_eq_getElem_cons a,Zcq,<-e,<-c,d];simp[f]
theorem ZrZ(a:k<ps.length)(c:l=ps.getD k [])(d:Zdn l=none∨∃t:Nat,Zdn l=some t/\(t:Int)<=last) :
  Zcq last n (ps.drop k)=none:=by
 have e:ps.getD k []=ps[k]:=by simp[a]
 rw[List.drop_eq_getElem_cons a,Zcq,<-e,<-c];rcases d with h|⟨t,h,f⟩
 ·rw[h]
 ·rw[h];simp[f]
theorem ZBH(a:¬k<ps.length):Zcq last n (ps.drop k)=some n:=by
 rw[Yb8 Om];rfl
theorem ZBJ(s r:BA)(m:Int)(w:World)(hs:s.size<=6000)(S:w.cell? ⟨14,0,none⟩=some (Vi m))(K:Hid (ZbI 32 (bl s)=(bl r,true)))(a6:s.toList.isEmpty=false) :
  Cq 140 #[.string s] w fun e d => ∃ (sv : Value) (ok : Bool), e = .returned (.tuple #[sv, .bool ok]) /\
    Hid ((ok=true/\∃a n cap,sv=.slice a n cap/\Zcq (-1) 0 (split 32 (bl r))=some n/\d.ownsRow w.heap.size 313 2 sv n (Zca ((split 32 (bl r)).map smV)))∨(ok=false/\Zcq (-1) 0 (split 32 (bl r))=none))/\BW w d:=by
 have hr:r.size<=6000:=by
  have:=Znm 32 (bl s);rw[K.out,Zd,Zd]at this;omega
 obtain⟨i0,hi,W,X,Y⟩:=info_parts Tryz.infoSample;have M:=Yai _ _ S;go_enter func140,ntmps140
 go_wp2_with fail
 refine(Zi5 K.out).mono ?_;rintro e d ⟨a,rfl,Z,rfl⟩;obtain rfl:a=r:=ZcW Z.out;clear Z
 go_wp2_with fail
 refine(Znd 32 a m hr S).mono ?_;rintro e y ⟨n,rfl,T,D,A⟩;have U:Hid (n=(split 32 (bl a)).length):=T;have a7:n<=6001:=by rw[T];have:=Zhd 32 (bl a);rw[Zd]at this;omega
 clear T;have a0:d.heap.size+1<=y.heap.size:=D.1;go_wp2
 go_loopw [6, 7, 24] (fun v last i wr => ∃ (k : Nat) (L : Int), k <= n /\ i = Vi k /\ last = Vi L /\ -1 <= L /\ L <= 1000000 /\ wr.ownsRow (d.heap.size + 1) 313 2 v k (Zca (((split 32 (bl a)).map smV).take k)) /\ Hid (Zcq (-1) 0 (split 32 (bl a)) = Zcq L k ((split 32 (bl a)).drop k)) /\ Below (d.heap.size + 1) y wr)
   (fun _ _ i _=>n - (intOf i).toNat)
 case atStart=>exact⟨0,-1,Yag _,rfl,rfl,by omega,by omega,Ybc _ _ _ _,rfl,Yaf _ _⟩
 case round=>
  obtain⟨k,L,hk,rfl,rfl,a8,a9,c,I,o⟩:=hrel;have a1:d.heap.size+1<=wr.heap.size:=Yah a0 o.size;by_cases N:k<n
  ·have f:k<(split 32 (bl a)).length:=by rw[<-U.out];exact N
   obtain⟨sk,b0,E⟩:=(D.below o (Ybd _)).2 k f;have V:sk.size<=6000:=by rw[ZU E];have:=Zkd 32 (bl a) k f;rw[Zd]at this;omega
   have J:Hid (bl sk=(split 32 (bl a)).getD k []):=E;clear E
   have a2:wr.cell? ⟨14,0,none⟩=some (Vi m):=by
    rw[o.cell (p:=⟨_,0,none⟩) (by simpa using Nat.lt_succ_of_lt M),A.cell (p:=⟨_,0,none⟩) M];exact S
   go_wp2_with fail
   refine(ZBl sk m V a2).mono ?_;rintro e z ⟨tm,v2,ok,rfl,q,F⟩;have b1:wr.heap.size<=z.heap.size:=F.size;have B:Below (d.heap.size+1) y z:=o.trans (F.mono a1);have g:=Zn c F;cases ok
   ·have x:Hid (Zcq (-1) 0 (split 32 (bl a))=none):=hid (by
     rw[I.out];refine ZrZ f J.out (Or.inl ?_);rcases q.out with ⟨h,_⟩|⟨_,h⟩
     ·cases h
     ·exact h)
    go_wp2;go_ret2;exact⟨_,false,rfl,Or.inr ⟨rfl,x.out⟩,(A.trans (B.mono Om)).alloc Om _⟩
   ·obtain⟨t,O,P,b2,Q⟩:∃t:Nat,Zdn (bl sk)=some t/\tm=t/\t<=1000000/\smV (bl sk)=(tm,v2):=by
     rcases q.out with ⟨_,h⟩|⟨h,_⟩
     ·exact h
     ·cases h
    have HT:Hid (Zdn (bl sk)=some t):=O;have a3:=hid (Zwi f J.out Q);clear O q Q;have b3:tm<=1000000:=by omega
    have b4:0<=tm:=by omega
    have G:Hid (tm=t):=P;clear P;by_cases R:tm<=L
    ·have x:Hid (Zcq (-1) 0 (split 32 (bl a))=none):=hid (by
      rw[I.out];exact ZrZ f J.out (Or.inr ⟨t,HT.out,by rw[<-G.out];exact R⟩))
     go_wp2;go_ret2;exact⟨_,false,rfl,Or.inr ⟨rfl,x.out⟩,(A.trans (B.mono Om)).alloc Om _⟩
    ·have x:Hid (Zcq (-1) 0 (split 32 (bl a))=Zcq t (k+1) ((split 32 (bl a)).drop (k+1))):=hid (by
      rw[I.out];exact ZBG f J.out HT.out (by rw[<-G.out];exact R))
     go_wp2_with (at_builtin;refine wpList_append_own _ rfl (.tmp 41) (.tmp 43) 197 rfl (d.heap.size+1) 313 i0 (.agg #[Vi 0,Vi 0]) 2 16 underlying197 hi W X Y rfl Dc _ _ _ rfl ((g.alloc _).alloc _) ⟨z.heap.size+1,0,none⟩ 1 1 [Vi tm,Vi v2] rfl rfl ?c1 ?c2 ?c3 ?c4 ?c5 ?_)
     case c1=>exact Zn9 (by simp) (by simp)
     case c2=>intro u hu;simp at hu;rcases hu with rfl|rfl <;> rfl
     case c3=>unfold maxLen;omega
     case c4=>omega
     case c5=>simp;omega
     intro v' w3 C l _;rw[<-a3.out]at C;have H:=g.lt;have a4:Below (d.heap.size+1) y w3:=(((B.alloc Om _).alloc (by simp;omega) _)).grown l (by simp;omega) (fun j hj=>(H j hj).1)
     have b5:w3.cell? ⟨z.heap.size,0,none⟩=some (Vi tm):=by
      refine l.cell (a:=⟨z.heap.size,0,none⟩) (by simp) ?_;intro he;have:=(H _ he.symm).2;simp at this
     clear g c l B;go_wp2
     go_roundw
     case rel=>exact⟨k+1,tm,by omega,by go_num,rfl,by omega,by omega,C,by rw[G.out];exact x,a4⟩
     case measure=>simp[intOf];omega
  ·have x:Hid (Zcq (-1) 0 (split 32 (bl a))=some k):=hid (by
    rw[I.out];exact ZBH (by rw[<-U.out];exact N))
   obtain⟨av,cp,hv⟩:=Zl c;rw[hv]at c;rw[hv]
   have a5:Hid (wr.ownsRow d.heap.size 313 2 (.slice av k cp) k (Zca ((split 32 (bl a)).map smV))):=hid (by
    rw[Ya5 (by rw[Yak];have:=U.out;omega)]at c;exact c.mono Om)
   clear c;go_wp2;go_ret2;exact⟨_,true,rfl,Or.inl ⟨rfl,av,k,cp,rfl,x.out,a5.out⟩,A.trans (o.mono Om)⟩
