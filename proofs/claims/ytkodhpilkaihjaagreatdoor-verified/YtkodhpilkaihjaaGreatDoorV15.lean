/- Parts. -/
import Derived.Test.YtkodhpilkaihjaaGreatDoorVX
import Derived.Test.YtkodhpilkaihjaaGreatDoorV09
set_option linter.all false
set_option maxRecDepth 100000
set_option maxHeartbeats 16000000
namespace Go.Proofs.YtkodhpilkaihjaaGreatDoor
open Go.RowKit LS Go.Proofs.Tryz
variable {dp lg sy tp:Addr}{s:BA}{r:Except (Nat×Nat) Tr}{x:LB}{ps:List PTok}{B j k n:Nat}{c:UInt8}{pv v:Value}{W w w':World}
def Zfs(c:UInt8)(r:LB):LB:=if c == 33 && r.head? == some 61 then [33,61] else if (seek c Zdq).isSome then [c] else []
theorem ZpT(c:UInt8):∀l:LB,decide (0<=Lib.indexByte l c)=(seek c l).isSome/\-1<=Lib.indexByte l c
 | []=>⟨rfl,Yd0 (-1)⟩
 | b :: l => by
   obtain⟨d,f⟩:=ZpT c l;unfold Lib.indexByte seek;by_cases a:b=c
   · subst a;simp
   · have e:(b == c)=false:=by simpa using a
     rw[e];simp only[Yde,if_false];rw[Option.isSome_map,<-d];split
     · rename_i h
       have:Lib.indexByte l c=-1:=by simpa using h
       rw[this];exact⟨by decide,by decide⟩
     · rename_i h
       have:Lib.indexByte l c≠-1:=by simpa using h
       refine⟨?_,by omega⟩;rw[decide_eq_true (show 0<=Lib.indexByte l c+1 by omega),decide_eq_true (show 0<=Lib.indexByte l c by omega)]
theorem ZAV(c:UInt8)(r:LB):Lib.hasPrefix (c::r) [33,61]=(c == 33 && r.head? == some 61):=by
 cases r with
 | nil=>simp[Lib.hasPrefix,List.isPrefixOf]
 | cons d r=>
  simp only[Lib.hasPrefix,List.isPrefixOf,List.head?_cons];rw[Yd3]
  congr 1
  ·rw[Ybh,beq_iff_eq,beq_iff_eq];exact eq_comm
  ·rw[Ybh,beq_iff_eq,beq_iff_eq];exact⟨fun h=>by rw[h],fun h=>by injection h with h;exact h.symm⟩
theorem ZqU(s:BA)(k:Nat)(q:s.size<=6000)(i:k<s.size) :
  CP 122 #[.string s,Vi k] w fun e u=>∃x:BA,e=.returned (.string x)/\Hid (bl x=Zfs s[k] ((bl s).drop (k+1)))/\u=w:=by
 have j:(s.extract k s.size).data.toList=s[k]::(bl s).drop (k+1):=by
  show bl _=_;rw[Zfh,<-Zd,Ya4,ZdW s k i]
 have a:Lib.hasPrefix (s.extract k s.size).data.toList [33,61]=(s[k] == 33 && ((bl s).drop (k+1)).head? == some 61):=by rw[j,ZAV]
 obtain⟨b1,b⟩:∃x,(s[k] == 33 && ((bl s).drop (k+1)).head? == some 61)=x:=⟨_,rfl⟩
 obtain⟨b2,d⟩:∃x,(seek s[k] Zdq).isSome=x:=⟨_,rfl⟩
 have f:Hid (Zfs s[k] ((bl s).drop (k+1))=if b1 then [33,61] else if b2 then [s[k]] else []):=hid (by unfold Zfs;rw[b,d]);have g:=ZpT s[k] Zdq;rw[d]at g;rw[b]at a;have h:Hid (Lib.hasPrefix (s.extract k s.size).data.toList [33,61]=b1):=a;have l:Hid (decide (0<=Lib.indexByte Zdq s[k])=b2/\-1<=Lib.indexByte Zdq s[k]):=g;have m:Hid (bl (s.extract k (k+1))=[s[k]]):=hid (by rw[Zfh,Yc8,ZdW s k i,show k+1 - k=1 by omega];rfl);clear j a b d g;have n:∀c:UInt8,((c.toNat:Int).toNat.toUInt8)=c:=fun c=>by simp
 cases b1
 ·cases b2
  ·have o:¬(0<=Lib.indexByte Zdq s[k]):=of_decide_eq_false l.1;go_enter func122,ntmps122
   go_wp2_with fail
   refine(strings_HasPrefix _ _ _).mono ?_;rintro e u ⟨rfl,rfl⟩;rw[show(⟨#[33,61]⟩:BA).data.toList=[33,61] from rfl,h.out]
   go_wp2_with fail
   refine(strings_IndexByte _ _ _).mono ?_;rintro e u ⟨rfl,rfl⟩;rw[n,show(⟨#[40,41,123,125,91,93,44,61,43,45,42,47]⟩:BA).data.toList=Zdq from rfl];generalize Lib.indexByte Zdq s[k]=ix at *
   go_wp2;go_ret;exact⟨_,rfl,hid (by rw[f.out];rfl),rfl⟩
  ·have p:0<=Lib.indexByte Zdq s[k]:=of_decide_eq_true l.1;go_enter func122,ntmps122
   go_wp2_with fail
   refine(strings_HasPrefix _ _ _).mono ?_;rintro e u ⟨rfl,rfl⟩;rw[show(⟨#[33,61]⟩:BA).data.toList=[33,61] from rfl,h.out]
   go_wp2_with fail
   refine(strings_IndexByte _ _ _).mono ?_;rintro e u ⟨rfl,rfl⟩;rw[n,show(⟨#[40,41,123,125,91,93,44,61,43,45,42,47]⟩:BA).data.toList=Zdq from rfl];generalize Lib.indexByte Zdq s[k]=ix at *
   go_wp2;go_ret;exact⟨_,rfl,hid (by rw[f.out];exact m.out),rfl⟩
 ·go_enter func122,ntmps122
  go_wp2_with fail
  refine(strings_HasPrefix _ _ _).mono ?_;rintro e u ⟨rfl,rfl⟩;rw[show(⟨#[33,61]⟩:BA).data.toList=[33,61] from rfl,h.out];go_wp2;go_ret;exact⟨_,rfl,hid (by rw[f.out];rfl),rfl⟩
theorem Zx4(h:k<s.size)(a:s[k]≠32)(hd:ZC s[k]=false)(b:Zp s[k]=false)(c:s[k]≠34):Zk (bl s) k=if Zfs s[k] ((bl s).drop (k+1))=[] then (⟨5,[],k⟩,k+1)else (⟨4,Zfs s[k] ((bl s).drop (k+1)),k⟩,k+(Zfs s[k] ((bl s).drop (k+1))).length):=by
 rw[ZjD s k h a];unfold lexC Zfs;rw[hd,b,beq_eq_false_iff_ne.2 c];simp only[Yde,if_false];split
 ·rfl
 ·split <;> rfl
theorem Zxk{a b:LB}(h:Z3 (a++b)=true):Z3 a=true:=by
 unfold Z3 at h ⊢;rw[Yas]at h ⊢;obtain⟨c,d⟩:=h;simp at c d ⊢;constructor
 ·exact c.1
 ·omega
theorem Zl8(h:k<s.size)(a:s[k]=34):Zk (bl s) k=match seek 34 ((bl s).drop (k+1))with
  | none=>(⟨5,[],k⟩,(bl s).length)
  | some p=>(if Z3 (((bl s).drop (k+1)).take p)then ⟨3,((bl s).drop (k+1)).take p,k⟩else ⟨5,[],k⟩,k+p+2):=by
 rw[ZjD s k h (by rw[a];decide)];unfold lexC;rw[a];rw[show ZC 34=false by decide,show Zp 34=false by decide];simp only[Yde,if_false,beq_self_eq_true,if_true];rfl
theorem Zx7(h:k<s.size)(b:s[k]=34)(c:k+1+n<s.size)(d:s[k+1+n]=34)(a:34∉((bl s).drop (k+1)).take n)(e:Z3 (((bl s).drop (k+1)).take n)=true):Zk (bl s) k=(⟨3,((bl s).drop (k+1)).take n,k⟩,k+n+2):=by
 rw[Zl8 h b];have f:(((bl s).drop (k+1)).take n).length=n:=by rw[Ya7,Ybv,Zd];omega
 have g:seek 34 ((bl s).drop (k+1))=some n:=by
  rw[<-Ycn n ((bl s).drop (k+1)),List.drop_drop,ZdW s (k+1+n) c,d,Zgq 34 a,f]
 rw[g];simp only[e,if_true]
theorem Zx6(h:k<s.size)(b:s[k]=34)(a:34∉(bl s).drop (k+1)):Zk (bl s) k=(⟨5,[],k⟩,(bl s).length):=by
 rw[Zl8 h b,(Zj9 34 _).2 a]
theorem Zx5(h:k<s.size)(g:s[k]=34)(c:34∉((bl s).drop (k+1)).take n)(d:Z3 (((bl s).drop (k+1)).take n)=false):∃e,Zk (bl s) k=(⟨5,[],k⟩,e):=by
 rw[Zl8 h g];cases i:seek 34 ((bl s).drop (k+1))with
 | none=>exact⟨_,rfl⟩
 | some p=>
  refine⟨k+p+2,?_⟩;obtain⟨a,b,j,q,r⟩:=Ziv i
  have o:n<=p:=by
   by_cases l:n<=p
   ·exact l
   ·exfalso
    apply c;rw[j,List.take_append,Ya5 Om];rw[show n - a.length=(n - a.length - 1)+1 by omega];simp
  have m:Z3 (((bl s).drop (k+1)).take p)=false:=by
   cases f:Z3 (((bl s).drop (k+1)).take p)
   ·rfl
   ·exfalso
    have:((bl s).drop (k+1)).take p=((bl s).drop (k+1)).take n++(((bl s).drop (k+1)).drop n).take (p - n):=by
     rw[<-List.take_add];congr 1;omega
    rw[this]at f;rw[Zxk f]at d;exact Bool.noConfusion d
  simp only[m,Yde,if_false]
def QRel(s:BA)(k n:Nat):Prop:=k+1+n<=s.size/\34∉((bl s).drop (k+1)).take n/\Z3 (((bl s).drop (k+1)).take n)=true
theorem QRel.start(h:k<s.size):QRel s k 0:=⟨by omega,by simp,by rfl⟩
theorem ZkZ(_:k+1+n<=s.size):bl (s.extract (k+1) (k+1+n))=((bl s).drop (k+1)).take n:=by
 rw[Zfh,Yc8];congr 1;omega
theorem QRel.shut(h:QRel s k n)(a:Zct s ps k)(b:k<s.size)(c:s[k]=34)(d:k+1+n<s.size)(e:s[k+1+n]=34):Zct s (ps++[⟨2,k,s.extract (k+1) (k+1+n),0⟩]) (k+1+n+1):=by
 have f:=Zx7 b c d e h.2.1 h.2.2;rw[show k+1+n+1=k+n+2 by omega];exact a.token (t:=⟨3,((bl s).drop (k+1)).take n,k⟩) f (by show ¬((3:Nat)=0∨(3:Nat)=5);decide) ⟨rfl,rfl,ZkZ Om,fun h=>by cases h⟩
theorem QRel.never(h:QRel s k n)(b:Zct s ps k)(c:k<s.size)(d:s[k]=34)(e:¬k+1+n<s.size):Zci (ps++[⟨5,k,⟨#[]⟩,0⟩]) (ZN (bl s) ((bl s).length+1) 0):=by
 have a:34∉(bl s).drop (k+1):=by
  have:=h.2.1
  rwa [Ya5 (by rw[Ybv,Zd];omega)]at this
 exact b.done (t:=⟨5,[],k⟩) (Zx6 c d a) (Or.inr rfl) ⟨rfl,rfl,rfl,fun h=>by cases h⟩
theorem ZC9(a:k+1+n<s.size):((bl s).drop (k+1)).take (n+1)=((bl s).drop (k+1)).take n++[s[k+1+n]]:=by
 rw[List.take_add,List.drop_drop,ZdW s (k+1+n) a];rfl
theorem QRel.no(h:QRel s k n)(b:k+1+n<s.size)(c:s[k+1+n]≠34):34∉((bl s).drop (k+1)).take (n+1):=by
 rw[ZC9 b,Yar];rintro(a|a)
 ·exact h.2.1 a
 ·simp at a;exact c a.symm
theorem QRel.bad(h:QRel s k n)(b:Zct s ps k)(c:k<s.size)(d:s[k]=34)(f:k+1+n<s.size)(g:s[k+1+n]≠34)(a:Z3 (bl (s.extract (k+1) (k+1+n+1)))=false):Zci (ps++[⟨5,k,⟨#[]⟩,0⟩]) (ZN (bl s) ((bl s).length+1) 0):=by
 rw[show k+1+n+1=k+1+(n+1) by omega,ZkZ Om]at a;obtain⟨e,i⟩:=Zx5 c d (h.no f g) a;exact b.done (t:=⟨5,[],k⟩) i (Or.inr rfl) ⟨rfl,rfl,rfl,fun h=>by cases h⟩
theorem QRel.go(h:QRel s k n)(b:k+1+n<s.size)(c:s[k+1+n]≠34)(a:Z3 (bl (s.extract (k+1) (k+1+n+1)))=true):QRel s k (n+1):=by
 rw[show k+1+n+1=k+1+(n+1) by omega,ZkZ Om]at a;exact⟨by omega,h.no b c,a⟩
theorem Tryz.infoTok:(Tryz.prog.info? 167).map (fun i=>(i.zero,i.size,i.bytes))=some (some (.agg #[Vi 0,Vi 0,.string ByteArray.empty,Vi 0]),4,40):=by kernel_rfl
theorem Zen{a b c d:Value}{t:TypeId}(e:W.heap.size=n):∀j x,[a,b,c,d][j]?=some x->(W.alloc (.cells #[a,b,c,d] t)).cell? ((⟨n,0,none⟩:Addr).add j)=some x:=by
 intro j x f;subst e;rw[ZfO];have h:=Go.Deep.blk_alloc_new W (.cells #[a,b,c,d] t);simp only[World.cell?,h];simpa using f
theorem Zm2(p:UInt8->Bool):∀l:LB,(l.take (run p l)).all p=true
 | []=>rfl
 | b :: l => by
   unfold run;split
   · rename_i h;simp[h];exact fun x a=>(Ybu.1 (Zm2 p l)) x a
   · rfl
theorem Zin{base:Nat}{e:TypeId}{size:Nat}{xs:List Value}(h:w.ownsRow base e size v n xs):w.ownsRow 0 e size v n xs:=by
 refine⟨h.1,?_⟩;rcases h.2 with a|⟨g,cap,cur,h,_,r⟩
 ·exact Or.inl a
 ·exact Or.inr ⟨g,cap,cur,h,Yag _,r⟩
theorem Zyk(s:BA)(w:World)(hs:s.size<=300) :
  CP 67 #[.string s] w fun e j=>∃(v:Value) (ps:List PTok),e=.returned v/\j.ownsRow 0 167 4 v ps.length (ZbC ps)/\Hid (Zci ps (ZN (bl s) ((bl s).length+1) 0))/\BW w j:=by
 obtain⟨i0,U,G,H,I⟩:=info_parts Tryz.infoTok;go_enter func67,ntmps67;go_wp2
 go_step3
 go_wp2
 go_step3
 go_wp2
 go_loopg [3,4] s.size (fun gg v3 v4 wr=>∃(ps:List PTok) (k:Nat),gg=s.size - k/\v4=Vi k/\Hid (Zct s ps k)/\wr.ownsRow w.heap.size 167 4 v3 ps.length (ZbC ps)/\Hid (BW w wr))
 case atStart=>exact⟨[],0,rfl,rfl,Zct.start s,Ybc _ _ _ _,Yaf _ _⟩
 case round=>
  obtain⟨ps,k,b4,rfl,N,c,P⟩:=hrel;have hk:=N.1;have b5:=N.2.1;have J:=P.size;by_cases F:k<s.size
  ·by_cases a4:s[k]=32
   ·have K:Hid (Zct s ps (k+1)):=N.skip F a4;go_wp2
    go_roundg (s.size - (k+1))
    case measure=>omega
    case rel=>exact⟨ps,k+1,rfl,by go_num,K,c,P⟩
   ·have c32:((s[k].toNat:Int) == 32)=false:=by
     rw[beq_eq_false_iff_ne];intro e;exact a4 (Ydf.1 (by show s[k].toNat=32;omega))
    cases V:ZC s[k]
    ·have Q:Hid (ZC s[k]=false):=V;clear V;cases W:Zp s[k]
     ·have a3:Hid (Zp s[k]=false):=W;clear W;by_cases Y:s[k]=34
      ·have c34:((s[k].toNat:Int) == 34)=true:=by rw[Y];rfl
       have HK:Hid (s[k]=34):=Y;clear Y
       go_wp2_with fail
       refine(Zdk).mono ?_;rintro e j ⟨rfl,rfl⟩;rw[Q.out]
       go_wp2_with fail
       refine(Zd2).mono ?_;rintro e wq ⟨rfl,rfl⟩;rw[a3.out];go_wp2;obtain⟨L3,a9⟩:∃L3,L3=u3:=⟨_,rfl⟩
       go_loopg [3,4,10] (s.size - (k+1)) (fun gi x3 x4 v10 wi=>∃n:Nat,x3=L3/\x4=Vi (k:Int)/\gi=s.size - (k+1+n)/\v10=Vi ((k+1+n:Nat):Int)/\Hid (QRel s k n)/\wi=wq)
       case atStart=>exact⟨0,a9.symm,rfl,rfl,by go_num,QRel.start F,rfl⟩
       case round=>
        obtain⟨n,e3,rfl,b6,rfl,HQ,rfl⟩:=hrel;subst e3;subst a9;have hn:=HQ.1;by_cases X:k+1+n<s.size
        ·by_cases A:s[k+1+n]=34
         ·have cE:((s[k+1+n].toNat:Int) == 34)=true:=by rw[A];rfl
          have K:Hid (Zct s (ps++[⟨2,k,s.extract (k+1) (k+1+n),0⟩]) (k+1+n+1)):=HQ.shut N.out F HK.out X A;clear A
          go_wp2_with (at_builtin;refine wpList_append_own _ rfl (.tmp 103) (.tmp 111) 159 rfl w.heap.size 167 i0 (.agg #[Vi 0,Vi 0,.string ByteArray.empty,Vi 0]) 4 40 underlying159 U G H I rfl Dc _ _ _ rfl (c.alloc _) ⟨wr.heap.size,0,none⟩ 1 1 [Vi 2,Vi k,.string (s.extract (k+1) (k+1+n)),Vi 0] rfl rfl ?c1 ?c2 ?c3 ?c4 ?c5 ?_)
          case c1=>exact Zen rfl
          case c2=>intro u o;simp at o;rcases o with rfl|rfl|rfl|rfl <;> rfl
          case c3=>unfold maxLen;omega
          case c4=>omega
          case c5=>simp;omega
          intro v' y a b _;have z:Hid (BW w y):=hid ((P.alloc J _).grown b (by simp;omega) (fun q C=>(c.lt q C).1))
          have f:y.ownsRow w.heap.size 167 4 v' (ps++[(⟨2,k,s.extract (k+1) (k+1+n),0⟩:PTok)]).length (ZbC (ps++[(⟨2,k,s.extract (k+1) (k+1+n),0⟩:PTok)])):=by
           rw[Zer,Yab];exact a
          clear a b c;go_wp2
          go_roundg (s.size - (k+1+n+1))
          case measure=>omega
          case rel=>exact⟨_,k+1+n+1,rfl,by first|rfl|go_num,K,f,z⟩
         ·have cE:((s[k+1+n].toNat:Int) == 34)=false:=by
           rw[beq_eq_false_iff_ne];intro e;exact A (Ydf.1 (by show s[k+1+n].toNat=34;omega))
          have a5:(s.extract (k+1) (k+1+n+1)).size<=6000:=by simp;omega
          obtain⟨sx,B⟩:∃sx,sx=s.extract (k+1) (k+1+n+1):=⟨_,rfl⟩
          have L:Hid (sx=s.extract (k+1) (k+1+n+1)):=B;rw[<-B]at a5;cases hw:Z3 (bl sx)
          ·have R:Hid (Zci (ps++[⟨5,k,⟨#[]⟩,0⟩]) (ZN (bl s) ((bl s).length+1) 0)):=HQ.bad N.out F HK.out X A (by rw[<-B];exact hw);have HW:Hid (Z3 (bl sx)=false):=hw;clear A hw B
           go_wp2_with fail
           rw[<-L.out];refine(Znw sx a5).mono ?_;rintro e wq ⟨rfl,rfl⟩;rw[HW.out]
           go_wp2_with (at_builtin;refine wpList_append_own _ rfl (.tmp 127) (.tmp 130) 159 rfl w.heap.size 167 i0 (.agg #[Vi 0,Vi 0,.string ByteArray.empty,Vi 0]) 4 40 underlying159 U G H I rfl Dc _ _ _ rfl (c.alloc _) ⟨wq.heap.size,0,none⟩ 1 1 [Vi 5,Vi k,.string ⟨#[]⟩,Vi 0] rfl rfl ?c1 ?c2 ?c3 ?c4 ?c5 ?_)
           case c1=>exact Zen rfl
           case c2=>intro u o;simp at o;rcases o with rfl|rfl|rfl|rfl <;> rfl
           case c3=>unfold maxLen;omega
           case c4=>omega
           case c5=>simp;omega
           intro v' y a b _;have z:Hid (BW w y):=hid ((P.alloc J _).grown b (by simp;omega) (fun q C=>(c.lt q C).1))
           have f:y.ownsRow w.heap.size 167 4 v' (ps++[(⟨5,k,⟨#[]⟩,0⟩:PTok)]).length (ZbC (ps++[(⟨5,k,⟨#[]⟩,0⟩:PTok)])):=by
            rw[Zer,Yab];exact a
           clear a b c;go_wp2
           try rw[Ycl]
           go_ret;exact⟨_,_,rfl,Zin f,R,z.out⟩
          ·have b0:Hid (QRel s k (n+1)):=HQ.go X A (by rw[<-B];exact hw);have HW:Hid (Z3 (bl sx)=true):=hw;clear A hw B
           go_wp2_with fail
           rw[<-L.out];refine(Znw sx a5).mono ?_;rintro e wq ⟨rfl,rfl⟩;rw[HW.out];go_wp2
           go_roundg (s.size - (k+1+(n+1)))
           case measure=>omega
           case rel=>exact⟨n+1,rfl,rfl,rfl,by go_num,b0,rfl⟩
        ·have R:Hid (Zci (ps++[⟨5,k,⟨#[]⟩,0⟩]) (ZN (bl s) ((bl s).length+1) 0)):=HQ.never N.out F HK.out X
         go_wp2_with (at_builtin;refine wpList_append_own _ rfl (.tmp 127) (.tmp 130) 159 rfl w.heap.size 167 i0 (.agg #[Vi 0,Vi 0,.string ByteArray.empty,Vi 0]) 4 40 underlying159 U G H I rfl Dc _ _ _ rfl (c.alloc _) ⟨wr.heap.size,0,none⟩ 1 1 [Vi 5,Vi k,.string ⟨#[]⟩,Vi 0] rfl rfl ?c1 ?c2 ?c3 ?c4 ?c5 ?_)
         case c1=>exact Zen rfl
         case c2=>intro u o;simp at o;rcases o with rfl|rfl|rfl|rfl <;> rfl
         case c3=>unfold maxLen;omega
         case c4=>omega
         case c5=>simp;omega
         intro v' y a b _;have z:Hid (BW w y):=hid ((P.alloc J _).grown b (by simp;omega) (fun q C=>(c.lt q C).1))
         have f:y.ownsRow w.heap.size 167 4 v' (ps++[(⟨5,k,⟨#[]⟩,0⟩:PTok)]).length (ZbC (ps++[(⟨5,k,⟨#[]⟩,0⟩:PTok)])):=by
          rw[Zer,Yab];exact a
         clear a b c;go_wp2
         try rw[Ycl]
         go_ret;exact⟨_,_,rfl,Zin f,R,z.out⟩
      ·have c34:((s[k].toNat:Int) == 34)=false:=by
        rw[beq_eq_false_iff_ne];intro e;exact Y (Ydf.1 (by show s[k].toNat=34;omega))
       have i:=Zx4 F a4 Q.out a3.out Y;obtain⟨m,hm⟩:∃m,m=Zfs s[k] ((bl s).drop (k+1)):=⟨_,rfl⟩
       rw[<-hm]at i;have HM:Hid (m=Zfs s[k] ((bl s).drop (k+1))):=hm;clear hm;by_cases Z:m=[]
       ·rw[if_pos Z]at i;have R:Hid (Zci (ps++[⟨5,k,⟨#[]⟩,0⟩]) (ZN (bl s) ((bl s).length+1) 0)):=hid (N.done (t:=⟨5,[],k⟩) i (Or.inr rfl) ⟨rfl,rfl,rfl,fun h=>by cases h⟩);clear i
        go_wp2_with fail
        refine(Zdk).mono ?_;rintro e j ⟨rfl,rfl⟩;rw[Q.out]
        go_wp2_with fail
        refine(Zd2).mono ?_;rintro e j ⟨rfl,rfl⟩;rw[a3.out]
        go_wp2_with fail
        refine(ZqU s k Om F).mono ?_;rintro e j ⟨x,rfl,O,rfl⟩;have hx:bl x=[]:=by rw[O.out,<-HM.out];exact Z
        obtain rfl:x=⟨#[]⟩:=by
         cases x with|mk d=>cases d with|mk l=>simp[bl]at hx;subst hx;rfl
        clear hx O
        go_wp2_with (at_builtin;refine wpList_append_own _ rfl (.tmp 127) (.tmp 130) 159 rfl w.heap.size 167 i0 (.agg #[Vi 0,Vi 0,.string ByteArray.empty,Vi 0]) 4 40 underlying159 U G H I rfl Dc _ _ _ rfl (c.alloc _) ⟨j.heap.size,0,none⟩ 1 1 [Vi 5,Vi k,.string ⟨#[]⟩,Vi 0] rfl rfl ?c1 ?c2 ?c3 ?c4 ?c5 ?_)
        case c1=>exact Zen rfl
        case c2=>intro u o;simp at o;rcases o with rfl|rfl|rfl|rfl <;> rfl
        case c3=>unfold maxLen;omega
        case c4=>omega
        case c5=>simp;omega
        intro v' y a b _;have z:Hid (BW w y):=hid ((P.alloc J _).grown b (by simp;omega) (fun q C=>(c.lt q C).1))
        have f:y.ownsRow w.heap.size 167 4 v' (ps++[(⟨5,k,⟨#[]⟩,0⟩:PTok)]).length (ZbC (ps++[(⟨5,k,⟨#[]⟩,0⟩:PTok)])):=by
         rw[Zer,Yab];exact a
        clear a b c;go_wp2
        try rw[Ycl]
        go_ret;exact⟨_,_,rfl,Zin f,R,z.out⟩
       ·rw[if_neg Z]at i
        go_wp2_with fail
        refine(Zdk).mono ?_;rintro e j ⟨rfl,rfl⟩;rw[Q.out]
        go_wp2_with fail
        refine(Zd2).mono ?_;rintro e j ⟨rfl,rfl⟩;rw[a3.out]
        go_wp2_with fail
        refine(ZqU s k Om F).mono ?_;rintro e j ⟨x,rfl,O,rfl⟩;have hx:bl x=m:=by rw[O.out,<-HM.out]
        rw[<-hx]at i
        have K:Hid (Zct s (ps++[⟨3,k,x,0⟩]) (k+x.size)):=hid (by
         have:=N.token (p:=⟨3,k,x,0⟩) i (by show ¬((4:Nat)=0∨(4:Nat)=5);decide) ⟨rfl,rfl,rfl,fun h=>by cases h⟩
         rwa [Zd]at this)
        have b7:0<x.size:=by rw[<-Zd,hx];exact Ycj.2 Z
        have b8:x.toList.isEmpty=false:=by
         rw[Zbt,hx];cases m with
         | nil=>exact absurd rfl Z
         | cons=>rfl
        have b9:=K.1;clear hx O i
        go_wp2_with (at_builtin;refine wpList_append_own _ rfl (.tmp 24) (.tmp 28) 159 rfl w.heap.size 167 i0 (.agg #[Vi 0,Vi 0,.string ByteArray.empty,Vi 0]) 4 40 underlying159 U G H I rfl Dc _ _ _ rfl (c.alloc _) ⟨j.heap.size,0,none⟩ 1 1 [Vi 3,Vi k,.string x,Vi 0] rfl rfl ?c1 ?c2 ?c3 ?c4 ?c5 ?_)
        case c1=>exact Zen rfl
        case c2=>intro u o;simp at o;rcases o with rfl|rfl|rfl|rfl <;> rfl
        case c3=>unfold maxLen;omega
        case c4=>omega
        case c5=>simp;omega
        intro v' y a b _;have z:Hid (BW w y):=hid ((P.alloc J _).grown b (by simp;omega) (fun q C=>(c.lt q C).1))
        have f:y.ownsRow w.heap.size 167 4 v' (ps++[(⟨3,k,x,0⟩:PTok)]).length (ZbC (ps++[(⟨3,k,x,0⟩:PTok)])):=by
         rw[Zer,Yab];exact a
        clear a b c;go_wp2
        go_roundg (s.size - (k+x.size))
        case measure=>omega
        case rel=>exact⟨_,k+x.size,rfl,by first|rfl|go_num,K,f,z⟩
     ·obtain⟨E,A⟩:∃E,E=k+run Zp ((bl s).drop k):=⟨_,rfl⟩
      have S:Hid (∀w,CP 117 #[.string s,Vi k,.func (.func 119) #[] #[]] w fun e j=>e=.returned (Vi (E:Int))/\j=w):=hid (fun w=>by rw[A];exact ZBD s k w Om hk);have a0:0<run Zp ((bl s).drop k):=by rw[Zj5 s k F W];omega
      have T:=Zg6 Zp ((bl s).drop k);rw[Ybv,Zd]at T;have b1:k<E:=by omega
      have b2:E<=s.size:=by omega
      have O:Hid (bl (s.extract k E)=((bl s).drop k).take (run Zp ((bl s).drop k))):=hid (by rw[Zfh,Yc8,A];congr 1;omega);have i:=Zx3 F Q.out W;rw[<-O.out,<-A]at i;have B:(s.extract k E).size=run Zp ((bl s).drop k):=by rw[ZU O.out,Ya7,Ybv,Zd];omega
      have a1:Hid (Zx (bl (s.extract k E))=decide (run Zp ((bl s).drop k)<=8)):=hid (by
       unfold Zx;rw[O.out,Zm2,Ya7,Ybv,Zd];rw[Yc3 Om];by_cases h8:run Zp ((bl s).drop k)<=8
       ·simp[h8];omega
       ·simp[h8];omega)
      have a2:(s.extract k E).size<=6000:=by omega
      obtain⟨sx,D⟩:∃sx,sx=s.extract k E:=⟨_,rfl⟩
      rw[<-D]at i a2 a1;have L:Hid (sx=s.extract k E):=D;by_cases h8:8<run Zp ((bl s).drop k)
      ·rw[if_pos h8]at i;have R:Hid (Zci (ps++[⟨5,k,⟨#[]⟩,0⟩]) (ZN (bl s) ((bl s).length+1) 0)):=hid (N.done (t:=⟨5,[],k⟩) (e:=E) i (Or.inr rfl) ⟨rfl,rfl,rfl,fun h=>by cases h⟩);have a6:Hid (Zx (bl sx)=false):=hid (by rw[a1.out];exact decide_eq_false Om);clear i A D a0 T h8 B O a1
       go_wp2_with fail
       refine(Zdk).mono ?_;rintro e j ⟨rfl,rfl⟩;rw[Q.out]
       go_wp2_with fail
       refine(Zd2).mono ?_;rintro e j ⟨rfl,rfl⟩;rw[W]
       go_wp2_with fail
       refine(S.out _).mono ?_;rintro e j ⟨rfl,rfl⟩
       go_wp2_with fail
       rw[<-L.out];refine(Znv sx a2).mono ?_;rintro e j ⟨rfl,rfl⟩;rw[a6.out]
       go_wp2_with (at_builtin;refine wpList_append_own _ rfl (.tmp 127) (.tmp 130) 159 rfl w.heap.size 167 i0 (.agg #[Vi 0,Vi 0,.string ByteArray.empty,Vi 0]) 4 40 underlying159 U G H I rfl Dc _ _ _ rfl (c.alloc _) ⟨j.heap.size,0,none⟩ 1 1 [Vi 5,Vi k,.string ⟨#[]⟩,Vi 0] rfl rfl ?c1 ?c2 ?c3 ?c4 ?c5 ?_)
       case c1=>exact Zen rfl
       case c2=>intro u o;simp at o;rcases o with rfl|rfl|rfl|rfl <;> rfl
       case c3=>unfold maxLen;omega
       case c4=>omega
       case c5=>simp;omega
       intro v' y a b _;have z:Hid (BW w y):=hid ((P.alloc J _).grown b (by simp;omega) (fun q C=>(c.lt q C).1))
       have f:y.ownsRow w.heap.size 167 4 v' (ps++[(⟨5,k,⟨#[]⟩,0⟩:PTok)]).length (ZbC (ps++[(⟨5,k,⟨#[]⟩,0⟩:PTok)])):=by
        rw[Zer,Yab];exact a
       clear a b c;go_wp2
       try rw[Ycl]
       go_ret;exact⟨_,_,rfl,Zin f,R,z.out⟩
      ·rw[if_neg h8]at i;have K:Hid (Zct s (ps++[⟨1,k,sx,0⟩]) E):=N.token (t:=⟨2,bl sx,k⟩) i (by show ¬((2:Nat)=0∨(2:Nat)=5);decide) ⟨rfl,rfl,rfl,fun h=>by cases h⟩;have a6:Hid (Zx (bl sx)=true):=hid (by rw[a1.out];exact decide_eq_true Om);clear i A D a0 T h8 B O a1
       go_wp2_with fail
       refine(Zdk).mono ?_;rintro e j ⟨rfl,rfl⟩;rw[Q.out]
       go_wp2_with fail
       refine(Zd2).mono ?_;rintro e j ⟨rfl,rfl⟩;rw[W]
       go_wp2_with fail
       refine(S.out _).mono ?_;rintro e j ⟨rfl,rfl⟩
       go_wp2_with fail
       rw[<-L.out];refine(Znv sx a2).mono ?_;rintro e j ⟨rfl,rfl⟩;rw[a6.out]
       go_wp2_with (at_builtin;refine wpList_append_own _ rfl (.tmp 78) (.tmp 85) 159 rfl w.heap.size 167 i0 (.agg #[Vi 0,Vi 0,.string ByteArray.empty,Vi 0]) 4 40 underlying159 U G H I rfl Dc _ _ _ rfl (c.alloc _) ⟨j.heap.size,0,none⟩ 1 1 [Vi 1,Vi k,.string (s.extract k E),Vi 0] rfl rfl ?c1 ?c2 ?c3 ?c4 ?c5 ?_)
       case c1=>exact Zen rfl
       case c2=>intro u o;simp at o;rcases o with rfl|rfl|rfl|rfl <;> rfl
       case c3=>unfold maxLen;omega
       case c4=>omega
       case c5=>simp;omega
       intro v' y a b _;have z:Hid (BW w y):=hid ((P.alloc J _).grown b (by simp;omega) (fun q C=>(c.lt q C).1))
       have f:y.ownsRow w.heap.size 167 4 v' (ps++[(⟨1,k,sx,0⟩:PTok)]).length (ZbC (ps++[(⟨1,k,sx,0⟩:PTok)])):=by
        rw[Zer,Yab,L.out];exact a
       clear a b c;go_wp2
       go_roundg (s.size - E)
       case measure=>omega
       case rel=>exact⟨_,E,rfl,by first|rfl|go_num,K,f,z⟩
    ·obtain⟨E,A⟩:∃E,E=k+run ZC ((bl s).drop k):=⟨_,rfl⟩
     have S:Hid (∀w,CP 117 #[.string s,Vi k,.func (.func 116) #[] #[]] w fun e j=>e=.returned (Vi (E:Int))/\j=w):=hid (fun w=>by rw[A];exact ZBB s k w Om hk);have a0:0<run ZC ((bl s).drop k):=by rw[Zj5 s k F V];omega
     have T:=Zg6 ZC ((bl s).drop k);rw[Ybv,Zd]at T;have b1:k<E:=by omega
     have b2:E<=s.size:=by omega
     have O:Hid (bl (s.extract k E)=((bl s).drop k).take (run ZC ((bl s).drop k))):=hid (by rw[Zfh,Yc8,A];congr 1;omega);have i:=Zx2 F V;rw[<-O.out,<-A]at i;have B:(s.extract k E).size<=6000:=by simp;omega
     obtain⟨sx,D⟩:∃sx,sx=s.extract k E:=⟨_,rfl⟩
     rw[<-D]at i B;have L:Hid (sx=s.extract k E):=D;cases M:ZQ 1000000000 (bl sx)with
     | none=>
      rw[M]at i;have R:Hid (Zci (ps++[⟨5,k,⟨#[]⟩,0⟩]) (ZN (bl s) ((bl s).length+1) 0)):=hid (N.done (t:=⟨5,[],k⟩) (e:=E) i (Or.inr rfl) ⟨rfl,rfl,rfl,fun h=>by cases h⟩);have a7:Hid (numT 1000000000 (bl sx)=.tuple #[Vi 0,.bool false]):=Zgg M;clear M i A D a0 T
      go_wp2_with fail
      refine(Zdk).mono ?_;rintro e j ⟨rfl,rfl⟩;rw[V]
      go_wp2_with fail
      refine(S.out _).mono ?_;rintro e j ⟨rfl,rfl⟩
      go_wp2_with fail
      rw[<-L.out];refine(Zkv sx 1000000000 B Dc Dc).mono ?_;rintro e j ⟨rfl,rfl⟩;rw[a7.out]
      go_wp2_with (at_builtin;refine wpList_append_own _ rfl (.tmp 127) (.tmp 130) 159 rfl w.heap.size 167 i0 (.agg #[Vi 0,Vi 0,.string ByteArray.empty,Vi 0]) 4 40 underlying159 U G H I rfl Dc _ _ _ rfl (c.alloc _) ⟨j.heap.size,0,none⟩ 1 1 [Vi 5,Vi k,.string ⟨#[]⟩,Vi 0] rfl rfl ?c1 ?c2 ?c3 ?c4 ?c5 ?_)
      case c1=>exact Zen rfl
      case c2=>intro u o;simp at o;rcases o with rfl|rfl|rfl|rfl <;> rfl
      case c3=>unfold maxLen;omega
      case c4=>omega
      case c5=>simp;omega
      intro v' y a b _;have z:Hid (BW w y):=hid ((P.alloc J _).grown b (by simp;omega) (fun q C=>(c.lt q C).1))
      have f:y.ownsRow w.heap.size 167 4 v' (ps++[(⟨5,k,⟨#[]⟩,0⟩:PTok)]).length (ZbC (ps++[(⟨5,k,⟨#[]⟩,0⟩:PTok)])):=by
       rw[Zer,Yab];exact a
      clear a b c;go_wp2
      try rw[Ycl]
      go_ret;exact⟨_,_,rfl,Zin f,R,z.out⟩
     | some v=>
      rw[M]at i;have K:Hid (Zct s (ps++[⟨0,k,sx,v⟩]) E):=N.token (t:=⟨1,bl sx,k⟩) i (by show ¬((1:Nat)=0∨(1:Nat)=5);decide) ⟨rfl,rfl,rfl,fun _=>by unfold numV;rw[M];rfl⟩;have a7:Hid (numT 1000000000 (bl sx)=.tuple #[Vi v,.bool true]):=ZjO M;clear M i A D a0 T
      go_wp2_with fail
      refine(Zdk).mono ?_;rintro e j ⟨rfl,rfl⟩;rw[V]
      go_wp2_with fail
      refine(S.out _).mono ?_;rintro e j ⟨rfl,rfl⟩
      go_wp2_with fail
      rw[<-L.out];refine(Zkv sx 1000000000 B Dc Dc).mono ?_;rintro e j ⟨rfl,rfl⟩;rw[a7.out]
      go_wp2_with (at_builtin;refine wpList_append_own _ rfl (.tmp 55) (.tmp 63) 159 rfl w.heap.size 167 i0 (.agg #[Vi 0,Vi 0,.string ByteArray.empty,Vi 0]) 4 40 underlying159 U G H I rfl Dc _ _ _ rfl (c.alloc _) ⟨j.heap.size,0,none⟩ 1 1 [Vi 0,Vi k,.string (s.extract k E),Vi v] rfl rfl ?c1 ?c2 ?c3 ?c4 ?c5 ?_)
      case c1=>exact Zen rfl
      case c2=>intro u o;simp at o;rcases o with rfl|rfl|rfl|rfl <;> rfl
      case c3=>unfold maxLen;omega
      case c4=>omega
      case c5=>simp;omega
      intro v' y a b _;have z:Hid (BW w y):=hid ((P.alloc J _).grown b (by simp;omega) (fun q C=>(c.lt q C).1))
      have f:y.ownsRow w.heap.size 167 4 v' (ps++[(⟨0,k,sx,v⟩:PTok)]).length (ZbC (ps++[(⟨0,k,sx,v⟩:PTok)])):=by
       rw[Zer,Yab,L.out];exact a
      clear a b c;go_wp2
      go_roundg (s.size - E)
      case measure=>omega
      case rel=>exact⟨_,E,rfl,by first|rfl|go_num,K,f,z⟩
  ·have a8:k=s.size:=by omega
   have R:Hid (Zci (ps++[⟨4,k,⟨#[]⟩,0⟩]) (ZN (bl s) ((bl s).length+1) 0)):=hid (by
    exact N.done (t:=⟨0,[],s.size⟩) (e:=s.size) (by rw[a8];exact ZqF s) (Or.inl rfl) ⟨rfl,a8,rfl,fun h=>by cases h⟩)
   clear a8
   go_wp2_with (at_builtin;refine wpList_append_own _ rfl (.tmp 132) (.tmp 135) 159 rfl w.heap.size 167 i0 (.agg #[Vi 0,Vi 0,.string ByteArray.empty,Vi 0]) 4 40 underlying159 U G H I rfl Dc _ _ _ rfl (c.alloc _) ⟨wr.heap.size,0,none⟩ 1 1 [Vi 4,Vi k,.string ⟨#[]⟩,Vi 0] rfl rfl ?c1 ?c2 ?c3 ?c4 ?c5 ?_)
   case c1=>exact Zen rfl
   case c2=>intro u o;simp at o;rcases o with rfl|rfl|rfl|rfl <;> rfl
   case c3=>unfold maxLen;omega
   case c4=>omega
   case c5=>simp;omega
   intro v' y a b _;have z:Hid (BW w y):=hid ((P.alloc J _).grown b (by simp;omega) (fun q C=>(c.lt q C).1))
   have b3:Hid (y.ownsRow 0 167 4 v' (ps++[(⟨4,k,⟨#[]⟩,0⟩:PTok)]).length (ZbC (ps++[(⟨4,k,⟨#[]⟩,0⟩:PTok)]))):=hid (by
    rw[Zer,Yab];refine⟨a.1,?_⟩;rcases a.2 with h2|⟨g,cap,cur,h,_,r⟩
    ·exact Or.inl h2
    ·exact Or.inr ⟨g,cap,cur,h,Yag _,r⟩)
   clear a b c;go_wp2
   try rw[Ycl]
   go_ret;exact⟨_,_,rfl,b3.out,R,z.out⟩
theorem ZfJ(a:k≠2)(b:k≠4)(c:k<=5):Zdt ⟨k,x,j⟩/\(⟨k,x,j⟩:Tok).jj<=5:=⟨⟨fun h=>absurd h a,fun h=>absurd h b⟩,c⟩
theorem ZEG(h:x.all Zp=true):Zdt ⟨2,x,j⟩/\(⟨2,x,j⟩:Tok).jj<=5:=⟨⟨fun _=>h,fun h=>absurd (show(2:Nat)=4 from h) Dc⟩,by show(2:Nat)<=5;decide⟩
theorem Zs7(h:x.all (fun c=>!Zp c)=true):Zdt ⟨4,x,j⟩/\(⟨4,x,j⟩:Tok).jj<=5:=⟨⟨fun h=>absurd (show(4:Nat)=2 from h) Dc,fun _=>h⟩,by show(4:Nat)<=5;decide⟩
theorem Zyi{l:LB}{r:LB}:Zdt (lexC l j c r).1/\(lexC l j c r).1.jj<=5:=by
 unfold lexC;split
 ·split
  ·exact ZfJ Dc Dc Dc
  ·exact ZfJ Dc Dc Dc
 ·rename_i hd;split
  ·split
   ·exact ZfJ Dc Dc Dc
   ·exact ZEG (Zm2 Zp _)
  ·rename_i a;split
   ·split
    ·exact ZfJ Dc Dc Dc
    ·split
     ·exact ZfJ Dc Dc Dc
     ·exact ZfJ Dc Dc Dc
   ·split
    ·exact Zs7 Dc
    ·split
     ·refine Zs7 ?_;show([c].all fun c=>!Zp c)=true;have:Zp c=false:=Yce.2 a;simp[this]
     ·exact ZfJ Dc Dc Dc
theorem Zyd(l:LB)(i:Nat):Zdt (Zk l i).1/\(Zk l i).1.jj<=5:=by
 unfold Zk lexJ;split
 ·exact ZfJ Dc Dc Dc
 ·exact Zyi
theorem ZsQ(l:LB):∀(n i:Nat),i<=l.length->l.length+1<=n+i->ZeQ (ZN l n i)
 | 0,i,a,b=>absurd b Om
 | n + 1, i, a, b => by
   show ZeQ (if (Zk l i).1.jj=0∨(Zk l i).1.jj=5 then [(Zk l i).1] else (Zk l i).1::ZN l n (Zk l i).2);by_cases h:(Zk l i).1.jj=0∨(Zk l i).1.jj=5
   · rw[if_pos h];exact h
   · rw[if_neg h]
     have c:=Zig l i a;have d:=Zyd l i;have ih:=ZsQ l n (Zk l i).2 c.2 (by have:=c.1 (fun e=>h (Or.inl e));omega);cases f:ZN l n (Zk l i).2 with
     | nil=>rw[f]at ih;exact ih.elim
     | cons u m=>
       rw[f]at ih;exact⟨by have:=d.2;omega,d.1,ih⟩
theorem Zt3{b:Nat}(h:w.grownBy w' (some b))(a:B<=b)(c:B<=w.heap.size):Below B w w':=
 ⟨h.os,h.tape,h.output,h.size,fun j d=>h.block j Om (fun e=>by injection e with e;omega)⟩
def RdIs(w:World)(lg sy dp tp:Addr)(r:Except (Nat×Nat) Tr)(pv v:Value):Prop:=match r with
 | .ok t=>v=.nilIface/\Zh w t pv
 | .error x=>(x=(1,0)/\v=.iface 491 (.pointer (some lg)))∨(x=(4,0)/\v=.iface 491 (.pointer (some tp)))∨(x.1=2/\ZM w v x.2 sy)∨(x.1=3/\ZM w v x.2 dp)
theorem RdIs.error{x:Nat×Nat}(a:r=.error x)(h:(x=(1,0)/\v=.iface 491 (.pointer (some lg)))∨(x=(4,0)/\v=.iface 491 (.pointer (some tp)))∨(x.1=2/\ZM w v x.2 sy)∨(x.1=3/\ZM w v x.2 dp)):RdIs w lg sy dp tp r pv v:=by subst a;exact h
theorem RdIs.fine{t:Tr}(a:r=.ok t)(h:v=.nilIface/\Zh w t pv):RdIs w lg sy dp tp r pv v:=by subst a;exact h
structure Sents (w:World) (lg sy dp tp:Addr):Prop where
 lg:w.cell? ⟨0,0,none⟩=some (.iface 491 (.pointer (some lg)))
 sy:w.cell? ⟨1,0,none⟩=some (.iface 491 (.pointer (some sy)))
 dp:w.cell? ⟨2,0,none⟩=some (.iface 491 (.pointer (some dp)))
 tp:w.cell? ⟨3,0,none⟩=some (.iface 491 (.pointer (some tp)))
theorem Sents.below(h:Sents w lg sy dp tp)(a:BW w w'):Sents w' lg sy dp tp:=
 ⟨(a.cell (p:=⟨_,0,none⟩) (Yai _ _ h.lg)).trans h.lg,(a.cell (p:=⟨_,0,none⟩) (Yai _ _ h.sy)).trans h.sy,(a.cell (p:=⟨_,0,none⟩) (Yai _ _ h.dp)).trans h.dp,(a.cell (p:=⟨_,0,none⟩) (Yai _ _ h.tp)).trans h.tp⟩
theorem Ziu(s:BA)(w:World)(b0:s.size<=9223372036854775807)(I:Sents w lg sy dp tp) :
  CP 36 #[.string s] w fun e w'=>∃pv v:Value,e=.returned (.tuple #[pv,v])/\Hid (RdIs w' lg sy dp tp (ZD (bl s)) pv v)/\BW w w':=by
 by_cases hl:300<s.size
 ·have HR:Hid (ZD (bl s)=.error (1,0)):=hid (by unfold ZD;rw[Zd,if_pos hl]);have hd:(300:Int)<s.size:=by omega
  have b1:=I.lg;clear I;go_enter func36,ntmps36;go_wp2
  go_region
  all_goals
   go_wp2;go_ret2;exact⟨_,_,rfl,RdIs.error HR.out (Or.inl ⟨rfl,rfl⟩),belB⟩
 ·have a0:s.size<=300:=by omega
  have hd:¬((300:Int)<s.size):=by omega
  obtain⟨ts,f⟩:∃ts,ts=ZN (bl s) ((bl s).length+1) 0:=⟨_,rfl⟩
  have a1:Hid (ts.length<=301):=hid (by
   have:=ZjB (bl s) ((bl s).length+1) 0 (Yag _);rw[<-f,Zd]at this;omega)
  have K:Hid (ZeQ ts):=hid (by rw[f];exact ZsQ _ _ _ (Yag _) Om)
  have p:Hid (ZD (bl s)=match Zs (10*ts.length+5) false 0 .nil ts 0 with
   | .error e=>.error e
   | .ok (t,r)=>if (LS.hd r).jj=0 then (if Zf t=0 then .error (4,0)else .ok t)else .error (2,(LS.hd r).at_)):=hid (by
   unfold ZD;rw[Zd,if_neg hl,<-Zd,<-f];cases Zs (10*ts.length+5) false 0 .nil ts 0 with
   | error e=>rfl
   | ok x=>rfl)
  have HS:Hid (Sents w lg sy dp tp):=I;have a2:Hid (ts=ZN (bl s) ((bl s).length+1) 0):=f;clear f I hl;go_enter func36,ntmps36
  go_wp2_with fail
  refine(Zyk s w a0).mono ?_;rintro e y ⟨v,ps,rfl,k,c,q⟩;rw[<-a2.out]at c;have L:Hid (ps.length=ts.length):=c.length;have M:0<ps.length:=by rw[L.out];exact K.head.2.1
  obtain⟨g,cp,rfl⟩:=ZF k M;have N:Hid (y.ownsRow 0 167 4 (.slice (some ⟨g,0,none⟩) ps.length cp) ps.length (ZbC ps)):=k;have l:Hid (BW w y):=q;have O:Hid (Sents y lg sy dp tp):=HS.below q;clear k q
  go_wp2_with fail
  refine Zm fun W J=>?_;have m:BW y W:=by rw[J];exact Zbal
  have a3:Hid (BW w W):=l.trans (m.mono l.size);have P:Hid (Sents W lg sy dp tp):=O.below m;have HK:Hid (RK W ⟨y.heap.size,g,cp,ps,sy,dp⟩ 0 ts):=hid ⟨⟨by rw[J];exact Go.Deep.blk_alloc_new _ _,Zn N.out m,M⟩,c.out,K.out,by show ps.length<=302;rw[L.out];have:=a1.out;omega,P.sy,P.dp⟩;have b2:y.heap.size<W.heap.size:=by rw[J];simp
  have a4:w.heap.size<=y.heap.size:=l.size;clear J m N c O l;refine((ZnQ (10*ts.length+5)).1 0 Dc (10*ts.length+5) (Yac _) W ⟨y.heap.size,g,cp,ps,sy,dp⟩ 0 ts 0 HK.out Dc (by show 10*ts.length+5<=10*ts.length+5+0;omega)).mono ?_;rintro e z ⟨pv,v,rfl,a5,d,Q⟩;have R:Below w.heap.size W z:=Zt3 Q a4 Om;have h:Hid (BW w z):=a3.trans R;have b3:Hid (Sents z lg sy dp tp):=HS.below h.out;clear Q R;cases a:Zs (10*ts.length+5) false 0 .nil ts 0 with
  | error er=>
   have A:=hid (d.err a);obtain⟨fa,rfl⟩:=A.shape;have a6:Hid (ZD (bl s)=.error er):=hid (by rw[p.out,a]);clear d a;go_wp2;go_ret2;exact⟨_,_,rfl,RdIs.error a6.out (Or.inr (Or.inr A.out)),h.out⟩
  | ok pr=>
   obtain⟨t,r⟩:=pr;obtain⟨rfl,⟨k2,S⟩,B⟩:=d.good a;have C:Hid (RK z ⟨y.heap.size,g,cp,ps,sy,dp⟩ k2 r):=S;have T:Hid (Zh z t pv):=B;have D:Hid (ZD (bl s)=if (LS.hd r).jj=0 then (if Zf t=0 then .error (4,0)else .ok t)else .error (2,(LS.hd r).at_)):=hid (by rw[p.out,a]);obtain⟨ty,u,a7⟩:=Zh.shape B;subst a7;clear d a S B a5 p
   go_wp2_with fail
   refine(Zee C.out).mono ?_;rintro e w3 ⟨⟨kd,at_,tx,tv⟩,rfl,ht,n⟩;have i:Hid (BW w w3):=h.trans (n.mono h.size);have U:=hid (C.below n);have V:Hid (Zh w3 t (.iface ty u)):=T.below n;clear n h C T;have o:=Ze0 U.wf.head.2.2;by_cases b:(LS.hd r).jj=0
   ·have X:kd=4:=by have:=ht.1;simp only at this;rw[this,o.2.2.2.2.2 b]
    subst X;have E:Hid (ZD (bl s)=if Zf t=0 then .error (4,0)else .ok t):=hid (by rw[D.out,if_pos b]);have hf:∀W:World,(Instr.field 167 (.agg #[Vi 4,Vi at_,.string tx,Vi tv]) 0).run prog W=.ok (Vi 4) W:=fun _=>rfl;clear b o ht
    go_wp2_with fail
    refine(Zl2 t w3 _ tp V.out (HS.below i.out).tp).mono ?_;rintro e w4 ⟨kd,err,rfl,F,G⟩;have Y:Hid (BW w w4):=i.trans (G.mono i.size);have a8:Hid (Zh w4 t (.iface ty u)):=V.below G;clear G;rcases F.out with ⟨H,rfl⟩|⟨H,rfl,rfl⟩|⟨H,rfl,rfl⟩
    ·have j:Hid (ZD (bl s)=.error (4,0)):=hid (by rw[E.out,if_pos H]);clear F H;go_wp2;go_ret2;exact⟨_,_,rfl,RdIs.error j.out (Or.inr (Or.inl ⟨rfl,rfl⟩)),Y.out⟩
    all_goals
     have j:Hid (ZD (bl s)=.ok t):=hid (by rw[E.out,if_neg Om]);clear F H;go_wp2;go_ret2;exact⟨_,_,rfl,RdIs.fine j.out ⟨rfl,a8.out⟩,Y.out⟩
   ·have X:((kd:Int) != 4)=true:=by
     rw[bne_iff_ne];intro e;exact b (o.2.2.2.2.1 (by have:=ht.1;simp only at this;omega))
    have j:Hid (ZD (bl s)=.error (2,(LS.hd r).at_)):=hid (by rw[D.out,if_neg b]);have hf:∀W:World,(Instr.field 167 (.agg #[Vi kd,Vi at_,.string tx,Vi tv]) 0).run prog W=.ok (Vi kd) W:=fun _=>rfl;clear b o
    go_wp2_with fail
    refine(Zfi U.out).mono ?_;rintro e wE ⟨v,rfl,A,Z⟩;obtain⟨fa,rfl⟩:=A.shape;have a9:Hid (BW w wE):=i.trans (Z.mono i.size);clear Z;go_wp2;go_ret2;exact⟨_,_,rfl,RdIs.error j.out (Or.inr (Or.inr A.out)),a9.out⟩
theorem ZoD{y:LB}(m:Int)(w:World)(g:s.size<=70000)(d:w.cell? ⟨14,0,none⟩=some (Vi m))(h:cut c (bl s)=some (x,y)) :
  CP 91 #[.string s,.string ⟨#[c]⟩] w fun e u=>∃a b:BA,e=.returned (.tuple #[.string a,.string b,.bool true])/\Hid (bl a=x/\bl b=y)/\∃n,u=w.drewN n:=by
 refine(strings_Cut s ⟨#[c]⟩ m w Om d).mono ?_;rintro e u ⟨rfl,f⟩;have e1:Lib.cut s.data.toList (⟨#[c]⟩:BA).data.toList=(x,y,true):=Zyn h;rw[e1];exact⟨_,_,rfl,⟨ZbF x,ZbF y⟩,f⟩
theorem ZoF(m:Int)(w:World)(g:s.size<=70000)(d:w.cell? ⟨14,0,none⟩=some (Vi m))(h:cut c (bl s)=none) :
  CP 91 #[.string s,.string ⟨#[c]⟩] w fun e u=>∃a b:BA,e=.returned (.tuple #[.string a,.string b,.bool false])/\Hid (bl a=bl s/\bl b=[])/\∃n,u=w.drewN n:=by
 refine(strings_Cut s ⟨#[c]⟩ m w Om d).mono ?_;rintro e u ⟨rfl,f⟩;have e1:Lib.cut s.data.toList (⟨#[c]⟩:BA).data.toList=(bl s,[],false):=Zym h;rw[e1];exact⟨_,_,rfl,⟨ZbF _,ZbF _⟩,f⟩
def ZfN(w:World)(g:Nat)(ps:List (LB)):Prop:=g<w.heap.size/\∀i,i<ps.length->∃s:BA,w.cell? ⟨g,i,none⟩=some (.string s)/\bl s=ps.getD i []
theorem ZfN.below{g:Nat}{ps:List (LB)}(h:ZfN w g ps)(a:Below B w w')(b:g<B):ZfN w' g ps:=
 ⟨Yaw h.1 a.size, fun i c => by
   obtain⟨s,d,e⟩:=h.2 i c;exact⟨s,(a.cell (p:=⟨g,i,none⟩) b).trans d,e⟩⟩
