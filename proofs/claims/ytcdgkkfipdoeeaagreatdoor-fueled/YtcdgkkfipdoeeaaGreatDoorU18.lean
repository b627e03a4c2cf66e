/- Parts. -/
import Derived.Test.YtcdgkkfipdoeeaaGreatDoorU09
import Derived.Test.YtcdgkkfipdoeeaaGreatDoorU17
set_option linter.all false
set_option maxRecDepth 100000
set_option maxHeartbeats 16000000
namespace Go.Proofs.YtcdgkkfipdoeeaaGreatDoor
open Go.RowKit LS Go.Proofs.Tryz
variable {dp lg sy tp:Addr}{r:Except (Nat×Nat) Tr}{x:LB}{j n:Nat}{pv v:Value}{W w w':World}
theorem Tryz.infoTok:(Tryz.prog.info? 74).map (fun i=>(i.zero,i.size,i.bytes))=some (some (.agg #[Vi 0,Vi 0,.string ByteArray.empty,Vi 0]),4,40):=by kernel_rfl
theorem Zen{a b c d:Value}{t:TypeId}(e:W.heap.size=n):∀j x,[a,b,c,d][j]?=some x->(W.alloc (.cells #[a,b,c,d] t)).cell? ((⟨n,0,none⟩:Addr).add j)=some x:=by
 intro j x f;subst e;rw[ZfO];have h:=Go.Deep.blk_alloc_new W (.cells #[a,b,c,d] t);simp only[World.cell?,h];simpa using f
theorem Zm2(p:UInt8->Bool):∀l:LB,(l.take (run p l)).all p=true
 | []=>rfl
 | b :: l => by
   unfold run;split
   · rename_i h;simp[h];exact fun x a=>(Ybu.1 (Zm2 p l)) x a
   · rfl
theorem Zin{base:Nat}{e:TypeId}{size:Nat}{xs:List Value}(h:w.ownsRow base e size v n xs):w.ownsRow 0 e size v n xs:=by
 refine⟨h.1,?_⟩;rcases h.2 with a|⟨g,cap,cur,h,_,r⟩
 ·exact .inl a
 ·exact .inr ⟨g,cap,cur,h,Yag _,r⟩
theorem Zyk(s:BA)(w:World)(hs:s.size<=300) :
  CP 27 #[.string s] w fun e o=>∃(v:Value) (ps:List PTok),e=.returned v/\o.ownsRow 0 74 4 v ps.length (ZbC ps)/\Hid (Zci ps (ZN (bl s) ((bl s).length+1) 0))/\BW w o:=by
 obtain⟨i0,V,H,I,J⟩:=info_parts Tryz.infoTok;go_enter func27,ntmps27;go_wp2
 go_step3
 go_wp2
 go_step3
 go_wp2
 go_loopg [3,4] s.size (fun gg v3 v4 wr=>∃(ps:List PTok) (k:Nat),gg=s.size - k/\v4=Vi k/\Hid (Zct s ps k)/\wr.ownsRow w.heap.size 74 4 v3 ps.length (ZbC ps)/\Hid (BW w wr))
 case atStart=>exact⟨[],0,rfl,rfl,Zct.start s,Ybc _ _ _ _,Yaf _ _⟩
 case round=>
  obtain⟨ps,k,b7,rfl,O,c,Q⟩:=hrel;have hk:=O.1;have b8:=O.2.1;have K:=Q.size;by_cases a5:k<s.size
  ·by_cases a6:s[k]=32
   ·have L:=hid (O.skip _ a6);go_wp2
    go_roundg (s.size - (k+1))
    case measure=>omega
    case rel=>exact⟨ps,k+1,rfl,by go_num,L,c,Q⟩
   ·have c32:((s[k].toNat:Int) == 32)=false:=by
     rw[beq_eq_false_iff_ne];intro e;exact a6 (Ydf.1 (by show s[k].toNat=32;omega))
    cases W:ZC s[k]
    ·have R:=hid W;clear W;cases X:Zp s[k]
     ·have a3:=hid X;clear X;by_cases Y:s[k]=34
      ·have c34:((s[k].toNat:Int) == 34)=true:=by rw[Y];rfl
       have HK:=hid Y;clear Y
       go_wp2_with fail
       refine(Zdk).mono ?_;rintro e o ⟨rfl,rfl⟩;rw[R]
       go_wp2_with fail
       refine(Zd2).mono ?_;rintro e wq ⟨rfl,rfl⟩;rw[a3];go_wp2;obtain⟨L3,b1⟩:∃L3,L3=u3:=⟨_,rfl⟩
       go_loopg [3,4,10] (s.size - (k+1)) (fun gi x3 x4 v10 wi=>∃n:Nat,x3=L3/\x4=Vi (k:Int)/\gi=s.size - (k+1+n)/\v10=Vi ((k+1+n:Nat):Int)/\Hid (QRel s k n)/\wi=wq)
       case atStart=>exact⟨0,b1.symm,rfl,rfl,by go_num,QRel.start a5,rfl⟩
       case round=>
        obtain⟨n,e3,rfl,b9,rfl,HQ,rfl⟩:=hrel;subst e3;subst b1;have hn:=HQ.1;by_cases b2:k+1+n<s.size
        ·by_cases B:s[k+1+n]=34
         ·have cE:((s[k+1+n].toNat:Int) == 34)=true:=by rw[B];rfl
          have L:=hid (HQ.shut O _ HK _ B);clear B
          go_wp2_with (at_builtin;refine wpList_append_own _ rfl (.tmp 103) (.tmp 111) 66 rfl w.heap.size 74 i0 (.agg #[Vi 0,Vi 0,.string ByteArray.empty,Vi 0]) 4 40 underlying66 V H I J rfl Dc _ _ _ rfl (c.alloc _) ⟨wr.heap.size,0,none⟩ 1 1 [Vi 2,Vi k,.string (s.extract (k+1) (k+1+n)),Vi 0] rfl rfl ?c1 ?c2 ?c3 ?c4 ?c5 ?_)
          case c1=>exact Zen rfl
          case c2=>intro u z;simp at z;rcases z with rfl|rfl|rfl|rfl <;> rfl
          case c3=>unfold maxLen;omega
          case c4=>omega
          case c5=>simp;omega
          intro v' D f a _;have A:=hid ((Q.alloc K _).grown a (by simp;omega) (fun q F=>(c.lt q F).1));have i:D.ownsRow w.heap.size 74 4 v' (ps++[(⟨2,k,s.extract (k+1) (k+1+n),0⟩:PTok)]).length (ZbC (ps++[(⟨2,k,s.extract (k+1) (k+1+n),0⟩)])):=by rwa [Zer,Yab]
          clear f a c;go_wp2
          go_roundg (s.size - (k+1+n+1))
          case measure=>omega
          case rel=>exact⟨_,k+1+n+1,rfl,by first|rfl|go_num,L,i,A⟩
         ·have cE:((s[k+1+n].toNat:Int) == 34)=false:=by
           rw[beq_eq_false_iff_ne];intro e;exact B (Ydf.1 (by show s[k+1+n].toNat=34;omega))
          have a7:(s.extract (k+1) (k+1+n+1)).size<=6000:=by simp;omega
          obtain⟨sx,C⟩:∃sx,sx=s.extract (k+1) (k+1+n+1):=⟨_,rfl⟩
          have M:=hid C;rw[<-C]at a7;cases hw:Z3 (bl sx)
          ·have S:=hid (HQ.bad O _ HK _ B (by rwa [<-C]));have HW:=hid hw;clear B hw C
           go_wp2_with fail
           rw[<-M];refine(Znw _ _ a7).mono ?_;rintro e wq ⟨rfl,rfl⟩;rw[HW]
           go_wp2_with (at_builtin;refine wpList_append_own _ rfl (.tmp 127) (.tmp 130) 66 rfl w.heap.size 74 i0 (.agg #[Vi 0,Vi 0,.string ByteArray.empty,Vi 0]) 4 40 underlying66 V H I J rfl Dc _ _ _ rfl (c.alloc _) ⟨wq.heap.size,0,none⟩ 1 1 [Vi 5,Vi k,.string ⟨#[]⟩,Vi 0] rfl rfl ?c1 ?c2 ?c3 ?c4 ?c5 ?_)
           case c1=>exact Zen rfl
           case c2=>intro u z;simp at z;rcases z with rfl|rfl|rfl|rfl <;> rfl
           case c3=>unfold maxLen;omega
           case c4=>omega
           case c5=>simp;omega
           intro v' D f a _;have A:=hid ((Q.alloc K _).grown a (by simp;omega) (fun q F=>(c.lt q F).1));have i:D.ownsRow w.heap.size 74 4 v' (ps++[(⟨5,k,⟨#[]⟩,0⟩:PTok)]).length (ZbC (ps++[(⟨5,k,⟨#[]⟩,0⟩)])):=by rwa [Zer,Yab]
           clear f a c;go_wp2
           try rw[Ycl]
           go_ret;exact⟨_,_,rfl,Zin i,S,A⟩
          ·have b3:=hid (HQ.go _ B (by rwa [<-C]));have HW:=hid hw;clear B hw C
           go_wp2_with fail
           rw[<-M];refine(Znw _ _ a7).mono ?_;rintro e wq ⟨rfl,rfl⟩;rw[HW];go_wp2
           go_roundg (s.size - (k+1+(n+1)))
           case measure=>omega
           case rel=>exact⟨n+1,rfl,rfl,rfl,by go_num,b3,rfl⟩
        ·have S:=hid (HQ.never O _ HK b2)
         go_wp2_with (at_builtin;refine wpList_append_own _ rfl (.tmp 127) (.tmp 130) 66 rfl w.heap.size 74 i0 (.agg #[Vi 0,Vi 0,.string ByteArray.empty,Vi 0]) 4 40 underlying66 V H I J rfl Dc _ _ _ rfl (c.alloc _) ⟨wr.heap.size,0,none⟩ 1 1 [Vi 5,Vi k,.string ⟨#[]⟩,Vi 0] rfl rfl ?c1 ?c2 ?c3 ?c4 ?c5 ?_)
         case c1=>exact Zen rfl
         case c2=>intro u z;simp at z;rcases z with rfl|rfl|rfl|rfl <;> rfl
         case c3=>unfold maxLen;omega
         case c4=>omega
         case c5=>simp;omega
         intro v' D f a _;have A:=hid ((Q.alloc K _).grown a (by simp;omega) (fun q F=>(c.lt q F).1));have i:D.ownsRow w.heap.size 74 4 v' (ps++[(⟨5,k,⟨#[]⟩,0⟩:PTok)]).length (ZbC (ps++[(⟨5,k,⟨#[]⟩,0⟩)])):=by rwa [Zer,Yab]
         clear f a c;go_wp2
         try rw[Ycl]
         go_ret;exact⟨_,_,rfl,Zin i,S,A⟩
      ·have c34:((s[k].toNat:Int) == 34)=false:=by
        rw[beq_eq_false_iff_ne];intro e;exact Y (Ydf.1 (by show s[k].toNat=34;omega))
       have j:=Zx4 a6 R a3 Y;obtain⟨m,hm⟩:∃m,m=Zfs s[k] ((bl s).drop (k+1)):=⟨_,rfl⟩
       rw[<-hm]at j;have HM:=hid hm;clear hm;by_cases a4:m=[]
       ·rw[if_pos a4]at j;have S:Hid (Zci (ps++[⟨5,k,⟨#[]⟩,0⟩]) _):=hid (O.done j (.inr rfl) ⟨rfl,rfl,rfl,fun h=>by cases h⟩);clear j
        go_wp2_with fail
        refine(Zdk).mono ?_;rintro e o ⟨rfl,rfl⟩;rw[R]
        go_wp2_with fail
        refine(Zd2).mono ?_;rintro e o ⟨rfl,rfl⟩;rw[a3]
        go_wp2_with fail
        refine(ZqU s k Om a5).mono ?_;rintro e o ⟨x,rfl,P,rfl⟩;have Z:bl x=[]:=by rwa [P.out,<-HM.out]
        obtain rfl:x=⟨#[]⟩:=by
         cases x with|mk d=>cases d with|mk l=>simp[bl]at Z;subst Z;rfl
        clear Z P
        go_wp2_with (at_builtin;refine wpList_append_own _ rfl (.tmp 127) (.tmp 130) 66 rfl w.heap.size 74 i0 (.agg #[Vi 0,Vi 0,.string ByteArray.empty,Vi 0]) 4 40 underlying66 V H I J rfl Dc _ _ _ rfl (c.alloc _) ⟨o.heap.size,0,none⟩ 1 1 [Vi 5,Vi k,.string ⟨#[]⟩,Vi 0] rfl rfl ?c1 ?c2 ?c3 ?c4 ?c5 ?_)
        case c1=>exact Zen rfl
        case c2=>intro u z;simp at z;rcases z with rfl|rfl|rfl|rfl <;> rfl
        case c3=>unfold maxLen;omega
        case c4=>omega
        case c5=>simp;omega
        intro v' D f a _;have A:=hid ((Q.alloc K _).grown a (by simp;omega) (fun q F=>(c.lt q F).1));have i:D.ownsRow w.heap.size 74 4 v' (ps++[(⟨5,k,⟨#[]⟩,0⟩:PTok)]).length (ZbC (ps++[(⟨5,k,⟨#[]⟩,0⟩)])):=by rwa [Zer,Yab]
        clear f a c;go_wp2
        try rw[Ycl]
        go_ret;exact⟨_,_,rfl,Zin i,S,A⟩
       ·rw[if_neg a4]at j
        go_wp2_with fail
        refine(Zdk).mono ?_;rintro e o ⟨rfl,rfl⟩;rw[R]
        go_wp2_with fail
        refine(Zd2).mono ?_;rintro e o ⟨rfl,rfl⟩;rw[a3]
        go_wp2_with fail
        refine(ZqU s k Om a5).mono ?_;rintro e o ⟨x,rfl,P,rfl⟩;have Z:bl x=m:=by rw[P,<-HM]
        rw[<-Z]at j
        have L:Hid (Zct s (ps++[⟨3,k,x,0⟩]) (k+x.size)):=by
         have:=O.token (p:=⟨3,k,x,0⟩) j (by show ¬((4:Nat)=0∨(4:Nat)=5);decide) ⟨rfl,rfl,rfl,fun h=>by cases h⟩
         rwa [Zd]at this
        have c6:0<x.size:=by rw[<-Zd,Z];exact Ycj.2 a4
        have c7:x.toList.isEmpty=false:=by
         rw[Zbt,Z];cases m with
         | nil=>exact absurd rfl a4
         | cons=>rfl
        have c8:=L.1;clear Z P j
        go_wp2_with (at_builtin;refine wpList_append_own _ rfl (.tmp 24) (.tmp 28) 66 rfl w.heap.size 74 i0 (.agg #[Vi 0,Vi 0,.string ByteArray.empty,Vi 0]) 4 40 underlying66 V H I J rfl Dc _ _ _ rfl (c.alloc _) ⟨o.heap.size,0,none⟩ 1 1 [Vi 3,Vi k,.string x,Vi 0] rfl rfl ?c1 ?c2 ?c3 ?c4 ?c5 ?_)
        case c1=>exact Zen rfl
        case c2=>intro u z;simp at z;rcases z with rfl|rfl|rfl|rfl <;> rfl
        case c3=>unfold maxLen;omega
        case c4=>omega
        case c5=>simp;omega
        intro v' D f a _;have A:=hid ((Q.alloc K _).grown a (by simp;omega) (fun q F=>(c.lt q F).1));have i:D.ownsRow w.heap.size 74 4 v' (ps++[(⟨3,k,x,0⟩:PTok)]).length (ZbC (ps++[(⟨3,k,x,0⟩)])):=by rwa [Zer,Yab]
        clear f a c;go_wp2
        go_roundg (s.size - (k+x.size))
        case measure=>omega
        case rel=>exact⟨_,k+x.size,rfl,by first|rfl|go_num,L,i,A⟩
     ·obtain⟨E,B⟩:∃E,E=k+run Zp ((bl s).drop k):=⟨_,rfl⟩
      have T:Hid (∀w,Calls _ _ _ w fun e o=>e=.returned _/\o=w):=hid (fun w=>B▸ZBD s k w Om hk);have a0:0<run Zp ((bl s).drop k):=by rw[Zj5 s k X];omega
      have U:=Zg6 Zp ((bl s).drop k);rw[Ybv,Zd]at U;have b4:k<E:=by omega
      have b5:E<=s.size:=by omega
      have P:Hid (bl (s.extract k E)=((bl s).drop k).take (run Zp ((bl s).drop k))):=by rw[Zfh,Yc8,B];congr 1;omega
      have j:=Zx3 R X;rw[<-P,<-B]at j;have C:(s.extract k E).size=run Zp ((bl s).drop k):=by rw[ZU P,Ya7,Ybv,Zd];omega
      have a1:Hid (Zx (bl _)=decide (run Zp ((bl s).drop k)<=8)):=hid (by
       unfold Zx;rw[P,Zm2,Ya7,Ybv,Zd];rw[Yc3 Om];by_cases h8:run Zp ((bl s).drop k)<=8
       ·simp[h8];omega
       ·simp[h8];omega)
      have a2:(s.extract k E).size<=6000:=by omega
      obtain⟨sx,G⟩:∃sx,sx=s.extract k E:=⟨_,rfl⟩
      rw[<-G]at j a2 a1;have M:=hid G;by_cases h8:8<run Zp ((bl s).drop k)
      ·rw[if_pos h8]at j;have S:Hid (Zci (ps++[⟨5,k,⟨#[]⟩,0⟩]) _):=hid (O.done j (.inr rfl) ⟨rfl,rfl,rfl,fun h=>by cases h⟩);have a8:Hid _:=a1.out▸decide_eq_false Om;clear j B G a0 U h8 C P a1
       go_wp2_with fail
       refine(Zdk).mono ?_;rintro e o ⟨rfl,rfl⟩;rw[R]
       go_wp2_with fail
       refine(Zd2).mono ?_;rintro e o ⟨rfl,rfl⟩;rw[X]
       go_wp2_with fail
       refine(T _).mono ?_;rintro e o ⟨rfl,rfl⟩
       go_wp2_with fail
       rw[<-M];refine(Znv _ _ a2).mono ?_;rintro e o ⟨rfl,rfl⟩;rw[a8]
       go_wp2_with (at_builtin;refine wpList_append_own _ rfl (.tmp 127) (.tmp 130) 66 rfl w.heap.size 74 i0 (.agg #[Vi 0,Vi 0,.string ByteArray.empty,Vi 0]) 4 40 underlying66 V H I J rfl Dc _ _ _ rfl (c.alloc _) ⟨o.heap.size,0,none⟩ 1 1 [Vi 5,Vi k,.string ⟨#[]⟩,Vi 0] rfl rfl ?c1 ?c2 ?c3 ?c4 ?c5 ?_)
       case c1=>exact Zen rfl
       case c2=>intro u z;simp at z;rcases z with rfl|rfl|rfl|rfl <;> rfl
       case c3=>unfold maxLen;omega
       case c4=>omega
       case c5=>simp;omega
       intro v' D f a _;have A:=hid ((Q.alloc K _).grown a (by simp;omega) (fun q F=>(c.lt q F).1));have i:D.ownsRow w.heap.size 74 4 v' (ps++[(⟨5,k,⟨#[]⟩,0⟩:PTok)]).length (ZbC (ps++[(⟨5,k,⟨#[]⟩,0⟩)])):=by rwa [Zer,Yab]
       clear f a c;go_wp2
       try rw[Ycl]
       go_ret;exact⟨_,_,rfl,Zin i,S,A⟩
      ·rw[if_neg h8]at j;have L:Hid (Zct s (ps++[⟨1,k,sx,0⟩]) E):=O.token j (by show ¬((2:Nat)=0∨(2:Nat)=5);decide) ⟨rfl,rfl,rfl,fun h=>by cases h⟩;have a8:Hid _:=a1.out▸decide_eq_true Om;clear j B G a0 U h8 C P a1
       go_wp2_with fail
       refine(Zdk).mono ?_;rintro e o ⟨rfl,rfl⟩;rw[R]
       go_wp2_with fail
       refine(Zd2).mono ?_;rintro e o ⟨rfl,rfl⟩;rw[X]
       go_wp2_with fail
       refine(T _).mono ?_;rintro e o ⟨rfl,rfl⟩
       go_wp2_with fail
       rw[<-M];refine(Znv _ _ a2).mono ?_;rintro e o ⟨rfl,rfl⟩;rw[a8]
       go_wp2_with (at_builtin;refine wpList_append_own _ rfl (.tmp 78) (.tmp 85) 66 rfl w.heap.size 74 i0 (.agg #[Vi 0,Vi 0,.string ByteArray.empty,Vi 0]) 4 40 underlying66 V H I J rfl Dc _ _ _ rfl (c.alloc _) ⟨o.heap.size,0,none⟩ 1 1 [Vi 1,Vi k,.string (s.extract k E),Vi 0] rfl rfl ?c1 ?c2 ?c3 ?c4 ?c5 ?_)
       case c1=>exact Zen rfl
       case c2=>intro u z;simp at z;rcases z with rfl|rfl|rfl|rfl <;> rfl
       case c3=>unfold maxLen;omega
       case c4=>omega
       case c5=>simp;omega
       intro v' D f a _;have A:=hid ((Q.alloc K _).grown a (by simp;omega) (fun q F=>(c.lt q F).1));have i:D.ownsRow w.heap.size 74 4 v' (ps++[(⟨1,k,sx,0⟩:PTok)]).length (ZbC (ps++[(⟨1,k,sx,0⟩)])):=by rwa [Zer,Yab,M.out]
       clear f a c;go_wp2
       go_roundg (s.size - E)
       case measure=>omega
       case rel=>exact⟨_,E,rfl,by first|rfl|go_num,L,i,A⟩
    ·obtain⟨E,B⟩:∃E,E=k+run ZC ((bl s).drop k):=⟨_,rfl⟩
     have T:Hid (∀w,Calls _ _ _ w fun e o=>e=.returned _/\o=w):=hid (fun w=>B▸ZBB s k w Om hk);have a0:0<run ZC ((bl s).drop k):=by rw[Zj5 s k W];omega
     have U:=Zg6 ZC ((bl s).drop k);rw[Ybv,Zd]at U;have b4:k<E:=by omega
     have b5:E<=s.size:=by omega
     have P:Hid (bl (s.extract k E)=((bl s).drop k).take (run ZC ((bl s).drop k))):=by rw[Zfh,Yc8,B];congr 1;omega
     have j:=Zx2 W;rw[<-P,<-B]at j;have C:(s.extract k E).size<=6000:=by simp;omega
     obtain⟨sx,G⟩:∃sx,sx=s.extract k E:=⟨_,rfl⟩
     rw[<-G]at j C;have M:=hid G;cases N:ZQ 1000000000 (bl sx)with
     | none=>
      rw[N]at j;have S:Hid (Zci (ps++[⟨5,k,⟨#[]⟩,0⟩]) _):=hid (O.done j (.inr rfl) ⟨rfl,rfl,rfl,fun h=>by cases h⟩);have a9:=hid (Zgg N);clear N j B G a0 U
      go_wp2_with fail
      refine(Zdk).mono ?_;rintro e o ⟨rfl,rfl⟩;rw[W]
      go_wp2_with fail
      refine(T _).mono ?_;rintro e o ⟨rfl,rfl⟩
      go_wp2_with fail
      rw[<-M];refine(Zkv _ 1000000000 _ C Dc Dc).mono ?_;rintro e o ⟨rfl,rfl⟩;rw[a9]
      go_wp2_with (at_builtin;refine wpList_append_own _ rfl (.tmp 127) (.tmp 130) 66 rfl w.heap.size 74 i0 (.agg #[Vi 0,Vi 0,.string ByteArray.empty,Vi 0]) 4 40 underlying66 V H I J rfl Dc _ _ _ rfl (c.alloc _) ⟨o.heap.size,0,none⟩ 1 1 [Vi 5,Vi k,.string ⟨#[]⟩,Vi 0] rfl rfl ?c1 ?c2 ?c3 ?c4 ?c5 ?_)
      case c1=>exact Zen rfl
      case c2=>intro u z;simp at z;rcases z with rfl|rfl|rfl|rfl <;> rfl
      case c3=>unfold maxLen;omega
      case c4=>omega
      case c5=>simp;omega
      intro v' D f a _;have A:=hid ((Q.alloc K _).grown a (by simp;omega) (fun q F=>(c.lt q F).1));have i:D.ownsRow w.heap.size 74 4 v' (ps++[(⟨5,k,⟨#[]⟩,0⟩:PTok)]).length (ZbC (ps++[(⟨5,k,⟨#[]⟩,0⟩)])):=by rwa [Zer,Yab]
      clear f a c;go_wp2
      try rw[Ycl]
      go_ret;exact⟨_,_,rfl,Zin i,S,A⟩
     | some v=>
      rw[N]at j;have L:Hid (Zct s (ps++[⟨0,k,sx,v⟩]) E):=O.token (t:=⟨1,bl _,k⟩) j (by show ¬((1:Nat)=0∨(1:Nat)=5);decide) ⟨rfl,rfl,rfl,fun _=>by unfold numV;rw[N];rfl⟩;have a9:=hid (ZjO N);clear N j B G a0 U
      go_wp2_with fail
      refine(Zdk).mono ?_;rintro e o ⟨rfl,rfl⟩;rw[W]
      go_wp2_with fail
      refine(T _).mono ?_;rintro e o ⟨rfl,rfl⟩
      go_wp2_with fail
      rw[<-M];refine(Zkv _ 1000000000 _ C Dc Dc).mono ?_;rintro e o ⟨rfl,rfl⟩;rw[a9]
      go_wp2_with (at_builtin;refine wpList_append_own _ rfl (.tmp 55) (.tmp 63) 66 rfl w.heap.size 74 i0 (.agg #[Vi 0,Vi 0,.string ByteArray.empty,Vi 0]) 4 40 underlying66 V H I J rfl Dc _ _ _ rfl (c.alloc _) ⟨o.heap.size,0,none⟩ 1 1 [Vi 0,Vi k,.string (s.extract k E),Vi v] rfl rfl ?c1 ?c2 ?c3 ?c4 ?c5 ?_)
      case c1=>exact Zen rfl
      case c2=>intro u z;simp at z;rcases z with rfl|rfl|rfl|rfl <;> rfl
      case c3=>unfold maxLen;omega
      case c4=>omega
      case c5=>simp;omega
      intro v' D f a _;have A:=hid ((Q.alloc K _).grown a (by simp;omega) (fun q F=>(c.lt q F).1));have i:D.ownsRow w.heap.size 74 4 v' (ps++[(⟨0,k,sx,v⟩:PTok)]).length (ZbC (ps++[(⟨0,k,sx,v⟩)])):=by rwa [Zer,Yab,M.out]
      clear f a c;go_wp2
      go_roundg (s.size - E)
      case measure=>omega
      case rel=>exact⟨_,E,rfl,by first|rfl|go_num,L,i,A⟩
  ·have b0:k=s.size:=by omega
   have S:Hid (Zci (ps++[⟨4,k,⟨#[]⟩,0⟩]) _):=O.done (t:=⟨0,[],s.size⟩) (e:=s.size) (by rw[b0];exact ZqF s) (Or.inl rfl) ⟨rfl,b0,rfl,fun h=>by cases h⟩;clear b0
   go_wp2_with (at_builtin;refine wpList_append_own _ rfl (.tmp 132) (.tmp 135) 66 rfl w.heap.size 74 i0 (.agg #[Vi 0,Vi 0,.string ByteArray.empty,Vi 0]) 4 40 underlying66 V H I J rfl Dc _ _ _ rfl (c.alloc _) ⟨wr.heap.size,0,none⟩ 1 1 [Vi 4,Vi k,.string ⟨#[]⟩,Vi 0] rfl rfl ?c1 ?c2 ?c3 ?c4 ?c5 ?_)
   case c1=>exact Zen rfl
   case c2=>intro u z;simp at z;rcases z with rfl|rfl|rfl|rfl <;> rfl
   case c3=>unfold maxLen;omega
   case c4=>omega
   case c5=>simp;omega
   intro v' D f a _;have A:=hid ((Q.alloc K _).grown a (by simp;omega) (fun q F=>(c.lt q F).1))
   have b6:Hid (D.ownsRow 0 74 4 v' (ps++[(⟨4,k,⟨#[]⟩,0⟩:PTok)]).length (ZbC (ps++[(⟨4,k,⟨#[]⟩,0⟩)]))):=by
    rw[Zer,Yab];refine⟨f.1,?_⟩;rcases f.2 with h2|⟨g,cap,cur,h,_,r⟩
    ·exact .inl h2
    ·exact .inr ⟨g,cap,cur,h,Yag _,r⟩
   clear f a c;go_wp2
   try rw[Ycl]
   go_ret;exact⟨_,_,rfl,b6,S,A⟩
theorem ZfJ{k:Nat}(a:k≠2)(c:k≠4)(d:k<=5):Zdt ⟨k,x,j⟩/\(⟨k,x,j⟩:Tok).jk<=5:=⟨⟨fun h=>absurd h a,fun h=>absurd h c⟩,d⟩
theorem ZEG(h:x.all Zp=true):Zdt ⟨2,x,j⟩/\(⟨2,x,j⟩:Tok).jk<=5:=⟨⟨fun _=>h,fun h=>absurd (show(2)=4 from h) Dc⟩,by show(2:Nat)<=5;decide⟩
theorem Zs7(h:x.all (fun c=>!Zp c)=true):Zdt ⟨4,x,j⟩/\(⟨4,x,j⟩:Tok).jk<=5:=⟨⟨fun h=>absurd (show(4)=2 from h) Dc,fun _=>h⟩,by show(4:Nat)<=5;decide⟩
theorem Zyi{l:LB}{c:UInt8}{r:LB}:Zdt (lexC l j c r).1/\(lexC l j c r).1.jk<=5:=by
 unfold lexC;split
 ·split
  ·exact ZfJ Dc Dc Dc
  ·exact ZfJ Dc Dc Dc
 ·rename_i hd;split
  ·split
   ·exact ZfJ Dc Dc Dc
   ·exact ZEG (Zm2 _ _)
  ·rename_i a;split
   ·split
    ·exact ZfJ Dc Dc Dc
    ·split
     ·exact ZfJ Dc Dc Dc
     ·exact ZfJ Dc Dc Dc
   ·split
    ·exact Zs7 Dc
    ·split
     ·refine Zs7 ?_;show([c].all fun c=>!Zp c)=true;have:=Yce.2 a;simp[this]
     ·exact ZfJ Dc Dc Dc
theorem Zyd(l:LB)(i:Nat):Zdt (Zk l i).1/\(Zk l i).1.jk<=5:=by
 unfold Zk lexJ;split
 ·exact ZfJ Dc Dc Dc
 ·exact Zyi
theorem ZsQ(l:LB):∀(n i:Nat),i<=l.length->l.length+1<=n+i->ZeQ (ZN l n i)
 | 0,i,a,c=>absurd c Om
 | n + 1, i, a, c => by
   show ZeQ (if (Zk l i).1.jk=0∨(Zk l i).1.jk=5 then [(Zk l i).1] else (Zk l i).1::ZN l n (Zk l i).2);by_cases h:(Zk l i).1.jk=0∨(Zk l i).1.jk=5
   · rw[if_pos h];exact h
   · rw[if_neg h]
     have d:=Zig l i a;have f:=Zyd l i;have ih:=ZsQ l n _ d.2 (by have:=d.1 (fun e=>h (.inl e));omega);cases g:ZN l n (Zk l i).2 with
     | nil=>rw[g]at ih;exact ih.elim
     | cons u m=>
       rw[g]at ih;exact⟨by have:=f.2;omega,f.1,ih⟩
theorem Zt3{b B:Nat}(h:w.grownBy w' (some b))(a:B<=b)(c:B<=w.heap.size):Below B w w':=
 ⟨h.os,h.tape,h.output,h.size,fun j d=>h.block j Om (fun e=>by injection e with e;omega)⟩
def RdIs(w:World)(lg sy dp tp:Addr)(r:Except (Nat×Nat) Tr)(pv v:Value):Prop:=match r with
 | .ok t=>v=.nilIface/\Zh w t pv
 | .error x=>(x=(1,0)/\v=.iface 432 (.pointer (some lg)))∨(x=(4,0)/\v=.iface 432 (.pointer (some tp)))∨(x.1=2/\ZM w v x.2 sy)∨(x.1=3/\ZM w v x.2 dp)
theorem RdIs.error{x:Nat×Nat}(a:r=.error x)(h:(x=(1,0)/\v=.iface 432 (.pointer (some lg)))∨(x=(4,0)/\v=.iface 432 (.pointer (some tp)))∨(x.1=2/\ZM w v x.2 sy)∨(x.1=3/\ZM w v x.2 dp)):RdIs w lg sy dp tp r pv v:=by subst a;exact h
theorem RdIs.fine{t:Tr}(a:r=.ok t)(h:v=.nilIface/\Zh w t pv):RdIs w lg sy dp tp r pv v:=by subst a;exact h
structure Sents (w:World) (lg sy dp tp:Addr):Prop where
 lg:w.cell? ⟨0,0,none⟩=some (.iface 432 (.pointer (some lg)))
 sy:w.cell? ⟨1,0,none⟩=some (.iface 432 (.pointer (some sy)))
 dp:w.cell? ⟨2,0,none⟩=some (.iface 432 (.pointer (some dp)))
 tp:w.cell? ⟨3,0,none⟩=some (.iface 432 (.pointer (some tp)))
theorem Sents.below(h:Sents w lg sy dp tp)(a:BW w w'):Sents w' lg sy dp tp:=
 ⟨(a.cell (Yai _ _ h.lg)).trans h.lg,(a.cell (Yai _ _ h.sy)).trans h.sy,(a.cell (Yai _ _ h.dp)).trans h.dp,(a.cell (Yai _ _ h.tp)).trans h.tp⟩
theorem Ziu(s:BA)(w:World)(b1:s.size<=9223372036854775807)(J:Sents w lg sy dp tp) :
  CP 17 #[.string s] w fun e w'=>∃pv v:Value,e=.returned (.tuple #[pv,v])/\Hid (RdIs w' lg sy dp tp (ZD (bl s)) pv v)/\BW w w':=by
 by_cases hl:300<s.size
 ·have HR:Hid (ZD _=.error _):=hid (by unfold ZD;rw[Zd,if_pos hl]);have hd:(300:Int)<s.size:=by omega
  have b2:=J.lg;clear J;go_enter func17,ntmps17;go_wp2
  go_region
  all_goals
   go_wp2;go_ret2;exact⟨_,_,rfl,RdIs.error HR (.inl ⟨rfl,rfl⟩),belB⟩
 ·have a1:s.size<=300:=by omega
  have hd:¬((300:Int)<s.size):=by omega
  obtain⟨ts,h⟩:∃ts,ts=ZN (bl s) ((bl s).length+1) 0:=⟨_,rfl⟩
  have a2:Hid (ts.length<=301):=hid (by
   have:=ZjB (bl s) ((bl s).length+1) 0 (Yag _);rw[<-h,Zd]at this;omega)
  have L:Hid _:=h▸ZsQ _ _ _ (Yag _) Om
  have q:Hid (ZD (bl s)=match Zs (10*ts.length+5) false 0 .nil ts 0 with
   | .error e=>.error e
   | .ok (t,r)=>if (LS.hd r).jk=0 then (if Zf t=0 then .error (4,0)else .ok t)else .error (2,(LS.hd r).at_)):=by
   unfold ZD;rw[Zd,if_neg hl,<-Zd,<-h];cases Zs (10*ts.length+5) false 0 .nil ts 0 with
   | error e=>rfl
   | ok x=>rfl
  have HS:=hid J;have a3:=hid h;clear h J hl;go_enter func17,ntmps17
  go_wp2_with fail
  refine(Zyk s w a1).mono ?_;rintro e w1 ⟨v,ps,rfl,l,d,A⟩;rw[<-a3]at d;have M:=hid d.length;have N:0<ps.length:=M.out▸L.head.2.1;obtain⟨g,cp,rfl⟩:=ZF l N;have O:=hid l;have m:=hid A;have P:=hid (HS.below A);clear l A
  go_wp2_with fail
  refine Zm fun W K=>?_;have n:Below _ _ W:=K▸Zbal;have a4:=hid (m.trans (n.mono m.size));have Q:=hid (P.below n);have HK:Hid (RK W ⟨w1.heap.size,g,cp,ps,sy,dp⟩ 0 _):=hid ⟨⟨K▸bnw,Zn O n,N⟩,d,L,by show ps.length<=302;rw[M];have:=a2.out;omega,Q.sy,Q.dp⟩;have b3:w1.heap.size<W.heap.size:=by rw[K];simp
  have a5:=m.size;clear K n O d P m;refine((ZnQ _).1 0 Dc _ (Yac _) W _ 0 ts 0 HK.out Dc (by show 10*ts.length+5<=10*ts.length+5+0;omega)).mono ?_;rintro e z ⟨pv,v,rfl,a6,f,R⟩;have S:=Zt3 R a5 Om;have i:=hid (a4.trans S);have b4:=hid (HS.below i);clear R S;cases a:Zs (10*ts.length+5) false 0 .nil ts 0 with
  | error er=>
   have B:=hid (f.err a);obtain⟨fa,rfl⟩:=B.shape;have a7:Hid (ZD _=.error _):=hid (by rw[q,a]);clear f a;go_wp2;go_ret2;exact⟨_,_,rfl,RdIs.error a7 (.inr (.inr B)),i⟩
  | ok pr=>
   obtain⟨t,r⟩:=pr;obtain⟨rfl,⟨k2,T⟩,C⟩:=f.good a;have D:=hid T;have U:=hid C;have E:Hid (ZD _=if (LS.hd r).jk=0 then (if Zf t=0 then .error _ else .ok t)else .error _):=hid (by rw[q,a]);obtain⟨ty,u,a8⟩:=Zh.shape C;subst a8;clear f a T C a6 q
   go_wp2_with fail
   refine(Zee D.out).mono ?_;rintro e w3 ⟨⟨kd,at_,tx,tv⟩,rfl,ht,o⟩;have j:=hid (i.trans (o.mono i.size));have V:=hid (D.below o);have X:=hid (U.below o);clear o i D U;have p:=Ze0 V.wf.head.2.2;by_cases c:(LS.hd r).jk=0
   ·have Y:kd=4:=by have:=ht.1;simp only at this;rw[this,p.2.2.2.2.2 c]
    subst Y;have F:Hid (ZD _=if Zf t=0 then .error _ else .ok t):=hid (by rw[E,if_pos c]);have hf:∀W:World,(Instr.field 74 (.agg #[Vi 4,Vi at_,.string tx,Vi tv]) 0).run prog W=.ok (.int _ 4) W:=fun _=>rfl;clear c p ht
    go_wp2_with fail
    refine(Zl2 t _ _ _ X (HS.below j).tp).mono ?_;rintro e w4 ⟨kd,err,rfl,G,H⟩;have Z:=hid (j.trans (H.mono j.size));have a9:=hid (X.below H);clear H;rcases G.out with ⟨I,rfl⟩|⟨I,rfl,rfl⟩|⟨I,rfl,rfl⟩
    ·have k:Hid (ZD _=.error _):=hid (by rw[F,if_pos I]);clear G I;go_wp2;go_ret2;exact⟨_,_,rfl,RdIs.error k (.inr (.inl ⟨rfl,rfl⟩)),Z⟩
    all_goals
     have k:Hid (ZD _=.ok t):=hid (by rw[F,if_neg Om]);clear G I;go_wp2;go_ret2;exact⟨_,_,rfl,RdIs.fine k ⟨rfl,a9⟩,Z⟩
   ·have Y:((kd:Int) != 4)=true:=by
     rw[bne_iff_ne];intro e;exact c (p.2.2.2.2.1 (by have:=ht.1;simp only at this;omega))
    have k:Hid (ZD _=.error _):=hid (by rw[E,if_neg c]);have hf:∀W:World,(Instr.field 74 (.agg #[.int _ kd,Vi at_,.string tx,Vi tv]) 0).run prog W=.ok (Vi _) W:=fun _=>rfl;clear c p
    go_wp2_with fail
    refine(Zfi V.out).mono ?_;rintro e wE ⟨v,rfl,B,a0⟩;obtain⟨fa,rfl⟩:=B.shape;have b0:=hid (j.trans (a0.mono j.size));clear a0;go_wp2;go_ret2;exact⟨_,_,rfl,RdIs.error k (.inr (.inr B)),b0⟩
