/- Parts. -/
import Derived.Test.YtkodhpilkaihjaaGreatDoorF04
import Derived.Test.YtkodhpilkaihjaaGreatDoorF09
import Derived.Test.YtkodhpilkaihjaaGreatDoorF03
import Derived.Deep.LoopGhost
import Derived.Test.YtkodhpilkaihjaaGreatDoorF05
import Derived.Test.YtkodhpilkaihjaaGreatDoorF07
import Derived.Test.YtkodhpilkaihjaaGreatDoorF08
import Derived.Laws.IdiomStrings
set_option maxRecDepth 100000
set_option maxHeartbeats 8000000
namespace Go.Proofs.YtkodhpilkaihjaaGreatDoor
open Go.RowKit LS
theorem Tryz.infoTok:(Tryz.prog.info? 167).map (fun i=>(i.zero,i.size,i.bytes))=some (some (.agg #[.int .i64 0,.int .i64 0,.string ByteArray.empty,.int .i64 0]),4,40):=by kernel_rfl
theorem ZdX{W:World}{a b c d:Value}{t:TypeId}{n:Nat}(hn:W.heap.size=n):∀j x,[a,b,c,d][j]?=some x->(W.alloc (.cells #[a,b,c,d] t)).cell? ((⟨n,0,none⟩:Addr).add j)=some x:=by
 intro j x hj
 subst hn
 rw[Zfb]
 have h:=Go.Deep.blk_alloc_new W (.cells #[a,b,c,d] t)
 simp only[World.cell?,h]
 simpa using hj
theorem Zi6(p:UInt8->Bool):∀l:List UInt8,(l.take (run p l)).all p=true
 | []=>rfl
 | b :: l => by
   unfold run
   split
   · rename_i h;simp[h];exact fun x hx=>(List.all_eq_true.1 (Zi6 p l)) x hx
   · rfl
theorem Zf7{w:World}{base:Nat}{e:TypeId}{size:Nat}{v:Value}{n:Nat}{xs:List Value}(h:w.ownsRow base e size v n xs):w.ownsRow 0 e size v n xs:=by
 refine⟨h.1,?_⟩
 rcases h.2 with h2|⟨g,cap,cur,h,_,r⟩
 ·exact Or.inl h2
 ·exact Or.inr ⟨g,cap,cur,h,Nat.zero_le _,r⟩
theorem Zru(s:ByteArray)(w:World)(hs:s.size<=300) :
  Calls Tryz.prog 67 #[.string s] w fun e w'=>∃(v:Value) (ps:List PTok),e=.returned v/\w'.ownsRow 0 167 4 v ps.length (Zbh ps)/\Hid (ZbV ps (ZU (bl s) ((bl s).length+1) 0))/\Below w.heap.size w w':=by
 obtain⟨i0,hi,hz0,hz1,hz2⟩:=info_parts Tryz.infoTok
 go_enter Tryz.func67,Tryz.ntmps67
 go_wp2
 go_step3
 go_wp2
 go_step3
 go_wp2
 go_loopg [3,4] s.size (fun gg v3 v4 wr=>∃(ps:List PTok) (k:Nat),gg=s.size - k/\v4=.int .i64 k/\Hid (ZbY s ps k)/\wr.ownsRow w.heap.size 167 4 v3 ps.length (Zbh ps)/\Hid (Below w.heap.size w wr))
 case atStart=>exact⟨[],0,rfl,rfl,ZbY.start s,World.ownsRow_nil _ _ _ _,Below.refl _ _⟩
 case round=>
  obtain⟨ps,k,hgk,rfl,HL,hown,HB⟩:=hrel
  have hk:=HL.1
  have hps:=HL.2.1
  have hsz:=HB.size
  by_cases hlt:k<s.size
  ·by_cases h32:s[k]=32
   ·have HL2:Hid (ZbY s ps (k+1)):=HL.skip hlt h32
    go_wp2
    go_roundg (s.size - (k+1))
    case measure=>omega
    case rel=>exact⟨ps,k+1,rfl,by go_num,HL2,hown,HB⟩
   ·have c32:((s[k].toNat:Int) == 32)=false:=by
     rw[beq_eq_false_iff_ne]
     intro e
     exact h32 (UInt8.toNat_inj.1 (by show s[k].toNat=32;omega))
    cases hdg:Zt s[k]
    ·have HDG:Hid (Zt s[k]=false):=hdg
     clear hdg
     cases hlg:Zl s[k]
     ·have HLG:Hid (Zl s[k]=false):=hlg
      clear hlg
      by_cases h34:s[k]=34
      ·have c34:((s[k].toNat:Int) == 34)=true:=by rw[h34];rfl
       have HK:Hid (s[k]=34):=h34
       clear h34
       go_wp2_with fail
       refine(Zc4 _ _).mono ?_
       rintro e w' ⟨rfl,rfl⟩
       rw[HDG.out]
       go_wp2_with fail
       refine(ZdC _ _).mono ?_
       rintro e wq ⟨rfl,rfl⟩
       rw[HLG.out]
       go_wp2
       obtain⟨L3,hL3⟩:∃L3,L3=u3:=⟨_,rfl⟩
       go_loopg [3,4,10] (s.size - (k+1)) (fun gi x3 x4 v10 wi=>∃n:Nat,x3=L3/\x4=.int .i64 (k:Int)/\gi=s.size - (k+1+n)/\v10=.int .i64 ((k+1+n:Nat):Int)/\Hid (QRel s k n)/\wi=wq)
       case atStart=>exact⟨0,hL3.symm,rfl,rfl,by go_num,QRel.start hlt,rfl⟩
       case round=>
        obtain⟨n,e3,rfl,hgn,rfl,HQ,rfl⟩:=hrel
        subst e3
        subst hL3
        have hn:=HQ.1
        by_cases hlt2:k+1+n<s.size
        ·by_cases hE:s[k+1+n]=34
         ·have cE:((s[k+1+n].toNat:Int) == 34)=true:=by rw[hE];rfl
          have HL2:Hid (ZbY s (ps++[⟨2,k,s.extract (k+1) (k+1+n),0⟩]) (k+1+n+1)):=HQ.shut HL.out hlt HK.out hlt2 hE
          clear hE
          go_wp2_with (at_builtin;refine wpList_append_own _ rfl (.tmp 103) (.tmp 111) 159 rfl w.heap.size 167 i0 (.agg #[.int .i64 0,.int .i64 0,.string ByteArray.empty,.int .i64 0]) 4 40 Tryz.underlying159 hi hz0 hz1 hz2 rfl (by decide) _ _ _ rfl (hown.alloc _) ⟨wr.heap.size,0,none⟩ 1 1 [.int .i64 2,.int .i64 k,.string (s.extract (k+1) (k+1+n)),.int .i64 0] rfl rfl ?c1 ?c2 ?c3 ?c4 ?c5 ?_)
          case c1=>exact ZdX rfl
          case c2=>intro u hu;simp at hu;rcases hu with rfl|rfl|rfl|rfl <;> rfl
          case c3=>unfold maxLen;omega
          case c4=>omega
          case c5=>simp;omega
          intro v' w3 hown3 hgrow _
          have HB3:Hid (Below w.heap.size w w3):=hid ((HB.alloc hsz _).grown hgrow (by simp;omega) (fun q hq=>(hown.lt q hq).1))
          have hown4:w3.ownsRow w.heap.size 167 4 v' (ps++[(⟨2,k,s.extract (k+1) (k+1+n),0⟩:PTok)]).length (Zbh (ps++[(⟨2,k,s.extract (k+1) (k+1+n),0⟩:PTok)])):=by
           rw[Zd0,List.length_append];exact hown3
          clear hown3 hgrow hown
          go_wp2
          go_roundg (s.size - (k+1+n+1))
          case measure=>omega
          case rel=>exact⟨_,k+1+n+1,rfl,by first|rfl|go_num,HL2,hown4,HB3⟩
         ·have cE:((s[k+1+n].toNat:Int) == 34)=false:=by
           rw[beq_eq_false_iff_ne]
           intro e
           exact hE (UInt8.toNat_inj.1 (by show s[k+1+n].toNat=34;omega))
          have hx6:(s.extract (k+1) (k+1+n+1)).size<=6000:=by simp;omega
          obtain⟨sx,hsx⟩:∃sx,sx=s.extract (k+1) (k+1+n+1):=⟨_,rfl⟩
          have HSX:Hid (sx=s.extract (k+1) (k+1+n+1)):=hsx
          rw[<-hsx]at hx6
          cases hw:Z7 (bl sx)
          ·have HD:Hid (ZbV (ps++[⟨5,k,⟨#[]⟩,0⟩]) (ZU (bl s) ((bl s).length+1) 0)):=HQ.bad HL.out hlt HK.out hlt2 hE (by rw[<-hsx];exact hw)
           have HW:Hid (Z7 (bl sx)=false):=hw
           clear hE hw hsx
           go_wp2_with fail
           rw[<-HSX.out]
           refine(Zjs sx _ hx6).mono ?_
           rintro e wq ⟨rfl,rfl⟩
           rw[HW.out]
           go_wp2_with (at_builtin;refine wpList_append_own _ rfl (.tmp 127) (.tmp 130) 159 rfl w.heap.size 167 i0 (.agg #[.int .i64 0,.int .i64 0,.string ByteArray.empty,.int .i64 0]) 4 40 Tryz.underlying159 hi hz0 hz1 hz2 rfl (by decide) _ _ _ rfl (hown.alloc _) ⟨wq.heap.size,0,none⟩ 1 1 [.int .i64 5,.int .i64 k,.string ⟨#[]⟩,.int .i64 0] rfl rfl ?c1 ?c2 ?c3 ?c4 ?c5 ?_)
           case c1=>exact ZdX rfl
           case c2=>intro u hu;simp at hu;rcases hu with rfl|rfl|rfl|rfl <;> rfl
           case c3=>unfold maxLen;omega
           case c4=>omega
           case c5=>simp;omega
           intro v' w3 hown3 hgrow _
           have HB3:Hid (Below w.heap.size w w3):=hid ((HB.alloc hsz _).grown hgrow (by simp;omega) (fun q hq=>(hown.lt q hq).1))
           have hown4:w3.ownsRow w.heap.size 167 4 v' (ps++[(⟨5,k,⟨#[]⟩,0⟩:PTok)]).length (Zbh (ps++[(⟨5,k,⟨#[]⟩,0⟩:PTok)])):=by
            rw[Zd0,List.length_append];exact hown3
           clear hown3 hgrow hown
           go_wp2
           try rw[Exit.noGoto_ret]
           go_ret
           exact⟨_,_,rfl,Zf7 hown4,HD,HB3.out⟩
          ·have HQ2:Hid (QRel s k (n+1)):=HQ.go hlt2 hE (by rw[<-hsx];exact hw)
           have HW:Hid (Z7 (bl sx)=true):=hw
           clear hE hw hsx
           go_wp2_with fail
           rw[<-HSX.out]
           refine(Zjs sx _ hx6).mono ?_
           rintro e wq ⟨rfl,rfl⟩
           rw[HW.out]
           go_wp2
           go_roundg (s.size - (k+1+(n+1)))
           case measure=>omega
           case rel=>exact⟨n+1,rfl,rfl,rfl,by go_num,HQ2,rfl⟩
        ·have HD:Hid (ZbV (ps++[⟨5,k,⟨#[]⟩,0⟩]) (ZU (bl s) ((bl s).length+1) 0)):=HQ.never HL.out hlt HK.out hlt2
         go_wp2_with (at_builtin;refine wpList_append_own _ rfl (.tmp 127) (.tmp 130) 159 rfl w.heap.size 167 i0 (.agg #[.int .i64 0,.int .i64 0,.string ByteArray.empty,.int .i64 0]) 4 40 Tryz.underlying159 hi hz0 hz1 hz2 rfl (by decide) _ _ _ rfl (hown.alloc _) ⟨wr.heap.size,0,none⟩ 1 1 [.int .i64 5,.int .i64 k,.string ⟨#[]⟩,.int .i64 0] rfl rfl ?c1 ?c2 ?c3 ?c4 ?c5 ?_)
         case c1=>exact ZdX rfl
         case c2=>intro u hu;simp at hu;rcases hu with rfl|rfl|rfl|rfl <;> rfl
         case c3=>unfold maxLen;omega
         case c4=>omega
         case c5=>simp;omega
         intro v' w3 hown3 hgrow _
         have HB3:Hid (Below w.heap.size w w3):=hid ((HB.alloc hsz _).grown hgrow (by simp;omega) (fun q hq=>(hown.lt q hq).1))
         have hown4:w3.ownsRow w.heap.size 167 4 v' (ps++[(⟨5,k,⟨#[]⟩,0⟩:PTok)]).length (Zbh (ps++[(⟨5,k,⟨#[]⟩,0⟩:PTok)])):=by
          rw[Zd0,List.length_append];exact hown3
         clear hown3 hgrow hown
         go_wp2
         try rw[Exit.noGoto_ret]
         go_ret
         exact⟨_,_,rfl,Zf7 hown4,HD,HB3.out⟩
      ·have c34:((s[k].toNat:Int) == 34)=false:=by
        rw[beq_eq_false_iff_ne]
        intro e
        exact h34 (UInt8.toNat_inj.1 (by show s[k].toNat=34;omega))
       have HLX:=Zrl hlt h32 HDG.out HLG.out h34
       obtain⟨m,hm⟩:∃m,m=Zej s[k] ((bl s).drop (k+1)):=⟨_,rfl⟩
       rw[<-hm]at HLX
       have HM:Hid (m=Zej s[k] ((bl s).drop (k+1))):=hm
       clear hm
       by_cases hm0:m=[]
       ·rw[if_pos hm0]at HLX
        have HD:Hid (ZbV (ps++[⟨5,k,⟨#[]⟩,0⟩]) (ZU (bl s) ((bl s).length+1) 0)):=hid (HL.done (t:=⟨5,[],k⟩) HLX (Or.inr rfl) ⟨rfl,rfl,rfl,fun h=>by cases h⟩)
        clear HLX
        go_wp2_with fail
        refine(Zc4 _ _).mono ?_
        rintro e w' ⟨rfl,rfl⟩
        rw[HDG.out]
        go_wp2_with fail
        refine(ZdC _ _).mono ?_
        rintro e w' ⟨rfl,rfl⟩
        rw[HLG.out]
        go_wp2_with fail
        refine(Zls s k _ (by omega) hlt).mono ?_
        rintro e w' ⟨x,rfl,HX,rfl⟩
        have hx:bl x=[]:=by rw[HX.out,<-HM.out];exact hm0
        obtain rfl:x=⟨#[]⟩:=by
         cases x with|mk d=>cases d with|mk l=>simp[bl]at hx;subst hx;rfl
        clear hx HX
        go_wp2_with (at_builtin;refine wpList_append_own _ rfl (.tmp 127) (.tmp 130) 159 rfl w.heap.size 167 i0 (.agg #[.int .i64 0,.int .i64 0,.string ByteArray.empty,.int .i64 0]) 4 40 Tryz.underlying159 hi hz0 hz1 hz2 rfl (by decide) _ _ _ rfl (hown.alloc _) ⟨w'.heap.size,0,none⟩ 1 1 [.int .i64 5,.int .i64 k,.string ⟨#[]⟩,.int .i64 0] rfl rfl ?c1 ?c2 ?c3 ?c4 ?c5 ?_)
        case c1=>exact ZdX rfl
        case c2=>intro u hu;simp at hu;rcases hu with rfl|rfl|rfl|rfl <;> rfl
        case c3=>unfold maxLen;omega
        case c4=>omega
        case c5=>simp;omega
        intro v' w3 hown3 hgrow _
        have HB3:Hid (Below w.heap.size w w3):=hid ((HB.alloc hsz _).grown hgrow (by simp;omega) (fun q hq=>(hown.lt q hq).1))
        have hown4:w3.ownsRow w.heap.size 167 4 v' (ps++[(⟨5,k,⟨#[]⟩,0⟩:PTok)]).length (Zbh (ps++[(⟨5,k,⟨#[]⟩,0⟩:PTok)])):=by
         rw[Zd0,List.length_append];exact hown3
        clear hown3 hgrow hown
        go_wp2
        try rw[Exit.noGoto_ret]
        go_ret
        exact⟨_,_,rfl,Zf7 hown4,HD,HB3.out⟩
       ·rw[if_neg hm0]at HLX
        go_wp2_with fail
        refine(Zc4 _ _).mono ?_
        rintro e w' ⟨rfl,rfl⟩
        rw[HDG.out]
        go_wp2_with fail
        refine(ZdC _ _).mono ?_
        rintro e w' ⟨rfl,rfl⟩
        rw[HLG.out]
        go_wp2_with fail
        refine(Zls s k _ (by omega) hlt).mono ?_
        rintro e w' ⟨x,rfl,HX,rfl⟩
        have hx:bl x=m:=by rw[HX.out,<-HM.out]
        rw[<-hx]at HLX
        have HL2:Hid (ZbY s (ps++[⟨3,k,x,0⟩]) (k+x.size)):=hid (by
         have:=HL.token (p:=⟨3,k,x,0⟩) HLX (by show ¬((4:Nat)=0∨(4:Nat)=5);decide) ⟨rfl,rfl,rfl,fun h=>by cases h⟩
         rwa [Ze]at this)
        have hx0:0<x.size:=by rw[<-Ze,hx];exact List.length_pos_iff.2 hm0
        have hxe:x.toList.isEmpty=false:=by
         rw[Zba,hx]
         cases m with
         | nil=>exact absurd rfl hm0
         | cons=>rfl
        have hx2:=HL2.1
        clear hx HX HLX
        go_wp2_with (at_builtin;refine wpList_append_own _ rfl (.tmp 24) (.tmp 28) 159 rfl w.heap.size 167 i0 (.agg #[.int .i64 0,.int .i64 0,.string ByteArray.empty,.int .i64 0]) 4 40 Tryz.underlying159 hi hz0 hz1 hz2 rfl (by decide) _ _ _ rfl (hown.alloc _) ⟨w'.heap.size,0,none⟩ 1 1 [.int .i64 3,.int .i64 k,.string x,.int .i64 0] rfl rfl ?c1 ?c2 ?c3 ?c4 ?c5 ?_)
        case c1=>exact ZdX rfl
        case c2=>intro u hu;simp at hu;rcases hu with rfl|rfl|rfl|rfl <;> rfl
        case c3=>unfold maxLen;omega
        case c4=>omega
        case c5=>simp;omega
        intro v' w3 hown3 hgrow _
        have HB3:Hid (Below w.heap.size w w3):=hid ((HB.alloc hsz _).grown hgrow (by simp;omega) (fun q hq=>(hown.lt q hq).1))
        have hown4:w3.ownsRow w.heap.size 167 4 v' (ps++[(⟨3,k,x,0⟩:PTok)]).length (Zbh (ps++[(⟨3,k,x,0⟩:PTok)])):=by
         rw[Zd0,List.length_append];exact hown3
        clear hown3 hgrow hown
        go_wp2
        go_roundg (s.size - (k+x.size))
        case measure=>omega
        case rel=>exact⟨_,k+x.size,rfl,by first|rfl|go_num,HL2,hown4,HB3⟩
     ·obtain⟨E,hE⟩:∃E,E=k+run Zl ((bl s).drop k):=⟨_,rfl⟩
      have HRun:Hid (∀w,Calls Tryz.prog 117 #[.string s,.int .i64 k,.func (.func 119) #[] #[]] w fun e w'=>e=.returned (.int .i64 (E:Int))/\w'=w):=hid (fun w=>by rw[hE];exact Zt5 s k w (by omega) hk)
      have hr1:0<run Zl ((bl s).drop k):=by rw[Zhn s k hlt hlg];omega
      have hr2:=Zgc Zl ((bl s).drop k)
      rw[List.length_drop,Ze]at hr2
      have hE1:k<E:=by omega
      have hE2:E<=s.size:=by omega
      have HX:Hid (bl (s.extract k E)=((bl s).drop k).take (run Zl ((bl s).drop k))):=hid (by rw[Zex,List.drop_take,hE];congr 1;omega)
      have HLX:=Zrk hlt HDG.out hlg
      rw[<-HX.out,<-hE]at HLX
      have hsx:(s.extract k E).size=run Zl ((bl s).drop k):=by rw[ZO HX.out,List.length_take,List.length_drop,Ze];omega
      have HNM:Hid (ZC (bl (s.extract k E))=decide (run Zl ((bl s).drop k)<=8)):=hid (by
       unfold ZC
       rw[HX.out,Zi6,List.length_take,List.length_drop,Ze]
       rw[Nat.min_eq_left (by omega)]
       by_cases h8:run Zl ((bl s).drop k)<=8
       ·simp[h8];omega
       ·simp[h8];omega)
      have hsx6:(s.extract k E).size<=6000:=by omega
      obtain⟨sx,hsxe⟩:∃sx,sx=s.extract k E:=⟨_,rfl⟩
      rw[<-hsxe]at HLX hsx6 HNM
      have HSX:Hid (sx=s.extract k E):=hsxe
      by_cases h8:8<run Zl ((bl s).drop k)
      ·rw[if_pos h8]at HLX
       have HD:Hid (ZbV (ps++[⟨5,k,⟨#[]⟩,0⟩]) (ZU (bl s) ((bl s).length+1) 0)):=hid (HL.done (t:=⟨5,[],k⟩) (e:=E) HLX (Or.inr rfl) ⟨rfl,rfl,rfl,fun h=>by cases h⟩)
       have HNF:Hid (ZC (bl sx)=false):=hid (by rw[HNM.out];exact decide_eq_false (by omega))
       clear HLX hE hsxe hr1 hr2 h8 hsx HX HNM
       go_wp2_with fail
       refine(Zc4 _ _).mono ?_
       rintro e w' ⟨rfl,rfl⟩
       rw[HDG.out]
       go_wp2_with fail
       refine(ZdC _ _).mono ?_
       rintro e w' ⟨rfl,rfl⟩
       rw[hlg]
       go_wp2_with fail
       refine(HRun.out _).mono ?_
       rintro e w' ⟨rfl,rfl⟩
       go_wp2_with fail
       rw[<-HSX.out]
       refine(Zjr sx _ hsx6).mono ?_
       rintro e w' ⟨rfl,rfl⟩
       rw[HNF.out]
       go_wp2_with (at_builtin;refine wpList_append_own _ rfl (.tmp 127) (.tmp 130) 159 rfl w.heap.size 167 i0 (.agg #[.int .i64 0,.int .i64 0,.string ByteArray.empty,.int .i64 0]) 4 40 Tryz.underlying159 hi hz0 hz1 hz2 rfl (by decide) _ _ _ rfl (hown.alloc _) ⟨w'.heap.size,0,none⟩ 1 1 [.int .i64 5,.int .i64 k,.string ⟨#[]⟩,.int .i64 0] rfl rfl ?c1 ?c2 ?c3 ?c4 ?c5 ?_)
       case c1=>exact ZdX rfl
       case c2=>intro u hu;simp at hu;rcases hu with rfl|rfl|rfl|rfl <;> rfl
       case c3=>unfold maxLen;omega
       case c4=>omega
       case c5=>simp;omega
       intro v' w3 hown3 hgrow _
       have HB3:Hid (Below w.heap.size w w3):=hid ((HB.alloc hsz _).grown hgrow (by simp;omega) (fun q hq=>(hown.lt q hq).1))
       have hown4:w3.ownsRow w.heap.size 167 4 v' (ps++[(⟨5,k,⟨#[]⟩,0⟩:PTok)]).length (Zbh (ps++[(⟨5,k,⟨#[]⟩,0⟩:PTok)])):=by
        rw[Zd0,List.length_append];exact hown3
       clear hown3 hgrow hown
       go_wp2
       try rw[Exit.noGoto_ret]
       go_ret
       exact⟨_,_,rfl,Zf7 hown4,HD,HB3.out⟩
      ·rw[if_neg h8]at HLX
       have HL2:Hid (ZbY s (ps++[⟨1,k,sx,0⟩]) E):=HL.token (t:=⟨2,bl sx,k⟩) HLX (by show ¬((2:Nat)=0∨(2:Nat)=5);decide) ⟨rfl,rfl,rfl,fun h=>by cases h⟩
       have HNF:Hid (ZC (bl sx)=true):=hid (by rw[HNM.out];exact decide_eq_true (by omega))
       clear HLX hE hsxe hr1 hr2 h8 hsx HX HNM
       go_wp2_with fail
       refine(Zc4 _ _).mono ?_
       rintro e w' ⟨rfl,rfl⟩
       rw[HDG.out]
       go_wp2_with fail
       refine(ZdC _ _).mono ?_
       rintro e w' ⟨rfl,rfl⟩
       rw[hlg]
       go_wp2_with fail
       refine(HRun.out _).mono ?_
       rintro e w' ⟨rfl,rfl⟩
       go_wp2_with fail
       rw[<-HSX.out]
       refine(Zjr sx _ hsx6).mono ?_
       rintro e w' ⟨rfl,rfl⟩
       rw[HNF.out]
       go_wp2_with (at_builtin;refine wpList_append_own _ rfl (.tmp 78) (.tmp 85) 159 rfl w.heap.size 167 i0 (.agg #[.int .i64 0,.int .i64 0,.string ByteArray.empty,.int .i64 0]) 4 40 Tryz.underlying159 hi hz0 hz1 hz2 rfl (by decide) _ _ _ rfl (hown.alloc _) ⟨w'.heap.size,0,none⟩ 1 1 [.int .i64 1,.int .i64 k,.string (s.extract k E),.int .i64 0] rfl rfl ?c1 ?c2 ?c3 ?c4 ?c5 ?_)
       case c1=>exact ZdX rfl
       case c2=>intro u hu;simp at hu;rcases hu with rfl|rfl|rfl|rfl <;> rfl
       case c3=>unfold maxLen;omega
       case c4=>omega
       case c5=>simp;omega
       intro v' w3 hown3 hgrow _
       have HB3:Hid (Below w.heap.size w w3):=hid ((HB.alloc hsz _).grown hgrow (by simp;omega) (fun q hq=>(hown.lt q hq).1))
       have hown4:w3.ownsRow w.heap.size 167 4 v' (ps++[(⟨1,k,sx,0⟩:PTok)]).length (Zbh (ps++[(⟨1,k,sx,0⟩:PTok)])):=by
        rw[Zd0,List.length_append,HSX.out];exact hown3
       clear hown3 hgrow hown
       go_wp2
       go_roundg (s.size - E)
       case measure=>omega
       case rel=>exact⟨_,E,rfl,by first|rfl|go_num,HL2,hown4,HB3⟩
    ·obtain⟨E,hE⟩:∃E,E=k+run Zt ((bl s).drop k):=⟨_,rfl⟩
     have HRun:Hid (∀w,Calls Tryz.prog 117 #[.string s,.int .i64 k,.func (.func 116) #[] #[]] w fun e w'=>e=.returned (.int .i64 (E:Int))/\w'=w):=hid (fun w=>by rw[hE];exact Zt1 s k w (by omega) hk)
     have hr1:0<run Zt ((bl s).drop k):=by rw[Zhn s k hlt hdg];omega
     have hr2:=Zgc Zt ((bl s).drop k)
     rw[List.length_drop,Ze]at hr2
     have hE1:k<E:=by omega
     have hE2:E<=s.size:=by omega
     have HX:Hid (bl (s.extract k E)=((bl s).drop k).take (run Zt ((bl s).drop k))):=hid (by rw[Zex,List.drop_take,hE];congr 1;omega)
     have HLX:=Zrj hlt hdg
     rw[<-HX.out,<-hE]at HLX
     have hsx:(s.extract k E).size<=6000:=by simp;omega
     obtain⟨sx,hsxe⟩:∃sx,sx=s.extract k E:=⟨_,rfl⟩
     rw[<-hsxe]at HLX hsx
     have HSX:Hid (sx=s.extract k E):=hsxe
     cases hnum:ZE 1000000000 (bl sx)with
     | none=>
      rw[hnum]at HLX
      have HD:Hid (ZbV (ps++[⟨5,k,⟨#[]⟩,0⟩]) (ZU (bl s) ((bl s).length+1) 0)):=hid (HL.done (t:=⟨5,[],k⟩) (e:=E) HLX (Or.inr rfl) ⟨rfl,rfl,rfl,fun h=>by cases h⟩)
      have HNT:Hid (numT 1000000000 (bl sx)=.tuple #[.int .i64 0,.bool false]):=ZeX hnum
      clear hnum HLX hE hsxe hr1 hr2
      go_wp2_with fail
      refine(Zc4 _ _).mono ?_
      rintro e w' ⟨rfl,rfl⟩
      rw[hdg]
      go_wp2_with fail
      refine(HRun.out _).mono ?_
      rintro e w' ⟨rfl,rfl⟩
      go_wp2_with fail
      rw[<-HSX.out]
      refine(ZhJ sx 1000000000 _ hsx (by decide) (by decide)).mono ?_
      rintro e w' ⟨rfl,rfl⟩
      rw[HNT.out]
      go_wp2_with (at_builtin;refine wpList_append_own _ rfl (.tmp 127) (.tmp 130) 159 rfl w.heap.size 167 i0 (.agg #[.int .i64 0,.int .i64 0,.string ByteArray.empty,.int .i64 0]) 4 40 Tryz.underlying159 hi hz0 hz1 hz2 rfl (by decide) _ _ _ rfl (hown.alloc _) ⟨w'.heap.size,0,none⟩ 1 1 [.int .i64 5,.int .i64 k,.string ⟨#[]⟩,.int .i64 0] rfl rfl ?c1 ?c2 ?c3 ?c4 ?c5 ?_)
      case c1=>exact ZdX rfl
      case c2=>intro u hu;simp at hu;rcases hu with rfl|rfl|rfl|rfl <;> rfl
      case c3=>unfold maxLen;omega
      case c4=>omega
      case c5=>simp;omega
      intro v' w3 hown3 hgrow _
      have HB3:Hid (Below w.heap.size w w3):=hid ((HB.alloc hsz _).grown hgrow (by simp;omega) (fun q hq=>(hown.lt q hq).1))
      have hown4:w3.ownsRow w.heap.size 167 4 v' (ps++[(⟨5,k,⟨#[]⟩,0⟩:PTok)]).length (Zbh (ps++[(⟨5,k,⟨#[]⟩,0⟩:PTok)])):=by
       rw[Zd0,List.length_append];exact hown3
      clear hown3 hgrow hown
      go_wp2
      try rw[Exit.noGoto_ret]
      go_ret
      exact⟨_,_,rfl,Zf7 hown4,HD,HB3.out⟩
     | some v=>
      rw[hnum]at HLX
      have HL2:Hid (ZbY s (ps++[⟨0,k,sx,v⟩]) E):=HL.token (t:=⟨1,bl sx,k⟩) HLX (by show ¬((1:Nat)=0∨(1:Nat)=5);decide) ⟨rfl,rfl,rfl,fun _=>by unfold numV;rw[hnum];rfl⟩
      have HNT:Hid (numT 1000000000 (bl sx)=.tuple #[.int .i64 v,.bool true]):=Zhi hnum
      clear hnum HLX hE hsxe hr1 hr2
      go_wp2_with fail
      refine(Zc4 _ _).mono ?_
      rintro e w' ⟨rfl,rfl⟩
      rw[hdg]
      go_wp2_with fail
      refine(HRun.out _).mono ?_
      rintro e w' ⟨rfl,rfl⟩
      go_wp2_with fail
      rw[<-HSX.out]
      refine(ZhJ sx 1000000000 _ hsx (by decide) (by decide)).mono ?_
      rintro e w' ⟨rfl,rfl⟩
      rw[HNT.out]
      go_wp2_with (at_builtin;refine wpList_append_own _ rfl (.tmp 55) (.tmp 63) 159 rfl w.heap.size 167 i0 (.agg #[.int .i64 0,.int .i64 0,.string ByteArray.empty,.int .i64 0]) 4 40 Tryz.underlying159 hi hz0 hz1 hz2 rfl (by decide) _ _ _ rfl (hown.alloc _) ⟨w'.heap.size,0,none⟩ 1 1 [.int .i64 0,.int .i64 k,.string (s.extract k E),.int .i64 v] rfl rfl ?c1 ?c2 ?c3 ?c4 ?c5 ?_)
      case c1=>exact ZdX rfl
      case c2=>intro u hu;simp at hu;rcases hu with rfl|rfl|rfl|rfl <;> rfl
      case c3=>unfold maxLen;omega
      case c4=>omega
      case c5=>simp;omega
      intro v' w3 hown3 hgrow _
      have HB3:Hid (Below w.heap.size w w3):=hid ((HB.alloc hsz _).grown hgrow (by simp;omega) (fun q hq=>(hown.lt q hq).1))
      have hown4:w3.ownsRow w.heap.size 167 4 v' (ps++[(⟨0,k,sx,v⟩:PTok)]).length (Zbh (ps++[(⟨0,k,sx,v⟩:PTok)])):=by
       rw[Zd0,List.length_append,HSX.out];exact hown3
      clear hown3 hgrow hown
      go_wp2
      go_roundg (s.size - E)
      case measure=>omega
      case rel=>exact⟨_,E,rfl,by first|rfl|go_num,HL2,hown4,HB3⟩
  ·have hke:k=s.size:=by omega
   have HD:Hid (ZbV (ps++[⟨4,k,⟨#[]⟩,0⟩]) (ZU (bl s) ((bl s).length+1) 0)):=hid (by
    exact HL.done (t:=⟨0,[],s.size⟩) (e:=s.size) (by rw[hke];exact Zlh s) (Or.inl rfl) ⟨rfl,hke,rfl,fun h=>by cases h⟩)
   clear hke
   go_wp2_with (at_builtin;refine wpList_append_own _ rfl (.tmp 132) (.tmp 135) 159 rfl w.heap.size 167 i0 (.agg #[.int .i64 0,.int .i64 0,.string ByteArray.empty,.int .i64 0]) 4 40 Tryz.underlying159 hi hz0 hz1 hz2 rfl (by decide) _ _ _ rfl (hown.alloc _) ⟨wr.heap.size,0,none⟩ 1 1 [.int .i64 4,.int .i64 k,.string ⟨#[]⟩,.int .i64 0] rfl rfl ?c1 ?c2 ?c3 ?c4 ?c5 ?_)
   case c1=>exact ZdX rfl
   case c2=>intro u hu;simp at hu;rcases hu with rfl|rfl|rfl|rfl <;> rfl
   case c3=>unfold maxLen;omega
   case c4=>omega
   case c5=>simp;omega
   intro v' w3 hown3 hgrow _
   have HB3:Hid (Below w.heap.size w w3):=hid ((HB.alloc hsz _).grown hgrow (by simp;omega) (fun q hq=>(hown.lt q hq).1))
   have HO3:Hid (w3.ownsRow 0 167 4 v' (ps++[(⟨4,k,⟨#[]⟩,0⟩:PTok)]).length (Zbh (ps++[(⟨4,k,⟨#[]⟩,0⟩:PTok)]))):=hid (by
    rw[Zd0,List.length_append]
    refine⟨hown3.1,?_⟩
    rcases hown3.2 with h2|⟨g,cap,cur,h,_,r⟩
    ·exact Or.inl h2
    ·exact Or.inr ⟨g,cap,cur,h,Nat.zero_le _,r⟩)
   clear hown3 hgrow hown
   go_wp2
   try rw[Exit.noGoto_ret]
   go_ret
   exact⟨_,_,rfl,HO3.out,HD,HB3.out⟩
theorem Zf2(t:Tr):Zk t<=2:=by
 cases t with
 | nil=>decide
 | node x y a l r=>
  unfold Zk
  have hl:=Zf2 l
  split
  ·decide
  ·split
   ·decide
   ·split
    ·exact hl
    ·split
     ·split <;> decide
     ·split
      ·decide
      ·split <;> decide
termination_by t
theorem Zg8(l:List UInt8)(hl:l.length<=300):∀(n i:Nat),tw (ZU l n i)<=332*(ZU l n i).length
 | 0,_=>Nat.le_refl _
 | n + 1, i => by
   have h1:=Zrq l i
   have h2:=Zg8 l hl n (Zs l i).2
   unfold ZU
   split
   · simp[tw];omega
   · simp[tw];omega
theorem ZeL{k j:Nat}{x:List UInt8}(h2:k≠2)(h4:k≠4)(h5:k<=5):Zc6 ⟨k,x,j⟩/\(⟨k,x,j⟩:Tok).kind<=5:=⟨⟨fun h=>absurd h h2,fun h=>absurd h h4⟩,h5⟩
theorem Zv1{j:Nat}{x:List UInt8}(h:x.all Zl=true):Zc6 ⟨2,x,j⟩/\(⟨2,x,j⟩:Tok).kind<=5:=⟨⟨fun _=>h,fun h=>absurd (show(2:Nat)=4 from h) (by decide)⟩,by show(2:Nat)<=5;decide⟩
theorem Znd{j:Nat}{x:List UInt8}(h:x.all (fun c=>!Zl c)=true):Zc6 ⟨4,x,j⟩/\(⟨4,x,j⟩:Tok).kind<=5:=⟨⟨fun h=>absurd (show(4:Nat)=2 from h) (by decide),fun _=>h⟩,by show(4:Nat)<=5;decide⟩
theorem Zrt(l:List UInt8)(j:Nat)(c:UInt8)(r:List UInt8):Zc6 (lexC l j c r).1/\(lexC l j c r).1.kind<=5:=by
 unfold lexC
 split
 ·split
  ·exact ZeL (by decide) (by decide) (by decide)
  ·exact ZeL (by decide) (by decide) (by decide)
 ·rename_i hd
  split
  ·split
   ·exact ZeL (by decide) (by decide) (by decide)
   ·exact Zv1 (Zi6 Zl _)
  ·rename_i hl
   split
   ·split
    ·exact ZeL (by decide) (by decide) (by decide)
    ·split
     ·exact ZeL (by decide) (by decide) (by decide)
     ·exact ZeL (by decide) (by decide) (by decide)
   ·split
    ·exact Znd (by decide)
    ·split
     ·refine Znd ?_
      show([c].all fun c=>!Zl c)=true
      have:Zl c=false:=Bool.eq_false_iff.2 hl
      simp[this]
     ·exact ZeL (by decide) (by decide) (by decide)
theorem Zrr(l:List UInt8)(i:Nat):Zc6 (Zs l i).1/\(Zs l i).1.kind<=5:=by
 unfold Zs lexJ
 split
 ·exact ZeL (by decide) (by decide) (by decide)
 ·exact Zrt _ _ _ _
theorem ZmW(l:List UInt8):∀(n i:Nat),i<=l.length->l.length+1<=n+i->ZdV (ZU l n i)
 | 0,i,h1,h2=>absurd h2 (by omega)
 | n + 1, i, h1, h2 => by
   show ZdV (if (Zs l i).1.kind=0∨(Zs l i).1.kind=5 then [(Zs l i).1] else (Zs l i).1::ZU l n (Zs l i).2)
   by_cases h:(Zs l i).1.kind=0∨(Zs l i).1.kind=5
   · rw[if_pos h];exact h
   · rw[if_neg h]
     have hg:=ZiB l i h1
     have hw:=Zrr l i
     have ih:=ZmW l n (Zs l i).2 hg.2 (by have:=hg.1 (fun e=>h (Or.inl e));omega)
     cases hr:ZU l n (Zs l i).2 with
     | nil=>rw[hr]at ih;exact ih.elim
     | cons u m=>
       rw[hr]at ih
       exact⟨by have:=hw.2;omega,hw.1,ih⟩
theorem ZnX{w w':World}{b B:Nat}(h:w.grownBy w' (some b))(hb:B<=b)(hB:B<=w.heap.size):Below B w w':=
 ⟨h.os,h.tape,h.output,h.size,fun j hj=>h.block j (by omega) (fun e=>by injection e with e;omega)⟩
def RdIs(w:World)(lg sy dp tp:Addr)(r:Except (Nat×Nat) Tr)(pv v:Value):Prop:=match r with
 | .ok t=>v=.nilIface/\Zd w t pv
 | .error x=>(x=(1,0)/\v=.iface 491 (.pointer (some lg)))∨(x=(4,0)/\v=.iface 491 (.pointer (some tp)))∨(x.1=2/\ZB w v x.2 sy)∨(x.1=3/\ZB w v x.2 dp)
theorem RdIs.error{w:World}{lg sy dp tp:Addr}{r:Except (Nat×Nat) Tr}{pv v:Value}{x:Nat×Nat}(hr:r=.error x)(h:(x=(1,0)/\v=.iface 491 (.pointer (some lg)))∨(x=(4,0)/\v=.iface 491 (.pointer (some tp)))∨(x.1=2/\ZB w v x.2 sy)∨(x.1=3/\ZB w v x.2 dp)):RdIs w lg sy dp tp r pv v:=by subst hr;exact h
theorem RdIs.fine{w:World}{lg sy dp tp:Addr}{r:Except (Nat×Nat) Tr}{pv v:Value}{t:Tr}(hr:r=.ok t)(h:v=.nilIface/\Zd w t pv):RdIs w lg sy dp tp r pv v:=by subst hr;exact h
structure Sents (w:World) (lg sy dp tp:Addr):Prop where
 lg:w.cell? ⟨0,0,none⟩=some (.iface 491 (.pointer (some lg)))
 sy:w.cell? ⟨1,0,none⟩=some (.iface 491 (.pointer (some sy)))
 dp:w.cell? ⟨2,0,none⟩=some (.iface 491 (.pointer (some dp)))
 tp:w.cell? ⟨3,0,none⟩=some (.iface 491 (.pointer (some tp)))
theorem Sents.below{w w':World}{lg sy dp tp:Addr}(h:Sents w lg sy dp tp)(hb:Below w.heap.size w w'):Sents w' lg sy dp tp:=
 ⟨(hb.cell (p:=⟨_,0,none⟩) (World.block_lt_of_cell? _ _ h.lg)).trans h.lg,(hb.cell (p:=⟨_,0,none⟩) (World.block_lt_of_cell? _ _ h.sy)).trans h.sy,(hb.cell (p:=⟨_,0,none⟩) (World.block_lt_of_cell? _ _ h.dp)).trans h.dp,(hb.cell (p:=⟨_,0,none⟩) (World.block_lt_of_cell? _ _ h.tp)).trans h.tp⟩
theorem Zho(s:ByteArray)(w:World)(hlim:s.size<=9223372036854775807){lg sy dp tp:Addr}(hS:Sents w lg sy dp tp) :
  Calls Tryz.prog 36 #[.string s] w fun e w'=>∃pv v:Value,e=.returned (.tuple #[pv,v])/\Hid (RdIs w' lg sy dp tp (Z4 (bl s)) pv v)/\Below w.heap.size w w':=by
 by_cases hl:300<s.size
 ·have HR:Hid (Z4 (bl s)=.error (1,0)):=hid (by unfold Z4;rw[Ze,if_pos hl])
  have hd:(300:Int)<s.size:=by omega
  have hlg:=hS.lg
  clear hS
  go_enter Tryz.func36,Tryz.ntmps36
  go_wp2
  go_region
  all_goals
   go_wp2
   go_ret2
   exact⟨_,_,rfl,RdIs.error HR.out (Or.inl ⟨rfl,rfl⟩),(by repeat first|exact Below.refl _ _|assumption|refine Below.alloc ?_ ?_ _|refine Below.setCell ?_ ?_ _|refine Zg ?_ _|refine Below.drew ?_|omega|(simp;omega)|simp)⟩
 ·have hl3:s.size<=300:=by omega
  have hd:¬((300:Int)<s.size):=by omega
  obtain⟨ts,hts⟩:∃ts,ts=ZU (bl s) ((bl s).length+1) 0:=⟨_,rfl⟩
  have HLN:Hid (ts.length<=301):=hid (by
   have:=Zg7 (bl s) ((bl s).length+1) 0 (Nat.zero_le _)
   rw[<-hts,Ze]at this
   omega)
  have HWF:Hid (ZdV ts):=hid (by rw[hts];exact ZmW _ _ _ (Nat.zero_le _) (by omega))
  have HRQ:Hid (Z4 (bl s)=match Zz (10*ts.length+5) false 0 .nil ts 0 with
   | .error e=>.error e
   | .ok (t,r)=>if (LS.hd r).kind=0 then (if Zk t=0 then .error (4,0)else .ok t)else .error (2,(LS.hd r).at_)):=hid (by
   unfold Z4;rw[Ze,if_neg hl,<-Ze,<-hts]
   cases Zz (10*ts.length+5) false 0 .nil ts 0 with
   | error e=>rfl
   | ok x=>rfl)
  have HS:Hid (Sents w lg sy dp tp):=hS
  have HTS:Hid (ts=ZU (bl s) ((bl s).length+1) 0):=hts
  clear hts hS hl
  go_enter Tryz.func36,Tryz.ntmps36
  go_wp2_with fail
  refine(Zru s w hl3).mono ?_
  rintro e w1 ⟨v,ps,rfl,hown,hall,hb1⟩
  rw[<-HTS.out]at hall
  have HPL:Hid (ps.length=ts.length):=hall.length
  have hpp:0<ps.length:=by rw[HPL.out];exact HWF.head.2.1
  obtain⟨g,cp,rfl⟩:=ZV hown hpp
  have HO1:Hid (w1.ownsRow 0 167 4 (.slice (some ⟨g,0,none⟩) ps.length cp) ps.length (Zbh ps)):=hown
  have HB1:Hid (Below w.heap.size w w1):=hb1
  have HS1:Hid (Sents w1 lg sy dp tp):=HS.below hb1
  clear hown hb1
  go_wp2_with fail
  refine Zn fun W hW=>?_
  have hbW:Below w1.heap.size w1 W:=by rw[hW];exact Zbal
  have HBW:Hid (Below w.heap.size w W):=HB1.trans (hbW.mono HB1.size)
  have HSW:Hid (Sents W lg sy dp tp):=HS1.below hbW
  have HK:Hid (RK W ⟨w1.heap.size,g,cp,ps,sy,dp⟩ 0 ts):=hid ⟨⟨by rw[hW];exact Go.Deep.blk_alloc_new _ _,Zm HO1.out hbW,hpp⟩,hall.out,HWF.out,by show ps.length<=302;rw[HPL.out];have:=HLN.out;omega,HSW.sy,HSW.dp⟩
  have hzW:w1.heap.size<W.heap.size:=by rw[hW];simp
  have hz1:w.heap.size<=w1.heap.size:=HB1.size
  clear hW hbW HO1 hall HS1 HB1
  refine((ZjF (10*ts.length+5)).1 0 (by decide) (10*ts.length+5) (Nat.le_refl _) W ⟨w1.heap.size,g,cp,ps,sy,dp⟩ 0 ts 0 HK.out (by decide) (by show 10*ts.length+5<=10*ts.length+5+0;omega)).mono ?_
  rintro e w2 ⟨pv,v,rfl,hif,hres,hg2⟩
  have hb2:Below w.heap.size W w2:=ZnX hg2 hz1 (by omega)
  have HB2:Hid (Below w.heap.size w w2):=HBW.trans hb2
  have HS2:Hid (Sents w2 lg sy dp tp):=HS.below HB2.out
  clear hg2 hb2
  cases hpr:Zz (10*ts.length+5) false 0 .nil ts 0 with
  | error er=>
   have HE:=hid (hres.err hpr)
   obtain⟨fa,rfl⟩:=HE.shape
   have HPE:Hid (Z4 (bl s)=.error er):=hid (by rw[HRQ.out,hpr])
   clear hres hpr
   go_wp2
   go_ret2
   exact⟨_,_,rfl,RdIs.error HPE.out (Or.inr (Or.inr HE.out)),HB2.out⟩
  | ok pr=>
   obtain⟨t,r⟩:=pr
   obtain⟨rfl,⟨k2,hk2⟩,hv2⟩:=hres.good hpr
   have HK2:Hid (RK w2 ⟨w1.heap.size,g,cp,ps,sy,dp⟩ k2 r):=hk2
   have HV2:Hid (Zd w2 t pv):=hv2
   have HRQ2:Hid (Z4 (bl s)=if (LS.hd r).kind=0 then (if Zk t=0 then .error (4,0)else .ok t)else .error (2,(LS.hd r).at_)):=hid (by rw[HRQ.out,hpr])
   obtain⟨ty,u,hsh⟩:=Zd.shape hv2
   subst hsh
   clear hres hpr hk2 hv2 hif HRQ
   go_wp2_with fail
   refine(ZdO HK2.out).mono ?_
   rintro e w3 ⟨⟨kd,at_,tx,tv⟩,rfl,ht,hb3⟩
   have HB3:Hid (Below w.heap.size w w3):=HB2.trans (hb3.mono HB2.size)
   have HK3:=hid (HK2.below hb3)
   have HV3:Hid (Zd w3 t (.iface ty u)):=HV2.below hb3
   clear hb3 HB2 HK2 HV2
   have hpk:=Zen HK3.wf.head.2.2
   by_cases hk0:(LS.hd r).kind=0
   ·have hkd:kd=4:=by have:=ht.1;simp only at this;rw[this,hpk.2.2.2.2.2 hk0]
    subst hkd
    have HRQ3:Hid (Z4 (bl s)=if Zk t=0 then .error (4,0)else .ok t):=hid (by rw[HRQ2.out,if_pos hk0])
    have hf:∀W:World,(Instr.field 167 (.agg #[.int .i64 4,.int .i64 at_,.string tx,.int .i64 tv]) 0).run Tryz.prog W=.ok (.int .i64 4) W:=fun _=>rfl
    clear hk0 hpk ht
    go_wp2_with fail
    refine(Ziw t w3 _ tp HV3.out (HS.below HB3.out).tp).mono ?_
    rintro e w4 ⟨kd,err,rfl,hkr,hb4⟩
    have HB4:Hid (Below w.heap.size w w4):=HB3.trans (hb4.mono HB3.size)
    have HV4:Hid (Zd w4 t (.iface ty u)):=HV3.below hb4
    clear hb4
    rcases hkr.out with ⟨h0,rfl⟩|⟨h0,rfl,rfl⟩|⟨h0,rfl,rfl⟩
    ·have HRX:Hid (Z4 (bl s)=.error (4,0)):=hid (by rw[HRQ3.out,if_pos h0])
     clear hkr h0
     go_wp2
     go_ret2
     exact⟨_,_,rfl,RdIs.error HRX.out (Or.inr (Or.inl ⟨rfl,rfl⟩)),HB4.out⟩
    all_goals
     have HRX:Hid (Z4 (bl s)=.ok t):=hid (by rw[HRQ3.out,if_neg (by omega)])
     clear hkr h0
     go_wp2
     go_ret2
     exact⟨_,_,rfl,RdIs.fine HRX.out ⟨rfl,HV4.out⟩,HB4.out⟩
   ·have hkd:((kd:Int) != 4)=true:=by
     rw[bne_iff_ne];intro e
     exact hk0 (hpk.2.2.2.2.1 (by have:=ht.1;simp only at this;omega))
    have HRX:Hid (Z4 (bl s)=.error (2,(LS.hd r).at_)):=hid (by rw[HRQ2.out,if_neg hk0])
    have hf:∀W:World,(Instr.field 167 (.agg #[.int .i64 kd,.int .i64 at_,.string tx,.int .i64 tv]) 0).run Tryz.prog W=.ok (.int .i64 kd) W:=fun _=>rfl
    clear hk0 hpk
    go_wp2_with fail
    refine(Zey HK3.out).mono ?_
    rintro e wE ⟨v,rfl,HE,hbE⟩
    obtain⟨fa,rfl⟩:=HE.shape
    have HBE:Hid (Below w.heap.size w wE):=HB3.trans (hbE.mono HB3.size)
    clear hbE
    go_wp2
    go_ret2
    exact⟨_,_,rfl,RdIs.error HRX.out (Or.inr (Or.inr HE.out)),HBE.out⟩
theorem Zcs(a b:ByteArray):bl (a++b)=bl a++bl b:=by simp[bl]
def dig(d:Nat):UInt8:=UInt8.ofNat (48+d)
def decS(n:Nat):List UInt8:=if n<=9 then [dig n] else decS (n / 10)++[dig (n % 10)]
termination_by n
decreasing_by omega
theorem ZgU{n:Nat}(h:n<=9):decS n=[dig n]:=by rw[decS,if_pos h]
theorem Zic{n:Nat}(h:¬n<=9):decS n=decS (n / 10)++[dig (n % 10)]:=by rw[decS,if_neg h]
def opS(o:Nat):List UInt8:=[[43],[45],[42],[47]].getD o []
def Zcd(a:Nd)(pl pr:Nat->List UInt8):List UInt8:=
 if a.kind=0 then decS a.n.toNat
 else if a.kind=1 then selS a
 else if a.kind=2 then ZbF.getD a.op []++[40]++selS a++[91]++decS a.n.toNat++[93,41]
 else if a.kind=3 then [45]++pl 4
 else if a.kind=5 then Zbp.getD a.op []++[32,98,121,32,40]++commas a.by_++[41,32,40]++pl 1++[41]
 else if a.kind=6 then pl 1++[32,111,114,32]++pr 2
 else pl (Zbs a)++[32]++opS a.op++[32]++pr (Zbs a+1)
def ZfI(b:Bool)(s:List UInt8):List UInt8:=if b then [40]++s++[41] else s
def ZD:Tr->Nat->List UInt8
 | .nil,_=>[]
 | .node _ _ a l r,must=>ZfI (decide (Zbs a<must)) (Zcd a (ZD l) (ZD r))
theorem Zid:∀(k n:Nat),n<10 ^ (k+1)->(decS n).length<=k+1
 | 0,n,h=>by rw[ZgU (by simp at h;omega)];simp
 | k + 1, n, h => by
   by_cases h9:n<=9
   · rw[ZgU h9];simp
   · rw[Zic h9,List.length_append]
     have:=Zid k (n / 10) (by rw[Nat.pow_succ]at h;omega)
     simp
     omega
theorem Zj0(a b:List UInt8)(l:List (List UInt8)):commas (a::b::l)=a++44::commas (b::l):=rfl
theorem Zfh:∀(l:List (List UInt8)),(commas l).length<=nw l
 | []=>Nat.le_refl _
 | [a]=>by simp[commas,nw]
 | a :: b :: l => by
   have:=Zfh (b::l)
   rw[Zj0,List.length_append,List.length_cons]
   simp only[nw]at *
   omega
theorem Zox(c:List UInt8×List UInt8×Bool):(Zcc c).length<=c.1.length+c.2.1.length+4:=by
 unfold Zcc
 split <;> simp <;> omega
theorem ZiP:∀(l:List (List UInt8×List UInt8×Bool)),nw (l.map Zcc)<=cw l
 | []=>Nat.le_refl _
 | c :: l => by
   have:=ZiP l
   have:=Zox c
   simp only[List.map_cons,nw,cw]
   omega
theorem Zmx(a:Nd):(selS a).length<=a.name.length+cw a.conds+2:=by
 unfold selS
 split
 ·omega
 ·have h1:=Zfh (a.conds.map Zcc)
  have h2:=ZiP a.conds
  simp only[List.length_append,List.length_cons,List.length_nil]
  omega
theorem ZfX(ws:List (List UInt8))(h:∀x∈ws,x.length<=5)(i:Nat):(ws.getD i []).length<=5:=by
 rw[List.getD_eq_getElem?_getD]
 cases hi:ws[i]? with
 | none=>simp
 | some x=>exact h x (List.mem_of_getElem? hi)
theorem Zj6{a:Nd}(hn:a.n<=1000000000){pl pr:Nat->List UInt8}{x y:Nat}(hl:∀m,(pl m).length<=x)(hr:∀m,(pr m).length<=y):(Zcd a pl pr).length+2<=ownW a+x+y:=by
 have hd1:a.n.toNat<=1000000000:=by omega
 have hd2:(10:Nat) ^ 10=10000000000:=by decide
 have hd:(decS a.n.toNat).length<=10:=Zid 9 _ (by omega)
 have hs:=Zmx a
 have hc:=Zfh a.by_
 have ho:=ZfX ZbF (by decide) a.op
 have hg:=ZfX Zbp (by decide) a.op
 have hop:=ZfX [[43],[45],[42],[47]] (by decide) a.op
 have l1:=hl 1;have l4:=hl 4;have lt:=hl (Zbs a)
 have r2:=hr 2;have rt:=hr (Zbs a+1)
 unfold Zcd ownW
 split
 ·omega
 ·split
  ·omega
  ·split
   ·simp only[List.length_append,List.length_cons,List.length_nil];omega
   ·split
    ·simp only[List.length_append,List.length_cons,List.length_nil];omega
    ·split
     ·simp only[List.length_append,List.length_cons,List.length_nil];omega
     ·split
      ·simp only[List.length_append,List.length_cons,List.length_nil];omega
      ·unfold opS
       simp only[List.length_append,List.length_cons,List.length_nil];omega
theorem Zwg(b:Bool)(s:List UInt8):(ZfI b s).length<=s.length+2:=by
 unfold ZfI;split <;> simp <;> omega
theorem Zfy:∀(t:Tr) (m:Nat),wfT t->(ZD t m).length<=wT t
 | .nil,_,_=>Nat.le_refl _
 | .node x y a l r, m, h => by
   have hl:=Zfy l
   have hr:=Zfy r
   have h1:=Zj6 h.2.2.2.2.2.1 (pl:=ZD l) (pr:=ZD r) (x:=wT l) (y:=wT r) (fun m=>hl m h.2.2.2.2.2.2.2.2.2.2.1) (fun m=>hr m h.2.2.2.2.2.2.2.2.2.2.2)
   have h2:=Zwg (decide (Zbs a<m)) (Zcd a (ZD l) (ZD r))
   unfold ZD wT
   omega
theorem Zj2(l:List (List UInt8))(a:List UInt8):commas (l++[a])=(if l.isEmpty then [] else commas l++[44])++a:=by
 induction l with
 | nil=>rfl
 | cons b l ih=>
  cases l with
  | nil=>simp[commas]
  | cons c l=>
   have e:commas (b::c::l++[a])=b++44::commas (c::l++[a]):=rfl
   rw[e,ih]
   simp[commas]
def Zfx(l:List UInt8):List UInt8×Nat×Nat:=match Z4 l with
 | .error x=>([],x.1,x.2)
 | .ok t=>(ZD t 1,0,0)
end Go.Proofs.YtkodhpilkaihjaaGreatDoor
