/- Parts. -/
import Derived.Test.YtkodhpilkaihjaaGreatDoorV07
import Derived.Test.YtkodhpilkaihjaaGreatDoorV16
import Derived.Test.YtkodhpilkaihjaaGreatDoorV05
import Derived.Deep.LoopGhost
import Derived.Test.YtkodhpilkaihjaaGreatDoorV09
namespace Go.Proofs.YtkodhpilkaihjaaGreatDoor
open Go.RowKit LS
theorem Tryz.infoTok:(Tryz.prog.info? 167).map (fun i=>(i.zero,i.size,i.bytes))=some (some (.agg #[.int .i64 0,.int .i64 0,.string ByteArray.empty,.int .i64 0]),4,40):=by kernel_rfl
theorem cells_four_new{W:World}{a b c d:Value}{t:TypeId}{n:Nat}(hn:W.heap.size=n):∀j x,[a,b,c,d][j]?=some x→(W.alloc (.cells #[a,b,c,d] t)).cell? ((⟨n,0,none⟩:Addr).add j)=some x:=by
 intro j x hj
 subst hn
 rw[add_zero_block]
 have h:=Go.Deep.blk_alloc_new W (.cells #[a,b,c,d] t)
 simp only[World.cell?,h]
 simpa using hj
theorem run_all(p:UInt8→Bool):∀l:List UInt8,(l.take (run p l)).all p=true
 | []=>rfl
 | b :: l => by
   unfold run
   split
   · rename_i h;simp[h];exact fun x hx=>(List.all_eq_true.1 (run_all p l)) x hx
   · rfl
theorem own_zeroT{w:World}{base:Nat}{e:TypeId}{size:Nat}{v:Value}{n:Nat}{xs:List Value}(h:w.ownsRow base e size v n xs):w.ownsRow 0 e size v n xs:=by
 refine⟨h.1,?_⟩
 rcases h.2 with h2|⟨g,cap,cur,h,_,r⟩
 ·exact Or.inl h2
 ·exact Or.inr ⟨g,cap,cur,h,Nat.zero_le _,r⟩
set_option maxRecDepth 100000 in
set_option maxHeartbeats 2000000 in
theorem lex_prog(s:ByteArray)(w:World)(hs:s.size≤300) :
  Calls Tryz.prog 67 #[.string s] w fun e w'=>∃(v:Value) (ps:List PTok),e=.returned v∧w'.ownsRow 0 167 4 v ps.length (flatT ps)∧Hid (AllTok ps (lexAll (bl s) ((bl s).length+1) 0))∧Below w.heap.size w w':=by
 obtain⟨i0,hi,hz0,hz1,hz2⟩:=info_parts Tryz.infoTok
 go_enter Tryz.func67,Tryz.ntmps67
 go_wp2
 go_step3
 go_wp2
 go_step3
 go_wp2
 go_loopg [3,4] s.size (fun gg v3 v4 wr=>∃(ps:List PTok) (k:Nat),gg=s.size - k∧v4=.int .i64 k∧Hid (LexRel s ps k)∧wr.ownsRow w.heap.size 167 4 v3 ps.length (flatT ps)∧Hid (Below w.heap.size w wr))
 case atStart=>exact⟨[],0,rfl,rfl,LexRel.start s,World.ownsRow_nil _ _ _ _,Below.refl _ _⟩
 case round=>
  obtain⟨ps,k,hgk,rfl,HL,hown,HB⟩:=hrel
  have hk:=HL.out.1
  have hps:=HL.out.2.1
  have hsz:=HB.out.size
  by_cases hlt:k<s.size
  ·by_cases h32:s[k]=32
   ·have HL2:Hid (LexRel s ps (k+1)):=HL.out.skip hlt h32
    go_wp2
    go_roundg (s.size - (k+1))
    case measure=>omega
    case rel=>exact⟨ps,k+1,rfl,by go_num,HL2,hown,HB⟩
   ·have c32:((s[k].toNat:Int) == 32)=false:=by
     rw[beq_eq_false_iff_ne]
     intro e
     exact h32 (UInt8.toNat_inj.1 (by show s[k].toNat=32;omega))
    cases hdg:digit s[k]
    ·have HDG:Hid (digit s[k]=false):=hdg
     clear hdg
     cases hlg:letter s[k]
     ·have HLG:Hid (letter s[k]=false):=hlg
      clear hlg
      by_cases h34:s[k]=34
      ·have c34:((s[k].toNat:Int) == 34)=true:=by rw[h34];rfl
       have HK:Hid (s[k]=34):=h34
       clear h34
       go_wp2_with fail
       refine(isDigit_any _ _).mono ?_
       rintro e w' ⟨rfl,rfl⟩
       rw[HDG.out]
       go_wp2_with fail
       refine(isLetter_any _ _).mono ?_
       rintro e wq ⟨rfl,rfl⟩
       rw[HLG.out]
       go_wp2
       obtain⟨L3,hL3⟩:∃L3,L3=u3:=⟨_,rfl⟩
       go_loopg [3,4,10] (s.size - (k+1)) (fun gi x3 x4 v10 wi=>∃n:Nat,x3=L3∧x4=.int .i64 (k:Int)∧gi=s.size - (k+1+n)∧v10=.int .i64 ((k+1+n:Nat):Int)∧Hid (QRel s k n)∧wi=wq)
       case atStart=>exact⟨0,hL3.symm,rfl,rfl,by go_num,QRel.start hlt,rfl⟩
       case round=>
        obtain⟨n,e3,rfl,hgn,rfl,HQ,rfl⟩:=hrel
        subst e3
        subst hL3
        have hn:=HQ.out.1
        by_cases hlt2:k+1+n<s.size
        ·by_cases hE:s[k+1+n]=34
         ·have cE:((s[k+1+n].toNat:Int) == 34)=true:=by rw[hE];rfl
          have HL2:Hid (LexRel s (ps++[⟨2,k,s.extract (k+1) (k+1+n),0⟩]) (k+1+n+1)):=HQ.out.shut HL.out hlt HK.out hlt2 hE
          clear hE
          go_wp2_with (at_builtin;refine wpList_append_own _ rfl (.tmp 103) (.tmp 111) 159 rfl w.heap.size 167 i0 (.agg #[.int .i64 0,.int .i64 0,.string ByteArray.empty,.int .i64 0]) 4 40 Tryz.underlying159 hi hz0 hz1 hz2 rfl (by decide) _ _ _ rfl (hown.alloc _) ⟨wr.heap.size,0,none⟩ 1 1 [.int .i64 2,.int .i64 k,.string (s.extract (k+1) (k+1+n)),.int .i64 0] rfl rfl ?c1 ?c2 ?c3 ?c4 ?c5 ?_)
          case c1=>exact cells_four_new rfl
          case c2=>intro u hu;simp at hu;rcases hu with rfl|rfl|rfl|rfl <;> rfl
          case c3=>unfold maxLen;omega
          case c4=>omega
          case c5=>simp;omega
          intro v' w3 hown3 hgrow _
          have HB3:Hid (Below w.heap.size w w3):=hid ((HB.out.alloc hsz _).grown hgrow (by simp;omega) (fun q hq=>(hown.lt q hq).1))
          have hown4:w3.ownsRow w.heap.size 167 4 v' (ps++[(⟨2,k,s.extract (k+1) (k+1+n),0⟩:PTok)]).length (flatT (ps++[(⟨2,k,s.extract (k+1) (k+1+n),0⟩:PTok)])):=by
           rw[flatT_append,List.length_append];exact hown3
          clear hown3 hgrow hown
          go_wp2
          go_roundg (s.size - (k+1+n+1))
          case measure=>omega
          case rel=>exact⟨_,k+1+n+1,rfl,by first|rfl|go_num,HL2,hown4,HB3⟩
         ·have cE:((s[k+1+n].toNat:Int) == 34)=false:=by
           rw[beq_eq_false_iff_ne]
           intro e
           exact hE (UInt8.toNat_inj.1 (by show s[k+1+n].toNat=34;omega))
          have hx6:(s.extract (k+1) (k+1+n+1)).size≤6000:=by simp;omega
          obtain⟨sx,hsx⟩:∃sx,sx=s.extract (k+1) (k+1+n+1):=⟨_,rfl⟩
          have HSX:Hid (sx=s.extract (k+1) (k+1+n+1)):=hsx
          rw[←hsx]at hx6
          cases hw:isWord (bl sx)
          ·have HD:Hid (AllTok (ps++[⟨5,k,⟨#[]⟩,0⟩]) (lexAll (bl s) ((bl s).length+1) 0)):=HQ.out.bad HL.out hlt HK.out hlt2 hE (by rw[←hsx];exact hw)
           have HW:Hid (isWord (bl sx)=false):=hw
           clear hE hw hsx
           go_wp2_with fail
           rw[←HSX.out]
           refine(wIsWord_any sx _ hx6).mono ?_
           rintro e wq ⟨rfl,rfl⟩
           rw[HW.out]
           go_wp2_with (at_builtin;refine wpList_append_own _ rfl (.tmp 127) (.tmp 130) 159 rfl w.heap.size 167 i0 (.agg #[.int .i64 0,.int .i64 0,.string ByteArray.empty,.int .i64 0]) 4 40 Tryz.underlying159 hi hz0 hz1 hz2 rfl (by decide) _ _ _ rfl (hown.alloc _) ⟨wq.heap.size,0,none⟩ 1 1 [.int .i64 5,.int .i64 k,.string ⟨#[]⟩,.int .i64 0] rfl rfl ?c1 ?c2 ?c3 ?c4 ?c5 ?_)
           case c1=>exact cells_four_new rfl
           case c2=>intro u hu;simp at hu;rcases hu with rfl|rfl|rfl|rfl <;> rfl
           case c3=>unfold maxLen;omega
           case c4=>omega
           case c5=>simp;omega
           intro v' w3 hown3 hgrow _
           have HB3:Hid (Below w.heap.size w w3):=hid ((HB.out.alloc hsz _).grown hgrow (by simp;omega) (fun q hq=>(hown.lt q hq).1))
           have hown4:w3.ownsRow w.heap.size 167 4 v' (ps++[(⟨5,k,⟨#[]⟩,0⟩:PTok)]).length (flatT (ps++[(⟨5,k,⟨#[]⟩,0⟩:PTok)])):=by
            rw[flatT_append,List.length_append];exact hown3
           clear hown3 hgrow hown
           go_wp2
           try rw[Exit.noGoto_ret]
           go_ret
           exact⟨_,_,rfl,own_zeroT hown4,HD,HB3.out⟩
          ·have HQ2:Hid (QRel s k (n+1)):=HQ.out.go hlt2 hE (by rw[←hsx];exact hw)
           have HW:Hid (isWord (bl sx)=true):=hw
           clear hE hw hsx
           go_wp2_with fail
           rw[←HSX.out]
           refine(wIsWord_any sx _ hx6).mono ?_
           rintro e wq ⟨rfl,rfl⟩
           rw[HW.out]
           go_wp2
           go_roundg (s.size - (k+1+(n+1)))
           case measure=>omega
           case rel=>exact⟨n+1,rfl,rfl,rfl,by go_num,HQ2,rfl⟩
        ·have HD:Hid (AllTok (ps++[⟨5,k,⟨#[]⟩,0⟩]) (lexAll (bl s) ((bl s).length+1) 0)):=HQ.out.never HL.out hlt HK.out hlt2
         go_wp2_with (at_builtin;refine wpList_append_own _ rfl (.tmp 127) (.tmp 130) 159 rfl w.heap.size 167 i0 (.agg #[.int .i64 0,.int .i64 0,.string ByteArray.empty,.int .i64 0]) 4 40 Tryz.underlying159 hi hz0 hz1 hz2 rfl (by decide) _ _ _ rfl (hown.alloc _) ⟨wr.heap.size,0,none⟩ 1 1 [.int .i64 5,.int .i64 k,.string ⟨#[]⟩,.int .i64 0] rfl rfl ?c1 ?c2 ?c3 ?c4 ?c5 ?_)
         case c1=>exact cells_four_new rfl
         case c2=>intro u hu;simp at hu;rcases hu with rfl|rfl|rfl|rfl <;> rfl
         case c3=>unfold maxLen;omega
         case c4=>omega
         case c5=>simp;omega
         intro v' w3 hown3 hgrow _
         have HB3:Hid (Below w.heap.size w w3):=hid ((HB.out.alloc hsz _).grown hgrow (by simp;omega) (fun q hq=>(hown.lt q hq).1))
         have hown4:w3.ownsRow w.heap.size 167 4 v' (ps++[(⟨5,k,⟨#[]⟩,0⟩:PTok)]).length (flatT (ps++[(⟨5,k,⟨#[]⟩,0⟩:PTok)])):=by
          rw[flatT_append,List.length_append];exact hown3
         clear hown3 hgrow hown
         go_wp2
         try rw[Exit.noGoto_ret]
         go_ret
         exact⟨_,_,rfl,own_zeroT hown4,HD,HB3.out⟩
      ·have c34:((s[k].toNat:Int) == 34)=false:=by
        rw[beq_eq_false_iff_ne]
        intro e
        exact h34 (UInt8.toNat_inj.1 (by show s[k].toNat=34;omega))
       have HLX:=lexAt_mark hlt h32 HDG.out HLG.out h34
       obtain⟨m,hm⟩:∃m,m=markS s[k] ((bl s).drop (k+1)):=⟨_,rfl⟩
       rw[←hm]at HLX
       have HM:Hid (m=markS s[k] ((bl s).drop (k+1))):=hm
       clear hm
       by_cases hm0:m=[]
       ·rw[if_pos hm0]at HLX
        have HD:Hid (AllTok (ps++[⟨5,k,⟨#[]⟩,0⟩]) (lexAll (bl s) ((bl s).length+1) 0)):=hid (HL.out.done (t:=⟨5,[],k⟩) HLX (Or.inr rfl) ⟨rfl,rfl,rfl,fun h=>by cases h⟩)
        clear HLX
        go_wp2_with fail
        refine(isDigit_any _ _).mono ?_
        rintro e w' ⟨rfl,rfl⟩
        rw[HDG.out]
        go_wp2_with fail
        refine(isLetter_any _ _).mono ?_
        rintro e w' ⟨rfl,rfl⟩
        rw[HLG.out]
        go_wp2_with fail
        refine(markAt_any s k _ (by omega) hlt).mono ?_
        rintro e w' ⟨x,rfl,HX,rfl⟩
        have hx:bl x=[]:=by rw[HX.out,←HM.out];exact hm0
        obtain rfl:x=⟨#[]⟩:=by
         cases x with|mk d=>cases d with|mk l=>simp[bl]at hx;subst hx;rfl
        clear hx HX
        go_wp2_with (at_builtin;refine wpList_append_own _ rfl (.tmp 127) (.tmp 130) 159 rfl w.heap.size 167 i0 (.agg #[.int .i64 0,.int .i64 0,.string ByteArray.empty,.int .i64 0]) 4 40 Tryz.underlying159 hi hz0 hz1 hz2 rfl (by decide) _ _ _ rfl (hown.alloc _) ⟨w'.heap.size,0,none⟩ 1 1 [.int .i64 5,.int .i64 k,.string ⟨#[]⟩,.int .i64 0] rfl rfl ?c1 ?c2 ?c3 ?c4 ?c5 ?_)
        case c1=>exact cells_four_new rfl
        case c2=>intro u hu;simp at hu;rcases hu with rfl|rfl|rfl|rfl <;> rfl
        case c3=>unfold maxLen;omega
        case c4=>omega
        case c5=>simp;omega
        intro v' w3 hown3 hgrow _
        have HB3:Hid (Below w.heap.size w w3):=hid ((HB.out.alloc hsz _).grown hgrow (by simp;omega) (fun q hq=>(hown.lt q hq).1))
        have hown4:w3.ownsRow w.heap.size 167 4 v' (ps++[(⟨5,k,⟨#[]⟩,0⟩:PTok)]).length (flatT (ps++[(⟨5,k,⟨#[]⟩,0⟩:PTok)])):=by
         rw[flatT_append,List.length_append];exact hown3
        clear hown3 hgrow hown
        go_wp2
        try rw[Exit.noGoto_ret]
        go_ret
        exact⟨_,_,rfl,own_zeroT hown4,HD,HB3.out⟩
       ·rw[if_neg hm0]at HLX
        go_wp2_with fail
        refine(isDigit_any _ _).mono ?_
        rintro e w' ⟨rfl,rfl⟩
        rw[HDG.out]
        go_wp2_with fail
        refine(isLetter_any _ _).mono ?_
        rintro e w' ⟨rfl,rfl⟩
        rw[HLG.out]
        go_wp2_with fail
        refine(markAt_any s k _ (by omega) hlt).mono ?_
        rintro e w' ⟨x,rfl,HX,rfl⟩
        have hx:bl x=m:=by rw[HX.out,←HM.out]
        rw[←hx]at HLX
        have HL2:Hid (LexRel s (ps++[⟨3,k,x,0⟩]) (k+x.size)):=hid (by
         have:=HL.out.token (p:=⟨3,k,x,0⟩) HLX (by show ¬((4:Nat)=0∨(4:Nat)=5);decide) ⟨rfl,rfl,rfl,fun h=>by cases h⟩
         rwa [bl_length]at this)
        have hx0:0<x.size:=by rw[←bl_length,hx];exact List.length_pos_iff.2 hm0
        have hxe:x.toList.isEmpty=false:=by
         rw[toList_bl,hx]
         cases m with
         | nil=>exact absurd rfl hm0
         | cons=>rfl
        have hx2:=HL2.out.1
        clear hx HX HLX
        go_wp2_with (at_builtin;refine wpList_append_own _ rfl (.tmp 24) (.tmp 28) 159 rfl w.heap.size 167 i0 (.agg #[.int .i64 0,.int .i64 0,.string ByteArray.empty,.int .i64 0]) 4 40 Tryz.underlying159 hi hz0 hz1 hz2 rfl (by decide) _ _ _ rfl (hown.alloc _) ⟨w'.heap.size,0,none⟩ 1 1 [.int .i64 3,.int .i64 k,.string x,.int .i64 0] rfl rfl ?c1 ?c2 ?c3 ?c4 ?c5 ?_)
        case c1=>exact cells_four_new rfl
        case c2=>intro u hu;simp at hu;rcases hu with rfl|rfl|rfl|rfl <;> rfl
        case c3=>unfold maxLen;omega
        case c4=>omega
        case c5=>simp;omega
        intro v' w3 hown3 hgrow _
        have HB3:Hid (Below w.heap.size w w3):=hid ((HB.out.alloc hsz _).grown hgrow (by simp;omega) (fun q hq=>(hown.lt q hq).1))
        have hown4:w3.ownsRow w.heap.size 167 4 v' (ps++[(⟨3,k,x,0⟩:PTok)]).length (flatT (ps++[(⟨3,k,x,0⟩:PTok)])):=by
         rw[flatT_append,List.length_append];exact hown3
        clear hown3 hgrow hown
        go_wp2
        go_roundg (s.size - (k+x.size))
        case measure=>omega
        case rel=>exact⟨_,k+x.size,rfl,by first|rfl|go_num,HL2,hown4,HB3⟩
     ·obtain⟨E,hE⟩:∃E,E=k+run letter ((bl s).drop k):=⟨_,rfl⟩
      have HRun:Hid (∀w,Calls Tryz.prog 117 #[.string s,.int .i64 k,.func (.func 119) #[] #[]] w fun e w'=>e=.returned (.int .i64 (E:Int))∧w'=w):=hid (fun w=>by rw[hE];exact runLetters_any s k w (by omega) hk)
      have hr1:0<run letter ((bl s).drop k):=by rw[run_cons s k hlt hlg];omega
      have hr2:=run_le letter ((bl s).drop k)
      rw[List.length_drop,bl_length]at hr2
      have hE1:k<E:=by omega
      have hE2:E≤s.size:=by omega
      have HX:Hid (bl (s.extract k E)=((bl s).drop k).take (run letter ((bl s).drop k))):=hid (by rw[bl_extract,List.drop_take,hE];congr 1;omega)
      have HLX:=lexAt_letter hlt HDG.out hlg
      rw[←HX.out,←hE]at HLX
      have hsx:(s.extract k E).size=run letter ((bl s).drop k):=by rw[size_of_bl HX.out,List.length_take,List.length_drop,bl_length];omega
      have HNM:Hid (isName (bl (s.extract k E))=decide (run letter ((bl s).drop k)≤8)):=hid (by
       unfold isName
       rw[HX.out,run_all,List.length_take,List.length_drop,bl_length]
       rw[Nat.min_eq_left (by omega)]
       by_cases h8:run letter ((bl s).drop k)≤8
       ·simp[h8];omega
       ·simp[h8];omega)
      have hsx6:(s.extract k E).size≤6000:=by omega
      obtain⟨sx,hsxe⟩:∃sx,sx=s.extract k E:=⟨_,rfl⟩
      rw[←hsxe]at HLX hsx6 HNM
      have HSX:Hid (sx=s.extract k E):=hsxe
      by_cases h8:8<run letter ((bl s).drop k)
      ·rw[if_pos h8]at HLX
       have HD:Hid (AllTok (ps++[⟨5,k,⟨#[]⟩,0⟩]) (lexAll (bl s) ((bl s).length+1) 0)):=hid (HL.out.done (t:=⟨5,[],k⟩) (e:=E) HLX (Or.inr rfl) ⟨rfl,rfl,rfl,fun h=>by cases h⟩)
       have HNF:Hid (isName (bl sx)=false):=hid (by rw[HNM.out];exact decide_eq_false (by omega))
       clear HLX hE hsxe hr1 hr2 h8 hsx HX HNM
       go_wp2_with fail
       refine(isDigit_any _ _).mono ?_
       rintro e w' ⟨rfl,rfl⟩
       rw[HDG.out]
       go_wp2_with fail
       refine(isLetter_any _ _).mono ?_
       rintro e w' ⟨rfl,rfl⟩
       rw[hlg]
       go_wp2_with fail
       refine(HRun.out _).mono ?_
       rintro e w' ⟨rfl,rfl⟩
       go_wp2_with fail
       rw[←HSX.out]
       refine(wIsName_any sx _ hsx6).mono ?_
       rintro e w' ⟨rfl,rfl⟩
       rw[HNF.out]
       go_wp2_with (at_builtin;refine wpList_append_own _ rfl (.tmp 127) (.tmp 130) 159 rfl w.heap.size 167 i0 (.agg #[.int .i64 0,.int .i64 0,.string ByteArray.empty,.int .i64 0]) 4 40 Tryz.underlying159 hi hz0 hz1 hz2 rfl (by decide) _ _ _ rfl (hown.alloc _) ⟨w'.heap.size,0,none⟩ 1 1 [.int .i64 5,.int .i64 k,.string ⟨#[]⟩,.int .i64 0] rfl rfl ?c1 ?c2 ?c3 ?c4 ?c5 ?_)
       case c1=>exact cells_four_new rfl
       case c2=>intro u hu;simp at hu;rcases hu with rfl|rfl|rfl|rfl <;> rfl
       case c3=>unfold maxLen;omega
       case c4=>omega
       case c5=>simp;omega
       intro v' w3 hown3 hgrow _
       have HB3:Hid (Below w.heap.size w w3):=hid ((HB.out.alloc hsz _).grown hgrow (by simp;omega) (fun q hq=>(hown.lt q hq).1))
       have hown4:w3.ownsRow w.heap.size 167 4 v' (ps++[(⟨5,k,⟨#[]⟩,0⟩:PTok)]).length (flatT (ps++[(⟨5,k,⟨#[]⟩,0⟩:PTok)])):=by
        rw[flatT_append,List.length_append];exact hown3
       clear hown3 hgrow hown
       go_wp2
       try rw[Exit.noGoto_ret]
       go_ret
       exact⟨_,_,rfl,own_zeroT hown4,HD,HB3.out⟩
      ·rw[if_neg h8]at HLX
       have HL2:Hid (LexRel s (ps++[⟨1,k,sx,0⟩]) E):=HL.out.token (t:=⟨2,bl sx,k⟩) HLX (by show ¬((2:Nat)=0∨(2:Nat)=5);decide) ⟨rfl,rfl,rfl,fun h=>by cases h⟩
       have HNF:Hid (isName (bl sx)=true):=hid (by rw[HNM.out];exact decide_eq_true (by omega))
       clear HLX hE hsxe hr1 hr2 h8 hsx HX HNM
       go_wp2_with fail
       refine(isDigit_any _ _).mono ?_
       rintro e w' ⟨rfl,rfl⟩
       rw[HDG.out]
       go_wp2_with fail
       refine(isLetter_any _ _).mono ?_
       rintro e w' ⟨rfl,rfl⟩
       rw[hlg]
       go_wp2_with fail
       refine(HRun.out _).mono ?_
       rintro e w' ⟨rfl,rfl⟩
       go_wp2_with fail
       rw[←HSX.out]
       refine(wIsName_any sx _ hsx6).mono ?_
       rintro e w' ⟨rfl,rfl⟩
       rw[HNF.out]
       go_wp2_with (at_builtin;refine wpList_append_own _ rfl (.tmp 78) (.tmp 85) 159 rfl w.heap.size 167 i0 (.agg #[.int .i64 0,.int .i64 0,.string ByteArray.empty,.int .i64 0]) 4 40 Tryz.underlying159 hi hz0 hz1 hz2 rfl (by decide) _ _ _ rfl (hown.alloc _) ⟨w'.heap.size,0,none⟩ 1 1 [.int .i64 1,.int .i64 k,.string (s.extract k E),.int .i64 0] rfl rfl ?c1 ?c2 ?c3 ?c4 ?c5 ?_)
       case c1=>exact cells_four_new rfl
       case c2=>intro u hu;simp at hu;rcases hu with rfl|rfl|rfl|rfl <;> rfl
       case c3=>unfold maxLen;omega
       case c4=>omega
       case c5=>simp;omega
       intro v' w3 hown3 hgrow _
       have HB3:Hid (Below w.heap.size w w3):=hid ((HB.out.alloc hsz _).grown hgrow (by simp;omega) (fun q hq=>(hown.lt q hq).1))
       have hown4:w3.ownsRow w.heap.size 167 4 v' (ps++[(⟨1,k,sx,0⟩:PTok)]).length (flatT (ps++[(⟨1,k,sx,0⟩:PTok)])):=by
        rw[flatT_append,List.length_append,HSX.out];exact hown3
       clear hown3 hgrow hown
       go_wp2
       go_roundg (s.size - E)
       case measure=>omega
       case rel=>exact⟨_,E,rfl,by first|rfl|go_num,HL2,hown4,HB3⟩
    ·obtain⟨E,hE⟩:∃E,E=k+run digit ((bl s).drop k):=⟨_,rfl⟩
     have HRun:Hid (∀w,Calls Tryz.prog 117 #[.string s,.int .i64 k,.func (.func 116) #[] #[]] w fun e w'=>e=.returned (.int .i64 (E:Int))∧w'=w):=hid (fun w=>by rw[hE];exact runDigits_any s k w (by omega) hk)
     have hr1:0<run digit ((bl s).drop k):=by rw[run_cons s k hlt hdg];omega
     have hr2:=run_le digit ((bl s).drop k)
     rw[List.length_drop,bl_length]at hr2
     have hE1:k<E:=by omega
     have hE2:E≤s.size:=by omega
     have HX:Hid (bl (s.extract k E)=((bl s).drop k).take (run digit ((bl s).drop k))):=hid (by rw[bl_extract,List.drop_take,hE];congr 1;omega)
     have HLX:=lexAt_digit hlt hdg
     rw[←HX.out,←hE]at HLX
     have hsx:(s.extract k E).size≤6000:=by simp;omega
     obtain⟨sx,hsxe⟩:∃sx,sx=s.extract k E:=⟨_,rfl⟩
     rw[←hsxe]at HLX hsx
     have HSX:Hid (sx=s.extract k E):=hsxe
     cases hnum:number 1000000000 (bl sx)with
     | none=>
      rw[hnum]at HLX
      have HD:Hid (AllTok (ps++[⟨5,k,⟨#[]⟩,0⟩]) (lexAll (bl s) ((bl s).length+1) 0)):=hid (HL.out.done (t:=⟨5,[],k⟩) (e:=E) HLX (Or.inr rfl) ⟨rfl,rfl,rfl,fun h=>by cases h⟩)
      have HNT:Hid (numT 1000000000 (bl sx)=.tuple #[.int .i64 0,.bool false]):=numT_none hnum
      clear hnum HLX hE hsxe hr1 hr2
      go_wp2_with fail
      refine(isDigit_any _ _).mono ?_
      rintro e w' ⟨rfl,rfl⟩
      rw[hdg]
      go_wp2_with fail
      refine(HRun.out _).mono ?_
      rintro e w' ⟨rfl,rfl⟩
      go_wp2_with fail
      rw[←HSX.out]
      refine(wNumber_any sx 1000000000 _ hsx (by decide) (by decide)).mono ?_
      rintro e w' ⟨rfl,rfl⟩
      rw[HNT.out]
      go_wp2_with (at_builtin;refine wpList_append_own _ rfl (.tmp 127) (.tmp 130) 159 rfl w.heap.size 167 i0 (.agg #[.int .i64 0,.int .i64 0,.string ByteArray.empty,.int .i64 0]) 4 40 Tryz.underlying159 hi hz0 hz1 hz2 rfl (by decide) _ _ _ rfl (hown.alloc _) ⟨w'.heap.size,0,none⟩ 1 1 [.int .i64 5,.int .i64 k,.string ⟨#[]⟩,.int .i64 0] rfl rfl ?c1 ?c2 ?c3 ?c4 ?c5 ?_)
      case c1=>exact cells_four_new rfl
      case c2=>intro u hu;simp at hu;rcases hu with rfl|rfl|rfl|rfl <;> rfl
      case c3=>unfold maxLen;omega
      case c4=>omega
      case c5=>simp;omega
      intro v' w3 hown3 hgrow _
      have HB3:Hid (Below w.heap.size w w3):=hid ((HB.out.alloc hsz _).grown hgrow (by simp;omega) (fun q hq=>(hown.lt q hq).1))
      have hown4:w3.ownsRow w.heap.size 167 4 v' (ps++[(⟨5,k,⟨#[]⟩,0⟩:PTok)]).length (flatT (ps++[(⟨5,k,⟨#[]⟩,0⟩:PTok)])):=by
       rw[flatT_append,List.length_append];exact hown3
      clear hown3 hgrow hown
      go_wp2
      try rw[Exit.noGoto_ret]
      go_ret
      exact⟨_,_,rfl,own_zeroT hown4,HD,HB3.out⟩
     | some v=>
      rw[hnum]at HLX
      have HL2:Hid (LexRel s (ps++[⟨0,k,sx,v⟩]) E):=HL.out.token (t:=⟨1,bl sx,k⟩) HLX (by show ¬((1:Nat)=0∨(1:Nat)=5);decide) ⟨rfl,rfl,rfl,fun _=>by unfold numV;rw[hnum];rfl⟩
      have HNT:Hid (numT 1000000000 (bl sx)=.tuple #[.int .i64 v,.bool true]):=numT_some hnum
      clear hnum HLX hE hsxe hr1 hr2
      go_wp2_with fail
      refine(isDigit_any _ _).mono ?_
      rintro e w' ⟨rfl,rfl⟩
      rw[hdg]
      go_wp2_with fail
      refine(HRun.out _).mono ?_
      rintro e w' ⟨rfl,rfl⟩
      go_wp2_with fail
      rw[←HSX.out]
      refine(wNumber_any sx 1000000000 _ hsx (by decide) (by decide)).mono ?_
      rintro e w' ⟨rfl,rfl⟩
      rw[HNT.out]
      go_wp2_with (at_builtin;refine wpList_append_own _ rfl (.tmp 55) (.tmp 63) 159 rfl w.heap.size 167 i0 (.agg #[.int .i64 0,.int .i64 0,.string ByteArray.empty,.int .i64 0]) 4 40 Tryz.underlying159 hi hz0 hz1 hz2 rfl (by decide) _ _ _ rfl (hown.alloc _) ⟨w'.heap.size,0,none⟩ 1 1 [.int .i64 0,.int .i64 k,.string (s.extract k E),.int .i64 v] rfl rfl ?c1 ?c2 ?c3 ?c4 ?c5 ?_)
      case c1=>exact cells_four_new rfl
      case c2=>intro u hu;simp at hu;rcases hu with rfl|rfl|rfl|rfl <;> rfl
      case c3=>unfold maxLen;omega
      case c4=>omega
      case c5=>simp;omega
      intro v' w3 hown3 hgrow _
      have HB3:Hid (Below w.heap.size w w3):=hid ((HB.out.alloc hsz _).grown hgrow (by simp;omega) (fun q hq=>(hown.lt q hq).1))
      have hown4:w3.ownsRow w.heap.size 167 4 v' (ps++[(⟨0,k,sx,v⟩:PTok)]).length (flatT (ps++[(⟨0,k,sx,v⟩:PTok)])):=by
       rw[flatT_append,List.length_append,HSX.out];exact hown3
      clear hown3 hgrow hown
      go_wp2
      go_roundg (s.size - E)
      case measure=>omega
      case rel=>exact⟨_,E,rfl,by first|rfl|go_num,HL2,hown4,HB3⟩
  ·have hke:k=s.size:=by omega
   have HD:Hid (AllTok (ps++[⟨4,k,⟨#[]⟩,0⟩]) (lexAll (bl s) ((bl s).length+1) 0)):=hid (by
    exact HL.out.done (t:=⟨0,[],s.size⟩) (e:=s.size) (by rw[hke];exact lexAt_end s) (Or.inl rfl) ⟨rfl,hke,rfl,fun h=>by cases h⟩)
   clear hke
   go_wp2_with (at_builtin;refine wpList_append_own _ rfl (.tmp 132) (.tmp 135) 159 rfl w.heap.size 167 i0 (.agg #[.int .i64 0,.int .i64 0,.string ByteArray.empty,.int .i64 0]) 4 40 Tryz.underlying159 hi hz0 hz1 hz2 rfl (by decide) _ _ _ rfl (hown.alloc _) ⟨wr.heap.size,0,none⟩ 1 1 [.int .i64 4,.int .i64 k,.string ⟨#[]⟩,.int .i64 0] rfl rfl ?c1 ?c2 ?c3 ?c4 ?c5 ?_)
   case c1=>exact cells_four_new rfl
   case c2=>intro u hu;simp at hu;rcases hu with rfl|rfl|rfl|rfl <;> rfl
   case c3=>unfold maxLen;omega
   case c4=>omega
   case c5=>simp;omega
   intro v' w3 hown3 hgrow _
   have HB3:Hid (Below w.heap.size w w3):=hid ((HB.out.alloc hsz _).grown hgrow (by simp;omega) (fun q hq=>(hown.lt q hq).1))
   have HO3:Hid (w3.ownsRow 0 167 4 v' (ps++[(⟨4,k,⟨#[]⟩,0⟩:PTok)]).length (flatT (ps++[(⟨4,k,⟨#[]⟩,0⟩:PTok)]))):=hid (by
    rw[flatT_append,List.length_append]
    refine⟨hown3.1,?_⟩
    rcases hown3.2 with h2|⟨g,cap,cur,h,_,r⟩
    ·exact Or.inl h2
    ·exact Or.inr ⟨g,cap,cur,h,Nat.zero_le _,r⟩)
   clear hown3 hgrow hown
   go_wp2
   try rw[Exit.noGoto_ret]
   go_ret
   exact⟨_,_,rfl,HO3.out,HD,HB3.out⟩
theorem St.tok{w:World}{b:Nat}{pv:Value}{s:ByteArray}{deep:Nat}{ts:List Tok}(h:St w b pv s deep (.ok ((),ts))):∃q:QV,QAt w b q∧tokOf q=hd ts∧q.tx.size≤s.size+2∧q.e=0∧q.deep=deep∧ts.tail.length+1=ts.length∧((hd ts).kind=1→(number 1000000000 (hd ts).txt).isSome=true):=by
 obtain⟨⟨q,h1,h2,h3,h4,h5,h6,h7⟩,_⟩:=h
 have:=Toks.txt_le (l:=bl s) (t:=tokOf q) (at_:=q.at_) (ts:=ts) h7
 have e:(tokOf q).txt=bl q.tx:=rfl
 rw[e,bl_length,bl_length]at this
 have hn:=Toks.num (l:=bl s) (t:=tokOf q) (at_:=q.at_) (ts:=ts) h7
 rw[←show LS.hd ts=tokOf q from h7.hd]at hn
 exact⟨q,h1,h7.hd.symm,this,h5,h4,h7.pos.symm,hn⟩
theorem leaf_res{w w2 w3:World}{b:Nat}{pv pv3:Value}{s:ByteArray}{deep n:Nat}{xs:List Value}{M:Nat}{R:Out Tr}{r2:Out Unit}{p:PV}(hk0:Kept b pv w pv w2)(h2:St w2 b pv s deep r2)(o2:w2.ownsRow 0 92 8 pv n xs)
  (h3:St w3 b pv3 s deep r2) (o3:w3.ownsRow 0 92 8 pv3 (n+1) (xs++p.cells)) (k3:Kept b pv w2 pv3 w3) (hB:Bud M (n+1) R) (hR:unitP R=r2) (hp:∀t z,R=.ok (t,z)→∃nd,t=leafT nd∧partIs w2 nd p∧p.a=0∧p.b=0):PartRes w b pv s deep xs M R n w3:=by
 refine⟨n+1,pv3,p.cells,by rw[hR];exact h3,o3,hk0.trans k3,hB,?_⟩
 intro t z e
 obtain⟨nd,rfl,hnd,ha,hb⟩:=hp t z e
 exact⟨n,rfl,rep_new h2 o2 k3 p nd .nil .nil 0 0 hnd ha hb (Nat.zero_le _) (Nat.zero_le _) trivial trivial,rfl,rfl⟩
theorem node_res{w w6 w8:World}{b:Nat}{pv pv2 pv8:Value}{s:ByteArray}{deep n2:Nat}{xs ys:List Value}{M:Nat}{R1 R:Out Tr}{i:Int}{p:PV}{nd:Nd}(h1:St w6 b pv2 s deep (unitP R1))(o1:w6.ownsRow 0 92 8 pv2 n2 (xs++ys))(k1:Kept b pv w pv2 w6)
  (hB:Bud M (n2+1) R1) (hr:∀t z,R1=.ok (t,z)→∃k:Nat,i=k∧Rep w6 (xs++ys) t k∧k+1=n2∧ys.length=8*cntT t) (h3:St w8 b pv8 s deep (unitP R1)) (o3:w8.ownsRow 0 92 8 pv8 (n2+1) ((xs++ys)++p.cells)) (k3:Kept b pv2 w6 pv8 w8)
  (hR:R=bnd R1 fun a r=>.ok (.node 0 0 nd a .nil,r)) (hp:partIs w6 nd p) (ha:p.a=i) (hb:p.b=0):PartRes w b pv s deep xs M R n2 w8:=by
 have hU:unitP R=unitP R1:=by
  rw[hR]
  cases R1 with
  | error e=>rfl
  | ok x=>rfl
 refine⟨n2+1,pv8,ys++p.cells,by rw[hU];exact h3,by rw[←List.append_assoc];exact o3,k1.trans k3,Bud.of_unit (by rw[hU];exact Bud.unit hB),?_⟩
 intro t z e
 rw[hR]at e
 obtain⟨a,r,e1,e2⟩:=bnd_ok e
 injection e2 with e2
 injection e2 with e2 e3
 subst e2;subst e3
 obtain⟨k,q1,q2,q3,q4⟩:=hr a r e1
 refine⟨n2,rfl,?_,rfl,by rw[List.length_append,q4];show _+8=8*(cntT a+0+1);omega⟩
 rw[←List.append_assoc]
 exact rep_new h1 o1 k3 p nd a .nil k 0 hp (by rw[ha,q1]) hb (by omega) (Nat.zero_le _) q2 trivial
theorem tok_k{q:QV}{t:Tok}(h:tokOf q=t):q.k=t.kind∧bl q.tx=t.txt:=by subst h;exact⟨rfl,rfl⟩
set_option maxHeartbeats 2000000 in
theorem inner_num{w:World}{b:Nat}{pv:Value}{s:ByteArray}{deep:Nat}{ts:List Tok}(h:St w b pv s deep (.ok ((),ts)))(hs:s.size≤5000)(mi op:Bool)(hk:(hd ts).kind=1)(rec:Nat→List Tok→Nat→Out Tr)
  {n:Nat} {xs:List Value} {M:Nat} (hown:w.ownsRow 0 92 8 pv n xs) (hM:M≤6000) (hB:n+ts.length≤M) :
  Calls Tryz.prog 308 #[.pointer (some ⟨b,0,none⟩),.bool mi,.bool op] w fun e w'=>∃i:Int,e=.returned (.int .i64 i)∧PartRes w b pv s deep xs M (innerP rec ts deep) i w':=by
 obtain⟨q,hq,hqt,hqs,_,_,htl,hnum⟩:=h.tok
 obtain⟨c0,c1,c2,c3,c4,c5,c6,c7,c8⟩:=hq.all
 have hk1:((q.k:Int) == 1)=true:=by rw[(tok_k hqt).1,hk];rfl
 have HT:Hid (bl q.tx=(hd ts).txt):=(tok_k hqt).2
 have HI:Hid (innerP rec ts deep=.ok (leafT ⟨0,0,numI 1000000000 (hd ts).txt,[],[],[]⟩,ts.tail)):=hid (by
  unfold innerP;rw[if_pos hk]
  obtain⟨v,hv⟩:=Option.isSome_iff_exists.1 (hnum hk)
  rw[numI_some hv];unfold numV;rw[hv];rfl)
 have H:Hid (St w b pv s deep (.ok ((),ts))):=h
 have HO:Hid (w.ownsRow 0 92 8 pv n xs):=hown
 have hq6:q.tx.size≤6000:=by omega
 clear h hown hq hqt c0 c1 c2 c5 c6 c7 c8
 go_enter Tryz.func308,Tryz.ntmps308
 go_wp2_with fail
 refine(rNumber_of 1000000000 _ _ rfl hq6 (by decide)).mono ?_
 rintro e w1 ⟨rfl,rfl⟩
 rw[HT.out]
 have hnb:=numI_bounds 1000000000 (hd ts).txt
 generalize hnn:numI 1000000000 (hd ts).txt=nn at *
 go_wp2_with fail
 refine(St.next H.out (by omega) ⟨ts,rfl,by omega⟩).mono ?_
 rintro e w2 ⟨rfl,hst,hg⟩
 have HS2:Hid (St w2 b pv s deep (.ok ((),ts.tail))):=hst
 have HO2:Hid (w2.ownsRow 0 92 8 pv n xs):=row_grown H.out HO.out hg
 have HK2:Hid (Kept b pv w1 pv w2):=(Kept.refl _ _ _).grown hg
 clear hst hg c3 c4
 go_wp2_with fail
 refine(St.lay HS2.out HO2.out (by omega) ⟨0,nn,0,⟨#[]⟩,none,0,0,none,0,0,0,0⟩).mono ?_
 rintro e w3 ⟨pv3,rfl,s3,o3,k3⟩
 have HP:Hid (PartRes w1 b pv s deep xs M (innerP rec ts deep) n w3):=hid (by
  refine leaf_res HK2.out HS2.out HO2.out s3 o3 k3 ?_ ?_ ?_
  ·rw[HI.out];exact(show n+1+ts.tail.length≤M by omega)
  ·rw[HI.out];rfl
  ·intro t z e
   rw[HI.out]at e
   injection e with e;injection e with e _
   exact⟨_,e.symm,⟨rfl,rfl,rfl,rfl,CondsAre.nil _ _ _ rfl rfl rfl,[],World.ownsRow_nil _ _ _ _,rfl⟩,rfl,rfl⟩)
 clear s3 o3 k3
 go_wp2
 go_ret
 exact⟨_,rfl,HP.out⟩
set_option maxHeartbeats 2000000 in
theorem inner_neg{w:World}{b:Nat}{pv:Value}{s:ByteArray}{deep:Nat}{ts:List Tok}(h:St w b pv s deep (.ok ((),ts)))(hs:s.size≤5000)(op:Bool)(hk:(hd ts).kind≠1)(hm:isT [45] (hd ts)=true){rec:Nat→List Tok→Nat→Out Tr}{L:Nat}
  (hf:PartC 289 s (fun ts d=>rec 3 ts d) L) (hL:ts.length≤L+1) {n:Nat} {xs:List Value} {M:Nat} (hown:w.ownsRow 0 92 8 pv n xs) (hM:M≤6000) (hB:n+ts.length≤M) (hdp:deep≤20) :
  Calls Tryz.prog 308 #[.pointer (some ⟨b,0,none⟩),.bool true,.bool op] w fun e w'=>∃i:Int,e=.returned (.int .i64 i)∧PartRes w b pv s deep xs M (innerP rec ts deep) i w':=by
 obtain⟨q,hq,hqt,hqs,_,_,htl,hnum⟩:=h.tok
 obtain⟨c0,c1,c2,c3,c4,c5,c6,c7,c8⟩:=hq.all
 have hk1:((q.k:Int) == 1)=false:=by rw[(tok_k hqt).1,beq_eq_false_iff_ne];omega
 have HI:Hid (innerP rec ts deep=bnd (rec 3 ts.tail deep) fun a r=>.ok (.node 0 0 (nd0 3 0) a .nil,r)):=hid (by unfold innerP;rw[if_neg hk,hm];rfl)
 have H:Hid (St w b pv s deep (.ok ((),ts))):=h
 have HO:Hid (w.ownsRow 0 92 8 pv n xs):=hown
 have HF:Hid (PartC 289 s (fun ts d=>rec 3 ts d) L):=hf
 have hl:=isT_live hm
 clear h hown hq hqt c0 c1 c2 c4 c5 c6 c7 c8 hf
 go_enter Tryz.func308,Tryz.ntmps308
 go_wp2_with fail
 refine(St.next H.out (by omega) ⟨ts,rfl,hl⟩).mono ?_
 rintro e w2 ⟨rfl,hst,hg⟩
 have HS2:Hid (St w2 b pv s deep (.ok ((),ts.tail))):=hst
 have HO2:Hid (w2.ownsRow 0 92 8 pv n xs):=row_grown H.out HO.out hg
 have HK2:Hid (Kept b pv w pv w2):=(Kept.refl _ _ _).grown hg
 clear hst hg c3
 go_wp2_with fail
 refine(HF.out w2 b pv deep _ n xs (M - 1) HS2.out HO2.out (by omega) (show n+ts.tail.length≤M - 1 by omega) (fun t e=>by injection e with e;injection e with _ e;subst e;omega) hdp).mono ?_
 rintro e w3 ⟨i,rfl,hp⟩
 obtain⟨n3,pv3,ys,s3,o3,k3,b3,r3⟩:=hp.out
 have HS3:Hid (St w3 b pv3 s deep (unitP (rec 3 ts.tail deep))):=s3
 have HO3:Hid (w3.ownsRow 0 92 8 pv3 n3 (xs++ys)):=o3
 have HK3:Hid (Kept b pv w pv3 w3):=HK2.out.trans k3
 have HB3:Hid (Bud (M - 1) n3 (rec 3 ts.tail deep)):=b3
 have HR3:Hid (∀t z,rec 3 ts.tail deep=.ok (t,z)→∃k:Nat,i=k∧Rep w3 (xs++ys) t k∧k+1=n3∧ys.length=8*cntT t):=r3
 have hn3:n3≤6000:=by have:=b3.le;omega
 clear hp s3 o3 k3 b3 r3
 go_wp2_with fail
 refine(St.lay HS3.out HO3.out hn3 ⟨3,0,0,⟨#[]⟩,none,0,0,none,0,0,i,0⟩).mono ?_
 rintro e w4 ⟨pv4,rfl,s4,o4,k4⟩
 have HP:Hid (PartRes w b pv s deep xs M (innerP rec ts deep) n3 w4):=node_res HS3.out HO3.out HK3.out (Bud.up HB3.out (by omega)) HR3.out s4 o4 k4 HI.out ⟨rfl,rfl,rfl,rfl,CondsAre.nil _ _ _ rfl rfl rfl,[],World.ownsRow_nil _ _ _ _,rfl⟩ rfl rfl
 clear s4 o4 k4
 go_wp2
 go_ret
 exact⟨_,rfl,HP.out⟩
set_option maxHeartbeats 2000000 in
theorem inner_open{w:World}{b:Nat}{pv:Value}{s:ByteArray}{deep:Nat}{ts:List Tok}(h:St w b pv s deep (.ok ((),ts)))(hk:(hd ts).kind≠1)(hm:isT [45] (hd ts)=false)(ho:isT [40] (hd ts)=true){rec:Nat→List Tok→Nat→Out Tr}{L:Nat}
  (hw:PartC 315 s (withinP rec) (L+1)) (hL:ts.length≤L+1) {n:Nat} {xs:List Value} {M:Nat} (hown:w.ownsRow 0 92 8 pv n xs) (hM:M≤6000) (hB:n+ts.length≤M) (hdp:deep≤20) :
  Calls Tryz.prog 308 #[.pointer (some ⟨b,0,none⟩),.bool false,.bool true] w fun e w'=>∃i:Int,e=.returned (.int .i64 i)∧PartRes w b pv s deep xs M (innerP rec ts deep) i w':=by
 obtain⟨q,hq,hqt,hqs,_,_,htl,hnum⟩:=h.tok
 obtain⟨c0,c1,c2,c3,c4,c5,c6,c7,c8⟩:=hq.all
 have hk1:((q.k:Int) == 1)=false:=by rw[(tok_k hqt).1,beq_eq_false_iff_ne];omega
 have HI:Hid (innerP rec ts deep=withinP rec ts deep):=hid (by unfold innerP;rw[if_neg hk,hm,ho];rfl)
 have H:Hid (St w b pv s deep (.ok ((),ts))):=h
 have HO:Hid (w.ownsRow 0 92 8 pv n xs):=hown
 have HW:Hid (PartC 315 s (withinP rec) (L+1)):=hw
 clear h hown hq hqt c0 c1 c2 c4 c5 c6 c7 c8 hw
 go_enter Tryz.func308,Tryz.ntmps308
 go_wp2_with fail
 refine(HW.out w b pv deep _ n xs M H.out HO.out hM (show n+ts.length≤M by omega) (fun t e=>by injection e with e;injection e with _ e;subst e;omega) hdp).mono ?_
 rintro e w3 ⟨i,rfl,hp⟩
 have HP:Hid (PartRes w b pv s deep xs M (innerP rec ts deep) i w3):=hid (by rw[HI.out];exact hp)
 clear hp c3
 go_wp2
 go_ret
 exact⟨_,rfl,HP.out⟩
end Go.Proofs.YtkodhpilkaihjaaGreatDoor
