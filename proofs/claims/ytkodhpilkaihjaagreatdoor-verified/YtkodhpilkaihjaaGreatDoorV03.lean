/- Parts. -/
import Derived.Test.YtkodhpilkaihjaaGreatDoorV01
import Derived.Deep.Trees
import Derived.Deep.RegionWith
import Derived.Deep.DeepCutAuto
import Derived.Deep.Heap
namespace Go.Proofs.YtkodhpilkaihjaaGreatDoor.LS
open Go Go.RowKit
structure Tok where
 kind:Nat
 txt:List UInt8
 at_:Nat
def run(p:UInt8→Bool):List UInt8→Nat
 | []=>0
 | b::l=>if p b then run p l+1 else 0
def signs:List UInt8:=[40,41,123,125,91,93,44,61,43,45,42,47]
def lexC(l:List UInt8)(j:Nat)(c:UInt8)(r:List UInt8):Tok×Nat:=
 if digit c then (if (number 1000000000 ((c::r).take (run digit (c::r)))).isSome then ⟨1,(c::r).take (run digit (c::r)),j⟩else ⟨5,[],j⟩,j+run digit (c::r))
 else if letter c then (if 8<run letter (c::r)then ⟨5,[],j⟩else ⟨2,(c::r).take (run letter (c::r)),j⟩,j+run letter (c::r))
 else if c == 34 then match seek 34 r with
  | none=>(⟨5,[],j⟩,l.length)
  | some p=>(if isWord (r.take p)then ⟨3,r.take p,j⟩else ⟨5,[],j⟩,j+p+2)
 else if c == 33 && r.head? == some 61 then (⟨4,[33,61],j⟩,j+2)
 else if (seek c signs).isSome then (⟨4,[c],j⟩,j+1)else (⟨5,[],j⟩,j+1)
def lexJ(l:List UInt8)(j:Nat):Tok×Nat:=match l.drop j with
 | []=>(⟨0,[],j⟩,j)
 | c::r=>lexC l j c r
def lexAt(l:List UInt8)(i:Nat):Tok×Nat:=lexJ l (i+run (· == 32) (l.drop i))
theorem run_le(p:UInt8→Bool)(l:List UInt8):run p l≤l.length:=by
 induction l with
 | nil=>exact Nat.le_refl _
 | cons b l ih=>unfold run;split <;> simp;omega
theorem lexAt_skip(s:ByteArray)(j:Nat)(h:j<s.size)(hc:s[j]=32):lexAt (bl s) j=lexAt (bl s) (j+1):=by
 unfold lexAt
 rw[drop_cons s j h]
 have:run (· == 32) (s[j]::(bl s).drop (j+1))=run (· == 32) ((bl s).drop (j+1))+1:=by rw[hc];rfl
 rw[this,show j+(run (· == 32) ((bl s).drop (j+1))+1)=j+1+run (· == 32) ((bl s).drop (j+1)) by omega]
theorem lexAt_at(s:ByteArray)(j:Nat)(h:j<s.size)(hc:s[j]≠32):lexAt (bl s) j=lexC (bl s) j s[j] ((bl s).drop (j+1)):=by
 unfold lexAt
 rw[drop_cons s j h]
 have:run (· == 32) (s[j]::(bl s).drop (j+1))=0:=by simp[run,hc]
 rw[this,Nat.add_zero]
 unfold lexJ
 rw[drop_cons s j h]
theorem lexAt_end(s:ByteArray)(j:Nat)(h:¬j<s.size)(hj:j≤s.size):lexAt (bl s) j=(⟨0,[],j⟩,j):=by
 have hd:(bl s).drop j=[]:=List.drop_of_length_le (by rw[bl_length];omega)
 unfold lexAt
 rw[hd]
 show lexJ (bl s) j=_
 unfold lexJ
 rw[hd]
theorem run_cut(p:UInt8→Bool)(s:ByteArray)(j k:Nat)(hj:j≤k)(hk:k≤s.size)(ha:∀i (h:i<s.size),j≤i→i<k→p s[i]=true)(he:∀h:k<s.size,p s[k]=false):j+run p ((bl s).drop j)=k:=by
 induction hd:k - j generalizing j with
 | zero=>
  obtain rfl:j=k:=by omega
  by_cases h:j<s.size
  ·rw[drop_cons s j h];simp[run,he h]
  ·rw[List.drop_of_length_le (by rw[bl_length];omega)];rfl
 | succ n ih=>
  have h:j<s.size:=by omega
  have:=ih (j+1) (by omega) (fun i hi h1 h2=>ha i hi (by omega) h2) (by omega)
  rw[drop_cons s j h]
  simp only[run,ha j h (Nat.le_refl _) (by omega),if_true]
  omega
end Go.Proofs.YtkodhpilkaihjaaGreatDoor.LS
namespace Go.Proofs.YtkodhpilkaihjaaGreatDoor
open Go.RowKit LS
set_option maxHeartbeats 1000000 in
theorem while_digit(s:ByteArray)(j:Nat)(w:World)(hs:s.size≤6000)(hj:j≤s.size) :
  Calls Tryz.prog 262 #[.string s,.int .i64 j,.bool true] w fun e w'=>e=.returned (.int .i64 ((j+run digit ((bl s).drop j):Nat):Int))∧w'=w:=by
 go_enter Tryz.func262,Tryz.ntmps262
 go_wp2
 go_loop [1] (fun i=>∃k:Nat,k≤s.size∧j≤k∧i=.int .i64 k∧Hid (∀q (h:q<s.size),j≤q→q<k→digit s[q]=true)) (fun i=>s.size - (intOf i).toNat)
 case atStart=>exact⟨j,hj,Nat.le_refl _,rfl,fun q h h1 h2=>by omega⟩
 case round=>
  obtain⟨k,hk,hjk,rfl,ha⟩:=hrel
  by_cases hlt:k<s.size
  ·cases hl:digit s[k]
   ·have HF:Hid (j+run digit ((bl s).drop j)=k):=run_cut _ s j k hjk hk ha.out (fun _=>hl)
    go_wp2_with (first|(go_at_call 179;refine(letter_any _ _).mono ?_;rintro e w' ⟨rfl,rfl⟩)|(go_at_call 174;refine(digit_any _ _).mono ?_;rintro e w' ⟨rfl,rfl⟩))
    go_ret
    exact⟨ret_int (by have:=HF.out;omega),rfl⟩
   ·have HF : Hid (∀ q (h : q < s.size), j ≤ q → q < k + 1 → digit s[q] = true) := fun q h h1 h2 => by
      rcases Nat.lt_succ_iff_lt_or_eq.1 h2 with h3|h3
      · exact ha.out q h h1 h3
      · subst h3;exact hl
    go_wp2_with (first|(go_at_call 179;refine(letter_any _ _).mono ?_;rintro e w' ⟨rfl,rfl⟩)|(go_at_call 174;refine(digit_any _ _).mono ?_;rintro e w' ⟨rfl,rfl⟩))
    go_round
    case rel=>exact⟨k+1,by omega,by omega,by go_num,HF⟩
    case measure=>simp[intOf];omega
  ·have HF:Hid (j+run digit ((bl s).drop j)=k):=run_cut _ s j k hjk hk ha.out (fun h=>absurd h hlt)
   go_wp2
   go_ret
   exact⟨ret_int (by have:=HF.out;omega),rfl⟩
set_option maxHeartbeats 1000000 in
theorem while_letter(s:ByteArray)(j:Nat)(w:World)(hs:s.size≤6000)(hj:j≤s.size) :
  Calls Tryz.prog 262 #[.string s,.int .i64 j,.bool false] w fun e w'=>e=.returned (.int .i64 ((j+run letter ((bl s).drop j):Nat):Int))∧w'=w:=by
 go_enter Tryz.func262,Tryz.ntmps262
 go_wp2
 go_loop [1] (fun i=>∃k:Nat,k≤s.size∧j≤k∧i=.int .i64 k∧Hid (∀q (h:q<s.size),j≤q→q<k→letter s[q]=true)) (fun i=>s.size - (intOf i).toNat)
 case atStart=>exact⟨j,hj,Nat.le_refl _,rfl,fun q h h1 h2=>by omega⟩
 case round=>
  obtain⟨k,hk,hjk,rfl,ha⟩:=hrel
  by_cases hlt:k<s.size
  ·cases hl:letter s[k]
   ·have HF:Hid (j+run letter ((bl s).drop j)=k):=run_cut _ s j k hjk hk ha.out (fun _=>hl)
    go_wp2_with (first|(go_at_call 179;refine(letter_any _ _).mono ?_;rintro e w' ⟨rfl,rfl⟩)|(go_at_call 174;refine(digit_any _ _).mono ?_;rintro e w' ⟨rfl,rfl⟩))
    go_ret
    exact⟨ret_int (by have:=HF.out;omega),rfl⟩
   ·have HF : Hid (∀ q (h : q < s.size), j ≤ q → q < k + 1 → letter s[q] = true) := fun q h h1 h2 => by
      rcases Nat.lt_succ_iff_lt_or_eq.1 h2 with h3|h3
      · exact ha.out q h h1 h3
      · subst h3;exact hl
    go_wp2_with (first|(go_at_call 179;refine(letter_any _ _).mono ?_;rintro e w' ⟨rfl,rfl⟩)|(go_at_call 174;refine(digit_any _ _).mono ?_;rintro e w' ⟨rfl,rfl⟩))
    go_round
    case rel=>exact⟨k+1,by omega,by omega,by go_num,HF⟩
    case measure=>simp[intOf];omega
  ·have HF:Hid (j+run letter ((bl s).drop j)=k):=run_cut _ s j k hjk hk ha.out (fun h=>absurd h hlt)
   go_wp2
   go_ret
   exact⟨ret_int (by have:=HF.out;omega),rfl⟩
end Go.Proofs.YtkodhpilkaihjaaGreatDoor
namespace Go.Proofs.YtkodhpilkaihjaaGreatDoor
open Go.RowKit LS
def LexIs(e:Ending)(ts:ByteArray)(r:Tok×Nat):Prop:=e=.returned (.tuple #[.agg #[.int .i64 (r.1.kind:Nat),.string ts,.int .i64 (r.1.at_:Nat)],.int .i64 (r.2:Nat)])∧bl ts=r.1.txt
theorem lexIs_mk{ts:ByteArray}{k a p:Nat}{r:Tok×Nat}{x y z:Int}(h:r=(⟨k,bl ts,a⟩,p))(hx:x=(k:Nat))(hy:y=(a:Nat))(hz:z=(p:Nat)):LexIs (.returned (.tuple #[.agg #[.int .i64 x,.string ts,.int .i64 y],.int .i64 z])) ts r:=by
 subst h;subst hx;subst hy;subst hz;exact⟨rfl,rfl⟩
set_option maxRecDepth 100000 in
set_option maxHeartbeats 4000000 in
theorem lex_any(s:ByteArray)(i:Nat)(w:World)(hs:s.size≤6000)(hi:i≤s.size) :
  Calls Tryz.prog 227 #[.string s,.int .i64 i] w fun e w'=>(∃ts:ByteArray,LexIs e ts (lexAt (bl s) i))∧Below w.heap.size w w':=by
 go_enter Tryz.func227,Tryz.ntmps227
 go_wp2
 go_loop [1] (fun v=>∃j:Nat,j≤s.size∧v=.int .i64 j∧Hid (lexAt (bl s) i=lexAt (bl s) j)) (fun v=>s.size - (intOf v).toNat)
 case atStart=>exact⟨i,hi,rfl,rfl⟩
 case round=>
  obtain⟨j,hj,rfl,HL⟩:=hrel
  by_cases hlt:j<s.size
  ·by_cases h32:s[j]=32
   ·have HF:Hid (lexAt (bl s) i=lexAt (bl s) (j+1)):=hid (by rw[HL.out];exact lexAt_skip s j hlt h32)
    have hb:((s[j].toNat:Int) == 32)=true:=by rw[h32];rfl
    clear h32
    go_wp2
    go_round
    case rel=>exact⟨j+1,by omega,by go_num,HF⟩
    case measure=>simp[intOf];omega
   ·have HF:Hid (lexAt (bl s) i=lexC (bl s) j s[j] ((bl s).drop (j+1))):=hid (by rw[HL.out];exact lexAt_at s j hlt h32)
    have hb:((s[j].toNat:Int) == 32)=false:=by
     rw[beq_eq_false_iff_ne];intro h;exact h32 (UInt8.toNat_inj.1 (by show s[j].toNat=32;omega))
    have hjn:((j:Int) == (s.size:Int))=false:=by rw[beq_eq_false_iff_ne];omega
    clear h32 HL
    have hcons:(bl s).drop j=s[j]::(bl s).drop (j+1):=drop_cons s j hlt
    have hN1:j+1≤s.size:=hlt
    have hN2:j≤s.size:=hj
    cases hd:digit s[j]
    ·cases hl:letter s[j]
     ·by_cases hq:s[j]=34
      ·have hb34:((s[j].toNat:Int) == 34)=true:=by rw[hq];rfl
       have e2:bl (s.extract (j+1) s.size)=(bl s).drop (j+1):=by rw[bl_extract,List.take_of_length_le (by rw[bl_length];exact Nat.le_refl _)]
       have hsz:(s.extract (j+1) s.size).size≤6000:=by rw[ByteArray.size_extract];omega
       cases hsk:LS.seek 34 (bl (s.extract (j+1) s.size))with
       | none=>
        have hC:lexAt (bl s) i=(⟨5,bl ⟨#[]⟩,j⟩,s.size):=by
         rw[HF.out];unfold lexC;rw[hd,hl,hq,←e2,hsk,bl_length];rfl
        have HSK:Hid _:=hsk
        clear HF hcons hq hsk e2
        have HF:Hid _:=hC
        clear hC
        go_wp2_with (first|(go_at_call 174;refine(digit_any _ _).mono ?_;rintro e w' ⟨rfl,rfl⟩)|(go_at_call 179;refine(letter_any _ _).mono ?_;rintro e w' ⟨rfl,rfl⟩)|fail)
        refine(seek_none_any (c:=34) _ _ rfl hsz HSK.out).mono ?_
        rintro e w' ⟨rfl,rfl⟩
        go_wp2
        exact bodyPost_ret (v:=.tuple #[.agg #[.int .i64 5,.string ⟨#[]⟩,.int .i64 j],.int .i64 ((s.size:Nat))]) (by simp[results,Tryz.results227,go_sem]) rfl ⟨⟨⟨#[]⟩,lexIs_mk (k:=5) (a:=j) (p:=s.size) HF.out rfl rfl (by omega)⟩,(by repeat first|exact Below.refl _ _|assumption|refine Below.alloc ?_ ?_ _|refine Below.setCell ?_ ?_ _|refine below_drewN' ?_ _|refine Below.drew ?_|omega|(simp;omega)|simp)⟩
       | some p=>
        have hp:p<(s.extract (j+1) s.size).size:=by rw[←bl_length];exact seek_lt hsk
        rw[ByteArray.size_extract]at hp
        have e3:bl (s.extract (j+1) (j+1+p))=((bl s).drop (j+1)).take p:=by rw[bl_extract,List.drop_take];congr 1;omega
        have hsz2:(s.extract (j+1) (j+1+p)).size≤6000:=by rw[ByteArray.size_extract];omega
        have hp2:j+1+p≤s.size:=by omega
        have hC:lexAt (bl s) i=(if isWord (bl (s.extract (j+1) (j+1+p)))then ⟨3,bl (s.extract (j+1) (j+1+p)),j⟩else ⟨5,[],j⟩,j+p+2):=by
         rw[HF.out];unfold lexC;rw[hd,hl,hq,←e2,hsk,e3,e2];rfl
        have HSK:Hid _:=hsk
        clear HF hcons hq hsk e2 e3
        cases hw:isWord (bl (s.extract (j+1) (j+1+p)))
        ·have HF:Hid (lexAt (bl s) i=(⟨5,bl ⟨#[]⟩,j⟩,j+p+2)):=hid (by rw[hC,hw];rfl)
         have HW:Hid _:=hw
         clear hC hw
         go_wp2_with (first|(go_at_call 174;refine(digit_any _ _).mono ?_;rintro e w' ⟨rfl,rfl⟩)|(go_at_call 179;refine(letter_any _ _).mono ?_;rintro e w' ⟨rfl,rfl⟩)|fail)
         refine(seek_some_any (c:=34) _ _ rfl hsz HSK.out).mono ?_
         rintro e w' ⟨rfl,rfl⟩
         go_wp2_with fail
         refine(rIsWord_of _ hsz2 HW.out).mono ?_
         rintro e w' ⟨rfl,rfl⟩
         go_wp2
         exact bodyPost_ret (v:=.tuple #[.agg #[.int .i64 5,.string ⟨#[]⟩,.int .i64 j],.int .i64 ((j:Int)+p+2)]) (by simp[results,Tryz.results227,go_sem]) rfl ⟨⟨⟨#[]⟩,lexIs_mk (k:=5) (a:=j) (p:=j+p+2) HF.out rfl rfl (by omega)⟩,(by repeat first|exact Below.refl _ _|assumption|refine Below.alloc ?_ ?_ _|refine Below.setCell ?_ ?_ _|refine below_drewN' ?_ _|refine Below.drew ?_|omega|(simp;omega)|simp)⟩
        ·have HF:Hid (lexAt (bl s) i=(⟨3,bl (s.extract (j+1) (j+1+p)),j⟩,j+p+2)):=hid (by rw[hC,hw];rfl)
         have HW:Hid _:=hw
         clear hC hw
         go_wp2_with (first|(go_at_call 174;refine(digit_any _ _).mono ?_;rintro e w' ⟨rfl,rfl⟩)|(go_at_call 179;refine(letter_any _ _).mono ?_;rintro e w' ⟨rfl,rfl⟩)|fail)
         refine(seek_some_any (c:=34) _ _ rfl hsz HSK.out).mono ?_
         rintro e w' ⟨rfl,rfl⟩
         go_wp2_with fail
         refine(rIsWord_of _ hsz2 HW.out).mono ?_
         rintro e w' ⟨rfl,rfl⟩
         go_wp2
         exact bodyPost_ret (v:=.tuple #[.agg #[.int .i64 3,.string (s.extract (j+1) (j+1+p)),.int .i64 j],.int .i64 ((j:Int)+p+2)]) (by simp[results,Tryz.results227,go_sem]) rfl ⟨⟨(s.extract (j+1) (j+1+p)),lexIs_mk (k:=3) (a:=j) (p:=j+p+2) HF.out rfl rfl (by omega)⟩,(by repeat first|exact Below.refl _ _|assumption|refine Below.alloc ?_ ?_ _|refine Below.setCell ?_ ?_ _|refine below_drewN' ?_ _|refine Below.drew ?_|omega|(simp;omega)|simp)⟩
      ·have hb34:((s[j].toNat:Int) == 34)=false:=by
        rw[beq_eq_false_iff_ne];intro h;exact hq (UInt8.toNat_inj.1 (by show s[j].toNat=34;omega))
       have hq2:(s[j] == 34)=false:=by rw[beq_eq_false_iff_ne];exact hq
       have hC:lexAt (bl s) i=if s[j] == 33 && ((bl s).drop (j+1)).head? == some 61 then (⟨4,[33,61],j⟩,j+2)else if (LS.seek s[j] signs).isSome then (⟨4,[s[j]],j⟩,j+1)else (⟨5,[],j⟩,j+1):=by
        rw[HF.out];unfold lexC;rw[hd,hl,hq2];rfl
       clear HF
       have hway:(∃h:j+1<s.size,((s[j].toNat:Int) == 33)=true∧((s[j+1].toNat:Int) == 61)=true∧(s[j] == 33 && ((bl s).drop (j+1)).head? == some 61)=true)∨
         ((((s[j].toNat:Int) == 33)=false∨(((s[j].toNat:Int) == 33)=true∧¬j+1<s.size)∨(∃h:j+1<s.size,((s[j].toNat:Int) == 33)=true∧((s[j+1].toNat:Int) == 61)=false))∧(s[j] == 33 && ((bl s).drop (j+1)).head? == some 61)=false):=by
        by_cases h33:s[j]=33
        ·have b33:((s[j].toNat:Int) == 33)=true:=by rw[h33];rfl
         by_cases hn:j+1<s.size
         ·rw[drop_cons s (j+1) hn]
          by_cases h61:s[j+1]=61
          ·exact Or.inl ⟨hn,b33,by rw[h61];rfl,by rw[h33,h61];rfl⟩
          ·refine Or.inr ⟨Or.inr (Or.inr ⟨hn,b33,?_⟩),by simp[h61]⟩
           rw[beq_eq_false_iff_ne];intro h;exact h61 (UInt8.toNat_inj.1 (by show s[j+1].toNat=61;omega))
         ·refine Or.inr ⟨Or.inr (Or.inl ⟨b33,hn⟩),?_⟩
          rw[List.drop_of_length_le (by rw[bl_length];omega)];simp
        ·refine Or.inr ⟨Or.inl ?_,by simp[h33]⟩
         rw[beq_eq_false_iff_ne];intro h;exact h33 (UInt8.toNat_inj.1 (by show s[j].toNat=33;omega))
       clear hcons hq hq2
       rcases hway with ⟨hn,b33,b61,hcc⟩|⟨hway,hcc⟩
       ·have HF:Hid (lexAt (bl s) i=(⟨4,bl ⟨#[33,61]⟩,j⟩,j+2)):=hid (by rw[hC,if_pos hcc];rfl)
        clear hC hcc
        go_wp2_with (first|(go_at_call 174;refine(digit_any _ _).mono ?_;rintro e w' ⟨rfl,rfl⟩)|(go_at_call 179;refine(letter_any _ _).mono ?_;rintro e w' ⟨rfl,rfl⟩)|fail)
        exact bodyPost_ret (v:=.tuple #[.agg #[.int .i64 4,.string ⟨#[33,61]⟩,.int .i64 j],.int .i64 ((j:Int)+2)]) (by simp[results,Tryz.results227,go_sem]) rfl ⟨⟨⟨#[33,61]⟩,lexIs_mk (k:=4) (a:=j) (p:=j+2) HF.out rfl rfl (by omega)⟩,(by repeat first|exact Below.refl _ _|assumption|refine Below.alloc ?_ ?_ _|refine Below.setCell ?_ ?_ _|refine below_drewN' ?_ _|refine Below.drew ?_|omega|(simp;omega)|simp)⟩
       ·rw[hcc]at hC
        have e1:bl (s.extract j (j+1))=[s[j]]:=by
         rw[bl_extract,List.drop_take,drop_cons s j hlt,Nat.add_sub_cancel_left];rfl
        have hsig:(⟨#[40,41,123,125,91,93,44,61,43,45,42,47]⟩:ByteArray).size≤6000:=by decide
        have ebs:bl ⟨#[40,41,123,125,91,93,44,61,43,45,42,47]⟩=signs:=rfl
        cases hsk:LS.seek s[j] signs with
        | none=>
         have HF:Hid (lexAt (bl s) i=(⟨5,bl ⟨#[]⟩,j⟩,j+1)):=hid (by rw[hC,hsk];rfl)
         have HSK:Hid (LS.seek s[j] (bl ⟨#[40,41,123,125,91,93,44,61,43,45,42,47]⟩)=none):=hsk
         clear hC hcc hsk e1 ebs
         rcases hway with b33|⟨b33,hn⟩|⟨hn,b33,b61⟩
         all_goals
          go_wp2_with (first|(go_at_call 174;refine(digit_any _ _).mono ?_;rintro e w' ⟨rfl,rfl⟩)|(go_at_call 179;refine(letter_any _ _).mono ?_;rintro e w' ⟨rfl,rfl⟩)|fail)
          refine(seek_none_any (c:=s[j]) _ _ rfl hsig HSK.out).mono ?_
          rintro e w' ⟨rfl,rfl⟩
          go_wp2
          exact bodyPost_ret (v:=.tuple #[.agg #[.int .i64 5,.string ⟨#[]⟩,.int .i64 j],.int .i64 ((j:Int)+1)]) (by simp[results,Tryz.results227,go_sem]) rfl ⟨⟨⟨#[]⟩,lexIs_mk (k:=5) (a:=j) (p:=j+1) HF.out rfl rfl (by omega)⟩,(by repeat first|exact Below.refl _ _|assumption|refine Below.alloc ?_ ?_ _|refine Below.setCell ?_ ?_ _|refine below_drewN' ?_ _|refine Below.drew ?_|omega|(simp;omega)|simp)⟩
        | some p=>
         have HF:Hid (lexAt (bl s) i=(⟨4,bl (s.extract j (j+1)),j⟩,j+1)):=hid (by rw[hC,hsk,e1];rfl)
         have HSK:Hid (LS.seek s[j] (bl ⟨#[40,41,123,125,91,93,44,61,43,45,42,47]⟩)=some p):=hsk
         clear hC hcc hsk e1 ebs
         rcases hway with b33|⟨b33,hn⟩|⟨hn,b33,b61⟩
         all_goals
          go_wp2_with (first|(go_at_call 174;refine(digit_any _ _).mono ?_;rintro e w' ⟨rfl,rfl⟩)|(go_at_call 179;refine(letter_any _ _).mono ?_;rintro e w' ⟨rfl,rfl⟩)|fail)
          refine(seek_some_any (c:=s[j]) _ _ rfl hsig HSK.out).mono ?_
          rintro e w' ⟨rfl,rfl⟩
          go_wp2
          exact bodyPost_ret (v:=.tuple #[.agg #[.int .i64 4,.string (s.extract j (j+1)),.int .i64 j],.int .i64 ((j:Int)+1)]) (by simp[results,Tryz.results227,go_sem]) rfl ⟨⟨(s.extract j (j+1)),lexIs_mk (k:=4) (a:=j) (p:=j+1) HF.out rfl rfl (by omega)⟩,(by repeat first|exact Below.refl _ _|assumption|refine Below.alloc ?_ ?_ _|refine Below.setCell ?_ ?_ _|refine below_drewN' ?_ _|refine Below.drew ?_|omega|(simp;omega)|simp)⟩
     ·have hrun:run letter ((bl s).drop j)≤((bl s).drop j).length:=run_le _ _
      rw[List.length_drop,bl_length]at hrun
      have hC:lexAt (bl s) i=(if 8<run letter ((bl s).drop j)then ⟨5,[],j⟩else ⟨2,((bl s).drop j).take (run letter ((bl s).drop j)),j⟩,j+run letter ((bl s).drop j)):=by
       rw[HF.out];unfold lexC;rw[hd,hl,←hcons];rfl
      obtain⟨n,hn⟩:∃n,run letter ((bl s).drop j)=n:=⟨_,rfl⟩
      rw[hn]at hC hrun
      have HC:Hid _:=hC
      have HN:Hid (run letter ((bl s).drop j)=n):=hn
      clear hC hn HF hcons
      have hjn2:j+n≤s.size:=by omega
      have e3:bl (s.extract j (j+n))=((bl s).drop j).take n:=by rw[bl_extract,List.drop_take];congr 1;omega
      have E3:Hid _:=e3
      clear e3
      by_cases h8:8<n
      ·have HF:Hid (lexAt (bl s) i=(⟨5,bl ⟨#[]⟩,j⟩,j+n)):=hid (by rw[HC.out,if_pos h8];rfl)
       go_wp2_with (first|(go_at_call 174;refine(digit_any _ _).mono ?_;rintro e w' ⟨rfl,rfl⟩)|(go_at_call 179;refine(letter_any _ _).mono ?_;rintro e w' ⟨rfl,rfl⟩)|fail)
       refine(while_letter s j _ hs (by omega)).mono ?_
       rintro e w' ⟨rfl,rfl⟩
       rw[HN.out]
       go_wp2
       exact bodyPost_ret (v:=.tuple #[.agg #[.int .i64 5,.string ⟨#[]⟩,.int .i64 j],.int .i64 ((j:Int)+n)]) (by simp[results,Tryz.results227,go_sem]) rfl ⟨⟨⟨#[]⟩,lexIs_mk (k:=5) (a:=j) (p:=j+n) HF.out rfl rfl (by omega)⟩,(by repeat first|exact Below.refl _ _|assumption|refine Below.alloc ?_ ?_ _|refine Below.setCell ?_ ?_ _|refine below_drewN' ?_ _|refine Below.drew ?_|omega|(simp;omega)|simp)⟩
      ·have HF:Hid (lexAt (bl s) i=(⟨2,bl (s.extract j (j+n)),j⟩,j+n)):=hid (by rw[HC.out,if_neg h8,E3.out])
       go_wp2_with (first|(go_at_call 174;refine(digit_any _ _).mono ?_;rintro e w' ⟨rfl,rfl⟩)|(go_at_call 179;refine(letter_any _ _).mono ?_;rintro e w' ⟨rfl,rfl⟩)|fail)
       refine(while_letter s j _ hs (by omega)).mono ?_
       rintro e w' ⟨rfl,rfl⟩
       rw[HN.out]
       go_wp2
       exact bodyPost_ret (v:=.tuple #[.agg #[.int .i64 2,.string (s.extract j (j+n)),.int .i64 j],.int .i64 ((j:Int)+n)]) (by simp[results,Tryz.results227,go_sem]) rfl ⟨⟨(s.extract j (j+n)),lexIs_mk (k:=2) (a:=j) (p:=j+n) HF.out rfl rfl (by omega)⟩,(by repeat first|exact Below.refl _ _|assumption|refine Below.alloc ?_ ?_ _|refine Below.setCell ?_ ?_ _|refine below_drewN' ?_ _|refine Below.drew ?_|omega|(simp;omega)|simp)⟩
    ·have hrun:run digit ((bl s).drop j)≤((bl s).drop j).length:=run_le _ _
     rw[List.length_drop,bl_length]at hrun
     have hC:lexAt (bl s) i=(if (number 1000000000 (((bl s).drop j).take (run digit ((bl s).drop j)))).isSome then ⟨1,((bl s).drop j).take (run digit ((bl s).drop j)),j⟩else ⟨5,[],j⟩,j+run digit ((bl s).drop j)):=by
      rw[HF.out];unfold lexC;rw[hd,←hcons];rfl
     obtain⟨n,hn⟩:∃n,run digit ((bl s).drop j)=n:=⟨_,rfl⟩
     rw[hn]at hC hrun
     have HN:Hid (run digit ((bl s).drop j)=n):=hn
     clear hn HF hcons
     have hjn2:j+n≤s.size:=by omega
     have e3:bl (s.extract j (j+n))=((bl s).drop j).take n:=by rw[bl_extract,List.drop_take];congr 1;omega
     have hsz:(s.extract j (j+n)).size≤6000:=by rw[ByteArray.size_extract];omega
     rw[←e3]at hC
     have HC:Hid _:=hC
     clear e3 hC
     have hT:=numI_bounds 1000000000 (bl (s.extract j (j+n)))
     go_wp2_with (first|(go_at_call 174;refine(digit_any _ _).mono ?_;rintro e w' ⟨rfl,rfl⟩)|(go_at_call 179;refine(letter_any _ _).mono ?_;rintro e w' ⟨rfl,rfl⟩)|fail)
     refine(while_digit s j _ hs (by omega)).mono ?_
     rintro e w' ⟨rfl,rfl⟩
     rw[HN.out]
     go_wp2_with fail
     refine(rNumber_of 1000000000 _ _ rfl hsz (by omega)).mono ?_
     rintro e w' ⟨rfl,rfl⟩
     cases hnum:number 1000000000 (bl (s.extract j (j+n)))with
     | none=>
      have HF:Hid (lexAt (bl s) i=(⟨5,bl ⟨#[]⟩,j⟩,j+n)):=hid (by rw[HC.out,hnum];rfl)
      rw[numI_none hnum]
      clear hnum hT
      go_wp2
      exact bodyPost_ret (v:=.tuple #[.agg #[.int .i64 5,.string ⟨#[]⟩,.int .i64 j],.int .i64 ((j:Int)+n)]) (by simp[results,Tryz.results227,go_sem]) rfl ⟨⟨⟨#[]⟩,lexIs_mk (k:=5) (a:=j) (p:=j+n) HF.out rfl rfl (by omega)⟩,(by repeat first|exact Below.refl _ _|assumption|refine Below.alloc ?_ ?_ _|refine Below.setCell ?_ ?_ _|refine below_drewN' ?_ _|refine Below.drew ?_|omega|(simp;omega)|simp)⟩
     | some v=>
      have HF:Hid (lexAt (bl s) i=(⟨1,bl (s.extract j (j+n)),j⟩,j+n)):=hid (by rw[HC.out,hnum];rfl)
      rw[numI_some hnum]
      clear hnum hT
      go_wp2
      exact bodyPost_ret (v:=.tuple #[.agg #[.int .i64 1,.string (s.extract j (j+n)),.int .i64 j],.int .i64 ((j:Int)+n)]) (by simp[results,Tryz.results227,go_sem]) rfl ⟨⟨(s.extract j (j+n)),lexIs_mk (k:=1) (a:=j) (p:=j+n) HF.out rfl rfl (by omega)⟩,(by repeat first|exact Below.refl _ _|assumption|refine Below.alloc ?_ ?_ _|refine Below.setCell ?_ ?_ _|refine below_drewN' ?_ _|refine Below.drew ?_|omega|(simp;omega)|simp)⟩
  ·have HF:Hid (lexAt (bl s) i=(⟨0,[],j⟩,j)):=hid (by rw[HL.out];exact lexAt_end s j hlt hj)
   have hjn:((j:Int) == (s.size:Int))=true:=by rw[beq_iff_eq];omega
   go_wp2
   exact bodyPost_ret (v:=.tuple #[.agg #[.int .i64 0,.string ⟨#[]⟩,.int .i64 j],.int .i64 j]) (by simp[results,Tryz.results227,go_sem]) rfl ⟨⟨⟨#[]⟩,lexIs_mk (k:=0) (a:=j) (p:=j) HF.out rfl rfl rfl⟩,(by repeat first|exact Below.refl _ _|assumption|refine Below.alloc ?_ ?_ _|refine Below.setCell ?_ ?_ _|refine below_drewN' ?_ _|refine Below.drew ?_|omega|(simp;omega)|simp)⟩
end Go.Proofs.YtkodhpilkaihjaaGreatDoor
namespace Go.Proofs.YtkodhpilkaihjaaGreatDoor.LS
open Go Go.RowKit
structure Nd where
 kind:Nat
 op:Nat
 n:Int
 name:List UInt8
 conds:List (List UInt8×List UInt8×Bool)
 by_:List (List UInt8)
abbrev Tr:=Go.Deep.BT Nd
abbrev Out (α:Type):=Except (Nat×Nat) (α×List Tok)
def leafT(a:Nd):Tr:=.node 0 0 a .nil .nil
def nd0(kind op:Nat):Nd:=⟨kind,op,0,[],[],[]⟩
def lexAll(l:List UInt8):Nat→Nat→List Tok
 | 0,_=>[]
 | n+1,i=>if (lexAt l i).1.kind=0∨(lexAt l i).1.kind=5 then [(lexAt l i).1] else (lexAt l i).1::lexAll l n (lexAt l i).2
def hd(ts:List Tok):Tok:=ts.headD ⟨0,[],0⟩
def wOr:List UInt8:=[111,114]
def wBy:List UInt8:=[98,121]
def groupWords:List (List UInt8):=[[115,117,109],[109,97,120],[109,105,110],[99,111,117,110,116]]
def overWords:List (List UInt8):=[[116,111,116,97,108],[112,101,97,107],[108,111,119],[115,105,122,101],[114,105,115,101]]
def idx(w:List UInt8):List (List UInt8)→Option Nat
 | []=>none
 | x::l=>if x=w then some 0 else (idx w l).map (· + 1)
def isT(s:List UInt8)(t:Tok):Bool:=(t.kind == 2 || t.kind == 4) && t.txt == s
def bnd{α β:Type}(x:Out α)(f:α→List Tok→Out β):Out β:=match x with
 | .error e=>.error e
 | .ok (a,ts)=>f a ts
def takeP(s:List UInt8)(ts:List Tok):Out Unit:=if isT s (hd ts)then .ok ((),ts.tail)else .error (2,(hd ts).at_)
def kindP(k:Nat)(ts:List Tok):Out (List UInt8):=if (hd ts).kind=k then .ok ((hd ts).txt,ts.tail)else .error (2,(hd ts).at_)
def listP{α:Type}(item:List Tok→Out α)(close:List UInt8):Nat→List α→List Tok→Out (List α)
 | 0,_,_=>.error (0,0)
 | n + 1, acc, ts => if isT close (hd ts) then .ok (acc, ts.tail) else
   bnd (if acc.isEmpty then .ok ((),ts)else takeP [44] ts) fun _ r=>bnd (item r) fun a r=>listP item close n (acc++[a]) r
def signP(ts:List Tok):Out Bool:=if isT [33,61] (hd ts)then .ok (true,ts.tail)else bnd (takeP [61] ts) fun _ r=>.ok (false,r)
def condP(ts:List Tok):Out (List UInt8×List UInt8×Bool):=bnd (kindP 2 ts) fun a r=>bnd (signP r) fun n r=>bnd (kindP 3 r) fun b r=>.ok ((a,b,n),r)
def reserved(t:Tok):Bool:=(idx t.txt groupWords).isSome || (idx t.txt overWords).isSome || isT wOr t || isT wBy t
def nameP(ts:List Tok):Out (List UInt8):=if reserved (hd ts)then .error (2,(hd ts).at_)else kindP 2 ts
def selP(ts:List Tok):Out Nd:=bnd (nameP ts) fun a r=>if isT [123] (hd r)then bnd (listP condP [125] r.length [] r.tail) fun cs r=>.ok (⟨1,0,0,a,cs,[]⟩,r)else .ok (⟨1,0,0,a,[],[]⟩,r)
def sizeP(ts:List Tok):Out Int:=if (hd ts).kind=1∧1≤numI 1000 (hd ts).txt then .ok (numI 1000 (hd ts).txt,ts.tail)else .error (2,(hd ts).at_)
def winP(o:Nat)(ts:List Tok):Out Tr:=bnd (takeP [40] ts) fun _ r=>bnd (selP r) fun p r=>bnd (takeP [91] r) fun _ r=>bnd (sizeP r) fun n r=>bnd (takeP [93] r) fun _ r=>bnd (takeP [41] r) fun _ r=>.ok (leafT ⟨2,o,n,p.name,p.conds,[]⟩,r)
def withinP(rec:Nat→List Tok→Nat→Out Tr)(ts:List Tok)(deep:Nat):Out Tr:=bnd (takeP [40] ts) fun _ r=>bnd (rec 0 r deep) fun a r=>bnd (takeP [41] r) fun _ r=>.ok (a,r)
def groupP(rec:Nat→List Tok→Nat→Out Tr)(g:Nat)(ts:List Tok)(deep:Nat):Out Tr:=bnd (takeP wBy ts) fun _ r=>bnd (takeP [40] r) fun _ r=>bnd (listP (kindP 2) [41] (r.length+1) [] r) fun ns r=>bnd (withinP rec r deep) fun a r=>.ok (.node 0 0 ⟨5,g,0,[],[],ns⟩ a .nil,r)
def startsT(t:Tok):Bool:=t.kind == 1 || isT [45] t || isT [40] t || (t.kind == 2 && !isT wOr t && !isT wBy t)
def numV(l:List UInt8):Int:=((number 1000000000 l).getD 0:Nat)
def innerP(rec:Nat→List Tok→Nat→Out Tr)(ts:List Tok)(deep:Nat):Out Tr:=
 if (hd ts).kind=1 then .ok (leafT ⟨0,0,numV (hd ts).txt,[],[],[]⟩,ts.tail)
 else if isT [45] (hd ts)then bnd (rec 3 ts.tail deep) fun a r=>.ok (.node 0 0 (nd0 3 0) a .nil,r)
 else if isT [40] (hd ts)then withinP rec ts deep
 else match idx (hd ts).txt groupWords with
  | some g=>groupP rec g ts.tail deep
  | none => match idx (hd ts).txt overWords with
    | some o=>winP o ts.tail
    | none=>bnd (selP ts) fun p r=>.ok (leafT p,r)
def factorP(rec:Nat→List Tok→Nat→Out Tr)(ts:List Tok)(deep:Nat):Out Tr:=
 if startsT (hd ts)then (if deep=20 then .error (3,(hd ts).at_)else innerP rec ts (deep+1))else .error (2,(hd ts).at_)
def opAt(lv:Nat)(t:Tok):Option (Nat×Nat):=
 if lv=0 then (if isT wOr t then some (6,0)else none)
 else if lv=1 then (if isT [43] t then some (4,0)else if isT [45] t then some (4,1)else none)
 else (if isT [42] t then some (4,2)else if isT [47] t then some (4,3)else none)
def parse:Nat→Bool→Nat→Tr→List Tok→Nat→Out Tr
 | 0,_,_,_,_,_=>.error (0,0)
 | n + 1, false, lv, _, ts, deep => if lv = 3 then factorP (fun lv ts d => parse n false lv .nil ts d) ts deep
   else bnd (parse n false (lv+1) .nil ts deep) fun a r=>parse n true lv a r deep
 | n + 1, true, lv, a, ts, deep => match opAt lv (hd ts) with
   | none=>.ok (a,ts)
   | some p=>bnd (parse n false (lv+1) .nil ts.tail deep) fun b r=>parse n true lv (.node 0 0 (nd0 p.1 p.2) a b) r deep
def kindT:Tr→Nat
 | .nil=>1
 | .node _ _ a l r => if a.kind = 0 then 1 else if a.kind = 1 ∨ a.kind = 2 then 2 else if a.kind = 3 then kindT l
   else if a.kind=5 then (if kindT l=2 then 2 else 0)
   else if kindT l=0∨kindT r=0∨(a.kind=6∧kindT l+kindT r≠4)then 0 else if kindT l+kindT r=2 then 1 else 2
def readQ(l:List UInt8):Except (Nat×Nat) Tr:=
 if 300<l.length then .error (1,0)else
 match parse (10*(lexAll l (l.length+1) 0).length+5) false 0 .nil (lexAll l (l.length+1) 0) 0 with
 | .error e=>.error e
 | .ok (t,r)=>if (hd r).kind=0 then (if kindT t=0 then .error (4,0)else .ok t)else .error (2,(hd r).at_)
def tightT(a:Nd):Nat:=if a.kind=6 then 1 else if a.kind=4 then (if a.op<2 then 2 else 3)else 4
def commas:List (List UInt8)→List UInt8
 | []=>[]
 | [a]=>a
 | a::l=>a++44::commas l
def condS(c:List UInt8×List UInt8×Bool):List UInt8:=c.1++(if c.2.2 then [33,61] else [61])++[34]++c.2.1++[34]
def selS(a:Nd):List UInt8:=if a.conds=[] then a.name else a.name++[123]++commas (a.conds.map condS)++[125]
end Go.Proofs.YtkodhpilkaihjaaGreatDoor.LS
namespace Go.Proofs.YtkodhpilkaihjaaGreatDoor
open Go.RowKit LS
structure QV where
 pv:Value
 s:ByteArray
 at_:Nat
 k:Nat
 tx:ByteArray
 ta:Nat
 deep:Nat
 e:Nat
 pl:Nat
def QV.cells(q:QV):Array Value:=#[q.pv,.string q.s,.int .i64 q.at_,.int .i64 q.k,.string q.tx,.int .i64 q.ta,.int .i64 q.deep,.int .i64 q.e,.int .i64 q.pl]
def QAt(w:World)(b:Nat)(q:QV):Prop:=w.heap[b]?=some (.cells q.cells 239 (0,0))
theorem QAt.lt{w:World}{b:Nat}{q:QV}(h:QAt w b q):b<w.heap.size:=(Array.getElem?_eq_some_iff.1 h).1
theorem QAt.frozen{w:World}{b:Nat}{q:QV}(h:QAt w b q)(o:Nat):w.frozen? ⟨b,o,none⟩=false:=by
 unfold QAt at h;simp[World.frozen?,h]
theorem QAt.cell{w:World}{b:Nat}{q:QV}(h:QAt w b q)(o:Nat)(v:Value)(hv:q.cells[o]?=some v):w.cell? ⟨b,o,none⟩=some v:=by
 unfold QAt at h;simp only[World.cell?,h];simpa using hv
theorem QAt.all{w:World}{b:Nat}{q:QV}(h:QAt w b q) :
  w.cell? ⟨b,0,none⟩=some q.pv∧w.cell? ⟨b,1,none⟩=some (.string q.s)∧w.cell? ⟨b,2,none⟩=some (.int .i64 q.at_)∧w.cell? ⟨b,3,none⟩=some (.int .i64 q.k)∧w.cell? ⟨b,4,none⟩=some (.string q.tx)∧
  w.cell? ⟨b,5,none⟩=some (.int .i64 q.ta)∧w.cell? ⟨b,6,none⟩=some (.int .i64 q.deep)∧w.cell? ⟨b,7,none⟩=some (.int .i64 q.e)∧w.cell? ⟨b,8,none⟩=some (.int .i64 q.pl):=
 ⟨h.cell 0 _ rfl,h.cell 1 _ rfl,h.cell 2 _ rfl,h.cell 3 _ rfl,h.cell 4 _ rfl,h.cell 5 _ rfl,h.cell 6 _ rfl,h.cell 7 _ rfl,h.cell 8 _ rfl⟩
theorem QAt.set{w:World}{b:Nat}{q q':QV}(h:QAt w b q)(o:Nat)(v:Value)(hq:q.cells.setIfInBounds o v=q'.cells):QAt (w.setCell ⟨b,o,none⟩ v) b q':=by
 unfold QAt at h ⊢
 simp only[World.setCell,Array.getElem?_modify,h,if_true,Option.map_some]
 rw[←hq];rfl
theorem QAt.other{w:World}{b:Nat}{q:QV}(h:QAt w b q){a:Addr}(ha:b≠a.block)(v:Value):QAt (w.setCell a v) b q:=(Go.Deep.blk_setCell_other w a v b ha).trans h
theorem QAt.alloc{w:World}{b:Nat}{q:QV}(h:QAt w b q)(o:Obj):QAt (w.alloc o) b q:=(Go.Deep.blk_alloc_lt w o b h.lt).trans h
theorem QAt.below{w w':World}{b:Nat}{q:QV}(h:QAt w b q)(hb:Below w.heap.size w w'):QAt w' b q:=(hb.block b h.lt).trans h
theorem grown_of_below{w w':World}{r:Option Nat}(h:Below w.heap.size w w'):w.grownBy w' r:=⟨h.os,h.tape,h.output,h.size,fun k hk _=>h.block k hk⟩
theorem grown_refl(w:World)(r:Option Nat):w.grownBy w r:=⟨rfl,rfl,rfl,Nat.le_refl _,fun _ _ _=>rfl⟩
theorem grown_trans{a b c:World}{r:Option Nat}(h:a.grownBy b r)(h':b.grownBy c r):a.grownBy c r:=
 ⟨h'.os.trans h.os,h'.tape.trans h.tape,h'.output.trans h.output,Nat.le_trans h.size h'.size,fun k hk hn=>(h'.block k (Nat.lt_of_lt_of_le hk h.size) hn).trans (h.block k hk hn)⟩
theorem grown_set{a w:World}{b:Nat}(h:a.grownBy w (some b)){p:Addr}(hp:p.block=b∨a.heap.size≤p.block)(v:Value):a.grownBy (w.setCell p v) (some b):=
 ⟨h.os,h.tape,h.output,by rw[Go.Deep.nblk_setCell];exact h.size,fun k hk hn=>(Go.Deep.blk_setCell_other w p v k (by rintro rfl;rcases hp with hp|hp;exact hn (by rw[hp]);omega)).trans (h.block k hk hn)⟩
theorem grown_alloc{a w:World}{r:Option Nat}(h:a.grownBy w r)(o:Obj):a.grownBy (w.alloc o) r:=
 ⟨h.os,h.tape,h.output,by rw[Go.Deep.nblk_alloc];have:=h.size;omega,fun k hk hn=>(Go.Deep.blk_alloc_lt w o k (Nat.lt_of_lt_of_le hk h.size)).trans (h.block k hk hn)⟩
theorem grown_drew{a w:World}{r:Option Nat}(h:a.grownBy w r):a.grownBy w.drew r:=⟨h.os,h.tape,h.output,h.size,h.block⟩
theorem grown_below{a b c:World}{r:Option Nat}(h:a.grownBy b r)(h':Below b.heap.size b c):a.grownBy c r:=grown_trans h (grown_of_below h')
theorem box3_of{w W w1:World}{x y z:Value}{t:TypeId}(hb:Below W.heap.size W w1)(hW:W.heap=(w.alloc (.cells #[x,y,z] t)).heap) :
  w1.cell? ⟨w.heap.size,0,none⟩=some x∧w1.cell? ⟨w.heap.size,1,none⟩=some y∧w1.cell? ⟨w.heap.size,2,none⟩=some z∧
  w1.frozen? ⟨w.heap.size,0,none⟩=false∧w1.frozen? ⟨w.heap.size,1,none⟩=false∧w1.frozen? ⟨w.heap.size,2,none⟩=false:=by
 have hz:W.heap.size=w.heap.size+1:=by rw[hW];exact Go.Deep.nblk_alloc _ _
 have h:w1.heap[w.heap.size]?=some (.cells #[x,y,z] t):=by
  rw[hb.block _ (by omega),hW];exact Go.Deep.blk_alloc_new _ _
 refine⟨?_,?_,?_,?_,?_,?_⟩ <;> simp[World.cell?,World.frozen?,h]
theorem cell_set_ne{W:World}{x o p:Nat}{a:Value}{r:Option Value}(h:W.cell? ⟨x,o,none⟩=r)(hop:p≠o):(W.setCell ⟨x,p,none⟩ a).cell? ⟨x,o,none⟩=r:=
 (World.cell?_setCell_other _ _ _ _ (by intro e;injection e with _ e2;exact hop e2)).trans h
theorem set3_cells{W:World}{x:Nat}{u v y a b c:Value}(k0:W.cell? ⟨x,0,none⟩=some u)(k1:W.cell? ⟨x,1,none⟩=some v)(k2:W.cell? ⟨x,2,none⟩=some y) :
  (((W.setCell ⟨x,0,none⟩ a).setCell ⟨x,1,none⟩ b).setCell ⟨x,2,none⟩ c).cell? ⟨x,0,none⟩=some a∧(((W.setCell ⟨x,0,none⟩ a).setCell ⟨x,1,none⟩ b).setCell ⟨x,2,none⟩ c).cell? ⟨x,1,none⟩=some b∧
  (((W.setCell ⟨x,0,none⟩ a).setCell ⟨x,1,none⟩ b).setCell ⟨x,2,none⟩ c).cell? ⟨x,2,none⟩=some c:=
 ⟨cell_set_ne (cell_set_ne (World.cell?_setCell_same _ _ _ k0) (by decide)) (by decide),cell_set_ne (World.cell?_setCell_same _ _ _ (cell_set_ne k1 (by decide))) (by decide),World.cell?_setCell_same _ _ _ (cell_set_ne (cell_set_ne k2 (by decide)) (by decide))⟩
set_option maxHeartbeats 1000000 in
theorem qfail_ok(w:World)(b:Nat)(q:QV)(e:Nat)(h:QAt w b q)(he:q.e=0) :
  Calls Tryz.prog 177 #[.pointer (some ⟨b,0,none⟩),.int .i64 e] w fun r w'=>r=.returned (.tuple #[])∧QAt w' b { q with e:=e,pl:=q.ta }∧w.grownBy w' (some b):=by
 obtain⟨c0,c1,c2,c3,c4,c5,c6,c7,c8⟩:=h.all
 have f7:=h.frozen 7
 have f8:=h.frozen 8
 have hb:((q.e:Int) == 0)=true:=by rw[he];rfl
 have HQ:Hid (QAt w b q):=h
 clear h he
 go_enter Tryz.func177,Tryz.ntmps177
 go_wp2
 go_end0
 exact⟨rfl,QAt.set (QAt.set (q':={ q with e:=e }) HQ.out 7 _ rfl) 8 _ rfl,(by repeat (first|exact grown_refl _ _|assumption|refine grown_set ?_ (by first|exact Or.inl rfl|(right;omega)|(right;simp;omega)) _|refine grown_alloc ?_ _|refine grown_drew ?_))⟩
set_option maxHeartbeats 1000000 in
theorem qfail_err(w:World)(b:Nat)(q:QV)(e:Int)(h:QAt w b q)(he:q.e≠0) :
  Calls Tryz.prog 177 #[.pointer (some ⟨b,0,none⟩),.int .i64 e] w fun r w'=>r=.returned (.tuple #[])∧w'=w:=by
 obtain⟨c0,c1,c2,c3,c4,c5,c6,c7,c8⟩:=h.all
 have hb:((q.e:Int) == 0)=false:=by rw[beq_eq_false_iff_ne];omega
 have HQ:Hid (QAt w b q):=h
 clear h he
 go_enter Tryz.func177,Tryz.ntmps177
 go_wp2
 go_end0
 exact⟨rfl,rfl⟩
set_option maxHeartbeats 1000000 in
theorem qis_err(w:World)(b:Nat)(q:QV)(s:ByteArray)(h:QAt w b q)(he:q.e≠0) :
  Calls Tryz.prog 229 #[.pointer (some ⟨b,0,none⟩),.string s] w fun r w'=>r=.returned (.bool false)∧w'=w:=by
 obtain⟨c0,c1,c2,c3,c4,c5,c6,c7,c8⟩:=h.all
 have hb:((q.e:Int) == 0)=false:=by rw[beq_eq_false_iff_ne];omega
 have HQ:Hid (QAt w b q):=h
 clear h he
 go_enter Tryz.func229,Tryz.ntmps229
 go_wp2
 go_ret
 exact⟨rfl,rfl⟩
def tokOf(q:QV):Tok:=⟨q.k,bl q.tx,q.ta⟩
theorem isT_of (s : ByteArray) (q : QV) : isT (bl s) (tokOf q) = ((((q.k : Int) == 2) || ((q.k : Int) == 4)) && (q.tx.toList == s.toList)) := by
  unfold isT tokOf
  rw[toList_bl,toList_bl]
  have e2:((q.k:Int) == 2)=(q.k == 2):=by rw[Bool.eq_iff_iff,beq_iff_eq,beq_iff_eq];omega
  have e4:((q.k:Int) == 4)=(q.k == 4):=by rw[Bool.eq_iff_iff,beq_iff_eq,beq_iff_eq];omega
  rw[e2,e4]
set_option maxHeartbeats 1000000 in
theorem qis_ok(w:World)(b:Nat)(q:QV)(s:ByteArray)(h:QAt w b q)(he:q.e=0) :
  Calls Tryz.prog 229 #[.pointer (some ⟨b,0,none⟩),.string s] w fun r w'=>r=.returned (.bool (isT (bl s) (tokOf q)))∧w'=w:=by
 obtain⟨c0,c1,c2,c3,c4,c5,c6,c7,c8⟩:=h.all
 have hb:((q.e:Int) == 0)=true:=by rw[he];rfl
 have HQ:Hid (QAt w b q):=h
 clear h he
 rw[isT_of]
 generalize hx2:((q.k:Int) == 2)=x2
 generalize hx4:((q.k:Int) == 4)=x4
 generalize hxs:(q.tx.toList == s.toList)=xs
 go_enter Tryz.func229,Tryz.ntmps229
 cases x2 <;> cases x4 <;> cases xs <;> (go_wp2;go_ret;exact⟨rfl,rfl⟩)
set_option maxRecDepth 100000 in
set_option maxHeartbeats 4000000 in
theorem qnext_any(w:World)(b:Nat)(q:QV)(h:QAt w b q)(hs:q.s.size≤6000)(hi:q.at_≤q.s.size) :
  Calls Tryz.prog 175 #[.pointer (some ⟨b, 0, none⟩)] w fun r w' => r = .returned (.tuple #[]) ∧ (∃ ts : ByteArray, bl ts = (lexAt (bl q.s) q.at_).1.txt ∧
    QAt w' b { q with at_:=(lexAt (bl q.s) q.at_).2,k:=(lexAt (bl q.s) q.at_).1.kind,tx:=ts,ta:=(lexAt (bl q.s) q.at_).1.at_ })∧w.grownBy w' (some b):=by
 obtain⟨c0,c1,c2,c3,c4,c5,c6,c7,c8⟩:=h.all
 have hlt:=h.lt
 have HQ:Hid (QAt w b q):=h
 clear h
 generalize hr:lexAt (bl q.s) q.at_=r
 have HR:Hid _:=hr
 clear hr
 go_enter Tryz.func175,Tryz.ntmps175
 go_upto_region 0 with fail
 go_cut [2, 3] (fun s2 s3 wx => ∃ (x : Nat) (ts : ByteArray), s2 = .pointer (some ⟨x, 0, none⟩) ∧ s3 = .int .i64 r.2 ∧ Hid (bl ts = r.1.txt) ∧ b ≠ x ∧ Hid (QAt wx b q) ∧ Hid (w.grownBy wx (some b)) ∧
   wx.cell? ⟨x,0,none⟩=some (.int .i64 r.1.kind)∧wx.cell? ⟨x,1,none⟩=some (.string ts)∧wx.cell? ⟨x,2,none⟩=some (.int .i64 r.1.at_))
 case first=>
  go_region_with (go_at_call 227;refine(lex_any _ _ _ hs hi).mono ?_;rintro e w1 ⟨⟨ts,hts⟩,hb1⟩;rw[HR.out]at hts;obtain⟨rfl,htx⟩:=hts;try (have hbx:=box3_of (w:=w) (x:=.int .i64 0) (y:=.string ⟨#[]⟩) (z:=.int .i64 0) (t:=237) hb1 rfl;obtain⟨k0,k1,k2,g0,g1,g2⟩:=hbx))
  all_goals
   have hq1:QAt w1 b q:=by first|exact QAt.below (w:=w.drew) HQ.out hb1|exact QAt.below (w:=(w.alloc _).drew) (QAt.alloc HQ.out _) hb1
   have hg1:w.grownBy w1 (some b):=by first|exact grown_below (b:=w.drew) (grown_drew (grown_refl _ _)) hb1|exact grown_below (b:=(w.alloc _).drew) (grown_drew (grown_alloc (grown_refl _ _) _)) hb1
   have hsz:w.heap.size≤w1.heap.size:=hg1.size
   have hne:b≠w.heap.size:=by omega
   have hne1:b≠w1.heap.size:=by omega
   clear c0 c1 c2 c3 c4 c5 c6 c7 c8 hb1
   go_wp2_with fail
   go_meet
   first
    | exact⟨w1.heap.size,ts,rfl,rfl,htx,hne1,QAt.alloc hq1 _,grown_alloc hg1 _,by simp,by simp,by simp⟩
    | exact⟨w.heap.size,ts,rfl,rfl,htx,hne,QAt.other (QAt.other (QAt.other hq1 hne _) hne _) hne _,grown_set (grown_set (grown_set hg1 (Or.inr (Nat.le_refl _)) _) (Or.inr (Nat.le_refl _)) _) (Or.inr (Nat.le_refl _)) _,set3_cells k0 k1 k2⟩
 case rest=>
  obtain⟨x,ts,rfl,rfl,HT,hbx,HQ1,HG,k0,k1,k2⟩:=hcut
  clear c0 c1 c2 c3 c4 c5 c6 c7 c8
  obtain⟨c0,c1,c2,c3,c4,c5,c6,c7,c8⟩:=QAt.all HQ1.out
  have f2:=QAt.frozen HQ1.out 2
  have f3:=QAt.frozen HQ1.out 3
  have f4:=QAt.frozen HQ1.out 4
  have f5:=QAt.frozen HQ1.out 5
  go_wp2
  go_end0
  have hq:=HQ1.out
  have hg:=HG.out
  refine⟨rfl,⟨ts,HT.out,?_⟩,(by repeat (first|exact grown_refl _ _|assumption|refine grown_set ?_ (by first|exact Or.inl rfl|(right;omega)|(right;simp;omega)) _|refine grown_alloc ?_ _|refine grown_drew ?_))⟩
  refine QAt.set (q:={ q with k:=r.1.kind,tx:=ts,ta:=r.1.at_ }) ?_ 2 _ rfl
  refine QAt.set (q:={ q with k:=r.1.kind,tx:=ts }) ?_ 5 _ rfl
  refine QAt.set (q:={ q with k:=r.1.kind }) ?_ 4 _ rfl
  refine QAt.set (q:=q) ?_ 3 _ rfl
  exact hq
end Go.Proofs.YtkodhpilkaihjaaGreatDoor
