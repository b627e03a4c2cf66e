/- Parts. -/
import Derived.Test.YtcdgkkfipdoeeaaGreatDoorT02
import Derived.Test.YtcdgkkfipdoeeaaGreatDoorTX
import Derived.Test.YtcdgkkfipdoeeaaGreatDoorT03
import Derived.Deep.LoopGhost
set_option maxHeartbeats 2000000
set_option maxRecDepth 100000
namespace Go.Proofs.YtcdgkkfipdoeeaaGreatDoor
open Go.RowKit LS
theorem ZiD{p:UInt8->Bool}(s:ByteArray)(k:Nat)(h:k<s.size)(hp:p s[k]=true):run p ((bl s).drop k)=run p ((bl s).drop (k+1))+1:=by
 rw[ZdI s k h,run,if_pos hp]
theorem Zph{p:UInt8->Bool}(s:ByteArray)(k:Nat)(h:k<s.size)(hp:p s[k]=false):run p ((bl s).drop k)=0:=by
 rw[ZdI s k h,run,if_neg (by rw[hp];exact Bool.false_ne_true)]
theorem Zpg{p:UInt8->Bool}(s:ByteArray)(k:Nat)(h:¬k<s.size):run p ((bl s).drop k)=0:=by
 rw[List.drop_of_length_le (by rw[Zi];omega)];rfl
theorem Zxa(s:ByteArray)(k:Nat)(w:World)(hs:s.size<=6000)(hk:k<=s.size) :
  Calls Tryz.prog 45 #[.string s,.int .i64 k,.func (.func 44) #[] #[]] w fun e w'=>e=.returned (.int .i64 ((k+run Zt ((bl s).drop k):Nat):Int))/\w'=w:=by
 obtain⟨E,hE⟩:∃E,E=k+run Zt ((bl s).drop k):=⟨_,rfl⟩
 rw[<-hE]
 have HE:Hid (E=k+run Zt ((bl s).drop k)):=hE
 clear hE
 go_enter Tryz.func45,Tryz.ntmps45
 go_wp2
 go_loop [1] (fun i=>∃j:Nat,j<=s.size/\i=.int .i64 j/\Hid (E=j+run Zt ((bl s).drop j))) (fun i=>s.size - (intOf i).toNat)
 case atStart=>exact⟨k,hk,rfl,HE⟩
 case round=>
  obtain⟨j,hj,rfl,HJ⟩:=hrel
  clear HE
  by_cases hlt:j<s.size
  ·cases hd:Zt s[j]
   ·have HF:Hid (E=j):=hid (by rw[HJ.out,Zph s j hlt hd];rfl)
    go_wp2_with (go_at_call 44;refine(Zc8 _ _).mono ?_;rintro e w' ⟨rfl,rfl⟩)
    go_ret
    exact⟨by rw[HF.out];rfl,rfl⟩
   ·have HF:Hid (E=(j+1)+run Zt ((bl s).drop (j+1))):=hid (by rw[HJ.out,ZiD s j hlt hd];omega)
    go_wp2_with (go_at_call 44;refine(Zc8 _ _).mono ?_;rintro e w' ⟨rfl,rfl⟩)
    go_round
    case rel=>exact⟨j+1,by omega,by go_num,HF⟩
    case measure=>simp[intOf];omega
  ·have HF:Hid (E=j):=hid (by rw[HJ.out,Zpg s j hlt];rfl)
   go_wp2
   go_ret
   exact⟨by rw[HF.out];rfl,rfl⟩
theorem Zxb(s:ByteArray)(k:Nat)(w:World)(hs:s.size<=6000)(hk:k<=s.size) :
  Calls Tryz.prog 45 #[.string s,.int .i64 k,.func (.func 47) #[] #[]] w fun e w'=>e=.returned (.int .i64 ((k+run Zk ((bl s).drop k):Nat):Int))/\w'=w:=by
 obtain⟨E,hE⟩:∃E,E=k+run Zk ((bl s).drop k):=⟨_,rfl⟩
 rw[<-hE]
 have HE:Hid (E=k+run Zk ((bl s).drop k)):=hE
 clear hE
 go_enter Tryz.func45,Tryz.ntmps45
 go_wp2
 go_loop [1] (fun i=>∃j:Nat,j<=s.size/\i=.int .i64 j/\Hid (E=j+run Zk ((bl s).drop j))) (fun i=>s.size - (intOf i).toNat)
 case atStart=>exact⟨k,hk,rfl,HE⟩
 case round=>
  obtain⟨j,hj,rfl,HJ⟩:=hrel
  clear HE
  by_cases hlt:j<s.size
  ·cases hd:Zk s[j]
   ·have HF:Hid (E=j):=hid (by rw[HJ.out,Zph s j hlt hd];rfl)
    go_wp2_with (go_at_call 47;refine(ZdK _ _).mono ?_;rintro e w' ⟨rfl,rfl⟩)
    go_ret
    exact⟨by rw[HF.out];rfl,rfl⟩
   ·have HF:Hid (E=(j+1)+run Zk ((bl s).drop (j+1))):=hid (by rw[HJ.out,ZiD s j hlt hd];omega)
    go_wp2_with (go_at_call 47;refine(ZdK _ _).mono ?_;rintro e w' ⟨rfl,rfl⟩)
    go_round
    case rel=>exact⟨j+1,by omega,by go_num,HF⟩
    case measure=>simp[intOf];omega
  ·have HF:Hid (E=j):=hid (by rw[HJ.out,Zpg s j hlt];rfl)
   go_wp2
   go_ret
   exact⟨by rw[HF.out];rfl,rfl⟩
def Zew(c:UInt8)(r:List UInt8):List UInt8:=if c == 33 && r.head? == some 61 then [33,61] else if (seek c Zcj).isSome then [c] else []
theorem Znx(c:UInt8):∀l:List UInt8,decide (0<=Lib.indexByte l c)=(seek c l).isSome/\-1<=Lib.indexByte l c
 | []=>⟨rfl,Int.le_refl (-1)⟩
 | b :: l => by
   obtain⟨h1,h2⟩:=Znx c l
   unfold Lib.indexByte seek
   by_cases hb:b=c
   · subst hb;simp
   · have e:(b == c)=false:=by simpa using hb
     rw[e]
     simp only[Bool.false_eq_true,if_false]
     rw[Option.isSome_map,<-h1]
     split
     · rename_i h
       have:Lib.indexByte l c=-1:=by simpa using h
       rw[this]
       exact⟨by decide,by decide⟩
     · rename_i h
       have:Lib.indexByte l c≠-1:=by simpa using h
       refine⟨?_,by omega⟩
       rw[decide_eq_true (show 0<=Lib.indexByte l c+1 by omega),decide_eq_true (show 0<=Lib.indexByte l c by omega)]
theorem ZwA(c:UInt8)(r:List UInt8):Lib.hasPrefix (c::r) [33,61]=(c == 33 && r.head? == some 61):=by
 cases r with
 | nil=>simp[Lib.hasPrefix,List.isPrefixOf]
 | cons d r=>
  simp only[Lib.hasPrefix,List.isPrefixOf,List.head?_cons]
  rw[Bool.and_true]
  congr 1
  ·rw[Bool.eq_iff_iff,beq_iff_eq,beq_iff_eq];exact eq_comm
  ·rw[Bool.eq_iff_iff,beq_iff_eq,beq_iff_eq];exact⟨fun h=>by rw[h],fun h=>by injection h with h;exact h.symm⟩
theorem Zot(s:ByteArray)(k:Nat)(w:World)(hs:s.size<=6000)(hk:k<s.size) :
  Calls Tryz.prog 50 #[.string s,.int .i64 k] w fun e w'=>∃x:ByteArray,e=.returned (.string x)/\Hid (bl x=Zew s[k] ((bl s).drop (k+1)))/\w'=w:=by
 have hx:(s.extract k s.size).data.toList=s[k]::(bl s).drop (k+1):=by
  show bl _=_
  rw[ZgE,<-Zi,List.take_length,ZdI s k hk]
 have hp:Lib.hasPrefix (s.extract k s.size).data.toList [33,61]=(s[k] == 33 && ((bl s).drop (k+1)).head? == some 61):=by rw[hx,ZwA]
 obtain⟨b1,h1⟩:∃x,(s[k] == 33 && ((bl s).drop (k+1)).head? == some 61)=x:=⟨_,rfl⟩
 obtain⟨b2,h2⟩:∃x,(seek s[k] Zcj).isSome=x:=⟨_,rfl⟩
 have HM:Hid (Zew s[k] ((bl s).drop (k+1))=if b1 then [33,61] else if b2 then [s[k]] else []):=hid (by unfold Zew;rw[h1,h2])
 have hi:=Znx s[k] Zcj
 rw[h2]at hi
 rw[h1]at hp
 have HP:Hid (Lib.hasPrefix (s.extract k s.size).data.toList [33,61]=b1):=hp
 have HI:Hid (decide (0<=Lib.indexByte Zcj s[k])=b2/\-1<=Lib.indexByte Zcj s[k]):=hi
 have HX1:Hid (bl (s.extract k (k+1))=[s[k]]):=hid (by rw[ZgE,List.drop_take,ZdI s k hk,show k+1 - k=1 by omega];rfl)
 clear hx hp h1 h2 hi
 have hc:∀c:UInt8,((c.toNat:Int).toNat.toUInt8)=c:=fun c=>by simp
 cases b1
 ·cases b2
  ·have hneg:¬(0<=Lib.indexByte Zcj s[k]):=of_decide_eq_false HI.1
   go_enter Tryz.func50,Tryz.ntmps50
   go_wp2_with fail
   refine(Tryz.strings_HasPrefix _ _ _).mono ?_
   rintro e w' ⟨rfl,rfl⟩
   rw[show(⟨#[33,61]⟩:ByteArray).data.toList=[33,61] from rfl,HP.out]
   go_wp2_with fail
   refine(Tryz.strings_IndexByte _ _ _).mono ?_
   rintro e w' ⟨rfl,rfl⟩
   rw[hc,show(⟨#[40,41,123,125,91,93,44,61,43,45,42,47]⟩:ByteArray).data.toList=Zcj from rfl]
   generalize Lib.indexByte Zcj s[k]=ix at *
   go_wp2
   go_ret
   exact⟨_,rfl,hid (by rw[HM.out];rfl),rfl⟩
  ·have hpos:0<=Lib.indexByte Zcj s[k]:=of_decide_eq_true HI.1
   go_enter Tryz.func50,Tryz.ntmps50
   go_wp2_with fail
   refine(Tryz.strings_HasPrefix _ _ _).mono ?_
   rintro e w' ⟨rfl,rfl⟩
   rw[show(⟨#[33,61]⟩:ByteArray).data.toList=[33,61] from rfl,HP.out]
   go_wp2_with fail
   refine(Tryz.strings_IndexByte _ _ _).mono ?_
   rintro e w' ⟨rfl,rfl⟩
   rw[hc,show(⟨#[40,41,123,125,91,93,44,61,43,45,42,47]⟩:ByteArray).data.toList=Zcj from rfl]
   generalize Lib.indexByte Zcj s[k]=ix at *
   go_wp2
   go_ret
   exact⟨_,rfl,hid (by rw[HM.out];exact HX1.out),rfl⟩
 ·go_enter Tryz.func50,Tryz.ntmps50
  go_wp2_with fail
  refine(Tryz.strings_HasPrefix _ _ _).mono ?_
  rintro e w' ⟨rfl,rfl⟩
  rw[show(⟨#[33,61]⟩:ByteArray).data.toList=[33,61] from rfl,HP.out]
  go_wp2
  go_ret
  exact⟨_,rfl,hid (by rw[HM.out];rfl),rfl⟩
theorem Zuj{s:ByteArray}{k:Nat}(h:k<s.size)(h32:s[k]≠32)(hd:Zt s[k]=false)(hl:Zk s[k]=false)(hq:s[k]≠34):Zo (bl s) k=if Zew s[k] ((bl s).drop (k+1))=[] then (⟨5,[],k⟩,k+1)else (⟨4,Zew s[k] ((bl s).drop (k+1)),k⟩,k+(Zew s[k] ((bl s).drop (k+1))).length):=by
 rw[Zig s k h h32]
 unfold lexC Zew
 rw[hd,hl,beq_eq_false_iff_ne.2 hq]
 simp only[Bool.false_eq_true,if_false]
 split
 ·rfl
 ·split <;> rfl
theorem ZtE{a b:List UInt8}(h:ZS (a++b)=true):ZS a=true:=by
 unfold ZS at h ⊢
 rw[Bool.and_eq_true]at h ⊢
 obtain⟨h1,h2⟩:=h
 simp at h1 h2 ⊢
 constructor
 ·exact h1.1
 ·omega
theorem Zkt{s:ByteArray}{k:Nat}(h:k<s.size)(hq:s[k]=34):Zo (bl s) k=match seek 34 ((bl s).drop (k+1))with
  | none=>(⟨5,[],k⟩,(bl s).length)
  | some p=>(if ZS (((bl s).drop (k+1)).take p)then ⟨3,((bl s).drop (k+1)).take p,k⟩else ⟨5,[],k⟩,k+p+2):=by
 rw[Zig s k h (by rw[hq];decide)]
 unfold lexC
 rw[hq]
 rw[show Zt 34=false by decide,show Zk 34=false by decide]
 simp only[Bool.false_eq_true,if_false,beq_self_eq_true,if_true]
 rfl
theorem Zum{s:ByteArray}{k n:Nat}(h:k<s.size)(hq:s[k]=34)(hn:k+1+n<s.size)(hE:s[k+1+n]=34)(hno:34∉((bl s).drop (k+1)).take n)(hw:ZS (((bl s).drop (k+1)).take n)=true):Zo (bl s) k=(⟨3,((bl s).drop (k+1)).take n,k⟩,k+n+2):=by
 rw[Zkt h hq]
 have hl:(((bl s).drop (k+1)).take n).length=n:=by rw[List.length_take,List.length_drop,Zi];omega
 have hs:seek 34 ((bl s).drop (k+1))=some n:=by
  rw[<-List.take_append_drop n ((bl s).drop (k+1)),List.drop_drop,ZdI s (k+1+n) hn,hE,Zf0 34 _ _ hno,hl]
 rw[hs]
 simp only[hw,if_true]
theorem Zul{s:ByteArray}{k:Nat}(h:k<s.size)(hq:s[k]=34)(hno:34∉(bl s).drop (k+1)):Zo (bl s) k=(⟨5,[],k⟩,(bl s).length):=by
 rw[Zkt h hq,(Zln 34 _).2 hno]
theorem Zuk{s:ByteArray}{k n:Nat}(h:k<s.size)(hq:s[k]=34)(hno:34∉((bl s).drop (k+1)).take n)(hw:ZS (((bl s).drop (k+1)).take n)=false):∃e,Zo (bl s) k=(⟨5,[],k⟩,e):=by
 rw[Zkt h hq]
 cases hs:seek 34 ((bl s).drop (k+1))with
 | none=>exact⟨_,rfl⟩
 | some p=>
  refine⟨k+p+2,?_⟩
  obtain⟨a,b,h1,h2,h3⟩:=ZiG hs
  have hnp:n<=p:=by
   by_cases hp:n<=p
   ·exact hp
   ·exfalso
    apply hno
    rw[h1,List.take_append,List.take_of_length_le (by omega)]
    rw[show n - a.length=(n - a.length - 1)+1 by omega]
    simp
  have hf:ZS (((bl s).drop (k+1)).take p)=false:=by
   cases hx:ZS (((bl s).drop (k+1)).take p)
   ·rfl
   ·exfalso
    have:((bl s).drop (k+1)).take p=((bl s).drop (k+1)).take n++(((bl s).drop (k+1)).drop n).take (p - n):=by
     rw[<-List.take_add];congr 1;omega
    rw[this]at hx
    rw[ZtE hx]at hw
    exact Bool.noConfusion hw
  simp only[hf,Bool.false_eq_true,if_false]
def QRel(s:ByteArray)(k n:Nat):Prop:=k+1+n<=s.size/\34∉((bl s).drop (k+1)).take n/\ZS (((bl s).drop (k+1)).take n)=true
theorem QRel.start{s:ByteArray}{k:Nat}(h:k<s.size):QRel s k 0:=⟨by omega,by simp,by rfl⟩
theorem Zjv{s:ByteArray}{k n:Nat}(_:k+1+n<=s.size):bl (s.extract (k+1) (k+1+n))=((bl s).drop (k+1)).take n:=by
 rw[ZgE,List.drop_take];congr 1;omega
theorem QRel.shut{s:ByteArray}{k n:Nat}{ps:List PTok}(h:QRel s k n)(HL:Zb3 s ps k)(hk:k<s.size)(hq:s[k]=34)(hn:k+1+n<s.size)(hE:s[k+1+n]=34):Zb3 s (ps++[⟨2,k,s.extract (k+1) (k+1+n),0⟩]) (k+1+n+1):=by
 have hx:=Zum hk hq hn hE h.2.1 h.2.2
 rw[show k+1+n+1=k+n+2 by omega]
 exact HL.token (t:=⟨3,((bl s).drop (k+1)).take n,k⟩) hx (by show ¬((3:Nat)=0∨(3:Nat)=5);decide) ⟨rfl,rfl,Zjv (by omega),fun h=>by cases h⟩
theorem QRel.never{s:ByteArray}{k n:Nat}{ps:List PTok}(h:QRel s k n)(HL:Zb3 s ps k)(hk:k<s.size)(hq:s[k]=34)(hn:¬k+1+n<s.size):ZbX (ps++[⟨5,k,⟨#[]⟩,0⟩]) (ZH (bl s) ((bl s).length+1) 0):=by
 have hno:34∉(bl s).drop (k+1):=by
  have:=h.2.1
  rwa [List.take_of_length_le (by rw[List.length_drop,Zi];omega)]at this
 exact HL.done (t:=⟨5,[],k⟩) (Zul hk hq hno) (Or.inr rfl) ⟨rfl,rfl,rfl,fun h=>by cases h⟩
theorem Zyj{s:ByteArray}{k n:Nat}(hn:k+1+n<s.size):((bl s).drop (k+1)).take (n+1)=((bl s).drop (k+1)).take n++[s[k+1+n]]:=by
 rw[List.take_add,List.drop_drop,ZdI s (k+1+n) hn]
 rfl
theorem QRel.no{s:ByteArray}{k n:Nat}(h:QRel s k n)(hn:k+1+n<s.size)(hE:s[k+1+n]≠34):34∉((bl s).drop (k+1)).take (n+1):=by
 rw[Zyj hn,List.mem_append]
 rintro(h1|h1)
 ·exact h.2.1 h1
 ·simp at h1;exact hE h1.symm
theorem QRel.bad{s:ByteArray}{k n:Nat}{ps:List PTok}(h:QRel s k n)(HL:Zb3 s ps k)(hk:k<s.size)(hq:s[k]=34)(hn:k+1+n<s.size)(hE:s[k+1+n]≠34)(hw:ZS (bl (s.extract (k+1) (k+1+n+1)))=false):ZbX (ps++[⟨5,k,⟨#[]⟩,0⟩]) (ZH (bl s) ((bl s).length+1) 0):=by
 rw[show k+1+n+1=k+1+(n+1) by omega,Zjv (by omega)]at hw
 obtain⟨e,he⟩:=Zuk hk hq (h.no hn hE) hw
 exact HL.done (t:=⟨5,[],k⟩) he (Or.inr rfl) ⟨rfl,rfl,rfl,fun h=>by cases h⟩
theorem QRel.go{s:ByteArray}{k n:Nat}(h:QRel s k n)(hn:k+1+n<s.size)(hE:s[k+1+n]≠34)(hw:ZS (bl (s.extract (k+1) (k+1+n+1)))=true):QRel s k (n+1):=by
 rw[show k+1+n+1=k+1+(n+1) by omega,Zjv (by omega)]at hw
 exact⟨by omega,h.no hn hE,hw⟩
theorem Tryz.infoTok:(Tryz.prog.info? 74).map (fun i=>(i.zero,i.size,i.bytes))=some (some (.agg #[.int .i64 0,.int .i64 0,.string ByteArray.empty,.int .i64 0]),4,40):=by kernel_rfl
theorem Zd4{W:World}{a b c d:Value}{t:TypeId}{n:Nat}(hn:W.heap.size=n):∀j x,[a,b,c,d][j]?=some x->(W.alloc (.cells #[a,b,c,d] t)).cell? ((⟨n,0,none⟩:Addr).add j)=some x:=by
 intro j x hj
 subst hn
 rw[Zfd]
 have h:=Go.Deep.blk_alloc_new W (.cells #[a,b,c,d] t)
 simp only[World.cell?,h]
 simpa using hj
theorem Zlj(p:UInt8->Bool):∀l:List UInt8,(l.take (run p l)).all p=true
 | []=>rfl
 | b :: l => by
   unfold run
   split
   · rename_i h;simp[h];exact fun x hx=>(List.all_eq_true.1 (Zlj p l)) x hx
   · rfl
theorem Zg9{w:World}{base:Nat}{e:TypeId}{size:Nat}{v:Value}{n:Nat}{xs:List Value}(h:w.ownsRow base e size v n xs):w.ownsRow 0 e size v n xs:=by
 refine⟨h.1,?_⟩
 rcases h.2 with h2|⟨g,cap,cur,h,_,r⟩
 ·exact Or.inl h2
 ·exact Or.inr ⟨g,cap,cur,h,Nat.zero_le _,r⟩
theorem Zux(s:ByteArray)(w:World)(hs:s.size<=300) :
  Calls Tryz.prog 27 #[.string s] w fun e w'=>∃(v:Value) (ps:List PTok),e=.returned v/\w'.ownsRow 0 74 4 v ps.length (Zbg ps)/\Hid (ZbX ps (ZH (bl s) ((bl s).length+1) 0))/\Below w.heap.size w w':=by
 obtain⟨i0,hi,hz0,hz1,hz2⟩:=info_parts Tryz.infoTok
 go_enter Tryz.func27,Tryz.ntmps27
 go_wp2
 go_step3
 go_wp2
 go_step3
 go_wp2
 go_loopg [3,4] s.size (fun gg v3 v4 wr=>∃(ps:List PTok) (k:Nat),gg=s.size - k/\v4=.int .i64 k/\Hid (Zb3 s ps k)/\wr.ownsRow w.heap.size 74 4 v3 ps.length (Zbg ps)/\Hid (Below w.heap.size w wr))
 case atStart=>exact⟨[],0,rfl,rfl,Zb3.start s,World.ownsRow_nil _ _ _ _,Below.refl _ _⟩
 case round=>
  obtain⟨ps,k,hgk,rfl,HL,hown,HB⟩:=hrel
  have hk:=HL.1
  have hps:=HL.2.1
  have hsz:=HB.size
  by_cases hlt:k<s.size
  ·by_cases h32:s[k]=32
   ·have HL2:Hid (Zb3 s ps (k+1)):=HL.skip hlt h32
    go_wp2
    go_roundg (s.size - (k+1))
    case measure=>omega
    case rel=>exact⟨ps,k+1,rfl,by go_num,HL2,hown,HB⟩
   ·have c32:((s[k].toNat:Int) == 32)=false:=by
     rw[beq_eq_false_iff_ne]
     intro e
     exact h32 (UInt8.toNat_inj.1 (by show s[k].toNat=32;omega))
    cases hdg:Zt s[k]
    ·have HDG:Hid (Zt s[k]=false):=hdg
     clear hdg
     cases hlg:Zk s[k]
     ·have HLG:Hid (Zk s[k]=false):=hlg
      clear hlg
      by_cases h34:s[k]=34
      ·have c34:((s[k].toNat:Int) == 34)=true:=by rw[h34];rfl
       have HK:Hid (s[k]=34):=h34
       clear h34
       go_wp2_with fail
       refine(Zc8 _ _).mono ?_
       rintro e w' ⟨rfl,rfl⟩
       rw[HDG.out]
       go_wp2_with fail
       refine(ZdK _ _).mono ?_
       rintro e wq ⟨rfl,rfl⟩
       rw[HLG.out]
       go_wp2
       obtain⟨L3,hL3⟩:∃L3,L3=u3:=⟨_,rfl⟩
       go_loopg [3,4,10] (s.size - (k+1)) (fun gi x3 x4 v10 wi=>∃n:Nat,x3=L3/\x4=.int .i64 (k:Int)/\gi=s.size - (k+1+n)/\v10=.int .i64 ((k+1+n:Nat):Int)/\Hid (QRel s k n)/\wi=wq)
       case atStart=>exact⟨0,hL3.symm,rfl,rfl,by go_num,QRel.start hlt,rfl⟩
       case round=>
        obtain⟨n,e3,rfl,hgn,rfl,HQ,rfl⟩:=hrel
        subst e3
        subst hL3
        have hn:=HQ.1
        by_cases hlt2:k+1+n<s.size
        ·by_cases hE:s[k+1+n]=34
         ·have cE:((s[k+1+n].toNat:Int) == 34)=true:=by rw[hE];rfl
          have HL2:Hid (Zb3 s (ps++[⟨2,k,s.extract (k+1) (k+1+n),0⟩]) (k+1+n+1)):=HQ.shut HL.out hlt HK.out hlt2 hE
          clear hE
          go_wp2_with (at_builtin;refine wpList_append_own _ rfl (.tmp 103) (.tmp 111) 66 rfl w.heap.size 74 i0 (.agg #[.int .i64 0,.int .i64 0,.string ByteArray.empty,.int .i64 0]) 4 40 Tryz.underlying66 hi hz0 hz1 hz2 rfl (by decide) _ _ _ rfl (hown.alloc _) ⟨wr.heap.size,0,none⟩ 1 1 [.int .i64 2,.int .i64 k,.string (s.extract (k+1) (k+1+n)),.int .i64 0] rfl rfl ?c1 ?c2 ?c3 ?c4 ?c5 ?_)
          case c1=>exact Zd4 rfl
          case c2=>intro u hu;simp at hu;rcases hu with rfl|rfl|rfl|rfl <;> rfl
          case c3=>unfold maxLen;omega
          case c4=>omega
          case c5=>simp;omega
          intro v' w3 hown3 hgrow _
          have HB3:Hid (Below w.heap.size w w3):=hid ((HB.alloc hsz _).grown hgrow (by simp;omega) (fun q hq=>(hown.lt q hq).1))
          have hown4:w3.ownsRow w.heap.size 74 4 v' (ps++[(⟨2,k,s.extract (k+1) (k+1+n),0⟩:PTok)]).length (Zbg (ps++[(⟨2,k,s.extract (k+1) (k+1+n),0⟩:PTok)])):=by
           rw[Zea,List.length_append];exact hown3
          clear hown3 hgrow hown
          go_wp2
          go_roundg (s.size - (k+1+n+1))
          case measure=>omega
          case rel=>exact⟨_,k+1+n+1,rfl,by first|rfl|go_num,HL2,hown4,HB3⟩
         ·have cE:((s[k+1+n].toNat:Int) == 34)=false:=by
           rw[beq_eq_false_iff_ne]
           intro e
           exact hE (UInt8.toNat_inj.1 (by show s[k+1+n].toNat=34;omega))
          have hx6:(s.extract (k+1) (k+1+n+1)).size<=6000:=by simp;omega
          obtain⟨sx,hsx⟩:∃sx,sx=s.extract (k+1) (k+1+n+1):=⟨_,rfl⟩
          have HSX:Hid (sx=s.extract (k+1) (k+1+n+1)):=hsx
          rw[<-hsx]at hx6
          cases hw:ZS (bl sx)
          ·have HD:Hid (ZbX (ps++[⟨5,k,⟨#[]⟩,0⟩]) (ZH (bl s) ((bl s).length+1) 0)):=HQ.bad HL.out hlt HK.out hlt2 hE (by rw[<-hsx];exact hw)
           have HW:Hid (ZS (bl sx)=false):=hw
           clear hE hw hsx
           go_wp2_with fail
           rw[<-HSX.out]
           refine(ZlF sx _ hx6).mono ?_
           rintro e wq ⟨rfl,rfl⟩
           rw[HW.out]
           go_wp2_with (at_builtin;refine wpList_append_own _ rfl (.tmp 127) (.tmp 130) 66 rfl w.heap.size 74 i0 (.agg #[.int .i64 0,.int .i64 0,.string ByteArray.empty,.int .i64 0]) 4 40 Tryz.underlying66 hi hz0 hz1 hz2 rfl (by decide) _ _ _ rfl (hown.alloc _) ⟨wq.heap.size,0,none⟩ 1 1 [.int .i64 5,.int .i64 k,.string ⟨#[]⟩,.int .i64 0] rfl rfl ?c1 ?c2 ?c3 ?c4 ?c5 ?_)
           case c1=>exact Zd4 rfl
           case c2=>intro u hu;simp at hu;rcases hu with rfl|rfl|rfl|rfl <;> rfl
           case c3=>unfold maxLen;omega
           case c4=>omega
           case c5=>simp;omega
           intro v' w3 hown3 hgrow _
           have HB3:Hid (Below w.heap.size w w3):=hid ((HB.alloc hsz _).grown hgrow (by simp;omega) (fun q hq=>(hown.lt q hq).1))
           have hown4:w3.ownsRow w.heap.size 74 4 v' (ps++[(⟨5,k,⟨#[]⟩,0⟩:PTok)]).length (Zbg (ps++[(⟨5,k,⟨#[]⟩,0⟩:PTok)])):=by
            rw[Zea,List.length_append];exact hown3
           clear hown3 hgrow hown
           go_wp2
           try rw[Exit.noGoto_ret]
           go_ret
           exact⟨_,_,rfl,Zg9 hown4,HD,HB3.out⟩
          ·have HQ2:Hid (QRel s k (n+1)):=HQ.go hlt2 hE (by rw[<-hsx];exact hw)
           have HW:Hid (ZS (bl sx)=true):=hw
           clear hE hw hsx
           go_wp2_with fail
           rw[<-HSX.out]
           refine(ZlF sx _ hx6).mono ?_
           rintro e wq ⟨rfl,rfl⟩
           rw[HW.out]
           go_wp2
           go_roundg (s.size - (k+1+(n+1)))
           case measure=>omega
           case rel=>exact⟨n+1,rfl,rfl,rfl,by go_num,HQ2,rfl⟩
        ·have HD:Hid (ZbX (ps++[⟨5,k,⟨#[]⟩,0⟩]) (ZH (bl s) ((bl s).length+1) 0)):=HQ.never HL.out hlt HK.out hlt2
         go_wp2_with (at_builtin;refine wpList_append_own _ rfl (.tmp 127) (.tmp 130) 66 rfl w.heap.size 74 i0 (.agg #[.int .i64 0,.int .i64 0,.string ByteArray.empty,.int .i64 0]) 4 40 Tryz.underlying66 hi hz0 hz1 hz2 rfl (by decide) _ _ _ rfl (hown.alloc _) ⟨wr.heap.size,0,none⟩ 1 1 [.int .i64 5,.int .i64 k,.string ⟨#[]⟩,.int .i64 0] rfl rfl ?c1 ?c2 ?c3 ?c4 ?c5 ?_)
         case c1=>exact Zd4 rfl
         case c2=>intro u hu;simp at hu;rcases hu with rfl|rfl|rfl|rfl <;> rfl
         case c3=>unfold maxLen;omega
         case c4=>omega
         case c5=>simp;omega
         intro v' w3 hown3 hgrow _
         have HB3:Hid (Below w.heap.size w w3):=hid ((HB.alloc hsz _).grown hgrow (by simp;omega) (fun q hq=>(hown.lt q hq).1))
         have hown4:w3.ownsRow w.heap.size 74 4 v' (ps++[(⟨5,k,⟨#[]⟩,0⟩:PTok)]).length (Zbg (ps++[(⟨5,k,⟨#[]⟩,0⟩:PTok)])):=by
          rw[Zea,List.length_append];exact hown3
         clear hown3 hgrow hown
         go_wp2
         try rw[Exit.noGoto_ret]
         go_ret
         exact⟨_,_,rfl,Zg9 hown4,HD,HB3.out⟩
      ·have c34:((s[k].toNat:Int) == 34)=false:=by
        rw[beq_eq_false_iff_ne]
        intro e
        exact h34 (UInt8.toNat_inj.1 (by show s[k].toNat=34;omega))
       have HLX:=Zuj hlt h32 HDG.out HLG.out h34
       obtain⟨m,hm⟩:∃m,m=Zew s[k] ((bl s).drop (k+1)):=⟨_,rfl⟩
       rw[<-hm]at HLX
       have HM:Hid (m=Zew s[k] ((bl s).drop (k+1))):=hm
       clear hm
       by_cases hm0:m=[]
       ·rw[if_pos hm0]at HLX
        have HD:Hid (ZbX (ps++[⟨5,k,⟨#[]⟩,0⟩]) (ZH (bl s) ((bl s).length+1) 0)):=hid (HL.done (t:=⟨5,[],k⟩) HLX (Or.inr rfl) ⟨rfl,rfl,rfl,fun h=>by cases h⟩)
        clear HLX
        go_wp2_with fail
        refine(Zc8 _ _).mono ?_
        rintro e w' ⟨rfl,rfl⟩
        rw[HDG.out]
        go_wp2_with fail
        refine(ZdK _ _).mono ?_
        rintro e w' ⟨rfl,rfl⟩
        rw[HLG.out]
        go_wp2_with fail
        refine(Zot s k _ (by omega) hlt).mono ?_
        rintro e w' ⟨x,rfl,HX,rfl⟩
        have hx:bl x=[]:=by rw[HX.out,<-HM.out];exact hm0
        obtain rfl:x=⟨#[]⟩:=by
         cases x with|mk d=>cases d with|mk l=>simp[bl]at hx;subst hx;rfl
        clear hx HX
        go_wp2_with (at_builtin;refine wpList_append_own _ rfl (.tmp 127) (.tmp 130) 66 rfl w.heap.size 74 i0 (.agg #[.int .i64 0,.int .i64 0,.string ByteArray.empty,.int .i64 0]) 4 40 Tryz.underlying66 hi hz0 hz1 hz2 rfl (by decide) _ _ _ rfl (hown.alloc _) ⟨w'.heap.size,0,none⟩ 1 1 [.int .i64 5,.int .i64 k,.string ⟨#[]⟩,.int .i64 0] rfl rfl ?c1 ?c2 ?c3 ?c4 ?c5 ?_)
        case c1=>exact Zd4 rfl
        case c2=>intro u hu;simp at hu;rcases hu with rfl|rfl|rfl|rfl <;> rfl
        case c3=>unfold maxLen;omega
        case c4=>omega
        case c5=>simp;omega
        intro v' w3 hown3 hgrow _
        have HB3:Hid (Below w.heap.size w w3):=hid ((HB.alloc hsz _).grown hgrow (by simp;omega) (fun q hq=>(hown.lt q hq).1))
        have hown4:w3.ownsRow w.heap.size 74 4 v' (ps++[(⟨5,k,⟨#[]⟩,0⟩:PTok)]).length (Zbg (ps++[(⟨5,k,⟨#[]⟩,0⟩:PTok)])):=by
         rw[Zea,List.length_append];exact hown3
        clear hown3 hgrow hown
        go_wp2
        try rw[Exit.noGoto_ret]
        go_ret
        exact⟨_,_,rfl,Zg9 hown4,HD,HB3.out⟩
       ·rw[if_neg hm0]at HLX
        go_wp2_with fail
        refine(Zc8 _ _).mono ?_
        rintro e w' ⟨rfl,rfl⟩
        rw[HDG.out]
        go_wp2_with fail
        refine(ZdK _ _).mono ?_
        rintro e w' ⟨rfl,rfl⟩
        rw[HLG.out]
        go_wp2_with fail
        refine(Zot s k _ (by omega) hlt).mono ?_
        rintro e w' ⟨x,rfl,HX,rfl⟩
        have hx:bl x=m:=by rw[HX.out,<-HM.out]
        rw[<-hx]at HLX
        have HL2:Hid (Zb3 s (ps++[⟨3,k,x,0⟩]) (k+x.size)):=hid (by
         have:=HL.token (p:=⟨3,k,x,0⟩) HLX (by show ¬((4:Nat)=0∨(4:Nat)=5);decide) ⟨rfl,rfl,rfl,fun h=>by cases h⟩
         rwa [Zi]at this)
        have hx0:0<x.size:=by rw[<-Zi,hx];exact List.length_pos_iff.2 hm0
        have hxe:x.toList.isEmpty=false:=by
         rw[ZbH,hx]
         cases m with
         | nil=>exact absurd rfl hm0
         | cons=>rfl
        have hx2:=HL2.1
        clear hx HX HLX
        go_wp2_with (at_builtin;refine wpList_append_own _ rfl (.tmp 24) (.tmp 28) 66 rfl w.heap.size 74 i0 (.agg #[.int .i64 0,.int .i64 0,.string ByteArray.empty,.int .i64 0]) 4 40 Tryz.underlying66 hi hz0 hz1 hz2 rfl (by decide) _ _ _ rfl (hown.alloc _) ⟨w'.heap.size,0,none⟩ 1 1 [.int .i64 3,.int .i64 k,.string x,.int .i64 0] rfl rfl ?c1 ?c2 ?c3 ?c4 ?c5 ?_)
        case c1=>exact Zd4 rfl
        case c2=>intro u hu;simp at hu;rcases hu with rfl|rfl|rfl|rfl <;> rfl
        case c3=>unfold maxLen;omega
        case c4=>omega
        case c5=>simp;omega
        intro v' w3 hown3 hgrow _
        have HB3:Hid (Below w.heap.size w w3):=hid ((HB.alloc hsz _).grown hgrow (by simp;omega) (fun q hq=>(hown.lt q hq).1))
        have hown4:w3.ownsRow w.heap.size 74 4 v' (ps++[(⟨3,k,x,0⟩:PTok)]).length (Zbg (ps++[(⟨3,k,x,0⟩:PTok)])):=by
         rw[Zea,List.length_append];exact hown3
        clear hown3 hgrow hown
        go_wp2
        go_roundg (s.size - (k+x.size))
        case measure=>omega
        case rel=>exact⟨_,k+x.size,rfl,by first|rfl|go_num,HL2,hown4,HB3⟩
     ·obtain⟨E,hE⟩:∃E,E=k+run Zk ((bl s).drop k):=⟨_,rfl⟩
      have HRun:Hid (∀w,Calls Tryz.prog 45 #[.string s,.int .i64 k,.func (.func 47) #[] #[]] w fun e w'=>e=.returned (.int .i64 (E:Int))/\w'=w):=hid (fun w=>by rw[hE];exact Zxb s k w (by omega) hk)
      have hr1:0<run Zk ((bl s).drop k):=by rw[ZiD s k hlt hlg];omega
      have hr2:=ZfZ Zk ((bl s).drop k)
      rw[List.length_drop,Zi]at hr2
      have hE1:k<E:=by omega
      have hE2:E<=s.size:=by omega
      have HX:Hid (bl (s.extract k E)=((bl s).drop k).take (run Zk ((bl s).drop k))):=hid (by rw[ZgE,List.drop_take,hE];congr 1;omega)
      have HLX:=Zui hlt HDG.out hlg
      rw[<-HX.out,<-hE]at HLX
      have hsx:(s.extract k E).size=run Zk ((bl s).drop k):=by rw[Z7 HX.out,List.length_take,List.length_drop,Zi];omega
      have HNM:Hid (ZA (bl (s.extract k E))=decide (run Zk ((bl s).drop k)<=8)):=hid (by
       unfold ZA
       rw[HX.out,Zlj,List.length_take,List.length_drop,Zi]
       rw[Nat.min_eq_left (by omega)]
       by_cases h8:run Zk ((bl s).drop k)<=8
       ·simp[h8];omega
       ·simp[h8];omega)
      have hsx6:(s.extract k E).size<=6000:=by omega
      obtain⟨sx,hsxe⟩:∃sx,sx=s.extract k E:=⟨_,rfl⟩
      rw[<-hsxe]at HLX hsx6 HNM
      have HSX:Hid (sx=s.extract k E):=hsxe
      by_cases h8:8<run Zk ((bl s).drop k)
      ·rw[if_pos h8]at HLX
       have HD:Hid (ZbX (ps++[⟨5,k,⟨#[]⟩,0⟩]) (ZH (bl s) ((bl s).length+1) 0)):=hid (HL.done (t:=⟨5,[],k⟩) (e:=E) HLX (Or.inr rfl) ⟨rfl,rfl,rfl,fun h=>by cases h⟩)
       have HNF:Hid (ZA (bl sx)=false):=hid (by rw[HNM.out];exact decide_eq_false (by omega))
       clear HLX hE hsxe hr1 hr2 h8 hsx HX HNM
       go_wp2_with fail
       refine(Zc8 _ _).mono ?_
       rintro e w' ⟨rfl,rfl⟩
       rw[HDG.out]
       go_wp2_with fail
       refine(ZdK _ _).mono ?_
       rintro e w' ⟨rfl,rfl⟩
       rw[hlg]
       go_wp2_with fail
       refine(HRun.out _).mono ?_
       rintro e w' ⟨rfl,rfl⟩
       go_wp2_with fail
       rw[<-HSX.out]
       refine(ZlE sx _ hsx6).mono ?_
       rintro e w' ⟨rfl,rfl⟩
       rw[HNF.out]
       go_wp2_with (at_builtin;refine wpList_append_own _ rfl (.tmp 127) (.tmp 130) 66 rfl w.heap.size 74 i0 (.agg #[.int .i64 0,.int .i64 0,.string ByteArray.empty,.int .i64 0]) 4 40 Tryz.underlying66 hi hz0 hz1 hz2 rfl (by decide) _ _ _ rfl (hown.alloc _) ⟨w'.heap.size,0,none⟩ 1 1 [.int .i64 5,.int .i64 k,.string ⟨#[]⟩,.int .i64 0] rfl rfl ?c1 ?c2 ?c3 ?c4 ?c5 ?_)
       case c1=>exact Zd4 rfl
       case c2=>intro u hu;simp at hu;rcases hu with rfl|rfl|rfl|rfl <;> rfl
       case c3=>unfold maxLen;omega
       case c4=>omega
       case c5=>simp;omega
       intro v' w3 hown3 hgrow _
       have HB3:Hid (Below w.heap.size w w3):=hid ((HB.alloc hsz _).grown hgrow (by simp;omega) (fun q hq=>(hown.lt q hq).1))
       have hown4:w3.ownsRow w.heap.size 74 4 v' (ps++[(⟨5,k,⟨#[]⟩,0⟩:PTok)]).length (Zbg (ps++[(⟨5,k,⟨#[]⟩,0⟩:PTok)])):=by
        rw[Zea,List.length_append];exact hown3
       clear hown3 hgrow hown
       go_wp2
       try rw[Exit.noGoto_ret]
       go_ret
       exact⟨_,_,rfl,Zg9 hown4,HD,HB3.out⟩
      ·rw[if_neg h8]at HLX
       have HL2:Hid (Zb3 s (ps++[⟨1,k,sx,0⟩]) E):=HL.token (t:=⟨2,bl sx,k⟩) HLX (by show ¬((2:Nat)=0∨(2:Nat)=5);decide) ⟨rfl,rfl,rfl,fun h=>by cases h⟩
       have HNF:Hid (ZA (bl sx)=true):=hid (by rw[HNM.out];exact decide_eq_true (by omega))
       clear HLX hE hsxe hr1 hr2 h8 hsx HX HNM
       go_wp2_with fail
       refine(Zc8 _ _).mono ?_
       rintro e w' ⟨rfl,rfl⟩
       rw[HDG.out]
       go_wp2_with fail
       refine(ZdK _ _).mono ?_
       rintro e w' ⟨rfl,rfl⟩
       rw[hlg]
       go_wp2_with fail
       refine(HRun.out _).mono ?_
       rintro e w' ⟨rfl,rfl⟩
       go_wp2_with fail
       rw[<-HSX.out]
       refine(ZlE sx _ hsx6).mono ?_
       rintro e w' ⟨rfl,rfl⟩
       rw[HNF.out]
       go_wp2_with (at_builtin;refine wpList_append_own _ rfl (.tmp 78) (.tmp 85) 66 rfl w.heap.size 74 i0 (.agg #[.int .i64 0,.int .i64 0,.string ByteArray.empty,.int .i64 0]) 4 40 Tryz.underlying66 hi hz0 hz1 hz2 rfl (by decide) _ _ _ rfl (hown.alloc _) ⟨w'.heap.size,0,none⟩ 1 1 [.int .i64 1,.int .i64 k,.string (s.extract k E),.int .i64 0] rfl rfl ?c1 ?c2 ?c3 ?c4 ?c5 ?_)
       case c1=>exact Zd4 rfl
       case c2=>intro u hu;simp at hu;rcases hu with rfl|rfl|rfl|rfl <;> rfl
       case c3=>unfold maxLen;omega
       case c4=>omega
       case c5=>simp;omega
       intro v' w3 hown3 hgrow _
       have HB3:Hid (Below w.heap.size w w3):=hid ((HB.alloc hsz _).grown hgrow (by simp;omega) (fun q hq=>(hown.lt q hq).1))
       have hown4:w3.ownsRow w.heap.size 74 4 v' (ps++[(⟨1,k,sx,0⟩:PTok)]).length (Zbg (ps++[(⟨1,k,sx,0⟩:PTok)])):=by
        rw[Zea,List.length_append,HSX.out];exact hown3
       clear hown3 hgrow hown
       go_wp2
       go_roundg (s.size - E)
       case measure=>omega
       case rel=>exact⟨_,E,rfl,by first|rfl|go_num,HL2,hown4,HB3⟩
    ·obtain⟨E,hE⟩:∃E,E=k+run Zt ((bl s).drop k):=⟨_,rfl⟩
     have HRun:Hid (∀w,Calls Tryz.prog 45 #[.string s,.int .i64 k,.func (.func 44) #[] #[]] w fun e w'=>e=.returned (.int .i64 (E:Int))/\w'=w):=hid (fun w=>by rw[hE];exact Zxa s k w (by omega) hk)
     have hr1:0<run Zt ((bl s).drop k):=by rw[ZiD s k hlt hdg];omega
     have hr2:=ZfZ Zt ((bl s).drop k)
     rw[List.length_drop,Zi]at hr2
     have hE1:k<E:=by omega
     have hE2:E<=s.size:=by omega
     have HX:Hid (bl (s.extract k E)=((bl s).drop k).take (run Zt ((bl s).drop k))):=hid (by rw[ZgE,List.drop_take,hE];congr 1;omega)
     have HLX:=Zuh hlt hdg
     rw[<-HX.out,<-hE]at HLX
     have hsx:(s.extract k E).size<=6000:=by simp;omega
     obtain⟨sx,hsxe⟩:∃sx,sx=s.extract k E:=⟨_,rfl⟩
     rw[<-hsxe]at HLX hsx
     have HSX:Hid (sx=s.extract k E):=hsxe
     cases hnum:ZL 1000000000 (bl sx)with
     | none=>
      rw[hnum]at HLX
      have HD:Hid (ZbX (ps++[⟨5,k,⟨#[]⟩,0⟩]) (ZH (bl s) ((bl s).length+1) 0)):=hid (HL.done (t:=⟨5,[],k⟩) (e:=E) HLX (Or.inr rfl) ⟨rfl,rfl,rfl,fun h=>by cases h⟩)
      have HNT:Hid (numT 1000000000 (bl sx)=.tuple #[.int .i64 0,.bool false]):=ZfP hnum
      clear hnum HLX hE hsxe hr1 hr2
      go_wp2_with fail
      refine(Zc8 _ _).mono ?_
      rintro e w' ⟨rfl,rfl⟩
      rw[hdg]
      go_wp2_with fail
      refine(HRun.out _).mono ?_
      rintro e w' ⟨rfl,rfl⟩
      go_wp2_with fail
      rw[<-HSX.out]
      refine(Zi0 sx 1000000000 _ hsx (by decide) (by decide)).mono ?_
      rintro e w' ⟨rfl,rfl⟩
      rw[HNT.out]
      go_wp2_with (at_builtin;refine wpList_append_own _ rfl (.tmp 127) (.tmp 130) 66 rfl w.heap.size 74 i0 (.agg #[.int .i64 0,.int .i64 0,.string ByteArray.empty,.int .i64 0]) 4 40 Tryz.underlying66 hi hz0 hz1 hz2 rfl (by decide) _ _ _ rfl (hown.alloc _) ⟨w'.heap.size,0,none⟩ 1 1 [.int .i64 5,.int .i64 k,.string ⟨#[]⟩,.int .i64 0] rfl rfl ?c1 ?c2 ?c3 ?c4 ?c5 ?_)
      case c1=>exact Zd4 rfl
      case c2=>intro u hu;simp at hu;rcases hu with rfl|rfl|rfl|rfl <;> rfl
      case c3=>unfold maxLen;omega
      case c4=>omega
      case c5=>simp;omega
      intro v' w3 hown3 hgrow _
      have HB3:Hid (Below w.heap.size w w3):=hid ((HB.alloc hsz _).grown hgrow (by simp;omega) (fun q hq=>(hown.lt q hq).1))
      have hown4:w3.ownsRow w.heap.size 74 4 v' (ps++[(⟨5,k,⟨#[]⟩,0⟩:PTok)]).length (Zbg (ps++[(⟨5,k,⟨#[]⟩,0⟩:PTok)])):=by
       rw[Zea,List.length_append];exact hown3
      clear hown3 hgrow hown
      go_wp2
      try rw[Exit.noGoto_ret]
      go_ret
      exact⟨_,_,rfl,Zg9 hown4,HD,HB3.out⟩
     | some v=>
      rw[hnum]at HLX
      have HL2:Hid (Zb3 s (ps++[⟨0,k,sx,v⟩]) E):=HL.token (t:=⟨1,bl sx,k⟩) HLX (by show ¬((1:Nat)=0∨(1:Nat)=5);decide) ⟨rfl,rfl,rfl,fun _=>by unfold numV;rw[hnum];rfl⟩
      have HNT:Hid (numT 1000000000 (bl sx)=.tuple #[.int .i64 v,.bool true]):=ZkL hnum
      clear hnum HLX hE hsxe hr1 hr2
      go_wp2_with fail
      refine(Zc8 _ _).mono ?_
      rintro e w' ⟨rfl,rfl⟩
      rw[hdg]
      go_wp2_with fail
      refine(HRun.out _).mono ?_
      rintro e w' ⟨rfl,rfl⟩
      go_wp2_with fail
      rw[<-HSX.out]
      refine(Zi0 sx 1000000000 _ hsx (by decide) (by decide)).mono ?_
      rintro e w' ⟨rfl,rfl⟩
      rw[HNT.out]
      go_wp2_with (at_builtin;refine wpList_append_own _ rfl (.tmp 55) (.tmp 63) 66 rfl w.heap.size 74 i0 (.agg #[.int .i64 0,.int .i64 0,.string ByteArray.empty,.int .i64 0]) 4 40 Tryz.underlying66 hi hz0 hz1 hz2 rfl (by decide) _ _ _ rfl (hown.alloc _) ⟨w'.heap.size,0,none⟩ 1 1 [.int .i64 0,.int .i64 k,.string (s.extract k E),.int .i64 v] rfl rfl ?c1 ?c2 ?c3 ?c4 ?c5 ?_)
      case c1=>exact Zd4 rfl
      case c2=>intro u hu;simp at hu;rcases hu with rfl|rfl|rfl|rfl <;> rfl
      case c3=>unfold maxLen;omega
      case c4=>omega
      case c5=>simp;omega
      intro v' w3 hown3 hgrow _
      have HB3:Hid (Below w.heap.size w w3):=hid ((HB.alloc hsz _).grown hgrow (by simp;omega) (fun q hq=>(hown.lt q hq).1))
      have hown4:w3.ownsRow w.heap.size 74 4 v' (ps++[(⟨0,k,sx,v⟩:PTok)]).length (Zbg (ps++[(⟨0,k,sx,v⟩:PTok)])):=by
       rw[Zea,List.length_append,HSX.out];exact hown3
      clear hown3 hgrow hown
      go_wp2
      go_roundg (s.size - E)
      case measure=>omega
      case rel=>exact⟨_,E,rfl,by first|rfl|go_num,HL2,hown4,HB3⟩
  ·have hke:k=s.size:=by omega
   have HD:Hid (ZbX (ps++[⟨4,k,⟨#[]⟩,0⟩]) (ZH (bl s) ((bl s).length+1) 0)):=hid (by
    exact HL.done (t:=⟨0,[],s.size⟩) (e:=s.size) (by rw[hke];exact Zof s) (Or.inl rfl) ⟨rfl,hke,rfl,fun h=>by cases h⟩)
   clear hke
   go_wp2_with (at_builtin;refine wpList_append_own _ rfl (.tmp 132) (.tmp 135) 66 rfl w.heap.size 74 i0 (.agg #[.int .i64 0,.int .i64 0,.string ByteArray.empty,.int .i64 0]) 4 40 Tryz.underlying66 hi hz0 hz1 hz2 rfl (by decide) _ _ _ rfl (hown.alloc _) ⟨wr.heap.size,0,none⟩ 1 1 [.int .i64 4,.int .i64 k,.string ⟨#[]⟩,.int .i64 0] rfl rfl ?c1 ?c2 ?c3 ?c4 ?c5 ?_)
   case c1=>exact Zd4 rfl
   case c2=>intro u hu;simp at hu;rcases hu with rfl|rfl|rfl|rfl <;> rfl
   case c3=>unfold maxLen;omega
   case c4=>omega
   case c5=>simp;omega
   intro v' w3 hown3 hgrow _
   have HB3:Hid (Below w.heap.size w w3):=hid ((HB.alloc hsz _).grown hgrow (by simp;omega) (fun q hq=>(hown.lt q hq).1))
   have HO3:Hid (w3.ownsRow 0 74 4 v' (ps++[(⟨4,k,⟨#[]⟩,0⟩:PTok)]).length (Zbg (ps++[(⟨4,k,⟨#[]⟩,0⟩:PTok)]))):=hid (by
    rw[Zea,List.length_append]
    refine⟨hown3.1,?_⟩
    rcases hown3.2 with h2|⟨g,cap,cur,h,_,r⟩
    ·exact Or.inl h2
    ·exact Or.inr ⟨g,cap,cur,h,Nat.zero_le _,r⟩)
   clear hown3 hgrow hown
   go_wp2
   try rw[Exit.noGoto_ret]
   go_ret
   exact⟨_,_,rfl,HO3.out,HD,HB3.out⟩
end Go.Proofs.YtcdgkkfipdoeeaaGreatDoor
