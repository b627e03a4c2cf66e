/- Parts. -/
import Derived.Test.YtcdgkkfipdoeeaaGreatDoorT00
import Derived.Lib.SplitLaws
import Derived.Lib.IndexMore
import Derived.Test.YtcdgkkfipdoeeaaGreatDoorTX
import Derived.Deep.Onto
set_option maxHeartbeats 2000000
set_option maxRecDepth 100000
namespace Go.Proofs.YtcdgkkfipdoeeaaGreatDoor.LS
open Go Go.RowKit
theorem ZhX (c : UInt8) (l : List UInt8) : Lib.index l [c] = match seek c l with | none => -1 | some i => (i : Int) := by
  induction l with
  | nil=>rfl
  | cons b l ih=>
    unfold Lib.index seek
    by_cases hb:b=c
    · subst hb;simp[List.isPrefixOf]
    · have h1:[c].isPrefixOf (b::l)=false:=by simp[List.isPrefixOf,Ne.symm hb]
      have h2:(b == c)=false:=by simp[hb]
      rw[if_neg (by simp[h1]),ih,h2]
      cases seek c l with
      | none=>rfl
      | some i=>
        have h3:¬(((i:Int) == -1)=true):=by simp
        simp only[Bool.false_eq_true,if_false,Option.map_some]
        rw[if_neg h3];rfl
theorem ZuA{c:UInt8}{l x y:List UInt8}(h:cut c l=some (x,y)):Lib.cut l [c]=(x,y,true):=by
 unfold cut at h
 cases hs:seek c l with
 | none=>rw[hs]at h;cases h
 | some i=>
  rw[hs]at h
  simp only[Option.map_some,Option.some.injEq,Prod.mk.injEq]at h
  unfold Lib.cut
  rw[ZhX,hs]
  simp only[List.length_singleton,Int.toNat_natCast]
  rw[if_pos (by omega),h.1,h.2]
theorem Zuz{c:UInt8}{l:List UInt8}(h:cut c l=none):Lib.cut l [c]=(l,[],false):=by
 unfold cut at h
 cases hs:seek c l with
 | some i=>rw[hs]at h;cases h
 | none=>
  unfold Lib.cut
  rw[ZhX,hs]
  rfl
theorem Zdh{c:UInt8}{l x y:List UInt8}(h:cut c l=some (x,y)):l=x++c::y/\c∉x:=by
 unfold cut at h
 cases hs:seek c l with
 | none=>rw[hs]at h;cases h
 | some i=>
  rw[hs]at h
  simp only[Option.map_some,Option.some.injEq,Prod.mk.injEq]at h
  obtain⟨a,b,rfl,rfl,hn⟩:=ZiG hs
  have e1:x=a:=by rw[<-h.1];simp
  have e2:y=b:=by rw[<-h.2];simp
  subst e1;subst e2
  exact⟨rfl,hn⟩
theorem ZmF{c:UInt8}{x y:List UInt8}(h:c∉x):cut c (x++c::y)=some (x,y):=by
 unfold cut;rw[Zf0 c x y h];simp
theorem ZxZ(c:UInt8):∀(n:Nat) (l:List UInt8),l.length<=n->Lib.splitK [c] 0 (Lib.count l [c]) l=split c l:=by
 intro n
 induction n with
 | zero=>
  intro l hl
  obtain rfl:l=[]:=List.length_eq_zero_iff.1 (by omega)
  rw[Lib.count_miss rfl];rfl
 | succ n ih=>
  intro l hl
  cases hs:seek c l with
  | none=>
   rw[Lib.count_miss (by rw[ZhX,hs])]
   have hn:=(Zln c l).1 hs
   have:=ZiM c l [] hn
   rw[List.append_nil]at this
   rw[this];simp[Lib.splitK,split,pre]
  | some i=>
   obtain⟨a,b,rfl,rfl,hn⟩:=ZiG hs
   have hi:Lib.index (a++c::b) [c]=(a.length:Int):=by rw[ZhX,hs]
   rw[Lib.count_hit (by simp) hi]
   have e1:(a++c::b).drop (a.length + [c].length)=b:=by simp
   rw[e1,Nat.add_comm,Lib.splitK,if_neg (by rw[hi];simp),hi]
   rw[show((a.length:Int)).toNat=a.length by omega,e1,ih b (by simp at hl;omega),ZiM c a _ hn,Zhf]
   simp[pre]
def Zbi(c:UInt8):List UInt8->List UInt8×Bool
 | []=>([],false)
 | b::t=>if b == c then (t,true)else (b::t,false)
theorem ZuB(c:UInt8)(l:List UInt8):(Lib.trimPrefix l [c],Lib.hasPrefix l [c])=Zbi c l:=by
 cases l with
 | nil=>rfl
 | cons b t=>
  by_cases hb:b=c
  ·subst hb;simp[Lib.trimPrefix,Lib.hasPrefix,Zbi]
  ·have h1:[c].isPrefixOf (b::t)=false:=by simp[List.isPrefixOf,Ne.symm hb]
   simp[Lib.trimPrefix,Lib.hasPrefix,Zbi,hb,h1]
theorem Zlx(c:UInt8)(l:List UInt8):(Zbi c l).1.length<=l.length:=by
 cases l with
 | nil=>simp[Zbi]
 | cons b t=>by_cases h:(b == c)=true <;> simp[Zbi,h]
def Zcw(d:List UInt8):Bool:=match ZL 1000000000 (Zbi 45 d).1 with
 | none=>false
 | some v=>!((Zbi 45 d).2 && v == 0)
def ZcT(t:List UInt8):Option Nat:=match cut 58 t with
 | none=>none
 | some (a, d) => match ZL 1000000 a with
   | none=>none
   | some tm=>if Zcw d then some tm else none
def ZbP:Int->Nat->List (List UInt8)->Option Nat
 | _,n,[]=>some n
 | last, n, x :: xs => match ZcT x with
   | none=>none
   | some t=>if (t:Int)<=last then none else ZbP t (n+1) xs
def Zca(l:List UInt8):Option Nat:=match Zbi 32 l with
 | (r,f)=>if l=[] then some 0 else if f then ZbP (-1) 0 (split 32 r)else none
def leS(a b:List UInt8):Bool:=Op.bytesLess a b || a == b
def ZdN(last:List UInt8)(x:List UInt8):Option (List UInt8×List UInt8):=match cut 61 x with
 | none=>none
 | some (n,v)=>if ZA n && ZS v && !v.isEmpty && !leS n last then some (n,v)else none
def Zbw:List UInt8->List (List UInt8×List UInt8)->List (List UInt8)->Option (List (List UInt8×List UInt8))
 | _,acc,[]=>some acc
 | last, acc, x :: xs => match ZdN last x with
   | none=>none
   | some p=>Zbw p.1 (acc++[p]) xs
def ZbV(l:List UInt8):Option (List (List UInt8×List UInt8)):=if l=[] then some [] else Zbw [] [] (split 44 l)
def line(l:List UInt8):Option (List UInt8×List UInt8×Nat):=match cut 123 l with
 | none=>none
 | some (name, rest) => match cut 125 rest with
   | none=>none
   | some (inside,behind)=>if ZA name && (ZbV inside).isSome then (Zca behind).map (fun n=>(name,inside,n))else none
theorem Zij{l:List UInt8}(h:cut 123 l=none):line l=none:=by unfold line;rw[h]
theorem Zii{l name rest:List UInt8}(h:cut 123 l=some (name,rest))(h2:cut 125 rest=none):line l=none:=by unfold line;rw[h];simp only[h2]
theorem Zik{l name rest inside behind:List UInt8}(h:cut 123 l=some (name,rest))(h2:cut 125 rest=some (inside,behind)) :
  line l=if ZA name && (ZbV inside).isSome then (Zca behind).map (fun n=>(name,inside,n))else none:=by unfold line;rw[h];simp only[h2]
structure Entry where
 at_:Nat
 name:List UInt8
 inside:List UInt8
 count:Nat
def Z8:Nat->List Entry->List (List UInt8)->Nat ⊕ List Entry
 | _,acc,[]=>.inr acc
 | i, acc, x :: xs => if x = [] then Z8 (i + 1) acc xs else match line x with
   | none=>.inl i
   | some (a,b,n)=>Z8 (i+1) (acc++[⟨i,a,b,n⟩]) xs
theorem ZuK{i:Nat}{acc:List Entry}{ps:List (List UInt8)}(hk:i<ps.length)(h:ps.getD i []=[]):Z8 i acc (ps.drop i)=Z8 (i+1) acc (ps.drop (i+1)):=by
 have e:ps.getD i []=ps[i]:=by simp[hk]
 rw[List.drop_eq_getElem_cons hk,Z8,<-e,if_pos h]
theorem ZuI{i:Nat}{acc:List Entry}{ps:List (List UInt8)}(hk:i<ps.length)(h:ps.getD i []≠[])(hl:line (ps.getD i [])=none):Z8 i acc (ps.drop i)=.inl i:=by
 have e:ps.getD i []=ps[i]:=by simp[hk]
 rw[List.drop_eq_getElem_cons hk,Z8,<-e,if_neg h,hl]
theorem ZuJ{i:Nat}{acc:List Entry}{ps:List (List UInt8)}(hk:i<ps.length)(h:ps.getD i []≠[]){a b:List UInt8}{n:Nat}(hl:line (ps.getD i [])=some (a,b,n)) :
  Z8 i acc (ps.drop i)=Z8 (i+1) (acc++[⟨i,a,b,n⟩]) (ps.drop (i+1)):=by
 have e:ps.getD i []=ps[i]:=by simp[hk]
 rw[List.drop_eq_getElem_cons hk,Z8,<-e,if_neg h,hl]
theorem ZuL{i:Nat}{acc:List Entry}{ps:List (List UInt8)}(hk:¬i<ps.length):Z8 i acc (ps.drop i)=.inr acc:=by
 rw[List.drop_of_length_le (by omega)];rfl
end Go.Proofs.YtcdgkkfipdoeeaaGreatDoor.LS
namespace Go.Proofs.YtcdgkkfipdoeeaaGreatDoor
open Go.RowKit LS
theorem Zse{c:UInt8}{s:ByteArray}{x y:List UInt8}(m:Int)(w:World)(hs:s.size<=70000)(hm:w.cell? ⟨14,0,none⟩=some (.int .i64 m))(h:cut c (bl s)=some (x,y)) :
  Calls Tryz.prog 150 #[.string s,.string ⟨#[c]⟩] w fun e w'=>∃a b:ByteArray,e=.returned (.tuple #[.string a,.string b,.bool true])/\Hid (bl a=x/\bl b=y)/\∃n,w'=w.drewN n:=by
 refine(Tryz.strings_Cut s ⟨#[c]⟩ m w (by omega) hm).mono ?_
 rintro e w' ⟨rfl,hw⟩
 have e1:Lib.cut s.data.toList (⟨#[c]⟩:ByteArray).data.toList=(x,y,true):=ZuA h
 rw[e1]
 exact⟨_,_,rfl,⟨Zbv x,Zbv y⟩,hw⟩
theorem Zd6{c:UInt8}{s:ByteArray}{x y:List UInt8}(m:Int)(w:World)(hs:s.size<=6000)(hm:w.cell? ⟨14,0,none⟩=some (.int .i64 m))(h:cut c (bl s)=some (x,y)) :
  Calls Tryz.prog 150 #[.string s,.string ⟨#[c]⟩] w fun e w'=>∃a b:ByteArray,e=.returned (.tuple #[.string a,.string b,.bool true])/\Hid (bl a=x/\bl b=y)/\∃n,w'=w.drewN n:=Zse m w (by omega) hm h
theorem Zsf{c:UInt8}{s:ByteArray}(m:Int)(w:World)(hs:s.size<=70000)(hm:w.cell? ⟨14,0,none⟩=some (.int .i64 m))(h:cut c (bl s)=none) :
  Calls Tryz.prog 150 #[.string s,.string ⟨#[c]⟩] w fun e w'=>∃a b:ByteArray,e=.returned (.tuple #[.string a,.string b,.bool false])/\Hid (bl a=bl s/\bl b=[])/\∃n,w'=w.drewN n:=by
 refine(Tryz.strings_Cut s ⟨#[c]⟩ m w (by omega) hm).mono ?_
 rintro e w' ⟨rfl,hw⟩
 have e1:Lib.cut s.data.toList (⟨#[c]⟩:ByteArray).data.toList=(bl s,[],false):=Zuz h
 rw[e1]
 exact⟨_,_,rfl,⟨Zbv _,Zbv _⟩,hw⟩
theorem ZfB{c:UInt8}{s:ByteArray}(m:Int)(w:World)(hs:s.size<=6000)(hm:w.cell? ⟨14,0,none⟩=some (.int .i64 m))(h:cut c (bl s)=none) :
  Calls Tryz.prog 150 #[.string s,.string ⟨#[c]⟩] w fun e w'=>∃a b:ByteArray,e=.returned (.tuple #[.string a,.string b,.bool false])/\Hid (bl a=bl s/\bl b=[])/\∃n,w'=w.drewN n:=Zsf m w (by omega) hm h
theorem Zsc(c:UInt8)(s:ByteArray)(w:World) :
  Calls Tryz.prog 226 #[.string s,.string ⟨#[c]⟩] w fun e w'=>∃a:ByteArray,e=.returned (.tuple #[.string a,.bool (Zbi c (bl s)).2])/\Hid (bl a=(Zbi c (bl s)).1)/\w'=w:=by
 refine(Tryz.strings_CutPrefix s ⟨#[c]⟩ w).mono ?_
 rintro e w' ⟨rfl,hw⟩
 have e1:=ZuB c (bl s)
 rw[<-e1]
 exact⟨_,rfl,Zbv _,hw⟩
def Zfa(w:World)(g:Nat)(ps:List (List UInt8)):Prop:=g<w.heap.size/\∀i,i<ps.length->∃s:ByteArray,w.cell? ⟨g,i,none⟩=some (.string s)/\bl s=ps.getD i []
theorem Zfa.below{w w':World}{g:Nat}{ps:List (List UInt8)}{B:Nat}(h:Zfa w g ps)(hb:Below B w w')(hB:g<B):Zfa w' g ps:=
 ⟨Nat.lt_of_lt_of_le h.1 hb.size, fun i hi => by
   obtain⟨s,h1,h2⟩:=h.2 i hi
   exact⟨s,(hb.cell (p:=⟨g,i,none⟩) hB).trans h1,h2⟩⟩
theorem Zx0(c:UInt8)(s:ByteArray)(m:Int)(w:World)(hs:s.size<=70000)(hm:w.cell? ⟨14,0,none⟩=some (.int .i64 m)) :
  Calls Tryz.prog 86 #[.string s,.string ⟨#[c]⟩] w fun e w'=>
   ∃n,e=.returned (.slice (some ⟨w.heap.size,0,none⟩) n n)/\n=(split c (bl s)).length/\Zfa w' w.heap.size (split c (bl s))/\Below w.heap.size w w':=by
 refine(Tryz.strings_Split s ⟨#[c]⟩ m w (by omega) hm (Nat.le_refl 1)).mono ?_
 rintro e w' ⟨rfl,rfl⟩
 have hd:(Lib.splitB ⟨#[c]⟩ 0 (Lib.countB s ⟨#[c]⟩) s).map bl=split c (bl s):=by
  refine(Lib.splitB_data ⟨#[c]⟩ 0 (Lib.countB s ⟨#[c]⟩) s).trans ?_
  exact ZxZ c _ (bl s) (Nat.le_refl _)
 have hl:(Lib.splitB ⟨#[c]⟩ 0 (Lib.countB s ⟨#[c]⟩) s).length=Lib.countB s ⟨#[c]⟩+1:=Lib.splitB_all ⟨#[c]⟩ (Nat.le_refl 1) 0 _ s rfl
 have hl2:(split c (bl s)).length=Lib.countB s ⟨#[c]⟩+1:=by rw[<-hd,List.length_map,hl]
 refine⟨_,rfl,hl2.symm,⟨by simp,fun i hi=>?_⟩,Zbal⟩
 have hi2:i<(Lib.splitB ⟨#[c]⟩ 0 (Lib.countB s ⟨#[c]⟩) s).length:=by rw[hl,<-hl2];exact hi
 refine⟨(Lib.splitB ⟨#[c]⟩ 0 (Lib.countB s ⟨#[c]⟩) s)[i],?_,?_⟩
 ·rw[World.cell?_alloc_at _ _ _ _ rfl]
  simp[hi2]
 ·rw[<-hd];simp[hi2]
theorem Zlu(c:UInt8)(s:ByteArray)(m:Int)(w:World)(hs:s.size<=6000)(hm:w.cell? ⟨14,0,none⟩=some (.int .i64 m)) :
  Calls Tryz.prog 86 #[.string s,.string ⟨#[c]⟩] w fun e w'=>
   ∃n,e=.returned (.slice (some ⟨w.heap.size,0,none⟩) n n)/\n=(split c (bl s)).length/\Zfa w' w.heap.size (split c (bl s))/\Below w.heap.size w w':=Zx0 c s m w (by omega) hm
theorem ZoJ(most:Nat)(l:List UInt8) : -1<=numI most l/\numI most l<=most:=by
 cases h:ZL most l with
 | none=>rw[ZoK h];omega
 | some v=>rw[ZfO h];have:=ZfQ h;omega
def Zb8:List (Int×Int)->List Value
 | []=>[]
 | x::l=>.int .i64 x.1::.int .i64 x.2::Zb8 l
theorem ZsR(l m:List (Int×Int)):Zb8 (l++m)=Zb8 l++Zb8 m:=by
 induction l with
 | nil=>rfl
 | cons a l ih=>simp[Zb8,ih]
theorem ZsS (l : List (Int × Int)) (j : Nat) : (Zb8 l)[j * 2]? = l[j]?.map (fun x => .int .i64 x.1) /\ (Zb8 l)[j * 2 + 1]? = l[j]?.map (fun x => .int .i64 x.2) := by
  induction l generalizing j with
  | nil=>simp[Zb8]
  | cons r l ih=>
    cases j with
    | zero=>simp[Zb8]
    | succ j=>
      obtain⟨h1,h2⟩:=ih j
      refine⟨?_,?_⟩
      · rw[show(j+1)*2=j*2+1+1 by omega];simpa [Zb8] using h1
      · rw[show(j+1)*2+1=j*2+1+1+1 by omega];simpa [Zb8] using h2
def smOk(x:Int×Int):Prop:=-1000000<=x.1/\x.1<=1000000/\-1000000000<=x.2/\x.2<=1000000000
def valI(d:List UInt8):Int:=match Zbi 45 d with
 | (d',less)=>if less then -(numI 1000000000 d')else numI 1000000000 d'
def smV(x:List UInt8):Int×Int:=match cut 58 x with
 | none=>(0,0)
 | some (a,d)=>(numI 1000000 a,valI d)
def ZdS:List UInt8->List (Int×Int)
 | []=>[]
 | _::t=>(split 32 t).map smV
theorem ZxP(x:List UInt8):smOk (smV x):=by
 unfold smV
 split
 ·unfold smOk;decide
 ·rename_i a d _
  have h1:=ZoJ 1000000 a
  unfold valI
  cases hd:Zbi 45 d with
  | mk d' less=>
   have h2:=ZoJ 1000000000 d'
   unfold smOk
   cases less
   ·simp only[Bool.false_eq_true,if_false];omega
   ·simp only[if_true];omega
theorem ZsT{l:List (List UInt8)}{k:Nat}(hk:k<l.length){x:List UInt8}(hx:x=l.getD k []){t v:Int}(hs:smV x=(t,v)):Zb8 ((l.map smV).take (k+1))=Zb8 ((l.map smV).take k)++[.int .i64 t,.int .i64 v]:=by
 have e:l[k]=x:=by rw[hx,List.getD_eq_getElem?_getD,List.getElem?_eq_getElem hk];rfl
 rw[<-List.map_take,<-List.map_take,List.take_succ_eq_append_getElem hk,List.map_append,ZsR,List.map_singleton,e,hs]
 rfl
def ZcU(l:List UInt8):List (Int×Int):=match LS.seek 125 l with
 | some b=>ZdS (l.drop (b+1))
 | none=>[]
theorem Zpm{l x r y z:List UInt8}(hn:ZA x=true)(h1:cut 123 l=some (x,r))(h2:cut 125 r=some (y,z)):ZcU l=ZdS z:=by
 obtain⟨e1,n1⟩:=Zdh h1
 obtain⟨e2,n2⟩:=Zdh h2
 have hx:(125:UInt8)∉x:=by
  intro hm
  unfold ZA at hn
  rw[Bool.and_eq_true]at hn
  have:=List.all_eq_true.1 hn.1 _ hm
  exact absurd this (by decide)
 have hl:l=(x++123::y)++125::z:=by rw[e1,e2];simp
 have hs:LS.seek 125 l=some (x++123::y).length:=by
  rw[hl]
  refine Zf0 125 _ z ?_
  rw[List.mem_append,List.mem_cons]
  rintro(h|h|h)
  ·exact hx h
  ·exact absurd h (by decide)
  ·exact n2 h
 unfold ZcU
 rw[hs,hl]
 simp only
 congr 1
 rw[show(x++123::y)++125::z=((x++123::y)++[125])++z by simp,List.drop_append_of_le_length (by simp;omega),List.drop_of_length_le (by simp;omega)]
 rfl
theorem ZzD{d:List UInt8}(h:ZL 1000000000 (Zbi 45 d).1=none):Zcw d=false:=by unfold Zcw;rw[h]
theorem ZzE{d:List UInt8}{v:Nat}(h:ZL 1000000000 (Zbi 45 d).1=some v):Zcw d=!((Zbi 45 d).2 && v == 0):=by unfold Zcw;rw[h]
theorem Zp9{r:List UInt8}(s:ByteArray)(most:Nat)(mi:Int)(w:World)(hmi:mi=most)(hs:s.size<=6000)(hm9:9<=most)(hm:most<=1000000000)(hr:bl s=r)(hn:ZL most r=none) :
  Calls Tryz.prog 46 #[.string s,.int .i64 mi] w fun e w'=>e=.returned (.tuple #[.int .i64 0,.bool false])/\w'=w:=by
 subst hmi;subst hr
 have:=Zi0 s most w hs hm9 hm
 rwa [ZfP hn]at this
theorem Zqa{r:List UInt8}{v:Nat}(s:ByteArray)(most:Nat)(mi:Int)(w:World)(hmi:mi=most)(hs:s.size<=6000)(hm9:9<=most)(hm:most<=1000000000)(hr:bl s=r)(hn:ZL most r=some v) :
  Calls Tryz.prog 46 #[.string s,.int .i64 mi] w fun e w'=>e=.returned (.tuple #[.int .i64 v,.bool true])/\w'=w:=by
 subst hmi;subst hr
 have:=Zi0 s most w hs hm9 hm
 rwa [ZkL hn]at this
theorem ZhF{c:UInt8}{s:ByteArray}{r:List UInt8}{f:Bool}(w:World)(h:Zbi c (bl s)=(r,f)) :
  Calls Tryz.prog 226 #[.string s,.string ⟨#[c]⟩] w fun e w'=>∃a:ByteArray,e=.returned (.tuple #[.string a,.bool f])/\Hid (bl a=r)/\w'=w:=by
 have:=Zsc c s w
 rwa [h]at this
theorem Zzw{d d':List UInt8}{less:Bool}{v:Int}(hst:Zbi 45 d=(d',less))(hv:numI 1000000000 d'=v):valI d=if less then -v else v:=by
 unfold valI;rw[hst];simp only[hv]
theorem ZwX(s:ByteArray)(w:World)(hs:s.size<=6000) :
  Calls Tryz.prog 253 #[.string s] w fun e w'=>∃v:Int,e=.returned (.tuple #[.int .i64 v,.bool (Zcw (bl s))])/\w'=w/\Hid (Zcw (bl s)=true->v=valI (bl s)):=by
 have hl:(Zbi 45 (bl s)).1.length<=s.size:=by rw[<-Zi];exact Zlx 45 (bl s)
 have hVn:=@ZzD (bl s)
 have hVs:=@ZzE (bl s)
 generalize hst:Zbi 45 (bl s)=st at *
 obtain⟨r,f⟩:=st
 have Hst:Hid (Zbi 45 (bl s)=(r,f)):=hst
 clear hst
 simp only at hl hVn hVs
 cases hn:ZL 1000000000 r with
 | none=>
  have HV:Hid (Zcw (bl s)=false):=hVn hn
  have HN:Hid (ZL 1000000000 r=none):=hn
  clear hn hVn hVs
  cases f <;>
  ·go_enter Tryz.func253,Tryz.ntmps253
   go_wp2_with fail
   refine(ZhF _ Hst.out).mono ?_
   rintro e w' ⟨a,rfl,ha,rfl⟩
   have hsa:a.size<=6000:=by rw[Z7 ha.out];omega
   go_wp2_with fail
   refine(Zp9 a 1000000000 _ _ rfl hsa (by omega) (by omega) ha.out HN.out).mono ?_
   rintro e w' ⟨rfl,rfl⟩
   go_wp2
   go_ret2
   exact⟨_,by rw[HV.out];rfl,rfl,hid (fun h=>by rw[HV.out]at h;cases h)⟩
 | some v=>
  have hv:=ZfQ hn
  have HN:Hid (ZL 1000000000 r=some v):=hn
  have hV:=hVs hn
  clear hn hVn hVs
  have hcase:(f=false/\Zcw (bl s)=true)∨(f=true/\((v:Int) != 0)=true/\Zcw (bl s)=true)∨(f=true/\((v:Int) != 0)=false/\Zcw (bl s)=false):=by
   cases f
   ·exact Or.inl ⟨rfl,by simpa using hV⟩
   ·by_cases hz:v=0
    ·subst hz;exact Or.inr (Or.inr ⟨rfl,rfl,by simpa using hV⟩)
    ·exact Or.inr (Or.inl ⟨rfl,by simp;omega,by rw[hV];simp[hz]⟩)
  clear hV
  rcases hcase with ⟨rfl,hV⟩|⟨rfl,hb,hV⟩|⟨rfl,hb,hV⟩
  all_goals
   have HV:Hid (Zcw (bl s)=_):=hV
   have HVI:=hid (Zzw Hst.out (ZfO HN.out)).symm
   clear hV
   go_enter Tryz.func253,Tryz.ntmps253
   go_wp2_with fail
   refine(ZhF _ Hst.out).mono ?_
   rintro e w' ⟨a,rfl,ha,rfl⟩
   have hsa:a.size<=6000:=by rw[Z7 ha.out];omega
   go_wp2_with fail
   refine(Zqa a 1000000000 _ _ rfl hsa (by omega) (by omega) ha.out HN.out).mono ?_
   rintro e w' ⟨rfl,rfl⟩
   go_wp2
   go_ret2
   exact⟨_,by rw[HV.out];rfl,rfl,hid (fun h=>by first|(rw[HV.out]at h;cases h;done)|exact HVI.out)⟩
def Zht(l:List UInt8)(tm v:Int)(ok:Bool):Prop:=(ok=true/\∃t:Nat,ZcT l=some t/\tm=t/\t<=1000000/\smV l=(tm,v))∨(ok=false/\ZcT l=none)
theorem ZwT(s:ByteArray)(m:Int)(w:World)(hs:s.size<=6000)(hm:w.cell? ⟨14,0,none⟩=some (.int .i64 m)) :
  Calls Tryz.prog 227 #[.string s] w fun e w'=>∃(tm v:Int) (ok:Bool),e=.returned (.tuple #[.agg #[.int .i64 tm,.int .i64 v],.bool ok])/\Hid (Zht (bl s) tm v ok)/\Below w.heap.size w w':=by
 have hm1 : ∀ o, (w.alloc o).cell? ⟨14, 0, none⟩ = some (.int .i64 m) := fun o => by
   rw[World.cell?_alloc_lt _ _ _ (World.block_lt_of_cell? _ _ hm)];exact hm
 cases hc:cut 58 (bl s)with
 | none=>
  have HS:Hid (Zht (bl s) 0 0 false):=Or.inr ⟨rfl,by unfold ZcT;rw[hc]⟩
  have HC:Hid (cut 58 (bl s)=none):=hc
  clear hc
  go_enter Tryz.func227,Tryz.ntmps227
  go_wp2_with fail
  refine(ZfB m _ hs (hm1 _) HC.out).mono ?_
  rintro e w' ⟨a,b,rfl,hab,n,rfl⟩
  go_wp2
  exact bodyPost_ret (v:=.tuple #[.agg #[.int .i64 0,.int .i64 0],.bool false]) (by simp[results,Tryz.results227,go_sem]) rfl ⟨0,0,false,rfl,HS,belB⟩
 | some xy=>
  obtain⟨x,y⟩:=xy
  have hxl:x.length<=s.size/\y.length<=s.size:=by
   rw[<-Zi,(Zdh hc).1];simp;omega
  have HC:Hid (cut 58 (bl s)=some (x,y)):=hc
  cases hn:ZL 1000000 x with
  | none=>
   have HS:Hid (Zht (bl s) 0 0 false):=Or.inr ⟨rfl,by unfold ZcT;rw[hc];simp only[hn]⟩
   have HN:Hid (ZL 1000000 x=none):=hn
   clear hc hn
   go_enter Tryz.func227,Tryz.ntmps227
   go_wp2_with fail
   refine(Zd6 m _ hs (hm1 _) HC.out).mono ?_
   rintro e w' ⟨a,b,rfl,hab,n,rfl⟩
   have hsa:a.size<=6000:=by rw[Z7 hab.1];omega
   go_wp2_with fail
   refine(Zp9 a 1000000 _ _ rfl hsa (by omega) (by omega) hab.1 HN.out).mono ?_
   rintro e w' ⟨rfl,rfl⟩
   go_wp2
   exact bodyPost_ret (v:=.tuple #[.agg #[.int .i64 0,.int .i64 0],.bool false]) (by simp[results,Tryz.results227,go_sem]) rfl ⟨0,0,false,rfl,HS,belB⟩
  | some t=>
   have ht:=ZfQ hn
   have HS:Hid (∀v:Int,(Zcw y=true->v=valI y)->Zht (bl s) t v (Zcw y)):=hid (by
    intro v hvv
    cases hv:Zcw y
    ·exact Or.inr ⟨rfl,by unfold ZcT;rw[hc];simp[hn,hv]⟩
    ·exact Or.inl ⟨rfl,t,by unfold ZcT;rw[hc];simp[hn,hv],rfl,ht,by unfold smV;rw[hc];simp only[ZfO hn,hvv hv]⟩)
   have HN:Hid (ZL 1000000 x=some t):=hn
   clear hc hn
   go_enter Tryz.func227,Tryz.ntmps227
   go_wp2_with fail
   refine(Zd6 m _ hs (hm1 _) HC.out).mono ?_
   rintro e w' ⟨a,b,rfl,hab,n,rfl⟩
   have hsa:a.size<=6000:=by rw[Z7 hab.1];omega
   have hsb:b.size<=6000:=by rw[Z7 hab.2];omega
   go_wp2_with fail
   refine(Zqa a 1000000 _ _ rfl hsa (by omega) (by omega) hab.1 HN.out).mono ?_
   rintro e w' ⟨rfl,rfl⟩
   go_wp2_with fail
   refine(ZwX b _ hsb).mono ?_
   rintro e w' ⟨v,rfl,rfl,HVV⟩
   rw[hab.2]
   rw[hab.2]at HVV
   go_wp2
   exact bodyPost_ret (v:=.tuple #[.agg #[.int .i64 t,.int .i64 v],.bool (Zcw y)]) (by simp[results,Tryz.results227,go_sem]) rfl ⟨t,v,Zcw y,rfl,hid (HS.out v HVV.out),belB⟩
theorem Tryz.infoSample:(Tryz.prog.info? 358).map (fun i=>(i.zero,i.size,i.bytes))=some (some (.agg #[.int .i64 0,.int .i64 0]),2,16):=by kernel_rfl
theorem Zxd{last:Int}{n:Nat}{ps:List (List UInt8)}{k:Nat}(hk:k<ps.length){l:List UInt8}(hl:l=ps.getD k []){t:Nat}(hs:ZcT l=some t)(ht:¬(t:Int)<=last) :
  ZbP last n (ps.drop k)=ZbP t (n+1) (ps.drop (k+1)):=by
 have e:ps.getD k []=ps[k]:=by simp[hk]
 rw[List.drop_eq_getElem_cons hk,ZbP,<-e,<-hl,hs]
 simp[ht]
theorem Zpk{last:Int}{n:Nat}{ps:List (List UInt8)}{k:Nat}(hk:k<ps.length){l:List UInt8}(hl:l=ps.getD k [])(hs:ZcT l=none∨∃t:Nat,ZcT l=some t/\(t:Int)<=last) :
  ZbP last n (ps.drop k)=none:=by
 have e:ps.getD k []=ps[k]:=by simp[hk]
 rw[List.drop_eq_getElem_cons hk,ZbP,<-e,<-hl]
 rcases hs with h|⟨t,h,h'⟩
 ·rw[h]
 ·rw[h];simp[h']
theorem Zxe{last:Int}{n:Nat}{ps:List (List UInt8)}{k:Nat}(hk:¬k<ps.length):ZbP last n (ps.drop k)=some n:=by
 rw[List.drop_of_length_le (by omega)];rfl
theorem Zxg(s r:ByteArray)(m:Int)(w:World)(hs:s.size<=6000)(hm:w.cell? ⟨14,0,none⟩=some (.int .i64 m))(Hst:Hid (Zbi 32 (bl s)=(bl r,true)))(hne:s.toList.isEmpty=false) :
  Calls Tryz.prog 193 #[.string s] w fun e w' => ∃ (sv : Value) (ok : Bool), e = .returned (.tuple #[sv, .bool ok]) /\
    Hid ((ok=true/\∃a n cap,sv=.slice a n cap/\ZbP (-1) 0 (split 32 (bl r))=some n/\w'.ownsRow w.heap.size 358 2 sv n (Zb8 ((split 32 (bl r)).map smV)))∨(ok=false/\ZbP (-1) 0 (split 32 (bl r))=none))/\Below w.heap.size w w':=by
 have hr:r.size<=6000:=by
  have:=Zlx 32 (bl s);rw[Hst.out,Zi,Zi]at this;omega
 obtain⟨i0,hi,hz0,hz1,hz2⟩:=info_parts Tryz.infoSample
 have hgl:=World.block_lt_of_cell? _ _ hm
 go_enter Tryz.func193,Tryz.ntmps193
 go_wp2_with fail
 refine(ZhF _ Hst.out).mono ?_
 rintro e w' ⟨a,rfl,ha,rfl⟩
 obtain rfl:a=r:=ZeN ha.out
 clear ha
 go_wp2_with fail
 refine(Zlu 32 a m _ hr hm).mono ?_
 rintro e w1 ⟨n,rfl,hn,hrow,hb1⟩
 have HP:Hid (n=(split 32 (bl a)).length):=hn
 have hn6:n<=6001:=by rw[hn];have:=ZiO 32 (bl a);rw[Zi]at this;omega
 clear hn
 have hw1:w'.heap.size+1<=w1.heap.size:=hrow.1
 go_wp2
 go_loopw [6, 7, 24] (fun v last i wr => ∃ (k : Nat) (L : Int), k <= n /\ i = .int .i64 k /\ last = .int .i64 L /\ -1 <= L /\ L <= 1000000 /\ wr.ownsRow (w'.heap.size + 1) 358 2 v k (Zb8 (((split 32 (bl a)).map smV).take k)) /\ Hid (ZbP (-1) 0 (split 32 (bl a)) = ZbP L k ((split 32 (bl a)).drop k)) /\ Below (w'.heap.size + 1) w1 wr)
   (fun _ _ i _=>n - (intOf i).toNat)
 case atStart=>exact⟨0,-1,Nat.zero_le _,rfl,rfl,by omega,by omega,World.ownsRow_nil _ _ _ _,rfl,Below.refl _ _⟩
 case round=>
  obtain⟨k,L,hk,rfl,rfl,hL1,hL2,hown,HA,hbr⟩:=hrel
  have hwr:w'.heap.size+1<=wr.heap.size:=Nat.le_trans hw1 hbr.size
  by_cases hlt:k<n
  ·have hkl:k<(split 32 (bl a)).length:=by rw[<-HP.out];exact hlt
   obtain⟨sk,hck,hsk⟩:=(hrow.below hbr (Nat.lt_succ_self _)).2 k hkl
   have hsk6:sk.size<=6000:=by rw[Z7 hsk];have:=ZiN 32 (bl a) k hkl;rw[Zi]at this;omega
   have HK:Hid (bl sk=(split 32 (bl a)).getD k []):=hsk
   clear hsk
   have hmr:wr.cell? ⟨14,0,none⟩=some (.int .i64 m):=by
    rw[hbr.cell (p:=⟨_,0,none⟩) (by simpa using Nat.lt_succ_of_lt hgl),hb1.cell (p:=⟨_,0,none⟩) hgl];exact hm
   go_wp2_with fail
   refine(ZwT sk m _ hsk6 hmr).mono ?_
   rintro e w2 ⟨tm,v2,ok,rfl,hsam,hb2⟩
   have hw2:wr.heap.size<=w2.heap.size:=hb2.size
   have hbw:Below (w'.heap.size+1) w1 w2:=hbr.trans (hb2.mono hwr)
   have hown2:=Zw hown hb2
   cases ok
   ·have HF:Hid (ZbP (-1) 0 (split 32 (bl a))=none):=hid (by
     rw[HA.out];refine Zpk hkl HK.out (Or.inl ?_)
     rcases hsam.out with ⟨h,_⟩|⟨_,h⟩
     ·cases h
     ·exact h)
    go_wp2
    go_ret2
    exact⟨_,false,rfl,Or.inr ⟨rfl,HF.out⟩,(hb1.trans (hbw.mono (by omega))).alloc (by omega) _⟩
   ·obtain⟨t,hst,htt,ht6,hsv⟩:∃t:Nat,ZcT (bl sk)=some t/\tm=t/\t<=1000000/\smV (bl sk)=(tm,v2):=by
     rcases hsam.out with ⟨_,h⟩|⟨h,_⟩
     ·exact h
     ·cases h
    have HT:Hid (ZcT (bl sk)=some t):=hst
    have HFP:=hid (ZsT hkl HK.out hsv)
    clear hst hsam hsv
    have ht7:tm<=1000000:=by omega
    have ht8:0<=tm:=by omega
    have HTM:Hid (tm=t):=htt
    clear htt
    by_cases hle:tm<=L
    ·have HF:Hid (ZbP (-1) 0 (split 32 (bl a))=none):=hid (by
      rw[HA.out];exact Zpk hkl HK.out (Or.inr ⟨t,HT.out,by rw[<-HTM.out];exact hle⟩))
     go_wp2
     go_ret2
     exact⟨_,false,rfl,Or.inr ⟨rfl,HF.out⟩,(hb1.trans (hbw.mono (by omega))).alloc (by omega) _⟩
    ·have HF:Hid (ZbP (-1) 0 (split 32 (bl a))=ZbP t (k+1) ((split 32 (bl a)).drop (k+1))):=hid (by
      rw[HA.out];exact Zxd hkl HK.out HT.out (by rw[<-HTM.out];exact hle))
     go_wp2_with (at_builtin;refine wpList_append_own _ rfl (.tmp 41) (.tmp 43) 269 rfl (w'.heap.size+1) 358 i0 (.agg #[.int .i64 0,.int .i64 0]) 2 16 Tryz.underlying269 hi hz0 hz1 hz2 rfl (by decide) _ _ _ rfl ((hown2.alloc _).alloc _) ⟨w2.heap.size+1,0,none⟩ 1 1 [.int .i64 tm,.int .i64 v2] rfl rfl ?c1 ?c2 ?c3 ?c4 ?c5 ?_)
     case c1=>exact Zme (by simp) (by simp)
     case c2=>intro u hu;simp at hu;rcases hu with rfl|rfl <;> rfl
     case c3=>unfold maxLen;omega
     case c4=>omega
     case c5=>simp;omega
     intro v' w3 hown3 hgrow _
     rw[<-HFP.out]at hown3
     have hlt3:=hown2.lt
     have hb3:Below (w'.heap.size+1) w1 w3:=(((hbw.alloc (by omega) _).alloc (by simp;omega) _)).grown hgrow (by simp;omega) (fun j hj=>(hlt3 j hj).1)
     have hc3:w3.cell? ⟨w2.heap.size,0,none⟩=some (.int .i64 tm):=by
      refine hgrow.cell (a:=⟨w2.heap.size,0,none⟩) (by simp) ?_
      intro he;have:=(hlt3 _ he.symm).2;simp at this
     clear hown2 hown hgrow hbw
     go_wp2
     go_roundw
     case rel=>exact⟨k+1,tm,by omega,by go_num,rfl,by omega,by omega,hown3,by rw[HTM.out];exact HF,hb3⟩
     case measure=>simp[intOf];omega
  ·have HF:Hid (ZbP (-1) 0 (split 32 (bl a))=some k):=hid (by
    rw[HA.out];exact Zxe (by rw[<-HP.out];exact hlt))
   obtain⟨av,cp,hv⟩:=Zv hown
   rw[hv]at hown
   rw[hv]
   have HOW:Hid (wr.ownsRow w'.heap.size 358 2 (.slice av k cp) k (Zb8 ((split 32 (bl a)).map smV))):=hid (by
    rw[List.take_of_length_le (by rw[List.length_map];have:=HP.out;omega)]at hown
    exact hown.mono (by omega))
   clear hown
   go_wp2
   go_ret2
   exact⟨_,true,rfl,Or.inl ⟨rfl,av,k,cp,rfl,HF.out,HOW.out⟩,hb1.trans (hbr.mono (by omega))⟩
theorem Zo8(s:ByteArray)(m:Int)(w:World)(hs:s.size<=6000)(hm:w.cell? ⟨14,0,none⟩=some (.int .i64 m)) :
  Calls Tryz.prog 193 #[.string s] w fun e w' => ∃ (sv : Value) (ok : Bool), e = .returned (.tuple #[sv, .bool ok]) /\
    Hid ((ok=true/\∃a n cap,sv=.slice a n cap/\Zca (bl s)=some n/\w'.ownsRow w.heap.size 358 2 sv n (Zb8 (ZdS (bl s))))∨(ok=false/\Zca (bl s)=none))/\Below w.heap.size w w':=by
 cases he:s.toList.isEmpty
 ·have hne:=Zin he
  cases hst:Zbi 32 (bl s)with
  | mk r f=>
   cases f
   ·have HF:Hid (Zca (bl s)=none):=hid (by unfold Zca;rw[hst];simp[hne])
    have Hst:Hid (Zbi 32 (bl s)=(r,false)):=hst
    clear hst hne
    go_enter Tryz.func193,Tryz.ntmps193
    go_wp2_with fail
    refine(ZhF _ Hst.out).mono ?_
    rintro e w' ⟨a,rfl,ha,rfl⟩
    go_wp2
    go_ret2
    exact⟨_,false,rfl,Or.inr ⟨rfl,HF.out⟩,Below.refl _ _⟩
   ·have hF:Zca (bl s)=ZbP (-1) 0 (split 32 r):=by unfold Zca;rw[hst];simp[hne]
    have hE:ZdS (bl s)=(split 32 r).map smV:=by
     cases hl:bl s with
     | nil=>exact absurd hl hne
     | cons c t=>
      rw[hl]at hst
      by_cases hc:c=32
      ·subst hc;simp[Zbi]at hst;rw[<-hst];rfl
      ·simp[Zbi,hc]at hst
    rw[hF,hE]
    have:=Zxg s ⟨r.toArray⟩ m w hs hm (by rw[Zbv];exact hst) he
    rwa [Zbv]at this
 ·have HF:Hid (Zca (bl s)=some 0):=hid (by rw[Zg5 he];rfl)
  go_enter Tryz.func193,Tryz.ntmps193
  go_wp2
  go_ret2
  have HE:Hid (ZdS (bl s)=[]):=hid (by rw[Zg5 he];rfl)
  exact⟨_,true,rfl,Or.inl ⟨rfl,none,0,0,rfl,HF.out,by rw[HE.out];exact World.ownsRow_nil _ _ _ _⟩,Below.refl _ _⟩
def ZbD:List (ByteArray×ByteArray)->List Value
 | []=>[]
 | p::l=>.string p.1::.string p.2::ZbD l
def blP(p:ByteArray×ByteArray):List UInt8×List UInt8:=(bl p.1,bl p.2)
theorem Zm8(l m:List (ByteArray×ByteArray)):ZbD (l++m)=ZbD l++ZbD m:=by
 induction l with
 | nil=>rfl
 | cons a l ih=>simp[ZbD,ih]
theorem ZhK(l:List (ByteArray×ByteArray)):(ZbD l).length=l.length*2:=by
 induction l with
 | nil=>rfl
 | cons a l ih=>simp[ZbD,ih];omega
theorem ZhJ (l : List (ByteArray × ByteArray)) (j : Nat) : (ZbD l)[j * 2]? = l[j]?.map (fun p => .string p.1) /\ (ZbD l)[j * 2 + 1]? = l[j]?.map (fun p => .string p.2) := by
  induction l generalizing j with
  | nil=>simp[ZbD]
  | cons r l ih=>
    cases j with
    | zero=>simp[ZbD]
    | succ j=>
      obtain⟨h1,h2⟩:=ih j
      refine⟨?_,?_⟩
      · rw[show(j+1)*2=j*2+1+1 by omega];simpa [ZbD] using h1
      · rw[show(j+1)*2+1=j*2+1+1+1 by omega];simpa [ZbD] using h2
theorem Zk0{w:World}{base:Nat}{e:TypeId}{size:Nat}{v:Value}{n:Nat}{xs:List Value}(h:w.ownsRow base e size v n xs):w.ownsRow 0 e size v n xs:=by
 refine⟨h.1,?_⟩
 rcases h.2 with h2|⟨g,cap,cur,rfl,_,r⟩
 ·exact Or.inl h2
 ·exact Or.inr ⟨g,cap,cur,rfl,Nat.zero_le _,r⟩
def ZbT(w:World)(base:Nat)(v:Value)(n:Nat)(qs:List (ByteArray×ByteArray)):Prop:=w.ownsRow base 378 2 v n (ZbD qs)/\n<=6001/\∀p∈qs,p.1.size<=6000/\p.2.size<=6000
theorem Tryz.infoLabel:(Tryz.prog.info? 378).map (fun i=>(i.zero,i.size,i.bytes))=some (some (.agg #[.string ByteArray.empty,.string ByteArray.empty]),2,32):=by kernel_rfl
theorem ZtX{last:List UInt8}{acc:List (List UInt8×List UInt8)}{ps:List (List UInt8)}{k:Nat}(hk:k<ps.length){l:List UInt8}(hl:l=ps.getD k []){p:List UInt8×List UInt8}(hs:ZdN last l=some p) :
  Zbw last acc (ps.drop k)=Zbw p.1 (acc++[p]) (ps.drop (k+1)):=by
 have e:ps.getD k []=ps[k]:=by simp[hk]
 rw[List.drop_eq_getElem_cons hk,Zbw,<-e,<-hl,hs]
theorem ZnZ{last:List UInt8}{acc:List (List UInt8×List UInt8)}{ps:List (List UInt8)}{k:Nat}(hk:k<ps.length){l:List UInt8}(hl:l=ps.getD k [])(hs:ZdN last l=none) :
  Zbw last acc (ps.drop k)=none:=by
 have e:ps.getD k []=ps[k]:=by simp[hk]
 rw[List.drop_eq_getElem_cons hk,Zbw,<-e,<-hl,hs]
theorem ZtY{last:List UInt8}{acc:List (List UInt8×List UInt8)}{ps:List (List UInt8)}{k:Nat}(hk:¬k<ps.length):Zbw last acc (ps.drop k)=some acc:=by
 rw[List.drop_of_length_le (by omega)];rfl
theorem ZtU{last l n v:List UInt8}(h:cut 61 l=some (n,v)):ZdN last l=if ZA n && ZS v && !v.isEmpty && !leS n last then some (n,v)else none:=by
 unfold ZdN;rw[h]
theorem ZtV{last l:List UInt8}(h:cut 61 l=none):ZdN last l=none:=by unfold ZdN;rw[h]
theorem Zn8(a b:ByteArray):(Op.bytesLess a.toList b.toList || a.toList == b.toList)=leS (bl a) (bl b):=by rw[ZbH,ZbH];rfl
theorem ZiZ{s:ByteArray}{b:Bool}(w:World)(hs:s.size<=6000)(h:ZA (bl s)=b) :
  Calls Tryz.prog 48 #[.string s] w fun e w'=>e=.returned (.bool b)/\w'=w:=by
 have:=ZlE s w hs;rwa [h]at this
theorem Zp7{s:ByteArray}{b:Bool}(w:World)(hs:s.size<=6000)(h:ZS (bl s)=b) :
  Calls Tryz.prog 49 #[.string s] w fun e w'=>e=.returned (.bool b)/\w'=w:=by
 have:=ZlF s w hs;rwa [h]at this
theorem ZwP(s:ByteArray)(m:Int)(w:World)(hs:s.size<=6000)(hm:w.cell? ⟨14,0,none⟩=some (.int .i64 m))(hne:s.toList.isEmpty=false) :
  Calls Tryz.prog 192 #[.string s] w fun e w' => ∃ (a : Option Addr) (n cap : Nat) (ok : Bool), e = .returned (.tuple #[.slice a n cap, .bool ok]) /\
    Hid (ok=(Zbw [] [] (split 44 (bl s))).isSome/\(ok=true->∃qs,ZbT w' 0 (.slice a n cap) n qs/\Zbw [] [] (split 44 (bl s))=some (qs.map blP)))/\Below w.heap.size w w':=by
 obtain⟨i0,hi,hz0,hz1,hz2⟩:=info_parts Tryz.infoLabel
 have hgl:=World.block_lt_of_cell? _ _ hm
 go_enter Tryz.func192,Tryz.ntmps192
 go_wp2_with fail
 refine(Zlu 44 s m _ hs hm).mono ?_
 rintro e w1 ⟨n,rfl,hn,hrow,hb1⟩
 have HP:Hid (n=(split 44 (bl s)).length):=hn
 have hn6:n<=6001:=by rw[hn];have:=ZiO 44 (bl s);rw[Zi]at this;omega
 clear hn
 have hw1:w.heap.size+1<=w1.heap.size:=hrow.1
 go_wp2
 go_loopw [4, 5, 16] (fun v last i wr => ∃ (k : Nat) (ls : ByteArray) (qs : List (ByteArray × ByteArray)), k <= n /\ i = .int .i64 k /\ last = .string ls /\ wr.ownsRow (w.heap.size + 1) 378 2 v k (ZbD qs) /\ Hid (Zbw [] [] (split 44 (bl s)) = Zbw (bl ls) (qs.map blP) ((split 44 (bl s)).drop k)) /\ Below (w.heap.size + 1) w1 wr /\ Hid (∀ p ∈ qs, p.1.size <= 6000 /\ p.2.size <= 6000))
   (fun _ _ i _=>n - (intOf i).toNat)
 case atStart=>exact⟨0,⟨#[]⟩,[],Nat.zero_le _,rfl,rfl,World.ownsRow_nil _ _ _ _,rfl,Below.refl _ _,fun p hp=>nomatch hp⟩
 case round=>
  obtain⟨k,ls,qs,hk,rfl,rfl,hown,HA,hbr,HZ⟩:=hrel
  have hwr:w.heap.size+1<=wr.heap.size:=Nat.le_trans hw1 hbr.size
  by_cases hlt:k<n
  ·have hkl:k<(split 44 (bl s)).length:=by rw[<-HP.out];exact hlt
   obtain⟨sk,hck,hsk⟩:=(hrow.below hbr (Nat.lt_succ_self _)).2 k hkl
   have hsk6:sk.size<=6000:=by rw[Z7 hsk];have:=ZiN 44 (bl s) k hkl;rw[Zi]at this;omega
   have HK:Hid (bl sk=(split 44 (bl s)).getD k []):=hsk
   clear hsk
   have hmr:wr.cell? ⟨14,0,none⟩=some (.int .i64 m):=by
    rw[hbr.cell (p:=⟨_,0,none⟩) (by simpa using Nat.lt_succ_of_lt hgl),hb1.cell (p:=⟨_,0,none⟩) hgl];exact hm
   cases hc:cut 61 (bl sk)with
   | none=>
    have HF:Hid (Zbw [] [] (split 44 (bl s))=none):=hid (by rw[HA.out];exact ZnZ hkl HK.out (ZtV hc))
    have HC:Hid (cut 61 (bl sk)=none):=hc
    clear hc
    go_wp2_with fail
    refine(ZfB m _ hsk6 hmr HC.out).mono ?_
    rintro e w2 ⟨a,b,rfl,hab,j,rfl⟩
    go_wp2
    go_ret2
    exact⟨none,0,0,false,rfl,⟨by rw[HF.out];rfl,fun h=>nomatch h⟩,hb1.trans (ZgD (hbr.mono (by omega)) _)⟩
   | some p=>
    obtain⟨x,y⟩:=p
    have hxl:x.length<=sk.size/\y.length<=sk.size:=by rw[<-Zi,(Zdh hc).1];simp;omega
    have hlab:=ZtU (last:=bl ls) hc
    have HC:Hid (cut 61 (bl sk)=some (x,y)):=hc
    clear hc
    obtain⟨b1,hb1e⟩:∃b,ZA x=b:=⟨_,rfl⟩
    obtain⟨b2,hb2e⟩:∃b,y.isEmpty=b:=⟨_,rfl⟩
    obtain⟨b3,hb3e⟩:∃b,ZS y=b:=⟨_,rfl⟩
    obtain⟨b4,hb4e⟩:∃b,leS x (bl ls)=b:=⟨_,rfl⟩
    rw[hb1e,hb2e,hb3e,hb4e]at hlab
    have HB:Hid (ZA x=b1/\y.isEmpty=b2/\ZS y=b3/\leS x (bl ls)=b4):=⟨hb1e,hb2e,hb3e,hb4e⟩
    clear hb1e hb2e hb3e hb4e
    have hcase:(b1=true/\b2=false/\b3=true/\b4=false)∨(b1=false∨(b1=true/\b2=true)∨(b1=true/\b2=false/\b3=false)∨(b1=true/\b2=false/\b3=true/\b4=true)):=by
     cases b1 <;> cases b2 <;> cases b3 <;> cases b4 <;> simp
    rcases hcase with ⟨rfl,rfl,rfl,rfl⟩|hcase
    ·have HF:Hid (Zbw [] [] (split 44 (bl s))=Zbw x (qs.map blP++[(x,y)]) ((split 44 (bl s)).drop (k+1))):=hid (by
      rw[HA.out];exact ZtX hkl HK.out (by simpa using hlab))
     clear hlab
     go_wp2_with fail
     refine(Zd6 m _ hsk6 hmr HC.out).mono ?_
     rintro e w2 ⟨a,b,rfl,hab,j,rfl⟩
     have hsa:a.size<=6000:=by rw[Z7 hab.1];omega
     have hsb:b.size<=6000:=by rw[Z7 hab.2];omega
     have f1:Hid (ZA (bl a)=true):=by rw[hab.1];exact HB.1
     have f2:b.toList.isEmpty=false:=by rw[ZbH,hab.2];exact HB.2.1
     have f3:Hid (ZS (bl b)=true):=by rw[hab.2];exact HB.2.2.1
     have f4:(Op.bytesLess a.toList ls.toList || a.toList == ls.toList)=false:=by rw[Zn8,hab.1];exact HB.2.2.2
     have HF2:Hid (Zbw [] [] (split 44 (bl s))=Zbw (bl a) ((qs++[(a,b)]).map blP) ((split 44 (bl s)).drop (k+1))):=by rw[List.map_append,List.map_singleton,blP,hab.1,hab.2];exact HF
     have HZ2:Hid (∀p∈qs++[(a,b)],p.1.size<=6000/\p.2.size<=6000):=hid (by
      intro p hp
      rcases List.mem_append.1 hp with h|h
      ·exact HZ.out p h
      ·rw[List.mem_singleton.1 h];exact⟨hsa,hsb⟩)
     have hown2:=ZvS hown j
     go_wp2_with (first|(go_at_call 48;refine(ZiZ _ hsa f1.out).mono ?_;rintro e w' ⟨rfl,rfl⟩)|(go_at_call 49;refine(Zp7 _ hsb f3.out).mono ?_;rintro e w' ⟨rfl,rfl⟩)|(at_builtin;refine wpList_append_own _ rfl (.tmp 47) (.tmp 51) 266 rfl (w.heap.size+1) 378 i0 (.agg #[.string ByteArray.empty,.string ByteArray.empty]) 2 32 Tryz.underlying266 hi hz0 hz1 hz2 rfl (by decide) _ _ _ rfl (hown2.alloc _) ⟨wr.heap.size,0,none⟩ 1 1 [.string a,.string b] rfl rfl ?c1 ?c2 ?c3 ?c4 ?c5 ?_))
     case c1=>exact Zme ((World.cell?_alloc_at _ _ _ _ rfl).trans rfl) ((World.cell?_alloc_at _ _ _ _ rfl).trans rfl)
     case c2=>intro u hu;simp at hu;rcases hu with rfl|rfl <;> rfl
     case c3=>unfold maxLen;omega
     case c4=>omega
     case c5=>simp;omega
     intro v' w3 hown3 hgrow _
     have hb3:Below (w.heap.size+1) w1 w3:=((ZgD hbr j).alloc (by simp;omega) _).grown hgrow (by simp;omega) (fun q hq=>(hown2.lt q hq).1)
     have hown4:w3.ownsRow (w.heap.size+1) 378 2 v' (k+1) (ZbD (qs++[(a,b)])):=by rw[Zm8];exact hown3
     clear hown2 hown hgrow hown3
     go_wp2
     go_roundw
     case rel=>exact⟨k+1,a,_,by omega,by go_num,rfl,hown4,HF2,hb3,HZ2⟩
     case measure=>simp[intOf];omega
    ·have HF:Hid (Zbw [] [] (split 44 (bl s))=none):=hid (by
      rw[HA.out];refine ZnZ hkl HK.out ?_
      rw[hlab]
      rcases hcase with rfl|⟨rfl,rfl⟩|⟨rfl,rfl,rfl⟩|⟨rfl,rfl,rfl,rfl⟩ <;> simp)
     clear hlab
     go_wp2_with fail
     refine(Zd6 m _ hsk6 hmr HC.out).mono ?_
     rintro e w2 ⟨a,b,rfl,hab,j,rfl⟩
     have hsa:a.size<=6000:=by rw[Z7 hab.1];omega
     have hsb:b.size<=6000:=by rw[Z7 hab.2];omega
     have f1:Hid (ZA (bl a)=b1):=by rw[hab.1];exact HB.1
     have f2:b.toList.isEmpty=b2:=by rw[ZbH,hab.2];exact HB.2.1
     have f3:Hid (ZS (bl b)=b3):=by rw[hab.2];exact HB.2.2.1
     have f4:(Op.bytesLess a.toList ls.toList || a.toList == ls.toList)=b4:=by rw[Zn8,hab.1];exact HB.2.2.2
     rcases hcase with rfl|⟨rfl,rfl⟩|⟨rfl,rfl,rfl⟩|⟨rfl,rfl,rfl,rfl⟩
     all_goals
      go_wp2_with (first|(go_at_call 48;refine(ZiZ _ hsa f1.out).mono ?_;rintro e w' ⟨rfl,rfl⟩)|(go_at_call 49;refine(Zp7 _ hsb f3.out).mono ?_;rintro e w' ⟨rfl,rfl⟩))
      go_ret2
      exact⟨none,0,0,false,rfl,⟨by rw[HF.out];rfl,fun h=>nomatch h⟩,hb1.trans (ZgD (hbr.mono (by omega)) _)⟩
  ·have HF:Hid (Zbw [] [] (split 44 (bl s))=some (qs.map blP)):=hid (by
    rw[HA.out];exact ZtY (by rw[<-HP.out];exact hlt))
   obtain⟨av,cp,hv⟩:=Zv hown
   rw[hv]
   rw[hv]at hown
   have hk6:k<=6001:=by omega
   go_wp2
   go_ret2
   exact⟨_,_,_,true,rfl,⟨by rw[HF.out];rfl,fun _=>⟨qs,⟨Zk0 hown,hk6,HZ.out⟩,HF.out⟩⟩,hb1.trans (hbr.mono (by omega))⟩
end Go.Proofs.YtcdgkkfipdoeeaaGreatDoor
