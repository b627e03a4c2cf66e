/- Parts. -/
import Derived.Lib.SplitLaws
import Derived.Test.YtpbemaaghbbocaaGreatDoorH05
import Derived.BigQuiet
set_option linter.all false
set_option maxRecDepth 100000
set_option maxHeartbeats 16000000
namespace Go.Proofs.YtpbemaaghbbocaaGreatDoor.LS
open Go Go.RowKit
theorem Zjj (c : UInt8) (l : LB) : Lib.index l [c] = match seek c l with | none => -1 | some i => (i : Int) := by
  induction l with
  | nil=>rfl
  | cons b l ih=>
    unfold Lib.index seek;by_cases a:b=c
    · subst a;simp[List.isPrefixOf]
    · have d:[c].isPrefixOf (b::l)=false:=by simp[List.isPrefixOf,Ycp a]
      have e:(b == c)=false:=by simp[a]
      rw[if_neg (by simp[d]),ih,e];cases seek c l with
      | none=>rfl
      | some i=>
        have f:¬(((i:Int) == -1)=true):=by simp
        simp only[Yde,if_false,Ybf];rw[if_neg f];rfl
theorem Zyn{c:UInt8}{l x y:LB}(h:cut c l=some (x,y)):Lib.cut l [c]=(x,y,true):=by
 unfold cut at h;cases a:seek c l with
 | none=>rw[a]at h;cases h
 | some i=>
  rw[a]at h;simp only[Ybf,Yci,Yc5]at h;unfold Lib.cut;rw[Zjj,a];simp only[Ybj,Int.toNat_natCast];rw[if_pos Om,h.1,h.2]
theorem Zym{c:UInt8}{l:LB}(h:cut c l=none):Lib.cut l [c]=(l,[],false):=by
 unfold cut at h;cases a:seek c l with
 | some i=>rw[a]at h;cases h
 | none=>
  unfold Lib.cut;rw[Zjj,a];rfl
theorem Zdx{c:UInt8}{l x y:LB}(h:cut c l=some (x,y)):l=x++c::y/\c∉x:=by
 unfold cut at h;cases d:seek c l with
 | none=>rw[d]at h;cases h
 | some i=>
  rw[d]at h;simp only[Ybf,Yci,Yc5]at h;obtain⟨a,b,rfl,rfl,e⟩:=Ziv d;have e1:x=a:=by rw[<-h.1];simp
  have e2:y=b:=by rw[<-h.2];simp
  subst e1;subst e2;exact⟨rfl,e⟩
theorem ZoE{c:UInt8}{x y:LB}(h:c∉x):cut c (x++c::y)=some (x,y):=by
 unfold cut;rw[Zgq c x y h];simp
theorem Zsq(c:UInt8):∀(n:Nat) (l:LB),l.length<=n->Lib.splitK [c] 0 (Lib.count l [c]) l=split c l:=by
 intro n
 induction n with
 | zero=>
  intro l g;obtain rfl:l=[]:=Ygc.1 Om;rw[Lib.count_miss rfl];rfl
 | succ n ih=>
  intro l g;cases d:seek c l with
  | none=>
   rw[Lib.count_miss (by rw[Zjj,d])];have e:=(Zj9 c l).1 d;have:=Zhb c l [] e;rw[Yca]at this;rw[this];simp[Lib.splitK,split,pre]
  | some i=>
   obtain⟨a,b,rfl,rfl,e⟩:=Ziv d;have f:Lib.index (a++c::b) [c]=(a.length:Int):=by rw[Zjj,d]
   rw[Lib.count_hit (by simp) f];have e1:(a++c::b).drop (a.length + [c].length)=b:=by simp
   rw[e1,Nat.add_comm,Lib.splitK,if_neg (by rw[f];simp),f];rw[show((a.length:Int)).toNat=a.length by omega,e1,ih b (by simp at g;omega),Zhb c a _ e,Zhc];simp[pre]
def ZbI(c:UInt8):LB->LB×Bool
 | []=>([],false)
 | b::t=>if b == c then (t,true)else (b::t,false)
theorem Zyo(c:UInt8)(l:LB):(Lib.trimPrefix l [c],Lib.hasPrefix l [c])=ZbI c l:=by
 cases l with
 | nil=>rfl
 | cons b t=>
  by_cases a:b=c
  ·subst a;simp[Lib.trimPrefix,Lib.hasPrefix,ZbI]
  ·have d:[c].isPrefixOf (b::t)=false:=by simp[List.isPrefixOf,Ycp a]
   simp[Lib.trimPrefix,Lib.hasPrefix,ZbI,a,d]
theorem Znm(c:UInt8)(l:LB):(ZbI c l).1.length<=l.length:=by
 cases l with
 | nil=>simp[ZbI]
 | cons b t=>by_cases h:(b == c)=true <;> simp[ZbI,h]
def Zds(d:LB):Bool:=match ZQ 1000000000 (ZbI 45 d).1 with
 | none=>false
 | some v=>!((ZbI 45 d).2 && v == 0)
def Zdn(t:LB):Option Nat:=match cut 58 t with
 | none=>none
 | some (a, d) => match ZQ 1000000 a with
   | none=>none
   | some tm=>if Zds d then some tm else none
def Zcq:Int->Nat->List (LB)->Option Nat
 | _,n,[]=>some n
 | last, n, x :: xs => match Zdn x with
   | none=>none
   | some t=>if (t:Int)<=last then none else Zcq t (n+1) xs
def Zcz(l:LB):Option Nat:=match ZbI 32 l with
 | (r,f)=>if l=[] then some 0 else if f then Zcq (-1) 0 (split 32 r)else none
def leS(a b:LB):Bool:=Op.bytesLess a b || a == b
def Zd5(last:LB)(x:LB):Option (LB×LB):=match cut 61 x with
 | none=>none
 | some (n,v)=>if Zx n && Z3 v && !v.isEmpty && !leS n last then some (n,v)else none
def ZbS:LB->List (LB×LB)->List (LB)->Option (List (LB×LB))
 | _,acc,[]=>some acc
 | last, acc, x :: xs => match Zd5 last x with
   | none=>none
   | some p=>ZbS p.1 (acc++[p]) xs
def Zcc(l:LB):Option (List (LB×LB)):=if l=[] then some [] else ZbS [] [] (split 44 l)
def line(l:LB):Option (LB×LB×Nat):=match cut 123 l with
 | none=>none
 | some (name, rest) => match cut 125 rest with
   | none=>none
   | some (inside,behind)=>if Zx name && (Zcc inside).isSome then (Zcz behind).map (fun n=>(name,inside,n))else none
theorem ZjF{l:LB}(h:cut 123 l=none):line l=none:=by unfold line;rw[h]
theorem ZjE{l name rest:LB}(h:cut 123 l=some (name,rest))(a:cut 125 rest=none):line l=none:=by unfold line;rw[h];simp only[a]
theorem ZjG{l name rest inside behind:LB}(h:cut 123 l=some (name,rest))(a:cut 125 rest=some (inside,behind)) :
  line l=if Zx name && (Zcc inside).isSome then (Zcz behind).map (fun n=>(name,inside,n))else none:=by unfold line;rw[h];simp only[a]
structure Entry where
 at_:Nat
 name:LB
 inside:LB
 count:Nat
def Zbh:Nat->List Entry->List (LB)->Nat ⊕ List Entry
 | _,acc,[]=>.inr acc
 | i, acc, x :: xs => if x = [] then Zbh (i + 1) acc xs else match line x with
   | none=>.inl i
   | some (a,b,n)=>Zbh (i+1) (acc++[⟨i,a,b,n⟩]) xs
theorem Zyw{i:Nat}{acc:List Entry}{ps:List (LB)}(a:i<ps.length)(h:ps.getD i []=[]):Zbh i acc (ps.drop i)=Zbh (i+1) acc (ps.drop (i+1)):=by
 have e:ps.getD i []=ps[i]:=by simp[a]
 rw[List.drop_eq_getElem_cons a,Zbh,<-e,if_pos h]
theorem Zyu{i:Nat}{acc:List Entry}{ps:List (LB)}(a:i<ps.length)(h:ps.getD i []≠[])(c:line (ps.getD i [])=none):Zbh i acc (ps.drop i)=.inl i:=by
 have e:ps.getD i []=ps[i]:=by simp[a]
 rw[List.drop_eq_getElem_cons a,Zbh,<-e,if_neg h,c]
theorem Zyv{i:Nat}{acc:List Entry}{ps:List (LB)}(c:i<ps.length)(h:ps.getD i []≠[]){a b:LB}{n:Nat}(d:line (ps.getD i [])=some (a,b,n)) :
  Zbh i acc (ps.drop i)=Zbh (i+1) (acc++[⟨i,a,b,n⟩]) (ps.drop (i+1)):=by
 have e:ps.getD i []=ps[i]:=by simp[c]
 rw[List.drop_eq_getElem_cons c,Zbh,<-e,if_neg h,d]
theorem Zyx{i:Nat}{acc:List Entry}{ps:List (LB)}(a:¬i<ps.length):Zbh i acc (ps.drop i)=.inr acc:=by
 rw[Yb8 Om];rfl
end Go.Proofs.YtpbemaaghbbocaaGreatDoor.LS
namespace Go.Proofs.YtpbemaaghbbocaaGreatDoor
open Go.RowKit LS Go.Proofs.Tryz
theorem Zri(most:Nat)(l:LB) : -1<=numI most l/\numI most l<=most:=by
 cases h:ZQ most l with
 | none=>rw[Zrj h];omega
 | some v=>rw[ZgX h];have:=Zgh h;omega
def Zca:List (Int×Int)->List Value
 | []=>[]
 | x::l=>.int .i64 x.1::.int .i64 x.2::Zca l
theorem Zwg(l m:List (Int×Int)):Zca (l++m)=Zca l++Zca m:=by
 induction l with
 | nil=>rfl
 | cons a l ih=>simp[Zca,ih]
theorem Zwh (l : List (Int × Int)) (j : Nat) : (Zca l)[j * 2]? = l[j]?.map (fun x => Vi x.1) /\ (Zca l)[j * 2 + 1]? = l[j]?.map (fun x => Vi x.2) := by
  induction l generalizing j with
  | nil=>simp[Zca]
  | cons r l ih=>
    cases j with
    | zero=>simp[Zca]
    | succ j=>
      obtain⟨a,c⟩:=ih j;refine⟨?_,?_⟩
      · rw[show(j+1)*2=j*2+1+1 by omega];simpa [Zca] using a
      · rw[show(j+1)*2+1=j*2+1+1+1 by omega];simpa [Zca] using c
def smOk(x:Int×Int):Prop:=-1000000<=x.1/\x.1<=1000000/\-1000000000<=x.2/\x.2<=1000000000
def valI(d:LB):Int:=match ZbI 45 d with
 | (d',less)=>if less then -(numI 1000000000 d')else numI 1000000000 d'
def smV(x:LB):Int×Int:=match cut 58 x with
 | none=>(0,0)
 | some (a,d)=>(numI 1000000 a,valI d)
def Zez:LB->List (Int×Int)
 | []=>[]
 | _::t=>(split 32 t).map smV
theorem ZCr(x:LB):smOk (smV x):=by
 unfold smV;split
 ·unfold smOk;decide
 ·rename_i a d _;have c:=Zri 1000000 a;unfold valI;cases hd:ZbI 45 d with
  | mk d' less=>
   have e:=Zri 1000000000 d';unfold smOk;cases less
   ·simp only[Yde,if_false];omega
   ·simp only[if_true];omega
theorem Zwi{l:List (LB)}{k:Nat}(a:k<l.length){x:LB}(c:x=l.getD k []){t v:Int}(d:smV x=(t,v)):Zca ((l.map smV).take (k+1))=Zca ((l.map smV).take k)++[Vi t,Vi v]:=by
 have e:l[k]=x:=by rw[c,Yaa,List.getElem?_eq_getElem a];rfl
 rw[<-Yer,<-Yer,List.take_succ_eq_append_getElem a,Yaq,Zwg,Yco,e,d];rfl
def Zdo(l:LB):List (Int×Int):=match LS.seek 125 l with
 | some b=>Zez (l.drop (b+1))
 | none=>[]
theorem Zr1{l x r y z:LB}(a:Zx x=true)(d:cut 123 l=some (x,r))(e:cut 125 r=some (y,z)):Zdo l=Zez z:=by
 obtain⟨e1,n1⟩:=Zdx d;obtain⟨e2,n2⟩:=Zdx e
 have f:(125:UInt8)∉x:=by
  intro g;unfold Zx at a;rw[Yas]at a;have:=Ybu.1 a.1 _ g;exact absurd this Dc
 have c:l=(x++123::y)++125::z:=by rw[e1,e2];simp
 have i:LS.seek 125 l=some (x++123::y).length:=by
  rw[c];refine Zgq 125 _ z ?_;rw[Yar,Yau];rintro(h|h|h)
  ·exact f h
  ·exact absurd h Dc
  ·exact n2 h
 unfold Zdo;rw[i,c];simp only
 congr 1
 rw[show(x++123::y)++125::z=((x++123::y)++[125])++z by simp,Ygb (by simp;omega),Yb8 (by simp;omega)];rfl
theorem Zy5(a b:Int)(a1 : -1000000000<=a)(a2:a<=1000000000)(b1 : -1000000000<=b)(b2:b<=1000000000):(a*b).natAbs<=1000000000000000000:=by
 rw[Int.natAbs_mul];have c:a.natAbs<=1000000000:=by omega
 have d:b.natAbs<=1000000000:=by omega
 exact Nat.mul_le_mul c d
theorem ZDy(a b:Int):twoV 0 a b=cutV (a+b):=by simp[twoV]
theorem ZDz(a b:Int):twoV 1 a b=cutV (a - b):=by simp[twoV]
theorem ZDA(a b:Int):twoV 2 a b=cutV (a*b):=by simp[twoV]
theorem ZDC(a:Int):twoV 3 a 0=0:=by simp[twoV]
theorem ZDB(a b:Int)(h:b≠0):twoV 3 a b=a.tdiv b:=by simp[twoV,h]
def vOk(n:Int):Prop:=-1000000000<=n/\n<=1000000000
theorem ZyW(m:Int)(l:List Int)(x:Int):maxL m (l++[x])=if maxL m l<x then x else maxL m l:=by
 induction l generalizing m with
 | nil=>rfl
 | cons a l ih=>exact ih _
theorem Zy1(m:Int)(l:List Int)(x:Int):minL m (l++[x])=if x<minL m l then x else minL m l:=by
 induction l generalizing m with
 | nil=>rfl
 | cons a l ih=>exact ih _
theorem ZhY{n:Int}:vOk (cutV n):=by unfold vOk cutV;split <;> (try split) <;> omega
theorem Zhj(op:Nat)(a b:Int)(c:vOk a):vOk (twoV op a b):=by
 unfold twoV;split
 ·exact ZhY
 split
 ·exact ZhY
 split
 ·exact ZhY
 split
 ·unfold vOk;omega
 ·unfold vOk at *
  have d:(a.tdiv b).natAbs<=a.natAbs:=by rw[Yff];exact Yfg _ _
  omega
def Zhi(l s:Int):Nat->Int->List Int->Option (List Int)
 | 0,_,_=>none
 | n+1,t,acc=>if t<=l then (if acc.length=50 then none else Zhi l s n (t+s) (acc++[t]))else some acc
abbrev badT (f l s:Int):Prop:=f < -1000000∨1000000<f∨l < -1000000∨1000000<l∨s<1∨1000000<s∨l<f
def Zdr(f l s:Int):Option (List Int):=if badT f l s then none else Zhi l s 60 f []
def cnt(l s t:Int):Nat:=if t<=l then ((l - t) / s).toNat+1 else 0
theorem Zoi(l s t:Int)(c:1<=s)(h:t<=l):cnt l s t=cnt l s (t+s)+1:=by
 unfold cnt;rw[if_pos h];by_cases a:t+s<=l
 ·rw[if_pos a]
  have e:(l - t) / s=(l - (t+s)) / s+1:=by
   rw[show l - t=(l - (t+s))+1*s by omega,Int.add_mul_ediv_right _ _ Om]
  have d:0<=(l - (t+s)) / s:=Int.ediv_nonneg Om Om;rw[e];omega
 ·rw[if_neg a];have e:(l - t) / s=0:=Int.ediv_eq_zero_of_lt Om Om;rw[e];rfl
theorem ZsM (l s : Int) (c : 1 <= s) : ∀ (n : Nat) (t : Int) (acc : List Int), acc.length + cnt l s t <= 50 -> cnt l s t < n -> Zhi l s n t acc = some (acc ++ (List.range (cnt l s t)).map fun (i : Nat) => t + (i : Int) * s)
  | 0,_,_,_,h=>absurd h (Ya1 _)
  | n + 1, t, acc, d, e => by
    rw[Zhi];by_cases h:t<=l
    · have a:=Zoi l s t c h
      rw[if_pos h,if_neg Om,ZsM l s c n (t+s) (acc++[t]) (by rw[Yab,Ybj];omega) Om,a,List.range_succ_eq_map,Ybb,Yb1,Yan]
      congr 2
      rw[Yd6]
      congr 1
      · simp
      · refine Ycb (fun i _=>?_)
        simp only[Function.comp];rw[show((Nat.succ i:Nat):Int)=(i:Int)+1 from rfl,Int.add_mul];omega
    · have a:cnt l s t=0:=by unfold cnt;rw[if_neg h]
      rw[if_neg h,a];simp
theorem ZsL(l s:Int)(a:1<=s):∀(n:Nat) (t:Int) (acc:List Int),50<acc.length+cnt l s t->acc.length<=50->50 - acc.length<n->Zhi l s n t acc=none
 | 0,_,_,_,_,h=>absurd h (Ya1 _)
 | n + 1, t, acc, e, f, g => by
   rw[Zhi];by_cases h:t<=l
   · have d:=Zoi l s t a h
     rw[if_pos h];by_cases c:acc.length=50
     · rw[if_pos c]
     · rw[if_neg c]
       exact ZsL l s a n (t+s) (acc++[t]) (by rw[Yab,Ybj];omega) (by rw[Yab,Ybj];omega) (by rw[Yab,Ybj];omega)
   · have d:cnt l s t=0:=by unfold cnt;rw[if_neg h]
     omega
theorem ZsN {f l s : Int} (h : ¬ badT f l s) : Zdr f l s = if 50 < cnt l s f then none else some ((List.range (cnt l s f)).map fun (i : Nat) => f + (i : Int) * s) := by
  have a:1<=s:=by unfold badT at h;omega
  unfold Zdr;rw[if_neg h];split
  · rename_i c
    exact ZsL l s a 60 f [] (by simpa using c) (by simp) (by simp)
  · rename_i c
    rw[ZsM l s a 60 f [] (by simp;omega) Om];rfl
theorem ZiJ {n:Int} {w:World} : CP 192 #[Vi n] w fun e u => e = .returned (Vi (cutV n)) /\ u = w := by
  rcases(by unfold cutV;split <;> (try split) <;> omega:(1000000000<n/\cutV n=1000000000)∨(n < -1000000000/\cutV n=-1000000000)∨(-1000000000<=n/\n<=1000000000/\cutV n=n))with ⟨h,e⟩|⟨h,e⟩|⟨a,c,e⟩
  all_goals
    rw[e];have d:=hid e;clear e;go_enter func192,ntmps192;go_wp2
    all_goals first|omega|(go_ret;exact⟨rfl,rfl⟩)|(go_ret;exact⟨ZBw Om,rfl⟩)|(obtain rfl:n=-1000000000:= Om;go_ret;exact⟨rfl,rfl⟩)
theorem Zks (op : Nat) (g : op <= 3) (a b : Int) (d : vOk a) (f : vOk b) (w : World) : CP 165 #[Vi (op + 1 : Nat), Vi a, Vi b] w fun e u => e = .returned (Vi (twoV op a b)) /\ u = w := by
  obtain⟨a1,a2⟩:=d;obtain⟨b1,b2⟩:=f;rcases(by omega:op=0∨op=1∨op=2∨op=3)with rfl|rfl|rfl|rfl
  · rw[ZDy]
    go_enter func165,ntmps165
    go_wp2_with (go_at_call 192;refine(ZiJ).mono ?_;rintro e u ⟨rfl,rfl⟩)
    go_ret;exact⟨rfl,rfl⟩
  · rw[ZDz]
    go_enter func165,ntmps165
    go_wp2_with (go_at_call 192;refine(ZiJ).mono ?_;rintro e u ⟨rfl,rfl⟩)
    go_ret;exact⟨rfl,rfl⟩
  · have i:(Go.IntKind.i64).wrap (a*b)=a*b:=by
      have j:=Zy5 a b a1 a2 b1 b2;generalize a*b=ab at *
      rw[Ybo];omega
    rw[ZDA];go_enter func165,ntmps165
    go_wp2_with (go_at_call 192;refine(ZiJ).mono ?_;rintro e u ⟨rfl,rfl⟩)
    go_ret;exact⟨rfl,rfl⟩
  · have h:(a.tdiv b).natAbs<=a.natAbs:=by rw[Yff];exact Yfg _ _
    have k:(Go.IntKind.i64).wrap (a.tdiv b)=a.tdiv b:=by rw[Ybo];omega
    by_cases c:b=0
    · subst c
      rw[ZDC];go_enter func165,ntmps165;go_wp2;go_ret;exact⟨rfl,rfl⟩
    · rw[ZDB a b c]
      go_enter func165,ntmps165;go_wp2;go_ret;exact⟨rfl,rfl⟩
def talC(l:List Int):List Value:=[Vi l.length,Vi l.sum,Vi (maxL (l.headD 0) l),Vi (minL (l.headD 0) l),Vi (l.headD 0),Vi (l.getLastD 0)]
def talV(l:List Int):Value:=.agg (talC l).toArray
theorem ZyX(m:Int)(l:List Int)(x:Int):maxL m (l++[x])=max (maxL m l) x:=by rw[ZyW];split <;> omega
theorem Zy2(m:Int)(l:List Int)(x:Int):minL m (l++[x])=min (minL m l) x:=by rw[Zy1];split <;> omega
theorem ZxQ(l:List Int)(x:Int):(l++[x]).getLastD 0=x:=by simp[Yey]
theorem ZsC:∀l:List Int,(∀x∈l,vOk x)->-1000000000*(l.length:Int)<=l.sum/\l.sum<=1000000000*(l.length:Int)
 | [],_=>by simp
 | a :: l, h => by
   have e:=ZsC l (fun x c=>h x (Yam _ c));have d:=h a (Yay ..);unfold vOk at d;rw[Yd2,Yaj];omega
theorem ZsT (l : List Int) (x : Int) (k : l.length <= 10000) (d : ∀ y ∈ l, vOk y) (f : vOk x) (w : World) : CP 173 #[talV l, Vi x] w fun e u => e = .returned (talV (l ++ [x])) /\ BW w u := by
  cases l with
  | nil=>
    unfold talV talC;simp only[Ybq,List.sum_nil,maxL,minL,List.headD_nil,List.getLastD_nil,Ycu,Ybj,List.sum_singleton,List.headD_cons,Yel,Int.lt_irrefl,if_false];go_enter func173,ntmps173;go_wp2;exact bodyPost_ret (v:=.agg #[Vi 1,Vi x,Vi x,Vi x,Vi x,Vi x]) (by simp[results,results173,go_sem]) rfl ⟨by simp,belB⟩
  | cons a l=>
    have c:=ZsC (a::l) d
    have g:Hid (talV ((a::l)++[x])=.agg #[Vi ((l.length:Int)+1+1),Vi ((a::l).sum+x),Vi (max (maxL a (a::l)) x),Vi (min (minL a (a::l)) x),Vi a,Vi x]):=hid (by
      unfold talV talC;rw[ZyX,Zy2,List.sum_append,ZxQ];simp)
    unfold vOk at f;rw[g.out];unfold talV talC;rw[Yaj]at *
    simp only[List.headD_cons];generalize(a::l).sum=sm at *
    generalize maxL a (a::l)=mx at *
    generalize minL a (a::l)=mn at *
    generalize(a::l).getLastD 0=la at *
    generalize l.length=ln at *
    have i:((ln:Int)+1 == 0)=false:=by rw[beq_eq_false_iff_ne];omega
    push_cast
    have h:=hid c;clear c;have j : -10000000000000<=sm/\sm<=10000000000000:=by have:=h.out;omega
    rcases(by omega:(mx<x/\max mx x=x)∨(x<=mx/\max mx x=mx))with ⟨g1,e1⟩|⟨g1,e1⟩ <;> rcases(by omega:(x<mn/\min mn x=x)∨(mn<=x/\min mn x=mn))with ⟨g2,e2⟩|⟨g2,e2⟩
    · rw[e1,e2]
      go_enter func173,ntmps173;go_wp2
      all_goals first|omega|exact bodyPost_ret (v:=.agg #[Vi ((ln:Int)+1+1),Vi (sm+x),Vi x,Vi x,Vi a,Vi x]) (by simp[results,results173,go_sem]) rfl ⟨rfl,belB⟩
    · rw[e1,e2]
      go_enter func173,ntmps173;go_wp2
      all_goals first|omega|exact bodyPost_ret (v:=.agg #[Vi ((ln:Int)+1+1),Vi (sm+x),Vi x,Vi mn,Vi a,Vi x]) (by simp[results,results173,go_sem]) rfl ⟨rfl,belB⟩
    · rw[e1,e2]
      go_enter func173,ntmps173;go_wp2
      all_goals first|omega|exact bodyPost_ret (v:=.agg #[Vi ((ln:Int)+1+1),Vi (sm+x),Vi mx,Vi x,Vi a,Vi x]) (by simp[results,results173,go_sem]) rfl ⟨rfl,belB⟩
    · rw[e1,e2]
      go_enter func173,ntmps173;go_wp2
      all_goals first|omega|exact bodyPost_ret (v:=.agg #[Vi ((ln:Int)+1+1),Vi (sm+x),Vi mx,Vi mn,Vi a,Vi x]) (by simp[results,results173,go_sem]) rfl ⟨rfl,belB⟩
theorem Zlh{n:Int}(h:vOk n):cutV n=n:=by unfold vOk at h;unfold cutV;split <;> (try split) <;> omega
theorem ZqV:∀(l:List Int) (m:Int),vOk m->(∀x∈l,vOk x)->vOk (maxL m l)
 | [],m,h,_=>h
 | a :: l, m, h, c => by
   rw[maxL];refine ZqV l _ ?_ (fun x d=>c x (Yam _ d));split
   · exact c a (Yay ..)
   · exact h
theorem Zq5:∀(l:List Int) (m:Int),vOk m->(∀x∈l,vOk x)->vOk (minL m l)
 | [],m,h,_=>h
 | a :: l, m, h, c => by
   rw[minL];refine Zq5 l _ ?_ (fun x d=>c x (Yam _ d));split
   · exact c a (Yay ..)
   · exact h
theorem ZwS{l:List Int}(c:∀x∈l,vOk x):vOk (l.headD 0):=by
 cases l with
 | nil=>unfold vOk;decide
 | cons a l=>exact c a (Yay ..)
theorem ZxP{l:List Int}(c:∀x∈l,vOk x):vOk (l.getLastD 0):=by
 cases l with
 | nil=>unfold vOk;decide
 | cons a l=>rw[Yel,<-Ye6 (a:=a) (by simp:a::l≠[])];exact c _ (List.getLast_mem _)
theorem ZDl (op : Nat) (f : op <= 4) (l : List Int) (g : l.length <= 10000) (a : ∀ y ∈ l, vOk y) (w : World) : CP 174 #[talV l, Vi op] w fun e u => e = .returned (Vi (cutV (ZfI op l))) /\ BW w u := by
  have c:=ZwS a;have d:=ZxP a;have e1:cutV (maxL (l.headD 0) l)=maxL (l.headD 0) l:=Zlh (ZqV l _ c a);have e2:cutV (minL (l.headD 0) l)=minL (l.headD 0) l:=Zlh (Zq5 l _ c a);have e3:cutV (l.length:Int)=l.length:=Zlh (by unfold vOk;omega);unfold ZfI talV talC;unfold vOk at c d;generalize maxL (l.headD 0) l=mx at *
  generalize minL (l.headD 0) l=mn at *
  generalize l.headD 0=hd at *
  generalize l.getLastD 0=la at *
  generalize l.sum=sm at *
  generalize l.length=ln at *
  clear a;rcases(by omega:op=0∨op=1∨op=2∨op=3∨op=4)with rfl|rfl|rfl|rfl|rfl
  · simp only[if_true]
    go_enter func174,ntmps174
    go_wp2_with (go_at_call 192;refine(ZiJ).mono ?_;rintro e u ⟨rfl,rfl⟩)
    go_ret;exact⟨rfl,belB⟩
  · simp only[Nat.one_ne_zero,if_false,if_true,e1]
    go_enter func174,ntmps174;go_wp2;go_ret;exact⟨rfl,belB⟩
  · rw[if_neg Dc,if_neg Dc,if_pos rfl,e2]
    go_enter func174,ntmps174;go_wp2;go_ret;exact⟨rfl,belB⟩
  · rw[if_neg Dc,if_neg Dc,if_neg Dc,if_pos rfl,e3]
    go_enter func174,ntmps174;go_wp2;go_ret;exact⟨rfl,belB⟩
  · rw[if_neg Dc,if_neg Dc,if_neg Dc,if_neg Dc]
    go_enter func174,ntmps174
    go_wp2_with (go_at_call 192;refine(ZiJ).mono ?_;rintro e u ⟨rfl,rfl⟩)
    go_ret;exact⟨rfl,belB⟩
theorem ZgR {a:Option Addr} {n c:Nat} {tx:BA} {w:World} : CP 124 #[.agg #[.slice a n c, .string tx]] w fun e u => e = .returned (.string tx) /\ ∃ o, u = w.alloc o := by
  go_enter func124,ntmps124;go_wp2;go_ret;exact⟨rfl,_,rfl⟩
def cmpV(x y:LB):Int:=if Op.bytesLess x y then -1 else if Op.bytesLess y x then 1 else 0
theorem ZjM {s:BA} {w:World} : CP 229 #[.string s] w fun e u => e = .returned (.bool false) /\ u = w := by
  go_enter func229,ntmps229;go_wp2;go_ret;exact⟨by simp,rfl⟩
theorem Zra {s:BA} {w:World} : CP 227 #[.string s] w fun e u => e = .returned (.bool false) /\ u = w := by
  go_enter func227,ntmps227;go_wp2;go_ret;exact⟨by simp,rfl⟩
theorem Zoe {a b:BA} {w:World} : CP 200 #[.string a, .string b] w fun e u => e = .returned (Vi (cmpV (bl a) (bl b))) /\ u = w := by
  obtain⟨r,c⟩:∃r,r=cmpV (bl a) (bl b):=⟨_,rfl⟩
  rw[<-c];unfold cmpV at c;rw[<-Zbt,<-Zbt]at c;obtain⟨p,g⟩:∃p,Op.bytesLess a.toList b.toList=p:=⟨_,rfl⟩
  obtain⟨q,f⟩:∃q,Op.bytesLess b.toList a.toList=q:=⟨_,rfl⟩
  rw[g,f]at c;have d:Hid (r=if p=true then -1 else if q=true then 1 else 0):=c;clear c;cases p
  · cases q
    · obtain rfl:r=0:=d.out
      have h:(a.toList == b.toList)=true:=by rw[beq_iff_eq];exact Zdh _ _ g f
      clear d;go_enter func200,ntmps200
      go_wp2_with (go_at_call 229;refine(ZjM).mono ?_;rintro e u ⟨rfl,rfl⟩)
      go_ret;exact⟨rfl,rfl⟩
    · obtain rfl:r=1:=d.out
      have h:(a.toList == b.toList)=false:=by rw[beq_eq_false_iff_ne];intro e;rw[e,ZcL]at f;cases f
      clear d;go_enter func200,ntmps200
      go_wp2_with (go_at_call 229;refine(ZjM).mono ?_;rintro e u ⟨rfl,rfl⟩)
      go_ret;exact⟨rfl,rfl⟩
  · obtain rfl:r=-1:=d.out
    clear d;go_enter func200,ntmps200
    go_wp2_with (go_at_call 229;refine(ZjM).mono ?_;rintro e u ⟨rfl,rfl⟩)
    go_ret;exact⟨rfl,rfl⟩
theorem ZxX (a b : BA) (w : World) : CP 223 #[.string a, .string b] w fun e u => e = .returned (.bool (Op.bytesLess (bl a) (bl b))) /\ u = w := by
  rw[<-Zbt,<-Zbt];generalize c:Op.bytesLess a.toList b.toList=p;go_enter func223,ntmps223
  go_wp2_with (go_at_call 229;refine(ZjM).mono ?_;rintro e u ⟨rfl,rfl⟩)
  go_ret;exact⟨by first|rfl|simp[c],rfl⟩
theorem Zem{s:BA}{a:Array UInt8}(h:bl s=a.toList):s=⟨a⟩:=by
 cases s with
 | mk d=>unfold bl at h;simp at h;rw[h]
theorem ZqY (c : BA) (op : Nat) (d : op <= 4) (h : bl c = Z0.getD op []) (w : World) : CP 131 #[.string c] w fun e u => e = .returned (Vi op) /\ u = w := by
  rcases(by omega:op=0∨op=1∨op=2∨op=3∨op=4)with rfl|rfl|rfl|rfl|rfl
  · obtain rfl:=Zem (a:=#[116,111,116,97,108]) h
    go_enter func131,ntmps131;go_wp2;go_ret;exact⟨rfl,rfl⟩
  · obtain rfl:=Zem (a:=#[112,101,97,107]) h
    go_enter func131,ntmps131;go_wp2;go_ret;exact⟨rfl,rfl⟩
  · obtain rfl:=Zem (a:=#[108,111,119]) h
    go_enter func131,ntmps131;go_wp2;go_ret;exact⟨rfl,rfl⟩
  · obtain rfl:=Zem (a:=#[115,105,122,101]) h
    go_enter func131,ntmps131;go_wp2;go_ret;exact⟨rfl,rfl⟩
  · obtain rfl:=Zem (a:=#[114,105,115,101]) h
    go_enter func131,ntmps131;go_wp2;go_ret;exact⟨rfl,rfl⟩
theorem ZqX (c : BA) (op : Nat) (d : op <= 3) (h : bl c = ZW.getD op []) (w : World) : CP 131 #[.string c] w fun e u => e = .returned (Vi op) /\ u = w := by
  rcases(by omega:op=0∨op=1∨op=2∨op=3)with rfl|rfl|rfl|rfl
  · obtain rfl:=Zem (a:=#[115,117,109]) h
    go_enter func131,ntmps131;go_wp2;go_ret;exact⟨rfl,rfl⟩
  · obtain rfl:=Zem (a:=#[109,97,120]) h
    go_enter func131,ntmps131;go_wp2;go_ret;exact⟨rfl,rfl⟩
  · obtain rfl:=Zem (a:=#[109,105,110]) h
    go_enter func131,ntmps131;go_wp2;go_ret;exact⟨rfl,rfl⟩
  · obtain rfl:=Zem (a:=#[99,111,117,110,116]) h
    go_enter func131,ntmps131;go_wp2;go_ret;exact⟨rfl,rfl⟩
theorem ZJU.zero{w:World}{p:PV}{ns:List (LB)}(h:ZJU w 0 p ns):∃bs:List BA,p.bn=bs.length/\w.ownsRow 0 9 1 (.slice p.ba bs.length p.bc) bs.length (bs.map .string)/\bs.map bl=ns:=by
 obtain⟨bs,c,d⟩:=h;obtain⟨av,cp,a⟩:=Zl c;injection a with _ a _;exact⟨bs,a,by rw[<-a];rw[<-a]at c;exact c,d⟩
section
variable {P:Program} {ops:Array Oper} {Q:Exit->Act->World->Prop} {md:Region.Mode} {S:World->Prop} {k:Nat}
def ZcJ(P:Program)(md:Region.Mode)(ops:Array Oper)(Q:Exit->Act->World->Prop)(S:World->Prop)(k:Nat):Nat->Array Bool->Act->World->Prop
 | 0,ls,a,w=>Region.ready md ops ls=[]/\Q .normal a w
 | f + 1, ls, a, w => (Region.ready md ops ls = [] -> Q .normal a w) /\ ∀ i ∈ Region.ready md ops ls,
     wpOp P ops Q i (fun a' w'=>((ls.setIfInBounds i true).getD k true=false->S w')/\ZcJ P md ops Q S k f (ls.setIfInBounds i true) a' w') a w
theorem ZcJ.any:∀(f:Nat) (ls:Array Bool) (a:Act) (w:World),ZcJ P md ops Q S k f ls a w->wpAny P md ops Q f ls a w
 | 0,_,_,_,h=>h
 | f+1,_,_,_,h=>⟨h.1,fun i c=>wpOp_mono (fun _ _ d=>ZcJ.any f _ _ _ d.2) (h.2 i c)⟩
def ZfE(md:Region.Mode)(ops:Array Oper)(ls:Array Bool):Bool:=
 (List.range ops.size).all fun j=>!ls.getD j true || ((ops[j]?).map (·.after.all fun e=>!Region.binds md e || ls.getD e.on false)).getD false
def Zhk(md:Region.Mode)(ops:Array Oper)(i:Nat):Nat->Nat->Bool
 | 0,_=>false
 | n+1,j=>((ops[j]?).map (·.after.any fun e=>Region.binds md e && (e.on == i || Zhk md ops i n e.on))).getD false
theorem Zsl{ls:Array Bool} : ZfE md ops ls=true ↔ ∀j o,ops[j]?=some o->ls.getD j true=true->∀e∈o.after,Region.binds md e=true->ls.getD e.on false=true:=by
 unfold ZfE;rw[Ybu];constructor
 ·intro h j o a c e d f;have g:=h j (Yb9.2 (Yae.1 a).1);rw[c,a]at g;simp only[Bool.not_true,Yft,Ybf,Ya6,Array.all_eq_true']at g;have i:=g e d;rw[f]at i;simpa using i
 ·intro h j c;rw[Yb9]at c;have a:ops[j]?=some ops[j]:=Array.getElem?_eq_getElem c;cases l:ls.getD j true with
  | false=>rfl
  | true=>
   rw[a];simp only[Bool.not_true,Yft,Ybf,Ya6,Array.all_eq_true'];intro e d;cases f:Region.binds md e with
   | false=>rfl
   | true=>simpa using h j _ a l e d f
theorem ZCb{ls:Array Bool}{j:Nat}(h:ZfE md ops ls=true)(n:j∈Region.ready md ops ls):ZfE md ops (ls.setIfInBounds j true)=true:=by
 rw[Zsl]at h ⊢;intro i o a f e g l;obtain⟨_,oj,m,d⟩:=mem_ready.1 n;by_cases c:j=i
 ·subst c;rw[m]at a;injection a with a;subst a;exact getD_set_true (d e g l)
 ·rw[getD_set_ne true c]at f;exact getD_set_true (h i o a f e g l)
theorem Zs6{ls:Array Bool}{i:Nat}(h:ZfE md ops ls=true)(g:ls.getD i true=false):∀(n j:Nat),Zhk md ops i n j=true->ls.getD j true=false
 | 0,_,a=>by cases a
 | n + 1, j, a => by
   cases q:ls.getD j true with
   | false=>rfl
   | true=>
     unfold Zhk at a;cases d:ops[j]? with
     | none=>rw[d]at a;cases a
     | some o=>
       rw[d]at a;simp only[Ybf,Ya6,Array.any_eq_true',Yas,Yct,beq_iff_eq]at a;obtain⟨e,r,s,l⟩:=a;have c:=Zsl.1 h j o d q e r s
       have m:ls.getD e.on true=false:=by
         rcases l with p|t
         · rw[p];exact g
         · exact Zs6 h g n _ t
       exfalso
       rcases Yav e.on ls.size with f|f
       · simp[f]at c m;rw[m]at c;cases c
       · simp[f]at c
theorem Ztl{i n:Nat}{oi:Oper}{v:Value}(A:ops[i]?=some oi)(l:∀(j:Nat) (o:Oper) cs b,ops[j]?=some o->o.op≠.select cs b)
  (R:∀c a w,Q (.panic c) (a.put oi.dst v) w->Q (.panic c) a w) (T:Zhk md ops i n k=true) (E:i≠k) :
  ∀(f:Nat) (ls:Array Bool) (a:Act) (w:World),ZfE md ops ls=true->
   (∀j oj,ops[j]?=some oj->j≠i->ls.getD j true=false->(∀e∈oj.after,Region.binds md e=true->e.on≠i)->oi.apart ops oj=true)->
   i∈Region.ready md ops ls->YieldsIf P ops S oi v a->S w->
   ZcJ P md ops Q S k f (ls.setIfInBounds i true) (a.put oi.dst v) w->ZcJ P md ops Q S k (f+1) ls a w
 | 0, ls, a, w, F, g, p, B, s, H => by
   refine⟨fun h=>(by rw[h]at p;cases p),fun j t=>?_⟩;by_cases d:j=i
   · subst d;exact B.wpOp A s ⟨fun _=>s,H⟩
   · have C:=ready_mono t d
     rw[H.1]at C;cases C
 | f + 1, ls, a, w, F, g, p, B, s, H => by
   refine⟨fun h=>(by rw[h]at p;cases p),fun j t=>?_⟩;by_cases d:j=i
   · subst d;exact B.wpOp A s ⟨fun _=>s,H⟩
   · have C:=H.2 j (ready_mono t d)
     obtain⟨x,oj,y,K⟩:=mem_ready.1 t;have q:=(mem_ready.1 p).1
     have L : ∀ e ∈ oj.after, Region.binds md e = true -> e.on ≠ i := fun e X Y U => by
       have r:=K e X Y;rw[U]at r;rcases Yav i ls.size with M|M
       · simp[M]at q r;rw[q]at r;cases r
       · simp[M]at r
     have z:=ZCb F t;have D:(ls.setIfInBounds j true).getD i true=false:=by rw[getD_set_ne true d];exact q
     have N:(ls.setIfInBounds j true).getD k true=false:=Zs6 z D n k T;have r:=wpOp_putIf y (g j oj y d x L) (fun cs b=>l i oi cs b A) (fun cs b=>l j oj cs b y) R B C;refine wpOp_mono (fun a' u O=>?_) r;have G:S u:=O.2.1 (by rw[Ye4 _ _ (Ycp d),getD_set_ne true E];exact N);refine⟨fun _=>G,Ztl A l R T E f (ls.setIfInBounds j true) a' u z (fun m om Z V I W=>g m om Z V ?_ W) (ready_mono p (Ycp d)) O.1 G ?_⟩
     · by_cases J:j=m
       · subst J;exact x
       · rw[getD_set_ne true J]at I;exact I
     · rw[Ye4 _ _ d]
       exact O.2.2
theorem ZeD{i d:Nat}{oi:Oper}{v:Value}{f:Nat}{ls:Array Bool}{a:Act}{w:World}(e:ops[i]?=some oi)(hd:oi.dst=some d)(g:(Region.noSelect ops && Region.free md ops ls i && (Region.ready md ops ls).contains i && Zhk md ops i ops.size k && ZfE md ops ls && i != k)=true)
  (j:∀c a w,Q (.panic c) (a.put oi.dst v) w->Q (.panic c) a w) (l:YieldsIf P ops S oi v a) (m:S w)
  (h:ZcJ P md ops Q S k f (ls.setIfInBounds i true) { a with tmps:=a.tmps.setIfInBounds d v } w):ZcJ P md ops Q S k (f+1) ls a w:=by
 simp only[Yas,bne_iff_ne]at g;obtain⟨⟨⟨⟨⟨n,o⟩,p⟩,q⟩,r⟩,s⟩:=g;exact Ztl e (Region.noSelect_spec n) j q s f ls a w r (Region.free_spec e o) (by simpa using p) l m (by rw[hd];exact h)
theorem Z4{i:Nat}{o:Oper}{f:Nat}{ls:Array Bool}{a:Act}{w:World}(c:Region.ready md ops ls=[i])(l:ops[i]?=some o)
  (h:∀K':Act->World->Prop,Shut (∀a w,S w->(S w->ZcJ P md ops Q S k f (ls.setIfInBounds i true) a w)->K' a w)->if Region.wanted o (yielded ops a.tmps)=true then Oper.wp P o a w K' Q else K' (a.put o.dst undef) w):ZcJ P md ops Q S k (f+1) ls a w:=by
 refine⟨fun d=>(by rw[c]at d;cases d),fun j e=>?_⟩;rw[c,Yap]at e;subst e;exact wpOp_step l (fun K' m=>h K' (fun a w g n=>m a w ⟨fun _=>g,n g⟩))
theorem Zbl{o:Oper}{f:Nat}{ls:Array Bool}{a:Act}{w:World}(g:Region.ready md ops ls=[k])(e:Region.ready md ops (ls.setIfInBounds k true)=[])(l:ops[k]?=some o)(m:(ls.setIfInBounds k true).getD k true=true)
  (h:∀K':Act->World->Prop,Shut (∀a w,Q .normal a w->K' a w)->if Region.wanted o (yielded ops a.tmps)=true then Oper.wp P o a w K' Q else K' (a.put o.dst undef) w):ZcJ P md ops Q S k (f+1) ls a w:=by
 refine⟨fun c=>(by rw[g]at c;cases c),fun j d=>?_⟩;rw[g,Yap]at d;subst d;refine wpOp_step l (fun K' n=>h K' (fun a w i=>n a w ⟨fun c=>(by rw[m]at c;cases c),?_⟩));cases f with
 | zero=>exact⟨e,i⟩
 | succ f=>exact⟨fun _=>i,fun j d=>by rw[e]at d;cases d⟩
theorem Zbn{id:Nat}{a:Act}{w:World}(k:Nat)(S:World->Prop)(c:P.follows .mixedOrders=true)(d:S w.drew)(h:S w.drew->ZcJ P .any ops Q S k ops.size (Array.replicate ops.size false) a w.drew):(Code.region id ops true).wp P Q a w:=
 wp_region_any c (ZcJ.any _ _ _ _ (h d))
end
end Go.Proofs.YtpbemaaghbbocaaGreatDoor
namespace Go.Proofs.YtpbemaaghbbocaaGreatDoor
open Go.RowKit LS Go.Proofs.Tryz
section
variable {P:Program} {ops:Array Oper} {Q:Exit->Act->World->Prop} {md:Region.Mode} {S:World->Prop} {k:Nat}
theorem Za (i : Nat) {d : Nat} {oi : Oper} {v : Value} {f : Nat} {ls ls' : Array Bool} {a : Act} {tm' : Array Value} {w : World} (e : S w) (g : ops[i]? = some oi := by rfl) (hd : oi.dst = some d := by rfl) (j : (Region.noSelect ops && Region.free md ops ls i && (Region.ready md ops ls).contains i && Zhk md ops i ops.size k && ZfE md ops ls && i != k) = true := by kernel_rfl)
    (l:∀c a w,Q (.panic c) (a.put oi.dst v) w->Q (.panic c) a w:=by exact fun _ _ _ h=>h) (m:YieldsIf P ops S oi v a:=by(refine Or.inl ⟨by rfl,?_⟩;intro w hSw;go_simp;try with_reducible rfl)) (n:ls.setIfInBounds i true=ls':=by(try simp only[Zset]);rfl) (o:a.tmps.setIfInBounds d v=tm':=by(try simp only[Zset]);rfl)
    (h:ZcJ P md ops Q S k f ls' { a with tmps:=tm' } w):ZcJ P md ops Q S k (f+1) ls a w:=by
  subst n o;exact ZeD g hd j l m e h
end
end Go.Proofs.YtpbemaaghbbocaaGreatDoor
namespace Go.Proofs.YtpbemaaghbbocaaGreatDoor
open Go.RowKit LS Go.Proofs.Tryz
theorem ZmD{w:World}{base:Nat}{e:TypeId}{g n cap:Nat}{xs:List Value}(h:w.ownsRow base e 1 (.slice (some ⟨g,0,none⟩) n cap) n xs)(i:Nat)(u:Value):(w.setCell ⟨g,i,none⟩ u).ownsRow base e 1 (.slice (some ⟨g,0,none⟩) n cap) n (xs.set i u):=by
 obtain⟨c,h⟩:=h;refine⟨by rw[List.length_set];exact c,?_⟩;rcases h with ⟨h,_⟩|⟨g',cap',cur,d,f,j,k,l,m,a⟩
 ·cases h
 ·injection d with h1 _ h3;injection h1 with h1;injection h1 with h1;subst h1 h3;refine Or.inr ⟨g,cap,cur.setIfInBounds i u,rfl,f,?_,k,l,by simpa using m,?_⟩
  ·simp[World.setCell,Ybn,j]
  ·rw[Nat.mul_one]at a ⊢;rw[<-a,Array.toList_setIfInBounds,List.take_set]
theorem ZB6(c k:Nat)(f:Nat->Value){z:Value}(a:k<c):((List.range k).map f++List.replicate (c - k) z).set k (f k)=(List.range (k+1)).map f++List.replicate (c - (k+1)) z:=by
 have e:c - k=(c - (k+1))+1:=by omega
 rw[e,List.replicate_succ,List.set_append_right _ _ (by simp),Ygx,Yaq,Yan];simp
theorem Tryz.infoInt3:(Tryz.prog.info? 3).map (fun i=>(i.zero,i.size,i.bytes))=some (some (Vi 0),1,8):=by kernel_rfl
theorem Zf9 {t:Int} {w:World} : CP 84 #[Vi t] w fun e u => e = .returned (.bool (decide (-1000000 <= t) && decide (t <= 1000000))) /\ u = w := by
  by_cases a : -1000000<=t
  · by_cases c:t<=1000000
    · rw[show(decide (-1000000<=t) && decide (t<=1000000))=true by simp;omega]
      go_enter func84,ntmps84;go_wp2;go_ret;exact⟨rfl,rfl⟩
    · rw[show(decide (-1000000<=t) && decide (t<=1000000))=false by simp;omega]
      go_enter func84,ntmps84;go_wp2;go_ret;exact⟨rfl,rfl⟩
  · rw[show(decide (-1000000<=t) && decide (t<=1000000))=false by simp;omega]
    go_enter func84,ntmps84;go_wp2;go_ret;exact⟨rfl,rfl⟩
theorem Zqi{ns ms:List (LB)}(h:∀z,z∈ns ↔ z∈ms)(l:List Lab):ZB l ns=ZB l ms:=by
 unfold ZB;refine Ygl (fun p _=>?_);rw[Ybh,Ydk,Ydk];exact h p.1
theorem ZpH{ns ms:List (LB)}(h:∀z,z∈ns ↔ z∈ms)(op:Nat)(all:List El):∀(l pre:List El),ZcF op ns all pre l=ZcF op ms all pre l
 | [],_=>rfl
 | e :: l, pre => by
   rw[ZcF,ZcF,ZpH h op all l (pre++[e])];have a:(fun f:El=>ZB f.1 ns)=fun f=>ZB f.1 ms:=funext fun f=>Zqi h f.1;simp only[Zqi h]
theorem ZpJ{ns ms:List (LB)}(h:∀z,z∈ns ↔ z∈ms)(op:Nat)(l:List El):Zcv op ns l=Zcv op ms l:=by unfold Zcv;rw[ZpH h]
theorem Zmw:∀l:List (LB),l.length<=nw l
 | []=>Yac _
 | c::l=>by have:=Zmw l;simp only[nw,Yaj];omega
theorem VOk.mono{m n:Nat}{V:VV}(h:VOk m V)(a:m<=n):VOk n V:=by
 cases V with
 | inl _=>trivial
 | inr l=>exact⟨h.1,Yah h.2 a⟩
def Zd6(c n:Int):Int:=if c<0 then -((c+1).tmod n)else c % n
theorem ZmM(c n:Int)(a:1<=n):0<=Zd6 c n/\Zd6 c n<n:=by
 unfold Zd6;split
 ·rw[<-Int.neg_tmod,Int.tmod_eq_emod_of_nonneg Om];exact⟨Int.emod_nonneg _ Om,Int.emod_lt_of_pos _ Om⟩
 ·exact⟨Int.emod_nonneg _ Om,Int.emod_lt_of_pos _ Om⟩
theorem ZAC(c n:Int)(f : -9223372036854775808<=c)(g:c<=9223372036854775807)(a:1<=n)(i:n<=9223372036854775807){w:World} :
  CP 12 #[Vi c,Vi n] w fun e u=>e=.returned (Vi (Zd6 c n))/\u=w:=by
 have d:=ZmM c n a;have j:¬n=0:=by omega
 go_enter func12,ntmps12;by_cases h:c<0
 ·have e:Zd6 c n=-((c+1).tmod n):=by unfold Zd6;rw[if_pos h]
  rw[e]at d;rw[e];go_wp2;go_ret;exact⟨rfl,rfl⟩
 ·have e:Zd6 c n=c % n:=by unfold Zd6;rw[if_neg h]
  rw[e]at d;rw[e];go_wp2;go_ret;exact⟨rfl,rfl⟩
end Go.Proofs.YtpbemaaghbbocaaGreatDoor
