/- Parts. -/
import Derived.Lib.SplitLaws
import Derived.Test.YtpbemaaghbbocaaGreatDoorW05
import Derived.BigQuiet
set_option linter.all false
set_option maxRecDepth 100000
set_option maxHeartbeats 16000000
namespace Go.Proofs.YtpbemaaghbbocaaGreatDoor.LS
open Go Go.RowKit
theorem Zjj (c : UInt8) (l : LB) : Lib.index l [c] = match seek c l with | none => -1 | some i => (i : Int) := by
  induction l with
  | nil=>rfl
  | cons b l ih=>
    unfold Lib.index seek;by_cases a:b=c
    · subst a;simp[List.isPrefixOf]
    · have d:[c].isPrefixOf (b::l)=false:=by simp[List.isPrefixOf,Ycp a]
      have e:(b == c)=false:=by simp[a]
      rw[if_neg (by simp[d]),ih,e];cases seek c l with
      | none=>rfl
      | some i=>
        have f:¬(((i:Int) == -1)=true):=by simp
        simp only[Yde,if_false,Ybf];rw[if_neg f];rfl
theorem Zyn{c:UInt8}{l x y:LB}(h:cut c l=some (x,y)):Lib.cut l [c]=(x,y,true):=by
 unfold cut at h;cases a:seek c l with
 | none=>rw[a]at h;cases h
 | some i=>
  rw[a]at h;simp only[Ybf,Yci,Yc5]at h;unfold Lib.cut;rw[Zjj,a];simp only[Ybj,Int.toNat_natCast];rw[if_pos Om,h.1,h.2]
theorem Zym{c:UInt8}{l:LB}(h:cut c l=none):Lib.cut l [c]=(l,[],false):=by
 unfold cut at h;cases a:seek c l with
 | some i=>rw[a]at h;cases h
 | none=>
  unfold Lib.cut;rw[Zjj,a];rfl
theorem Zdx{c:UInt8}{l x y:LB}(h:cut c l=some (x,y)):l=x++c::y/\c∉x:=by
 unfold cut at h;cases d:seek c l with
 | none=>rw[d]at h;cases h
 | some i=>
  rw[d]at h;simp only[Ybf,Yci,Yc5]at h;obtain⟨a,b,rfl,rfl,e⟩:=Ziv d;have e1:x=a:=by rw[<-h.1];simp
  have e2:y=b:=by rw[<-h.2];simp
  subst e1;subst e2;exact⟨rfl,e⟩
theorem ZoE{c:UInt8}{x y:LB}(h:c∉x):cut c (x++c::y)=some (x,y):=by
 unfold cut;rw[Zgq c x y h];simp
theorem Zsq(c:UInt8):∀(n:Nat) (l:LB),l.length<=n->Lib.splitK [c] 0 (Lib.count l [c]) l=split c l:=by
 intro n
 induction n with
 | zero=>
  intro l g;obtain rfl:l=[]:=Ygc.1 Om;rw[Lib.count_miss rfl];rfl
 | succ n ih=>
  intro l g;cases d:seek c l with
  | none=>
   rw[Lib.count_miss (by rw[Zjj,d])];have e:=(Zj9 c l).1 d;have:=Zhb c l [] e;rw[Yca]at this;rw[this];simp[Lib.splitK,split,pre]
  | some i=>
   obtain⟨a,b,rfl,rfl,e⟩:=Ziv d;have f:Lib.index (a++c::b) [c]=(a.length:Int):=by rw[Zjj,d]
   rw[Lib.count_hit (by simp) f];have e1:(a++c::b).drop (a.length + [c].length)=b:=by simp
   rw[e1,Nat.add_comm,Lib.splitK,if_neg (by rw[f];simp),f];rw[show((a.length:Int)).toNat=a.length by omega,e1,ih b (by simp at g;omega),Zhb c a _ e,Zhc];simp[pre]
def ZbI(c:UInt8):LB->LB×Bool
 | []=>([],false)
 | b::t=>if b == c then (t,true)else (b::t,false)
theorem Zyo(c:UInt8)(l:LB):(Lib.trimPrefix l [c],Lib.hasPrefix l [c])=ZbI c l:=by
 cases l with
 | nil=>rfl
 | cons b t=>
  by_cases a:b=c
  ·subst a;simp[Lib.trimPrefix,Lib.hasPrefix,ZbI]
  ·have d:[c].isPrefixOf (b::t)=false:=by simp[List.isPrefixOf,Ycp a]
   simp[Lib.trimPrefix,Lib.hasPrefix,ZbI,a,d]
theorem Znm(c:UInt8)(l:LB):(ZbI c l).1.length<=l.length:=by
 cases l with
 | nil=>simp[ZbI]
 | cons b t=>by_cases h:(b == c)=true <;> simp[ZbI,h]
def Zds(d:LB):Bool:=match ZQ 1000000000 (ZbI 45 d).1 with
 | none=>false
 | some v=>!((ZbI 45 d).2 && v == 0)
def Zdn(t:LB):Option Nat:=match cut 58 t with
 | none=>none
 | some (a, d) => match ZQ 1000000 a with
   | none=>none
   | some tm=>if Zds d then some tm else none
def Zcq:Int->Nat->List (LB)->Option Nat
 | _,n,[]=>some n
 | last, n, x :: xs => match Zdn x with
   | none=>none
   | some t=>if (t:Int)<=last then none else Zcq t (n+1) xs
def Zcz(l:LB):Option Nat:=match ZbI 32 l with
 | (r,f)=>if l=[] then some 0 else if f then Zcq (-1) 0 (split 32 r)else none
def leS(a b:LB):Bool:=Op.bytesLess a b || a == b
def Zd5(last:LB)(x:LB):Option (LB×LB):=match cut 61 x with
 | none=>none
 | some (n,v)=>if Zx n && Z3 v && !v.isEmpty && !leS n last then some (n,v)else none
def ZbS:LB->List (LB×LB)->List (LB)->Option (List (LB×LB))
 | _,acc,[]=>some acc
 | last, acc, x :: xs => match Zd5 last x with
   | none=>none
   | some p=>ZbS p.1 (acc++[p]) xs
def Zcc(l:LB):Option (List (LB×LB)):=if l=[] then some [] else ZbS [] [] (split 44 l)
def line(l:LB):Option (LB×LB×Nat):=match cut 123 l with
 | none=>none
 | some (name, rest) => match cut 125 rest with
   | none=>none
   | some (inside,behind)=>if Zx name && (Zcc inside).isSome then (Zcz behind).map (fun n=>(name,inside,n))else none
theorem ZjF{l:LB}(h:cut 123 l=none):line l=none:=by unfold line;rw[h]
theorem ZjE{l name rest:LB}(h:cut 123 l=some (name,rest))(a:cut 125 rest=none):line l=none:=by unfold line;rw[h];simp only[a]
theorem ZjG{l name rest inside behind:LB}(h:cut 123 l=some (name,rest))(a:cut 125 rest=some (inside,behind)) :
  line l=if Zx name && (Zcc inside).isSome then (Zcz behind).map (fun n=>(name,inside,n))else none:=by unfold line;rw[h];simp only[a]
structure Entry where
 at_:Nat
 name:LB
 inside:LB
 count:Nat
def Zbh:Nat->List Entry->List (LB)->Nat ⊕ List Entry
 | _,acc,[]=>.inr acc
 | i, acc, x :: xs => if x = [] then Zbh (i + 1) acc xs else match line x with
   | none=>.inl i
   | some (a,b,n)=>Zbh (i+1) (acc++[⟨i,a,b,n⟩]) xs
theorem Zyw{i:Nat}{acc:List Entry}{ps:List (LB)}(a:i<ps.length)(h:ps.getD i []=[]):Zbh i acc (ps.drop i)=Zbh (i+1) acc (ps.drop (i+1)):=by
 have e:ps.getD i []=ps[i]:=by simp[a]
 rw[List.drop_eq_getElem_cons a,Zbh,<-e,if_pos h]
theorem Zyu{i:Nat}{acc:List Entry}{ps:List (LB)}(a:i<ps.length)(h:ps.getD i []≠[])(c:line (ps.getD i [])=none):Zbh i acc (ps.drop i)=.inl i:=by
 have e:ps.getD i []=ps[i]:=by simp[a]
 rw[List.drop_eq_getElem_cons a,Zbh,<-e,if_neg h,c]
theorem Zyv{i:Nat}{acc:List Entry}{ps:List (LB)}(c:i<ps.length)(h:ps.getD i []≠[]){a b:LB}{n:Nat}(d:line (ps.getD i [])=some (a,b,n)) :
  Zbh i acc (ps.drop i)=Zbh (i+1) (acc++[⟨i,a,b,n⟩]) (ps.drop (i+1)):=by
 have e:ps.getD i []=ps[i]:=by simp[c]
 rw[List.drop_eq_getElem_cons c,Zbh,<-e,if_neg h,d]
theorem Zyx{i:Nat}{acc:List Entry}{ps:List (LB)}(a:¬i<ps.length):Zbh i acc (ps.drop i)=.inr acc:=by
 rw[Yb8 Om];rfl
end Go.Proofs.YtpbemaaghbbocaaGreatDoor.LS
namespace Go.Proofs.YtpbemaaghbbocaaGreatDoor
open Go.RowKit LS Go.Proofs.Tryz
theorem Zri(most:Nat)(l:LB) : -1<=numI most l/\numI most l<=most:=by
 cases h:ZQ most l with
 | none=>rw[Zrj h];omega
 | some v=>rw[ZgX h];have:=Zgh h;omega
def Zca:List (Int×Int)->List Value
 | []=>[]
 | x::l=>.int .i64 x.1::.int .i64 x.2::Zca l
theorem Zwg(l m:List (Int×Int)):Zca (l++m)=Zca l++Zca m:=by
 induction l with
 | nil=>rfl
 | cons a l ih=>simp[Zca,ih]
theorem Zwh (l : List (Int × Int)) (j : Nat) : (Zca l)[j * 2]? = l[j]?.map (fun x => Vi x.1) /\ (Zca l)[j * 2 + 1]? = l[j]?.map (fun x => Vi x.2) := by
  induction l generalizing j with
  | nil=>simp[Zca]
  | cons r l ih=>
    cases j with
    | zero=>simp[Zca]
    | succ j=>
      obtain⟨a,c⟩:=ih j;refine⟨?_,?_⟩
      · rw[show(j+1)*2=j*2+1+1 by omega];simpa [Zca] using a
      · rw[show(j+1)*2+1=j*2+1+1+1 by omega];simpa [Zca] using c
def smOk(x:Int×Int):Prop:=-1000000<=x.1/\x.1<=1000000/\-1000000000<=x.2/\x.2<=1000000000
def valI(d:LB):Int:=match ZbI 45 d with
 | (d',less)=>if less then -(numI 1000000000 d')else numI 1000000000 d'
def smV(x:LB):Int×Int:=match cut 58 x with
 | none=>(0,0)
 | some (a,d)=>(numI 1000000 a,valI d)
def Zez:LB->List (Int×Int)
 | []=>[]
 | _::t=>(split 32 t).map smV
theorem ZCr(x:LB):smOk (smV x):=by
 unfold smV;split
 ·unfold smOk;decide
 ·rename_i a d _;have c:=Zri 1000000 a;unfold valI;cases hd:ZbI 45 d with
  | mk d' less=>
   have e:=Zri 1000000000 d';unfold smOk;cases less
   ·simp only[Yde,if_false];omega
   ·simp only[if_true];omega
theorem Zwi{l:List (LB)}{k:Nat}(a:k<l.length){x:LB}(c:x=l.getD k []){t v:Int}(d:smV x=(t,v)):Zca ((l.map smV).take (k+1))=Zca ((l.map smV).take k)++[Vi t,Vi v]:=by
 have e:l[k]=x:=by rw[c,Yaa,List.getElem?_eq_getElem a];rfl
 rw[<-Yer,<-Yer,List.take_succ_eq_append_getElem a,Yaq,Zwg,Yco,e,d];rfl
def Zdo(l:LB):List (Int×Int):=match LS.seek 125 l with
 | some b=>Zez (l.drop (b+1))
 | none=>[]
theorem Zr1{l x r y z:LB}(a:Zx x=true)(d:cut 123 l=some (x,r))(e:cut 125 r=some (y,z)):Zdo l=Zez z:=by
 obtain⟨e1,n1⟩:=Zdx d;obtain⟨e2,n2⟩:=Zdx e
 have f:(125:UInt8)∉x:=by
  intro g;unfold Zx at a;rw[Yas]at a;have:=Ybu.1 a.1 _ g;exact absurd this Dc
 have c:l=(x++123::y)++125::z:=by rw[e1,e2];simp
 have i:LS.seek 125 l=some (x++123::y).length:=by
  rw[c];refine Zgq 125 _ z ?_;rw[Yar,Yau];rintro(h|h|h)
  ·exact f h
  ·exact absurd h Dc
  ·exact n2 h
 unfold Zdo;rw[i,c];simp only
 congr 1
 rw[show(x++123::y)++125::z=((x++123::y)++[125])++z by simp,Ygb (by simp;omega),Yb8 (by simp;omega)];rfl
theorem Zy5(a b:Int)(a1 : -1000000000<=a)(a2:a<=1000000000)(b1 : -1000000000<=b)(b2:b<=1000000000):(a*b).natAbs<=1000000000000000000:=by
 rw[Int.natAbs_mul];have c:a.natAbs<=1000000000:=by omega
 have d:b.natAbs<=1000000000:=by omega
 exact Nat.mul_le_mul c d
theorem ZDy(a b:Int):twoV 0 a b=cutV (a+b):=by simp[twoV]
theorem ZDz(a b:Int):twoV 1 a b=cutV (a - b):=by simp[twoV]
theorem ZDA(a b:Int):twoV 2 a b=cutV (a*b):=by simp[twoV]
theorem ZDC(a:Int):twoV 3 a 0=0:=by simp[twoV]
theorem ZDB(a b:Int)(h:b≠0):twoV 3 a b=a.tdiv b:=by simp[twoV,h]
def vOk(n:Int):Prop:=-1000000000<=n/\n<=1000000000
theorem ZyW(m:Int)(l:List Int)(x:Int):maxL m (l++[x])=if maxL m l<x then x else maxL m l:=by
 induction l generalizing m with
 | nil=>rfl
 | cons a l ih=>exact ih _
theorem Zy1(m:Int)(l:List Int)(x:Int):minL m (l++[x])=if x<minL m l then x else minL m l:=by
 induction l generalizing m with
 | nil=>rfl
 | cons a l ih=>exact ih _
theorem ZhY{n:Int}:vOk (cutV n):=by unfold vOk cutV;split <;> (try split) <;> omega
theorem Zhj(op:Nat)(a b:Int)(c:vOk a):vOk (twoV op a b):=by
 unfold twoV;split
 ·exact ZhY
 split
 ·exact ZhY
 split
 ·exact ZhY
 split
 ·unfold vOk;omega
 ·unfold vOk at *
  have d:(a.tdiv b).natAbs<=a.natAbs:=by rw[Yff];exact Yfg _ _
  omega
def Zhi(l s:Int):Nat->Int->List Int->Option (List Int)
 | 0,_,_=>none
 | n+1,t,acc=>if t<=l then (if acc.length=50 then none else Zhi l s n (t+s) (acc++[t]))else some acc
abbrev badT (f l s:Int):Prop:=f < -1000000∨1000000<f∨l < -1000000∨1000000<l∨s<1∨1000000<s∨l<f
def Zdr(f l s:Int):Option (List Int):=if badT f l s then none else Zhi l s 60 f []
def cnt(l s t:Int):Nat:=if t<=l then ((l - t) / s).toNat+1 else 0
theorem Zoi(l s t:Int)(c:1<=s)(h:t<=l):cnt l s t=cnt l s (t+s)+1:=by
 unfold cnt;rw[if_pos h];by_cases a:t+s<=l
 ·rw[if_pos a]
  have e:(l - t) / s=(l - (t+s)) / s+1:=by
   rw[show l - t=(l - (t+s))+1*s by omega,Int.add_mul_ediv_right _ _ Om]
  have d:0<=(l - (t+s)) / s:=Int.ediv_nonneg Om Om;rw[e];omega
 ·rw[if_neg a];have e:(l - t) / s=0:=Int.ediv_eq_zero_of_lt Om Om;rw[e];rfl
theorem ZsM (l s : Int) (c : 1 <= s) : ∀ (n : Nat) (t : Int) (acc : List Int), acc.length + cnt l s t <= 50 -> cnt l s t < n -> Zhi l s n t acc = some (acc ++ (List.range (cnt l s t)).map fun (i : Nat) => t + (i : Int) * s)
  | 0,_,_,_,h=>absurd h (Ya1 _)
  | n + 1, t, acc, d, e => by
    rw[Zhi];by_cases h:t<=l
    · have a:=Zoi l s t c h
      rw[if_pos h,if_neg Om,ZsM l s c n (t+s) (acc++[t]) (by rw[Yab,Ybj];omega) Om,a,List.range_succ_eq_map,Ybb,Yb1,Yan]
      congr 2
      rw[Yd6]
      congr 1
      · simp
      · refine Ycb (fun i _=>?_)
        simp only[Function.comp];rw[show((Nat.succ i:Nat):Int)=(i:Int)+1 from rfl,Int.add_mul];omega
    · have a:cnt l s t=0:=by unfold cnt;rw[if_neg h]
      rw[if_neg h,a];simp
theorem ZsL(l s:Int)(a:1<=s):∀(n:Nat) (t:Int) (acc:List Int),50<acc.length+cnt l s t->acc.length<=50->50 - acc.length<n->Zhi l s n t acc=none
 | 0,_,_,_,_,h=>absurd h (Ya1 _)
 | n + 1, t, acc, e, f, g => by
   rw[Zhi];by_cases h:t<=l
   · have d:=Zoi l s t a h
     rw[if_pos h];by_cases c:acc.length=50
     · rw[if_pos c]
     · rw[if_neg c]
       exact ZsL l s a n (t+s) (acc++[t]) (by rw[Yab,Ybj];omega) (by rw[Yab,Ybj];omega) (by rw[Yab,Ybj];omega)
   · have d:cnt l s t=0:=by unfold cnt;rw[if_neg h]
     omega
theorem ZsN {f l s : Int} (h : ¬ badT f l s) : Zdr f l s = if 50 < cnt l s f then none else some ((List.range (cnt l s f)).map fun (i : Nat) => f + (i : Int) * s) := by
  have a:1<=s:=by unfold badT at h;omega
  unfold Zdr;rw[if_neg h];split
  · rename_i c
    exact ZsL l s a 60 f [] (by simpa using c) (by simp) (by simp)
  · rename_i c
    rw[ZsM l s a 60 f [] (by simp;omega) Om];rfl
theorem ZiJ {n:Int} {w:World} : Cq 192 #[Vi n] w fun e u => e = .returned (Vi (cutV n)) /\ u = w := by
  rcases(by unfold cutV;split <;> (try split) <;> omega:(1000000000<n/\cutV n=1000000000)∨(n < -1000000000/\cutV n=-1000000000)∨(-1000000000<=n/\n<=1000000000/\cutV n=n))with ⟨h,e⟩|⟨h,e⟩|⟨a,c,e⟩
  all_goals
    rw[e];have d:=hid e;clear e;go_enter func192,ntmps192;go_wp2
    all_goals first|omega|(go_ret;exact⟨rfl,rfl⟩)|(go_ret;exact⟨ZBw Om,rfl⟩)|(obtain rfl:n=-1000000000:= Om;go_ret;exact⟨rfl,rfl⟩)
theorem Zks (op : Nat) (g : op <= 3) (a b : Int) (d : vOk a) (f : vOk b) (w : World) : Cq 165 #[Vi (op + 1 : Nat), Vi a, Vi b] w fun e u => e = .returned (Vi (twoV op a b)) /\ u = w := by
  obtain⟨a1,a2⟩:=d;obtain⟨b1,b2⟩:=f;rcases(by omega:op=0∨op=1∨op=2∨op=3)with rfl|rfl|rfl|rfl
  · rw[ZDy]
    go_enter func165,ntmps165
    go_wp2_with (go_at_call 192;refine(ZiJ).mono ?_;rintro e u ⟨rfl,rfl⟩)
    go_ret;exact⟨rfl,rfl⟩
  · rw[ZDz]
    go_enter func165,ntmps165
    go_wp2_with (go_at_call 192;refine(ZiJ).mono ?_;rintro e u ⟨rfl,rfl⟩)
    go_ret;exact⟨rfl,rfl⟩
  · have i:(Go.IntKind.i64).wrap (a*b)=a*b:=by
      have j:=Zy5 a b a1 a2 b1 b2;generalize a*b=ab at *
      rw[Ybo];omega
    rw[ZDA];go_enter func165,ntmps165
    go_wp2_with (go_at_call 192;refine(ZiJ).mono ?_;rintro e u ⟨rfl,rfl⟩)
    go_ret;exact⟨rfl,rfl⟩
  · have h:(a.tdiv b).natAbs<=a.natAbs:=by rw[Yff];exact Yfg _ _
    have k:(Go.IntKind.i64).wrap (a.tdiv b)=a.tdiv b:=by rw[Ybo];omega
    by_cases c:b=0
    · subst c
      rw[ZDC];go_enter func165,ntmps165;go_wp2;go_ret;exact⟨rfl,rfl⟩
    · rw[ZDB a b c]
      go_enter func165,ntmps165;go_wp2;go_ret;exact⟨rfl,rfl⟩
def talC(l:List Int):List Value:=[Vi l.length,Vi l.sum,Vi (maxL (l.headD 0) l),Vi (minL (l.headD 0) l),Vi (l.headD 0),Vi (l.getLastD 0)]
def talV(l:List Int):Value:=.agg (talC l).toArray
theorem ZyX(m:Int)(l:List Int)(x:Int):maxL m (l++[x])=max (maxL m l) x:=by rw[ZyW];split <;> omega
theorem Zy2(m:Int)(l:List Int)(x:Int):minL m (l++[x])=min (minL m l) x:=by rw[Zy1];split <;> omega
theorem ZxQ(l:List Int)(x:Int):(l++[x]).getLastD 0=x:=by simp[Yey]
theorem ZsC:∀l:List Int,(∀x∈l,vOk x)->-1000000000*(l.length:Int)<=l.sum/\l.sum<=1000000000*(l.length:Int)
 | [],_=>by simp
 | a :: l, h => by
   have e:=ZsC l (fun x c=>h x (Yam _ c));have d:=h a (Yay ..);unfold vOk at d;rw[Yd2,Yaj];omega
theorem ZsT (l : List Int) (x : Int) (k : l.length <= 10000) (d : ∀ y ∈ l, vOk y) (f : vOk x) (w : World) : Cq 173 #[talV l, Vi x] w fun e u => e = .returned (talV (l ++ [x])) /\ BW w u := by
  cases l with
  | nil=>
    unfold talV talC;simp only[Ybq,List.sum_nil,maxL,minL,List.headD_nil,List.getLastD_nil,Ycu,Ybj,List.sum_singleton,List.headD_cons,Yel,Int.lt_irrefl,if_false];go_enter func173,ntmps173;go_wp2;exact bodyPost_ret (v:=.agg #[Vi 1,Vi x,Vi x,Vi x,Vi x,Vi x]) (by simp[results,results173,go_sem]) rfl ⟨by simp,belB⟩
  | cons a l=>
    have c:=ZsC (a::l) d
    have g:Hid (talV ((a::l)++[x])=.agg #[Vi ((l.length:Int)+1+1),Vi ((a::l).sum+x),Vi (max (maxL a (a::l)) x),Vi (min (minL a (a::l)) x),Vi a,Vi x]):=hid (by
      unfold talV talC;rw[ZyX,Zy2,Ygh,ZxQ];simp)
    unfold vOk at f;rw[g.out];unfold talV talC;rw[Yaj]at *
    simp only[List.headD_cons];generalize(a::l).sum=sm at *
    generalize maxL a (a::l)=mx at *
    generalize minL a (a::l)=mn at *
    generalize(a::l).getLastD 0=la at *
    generalize l.length=ln at *
    have i:((ln:Int)+1 == 0)=false:=by rw[beq_eq_false_iff_ne];omega
    push_cast
    have h:=hid c;clear c;have j : -10000000000000<=sm/\sm<=10000000000000:=by have:=h.out;omega
    rcases(by omega:(mx<x/\max mx x=x)∨(x<=mx/\max mx x=mx))with ⟨g1,e1⟩|⟨g1,e1⟩ <;> rcases(by omega:(x<mn/\min mn x=x)∨(mn<=x/\min mn x=mn))with ⟨g2,e2⟩|⟨g2,e2⟩
    · rw[e1,e2]
      go_enter func173,ntmps173;go_wp2
      all_goals first|omega|exact bodyPost_ret (v:=.agg #[Vi ((ln:Int)+1+1),Vi (sm+x),Vi x,Vi x,Vi a,Vi x]) (by simp[results,results173,go_sem]) rfl ⟨rfl,belB⟩
    · rw[e1,e2]
      go_enter func173,ntmps173;go_wp2
      all_goals first|omega|exact bodyPost_ret (v:=.agg #[Vi ((ln:Int)+1+1),Vi (sm+x),Vi x,Vi mn,Vi a,Vi x]) (by simp[results,results173,go_sem]) rfl ⟨rfl,belB⟩
    · rw[e1,e2]
      go_enter func173,ntmps173;go_wp2
      all_goals first|omega|exact bodyPost_ret (v:=.agg #[Vi ((ln:Int)+1+1),Vi (sm+x),Vi mx,Vi x,Vi a,Vi x]) (by simp[results,results173,go_sem]) rfl ⟨rfl,belB⟩
    · rw[e1,e2]
      go_enter func173,ntmps173;go_wp2
      all_goals first|omega|exact bodyPost_ret (v:=.agg #[Vi ((ln:Int)+1+1),Vi (sm+x),Vi mx,Vi mn,Vi a,Vi x]) (by simp[results,results173,go_sem]) rfl ⟨rfl,belB⟩
theorem Zlh{n:Int}(h:vOk n):cutV n=n:=by unfold vOk at h;unfold cutV;split <;> (try split) <;> omega
theorem ZqV:∀(l:List Int) (m:Int),vOk m->(∀x∈l,vOk x)->vOk (maxL m l)
 | [],m,h,_=>h
 | a :: l, m, h, c => by
   rw[maxL];refine ZqV l _ ?_ (fun x d=>c x (Yam _ d));split
   · exact c a (Yay ..)
   · exact h
theorem Zq5:∀(l:List Int) (m:Int),vOk m->(∀x∈l,vOk x)->vOk (minL m l)
 | [],m,h,_=>h
 | a :: l, m, h, c => by
   rw[minL];refine Zq5 l _ ?_ (fun x d=>c x (Yam _ d));split
   · exact c a (Yay ..)
   · exact h
theorem ZwS{l:List Int}(c:∀x∈l,vOk x):vOk (l.headD 0):=by
 cases l with
 | nil=>unfold vOk;decide
 | cons a l=>exact c a (Yay ..)
theorem ZxP{l:List Int}(c:∀x∈l,vOk x):vOk (l.getLastD 0):=by
 cases l with
 | nil=>unfold vOk;decide
 | cons a l=>rw[Yel,<-Ye6 (a:=a) (by simp:a::l≠[])];exact c _ (Ygw _)
theorem ZDl (op : Nat) (f : op <= 4) (l : List Int) (g : l.length <= 10000) (a : ∀ y ∈ l, vOk y) (w : World) : Cq 174 #[talV l, Vi op] w fun e u => e = .returned (Vi (cutV (ZfI op l))) /\ BW w u := by
  have c:=ZwS a;have d:=ZxP a;have e1:cutV (maxL (l.headD 0) l)=maxL (l.headD 0) l:=Zlh (ZqV l _ c a);have e2:cutV (minL (l.headD 0) l)=minL (l.headD 0) l:=Zlh (Zq5 l _ c a);have e3:cutV (l.length:Int)=l.length:=Zlh (by unfold vOk;omega);unfold ZfI talV talC;unfold vOk at c d;generalize maxL (l.headD 0) l=mx at *
  generalize minL (l.headD 0) l=mn at *
  generalize l.headD 0=hd at *
  generalize l.getLastD 0=la at *
  generalize l.sum=sm at *
  generalize l.length=ln at *
  clear a;rcases(by omega:op=0∨op=1∨op=2∨op=3∨op=4)with rfl|rfl|rfl|rfl|rfl
  · simp only[if_true]
    go_enter func174,ntmps174
    go_wp2_with (go_at_call 192;refine(ZiJ).mono ?_;rintro e u ⟨rfl,rfl⟩)
    go_ret;exact⟨rfl,belB⟩
  · simp only[Nat.one_ne_zero,if_false,if_true,e1]
    go_enter func174,ntmps174;go_wp2;go_ret;exact⟨rfl,belB⟩
  · rw[if_neg Dc,if_neg Dc,if_pos rfl,e2]
    go_enter func174,ntmps174;go_wp2;go_ret;exact⟨rfl,belB⟩
  · rw[if_neg Dc,if_neg Dc,if_neg Dc,if_pos rfl,e3]
    go_enter func174,ntmps174;go_wp2;go_ret;exact⟨rfl,belB⟩
  · rw[if_neg Dc,if_neg Dc,if_neg Dc,if_neg Dc]
    go_enter func174,ntmps174
    go_wp2_with (go_at_call 192;refine(ZiJ).mono ?_;rintro e u ⟨rfl,rfl⟩)
    go_ret;exact⟨rfl,belB⟩
theorem ZgR {a:Option Addr} {n c:Nat} {tx:BA} {w:World} : Cq 124 #[.agg #[.slice a n c, .string tx]] w fun e u => e = .returned (.string tx) /\ ∃ o, u = w.alloc o := by
  go_enter func124,ntmps124;go_wp2;go_ret;exact⟨rfl,_,rfl⟩
def cmpV(x y:LB):Int:=if Op.bytesLess x y then -1 else if Op.bytesLess y x then 1 else 0
theorem ZjM {s:BA} {w:World} : Cq 229 #[.string s] w fun e u => e = .returned (.bool false) /\ u = w := by
  go_enter func229,ntmps229;go_wp2;go_ret;exact⟨by simp,rfl⟩
theorem Zra {s:BA} {w:World} : Cq 227 #[.string s] w fun e u => e = .returned (.bool false) /\ u = w := by
  go_enter func227,ntmps227;go_wp2;go_ret;exact⟨by simp,rfl⟩
theorem Zoe {a b:BA} {w:World} : Cq 200 #[.string a, .string b] w fun e u => e = .returned (Vi (cmpV (bl a) (bl b))) /\ u = w := by
  obtain⟨r,c⟩:∃r,r=cmpV (bl a) (bl b):=⟨_,rfl⟩
  rw[<-c];unfold cmpV at c;rw[<-Zbt,<-Zbt]at c;obtain⟨p,g⟩:∃p,Op.bytesLess a.toList b.toList=p:=⟨_,rfl⟩
  obtain⟨q,f⟩:∃q,Op.bytesLess b.toList a.toList=q:=⟨_,rfl⟩
  rw[g,f]at c;have d:Hid (r=if p=true then -1 else if q=true then 1 else 0):=c;clear c;cases p
  · cases q
    · obtain rfl:r=0:=d.out
      have h:(a.toList == b.toList)=true:=by rw[beq_iff_eq];exact Zdh _ _ g f
      clear d;go_enter func200,ntmps200
      go_wp2_with (go_at_call 229;refine(ZjM).mono ?_;rintro e u ⟨rfl,rfl⟩)
      go_ret;exact⟨rfl,rfl⟩
    · obtain rfl:r=1:=d.out
      have h:(a.toList == b.toList)=false:=by rw[beq_eq_false_iff_ne];intro e;rw[e,ZcL]at f;cases f
      clear d;go_enter func200,ntmps200
      go_wp2_with (go_at_call 229;refine(ZjM).mono ?_;rintro e u ⟨rfl,rfl⟩)
      go_ret;exact⟨rfl,rfl⟩
  · obtain rfl:r=-1:=d.out
    clear d;go_enter func200,ntmps200
    go_wp2_with (go_at_call 229;refine(ZjM).mono ?_;rintro e u ⟨rfl,rfl⟩)
    go_ret;exact⟨rfl,rfl⟩
theorem ZxX (a b : BA) (w : World) : Cq 223 #[.string a, .string b] w fun e u => e = .returned (.bool (Op.bytesLess (bl a) (bl b))) /\ u = w := by
  rw[<-Zbt,<-Zbt];generalize c:Op.bytesLess a.toList b.toList=p;go_enter func223,ntmps223
  go_wp2_with (go_at_call 229;refine(ZjM).mono ?_;rintro e u ⟨rfl,rfl⟩)
  go_ret;exact⟨by first|rfl|simp[c],rfl⟩
theorem Zem{s:BA}{a:Array UInt8}(h:bl s=a.toList):s=⟨a⟩:=by
 cases s with
 | mk d=>unfold bl at h;simp at h;rw[h]
theorem ZqY (c : BA) (op : Nat) (d : op <= 4) (h : bl c = Z0.getD op []) (w : World) : Cq 131 #[.string c] w fun e u => e = .returned (Vi op) /\ u = w := by
  rcases(by omega:op=0∨op=1∨op=2∨op=3∨op=4)with rfl|rfl|rfl|rfl|rfl
  · obtain rfl:=Zem (a:=#[116,111,116,97,108]) h
    go_enter func131,ntmps131;go_wp2;go_ret;exact⟨rfl,rfl⟩
  · obtain rfl:=Zem (a:=#[112,101,97,107]) h
    go_enter func131,ntmps131;go_wp2;go_ret;exact⟨rfl,rfl⟩
  · obtain rfl:=Zem (a:=#[108,111,119]) h
    go_enter func131,ntmps131;go_wp2;go_ret;exact⟨rfl,rfl⟩
  · obtain rfl:=Zem (a:=#[115,105,122,101]) h
    go_enter func131,ntmps131;go_wp2;go_ret;exact⟨rfl,rfl⟩
  · obtain rfl:=Zem (a:=#[114,105,115,101]) h
    go_enter func131,ntmps131;go_wp2;go_ret;exact⟨rfl,rfl⟩
theorem ZqX (c : BA) (op : Nat) (d : op <= 3) (h : bl c = ZW.getD op []) (w : World) : Cq 131 #[.string c] w fun e u => e = .returned (Vi op) /\ u = w := by
  rcases(by omega:op=0∨op=1∨op=2∨op=3)with rfl|rfl|rfl|rfl
  · obtain rfl:=Zem (a:=#[115,117,109]) h
    go_enter func131,ntmps131;go_wp2;go_ret;exact⟨rfl,rfl⟩
  · obtain rfl:=Zem (a:=#[109,97,120]) h
    go_enter func131,ntmps131;go_wp2;go_ret;exact⟨rfl,rfl⟩
  · obtain rfl:=Zem (a:=#[109,105,110]) h
    go_enter func131,ntmps131;go_wp2;go_ret;exact⟨rfl,rfl⟩
  · obtain rfl:=Zem (a:=#[99,111,117,110,116]) h
    go_enter func131,ntmps131;go_wp2;go_ret;exact⟨rfl,rfl⟩
theorem ZJU.zero{w:World}{p:PV}{ns:List (LB)}(h:ZJU w 0 p ns):∃bs:List BA,p.bn=bs.length/\w.ownsRow 0 9 1 (.slice p.ba bs.length p.bc) bs.length (bs.map .string)/\bs.map bl=ns:=by
 obtain⟨bs,c,d⟩:=h;obtain⟨av,cp,a⟩:=Zl c;injection a with _ a _;exact⟨bs,a,by rw[<-a];rw[<-a]at c;exact c,d⟩
section
variable {P:Program} {ops:Array Oper} {Q:Exit->Act->World->Prop} {md:Region.Mode} {S:World->Prop} {k:Nat}
def ZcJ(P:Program)(md:Region.Mode)(ops:Array Oper)(Q:Exit->Act->World->Prop)(S:World->Prop)(k:Nat):Nat->Array Bool->Act->World->Prop
 | 0,ls,a,w=>Region.ready md ops ls=[]/\Q .normal a w
 | f + 1, ls, a, w => (Region.ready md ops ls = [] -> Q .normal a w) /\ ∀ i ∈ Region.ready md ops ls,
     wpOp P ops Q i (fun a' w'=>((ls.setIfInBounds i true).getD k true=false->S w')/\ZcJ P md ops Q S k f (ls.setIfInBounds i true) a' w') a w
theorem ZcJ.any:∀(f:Nat) (ls:Array Bool) (a:Act) (w:World),ZcJ P md ops Q S k f ls a w->wpAny P md ops Q f ls a w
 | 0,_,_,_,h=>h
 | f+1,_,_,_,h=>⟨h.1,fun i c=>wpOp_mono (fun _ _ d=>ZcJ.any f _ _ _ d.2) (h.2 i c)⟩
def ZfE(md:Region.Mode)(ops:Array Oper)(ls:Array Bool):Bool:=
 (List.range ops.size).all fun j=>!ls.getD j true || ((ops[j]?).map (·.after.all fun e=>!Region.binds md e || ls.getD e.on false)).getD false
def Zhk(md:Region.Mode)(ops:Array Oper)(i:Nat):Nat->Nat->Bool
 | 0,_=>false
 | n+1,j=>((ops[j]?).map (·.after.any fun e=>Region.binds md e && (e.on == i || Zhk md ops i n e.on))).getD false
theorem Zsl{ls:Array Bool} : ZfE md ops ls=true ↔ ∀j o,ops[j]?=some o->ls.getD j true=true->∀e∈o.after,Region.binds md e=true->ls.getD e.on false=true:=by
 unfold ZfE;rw[Ybu];constructor
 ·intro h j o a c e d f;have g:=h j (Yb9.2 (Yae.1 a).1);rw[c,a]at g;simp only[Bool.not_true,Yft,Ybf,Ya6,Array.all_eq_true']at g;have i:=g e d;rw[f]at i;simpa using i
 ·intro h j c;rw[Yb9]at c;have a:ops[j]?=some ops[j]:=Array.getElem?_eq_getElem c;cases l:ls.getD j true with
  | false=>rfl
  | true=>
   rw[a];simp only[Bool.not_true,Yft,Ybf,Ya6,Array.all_eq_true'];intro e d;cases f:Region.binds md e with
   | false=>rfl
   | true=>simpa using h j _ a l e d f
theorem ZCb{ls:Array Bool}{j:Nat}(h:ZfE md ops ls=true)(n:j∈Region.ready md ops ls):ZfE md ops (ls.setIfInBounds j true)=true:=by
 rw[Zsl]at h ⊢;intro i o a f e g l;obtain⟨_,oj,m,d⟩:=mem_ready.1 n;by_cases c:j=i
 ·subst c;rw[m]at a;injection a with a;subst a;exact getD_set_true (d e g l)
 ·rw[getD_set_ne true c]at f;exact getD_set_true (h i o a f e g l)
theorem Zs6{ls:Array Bool}{i:Nat}(h:ZfE md ops ls=true)(g:ls.getD i true=false):∀(n j:Nat),Zhk md ops i n j=true->ls.getD j true=false
 | 0,_,a=>by cases a
 | n + 1, j, a => by
   cases q:ls.getD j true with
   | false=>rfl
   | true=>
     unfold Zhk at a;cases d:ops[j]? with
     | none=>rw[d]at a;cases a
     | some o=>
       rw[d]at a;simp only[Ybf,Ya6,Array.any_eq_true',Yas,Yct,beq_iff_eq]at a;obtain⟨e,r,s,l⟩:=a;have c:=Zsl.1 h j o d q e r s
       have m:ls.getD e.on true=false:=by
         rcases l with p|t
         · rw[p];exact g
         · exact Zs6 h g n _ t
       exfalso
       rcases Yav e.on ls.size with f|f
       · simp[f]at c m;rw[m]at c;cases c
       · simp[f]at c
theorem Ztl{i n:Nat}{oi:Oper}{v:Value}(A:ops[i]?=some oi)(l:∀(j:Nat) (o:Oper) cs b,ops[j]?=some o->o.op≠.select cs b)
  (R:∀c a w,Q (.panic c) (a.put oi.dst v) w->Q (.panic c) a w) (T:Zhk md ops i n k=true) (E:i≠k) :
  ∀(f:Nat) (ls:Array Bool) (a:Act) (w:World),ZfE md ops ls=true->
   (∀j oj,ops[j]?=some oj->j≠i->ls.getD j true=false->(∀e∈oj.after,Region.binds md e=true->e.on≠i)->oi.apart ops oj=true)->
   i∈Region.ready md ops ls->YieldsIf P ops S oi v a->S w->
   ZcJ P md ops Q S k f (ls.setIfInBounds i true) (a.put oi.dst v) w->ZcJ P md ops Q S k (f+1) ls a w
 | 0, ls, a, w, F, g, p, B, s, H => by
   refine⟨fun h=>(by rw[h]at p;cases p),fun j t=>?_⟩;by_cases d:j=i
   · subst d;exact B.wpOp A s ⟨fun _=>s,H⟩
   · have C:=ready_mono t d
     rw[H.1]at C;cases C
 | f + 1, ls, a, w, F, g, p, B, s, H => by
   refine⟨fun h=>(by rw[h]at p;cases p),fun j t=>?_⟩;by_cases d:j=i
   · subst d;exact B.wpOp A s ⟨fun _=>s,H⟩
   · have C:=H.2 j (ready_mono t d)
     obtain⟨x,oj,y,K⟩:=mem_ready.1 t;have q:=(mem_ready.1 p).1
     have L : ∀ e ∈ oj.after, Region.binds md e = true -> e.on ≠ i := fun e X Y U => by
       have r:=K e X Y;rw[U]at r;rcases Yav i ls.size with M|M
       · simp[M]at q r;rw[q]at r;cases r
       · simp[M]at r
     have z:=ZCb F t;have D:(ls.setIfInBounds j true).getD i true=false:=by rw[getD_set_ne true d];exact q
     have N:(ls.setIfInBounds j true).getD k true=false:=Zs6 z D n k T;have r:=wpOp_putIf y (g j oj y d x L) (fun cs b=>l i oi cs b A) (fun cs b=>l j oj cs b y) R B C;refine wpOp_mono (fun a' u O=>?_) r;have G:S u:=O.2.1 (by rw[Ye4 _ _ (Ycp d),getD_set_ne true E];exact N);refine⟨fun _=>G,Ztl A l R T E f (ls.setIfInBounds j true) a' u z (fun m om Z V I W=>g m om Z V ?_ W) (ready_mono p (Ycp d)) O.1 G ?_⟩
     · by_cases J:j=m
       · subst J;exact x
       · rw[getD_set_ne true J]at I;exact I
     · rw[Ye4 _ _ d]
       exact O.2.2
theorem ZeD{i d:Nat}{oi:Oper}{v:Value}{f:Nat}{ls:Array Bool}{a:Act}{w:World}(e:ops[i]?=some oi)(hd:oi.dst=some d)(g:(Region.noSelect ops && Region.free md ops ls i && (Region.ready md ops ls).contains i && Zhk md ops i ops.size k && ZfE md ops ls && i != k)=true)
  (j:∀c a w,Q (.panic c) (a.put oi.dst v) w->Q (.panic c) a w) (l:YieldsIf P ops S oi v a) (m:S w)
  (h:ZcJ P md ops Q S k f (ls.setIfInBounds i true) { a with tmps:=a.tmps.setIfInBounds d v } w):ZcJ P md ops Q S k (f+1) ls a w:=by
 simp only[Yas,bne_iff_ne]at g;obtain⟨⟨⟨⟨⟨n,o⟩,p⟩,q⟩,r⟩,s⟩:=g;exact Ztl e (Region.noSelect_spec n) j q s f ls a w r (Region.free_spec e o) (by simpa using p) l m (by rw[hd];exact h)
theorem Z4{i:Nat}{o:Oper}{f:Nat}{ls:Array Bool}{a:Act}{w:World}(c:Region.ready md ops ls=[i])(l:ops[i]?=some o)
  (h:∀K':Act->World->Prop,Shut (∀a w,S w->(S w->ZcJ P md ops Q S k f (ls.setIfInBounds i true) a w)->K' a w)->if Region.wanted o (yielded ops a.tmps)=true then Oper.wp P o a w K' Q else K' (a.put o.dst undef) w):ZcJ P md ops Q S k (f+1) ls a w:=by
 refine⟨fun d=>(by rw[c]at d;cases d),fun j e=>?_⟩;rw[c,Yap]at e;subst e;exact wpOp_step l (fun K' m=>h K' (fun a w g n=>m a w ⟨fun _=>g,n g⟩))
theorem Zbl{o:Oper}{f:Nat}{ls:Array Bool}{a:Act}{w:World}(g:Region.ready md ops ls=[k])(e:Region.ready md ops (ls.setIfInBounds k true)=[])(l:ops[k]?=some o)(m:(ls.setIfInBounds k true).getD k true=true)
  (h:∀K':Act->World->Prop,Shut (∀a w,Q .normal a w->K' a w)->if Region.wanted o (yielded ops a.tmps)=true then Oper.wp P o a w K' Q else K' (a.put o.dst undef) w):ZcJ P md ops Q S k (f+1) ls a w:=by
 refine⟨fun c=>(by rw[g]at c;cases c),fun j d=>?_⟩;rw[g,Yap]at d;subst d;refine wpOp_step l (fun K' n=>h K' (fun a w i=>n a w ⟨fun c=>(by rw[m]at c;cases c),?_⟩));cases f with
 | zero=>exact⟨e,i⟩
 | succ f=>exact⟨fun _=>i,fun j d=>by rw[e]at d;cases d⟩
theorem Zbn{id:Nat}{a:Act}{w:World}(k:Nat)(S:World->Prop)(c:P.follows .mixedOrders=true)(d:S w.drew)(h:S w.drew->ZcJ P .any ops Q S k ops.size (Array.replicate ops.size false) a w.drew):(Code.region id ops true).wp P Q a w:=
 wp_region_any c (ZcJ.any _ _ _ _ (h d))
end
end Go.Proofs.YtpbemaaghbbocaaGreatDoor
namespace Go.Proofs.YtpbemaaghbbocaaGreatDoor
open Go.RowKit LS Go.Proofs.Tryz
section
variable {P:Program} {ops:Array Oper} {Q:Exit->Act->World->Prop} {md:Region.Mode} {S:World->Prop} {k:Nat}
theorem Za (i : Nat) {d : Nat} {oi : Oper} {v : Value} {f : Nat} {ls ls' : Array Bool} {a : Act} {tm' : Array Value} {w : World} (e : S w) (g : ops[i]? = some oi := by rfl) (hd : oi.dst = some d := by rfl) (j : (Region.noSelect ops && Region.free md ops ls i && (Region.ready md ops ls).contains i && Zhk md ops i ops.size k && ZfE md ops ls && i != k) = true := by kernel_rfl)
    (l:∀c a w,Q (.panic c) (a.put oi.dst v) w->Q (.panic c) a w:=by exact fun _ _ _ h=>h) (m:YieldsIf P ops S oi v a:=by(refine Or.inl ⟨by rfl,?_⟩;intro w hSw;go_simp;try with_reducible rfl)) (n:ls.setIfInBounds i true=ls':=by(try simp only[Zset]);rfl) (o:a.tmps.setIfInBounds d v=tm':=by(try simp only[Zset]);rfl)
    (h:ZcJ P md ops Q S k f ls' { a with tmps:=tm' } w):ZcJ P md ops Q S k (f+1) ls a w:=by
  subst n o;exact ZeD g hd j l m e h
end
end Go.Proofs.YtpbemaaghbbocaaGreatDoor
namespace Go.Proofs.YtpbemaaghbbocaaGreatDoor
open Go.RowKit LS Go.Proofs.Tryz
theorem ZmD{w:World}{base:Nat}{e:TypeId}{g n cap:Nat}{xs:List Value}(h:w.ownsRow base e 1 (.slice (some ⟨g,0,none⟩) n cap) n xs)(i:Nat)(u:Value):(w.setCell ⟨g,i,none⟩ u).ownsRow base e 1 (.slice (some ⟨g,0,none⟩) n cap) n (xs.set i u):=by
 obtain⟨c,h⟩:=h;refine⟨by rw[List.length_set];exact c,?_⟩;rcases h with ⟨h,_⟩|⟨g',cap',cur,d,f,j,k,l,m,a⟩
 ·cases h
 ·injection d with h1 _ h3;injection h1 with h1;injection h1 with h1;subst h1 h3;refine Or.inr ⟨g,cap,cur.setIfInBounds i u,rfl,f,?_,k,l,by simpa using m,?_⟩
  ·simp[World.setCell,Ybn,j]
  ·rw[Nat.mul_one]at a ⊢;rw[<-a,Array.toList_setIfInBounds,List.take_set]
theorem ZB6(c k:Nat)(f:Nat->Value){z:Value}(a:k<c):((List.range k).map f++List.replicate (c - k) z).set k (f k)=(List.range (k+1)).map f++List.replicate (c - (k+1)) z:=by
 have e:c - k=(c - (k+1))+1:=by omega
 rw[e,List.replicate_succ,List.set_append_right _ _ (by simp),Ygx,Yaq,Yan];simp
theorem Tryz.infoInt3:(Tryz.prog.info? 3).map (fun i=>(i.zero,i.size,i.bytes))=some (some (Vi 0),1,8):=by kernel_rfl
theorem Zf9 {t:Int} {w:World} : Cq 84 #[Vi t] w fun e u => e = .returned (.bool (decide (-1000000 <= t) && decide (t <= 1000000))) /\ u = w := by
  by_cases a : -1000000<=t
  · by_cases c:t<=1000000
    · rw[show(decide (-1000000<=t) && decide (t<=1000000))=true by simp;omega]
      go_enter func84,ntmps84;go_wp2;go_ret;exact⟨rfl,rfl⟩
    · rw[show(decide (-1000000<=t) && decide (t<=1000000))=false by simp;omega]
      go_enter func84,ntmps84;go_wp2;go_ret;exact⟨rfl,rfl⟩
  · rw[show(decide (-1000000<=t) && decide (t<=1000000))=false by simp;omega]
    go_enter func84,ntmps84;go_wp2;go_ret;exact⟨rfl,rfl⟩
theorem Zqi{ns ms:List (LB)}(h:∀z,z∈ns ↔ z∈ms)(l:List Lab):ZB l ns=ZB l ms:=by
 unfold ZB;refine Ygl (fun p _=>?_);rw[Ybh,Ydk,Ydk];exact h p.1
theorem ZpH{ns ms:List (LB)}(h:∀z,z∈ns ↔ z∈ms)(op:Nat)(all:List El):∀(l pre:List El),ZcF op ns all pre l=ZcF op ms all pre l
 | [],_=>rfl
 | e :: l, pre => by
   rw[ZcF,ZcF,ZpH h op all l (pre++[e])];have a:(fun f:El=>ZB f.1 ns)=fun f=>ZB f.1 ms:=funext fun f=>Zqi h f.1;simp only[Zqi h]
theorem ZpJ{ns ms:List (LB)}(h:∀z,z∈ns ↔ z∈ms)(op:Nat)(l:List El):Zcv op ns l=Zcv op ms l:=by unfold Zcv;rw[ZpH h]
theorem Zmw:∀l:List (LB),l.length<=nw l
 | []=>Yac _
 | c::l=>by have:=Zmw l;simp only[nw,Yaj];omega
theorem VOk.mono{m n:Nat}{V:VV}(h:VOk m V)(a:m<=n):VOk n V:=by
 cases V with
 | inl _=>trivial
 | inr l=>exact⟨h.1,Yah h.2 a⟩
theorem ZPz(n:Nat)(w:World)(l:n<=1000000000) :
  Cq 14 #[Vi n] w fun e u=>∃r:BA,e=.returned (.string r)/\r.size<=1000000001/\Hid (bl r=decS n)/\BW w u:=by
 have j:¬((n:Int)<0):=by omega
 go_enter func14,ntmps14;go_wp2
 go_loopw [0,3] (fun v sv wr=>∃(m:Nat) (r:BA),v=Vi m/\sv=.string r/\r.size+m<=n/\Hid (decS n=decS m++bl r)/\BW w wr) (fun v _ _=>(intOf v).toNat)
 case atStart=>exact⟨n,⟨#[]⟩,rfl,rfl,Ydh (Ycf n),hid (by simp[bl]),Yaf _ _⟩
 case round=>
  obtain⟨m,r,rfl,rfl,o,g,i⟩:=hrel;have k:=i.size;by_cases d:m<=9
  ·have c:=ZKS wr m d;have f:Hid (bl (⟨#[dig m]⟩++r)=decS n):=hid (by rw[ZcV,g.out,Zh0 d];rfl);have e1:(⟨#[dig m]⟩:BA).size=1:=rfl;have a1:∀W,(Op.stringOp .add ⟨#[dig m]⟩ r).run prog W=.ok (.string (⟨#[dig m]⟩++r)) W:=fun W=>run_string_add_sum W _ _ Om;have a:(⟨#[dig m]⟩++r).size<=1000000001:=by simp only[Yaz];omega
   have h:¬(9<(m:Int)):=by omega
   go_wp2;go_ret;exact⟨_,rfl,a,f,belB⟩
  ·have c:=ZKS wr (m % 10) Om;rw[show((m % 10:Nat):Int)=(m:Int) % 10 from by omega]at c;have f:Hid (decS n=decS (m / 10)++bl (⟨#[dig (m % 10)]⟩++r)):=hid (by rw[ZcV,g.out,Zi6 d,Yan];rfl);have e1:(⟨#[dig (m % 10)]⟩:BA).size=1:=rfl;have a1:∀W,(Op.stringOp .add ⟨#[dig (m % 10)]⟩ r).run prog W=.ok (.string (⟨#[dig (m % 10)]⟩++r)) W:=fun W=>run_string_add_sum W _ _ Om;have a:(⟨#[dig (m % 10)]⟩++r).size+m / 10<=n:=by simp only[Yaz];omega
   have h:9<(m:Int):=by omega
   go_wp2
   go_roundw
   case rel=>exact⟨m / 10,_,by simp,rfl,a,f,belB⟩
   case measure=>simp[intOf];omega
theorem ZO3(n:Int)(w:World)(o : -1000000000<=n)(p:n<=1000000000) :
  Cq 14 #[Vi n] w fun e u=>∃r:BA,e=.returned (.string r)/\r.size<=1000000002/\Hid (bl r=decI n)/\BW w u:=by
 by_cases f:n<0
 ·have c:=hid (ZPz n.natAbs w Om);have ea:((n.natAbs:Nat):Int)=-n:=by omega
  rw[ea]at c;have g:Hid (decI n=45::decS n.natAbs):=hid (by unfold decI;rw[if_pos f];rfl);clear ea;go_enter func14,ntmps14
  go_wp2_with fail
  refine c.mono ?_;rintro e y ⟨r,rfl,q,h,a⟩;have i:=hid a;have e1:(⟨#[45]⟩:BA).size=1:=rfl;have a1:∀W,(Op.stringOp .add ⟨#[45]⟩ r).run prog W=.ok (.string (⟨#[45]⟩++r)) W:=fun W=>run_string_add_sum W _ _ Om;have d:(⟨#[45]⟩++r:BA).size<=1000000002:=by simp only[Yaz];omega
  have j:Hid (bl (⟨#[45]⟩++r)=decI n):=hid (by rw[ZcV,h.out,g.out];rfl);clear a c h g;go_wp2;go_ret;exact⟨_,rfl,d,j,i.out⟩
 ·obtain⟨m,rfl⟩:∃m:Nat,n=m:=⟨n.toNat,by omega⟩
  refine(ZPz m w Om).mono ?_;rintro e u ⟨r,rfl,s,k,l⟩;exact⟨r,rfl,by omega,hid (by rw[k.out];unfold decI;rw[if_neg f];rfl),l⟩
def sh(t:Tok):Nat×LB:=(t.jx,t.txt)
abbrev Sh:=Nat×LB
abbrev LxC (P:LB->List Sh->Prop):Prop:=P [] [(0,[])]/\(∀ {{r T}},P r T->P (32::r) T)/\(∀ {{c}} {{d:LB}} {{r T}},ZC c=true->d.all ZC=true->(ZQ 1000000000 (c::d)).isSome=true->run ZC r=0->P r T->P (c::d++r) ((1,c::d)::T))/\(∀ {{c}} {{d:LB}} {{r T}},Zp c=true->d.all Zp=true->d.length<=7->run Zp r=0->P r T->P (c::d++r) ((2,c::d)::T))/\(∀ {{v r T}},Z3 v=true->P r T->P (34::(v++34::r)) ((3,v)::T))/\(∀ {{r T}},P r T->P (33::61::r) ((4,[33,61])::T))/\∀ {{c r T}},c∈Zdq->P r T->P (c::r) ((4,[c])::T)
def Lx(m:LB)(T:List Sh):Prop:=∀P,LxC P->P m T
theorem lxc:LxC Lx:=⟨fun _ k=>k.1,fun _ _ h P k=>k.2.1 (h P k),fun _ _ _ _ a b c d h P k=>k.2.2.1 a b c d (h P k),fun _ _ _ _ a b c d h P k=>k.2.2.2.1 a b c d (h P k),fun _ _ _ a h P k=>k.2.2.2.2.1 a (h P k),fun _ _ h P k=>k.2.2.2.2.2.1 (h P k),fun _ _ _ a h P k=>k.2.2.2.2.2.2 a (h P k)⟩
abbrev Lx.nil:=lxc.1
abbrev Lx.skip:=lxc.2.1
abbrev Lx.num:=lxc.2.2.1
abbrev Lx.name:=lxc.2.2.2.1
abbrev Lx.word:=lxc.2.2.2.2.1
abbrev Lx.ne:=lxc.2.2.2.2.2.1
abbrev Lx.sign:=lxc.2.2.2.2.2.2
theorem Lx.ind{motive:∀m T,Lx m T->Prop}(nil:motive _ _ Lx.nil)(skip:∀ {r T} (h:Lx r T),motive r T h->motive _ _ (Lx.skip h))(num:∀ {c d r T} i j k l (h:Lx r T),motive r T h->motive _ _ (Lx.num (c:=c) (d:=d) i j k l h))(name:∀ {c d r T} i j k l (h:Lx r T),motive r T h->motive _ _ (Lx.name (c:=c) (d:=d) i j k l h))(word:∀ {v r T} i (h:Lx r T),motive r T h->motive _ _ (Lx.word (v:=v) i h))(ne:∀ {r T} (h:Lx r T),motive r T h->motive _ _ (Lx.ne h))(sign:∀ {c r T} i (h:Lx r T),motive r T h->motive _ _ (Lx.sign (c:=c) i h)){m:LB}{T:List Sh}(h:Lx m T):motive m T h:=by
 obtain⟨_,k⟩:=h (fun m T=>∃h,motive m T h) ⟨⟨_,nil⟩,fun _ _ ⟨h,k⟩=>⟨_,skip h k⟩,fun _ _ _ _ a b c d ⟨h,k⟩=>⟨_,num a b c d h k⟩,fun _ _ _ _ a b c d ⟨h,k⟩=>⟨_,name a b c d h k⟩,fun _ _ _ a ⟨h,k⟩=>⟨_,word a h k⟩,fun _ _ ⟨h,k⟩=>⟨_,ne h k⟩,fun _ _ _ a ⟨h,k⟩=>⟨_,sign a h k⟩⟩;exact k
theorem Zm3(p:UInt8->Bool):∀(d r:LB),d.all p=true->run p r=0->run p (d++r)=d.length
 | [],_,_,h=>h
 | c :: d, r, h, a => by
   rw[Yep,Yas]at h;rw[Yby,run,if_pos h.1,Zm3 p d r h.2 a,Yaj]
theorem Zx8{l r:LB}{i:Nat}(h:l.drop i=32::r):Zk l i=Zk l (i+1):=by
 have a:l.drop (i+1)=r:=by rw[<-Yei,h];rfl
 unfold Zk;rw[h,a];have:run (· == 32) (32::r)=run (· == 32) r+1:=rfl;rw[this,show i+(run (· == 32) r+1)=i+1+run (· == 32) r by omega]
theorem Zif{l r:LB}{i:Nat}{c:UInt8}(h:l.drop i=c::r)(a:c≠32):Zk l i=lexC l i c r:=by
 unfold Zk;rw[h];have:run (· == 32) (c::r)=0:=by simp[run,a]
 rw[this,Nat.add_zero];unfold lexJ;rw[h]
theorem ZCh{c:UInt8}(h:c∈Zdq):ZC c=false/\Zp c=false/\(c == 34)=false/\(c == 33)=false/\(seek c Zdq).isSome=true/\c≠32:=by
 have:∀x∈Zdq,ZC x=false/\Zp x=false/\(x == 34)=false/\(x == 33)=false/\(seek x Zdq).isSome=true/\x≠32:=by decide
 exact this c h
theorem ZEO{v:LB}(h:Z3 v=true):(34:UInt8)∉v:=by
 intro a;unfold Z3 at h;rw[Yas]at h;exact absurd (Ybu.1 h.1 _ a) Dc
theorem Zvv{c:UInt8}(h:ZC c=true):c≠32:=by rintro rfl;exact absurd h Dc
theorem ZxY{c:UInt8}(h:Zp c=true):c≠32/\ZC c=false:=by
 refine⟨by rintro rfl;exact absurd h Dc,?_⟩;simp only[Zp,ZC,Yas,decide_eq_true_eq,Yfm,decide_eq_false_iff_not]at *
 omega
theorem Zih{l:LB}{i n:Nat}{k:Nat}{x:LB}{j:Nat}{T:List Sh}(h:Zk l i=(⟨k,x,i⟩,j))(a:¬(k=0∨k=5))(c:(ZN l n j).map sh=T):(ZN l (n+1) i).map sh=(k,x)::T:=by
 rw[ZN,h,if_neg a,Ybb,c];rfl
theorem ZgI{l p r:LB}{i:Nat}(h:l.drop i=p++r):l.drop (i+p.length)=r:=by
 rw[<-Yei,h,List.drop_left]
theorem ZgJ{l p r:LB}{i:Nat}(a:i<=l.length)(h:l.drop i=p++r):i+p.length<=l.length:=by
 have:=congrArg List.length h;rw[Ybv,Yab]at this;omega
theorem ZyL{m:LB}{T:List Sh}(h:Lx m T):∀(l:LB) (i n:Nat),l.drop i=m->i<=l.length->l.length+1<=n+i->(ZN l n i).map sh=T:=by
 induction h using Lx.ind with
 | nil=>
  intro l i n hd f j;obtain⟨n,rfl⟩:∃k,n=k+1:=⟨n - 1,by have:=congrArg List.length hd;simp at this;omega⟩
  have e:Zk l i=(⟨0,[],i⟩,i):=by
   unfold Zk;rw[hd];show lexJ l i=_;unfold lexJ;rw[hd]
  rw[ZN,e,if_pos (Or.inl rfl)];rfl
 | @skip r T o ih=>
  intro l i n hd f j;have a:l.drop (i+1)=r:=ZgI (p:=[32]) hd;have q:i+1<=l.length:=ZgJ (p:=[32]) f hd;obtain⟨n,rfl⟩:∃k,n=k+1:=⟨n - 1,by omega⟩
  have:=ih l (i+1) (n+1) a q Om;rw[ZN,<-Zx8 hd]at this;rw[ZN];exact this
 | @num c d r T a q x u o ih=>
  intro l i n hd f j;have g1:=ZgI (p:=c::d) hd;have g2:=ZgJ (p:=c::d) f hd;rw[Yaj]at g1 g2;obtain⟨n,rfl⟩:∃k,n=k+1:=⟨n - 1,by omega⟩
  have g:run ZC (c::(d++r))=d.length+1:=Zm3 ZC (c::d) r (by simp[a,q]) u;have s:(c::(d++r)).take (d.length+1)=c::d:=by simp
  have e:Zk l i=(⟨1,c::d,i⟩,i+(d.length+1)):=by
   rw[Zif (r:=d++r) (by rw[hd];rfl) (Zvv a),lexC,if_pos a,g,s,if_pos x]
  exact Zih e Om (ih l _ n g1 g2 Om)
 | @name c d r T a q x u o ih=>
  intro l i n hd f j;have g1:=ZgI (p:=c::d) hd;have g2:=ZgJ (p:=c::d) f hd;rw[Yaj]at g1 g2;obtain⟨n,rfl⟩:∃k,n=k+1:=⟨n - 1,by omega⟩
  have g:run Zp (c::(d++r))=d.length+1:=Zm3 Zp (c::d) r (by simp[a,q]) u;have s:(c::(d++r)).take (d.length+1)=c::d:=by simp
  have t:=ZxY a
  have e:Zk l i=(⟨2,c::d,i⟩,i+(d.length+1)):=by
   rw[Zif (r:=d++r) (by rw[hd];rfl) t.1,lexC,if_neg (by rw[t.2];exact Ycv),if_pos a,g,s,if_neg Om]
  exact Zih e Om (ih l _ n g1 g2 Om)
 | @word v r T a o ih=>
  intro l i n hd f j;have g1:=ZgI (p:=34::(v++[34])) (r:=r) (by rw[hd];simp);have g2:=ZgJ (p:=34::(v++[34])) (r:=r) f (by rw[hd];simp);have w:(34::(v++[34])).length=v.length+2:=by simp
  rw[w]at g1 g2;obtain⟨n,rfl⟩:∃k,n=k+1:=⟨n - 1,by omega⟩
  have e:Zk l i=(⟨3,v,i⟩,i+(v.length+2)):=by
   rw[Zif hd Dc,lexC,if_neg Dc,if_neg Dc,if_pos Dc,Zgq 34 v r (ZEO a)];simp only[List.take_left,a,if_true];rfl
  exact Zih e Om (ih l _ n g1 g2 Om)
 | @ne r T o ih=>
  intro l i n hd f j;have g1:=ZgI (p:=[33,61]) (r:=r) hd;have g2:=ZgJ (p:=[33,61]) (r:=r) f hd;obtain⟨n,rfl⟩:∃k,n=k+1:=⟨n - 1,by omega⟩
  have e:Zk l i=(⟨4,[33,61],i⟩,i+2):=by
   rw[Zif hd Dc,lexC,if_neg Dc,if_neg Dc,if_neg Dc,if_pos (by simp)]
  exact Zih e Om (ih l _ n g1 g2 (by simp at g2;omega))
 | @sign c r T a o ih=>
  intro l i n hd f j;have g1:=ZgI (p:=[c]) (r:=r) hd;have g2:=ZgJ (p:=[c]) (r:=r) f hd;obtain⟨n,rfl⟩:∃k,n=k+1:=⟨n - 1,by omega⟩
  obtain⟨s1,s2,s3,s4,s5,s6⟩:=ZCh a
  have e:Zk l i=(⟨4,[c],i⟩,i+1):=by
   rw[Zif hd s6,lexC,s1,s2,s3,s4,s5];rfl
  exact Zih e Om (ih l _ n g1 g2 (by simp at g2;omega))
theorem Zlm{d:Nat}(h:d<=9):(dig d).toNat=48+d:=by unfold dig;simp;omega
theorem ZoN{d:Nat}(h:d<=9):ZC (dig d)=true:=by
 have:=Zlm h;simp only[ZC,Yas,decide_eq_true_eq];omega
theorem ZoK(n:Nat):(decS n).all ZC=true/\val (decS n)=n/\decS n≠[]/\((decS n).head?=some 48->(decS n).length=1):=by
 induction n using Nat.strongRecOn with
 | _ n ih=>
  by_cases h:n<=9
  ·rw[Zh0 h];refine⟨by simp[ZoN h],?_,by simp,fun _=>rfl⟩;show 10*0+((dig n).toNat - 48)=n;rw[Zlm h];omega
  ·obtain⟨g,e,i,j⟩:=ih (n / 10) Om;rw[Zi6 h];refine⟨by rw[List.all_append,g];simp[ZoN (show n % 10<=9 by omega)],?_,by simp,fun f=>?_⟩
   ·rw[Znt,e,Zlm (show n % 10<=9 by omega)];omega
   ·exfalso
    have d:(decS (n / 10)).head?=some 48:=by
     cases hd:decS (n / 10)with
     | nil=>exact absurd hd i
     | cons a t=>rw[hd]at f;exact f
    have k:=j d;obtain⟨c,l⟩:=List.length_eq_one_iff.1 k;rw[l]at d e;simp only[List.head?_cons,Yci]at d;subst d;have:n / 10=0:=by rw[<-e];rfl
    omega
theorem ZjP{n most:Nat}(h:n<=most):ZQ most (decS n)=some n:=by
 obtain⟨c,d,e,f⟩:=ZoK n;unfold ZQ;rw[d,if_neg];rintro(h|h|h|h)
 ·cases hd:decS n with
  | nil=>exact e hd
  | cons a t=>rw[hd]at h;simp at h
 ·have:=f h.1;omega
 ·rw[c]at h;cases h
 ·omega
def stop(r:LB):Prop:=run Zp r=0/\run ZC r=0
theorem ZCR:stop []:=⟨rfl,rfl⟩
theorem Zc3{c:UInt8}{r:LB}(a:Zp c=false)(d:ZC c=false):stop (c::r):=⟨by simp[run,a],by simp[run,d]⟩
theorem ZqL{n:Nat}(h:n<=1000000000){r:LB}{T:List Sh}(f:stop r)(g:Lx r T):Lx (decS n++r) ((1,decS n)::T):=by
 obtain⟨a,j,i,k⟩:=ZoK n;have e:=ZjP h;cases hd:decS n with
 | nil=>exact absurd hd i
 | cons c d=>
  rw[hd]at a e;rw[Yep,Yas]at a;exact Lx.num a.1 a.2 (by rw[e];rfl) f.2 g
theorem ZeW{x:LB}(h:Zx x=true){r:LB}{T:List Sh}(e:stop r)(f:Lx r T):Lx (x++r) ((2,x)::T):=by
 unfold Zx at h;rw[Yas,Yas,decide_eq_true_eq,decide_eq_true_eq]at h;cases x with
 | nil=>exact absurd h.2.1 Dc
 | cons c d=>
  have a:=h.1;rw[Yep,Yas]at a;exact Lx.name a.1 a.2 (by have:=h.2.2;rw[Yaj]at this;omega) e.1 f
abbrev Cnd:=LB×LB×Bool
def Zeo(c:Cnd):List Sh:=[(2,c.1),(4,if c.2.2 then [33,61] else [61]),(3,c.2.1)]
def sepT:List (List Sh)->List Sh
 | []=>[]
 | [a]=>a
 | a::l=>a++(4,[44])::sepT l
def Zea(a:Nd):List Sh:=(2,a.name)::(if a.jq=[] then [] else (4,[123])::(sepT (a.jq.map Zeo)++[(4,[125])]))
def opTk(o:Nat):Sh:=(4,opS o)
def ZcZ(a:Nd)(pl pr:Nat->List Sh):List Sh:=
 if a.jx=0 then [(1,decS a.n.toNat)]
 else if a.jx=1 then Zea a
 else if a.jx=2 then (2,Z0.getD a.op [])::(4,[40])::(Zea a++[(4,[91]),(1,decS a.n.toNat),(4,[93]),(4,[41])])
 else if a.jx=3 then (4,[45])::pl 4
 else if a.jx=5 then (2,ZW.getD a.op [])::(2,wBy)::(4,[40])::(sepT (a.by_.map fun x=>[(2,x)])++(4,[41])::(4,[40])::(pl 1++[(4,[41])]))
 else if a.jx=6 then pl 1++(2,wOr)::pr 2
 else pl (Zz a)++opTk a.op::pr (Zz a+1)
def ZeL(b:Bool)(s:List Sh):List Sh:=if b then (4,[40])::(s++[(4,[41])])else s
def toks:Tr->Nat->List Sh
 | .nil,_=>[]
 | .node _ _ a l r,must=>ZeL (decide (Zz a<must)) (ZcZ a (toks l) (toks r))
def Zfj(c:Cnd):Prop:=Zx c.1=true/\Z3 c.2.1=true
def Ze3(nm:LB)(cs:List Cnd):Prop:=Zx nm=true/\idx nm ZW=none/\idx nm Z0=none/\nm≠wOr/\nm≠wBy/\∀c∈cs,Zfj c
abbrev GTc (P:Tr->Prop):Prop:=(∀n:Nat,n<=1000000000->P (Zbg ⟨0,0,n,[],[],[]⟩))/\(∀nm cs,Ze3 nm cs->P (Zbg ⟨1,0,0,nm,cs,[]⟩))/\(∀(o n:Nat) nm cs,o<5->1<=n->n<=1000->Ze3 nm cs->P (Zbg ⟨2,o,n,nm,cs,[]⟩))/\(∀l,P l->P (.node 0 0 (nd0 3 0) l .nil))/\(∀g ns l,g<4->(∀x∈ns,Zx x=true)->P l->P (.node 0 0 ⟨5,g,0,[],[],ns⟩ l .nil))/\(∀o l r,o<4->P l->P r->P (.node 0 0 (nd0 4 o) l r))/\∀l r,P l->P r->P (.node 0 0 (nd0 6 0) l r)
def GT(t:Tr):Prop:=∀P,GTc P->P t
theorem gtc:GTc GT:=⟨fun n h _ k=>k.1 n h,fun a b h _ k=>k.2.1 a b h,fun o n a b h i j m _ k=>k.2.2.1 o n a b h i j m,fun l h P k=>k.2.2.2.1 l (h P k),fun g n l a b h P k=>k.2.2.2.2.1 g n l a b (h P k),fun o l r a h i P k=>k.2.2.2.2.2.1 o l r a (h P k) (i P k),fun l r h i P k=>k.2.2.2.2.2.2 l r (h P k) (i P k)⟩
abbrev GT.num:=gtc.1
abbrev GT.sel:=gtc.2.1
abbrev GT.win:=gtc.2.2.1
abbrev GT.neg:=gtc.2.2.2.1
abbrev GT.grp:=gtc.2.2.2.2.1
abbrev GT.bin:=gtc.2.2.2.2.2.1
abbrev GT.or:=gtc.2.2.2.2.2.2
theorem GT.ind{motive:∀t,GT t->Prop}(num:∀n h,motive _ (GT.num n h))(sel:∀a b h,motive _ (GT.sel a b h))(win:∀o n a b h i j k,motive _ (GT.win o n a b h i j k))(neg:∀l h,motive l h->motive _ (GT.neg l h))(grp:∀g n l a b h,motive l h->motive _ (GT.grp g n l a b h))(bin:∀o l r a h i,motive l h->motive r i->motive _ (GT.bin o l r a h i))(or:∀l r h i,motive l h->motive r i->motive _ (GT.or l r h i)){t:Tr}(h:GT t):motive t h:=by
 obtain⟨_,k⟩:=h (fun t=>∃h,motive t h) ⟨fun n h=>⟨_,num n h⟩,fun a b h=>⟨_,sel a b h⟩,fun o n a b h i j k=>⟨_,win o n a b h i j k⟩,fun l ⟨h,k⟩=>⟨_,neg l h k⟩,fun g n l a b ⟨h,k⟩=>⟨_,grp g n l a b h k⟩,fun o l r a ⟨h,k⟩ ⟨i,j⟩=>⟨_,bin o l r a h i k j⟩,fun l r ⟨h,k⟩ ⟨i,j⟩=>⟨_,or l r h i k j⟩⟩;exact k
theorem Zmg{α:Type}(f:α->LB)(g:α->List Sh)(ok:α->Prop)(d:∀a,ok a->∀r T,stop r->Lx r T->Lx (f a++r) (g a++T)):∀(l:List α),(∀a∈l,ok a)->∀r T,stop r->Lx r T->Lx (commas (l.map f)++r) (sepT (l.map g)++T)
 | [],_,r,T,_,c=>c
 | [a],h,r,T,e,c=>d a (h a (Yay ..)) r T e c
 | a :: b :: l, h, r, T, e, c => by
   have ih:=Zmg f g ok d (b::l) (fun x i=>h x (Yam _ i)) r T e c
   have e1:commas ((a::b::l).map f)++r=f a++44::(commas ((b::l).map f)++r):=by
     show(f a++44::commas ((b::l).map f))++r=_;simp
   have e2:sepT ((a::b::l).map g)++T=g a++(4,[44])::(sepT ((b::l).map g)++T):=by
     show(g a++(4,[44])::sepT ((b::l).map g))++T=_;simp
   rw[e1,e2];exact d a (h a (Yay ..)) _ _ (Zc3 Dc Dc) (Lx.sign Dc ih)
theorem ZyM(c:Cnd)(h:Zfj c)(r:LB)(T:List Sh)(_:stop r)(f:Lx r T):Lx (Z8 c++r) (Zeo c++T):=by
 obtain⟨n,v,b⟩:=c;obtain⟨a,g⟩:=h;have d:Lx (34::(v++34::r)) ((3,v)::T):=Lx.word g f;cases b with
 | true=>
  have e:Z8 (n,v,true)++r=n++33::61::34::(v++34::r):=by simp[Z8]
  rw[e];exact ZeW a (Zc3 Dc Dc) (Lx.ne d)
 | false=>
  have e:Z8 (n,v,false)++r=n++61::34::(v++34::r):=by simp[Z8]
  rw[e];exact ZeW a (Zc3 Dc Dc) (Lx.sign Dc d)
theorem ZqM(a:Nd)(h:Ze3 a.name a.jq)(r:LB)(T:List Sh)(e:stop r)(d:Lx r T):Lx (selS a++r) (Zea a++T):=by
 unfold selS Zea;by_cases c:a.jq=[]
 ·rw[if_pos c,if_pos c];exact ZeW h.1 e d
 ·rw[if_neg c,if_neg c];have e1:a.name++[123]++commas (a.jq.map Z8)++[125]++r=a.name++123::(commas (a.jq.map Z8)++125::r):=by simp
  have e2:((2,a.name)::(4,[123])::(sepT (a.jq.map Zeo)++[(4,[125])]))++T=(2,a.name)::(4,[123])::(sepT (a.jq.map Zeo)++(4,[125])::T):=by simp
  rw[e1,e2];exact ZeW h.1 (Zc3 Dc Dc) (Lx.sign Dc (Zmg Z8 Zeo Zfj ZyM a.jq h.2.2.2.2.2 _ _ (Zc3 Dc Dc) (Lx.sign Dc d)))
theorem Zrr:∀o,o<5->Zx (Z0.getD o [])=true:=by decide
theorem ZpL:∀o,o<4->Zx (ZW.getD o [])=true:=by decide
theorem ZzM:∀o,o<4->∃c:UInt8,opS o=[c]/\c∈Zdq:=by
 intro o a;obtain rfl|rfl|rfl|rfl:o=0∨o=1∨o=2∨o=3:=by omega
 ·exact⟨43,rfl,by decide⟩
 ·exact⟨45,rfl,by decide⟩
 ·exact⟨42,rfl,by decide⟩
 ·exact⟨47,rfl,by decide⟩
def LxP(s:LB)(S:List Sh):Prop:=∀r T,stop r->Lx r T->Lx (s++r) (S++T)
theorem Zgd{b:Bool}{s:LB}{S:List Sh}(h:LxP s S):LxP (ZeK b s) (ZeL b S):=by
 cases b with
 | false=>exact h
 | true=>
  intro r T c a;have e1:ZeK true s++r=40::(s++41::r):=by simp[ZeK]
  have e2:ZeL true S++T=(4,[40])::(S++(4,[41])::T):=by simp[ZeL]
  rw[e1,e2];exact Lx.sign Dc (h _ _ (Zc3 Dc Dc) (Lx.sign Dc a))
theorem ZyN{t:Tr}(h:GT t):∀must,LxP (Zu t must) (toks t must):=by
 induction h using GT.ind with
 | num n q=>
  intro must;exact Zgd (fun r T e d=>ZqL (n:=n) q e d)
 | sel nm cs h=>
  intro must;exact Zgd (fun r T e d=>ZqM ⟨1,0,0,nm,cs,[]⟩ h r T e d)
 | win o n nm cs j v w h=>
  intro must;refine Zgd (fun r T e d=>?_);have e1:Zbv ⟨2,o,(n:Int),nm,cs,[]⟩ (Zu .nil) (Zu .nil)++r=Z0.getD o []++40::(selS ⟨2,o,(n:Int),nm,cs,[]⟩++91::(decS n++93::41::r)):=by simp[Zbv]
  have e2:ZcZ ⟨2,o,(n:Int),nm,cs,[]⟩ (toks .nil) (toks .nil)++T=(2,Z0.getD o [])::(4,[40])::(Zea ⟨2,o,(n:Int),nm,cs,[]⟩++(4,[91])::(1,decS n)::(4,[93])::(4,[41])::T):=by simp[ZcZ]
  rw[e1,e2];exact ZeW (Zrr o j) (Zc3 Dc Dc) (Lx.sign Dc (ZqM ⟨2,o,(n:Int),nm,cs,[]⟩ h _ _ (Zc3 Dc Dc) (Lx.sign Dc (ZqL Om (Zc3 Dc Dc) (Lx.sign Dc (Lx.sign Dc d))))))
 | neg l _ ih=>
  intro must;refine Zgd (fun r T e d=>?_);exact Lx.sign Dc (ih 4 r T e d)
 | grp g ns l s k _ ih=>
  intro must;refine Zgd (fun r T e d=>?_);have e1:Zbv ⟨5,g,0,[],[],ns⟩ (Zu l) (Zu .nil)++r=ZW.getD g []++32::(wBy++32::40::(commas (ns.map id)++41::32::40::(Zu l 1++41::r))):=by simp[Zbv,wBy]
  have e2:ZcZ ⟨5,g,0,[],[],ns⟩ (toks l) (toks .nil)++T=(2,ZW.getD g [])::(2,wBy)::(4,[40])::(sepT (ns.map fun x=>[(2,x)])++(4,[41])::(4,[40])::(toks l 1++(4,[41])::T)):=by simp[ZcZ]
  rw[e1,e2];refine ZeW (ZpL g s) (Zc3 Dc Dc) (Lx.skip (ZeW Dc (Zc3 Dc Dc) (Lx.skip (Lx.sign Dc ?_))));refine Zmg id (fun x=>[(2,x)]) (fun x=>Zx x=true) (fun a u r T e d=>ZeW u e d) ns k _ _ (Zc3 Dc Dc) ?_;exact Lx.sign Dc (Lx.skip (Lx.sign Dc (ih 1 _ _ (Zc3 Dc Dc) (Lx.sign Dc d))))
 | bin o l r j _ _ f i=>
  intro must;refine Zgd (fun r' T e d=>?_);obtain⟨c,m,p⟩:=ZzM o j;have e1:Zbv (nd0 4 o) (Zu l) (Zu r)++r'=Zu l (Zz (nd0 4 o))++32::c::32::(Zu r (Zz (nd0 4 o)+1)++r'):=by simp[Zbv,nd0,m]
  have e2:ZcZ (nd0 4 o) (toks l) (toks r)++T=toks l (Zz (nd0 4 o))++(4,[c])::(toks r (Zz (nd0 4 o)+1)++T):=by simp[ZcZ,nd0,opTk,m]
  rw[e1,e2];exact f _ _ _ (Zc3 Dc Dc) (Lx.skip (Lx.sign p (Lx.skip (i _ _ _ e d))))
 | or l r _ _ f i=>
  intro must;refine Zgd (fun r' T e d=>?_);have e1:Zbv (nd0 6 0) (Zu l) (Zu r)++r'=Zu l 1++32::(wOr++32::(Zu r 2++r')):=by simp[Zbv,nd0,wOr]
  have e2:ZcZ (nd0 6 0) (toks l) (toks r)++T=toks l 1++(2,wOr)::(toks r 2++T):=by simp[ZcZ,nd0]
  rw[e1,e2];exact f _ _ _ (Zc3 Dc Dc) (Lx.skip (ZeW Dc (Zc3 Dc Dc) (Lx.skip (i _ _ _ e d))))
theorem Zyj{t:Tr}(h:GT t)(must:Nat):(ZN (Zu t must) ((Zu t must).length+1) 0).map sh=toks t must++[(0,[])]:=by
 have:=ZyN h must [] _ ZCR Lx.nil;rw[Yca]at this;exact ZyL this _ 0 _ rfl (Yag _) (Yac _)
def Zb5:Tr->Nat
 | .nil=>4
 | .node _ _ a _ _=>Zz a
def brk(t:Tr)(must:Nat):Nat:=if Zb5 t<must then 1 else 0
def Zbz:Tr->Nat
 | .nil=>0
 | .node _ _ a l r=>if a.jx<=2 then 1 else if a.jx=3 then 1+(brk l 4+Zbz l)else if a.jx=5 then 1+(brk l 1+Zbz l)else max (brk l (Zz a)+Zbz l) (brk r (Zz a+1)+Zbz r)
def nd(t:Tr)(must:Nat):Nat:=brk t must+Zbz t
def Zfd(x:Tok):Prop:=(x.jx=1->(ZQ 1000000000 x.txt).isSome=true)/\(x.jx=2->Zx x.txt=true)/\(x.jx=3->Z3 x.txt=true)
theorem tok0{k:Nat}{x:LB}{j:Nat}(a:k≠1)(c:k≠2)(d:k≠3):Zfd ⟨k,x,j⟩:=⟨fun h=>absurd h a,fun h=>absurd h c,fun h=>absurd h d⟩
def Zbk(ts:List Tok):Prop:=∀x∈ts,Zfd x
theorem Zbk.tail{ts:List Tok}(h:Zbk ts):Zbk ts.tail:=fun x a=>h x (List.mem_of_mem_tail a)
theorem Zbk.hd{ts:List Tok}(h:Zbk ts):Zfd (hd ts):=by
 cases ts with
 | nil=>exact tok0 Dc Dc Dc
 | cons t r=>exact h t (Yay ..)
theorem Zmq{lv:Nat}{p:Nat×Nat}{a b:Tr}(f:Zz (nd0 p.1 p.2)=lv+1)(c:p=(6,0)∨(p.1=4/\p.2<4))(ga:GT a)(gb:GT b):GT (.node 0 0 (nd0 p.1 p.2) a b)/\nd (.node 0 0 (nd0 p.1 p.2) a b) (lv+1)=max (nd a (lv+1)) (nd b (lv+2)):=by
 refine⟨?_,?_⟩
 ·rcases c with rfl|⟨c,d⟩
  ·exact GT.or a b ga gb
  ·obtain⟨x,y⟩:=p;simp only at c d;subst c;exact GT.bin y a b d ga gb
 ·have e:¬p.1<=2/\¬p.1=3/\¬p.1=5:=by
   rcases c with rfl|⟨c,d⟩
   ·decide
   ·omega
  show brk (.node 0 0 (nd0 p.1 p.2) a b) (lv+1)+(if p.1<=2 then 1 else if p.1=3 then 1+(brk a 4+Zbz a)else if p.1=5 then 1+(brk a 1+Zbz a)else max (brk a (Zz (nd0 p.1 p.2))+Zbz a) (brk b (Zz (nd0 p.1 p.2)+1)+Zbz b))=_;rw[if_neg e.1,if_neg e.2.1,if_neg e.2.2,f]
  have:brk (.node 0 0 (nd0 p.1 p.2) a b) (lv+1)=0:=by
   show(if Zz (nd0 p.1 p.2)<lv+1 then 1 else 0)=0;rw[f,if_neg Om]
  rw[this,Ycf];rfl
end Go.Proofs.YtpbemaaghbbocaaGreatDoor
