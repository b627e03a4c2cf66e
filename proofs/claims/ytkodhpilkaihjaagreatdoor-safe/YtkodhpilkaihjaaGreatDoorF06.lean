/- Parts. -/
import Derived.Lib.SplitLaws
import Derived.Test.YtkodhpilkaihjaaGreatDoorF05
import Derived.BigQuiet
set_option linter.all false
set_option maxRecDepth 100000
set_option maxHeartbeats 16000000
namespace Go.Proofs.YtkodhpilkaihjaaGreatDoor.LS
open Go Go.RowKit
theorem Zjj (c : UInt8) (l : LB) : Lib.index l [c] = match seek c l with | none => -1 | some i => (i : Int) := by
  induction l with
  | nil=>rfl
  | cons b l ih=>
    unfold Lib.index seek;by_cases a:b=c
    · subst a;simp[List.isPrefixOf]
    · have d:[c].isPrefixOf (b::l)=false:=by simp[List.isPrefixOf,Ycp a]
      have e:(b == c)=false:=by simp[a]
      rw[if_neg (by simp[d]),ih,e];cases seek c l with
      | none=>rfl
      | some i=>
        have f:¬(((i:Int) == -1)=true):=by simp
        simp only[Yde,if_false,Ybf];rw[if_neg f];rfl
theorem Zyn{c:UInt8}{l x y:LB}(h:cut c l=some (x,y)):Lib.cut l [c]=(x,y,true):=by
 unfold cut at h;cases a:seek c l with
 | none=>rw[a]at h;cases h
 | some i=>
  rw[a]at h;simp only[Ybf,Yci,Yc5]at h;unfold Lib.cut;rw[Zjj,a];simp only[Ybj,Int.toNat_natCast];rw[if_pos Om,h.1,h.2]
theorem Zym{c:UInt8}{l:LB}(h:cut c l=none):Lib.cut l [c]=(l,[],false):=by
 unfold cut at h;cases a:seek c l with
 | some i=>rw[a]at h;cases h
 | none=>
  unfold Lib.cut;rw[Zjj,a];rfl
theorem Zdx{c:UInt8}{l x y:LB}(h:cut c l=some (x,y)):l=x++c::y/\c∉x:=by
 unfold cut at h;cases d:seek c l with
 | none=>rw[d]at h;cases h
 | some i=>
  rw[d]at h;simp only[Ybf,Yci,Yc5]at h;obtain⟨a,b,rfl,rfl,e⟩:=Ziv d;have e1:x=a:=by rw[<-h.1];simp
  have e2:y=b:=by rw[<-h.2];simp
  subst e1;subst e2;exact⟨rfl,e⟩
theorem ZoE{c:UInt8}{x y:LB}(h:c∉x):cut c (x++c::y)=some (x,y):=by
 unfold cut;rw[Zgq c x y h];simp
theorem Zsq(c:UInt8):∀(n:Nat) (l:LB),l.length<=n->Lib.splitK [c] 0 (Lib.count l [c]) l=split c l:=by
 intro n
 induction n with
 | zero=>
  intro l g;obtain rfl:l=[]:=Ygc.1 Om;rw[Lib.count_miss rfl];rfl
 | succ n ih=>
  intro l g;cases d:seek c l with
  | none=>
   rw[Lib.count_miss (by rw[Zjj,d])];have e:=(Zj9 c l).1 d;have:=Zhb c l [] e;rw[Yca]at this;rw[this];simp[Lib.splitK,split,pre]
  | some i=>
   obtain⟨a,b,rfl,rfl,e⟩:=Ziv d;have f:Lib.index (a++c::b) [c]=(a.length:Int):=by rw[Zjj,d]
   rw[Lib.count_hit (by simp) f];have e1:(a++c::b).drop (a.length + [c].length)=b:=by simp
   rw[e1,Nat.add_comm,Lib.splitK,if_neg (by rw[f];simp),f];rw[show((a.length:Int)).toNat=a.length by omega,e1,ih b (by simp at g;omega),Zhb c a _ e,Zhc];simp[pre]
def ZbI(c:UInt8):LB->LB×Bool
 | []=>([],false)
 | b::t=>if b == c then (t,true)else (b::t,false)
theorem Zyo(c:UInt8)(l:LB):(Lib.trimPrefix l [c],Lib.hasPrefix l [c])=ZbI c l:=by
 cases l with
 | nil=>rfl
 | cons b t=>
  by_cases a:b=c
  ·subst a;simp[Lib.trimPrefix,Lib.hasPrefix,ZbI]
  ·have d:[c].isPrefixOf (b::t)=false:=by simp[List.isPrefixOf,Ycp a]
   simp[Lib.trimPrefix,Lib.hasPrefix,ZbI,a,d]
theorem Znm(c:UInt8)(l:LB):(ZbI c l).1.length<=l.length:=by
 cases l with
 | nil=>simp[ZbI]
 | cons b t=>by_cases h:(b == c)=true <;> simp[ZbI,h]
def Zds(d:LB):Bool:=match ZQ 1000000000 (ZbI 45 d).1 with
 | none=>false
 | some v=>!((ZbI 45 d).2 && v == 0)
def Zdn(t:LB):Option Nat:=match cut 58 t with
 | none=>none
 | some (a, d) => match ZQ 1000000 a with
   | none=>none
   | some tm=>if Zds d then some tm else none
def Zcq:Int->Nat->List (LB)->Option Nat
 | _,n,[]=>some n
 | last, n, x :: xs => match Zdn x with
   | none=>none
   | some t=>if (t:Int)<=last then none else Zcq t (n+1) xs
def Zcz(l:LB):Option Nat:=match ZbI 32 l with
 | (r,f)=>if l=[] then some 0 else if f then Zcq (-1) 0 (split 32 r)else none
def leS(a b:LB):Bool:=Op.bytesLess a b || a == b
def Zd5(last:LB)(x:LB):Option (LB×LB):=match cut 61 x with
 | none=>none
 | some (n,v)=>if Zx n && Z3 v && !v.isEmpty && !leS n last then some (n,v)else none
def ZbS:LB->List (LB×LB)->List (LB)->Option (List (LB×LB))
 | _,acc,[]=>some acc
 | last, acc, x :: xs => match Zd5 last x with
   | none=>none
   | some p=>ZbS p.1 (acc++[p]) xs
def Zcc(l:LB):Option (List (LB×LB)):=if l=[] then some [] else ZbS [] [] (split 44 l)
def line(l:LB):Option (LB×LB×Nat):=match cut 123 l with
 | none=>none
 | some (name, rest) => match cut 125 rest with
   | none=>none
   | some (inside,behind)=>if Zx name && (Zcc inside).isSome then (Zcz behind).map (fun n=>(name,inside,n))else none
theorem ZjF{l:LB}(h:cut 123 l=none):line l=none:=by unfold line;rw[h]
theorem ZjE{l name rest:LB}(h:cut 123 l=some (name,rest))(a:cut 125 rest=none):line l=none:=by unfold line;rw[h];simp only[a]
theorem ZjG{l name rest inside behind:LB}(h:cut 123 l=some (name,rest))(a:cut 125 rest=some (inside,behind)) :
  line l=if Zx name && (Zcc inside).isSome then (Zcz behind).map (fun n=>(name,inside,n))else none:=by unfold line;rw[h];simp only[a]
structure Entry where
 at_:Nat
 name:LB
 inside:LB
 count:Nat
def Zbh:Nat->List Entry->List (LB)->Nat ⊕ List Entry
 | _,acc,[]=>.inr acc
 | i, acc, x :: xs => if x = [] then Zbh (i + 1) acc xs else match line x with
   | none=>.inl i
   | some (a,b,n)=>Zbh (i+1) (acc++[⟨i,a,b,n⟩]) xs
theorem Zyw{i:Nat}{acc:List Entry}{ps:List (LB)}(a:i<ps.length)(h:ps.getD i []=[]):Zbh i acc (ps.drop i)=Zbh (i+1) acc (ps.drop (i+1)):=by
 have e:ps.getD i []=ps[i]:=by simp[a]
 rw[List.drop_eq_getElem_cons a,Zbh,<-e,if_pos h]
theorem Zyu{i:Nat}{acc:List Entry}{ps:List (LB)}(a:i<ps.length)(h:ps.getD i []≠[])(c:line (ps.getD i [])=none):Zbh i acc (ps.drop i)=.inl i:=by
 have e:ps.getD i []=ps[i]:=by simp[a]
 rw[List.drop_eq_getElem_cons a,Zbh,<-e,if_neg h,c]
theorem Zyv{i:Nat}{acc:List Entry}{ps:List (LB)}(c:i<ps.length)(h:ps.getD i []≠[]){a b:LB}{n:Nat}(d:line (ps.getD i [])=some (a,b,n)) :
  Zbh i acc (ps.drop i)=Zbh (i+1) (acc++[⟨i,a,b,n⟩]) (ps.drop (i+1)):=by
 have e:ps.getD i []=ps[i]:=by simp[c]
 rw[List.drop_eq_getElem_cons c,Zbh,<-e,if_neg h,d]
theorem Zyx{i:Nat}{acc:List Entry}{ps:List (LB)}(a:¬i<ps.length):Zbh i acc (ps.drop i)=.inr acc:=by
 rw[Yb8 Om];rfl
end Go.Proofs.YtkodhpilkaihjaaGreatDoor.LS
namespace Go.Proofs.YtkodhpilkaihjaaGreatDoor
open Go.RowKit LS Go.Proofs.Tryz
theorem Zri(most:Nat)(l:LB) : -1<=numI most l/\numI most l<=most:=by
 cases h:ZQ most l with
 | none=>rw[Zrj h];omega
 | some v=>rw[ZgX h];have:=Zgh h;omega
def Zca:List (Int×Int)->List Value
 | []=>[]
 | x::l=>.int .i64 x.1::.int .i64 x.2::Zca l
theorem Zwg(l m:List (Int×Int)):Zca (l++m)=Zca l++Zca m:=by
 induction l with
 | nil=>rfl
 | cons a l ih=>simp[Zca,ih]
theorem Zwh (l : List (Int × Int)) (j : Nat) : (Zca l)[j * 2]? = l[j]?.map (fun x => Vi x.1) /\ (Zca l)[j * 2 + 1]? = l[j]?.map (fun x => Vi x.2) := by
  induction l generalizing j with
  | nil=>simp[Zca]
  | cons r l ih=>
    cases j with
    | zero=>simp[Zca]
    | succ j=>
      obtain⟨a,c⟩:=ih j;refine⟨?_,?_⟩
      · rw[show(j+1)*2=j*2+1+1 by omega];simpa [Zca] using a
      · rw[show(j+1)*2+1=j*2+1+1+1 by omega];simpa [Zca] using c
def smOk(x:Int×Int):Prop:=-1000000<=x.1/\x.1<=1000000/\-1000000000<=x.2/\x.2<=1000000000
def valI(d:LB):Int:=match ZbI 45 d with
 | (d',less)=>if less then -(numI 1000000000 d')else numI 1000000000 d'
def smV(x:LB):Int×Int:=match cut 58 x with
 | none=>(0,0)
 | some (a,d)=>(numI 1000000 a,valI d)
def Zez:LB->List (Int×Int)
 | []=>[]
 | _::t=>(split 32 t).map smV
theorem ZCr(x:LB):smOk (smV x):=by
 unfold smV;split
 ·unfold smOk;decide
 ·rename_i a d _;have c:=Zri 1000000 a;unfold valI;cases hd:ZbI 45 d with
  | mk d' less=>
   have e:=Zri 1000000000 d';unfold smOk;cases less
   ·simp only[Yde,if_false];omega
   ·simp only[if_true];omega
theorem Zwi{l:List (LB)}{k:Nat}(a:k<l.length){x:LB}(c:x=l.getD k []){t v:Int}(d:smV x=(t,v)):Zca ((l.map smV).take (k+1))=Zca ((l.map smV).take k)++[Vi t,Vi v]:=by
 have e:l[k]=x:=by rw[c,Yaa,List.getElem?_eq_getElem a];rfl
 rw[<-Yer,<-Yer,List.take_succ_eq_append_getElem a,Yaq,Zwg,Yco,e,d];rfl
def Zdo(l:LB):List (Int×Int):=match LS.seek 125 l with
 | some b=>Zez (l.drop (b+1))
 | none=>[]
theorem Zr1{l x r y z:LB}(a:Zx x=true)(d:cut 123 l=some (x,r))(e:cut 125 r=some (y,z)):Zdo l=Zez z:=by
 obtain⟨e1,n1⟩:=Zdx d;obtain⟨e2,n2⟩:=Zdx e
 have f:(125:UInt8)∉x:=by
  intro g;unfold Zx at a;rw[Yas]at a;have:=Ybu.1 a.1 _ g;exact absurd this Dc
 have c:l=(x++123::y)++125::z:=by rw[e1,e2];simp
 have i:LS.seek 125 l=some (x++123::y).length:=by
  rw[c];refine Zgq 125 _ z ?_;rw[Yar,Yau];rintro(h|h|h)
  ·exact f h
  ·exact absurd h Dc
  ·exact n2 h
 unfold Zdo;rw[i,c];simp only
 congr 1
 rw[show(x++123::y)++125::z=((x++123::y)++[125])++z by simp,Ygb (by simp;omega),Yb8 (by simp;omega)];rfl
theorem Zy5(a b:Int)(a1 : -1000000000<=a)(a2:a<=1000000000)(b1 : -1000000000<=b)(b2:b<=1000000000):(a*b).natAbs<=1000000000000000000:=by
 rw[Int.natAbs_mul];have c:a.natAbs<=1000000000:=by omega
 have d:b.natAbs<=1000000000:=by omega
 exact Nat.mul_le_mul c d
theorem ZDy(a b:Int):twoV 0 a b=cutV (a+b):=by simp[twoV]
theorem ZDz(a b:Int):twoV 1 a b=cutV (a - b):=by simp[twoV]
theorem ZDA(a b:Int):twoV 2 a b=cutV (a*b):=by simp[twoV]
theorem ZDC(a:Int):twoV 3 a 0=0:=by simp[twoV]
theorem ZDB(a b:Int)(h:b≠0):twoV 3 a b=a.tdiv b:=by simp[twoV,h]
def vOk(n:Int):Prop:=-1000000000<=n/\n<=1000000000
theorem ZyW(m:Int)(l:List Int)(x:Int):maxL m (l++[x])=if maxL m l<x then x else maxL m l:=by
 induction l generalizing m with
 | nil=>rfl
 | cons a l ih=>exact ih _
theorem Zy1(m:Int)(l:List Int)(x:Int):minL m (l++[x])=if x<minL m l then x else minL m l:=by
 induction l generalizing m with
 | nil=>rfl
 | cons a l ih=>exact ih _
theorem ZhY{n:Int}:vOk (cutV n):=by unfold vOk cutV;split <;> (try split) <;> omega
theorem Zhj(op:Nat)(a b:Int)(c:vOk a):vOk (twoV op a b):=by
 unfold twoV;split
 ·exact ZhY
 split
 ·exact ZhY
 split
 ·exact ZhY
 split
 ·unfold vOk;omega
 ·unfold vOk at *
  have d:(a.tdiv b).natAbs<=a.natAbs:=by rw[Yff];exact Yfg _ _
  omega
def Zhi(l s:Int):Nat->Int->List Int->Option (List Int)
 | 0,_,_=>none
 | n+1,t,acc=>if t<=l then (if acc.length=50 then none else Zhi l s n (t+s) (acc++[t]))else some acc
abbrev badT (f l s:Int):Prop:=f < -1000000∨1000000<f∨l < -1000000∨1000000<l∨s<1∨1000000<s∨l<f
def Zdr(f l s:Int):Option (List Int):=if badT f l s then none else Zhi l s 60 f []
def cnt(l s t:Int):Nat:=if t<=l then ((l - t) / s).toNat+1 else 0
theorem Zoi(l s t:Int)(c:1<=s)(h:t<=l):cnt l s t=cnt l s (t+s)+1:=by
 unfold cnt;rw[if_pos h];by_cases a:t+s<=l
 ·rw[if_pos a]
  have e:(l - t) / s=(l - (t+s)) / s+1:=by
   rw[show l - t=(l - (t+s))+1*s by omega,Int.add_mul_ediv_right _ _ Om]
  have d:0<=(l - (t+s)) / s:=Int.ediv_nonneg Om Om;rw[e];omega
 ·rw[if_neg a];have e:(l - t) / s=0:=Int.ediv_eq_zero_of_lt Om Om;rw[e];rfl
theorem ZsM (l s : Int) (c : 1 <= s) : ∀ (n : Nat) (t : Int) (acc : List Int), acc.length + cnt l s t <= 50 -> cnt l s t < n -> Zhi l s n t acc = some (acc ++ (List.range (cnt l s t)).map fun (i : Nat) => t + (i : Int) * s)
  | 0,_,_,_,h=>absurd h (Ya1 _)
  | n + 1, t, acc, d, e => by
    rw[Zhi];by_cases h:t<=l
    · have a:=Zoi l s t c h
      rw[if_pos h,if_neg Om,ZsM l s c n (t+s) (acc++[t]) (by rw[Yab,Ybj];omega) Om,a,List.range_succ_eq_map,Ybb,Yb1,Yan]
      congr 2
      rw[Yd6]
      congr 1
      · simp
      · refine Ycb (fun i _=>?_)
        simp only[Function.comp];rw[show((Nat.succ i:Nat):Int)=(i:Int)+1 from rfl,Int.add_mul];omega
    · have a:cnt l s t=0:=by unfold cnt;rw[if_neg h]
      rw[if_neg h,a];simp
theorem ZsL(l s:Int)(a:1<=s):∀(n:Nat) (t:Int) (acc:List Int),50<acc.length+cnt l s t->acc.length<=50->50 - acc.length<n->Zhi l s n t acc=none
 | 0,_,_,_,_,h=>absurd h (Ya1 _)
 | n + 1, t, acc, e, f, g => by
   rw[Zhi];by_cases h:t<=l
   · have d:=Zoi l s t a h
     rw[if_pos h];by_cases c:acc.length=50
     · rw[if_pos c]
     · rw[if_neg c]
       exact ZsL l s a n (t+s) (acc++[t]) (by rw[Yab,Ybj];omega) (by rw[Yab,Ybj];omega) (by rw[Yab,Ybj];omega)
   · have d:cnt l s t=0:=by unfold cnt;rw[if_neg h]
     omega
theorem ZsN {f l s : Int} (h : ¬ badT f l s) : Zdr f l s = if 50 < cnt l s f then none else some ((List.range (cnt l s f)).map fun (i : Nat) => f + (i : Int) * s) := by
  have a:1<=s:=by unfold badT at h;omega
  unfold Zdr;rw[if_neg h];split
  · rename_i c
    exact ZsL l s a 60 f [] (by simpa using c) (by simp) (by simp)
  · rename_i c
    rw[ZsM l s a 60 f [] (by simp;omega) Om];rfl
theorem ZiJ {n:Int} {w:World} : CP 250 #[Vi n] w fun e u => e = .returned (Vi (cutV n)) /\ u = w := by
  rcases(by unfold cutV;split <;> (try split) <;> omega:(1000000000<n/\cutV n=1000000000)∨(n < -1000000000/\cutV n=-1000000000)∨(-1000000000<=n/\n<=1000000000/\cutV n=n))with ⟨h,e⟩|⟨h,e⟩|⟨a,c,e⟩
  all_goals
    rw[e];have d:=hid e;clear e;go_enter func250,ntmps250;go_wp2
    all_goals first|omega|(go_ret;exact⟨rfl,rfl⟩)|(go_ret;exact⟨ZBw Om,rfl⟩)|(obtain rfl:n=-1000000000:= Om;go_ret;exact⟨rfl,rfl⟩)
theorem Zks (op : Nat) (g : op <= 3) (a b : Int) (d : vOk a) (f : vOk b) (w : World) : CP 212 #[Vi (op + 1 : Nat), Vi a, Vi b] w fun e u => e = .returned (Vi (twoV op a b)) /\ u = w := by
  obtain⟨a1,a2⟩:=d;obtain⟨b1,b2⟩:=f;rcases(by omega:op=0∨op=1∨op=2∨op=3)with rfl|rfl|rfl|rfl
  · rw[ZDy]
    go_enter func212,ntmps212
    go_wp2_with (go_at_call 250;refine(ZiJ).mono ?_;rintro e u ⟨rfl,rfl⟩)
    go_ret;exact⟨rfl,rfl⟩
  · rw[ZDz]
    go_enter func212,ntmps212
    go_wp2_with (go_at_call 250;refine(ZiJ).mono ?_;rintro e u ⟨rfl,rfl⟩)
    go_ret;exact⟨rfl,rfl⟩
  · have i:(Go.IntKind.i64).wrap (a*b)=a*b:=by
      have j:=Zy5 a b a1 a2 b1 b2;generalize a*b=ab at *
      rw[Ybo];omega
    rw[ZDA];go_enter func212,ntmps212
    go_wp2_with (go_at_call 250;refine(ZiJ).mono ?_;rintro e u ⟨rfl,rfl⟩)
    go_ret;exact⟨rfl,rfl⟩
  · have h:(a.tdiv b).natAbs<=a.natAbs:=by rw[Yff];exact Yfg _ _
    have k:(Go.IntKind.i64).wrap (a.tdiv b)=a.tdiv b:=by rw[Ybo];omega
    by_cases c:b=0
    · subst c
      rw[ZDC];go_enter func212,ntmps212;go_wp2;go_ret;exact⟨rfl,rfl⟩
    · rw[ZDB a b c]
      go_enter func212,ntmps212;go_wp2;go_ret;exact⟨rfl,rfl⟩
def talC(l:List Int):List Value:=[Vi l.length,Vi l.sum,Vi (maxL (l.headD 0) l),Vi (minL (l.headD 0) l),Vi (l.headD 0),Vi (l.getLastD 0)]
def talV(l:List Int):Value:=.agg (talC l).toArray
theorem ZyX(m:Int)(l:List Int)(x:Int):maxL m (l++[x])=max (maxL m l) x:=by rw[ZyW];split <;> omega
theorem Zy2(m:Int)(l:List Int)(x:Int):minL m (l++[x])=min (minL m l) x:=by rw[Zy1];split <;> omega
theorem ZxQ(l:List Int)(x:Int):(l++[x]).getLastD 0=x:=by simp[Yey]
theorem ZsC:∀l:List Int,(∀x∈l,vOk x)->-1000000000*(l.length:Int)<=l.sum/\l.sum<=1000000000*(l.length:Int)
 | [],_=>by simp
 | a :: l, h => by
   have e:=ZsC l (fun x c=>h x (Yam _ c));have d:=h a (Yay ..);unfold vOk at d;rw[List.sum_cons,Yaj];omega
theorem ZsT (l : List Int) (x : Int) (k : l.length <= 10000) (d : ∀ y ∈ l, vOk y) (f : vOk x) (w : World) : CP 220 #[talV l, Vi x] w fun e u => e = .returned (talV (l ++ [x])) /\ BW w u := by
  cases l with
  | nil=>
    unfold talV talC;simp only[Ybq,List.sum_nil,maxL,minL,List.headD_nil,List.getLastD_nil,Ycu,Ybj,List.sum_singleton,List.headD_cons,Yel,Int.lt_irrefl,if_false];go_enter func220,ntmps220;go_wp2;exact bodyPost_ret (v:=.agg #[Vi 1,Vi x,Vi x,Vi x,Vi x,Vi x]) (by simp[results,results220,go_sem]) rfl ⟨by simp,belB⟩
  | cons a l=>
    have c:=ZsC (a::l) d
    have g:Hid (talV ((a::l)++[x])=.agg #[Vi ((l.length:Int)+1+1),Vi ((a::l).sum+x),Vi (max (maxL a (a::l)) x),Vi (min (minL a (a::l)) x),Vi a,Vi x]):=hid (by
      unfold talV talC;rw[ZyX,Zy2,List.sum_append,ZxQ];simp)
    unfold vOk at f;rw[g.out];unfold talV talC;rw[Yaj]at *
    simp only[List.headD_cons];generalize(a::l).sum=sm at *
    generalize maxL a (a::l)=mx at *
    generalize minL a (a::l)=mn at *
    generalize(a::l).getLastD 0=la at *
    generalize l.length=ln at *
    have i:((ln:Int)+1 == 0)=false:=by rw[beq_eq_false_iff_ne];omega
    push_cast
    have h:=hid c;clear c;have j : -10000000000000<=sm/\sm<=10000000000000:=by have:=h.out;omega
    rcases(by omega:(mx<x/\max mx x=x)∨(x<=mx/\max mx x=mx))with ⟨g1,e1⟩|⟨g1,e1⟩ <;> rcases(by omega:(x<mn/\min mn x=x)∨(mn<=x/\min mn x=mn))with ⟨g2,e2⟩|⟨g2,e2⟩
    · rw[e1,e2]
      go_enter func220,ntmps220;go_wp2
      all_goals first|omega|exact bodyPost_ret (v:=.agg #[Vi ((ln:Int)+1+1),Vi (sm+x),Vi x,Vi x,Vi a,Vi x]) (by simp[results,results220,go_sem]) rfl ⟨rfl,belB⟩
    · rw[e1,e2]
      go_enter func220,ntmps220;go_wp2
      all_goals first|omega|exact bodyPost_ret (v:=.agg #[Vi ((ln:Int)+1+1),Vi (sm+x),Vi x,Vi mn,Vi a,Vi x]) (by simp[results,results220,go_sem]) rfl ⟨rfl,belB⟩
    · rw[e1,e2]
      go_enter func220,ntmps220;go_wp2
      all_goals first|omega|exact bodyPost_ret (v:=.agg #[Vi ((ln:Int)+1+1),Vi (sm+x),Vi mx,Vi x,Vi a,Vi x]) (by simp[results,results220,go_sem]) rfl ⟨rfl,belB⟩
    · rw[e1,e2]
      go_enter func220,ntmps220;go_wp2
      all_goals first|omega|exact bodyPost_ret (v:=.agg #[Vi ((ln:Int)+1+1),Vi (sm+x),Vi mx,Vi mn,Vi a,Vi x]) (by simp[results,results220,go_sem]) rfl ⟨rfl,belB⟩
theorem Zlh{n:Int}(h:vOk n):cutV n=n:=by unfold vOk at h;unfold cutV;split <;> (try split) <;> omega
theorem ZqV:∀(l:List Int) (m:Int),vOk m->(∀x∈l,vOk x)->vOk (maxL m l)
 | [],m,h,_=>h
 | a :: l, m, h, c => by
   rw[maxL];refine ZqV l _ ?_ (fun x d=>c x (Yam _ d));split
   · exact c a (Yay ..)
   · exact h
theorem Zq5:∀(l:List Int) (m:Int),vOk m->(∀x∈l,vOk x)->vOk (minL m l)
 | [],m,h,_=>h
 | a :: l, m, h, c => by
   rw[minL];refine Zq5 l _ ?_ (fun x d=>c x (Yam _ d));split
   · exact c a (Yay ..)
   · exact h
theorem ZwS{l:List Int}(c:∀x∈l,vOk x):vOk (l.headD 0):=by
 cases l with
 | nil=>unfold vOk;decide
 | cons a l=>exact c a (Yay ..)
theorem ZxP{l:List Int}(c:∀x∈l,vOk x):vOk (l.getLastD 0):=by
 cases l with
 | nil=>unfold vOk;decide
 | cons a l=>rw[Yel,<-Ye6 (a:=a) (by simp:a::l≠[])];exact c _ (List.getLast_mem _)
theorem ZDl (op : Nat) (f : op <= 4) (l : List Int) (g : l.length <= 10000) (a : ∀ y ∈ l, vOk y) (w : World) : CP 221 #[talV l, Vi op] w fun e u => e = .returned (Vi (cutV (ZfI op l))) /\ BW w u := by
  have c:=ZwS a;have d:=ZxP a;have e1:cutV (maxL (l.headD 0) l)=maxL (l.headD 0) l:=Zlh (ZqV l _ c a);have e2:cutV (minL (l.headD 0) l)=minL (l.headD 0) l:=Zlh (Zq5 l _ c a);have e3:cutV (l.length:Int)=l.length:=Zlh (by unfold vOk;omega);unfold ZfI talV talC;unfold vOk at c d;generalize maxL (l.headD 0) l=mx at *
  generalize minL (l.headD 0) l=mn at *
  generalize l.headD 0=hd at *
  generalize l.getLastD 0=la at *
  generalize l.sum=sm at *
  generalize l.length=ln at *
  clear a;rcases(by omega:op=0∨op=1∨op=2∨op=3∨op=4)with rfl|rfl|rfl|rfl|rfl
  · simp only[if_true]
    go_enter func221,ntmps221
    go_wp2_with (go_at_call 250;refine(ZiJ).mono ?_;rintro e u ⟨rfl,rfl⟩)
    go_ret;exact⟨rfl,belB⟩
  · simp only[Nat.one_ne_zero,if_false,if_true,e1]
    go_enter func221,ntmps221;go_wp2;go_ret;exact⟨rfl,belB⟩
  · rw[if_neg Dc,if_neg Dc,if_pos rfl,e2]
    go_enter func221,ntmps221;go_wp2;go_ret;exact⟨rfl,belB⟩
  · rw[if_neg Dc,if_neg Dc,if_neg Dc,if_pos rfl,e3]
    go_enter func221,ntmps221;go_wp2;go_ret;exact⟨rfl,belB⟩
  · rw[if_neg Dc,if_neg Dc,if_neg Dc,if_neg Dc]
    go_enter func221,ntmps221
    go_wp2_with (go_at_call 250;refine(ZiJ).mono ?_;rintro e u ⟨rfl,rfl⟩)
    go_ret;exact⟨rfl,belB⟩
theorem ZgR {a:Option Addr} {n c:Nat} {tx:BA} {w:World} : CP 159 #[.agg #[.slice a n c, .string tx]] w fun e u => e = .returned (.string tx) /\ ∃ o, u = w.alloc o := by
  go_enter func159,ntmps159;go_wp2;go_ret;exact⟨rfl,_,rfl⟩
def cmpV(x y:LB):Int:=if Op.bytesLess x y then -1 else if Op.bytesLess y x then 1 else 0
theorem ZjM {s:BA} {w:World} : CP 286 #[.string s] w fun e u => e = .returned (.bool false) /\ u = w := by
  go_enter func286,ntmps286;go_wp2;go_ret;exact⟨by simp,rfl⟩
theorem Zra {s:BA} {w:World} : CP 284 #[.string s] w fun e u => e = .returned (.bool false) /\ u = w := by
  go_enter func284,ntmps284;go_wp2;go_ret;exact⟨by simp,rfl⟩
theorem Zoe {a b:BA} {w:World} : CP 258 #[.string a, .string b] w fun e u => e = .returned (Vi (cmpV (bl a) (bl b))) /\ u = w := by
  obtain⟨r,c⟩:∃r,r=cmpV (bl a) (bl b):=⟨_,rfl⟩
  rw[<-c];unfold cmpV at c;rw[<-Zbt,<-Zbt]at c;obtain⟨p,g⟩:∃p,Op.bytesLess a.toList b.toList=p:=⟨_,rfl⟩
  obtain⟨q,f⟩:∃q,Op.bytesLess b.toList a.toList=q:=⟨_,rfl⟩
  rw[g,f]at c;have d:Hid (r=if p=true then -1 else if q=true then 1 else 0):=c;clear c;cases p
  · cases q
    · obtain rfl:r=0:=d.out
      have h:(a.toList == b.toList)=true:=by rw[beq_iff_eq];exact Zdh _ _ g f
      clear d;go_enter func258,ntmps258
      go_wp2_with (go_at_call 286;refine(ZjM).mono ?_;rintro e u ⟨rfl,rfl⟩)
      go_ret;exact⟨rfl,rfl⟩
    · obtain rfl:r=1:=d.out
      have h:(a.toList == b.toList)=false:=by rw[beq_eq_false_iff_ne];intro e;rw[e,ZcL]at f;cases f
      clear d;go_enter func258,ntmps258
      go_wp2_with (go_at_call 286;refine(ZjM).mono ?_;rintro e u ⟨rfl,rfl⟩)
      go_ret;exact⟨rfl,rfl⟩
  · obtain rfl:r=-1:=d.out
    clear d;go_enter func258,ntmps258
    go_wp2_with (go_at_call 286;refine(ZjM).mono ?_;rintro e u ⟨rfl,rfl⟩)
    go_ret;exact⟨rfl,rfl⟩
theorem ZxX (a b : BA) (w : World) : CP 279 #[.string a, .string b] w fun e u => e = .returned (.bool (Op.bytesLess (bl a) (bl b))) /\ u = w := by
  rw[<-Zbt,<-Zbt];generalize c:Op.bytesLess a.toList b.toList=p;go_enter func279,ntmps279
  go_wp2_with (go_at_call 286;refine(ZjM).mono ?_;rintro e u ⟨rfl,rfl⟩)
  go_ret;exact⟨by first|rfl|simp[c],rfl⟩
theorem Zem{s:BA}{a:Array UInt8}(h:bl s=a.toList):s=⟨a⟩:=by
 cases s with
 | mk d=>unfold bl at h;simp at h;rw[h]
theorem ZqY (c : BA) (op : Nat) (d : op <= 4) (h : bl c = Z0.getD op []) (w : World) : CP 166 #[.string c] w fun e u => e = .returned (Vi op) /\ u = w := by
  rcases(by omega:op=0∨op=1∨op=2∨op=3∨op=4)with rfl|rfl|rfl|rfl|rfl
  · obtain rfl:=Zem (a:=#[116,111,116,97,108]) h
    go_enter func166,ntmps166;go_wp2;go_ret;exact⟨rfl,rfl⟩
  · obtain rfl:=Zem (a:=#[112,101,97,107]) h
    go_enter func166,ntmps166;go_wp2;go_ret;exact⟨rfl,rfl⟩
  · obtain rfl:=Zem (a:=#[108,111,119]) h
    go_enter func166,ntmps166;go_wp2;go_ret;exact⟨rfl,rfl⟩
  · obtain rfl:=Zem (a:=#[115,105,122,101]) h
    go_enter func166,ntmps166;go_wp2;go_ret;exact⟨rfl,rfl⟩
  · obtain rfl:=Zem (a:=#[114,105,115,101]) h
    go_enter func166,ntmps166;go_wp2;go_ret;exact⟨rfl,rfl⟩
theorem ZqX (c : BA) (op : Nat) (d : op <= 3) (h : bl c = ZW.getD op []) (w : World) : CP 166 #[.string c] w fun e u => e = .returned (Vi op) /\ u = w := by
  rcases(by omega:op=0∨op=1∨op=2∨op=3)with rfl|rfl|rfl|rfl
  · obtain rfl:=Zem (a:=#[115,117,109]) h
    go_enter func166,ntmps166;go_wp2;go_ret;exact⟨rfl,rfl⟩
  · obtain rfl:=Zem (a:=#[109,97,120]) h
    go_enter func166,ntmps166;go_wp2;go_ret;exact⟨rfl,rfl⟩
  · obtain rfl:=Zem (a:=#[109,105,110]) h
    go_enter func166,ntmps166;go_wp2;go_ret;exact⟨rfl,rfl⟩
  · obtain rfl:=Zem (a:=#[99,111,117,110,116]) h
    go_enter func166,ntmps166;go_wp2;go_ret;exact⟨rfl,rfl⟩
theorem ZJU.zero{w:World}{p:PV}{ns:List (LB)}(h:ZJU w 0 p ns):∃bs:List BA,p.bn=bs.length/\w.ownsRow 0 9 1 (.slice p.ba bs.length p.bc) bs.length (bs.map .string)/\bs.map bl=ns:=by
 obtain⟨bs,c,d⟩:=h;obtain⟨av,cp,a⟩:=Zl c;injection a with _ a _;exact⟨bs,a,by rw[<-a];rw[<-a]at c;exact c,d⟩
section
variable {P:Program} {ops:Array Oper} {Q:Exit->Act->World->Prop} {md:Region.Mode} {S:World->Prop} {k:Nat}
def ZcJ(P:Program)(md:Region.Mode)(ops:Array Oper)(Q:Exit->Act->World->Prop)(S:World->Prop)(k:Nat):Nat->Array Bool->Act->World->Prop
 | 0,ls,a,w=>Region.ready md ops ls=[]/\Q .normal a w
 | f + 1, ls, a, w => (Region.ready md ops ls = [] -> Q .normal a w) /\ ∀ i ∈ Region.ready md ops ls,
     wpOp P ops Q i (fun a' w'=>((ls.setIfInBounds i true).getD k true=false->S w')/\ZcJ P md ops Q S k f (ls.setIfInBounds i true) a' w') a w
theorem ZcJ.any:∀(f:Nat) (ls:Array Bool) (a:Act) (w:World),ZcJ P md ops Q S k f ls a w->wpAny P md ops Q f ls a w
 | 0,_,_,_,h=>h
 | f+1,_,_,_,h=>⟨h.1,fun i c=>wpOp_mono (fun _ _ d=>ZcJ.any f _ _ _ d.2) (h.2 i c)⟩
def ZfE(md:Region.Mode)(ops:Array Oper)(ls:Array Bool):Bool:=
 (List.range ops.size).all fun j=>!ls.getD j true || ((ops[j]?).map (·.after.all fun e=>!Region.binds md e || ls.getD e.on false)).getD false
def Zhk(md:Region.Mode)(ops:Array Oper)(i:Nat):Nat->Nat->Bool
 | 0,_=>false
 | n+1,j=>((ops[j]?).map (·.after.any fun e=>Region.binds md e && (e.on == i || Zhk md ops i n e.on))).getD false
theorem Zsl{ls:Array Bool} : ZfE md ops ls=true ↔ ∀j o,ops[j]?=some o->ls.getD j true=true->∀e∈o.after,Region.binds md e=true->ls.getD e.on false=true:=by
 unfold ZfE;rw[Ybu];constructor
 ·intro h j o a c e d f;have g:=h j (Yb9.2 (Yae.1 a).1);rw[c,a]at g;simp only[Bool.not_true,Yft,Ybf,Ya6,Array.all_eq_true']at g;have i:=g e d;rw[f]at i;simpa using i
 ·intro h j c;rw[Yb9]at c;have a:ops[j]?=some ops[j]:=Array.getElem?_eq_getElem c;cases l:ls.getD j true with
  | false=>rfl
  | true=>
   rw[a];simp only[Bool.not_true,Yft,Ybf,Ya6,Array.all_eq_true'];intro e d;cases f:Region.binds md e with
   | false=>rfl
   | true=>simpa using h j _ a l e d f
theorem ZCb{ls:Array Bool}{j:Nat}(h:ZfE md ops ls=true)(n:j∈Region.ready md ops ls):ZfE md ops (ls.setIfInBounds j true)=true:=by
 rw[Zsl]at h ⊢;intro i o a f e g l;obtain⟨_,oj,m,d⟩:=mem_ready.1 n;by_cases c:j=i
 ·subst c;rw[m]at a;injection a with a;subst a;exact getD_set_true (d e g l)
 ·rw[getD_set_ne true c]at f;exact getD_set_true (h i o a f e g l)
theorem Zs6{ls:Array Bool}{i:Nat}(h:ZfE md ops ls=true)(g:ls.getD i true=false):∀(n j:Nat),Zhk md ops i n j=true->ls.getD j true=false
 | 0,_,a=>by cases a
 | n + 1, j, a => by
   cases q:ls.getD j true with
   | false=>rfl
   | true=>
     unfold Zhk at a;cases d:ops[j]? with
     | none=>rw[d]at a;cases a
     | some o=>
       rw[d]at a;simp only[Ybf,Ya6,Array.any_eq_true',Yas,Yct,beq_iff_eq]at a;obtain⟨e,r,s,l⟩:=a;have c:=Zsl.1 h j o d q e r s
       have m:ls.getD e.on true=false:=by
         rcases l with p|t
         · rw[p];exact g
         · exact Zs6 h g n _ t
       exfalso
       rcases Yav e.on ls.size with f|f
       · simp[f]at c m;rw[m]at c;cases c
       · simp[f]at c
theorem Ztl{i n:Nat}{oi:Oper}{v:Value}(B:ops[i]?=some oi)(l:∀(j:Nat) (o:Oper) cs b,ops[j]?=some o->o.op≠.select cs b)
  (T:∀c a w,Q (.panic c) (a.put oi.dst v) w->Q (.panic c) a w) (U:Zhk md ops i n k=true) (F:i≠k) :
  ∀(f:Nat) (ls:Array Bool) (a:Act) (w:World),ZfE md ops ls=true->
   (∀j oj,ops[j]?=some oj->j≠i->ls.getD j true=false->(∀e∈oj.after,Region.binds md e=true->e.on≠i)->oi.apart ops oj=true)->
   i∈Region.ready md ops ls->YieldsIf P ops S oi v a->S w->
   ZcJ P md ops Q S k f (ls.setIfInBounds i true) (a.put oi.dst v) w->ZcJ P md ops Q S k (f+1) ls a w
 | 0, ls, a, w, G, g, p, C, s, H => by
   refine⟨fun h=>(by rw[h]at p;cases p),fun j t=>?_⟩;by_cases d:j=i
   · subst d;exact C.wpOp B s ⟨fun _=>s,H⟩
   · have D:=ready_mono t d
     rw[H.1]at D;cases D
 | f + 1, ls, a, w, G, g, p, C, s, H => by
   refine⟨fun h=>(by rw[h]at p;cases p),fun j t=>?_⟩;by_cases d:j=i
   · subst d;exact C.wpOp B s ⟨fun _=>s,H⟩
   · have D:=H.2 j (ready_mono t d)
     obtain⟨x,oj,z,L⟩:=mem_ready.1 t;have q:=(mem_ready.1 p).1
     have M : ∀ e ∈ oj.after, Region.binds md e = true -> e.on ≠ i := fun e Y Z V => by
       have r:=L e Y Z;rw[V]at r;rcases Yav i ls.size with N|N
       · simp[N]at q r;rw[q]at r;cases r
       · simp[N]at r
     have A:=ZCb G t;have E:(ls.setIfInBounds j true).getD i true=false:=by rw[getD_set_ne true d];exact q
     have O:(ls.setIfInBounds j true).getD k true=false:=Zs6 A E n k U;have r:=wpOp_putIf z (g j oj z d x M) (fun cs b=>l i oi cs b B) (fun cs b=>l j oj cs b z) T C D;refine wpOp_mono (fun a' u R=>?_) r;have I:S u:=R.2.1 (by rw[Ye4 _ _ (Ycp d),getD_set_ne true F];exact O);refine⟨fun _=>I,Ztl B l T U F f (ls.setIfInBounds j true) a' u A (fun m om hm W J X=>g m om hm W ?_ X) (ready_mono p (Ycp d)) R.1 I ?_⟩
     · by_cases K:j=m
       · subst K;exact x
       · rw[getD_set_ne true K]at J;exact J
     · rw[Ye4 _ _ d]
       exact R.2.2
theorem ZeD{i d:Nat}{oi:Oper}{v:Value}{f:Nat}{ls:Array Bool}{a:Act}{w:World}(e:ops[i]?=some oi)(hd:oi.dst=some d)(g:(Region.noSelect ops && Region.free md ops ls i && (Region.ready md ops ls).contains i && Zhk md ops i ops.size k && ZfE md ops ls && i != k)=true)
  (j:∀c a w,Q (.panic c) (a.put oi.dst v) w->Q (.panic c) a w) (l:YieldsIf P ops S oi v a) (m:S w)
  (h:ZcJ P md ops Q S k f (ls.setIfInBounds i true) { a with tmps:=a.tmps.setIfInBounds d v } w):ZcJ P md ops Q S k (f+1) ls a w:=by
 simp only[Yas,bne_iff_ne]at g;obtain⟨⟨⟨⟨⟨n,o⟩,p⟩,q⟩,r⟩,s⟩:=g;exact Ztl e (Region.noSelect_spec n) j q s f ls a w r (Region.free_spec e o) (by simpa using p) l m (by rw[hd];exact h)
theorem Z4{i:Nat}{o:Oper}{f:Nat}{ls:Array Bool}{a:Act}{w:World}(c:Region.ready md ops ls=[i])(l:ops[i]?=some o)
  (h:∀K':Act->World->Prop,Shut (∀a w,S w->(S w->ZcJ P md ops Q S k f (ls.setIfInBounds i true) a w)->K' a w)->if Region.wanted o (yielded ops a.tmps)=true then Oper.wp P o a w K' Q else K' (a.put o.dst undef) w):ZcJ P md ops Q S k (f+1) ls a w:=by
 refine⟨fun d=>(by rw[c]at d;cases d),fun j e=>?_⟩;rw[c,Yap]at e;subst e;exact wpOp_step l (fun K' m=>h K' (fun a w g n=>m a w ⟨fun _=>g,n g⟩))
theorem Zbl{o:Oper}{f:Nat}{ls:Array Bool}{a:Act}{w:World}(g:Region.ready md ops ls=[k])(e:Region.ready md ops (ls.setIfInBounds k true)=[])(l:ops[k]?=some o)(m:(ls.setIfInBounds k true).getD k true=true)
  (h:∀K':Act->World->Prop,Shut (∀a w,Q .normal a w->K' a w)->if Region.wanted o (yielded ops a.tmps)=true then Oper.wp P o a w K' Q else K' (a.put o.dst undef) w):ZcJ P md ops Q S k (f+1) ls a w:=by
 refine⟨fun c=>(by rw[g]at c;cases c),fun j d=>?_⟩;rw[g,Yap]at d;subst d;refine wpOp_step l (fun K' n=>h K' (fun a w i=>n a w ⟨fun c=>(by rw[m]at c;cases c),?_⟩));cases f with
 | zero=>exact⟨e,i⟩
 | succ f=>exact⟨fun _=>i,fun j d=>by rw[e]at d;cases d⟩
theorem Zbn{id:Nat}{a:Act}{w:World}(k:Nat)(S:World->Prop)(c:P.follows .mixedOrders=true)(d:S w.drew)(h:S w.drew->ZcJ P .any ops Q S k ops.size (Array.replicate ops.size false) a w.drew):(Code.region id ops true).wp P Q a w:=
 wp_region_any c (ZcJ.any _ _ _ _ (h d))
end
end Go.Proofs.YtkodhpilkaihjaaGreatDoor
namespace Go.Proofs.YtkodhpilkaihjaaGreatDoor
open Go.RowKit LS Go.Proofs.Tryz
section
variable {P:Program} {ops:Array Oper} {Q:Exit->Act->World->Prop} {md:Region.Mode} {S:World->Prop} {k:Nat}
theorem Za (i : Nat) {d : Nat} {oi : Oper} {v : Value} {f : Nat} {ls ls' : Array Bool} {a : Act} {tm' : Array Value} {w : World} (e : S w) (g : ops[i]? = some oi := by rfl) (hd : oi.dst = some d := by rfl) (j : (Region.noSelect ops && Region.free md ops ls i && (Region.ready md ops ls).contains i && Zhk md ops i ops.size k && ZfE md ops ls && i != k) = true := by kernel_rfl)
    (l:∀c a w,Q (.panic c) (a.put oi.dst v) w->Q (.panic c) a w:=by exact fun _ _ _ h=>h) (m:YieldsIf P ops S oi v a:=by(refine Or.inl ⟨by rfl,?_⟩;intro w hSw;go_simp;try with_reducible rfl)) (n:ls.setIfInBounds i true=ls':=by(try simp only[Zset]);rfl) (o:a.tmps.setIfInBounds d v=tm':=by(try simp only[Zset]);rfl)
    (h:ZcJ P md ops Q S k f ls' { a with tmps:=tm' } w):ZcJ P md ops Q S k (f+1) ls a w:=by
  subst n o;exact ZeD g hd j l m e h
end
end Go.Proofs.YtkodhpilkaihjaaGreatDoor
namespace Go.Proofs.YtkodhpilkaihjaaGreatDoor
open Go.RowKit LS Go.Proofs.Tryz
theorem ZmD{w:World}{base:Nat}{e:TypeId}{g n cap:Nat}{xs:List Value}(h:w.ownsRow base e 1 (.slice (some ⟨g,0,none⟩) n cap) n xs)(i:Nat)(u:Value):(w.setCell ⟨g,i,none⟩ u).ownsRow base e 1 (.slice (some ⟨g,0,none⟩) n cap) n (xs.set i u):=by
 obtain⟨c,h⟩:=h;refine⟨by rw[Yat];exact c,?_⟩;rcases h with ⟨h,_⟩|⟨g',cap',cur,d,f,j,k,l,m,a⟩
 ·cases h
 ·injection d with h1 _ h3;injection h1 with h1;injection h1 with h1;subst h1 h3;refine Or.inr ⟨g,cap,cur.setIfInBounds i u,rfl,f,?_,k,l,by simpa using m,?_⟩
  ·simp[World.setCell,Ybn,j]
  ·rw[Yej]at a ⊢;rw[<-a,Array.toList_setIfInBounds,List.take_set]
theorem ZB6(c k:Nat)(f:Nat->Value){z:Value}(a:k<c):((List.range k).map f++List.replicate (c - k) z).set k (f k)=(List.range (k+1)).map f++List.replicate (c - (k+1)) z:=by
 have e:c - k=(c - (k+1))+1:=by omega
 rw[e,List.replicate_succ,Yd5 _ _ (by simp),List.range_succ,Yaq,Yan];simp
theorem Tryz.infoInt3:(Tryz.prog.info? 3).map (fun i=>(i.zero,i.size,i.bytes))=some (some (Vi 0),1,8):=by kernel_rfl
theorem Zf9 {t:Int} {w:World} : CP 92 #[Vi t] w fun e u => e = .returned (.bool (decide (-1000000 <= t) && decide (t <= 1000000))) /\ u = w := by
  by_cases a : -1000000<=t
  · by_cases c:t<=1000000
    · rw[show(decide (-1000000<=t) && decide (t<=1000000))=true by simp;omega]
      go_enter func92,ntmps92;go_wp2;go_ret;exact⟨rfl,rfl⟩
    · rw[show(decide (-1000000<=t) && decide (t<=1000000))=false by simp;omega]
      go_enter func92,ntmps92;go_wp2;go_ret;exact⟨rfl,rfl⟩
  · rw[show(decide (-1000000<=t) && decide (t<=1000000))=false by simp;omega]
    go_enter func92,ntmps92;go_wp2;go_ret;exact⟨rfl,rfl⟩
theorem Zqi{ns ms:List (LB)}(h:∀z,z∈ns ↔ z∈ms)(l:List Lab):ZB l ns=ZB l ms:=by
 unfold ZB;refine Ygl (fun p _=>?_);rw[Ybh,Ydk,Ydk];exact h p.1
theorem ZpH{ns ms:List (LB)}(h:∀z,z∈ns ↔ z∈ms)(op:Nat)(all:List El):∀(l pre:List El),ZcF op ns all pre l=ZcF op ms all pre l
 | [],_=>rfl
 | e :: l, pre => by
   rw[ZcF,ZcF,ZpH h op all l (pre++[e])];have a:(fun f:El=>ZB f.1 ns)=fun f=>ZB f.1 ms:=funext fun f=>Zqi h f.1;simp only[Zqi h]
theorem ZpJ{ns ms:List (LB)}(h:∀z,z∈ns ↔ z∈ms)(op:Nat)(l:List El):Zcv op ns l=Zcv op ms l:=by unfold Zcv;rw[ZpH h]
theorem Zmw:∀l:List (LB),l.length<=nw l
 | []=>Yac _
 | c::l=>by have:=Zmw l;simp only[nw,Yaj];omega
theorem VOk.mono{m n:Nat}{V:VV}(h:VOk m V)(a:m<=n):VOk n V:=by
 cases V with
 | inl _=>trivial
 | inr l=>exact⟨h.1,Yah h.2 a⟩
def Zd6(c n:Int):Int:=if c<0 then -((c+1).tmod n)else c % n
theorem ZmM(c n:Int)(a:1<=n):0<=Zd6 c n/\Zd6 c n<n:=by
 unfold Zd6;split
 ·rw[<-Int.neg_tmod,Int.tmod_eq_emod_of_nonneg Om];exact⟨Int.emod_nonneg _ Om,Int.emod_lt_of_pos _ Om⟩
 ·exact⟨Int.emod_nonneg _ Om,Int.emod_lt_of_pos _ Om⟩
theorem ZAC(c n:Int)(f : -9223372036854775808<=c)(g:c<=9223372036854775807)(a:1<=n)(i:n<=9223372036854775807)(w:World) :
  CP 14 #[Vi c,Vi n] w fun e u=>e=.returned (Vi (Zd6 c n))/\u=w:=by
 have d:=ZmM c n a;have j:¬n=0:=by omega
 go_enter func14,ntmps14;by_cases h:c<0
 ·have e:Zd6 c n=-((c+1).tmod n):=by unfold Zd6;rw[if_pos h]
  rw[e]at d;rw[e];go_wp2;go_ret;exact⟨rfl,rfl⟩
 ·have e:Zd6 c n=c % n:=by unfold Zd6;rw[if_neg h]
  rw[e]at d;rw[e];go_wp2;go_ret;exact⟨rfl,rfl⟩
end Go.Proofs.YtkodhpilkaihjaaGreatDoor
namespace Go.Proofs.YtkodhpilkaihjaaGreatDoor.LS
open Go Go.RowKit
def back(l:LB):Nat:=l.foldl (fun n c=>256*n+c.toNat) 0
theorem ZnY(l:LB)(c:UInt8):back (l++[c])=256*back l+c.toNat:=by simp[back]
theorem ZtW(l:LB):back l.reverse<256 ^ l.length:=by
 induction l with
 | nil=>simp[back]
 | cons c l ih=>
  rw[Ybz,ZnY,Yaj,Nat.pow_succ];have:=c.toNat_lt;omega
theorem ZtV(l:LB):back l<256 ^ l.length:=by
 have:=ZtW l.reverse
 rwa [Yg4,Yg0]at this
theorem ZhM{l:LB}{n:Nat}(h:l.length<=n):back l<256 ^ n:=Yaw (ZtV l) (Nat.pow_le_pow_right Dc h)
def digL:Nat->Nat->LB
 | _,0=>[]
 | n,k+1=>digL (n / 256) k++[UInt8.ofNat (n % 256)]
theorem ZUZ(l:LB):digL (back l.reverse) l.length=l.reverse:=by
 induction l with
 | nil=>rfl
 | cons c l ih=>
  rw[Ybz,ZnY,Yaj];show digL ((256*back l.reverse+c.toNat) / 256) l.length++[UInt8.ofNat ((256*back l.reverse+c.toNat) % 256)]=_;have a:=c.toNat_lt;rw[show(256*back l.reverse+c.toNat) / 256=back l.reverse by omega,show(256*back l.reverse+c.toNat) % 256=c.toNat by omega,ih];simp
theorem ZUY(l:LB):digL (back l) l.length=l:=by
 have:=ZUZ l.reverse
 rwa [Yg4,Yg0]at this
def bitS(h:Nat):Nat:=if h % 2=1 then (h / 2) ^^^ 3988292384 else h / 2
def ZfS:Nat->Nat->Nat
 | 0,h=>h
 | k+1,h=>bitS (ZfS k h)
def Zk3(h:Nat)(c:UInt8):Nat:=ZfS 8 (h ^^^ c.toNat)
def sumL(l:LB):Nat:=l.foldl Zk3 4294967295
def sumQ(l:LB):Nat:=4294967295 - sumL l
theorem Zsz(l:LB)(c:UInt8):sumL (l++[c])=Zk3 (sumL l) c:=by simp[sumL]
theorem Zt5{h:Nat}(a:h<4294967296):bitS h<4294967296:=by
 unfold bitS;split
 ·exact Yhi (n:=32) (by show h / 2<4294967296;omega) Dc
 ·omega
theorem ZkX{h:Nat}(a:h<4294967296):∀k,ZfS k h<4294967296
 | 0=>a
 | k+1=>Zt5 (ZkX a k)
theorem Zty{h:Nat}(a:h<4294967296)(c:UInt8):h ^^^ c.toNat<4294967296:=Yhi (n:=32) a (by have:=c.toNat_lt;show c.toNat<4294967296;omega)
theorem Zum{h:Nat}(a:h<4294967296)(c:UInt8):Zk3 h c<4294967296:=ZkX (Zty a c) 8
theorem ZCY(l:LB):sumL l.reverse<4294967296:=by
 induction l with
 | nil=>decide
 | cons c l ih=>rw[Ybz,Zsz];exact Zum ih c
theorem ZCX(l:LB):sumL l<4294967296:=by
 have:=ZCY l.reverse
 rwa [Yg4]at this
theorem Znn(l:LB):sumQ l<4294967296:=by unfold sumQ;omega
def selQ(l:LB):Option Nd:=match ZD l with
 | .ok (.node _ _ a _ _)=>if a.jj=1/\selS a=l then some a else none
 | _=>none
def ZbA(t:LB):Option (Nd×Nat):=match seek 91 t with
 | none=>(selQ t).map fun a=>(a,0)
 | some p => if t.getLast? = some 93 then (match ZQ 1000 (t.drop (p + 1)).dropLast with
     | some n=>if n=0 then none else (selQ (t.take p)).map fun a=>(a,n)
     | none=>none)else none
def ZcG(t:LB):Option (List (LB)):=if t=[] then some [] else if (split 44 t).all Zx=true/\(split 44 t).Nodup then some (split 44 t)else none
structure CodeQ where
 jq:List Int
 jw:List (Nd×Nat)
 jv:List (List (LB))
 jz:List (Nat×Nat)
abbrev RdR (α:Type):=Except (Nat×Nat) (α×Nat)
def sub(l:LB)(p n:Nat):LB:=(l.drop p).take n
def Zcg(l:LB)(p n:Nat):RdR (LB):=if l.length<p+n then .error (9,l.length)else .ok (sub l p n,p+n)
def Zbr(l:LB)(p n:Nat):RdR Nat:=match Zcg l p n with
 | .error e=>.error e
 | .ok x=>.ok (back x.1,x.2)
def Zdp(v:Nat):Int:=if 2147483648<=v then (v:Int) - 4294967296 else v
def ZbW(l:LB)(p:Nat):RdR Int:=match Zbr l p 4 with
 | .error e=>.error e
 | .ok x=>if Zdp x.1 < -1000000000∨1000000000<Zdp x.1 then .error (9,p)else .ok (Zdp x.1,x.2)
def ZcH(l:LB)(p:Nat):RdR (LB):=match Zbr l p 2 with
 | .error e=>.error e
 | .ok x=>Zcg l x.2 x.1
def Zb4(l:LB)(p:Nat):RdR (Nd×Nat):=match ZcH l p with
 | .error e=>.error e
 | .ok x => match ZbA x.1 with
   | none=>.error (9,p)
   | some y=>.ok (y,x.2)
def ZbX(l:LB)(p:Nat):RdR (List (LB)):=match ZcH l p with
 | .error e=>.error e
 | .ok x => match ZcG x.1 with
   | none=>.error (9,p)
   | some y=>.ok (y,x.2)
def ZbN(l:LB)(p:Nat):RdR (Nat×Nat):=match Zbr l p 1 with
 | .error e=>.error e
 | .ok x => if 13 < x.1 then .error (9, p) else match Zbr l x.2 2 with
   | .error e=>.error e
   | .ok y=>.ok ((x.1,y.1),y.2)
def many{α:Type}(one:Nat->RdR α)(p:Nat):Nat->RdR (List α)
 | 0=>.ok ([],p)
 | k + 1 => match many one p k with
   | .error e=>.error e
   | .ok x => match one x.2 with
     | .error e=>.error e
     | .ok y=>.ok (x.1++[y.1],y.2)
theorem ZyU{α:Type}{one:Nat->RdR α}{p k:Nat}{e:Nat×Nat}(h:many one p k=.error e):∀n,k<=n->many one p n=.error e:=by
 intro n c
 induction n with
 | zero => obtain rfl : k = 0 := by omega
           exact h
 | succ n ih=>
  by_cases a:k=n+1
  ·subst a;exact h
  ·have:=ih Om;unfold many;rw[this]
theorem ZgS{α:Type}{one:Nat->RdR α}{p k:Nat}{xs:List α}{q:Nat}{e:Nat×Nat}(h:many one p k=.ok (xs,q))(a:one q=.error e):∀n,k<n->many one p n=.error e:=
 fun n c=>ZyU (k:=k+1) (by unfold many;rw[h];simp only;rw[a]) n c
theorem ZjI{α:Type}{one:Nat->RdR α}{p k:Nat}{xs:List α}{q r:Nat}{y:α}(h:many one p k=.ok (xs,q))(a:one q=.ok (y,r)):many one p (k+1)=.ok (xs++[y],r):=by
 unfold many;rw[h];simp only;rw[a]
theorem ZqR{α:Type}{one:Nat->RdR α}{p:Nat} : ∀ {k:Nat} {xs:List α} {q:Nat},many one p k=.ok (xs,q)->xs.length=k
 | 0,xs,q,h=>by injection h with h;injection h with h1 h2;subst h1;rfl
 | k + 1, xs, q, h => by
   unfold many at h;cases a:many one p k with
   | error e=>rw[a]at h;cases h
   | ok x=>
     rw[a]at h;simp only at h;cases c:one x.2 with
     | error e=>rw[c]at h;cases h
     | ok y=>
       rw[c]at h;injection h with h;injection h with h1 h2;subst h1;have:=ZqR (show many one p k=.ok (x.1,x.2) from a);simp[this]
def Zc8(l:LB):Except (Nat×Nat) (Nat×Nat×Nat×Nat):=
 if l.head?≠some 103 then .error (9,0)else if l.length<9 then .error (9,l.length)else .ok (back (sub l 1 2),back (sub l 3 2),back (sub l 5 2),back (sub l 7 2))
def Zb7(l:LB):Except (Nat×Nat) CodeQ:=match Zc8 l with
 | .error e=>.error e
 | .ok n => match many (ZbW l) 9 n.1 with
   | .error e=>.error e
   | .ok cs => match many (Zb4 l) cs.2 n.2.1 with
     | .error e=>.error e
     | .ok ps => match many (ZbX l) ps.2 n.2.2.1 with
       | .error e=>.error e
       | .ok gs => match many (ZbN l) gs.2 n.2.2.2 with
         | .error e=>.error e
         | .ok is => if l.length < is.2 + 4 then .error (9, l.length) else if is.2 + 4 < l.length then .error (9, is.2 + 4) else
           if back (l.drop is.2)≠sumQ (l.take is.2)then .error (10,0)else .ok ⟨cs.1,ps.1,gs.1,is.1⟩
def Zy(c:CodeQ)(i:Nat)(x:Nat×Nat):Bool:=match x.1 with
 | 0=>decide (x.2<c.jq.length)
 | 1=>decide (x.2<c.jw.length)
 | 2=>decide (x.2<5)
 | 3=>decide (x.2<4)
 | 4=>decide (x.2=0)
 | 9=>decide (i<x.2/\x.2<=c.jz.length)
 | 10=>decide (i<x.2/\x.2<=c.jz.length)
 | 11=>decide (x.2=0)
 | 12=>decide (x.2<16)
 | 13=>decide (x.2<16)
 | _=>decide (x.2<c.jv.length)
def Zf4(op:Nat):Bool:=op == 12 || op == 13
def Zdd(l:List (Nat×Nat)):Nat:=l.foldl (fun n x=>if Zf4 x.1 then max n (x.2+1)else n) 0
theorem ZCq(l:List (Nat×Nat))(x:Nat×Nat):Zdd (l++[x])=if Zf4 x.1 then max (Zdd l) (x.2+1)else Zdd l:=by simp[Zdd]
structure Ah where
 kj:Bool
 kw:Bool
 jy:List Nat
 jx:List Nat
def ah0:Ah:=⟨false,false,[],List.replicate 16 0⟩
def ZE(k:Nat)(st sl:List Nat):Option (List Nat×List Nat):=if st.length=64 then none else some (k::st,sl)
def Zby(k:Nat):Bool:=k == 1 || k == 2
def Zb3(x:Nd×Nat):Nat:=if 0<x.2 then 3 else 2
def Zt(c:CodeQ)(x:Nat×Nat)(st sl:List Nat):Option (List Nat×List Nat):=match x.1 with
 | 0=>ZE 1 st sl
 | 1=>ZE ((c.jw[x.2]?.map Zb3).getD 0) st sl
 | 2 => match st with
   | k::r=>if k=3 then ZE 2 r sl else none
   | []=>none
 | 3 => match st with
   | y::k::r=>if Zby k && Zby y then ZE (max k y) r sl else none
   | _=>none
 | 4 => match st with
   | k::r=>if Zby k then ZE k r sl else none
   | []=>none
 | 9=>some (st,sl)
 | 11 => match st with
   | _::r=>some (r,sl)
   | []=>none
 | 12 => match st with
   | k::r=>some (r,sl.set x.2 k)
   | []=>none
 | 13=>if sl.getD x.2 0=0 then none else ZE (sl.getD x.2 0) st sl
 | _ => match st with
   | k::r=>if k=2 then ZE 2 r sl else none
   | []=>none
def both(a b:List Nat):List Nat:=List.zipWith (fun x y=>if x=y then x else 0) a b
def Zbi(a:Ah)(st sl:List Nat):Ah:=if a.kj then ⟨true,a.kw || decide (a.jy≠st),a.jy,both a.jx sl⟩else ⟨true,false,st,sl⟩
def ZcE(op:Nat):Bool:=op == 9 || op == 10
def goOn(x:Nat×Nat)(i:Nat)(st sl:List Nat)(l:List Ah):List Ah:=
 let l1:=if ZcE x.1 then l.set x.2 (Zbi (l.getD x.2 ah0) st sl)else l
 if x.1=9 then l1 else l1.set (i+1) (Zbi (l1.getD (i+1) ah0) st sl)
def Zfx(c:CodeQ)(i:Nat)(l:List Ah)(m:Nat):Except (Nat×Nat) (List Ah×Nat):=
 let a:=l.getD i ah0
 if a.kj then (if a.kw then .error (12,i)else match Zt c (c.jz.getD i (0,0)) a.jy a.jx with
  | none=>.error (12,i)
  | some s=>.ok (goOn (c.jz.getD i (0,0)) i s.1 s.2 l,max m s.1.length))else .ok (l,m)
def ZeY(n:Nat):List Ah:=⟨true,false,[],List.replicate 16 0⟩::List.replicate n ah0
def Zbx(c:CodeQ):Nat->Except (Nat×Nat) (List Ah×Nat)
 | 0=>.ok (ZeY c.jz.length,0)
 | i + 1 => match Zbx c i with
   | .error e=>.error e
   | .ok x=>Zfx c i x.1 x.2
def Zd1(a:Ah):Bool:=!a.kw && (decide (a.jy=[1]) || decide (a.jy=[2]))
def Zcp(c:CodeQ):Nat->Except (Nat×Nat) Unit
 | 0=>.ok ()
 | i + 1 => match Zcp c i with
   | .error e=>.error e
   | .ok _=>if Zy c i (c.jz.getD i (0,0))then .ok ()else .error (11,i)
def Zdj(c:CodeQ):Except (Nat×Nat) Nat:=match Zbx c c.jz.length with
 | .error e=>.error e
 | .ok x=>if Zd1 (x.1.getD c.jz.length ah0)then .ok x.2 else .error (12,c.jz.length)
def ZcT(c:CodeQ):Except (Nat×Nat) (Nat×Nat):=match Zcp c c.jz.length with
 | .error e=>.error e
 | .ok _ => match Zdj c with
   | .error e=>.error e
   | .ok m=>.ok (m,Zdd c.jz)
def ZcR(l:LB):Except (Nat×Nat) (CodeQ×Nat×Nat):=match Zb7 l with
 | .error e=>.error e
 | .ok c => match ZcT c with
   | .error e=>.error e
   | .ok x=>.ok (c,x)
theorem Zrx{c:CodeQ}{k:Nat}{e:Nat×Nat}(h:Zbx c k=.error e):∀n,k<=n->Zbx c n=.error e:=by
 intro n d
 induction n with
 | zero => obtain rfl : k = 0 := by omega
           exact h
 | succ n ih=>
  by_cases a:k=n+1
  ·subst a;exact h
  ·have:=ih Om;unfold Zbx;rw[this]
theorem ZBu{c:CodeQ}{k:Nat}{e:Nat×Nat}(h:Zcp c k=.error e):∀n,k<=n->Zcp c n=.error e:=by
 intro n d
 induction n with
 | zero => obtain rfl : k = 0 := by omega
           exact h
 | succ n ih=>
  by_cases a:k=n+1
  ·subst a;exact h
  ·have:=ih Om;unfold Zcp;rw[this]
theorem Zhh{l:LB}{p n:Nat}{x:LB×Nat}(h:Zcg l p n=.ok x):p+n<=l.length/\x.1=sub l p n/\x.2=p+n:=by
 unfold Zcg at h;split at h
 ·cases h
 ·injection h with h;subst h;exact⟨by omega,rfl,rfl⟩
theorem Zki{l:LB}{p n:Nat}(h:p+n<=l.length):(sub l p n).length=n:=by
 unfold sub;rw[Ya7,Ybv];omega
theorem Zev{l:LB}{p n:Nat}{x:Nat×Nat}(h:Zbr l p n=.ok x):p+n<=l.length/\x.1=back (sub l p n)/\x.2=p+n/\x.1<256 ^ n:=by
 unfold Zbr at h;cases a:Zcg l p n with
 | error e=>rw[a]at h;cases h
 | ok y=>
  rw[a]at h;injection h with h;subst h;obtain⟨c,d,f⟩:=Zhh a;refine⟨c,by rw[d],f,?_⟩;show back y.1<_;rw[d];exact ZhM (by rw[Zki c];exact Yac _)
theorem ZCf{v:Nat}(h:v<4294967296) : -2147483648<=Zdp v/\Zdp v<=2147483647:=by unfold Zdp;split <;> omega
theorem Zsy(s:BA)(p n:Nat):sub (bl s) p n=bl (s.extract p (p+n)):=by
 rw[Zfh,Yc8];unfold sub;congr 1;omega
end Go.Proofs.YtkodhpilkaihjaaGreatDoor.LS
namespace Go.Proofs.YtkodhpilkaihjaaGreatDoor
open Go.RowKit LS Go.Proofs.Tryz
theorem Zt6{h:Nat}(a:h % 2=1):bitS h=(h / 2) ^^^ 3988292384:=if_pos a
theorem Zt4{h:Nat}(a:¬h % 2=1):bitS h=h / 2:=if_neg a
theorem ZrR{k:IntKind}{a b:Int}(h:a=b):Ending.returned (.int k a)=.returned (.int k b):=by rw[h]
theorem ZE4{a:Nat}(d:a<4294967296)(c:UInt8):bits .xor .u32 (a:Int) ((c.toNat:Int) % 4294967296)=((a ^^^ c.toNat:Nat):Int):=by
 have e:=c.toNat_lt;rw[show((c.toNat:Int) % 4294967296)=(c.toNat:Int) by omega];exact u32_xor_nat a _ d Om
theorem ZE5{z:Nat}(a:z<4294967296):4294967295 ^^^ z=4294967295 - z:=by
 have h:(BitVec.allOnes 32 ^^^ BitVec.ofNat 32 z).toNat=(~~~ BitVec.ofNat 32 z).toNat:=by rw[BitVec.allOnes_xor]
 rw[BitVec.toNat_xor,BitVec.toNat_not,Yeo,Yd4 a]at h;exact h
theorem Zzq{z:Nat}(a:z<4294967296):bits .xor .u32 IntKind.u32.max (z:Int)=4294967295 - (z:Int):=by
 have:=u32_xor_nat 4294967295 z Dc a;rw[ZE5 a]at this;rw[show IntKind.u32.max=((4294967295:Nat):Int) from rfl,this];omega
theorem ZtI{z:Nat}(a:z<4294967296):bits .and .u32 (z:Int) 1=(z:Int) % 2:=by
 have:=u32_and_nat z 1 a Dc;rw[Nat.and_one_is_mod]at this;rw[show(1:Int)=((1:Nat):Int) from rfl,this];omega
theorem ZVV(s:BA)(w:World)(r:s.size<=maxLen) :
  CP 30 #[.string s] w fun e u=>e=.returned (.int .u32 (sumQ (bl s)))/\u=w:=by
 unfold maxLen at r;go_enter func30,ntmps30;go_wp2
 go_loop [3,4] (fun h i=>∃k:Nat,k<=s.size/\i=Vi k/\h=.int .u32 (sumL ((bl s).take k))) (fun _ i=>s.size - (intOf i).toNat)
 case atStart=>exact⟨0,Yag _,rfl,rfl⟩
 case round=>
  obtain⟨k,C,rfl,rfl⟩:=hrel;have n:=ZCX ((bl s).take k);obtain⟨a,d⟩:∃a,sumL ((bl s).take k)=a:=⟨_,rfl⟩
  have c:Hid (sumL ((bl s).take k)=a):=d;rw[d]at n ⊢;clear d;by_cases p:k<s.size
  ·have t:=ZE4 n s[k];have g:Hid (sumL ((bl s).take (k+1))=ZfS 8 (a ^^^ s[k].toNat)):=hid (by rw[ZiB s k p,Zsz,c.out];rfl);have l:a ^^^ s[k].toNat<4294967296:=Zty n _;obtain⟨g0,m⟩:∃g0,a ^^^ s[k].toNat=g0:=⟨_,rfl⟩
   rw[m]at t g l;clear m c;go_wp2
   go_loop [3,5] (fun h i=>∃j:Nat,j<=8/\i=Vi j/\h=.int .u32 (ZfS j g0)) (fun _ i=>8 - (intOf i).toNat)
   case atStart=>exact⟨0,Yag _,rfl,rfl⟩
   case round=>
    obtain⟨j,D,rfl,rfl⟩:=hrel;by_cases A:j<8
    ·have E:=ZkX l j;have q:Hid (ZfS (j+1) g0=bitS (ZfS j g0)):=rfl;generalize ZfS j g0=z at *
     by_cases f:z % 2=1
     ·have B:bits .xor .u32 ((z:Int) / 2) 3988292384=((z / 2 ^^^ 3988292384:Nat):Int):=by
       have:=u32_xor_nat (z / 2) 3988292384 Om Om;simpa using this
      have v:((z:Int) % 2 == 1)=true:=by rw[beq_iff_eq];omega
      have o:=hid (Zt6 f);clear f;go_wp2
      go_round
      case rel=>exact⟨j+1,by omega,by go_num,by rw[q.out,o.out]⟩
      case measure=>simp[intOf];omega
     ·have v:((z:Int) % 2 == 1)=false:=by rw[beq_eq_false_iff_ne];omega
      have o:=hid (Zt4 f);clear f;go_wp2
      go_round
      case rel=>exact⟨j+1,by omega,by go_num,by rw[q.out,o.out];go_num⟩
      case measure=>simp[intOf];omega
    ·obtain rfl:j=8:=by omega
     go_wp2
     go_round
     case rel=>exact⟨k+1,by omega,by go_num,by rw[g.out]⟩
     case measure=>simp[intOf];omega
  ·have x:Hid (sumQ (bl s)=4294967295 - a):=hid (by
    unfold sumQ;rw[<-c.out,Ya5 (by rw[Zd];omega)])
   clear c;go_wp2;go_ret;exact⟨ZrR (by rw[x.out];omega),rfl⟩
theorem Zru(s:BA)(w:World)(r:s.size<=maxLen) :
  CP 77 #[.string s] w fun e u=>e=.returned (.int .u32 (sumQ (bl s)))/\u=w:=by
 unfold maxLen at r;go_enter func77,ntmps77;go_wp2
 go_loop [3,8] (fun h i=>∃k:Nat,k<=s.size/\i=Vi k/\h=.int .u32 (sumL ((bl s).take k))) (fun _ i=>s.size - (intOf i).toNat)
 case atStart=>exact⟨0,Yag _,rfl,rfl⟩
 case round=>
  obtain⟨k,E,rfl,rfl⟩:=hrel;have f:=ZCX ((bl s).take k);obtain⟨a,d⟩:∃a,sumL ((bl s).take k)=a:=⟨_,rfl⟩
  have c:Hid (sumL ((bl s).take k)=a):=d;rw[d]at f ⊢;clear d;by_cases p:k<s.size
  ·have t:=ZE4 f s[k];have l:Hid (sumL ((bl s).take (k+1))=ZfS 8 (a ^^^ s[k].toNat)):=hid (by rw[ZiB s k p,Zsz,c.out];rfl);have m:a ^^^ s[k].toNat<4294967296:=Zty f _;obtain⟨g0,n⟩:∃g0,a ^^^ s[k].toNat=g0:=⟨_,rfl⟩
   rw[n]at t l m;clear n c;go_wp2
   go_loop [3,17] (fun h i=>∃j:Nat,j<=8/\i=Vi j/\h=.int .u32 (ZfS j g0)) (fun _ i=>8 - (intOf i).toNat)
   case atStart=>exact⟨0,Yag _,rfl,rfl⟩
   case round=>
    obtain⟨j,F,rfl,rfl⟩:=hrel;by_cases C:j<8
    ·have v:=ZkX m j;have q:Hid (ZfS (j+1) g0=bitS (ZfS j g0)):=rfl;generalize ZfS j g0=z at *
     have x:=ZtI v;by_cases g:z % 2=1
     ·have D:bits .xor .u32 ((z:Int) / 2) 3988292384=((z / 2 ^^^ 3988292384:Nat):Int):=by
       have:=u32_xor_nat (z / 2) 3988292384 Om Om;simpa using this
      have A:((z:Int) % 2 == 1)=true:=by rw[beq_iff_eq];omega
      have o:=hid (Zt6 g);clear g;go_wp2
      go_round
      case rel=>exact⟨j+1,by omega,by go_num,by rw[q.out,o.out]⟩
      case measure=>simp[intOf];omega
     ·have A:((z:Int) % 2 == 1)=false:=by rw[beq_eq_false_iff_ne];omega
      have o:=hid (Zt4 g);clear g;go_wp2
      go_round
      case rel=>exact⟨j+1,by omega,by go_num,by rw[q.out,o.out];go_num⟩
      case measure=>simp[intOf];omega
    ·obtain rfl:j=8:=by omega
     go_wp2
     go_round
     case rel=>exact⟨k+1,by omega,by go_num,by rw[l.out]⟩
     case measure=>simp[intOf];omega
  ·have B:Hid (sumQ (bl s)=4294967295 - a):=hid (by
    unfold sumQ;rw[<-c.out,Ya5 (by rw[Zd];omega)])
   have G:=Zzq f;clear c;go_wp2;go_ret;exact⟨ZrR (by rw[B.out];omega),rfl⟩
def ZdL:List (Nat×Nat)->List Value
 | []=>[]
 | x::l=>.int .i64 x.1::.int .i64 x.2::ZdL l
theorem Zwd(l m:List (Nat×Nat)):ZdL (l++m)=ZdL l++ZdL m:=by
 induction l with
 | nil=>rfl
 | cons a l ih=>simp[ZdL,ih]
theorem Zfm(l:List (Nat×Nat))(j:Nat)(a:j<l.length):(ZdL l)[j*2]?=some (Vi l[j].1)/\(ZdL l)[j*2+1]?=some (Vi l[j].2):=by
 induction l generalizing j with
 | nil=>simp at a
 | cons r l ih=>
  cases j with
  | zero=>exact⟨rfl,rfl⟩
  | succ j=>
   have h:=ih j (by simpa using a);rw[show(j+1)*2=j*2+1+1 by omega];simpa [ZdL] using h
def ZTx:List PV->List Value
 | []=>[]
 | p::l=>p.cells++ZTx l
structure PkOk (w:World) (x:Nd×Nat) (p:PV):Prop where
 k:p.k=if 0<x.2 then 2 else 1
 n:0<x.2->p.n=x.2
 nm:bl p.nm=x.1.name
 cs:ZJq w 0 p x.1.kq
structure RCode (w:World) (cb:Nat) (c:CodeQ) (cv pv gv iv:Value) (l:List PV) (g:List (Option Addr×Nat×Nat)):Prop where
 box:BAt w cb [cv,pv,gv,iv] 101
 cs:w.ownsRow 0 2 1 cv c.jq.length (c.jq.map (.int .i64))
 ps:w.ownsRow 0 92 8 pv c.jw.length (ZTx l)
 pl:l.length=c.jw.length
 pk:∀(i:Nat) (x:Nd×Nat) (p:PV),c.jw[i]?=some x->l[i]?=some p->PkOk w x p
 gs:w.ownsRow 0 90 1 gv c.jv.length (g.map fun y=>.slice y.1 y.2.1 y.2.2)
 gl:g.length=c.jv.length
 gk:∀(i:Nat) (x:List (LB)) (y:Option Addr×Nat×Nat),c.jv[i]?=some x->g[i]?=some y->∃bs:List BA,w.ownsRow 0 9 1 (.slice y.1 y.2.1 y.2.2) bs.length (bs.map .string)/\bs.map bl=x
 is:w.ownsRow 0 136 2 iv c.jz.length (ZdL c.jz)
theorem ZJq.below'{w w':World}{p:PV}{cs:List (LB×LB×Bool)}(h:ZJq w 0 p cs)(a:BW w w'):ZJq w' 0 p cs:=by
 obtain⟨qs,c,d⟩:=h;exact⟨qs,Zn c a,d⟩
theorem PkOk.below{w w':World}{x:Nd×Nat}{p:PV}(h:PkOk w x p)(a:BW w w'):PkOk w' x p:=⟨h.k,h.n,h.nm,h.cs.below' a⟩
theorem RCode.below{w w':World}{cb:Nat}{c:CodeQ}{cv pv gv iv:Value}{l:List PV}{g:List (Option Addr×Nat×Nat)}(h:RCode w cb c cv pv gv iv l g)(a:BW w w'):RCode w' cb c cv pv gv iv l g:=
 ⟨h.box.below a, Zn h.cs a, Zn h.ps a, h.pl, fun i x p d e => (h.pk i x p d e).below a, Zn h.gs a, h.gl, fun i x y d e => by
   obtain⟨bs,f,j⟩:=h.gk i x y d e;exact⟨bs,Zn f a,j⟩,Zn h.is a⟩
structure InsAt (w:World) (cb i op arg nc np ngr ni:Nat) (ca pa ga:Option Addr) (cc pc gc ic g:Nat):Prop where
 box:BAt w cb [.slice ca nc cc,.slice pa np pc,.slice ga ngr gc,.slice (some ⟨g,0,none⟩) ni ic] 101
 lt:i<ni
 c0:w.cell? ⟨g,i*2,none⟩=some (Vi op)
 c1:w.cell? ⟨g,i*2+1,none⟩=some (Vi arg)
def kl(k:Nat):UInt8:=match k with
 | 1=>115
 | 2=>118
 | 3=>114
 | _=>45
def baOf(l:LB):BA:=⟨l.toArray⟩
def stL(st:List Nat):LB:=(st.map kl).reverse
def stB(st:List Nat):BA:=baOf (stL st)
def slB(sl:List Nat):BA:=baOf (sl.map kl)
theorem ZTJ(a b:BA):(a.toList == b.toList)=decide (a=b):=by
 by_cases h:a=b
 ·subst h;simp
 ·rw[decide_eq_false h,beq_eq_false_iff_ne];intro e;exact h (ZcW (by rw[<-Zbt,<-Zbt,e]))
def okL(a b:UInt8):Bool:=a == 97 || (a == b || (a == 110 && b != 114))
def ZTi(s w:BA):Bool:=decide (w.size<=s.size) && (List.range w.size).all fun j=>okL ((bl w).getD j 0) ((bl s).getD (s.size - w.size+j) 0)
def ZTt(c:CodeQ)(op arg:Nat)(took sl:BA):BA:=match op with
 | 0=>⟨#[115]⟩
 | 1=>if (c.jw[arg]?.map Zb3).getD 0=3 then ⟨#[114]⟩else ⟨#[118]⟩
 | 3=>if took=⟨#[115,115]⟩then ⟨#[115]⟩else ⟨#[118]⟩
 | 4=>took
 | 9=>⟨#[]⟩
 | 10=>took
 | 11=>⟨#[]⟩
 | 12=>⟨#[]⟩
 | 13=>sl.extract arg (arg+1)
 | _=>⟨#[118]⟩
def hasB(op arg:Nat)(took sl:BA):BA:=if op=12 then sl.extract 0 arg++took++sl.extract (arg+1) sl.size else sl
structure DocStep (c:CodeQ) (op arg:Nat) (st sl:List Nat) (S L W:BA):Prop where
 wle:W.size<=2
 no:ZTi S W=false->Zt c (op,arg) st sl=none
 le:ZTi S W=true->W.size<=S.size
 ld:op=13->arg<L.size
 no2:op=13->(bl L).getD arg 0=45->Zt c (op,arg) st sl=none
 big:ZTi S W=true->(op=13->¬(bl L).getD arg 0=45)->64<(S.extract 0 (S.size - W.size)++ZTt c op arg (S.extract (S.size - W.size) S.size) L).size->Zt c (op,arg) st sl=none
 ok:ZTi S W=true->(op=13->¬(bl L).getD arg 0=45)->¬64<(S.extract 0 (S.size - W.size)++ZTt c op arg (S.extract (S.size - W.size) S.size) L).size->∃st' sl',Zt c (op,arg) st sl=some (st',sl')/\S.extract 0 (S.size - W.size)++ZTt c op arg (S.extract (S.size - W.size) S.size) L=stB st'/\hasB op arg (S.extract (S.size - W.size) S.size) L=slB sl'
theorem BAt.setkM{w:World}{a:Nat}{c:List Value}{t:TypeId}(h:BAt w a c t)(i:Nat)(v:Value):BAt (w.setCell ⟨a,i,none⟩ v) a (c.set i v) t:=by
 unfold BAt at h ⊢;simp only[World.setCell,Ybn,h,if_true,Ybf];show some (Obj.cells (c.toArray.setIfInBounds i v) t (0,0))=_;rw[Yc4]
end Go.Proofs.YtkodhpilkaihjaaGreatDoor
