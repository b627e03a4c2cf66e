/- Parts. -/
import Derived.Test.YtcdgkkfipdoeeaaGreatDoorT04
import Derived.Lib.SplitLaws
import Derived.Deep.DrawnRows
set_option linter.all false
set_option maxRecDepth 100000
set_option maxHeartbeats 16000000
namespace Go.Proofs.YtcdgkkfipdoeeaaGreatDoor
open Go.RowKit LS Go.Proofs.Tryz
theorem ZcL:∀x:LB,Op.bytesLess x x=false
 | []=>rfl
 | a :: x => by
   have h:=UInt8.lt_irrefl a;simp[Op.bytesLess,ZcL x,h]
theorem Zdv:∀x y z:LB,Op.bytesLess x y=true->Op.bytesLess y z=true->Op.bytesLess x z=true
 | x,y,[],_,h=>by cases y <;> simp[Op.bytesLess]at h
 | x,[],c::z,h,_=>by cases x <;> simp[Op.bytesLess]at h
 | [],b::y,c::z,_,_=>rfl
 | a :: x, b :: y, c :: z, e, d => by
   simp only[Op.bytesLess,Yct,decide_eq_true_eq,Yas,beq_iff_eq]at e d ⊢;rcases e with e|⟨rfl,e⟩
   · rcases d with d|⟨rfl,d⟩
     · exact .inl (UInt8.lt_trans e d)
     simp_all
   · rcases d with d|⟨rfl,d⟩
     · simp_all
     · exact .inr ⟨rfl,Zdv x y z e d⟩
theorem Zdh:∀x y:LB,Op.bytesLess x y=false->Op.bytesLess y x=false->x=y
 | [],[],_,_=>rfl
 | [],b::y,h,_=>by simp[Op.bytesLess]at h
 | a::x,[],_,h=>by simp[Op.bytesLess]at h
 | a :: x, b :: y, c, d => by
   simp only[Op.bytesLess,Bool.or_eq_false_iff,decide_eq_false_iff_not,Yfm,beq_eq_false_iff_ne]at c d
   have f:a=b:=by
     have k1:¬a.toNat<b.toNat:=fun h=>c.1 (Yfp.2 h);have k2:¬b.toNat<a.toNat:=fun h=>d.1 (Yfp.2 h);exact Ydf.1 Om
   subst f;have e:=Zdh x y (c.2.resolve_left (fun h=>h rfl)) (d.2.resolve_left (fun h=>h rfl));rw[e]
def lt1(a b:El):Prop:=Op.bytesLess (wrt a.1) (wrt b.1)=true
def Srt(l:List El):Prop:=l.Pairwise lt1
theorem ZmO(l:List El)(x z:El):z∈Zcd l x ↔ z=x∨z∈l:=by
 induction l with
 | nil=>simp[Zcd]
 | cons y l ih=>
  rw[Zcd];split
  ·simp
  ·rw[Yau,ih,Yau];constructor
   ·rintro(h|h|h)
    ·simp_all
    ·simp_all
    simp_all
   ·rintro(h|h|h)
    ·simp_all
    ·simp_all
    simp_all
theorem ZAJ(l:List El)(x:El):(Zcd l x).length=l.length+1:=by
 induction l with
 | nil=>rfl
 | cons y l ih=>
  rw[Zcd];split<;>simp_all
theorem ZAK(l:List El)(x:El)(h:Srt l)(d:∀y∈l,wrt y.1≠wrt x.1):Srt (Zcd l x):=by
 induction l with
 | nil=>constructor<;>simp_all
 | cons y l ih=>
  obtain⟨e,f⟩:=Ybg.1 h;rw[Zcd];split
  ·rename_i a;refine Ybg.2 ⟨fun z c=>?_,h⟩;rcases Yau.1 c with rfl|c
   ·exact a
   ·exact Zdv _ _ _ a (e z c)
  ·rename_i a;refine Ybg.2 ⟨fun z c=>?_,ih f (fun y g=>d y (Yam _ g))⟩;rcases(ZmO l x z).1 c with rfl|c
   ·unfold lt1;cases i:Op.bytesLess (wrt y.1) (wrt z.1)with
    | true=>rfl
    | false=>exact absurd (Zdh _ _ i (Yce.2 a)) (d y (Yay ..))
   simp_all
theorem Zh4 (L : List El) : ∀ acc : List El, Srt acc -> (L.Pairwise fun a b => wrt a.1 ≠ wrt b.1) -> (∀ y ∈ acc, ∀ x ∈ L, wrt y.1 ≠ wrt x.1) ->
    Srt (L.foldl Zcd acc)/\(L.foldl Zcd acc).length=acc.length+L.length/\∀z,z∈L.foldl Zcd acc ↔ z∈acc∨z∈L:=by
  induction L with
  | nil=>simp
  | cons x L ih=>
    intro acc h e hd;obtain⟨f,g⟩:=Ybg.1 e
    obtain ⟨k1, k2, k3⟩ := ih (Zcd acc x) (ZAK acc x h (fun y c => hd y c x (Yay ..))) g (fun y c z d => by
      rcases(ZmO acc x y).1 c with rfl|c
      · exact f z d
      · exact hd y c z (Yam _ d))
    refine⟨k1,by rw[Ybp,k2,ZAJ,Yaj];omega,fun z=>?_⟩;rw[Ybp,k3,ZmO,Yau];constructor
    · rintro((h|h)|h)
      · simp_all
      · simp_all
      simp_all
    · rintro(h|h|h)
      · simp_all
      · simp_all
      simp_all
def Dst(st:List Ser):Prop:=st.Pairwise fun s r=>¬(s.name=r.name/\wrt s.labs=wrt r.labs)
def ZeZ(st:List Ser)(a:Nd)(op:Option Nat)(size t:Int):List El:=(st.filter fun s=>Zc1 a s && !(Zb6 s.ju size t).isEmpty).map fun s=>(s.labs,oneV op (Zb6 s.ju size t))
theorem Zny(st:List Ser)(a:Nd)(op:Option Nat)(size t:Int):Zc4 st a op size t=(ZeZ st a op size t).foldl Zcd []:=by
 unfold Zc4 ZeZ;generalize([]:List El)=acc
 induction st generalizing acc with
 | nil=>rfl
 | cons s st ih=>
  rw[Ybp];split<;>simp_all
theorem ZmN {st : List Ser} (h : Dst st) (a : Nd) (op : Option Nat) (size t : Int) : (ZeZ st a op size t).Pairwise fun x y => wrt x.1 ≠ wrt y.1 := by
  unfold ZeZ;rw[Ybx];refine Ycx ?_ (h.filter _);intro s r c d e f;have n1:=(Ycg.1 c).2;have n2:=(Ycg.1 d).2;simp only[Yas,Zc1,decide_eq_true_eq]at n1 n2
  simp_all
def VOk(n:Nat):VV->Prop
 | .inl _=>True
 | .inr l=>Srt l/\l.length<=n
theorem Zkx{st:List Ser}(h:Dst st)(a:Nd){op:Option Nat}{size t:Int}:VOk st.length (.inr (Zc4 st a op size t)):=by
 rw[Zny];obtain⟨c,d,_⟩:=Zh4 (ZeZ st a op size t) [] List.Pairwise.nil (ZmN h a op size t) (by simp);refine⟨c,?_⟩;rw[d];unfold ZeZ;rw[Yak];have:=Ydj (fun s=>Zc1 a s && !(Zb6 s.ju size t).isEmpty) st
 simp_all
theorem Zmi{l:List El}(h:Srt l){f:El->El}(d:∀e,(f e).1=e.1):Srt (l.map f):=by
 unfold Srt;rw[Ybx];exact h.imp (fun {a b} c=>by unfold lt1 at *;simp_all)
theorem Zv5 {y : List El} (h : Srt y) (k : LB) : y.filter (fun f => decide (k = wrt f.1)) = (y.find? fun f => decide (k = wrt f.1)).toList := by
  induction y with
  | nil=>rfl
  | cons e y ih=>
    obtain⟨c,d⟩:=Ybg.1 h;by_cases g:k=wrt e.1
    · rw[Yda (by simp_all),List.find?_cons_of_pos (by simp_all)]
      have : y.filter (fun f => decide (k = wrt f.1)) = [] := by
        rw[Yc1];intro f i j;have a:=c f i;unfold lt1 at a;rw[<-g,of_decide_eq_true j,ZcL]at a;cases a
      rw[this];rfl
    · rw[Ydb (by simp_all),List.find?_cons_of_neg (by simp_all)]
      exact ih d
theorem Zwf {α β : Type} (f : α -> Option β) (l : List α) : l.flatMap (fun a => (f a).toList) = l.filterMap f := by
  induction l with
  | nil=>rfl
  | cons a l ih=>
    rw[Ycd,ih,Yef];cases f a <;> rfl
def vvF(op:Nat)(y:List El)(e:El):Option El:=(y.find? fun f=>decide (wrt e.1=wrt f.1)).map fun f=>(e.1,twoV op e.2 f.2)
theorem ZnU(op:Nat)(x y:List El)(a:Srt y):Zdg op (.inr x) (.inr y)=.inr (x.filterMap (vvF op y)):=by
 have h : ∀ e : El, (y.filter _).map (fun f => (e.1, twoV _ _ _)) = (vvF op y e).toList := fun e => by
   rw[Zv5 a];unfold vvF;cases y.find? (fun f=>decide (wrt e.1=wrt f.1)) <;> rfl
 show Sum.inr (x.flatMap fun e=>(y.filter fun f=>decide (wrt e.1=wrt f.1)).map fun f=>(e.1,twoV op e.2 f.2))=_;rw[<-Zwf,funext h]
theorem ZEy{op:Nat}(x y:List El)(i:Srt x):Srt (x.filterMap (vvF op y)):=by
 unfold Srt;rw[List.pairwise_filterMap];refine i.imp ?_;intro a b h c e d hd;unfold vvF at e hd;cases j:y.find? (fun f=>decide (wrt a.1=wrt f.1))with
 | none=>simp_all
 | some f=>
  cases k:y.find? (fun f=>decide (wrt b.1=wrt f.1))with
  | none=>simp_all
  | some g=>
   rw[j]at e;rw[k]at hd;cases e;cases hd;exact h
theorem ZnT{op n:Nat}{a b:VV}(c:VOk n a)(d:VOk n b):VOk n (Zdg op a b):=by
 cases a with
 | inl a=>
  cases b with
  | inl b=>trivial
  | inr y=>exact⟨Zmi d.1 (fun _=>rfl),by rw[Yak];exact d.2⟩
 | inr x=>
  cases b with
  | inl b=>exact⟨Zmi c.1 (fun _=>rfl),by rw[Yak];exact c.2⟩
  | inr y=>
   rw[ZnU _ x y d.1];exact⟨ZEy x y c.1,Yah (List.length_filterMap_le _ _) c.2⟩
theorem Zrc{n:Nat}{a:VV}(c:VOk n a):VOk n (negV a):=by
 cases a with
 | inl a=>trivial
 | inr x=>exact⟨Zmi c.1 (fun _=>rfl),by rw[Yak];exact c.2⟩
theorem ZlD (op : Nat) (bs : List (LB)) (all : List El) : ∀ (l pre : List El), ((ZcF op bs all pre l).Pairwise fun x y => wrt x.1 ≠ wrt y.1) /\ (ZcF op bs all pre l).length <= l.length /\ ∀ x ∈ ZcF op bs all pre l, ∀ f ∈ pre, wrt (ZB f.1 bs) ≠ wrt x.1
  | [],pre=>⟨List.Pairwise.nil,Yac _,by simp[ZcF]⟩
  | e :: l, pre => by
    obtain⟨g,i,d⟩:=ZlD op bs all l (pre++[e]);rw[ZcF];split
    · refine⟨by assumption,by simp;omega,fun x a f c=>d x (by assumption) f (Yc7 _ c)⟩
    · rename_i h
      refine⟨?_,by simp_all,?_⟩
      · rw[Yd6,Ybg]
        exact⟨fun x a=>d x a e (by simp),g⟩
      · intro x a f c
        rw[Yd6,Yau]at a;rcases a with rfl|a
        · intro j
          exact h (Ycz.2 ⟨f,c,by simp_all⟩)
        · exact d x a f (Yc7 _ c)
theorem ZpK{op:Nat}{bs:List (LB)}{n:Nat}{l:List El}(h:l.length<=n):VOk n (.inr (Zcv op bs l)):=by
 obtain⟨a,c,_⟩:=ZlD op bs l l [];obtain⟨k1,k2,_⟩:=Zh4 (ZcF op bs l [] l) [] List.Pairwise.nil a (by simp);exact⟨k1,by show(List.foldl Zcd [] _).length<=n;simp_all;omega⟩
theorem ZoS{n:Nat}{v:VV}(h:VOk n v):(Zcm v).length<=n:=by
 cases v with
 | inl _=>exact Yag _
 | inr l=>exact h.2
theorem Zj8{st:List Ser}(h:Dst st)(tm:Int):∀t:Tr,VOk st.length (sayT st tm t)
 | .nil=>⟨List.Pairwise.nil,Yag _⟩
 | .node x y a l r => by
   have il:=Zj8 h tm l;have ir:=Zj8 h tm r;unfold sayT;split
   · trivial
   split
   · exact Zkx h a
   split
   · exact Zkx h a
   split
   · exact Zrc il
   split
   · exact ZpK (ZoS il)
   split
   · split<;>omega
   · exact ZnT il ir
end Go.Proofs.YtcdgkkfipdoeeaaGreatDoor
namespace Go.Proofs.YtcdgkkfipdoeeaaGreatDoor.LS
open Go Go.RowKit
theorem Zjj (c : UInt8) (l : LB) : Lib.index l [c] = match seek c l with | none => -1 | some i => (i : Int) := by
  induction l with
  | nil=>rfl
  | cons b l ih=>
    unfold Lib.index seek;by_cases a:b=c
    · simp_all
    · have d:[c].isPrefixOf (b::l)=false:=by simp[List.isPrefixOf,Ycp a]
      have e:(b == c)=false:=by simp[a]
      rw[if_neg (by simp[d]),ih,e];split<;>simp_all
theorem Zyn{c:UInt8}{l x y:LB}(h:cut c l=some (x,y)):Lib.cut l [c]=(x,y,true):=by
 unfold cut at h;cases a:seek c l with
 | none=>simp_all
 | some i=>
  rw[a]at h;simp only[Ybf,Yci,Yc5]at h;unfold Lib.cut;rw[Zjj,a]
  simp_all
theorem Zym{c:UInt8}{l:LB}(h:cut c l=none):Lib.cut l [c]=(l,[],false):=by
 unfold cut at h;cases a:seek c l with
 | some i=>simp_all
 | none=>
  unfold Lib.cut;rw[Zjj,a];rfl
theorem Zdx{c:UInt8}{l x y:LB}(h:cut c l=some (x,y)):l=x++c::y/\c∉x:=by
 unfold cut at h;cases d:seek c l with
 | none=>simp_all
 | some i=>
  rw[d]at h;simp only[Ybf,Yci,Yc5]at h;obtain⟨a,b,rfl,rfl,e⟩:=Ziv d
  simp_all
theorem ZoE{c:UInt8}{x y:LB}(h:c∉x):cut c (x++c::y)=some (x,y):=by
 unfold cut;rw[Zgq c x y h];simp
theorem Zsq(c:UInt8):∀(n:Nat) (l:LB),l.length<=n->Lib.splitK [c] 0 (Lib.count l [c]) l=split c l:=by
 intro n
 induction n with
 | zero=>
  intro l g;obtain rfl:l=[]:=List.length_eq_zero_iff.1 Om;rfl
 | succ n ih=>
  intro l g;cases d:seek c l with
  | none=>
   rw[Lib.count_miss (by rw[Zjj,d])];have e:=(Zj9 c l).1 d;have:=Zhb c l [] e;rw[Yca]at this;rw[this];simp[Lib.splitK,split,pre]
  | some i=>
   obtain⟨a,b,rfl,rfl,e⟩:=Ziv d;have f:Lib.index (a++c::b) [c]=(a.length):=by rw[Zjj,d]
   rw[Lib.count_hit (by simp) f];have e1:(a++c::b).drop (a.length + [c].length)=b:=by simp
   rw[e1,Nat.add_comm,Lib.splitK,if_neg (by simp_all),f];rw[show((a.length:Int)).toNat=a.length by omega,e1,ih b (by simp_all;omega),Zhb c a _ e,Zhc];simp[pre]
def ZbI(c:UInt8):LB->LB×Bool
 | []=>([],false)
 | b::t=>if b == c then (t,true)else (b::t,false)
theorem Zyo(c:UInt8)(l:LB):(Lib.trimPrefix l [c],Lib.hasPrefix l [c])=ZbI c l:=by
 cases l with
 | nil=>rfl
 | cons b t=>
  by_cases a:b=c
  ·subst a;simp[Lib.trimPrefix,Lib.hasPrefix,ZbI]
  ·have d:[c].isPrefixOf (b::t)=false:=by simp[List.isPrefixOf,Ycp a]
   simp[Lib.trimPrefix,Lib.hasPrefix,ZbI,a,d]
theorem Znm(c:UInt8)(l:LB):(ZbI c l).1.length<=l.length:=by
 cases l with
 | nil=>simp[ZbI]
 | cons b t=>by_cases h:(b == c)=true <;> simp[ZbI,h]
def Zds(d:LB):Bool:=match ZQ 1000000000 (ZbI 45 d).1 with
 | none=>false
 | some v=>!((ZbI 45 d).2 && v == 0)
def Zdn(t:LB):Option Nat:=match cut 58 t with
 | none=>none
 | some (a, d) => match ZQ 1000000 a with
   | none=>none
   | some tm=>if Zds d then some tm else none
def Zcq:Int->Nat->List (LB)->Option Nat
 | _,n,[]=>some n
 | last, n, x :: xs => match Zdn x with
   | none=>none
   | some t=>if (t:Int)<=last then none else Zcq t (n+1) xs
def Zcz(l:LB):Option Nat:=match ZbI 32 l with
 | (r,f)=>if l=[] then some 0 else if f then Zcq (-1) 0 (split 32 r)else none
def leS(a b:LB):Bool:=Op.bytesLess a b || a == b
def Zd5(last:LB)(x:LB):Option (LB×LB):=match cut 61 x with
 | none=>none
 | some (n,v)=>if Zx n && Z3 v && !v.isEmpty && !leS n last then some (n,v)else none
def ZbS:LB->List (LB×LB)->List (LB)->Option (List (LB×LB))
 | _,acc,[]=>some acc
 | last, acc, x :: xs => match Zd5 last x with
   | none=>none
   | some p=>ZbS p.1 (acc++[p]) xs
def Zcc(l:LB):Option (List (LB×LB)):=if l=[] then some [] else ZbS [] [] (split 44 l)
def line(l:LB):Option (LB×LB×Nat):=match cut 123 l with
 | none=>none
 | some (name, rest) => match cut 125 rest with
   | none=>none
   | some (inside,behind)=>if Zx name && (Zcc inside).isSome then (Zcz behind).map (fun n=>(name,inside,n))else none
theorem ZjF{l:LB}(h:cut 123 l=none):line l=none:=by unfold line;rw[h]
theorem ZjE{l name rest:LB}(h:cut 123 l=some (name,rest))(a:cut 125 rest=none):line l=none:=by unfold line;simp_all
theorem ZjG{l name rest inside behind:LB}(h:cut 123 l=some (name,rest))(a:cut 125 rest=some (inside,behind)) :
  line l=if Zx name && (Zcc inside).isSome then (Zcz behind).map (fun n=>(name,inside,n))else none:=by unfold line;simp_all
structure Entry where
 at_:Nat
 name:LB
 inside:LB
 count:Nat
def Zbh:Nat->List Entry->List (LB)->Nat ⊕ List Entry
 | _,acc,[]=>.inr acc
 | i, acc, x :: xs => if x = [] then Zbh (i + 1) acc xs else match line x with
   | none=>.inl i
   | some (a,b,n)=>Zbh (i+1) (acc++[⟨i,a,b,n⟩]) xs
theorem Zyw{i:Nat}{acc:List Entry}{ps:List (LB)}(a:i<ps.length)(h:ps.getD i []=[]):Zbh i acc (ps.drop i)=Zbh (i+1) acc (ps.drop (i+1)):=by
 have e:ps.getD i []=ps[i]:=by simp[a]
 rw[List.drop_eq_getElem_cons a,Zbh,<-e,if_pos h]
theorem Zyu{i:Nat}{acc:List Entry}{ps:List (LB)}(a:i<ps.length)(h:ps.getD i []≠[])(c:line (ps.getD i [])=none):Zbh i acc (ps.drop i)=.inl i:=by
 have e:ps.getD i []=ps[i]:=by simp[a]
 rw[List.drop_eq_getElem_cons a,Zbh,<-e,if_neg h,c]
theorem Zyv{i:Nat}{acc:List Entry}{ps:List (LB)}(c:i<ps.length)(h:ps.getD i []≠[]){a b:LB}{n:Nat}(d:line (ps.getD i [])=some (a,b,n)) :
  Zbh i acc (ps.drop i)=Zbh (i+1) (acc++[⟨i,a,b,n⟩]) (ps.drop (i+1)):=by
 have e:ps.getD i []=ps[i]:=by simp[c]
 rw[List.drop_eq_getElem_cons c,Zbh,<-e,if_neg h,d]
theorem Zyx{i:Nat}{acc:List Entry}{ps:List (LB)}(a:¬i<ps.length):Zbh i acc (ps.drop i)=.inr acc:=by
 rw[Yb8 Om];rfl
end Go.Proofs.YtcdgkkfipdoeeaaGreatDoor.LS
namespace Go.Proofs.YtcdgkkfipdoeeaaGreatDoor
open Go.RowKit LS Go.Proofs.Tryz
theorem Zri(most:Nat)(l:LB) : -1<=numI most l/\numI most l<=most:=by
 cases h:ZQ most l with
 | none=>rw[Zrj h];omega
 | some v=>rw[ZgX h];have:=Zgh h;omega
def Zca:List (Int×Int)->List Value
 | []=>[]
 | x::l=>.int .i64 x.1::.int .i64 x.2::Zca l
theorem Zwg(l m:List (Int×Int)):Zca (l++m)=Zca l++Zca m:=by
 induction l with
 | nil=>rfl
 | cons a l ih=>simp[Zca,ih]
theorem Zwh (l : List (Int × Int)) (j : Nat) : (Zca l)[j * 2]? = l[j]?.map (fun x => Vi x.1) /\ (Zca l)[j * 2 + 1]? = l[j]?.map (fun x => Vi x.2) := by
  induction l generalizing j with
  | nil=>simp[Zca]
  | cons r l ih=>
    cases j with
    | zero=>simp[Zca]
    | succ j=>
      obtain⟨a,c⟩:=ih j;refine⟨?_,?_⟩
      · rw[show(j+1)*2=j*2+1+1 by omega];assumption
      · rw[show(j+1)*2+1=j*2+1+1+1 by omega];assumption
def smOk(x:Int×Int):Prop:=-1000000<=x.1/\x.1<=1000000/\-1000000000<=x.2/\x.2<=1000000000
def valI(d:LB):Int:=match ZbI 45 d with
 | (d',less)=>if less then -(numI 1000000000 d')else numI 1000000000 d'
def smV(x:LB):Int×Int:=match cut 58 x with
 | none=>(0,0)
 | some (a,d)=>(numI 1000000 a,valI d)
def Zez:LB->List (Int×Int)
 | []=>[]
 | _::t=>(split 32 t).map smV
theorem ZCr(x:LB):smOk (smV x):=by
 unfold smV;split
 ·unfold smOk;decide
 ·rename_i a d _;have c:=Zri 1000000 a;unfold valI;cases hd:ZbI 45 d with
  | mk d' less=>
   have e:=Zri 1000000000 d';unfold smOk
   simp_all;omega
theorem Zwi{l:List (LB)}{k:Nat}(a:k<l.length){x:LB}(c:x=l.getD k []){t v:Int}(d:smV x=(t,v)):Zca ((l.map smV).take (k+1))=Zca ((l.map smV).take k)++[Vi t,Vi v]:=by
 have e:l[k]=x:=by rw[c,Yaa,List.getElem?_eq_getElem a];rfl
 rw[<-Yer,<-Yer,List.take_succ_eq_append_getElem a,Yaq,Zwg,Yco,e,d];rfl
def Zdo(l:LB):List (Int×Int):=match LS.seek 125 l with
 | some b=>Zez (l.drop (b+1))
 | none=>[]
theorem Zr1{l x r y z:LB}(a:Zx x=true)(d:cut 123 l=some (x,r))(e:cut 125 r=some (y,z)):Zdo l=Zez z:=by
 obtain⟨e1,n1⟩:=Zdx d;obtain⟨e2,n2⟩:=Zdx e
 have f:(125)∉x:=by
  intro g;unfold Zx at a;rw[Yas]at a;have:=Ybu.1 a.1 _ g;exact absurd this Dc
 have c:l=(x++123::y)++125::z:=by rw[e1,e2];simp
 have i:LS.seek 125 l=some (x++123::y).length:=by
  rw[c];refine Zgq _ _ z ?_;rw[Yar,Yau];rintro(h|h|h)
  ·exact f h
  ·simp_all
  ·exact n2 h
 unfold Zdo;rw[i,c];simp only
 congr 1
 rw[show(x++123::y)++125::z=((x++123::y)++[125])++z by simp,List.drop_append_of_le_length (by simp;omega),Yb8 (by simp;omega)];rfl
def cmpV(x y:LB):Int:=if Op.bytesLess x y then -1 else if Op.bytesLess y x then 1 else 0
theorem ZjM {s:BA} {w:World} : Cz 268 #[.string s] w fun e u => e = .returned (.bool false) /\ u = w := by
  go_enter func268,ntmps268;go_wp2;go_ret;exact⟨by simp,rfl⟩
theorem Zra {s:BA} {w:World} : Cz 266 #[.string s] w fun e u => e = .returned (.bool false) /\ u = w := by
  go_enter func266,ntmps266;go_wp2;go_ret;exact⟨by simp,rfl⟩
theorem Zoe {a b:BA} {w:World} : Cz 237 #[.string a, .string b] w fun e u => e = .returned (Vi (cmpV (bl a) (bl b))) /\ u = w := by
  obtain⟨r,c⟩:∃r,r=cmpV (bl a) (bl b):=⟨_,rfl⟩
  rw[<-c];unfold cmpV at c;rw[<-Zbt,<-Zbt]at c;obtain⟨p,g⟩:∃p,Op.bytesLess a.toList b.toList=p:=⟨_,rfl⟩
  obtain⟨q,d⟩:∃q,Op.bytesLess b.toList a.toList=q:=⟨_,rfl⟩
  rw[g,d]at c;have f:=hid c;clear c;cases p
  · cases q
    · obtain rfl:r=0:=f.out
      have h:(a.toList == b.toList)=true:=by rw[beq_iff_eq];exact Zdh _ _ g d
      go_enter func237,ntmps237
      go_wp2_with (go_at_call 268;refine cret (ZjM) ?_)
      go_ret;exact⟨rfl,rfl⟩
    · obtain rfl:r=1:=f.out
      have h:(a.toList == b.toList)=false:=by rw[beq_eq_false_iff_ne];intro e;rw[e,ZcL]at d;cases d
      go_enter func237,ntmps237
      go_wp2_with (go_at_call 268;refine cret (ZjM) ?_)
      go_ret;exact⟨rfl,rfl⟩
  · obtain rfl:r=-1:=f.out
    go_enter func237,ntmps237
    go_wp2_with (go_at_call 268;refine cret (ZjM) ?_)
    go_ret;exact⟨rfl,rfl⟩
theorem ZxX (a b : BA) (w : World) : Cz 262 #[.string a, .string b] w fun e u => e = .returned (.bool (Op.bytesLess (bl a) (bl b))) /\ u = w := by
  rw[<-Zbt,<-Zbt];generalize c:Op.bytesLess a.toList b.toList=p;go_enter func262,ntmps262
  go_wp2_with (go_at_call 268;refine cret (ZjM) ?_)
  go_ret;exact⟨by first|rfl|simp[c],rfl⟩
theorem Zem{s:BA}{a:Array UInt8}(h:bl s=a.toList):s=⟨a⟩:=by
 cases s with
 | mk d=>unfold bl at h;simp at h;rw[h]
theorem ZqY {c:BA} {op:Nat} (d : op <= 4) (h : bl c = Z0.getD op []) (w : World) : Cz 124 #[.string c] w fun e u => e = .returned (Vi op) /\ u = w := by
  rcases(by omega:op=0∨op=1∨op=2∨op=3∨op=4)with rfl|rfl|rfl|rfl|rfl
  · obtain rfl:=Zem (a:=#[116,111,116,97,108]) h
    go_enter func124,ntmps124;go_wp2;go_ret;exact⟨rfl,rfl⟩
  · obtain rfl:=Zem (a:=#[112,101,97,107]) h
    go_enter func124,ntmps124;go_wp2;go_ret;exact⟨rfl,rfl⟩
  · obtain rfl:=Zem (a:=#[108,111,119]) h
    go_enter func124,ntmps124;go_wp2;go_ret;exact⟨rfl,rfl⟩
  · obtain rfl:=Zem (a:=#[115,105,122,101]) h
    go_enter func124,ntmps124;go_wp2;go_ret;exact⟨rfl,rfl⟩
  · obtain rfl:=Zem (a:=#[114,105,115,101]) h
    go_enter func124,ntmps124;go_wp2;go_ret;exact⟨rfl,rfl⟩
theorem ZqX {c:BA} {op:Nat} (d : op <= 3) (h : bl c = ZW.getD op []) (w : World) : Cz 124 #[.string c] w fun e u => e = .returned (Vi op) /\ u = w := by
  rcases(by omega:op=0∨op=1∨op=2∨op=3)with rfl|rfl|rfl|rfl
  · obtain rfl:=Zem (a:=#[115,117,109]) h
    go_enter func124,ntmps124;go_wp2;go_ret;exact⟨rfl,rfl⟩
  · obtain rfl:=Zem (a:=#[109,97,120]) h
    go_enter func124,ntmps124;go_wp2;go_ret;exact⟨rfl,rfl⟩
  · obtain rfl:=Zem (a:=#[109,105,110]) h
    go_enter func124,ntmps124;go_wp2;go_ret;exact⟨rfl,rfl⟩
  · obtain rfl:=Zem (a:=#[99,111,117,110,116]) h
    go_enter func124,ntmps124;go_wp2;go_ret;exact⟨rfl,rfl⟩
theorem ZjC(l:LB)(a:l.length<=300):∀(n i:Nat),tw (ZN l n i)<=332*(ZN l n i).length
 | 0,_=>Yac _
 | n + 1, i => by
   have c:=Zyb l i;have d:=ZjC l a n (Zk l i).2;unfold ZN;split
   · simp[tw];omega
   · simp[tw];omega
theorem ZhB(v:Value)(w:World):(Instr.typeAssert (.iface 119 v) 44 119 true).run prog w=.ok (.tuple #[v,.bool true]) w:=by rfl
theorem ZkO(v:Value)(w:World):(Instr.typeAssert (.iface 119 v) 44 121 true).run prog w=.ok (.tuple #[.agg #[.nilIface],.bool false]) w:=by rfl
theorem ZkP(v:Value)(w:World):(Instr.typeAssert (.iface 119 v) 44 116 true).run prog w=.ok (.tuple #[.agg #[Vi 0,.nilIface,.nilIface],.bool false]) w:=by rfl
theorem ZkN(v:Value)(w:World):(Instr.typeAssert (.iface 119 v) 44 124 true).run prog w=.ok (.tuple #[.agg #[.string ByteArray.empty,S0,.nilIface],.bool false]) w:=by rfl
theorem ZkQ(v:Value)(w:World):(Instr.typeAssert (.iface 119 v) 44 150 true).run prog w=.ok (.tuple #[.agg #[.string ByteArray.empty,.string ByteArray.empty,S0,Vi 0],.bool false]) w:=by rfl
theorem ZiT(v:Value)(w:World):(Instr.typeAssert (.iface 119 v) 44 148 true).run prog w=.ok (.tuple #[.agg #[.string ByteArray.empty,S0],.bool false]) w:=by rfl
theorem ZhA(v:Value)(w:World):(Instr.typeAssert (.iface 121 v) 44 119 true).run prog w=.ok (.tuple #[.agg #[Vi 0],.bool false]) w:=by rfl
theorem Zhz(v:Value)(w:World):(Instr.typeAssert (.iface 121 v) 44 121 true).run prog w=.ok (.tuple #[v,.bool true]) w:=by rfl
theorem ZkL(v:Value)(w:World):(Instr.typeAssert (.iface 121 v) 44 116 true).run prog w=.ok (.tuple #[.agg #[Vi 0,.nilIface,.nilIface],.bool false]) w:=by rfl
theorem ZkK(v:Value)(w:World):(Instr.typeAssert (.iface 121 v) 44 124 true).run prog w=.ok (.tuple #[.agg #[.string ByteArray.empty,S0,.nilIface],.bool false]) w:=by rfl
theorem ZkM(v:Value)(w:World):(Instr.typeAssert (.iface 121 v) 44 150 true).run prog w=.ok (.tuple #[.agg #[.string ByteArray.empty,.string ByteArray.empty,S0,Vi 0],.bool false]) w:=by rfl
theorem ZiS(v:Value)(w:World):(Instr.typeAssert (.iface 121 v) 44 148 true).run prog w=.ok (.tuple #[.agg #[.string ByteArray.empty,S0],.bool false]) w:=by rfl
theorem ZgB(v:Value)(w:World):(Instr.typeAssert (.iface 116 v) 44 119 true).run prog w=.ok (.tuple #[.agg #[Vi 0],.bool false]) w:=by rfl
theorem ZgA(v:Value)(w:World):(Instr.typeAssert (.iface 116 v) 44 121 true).run prog w=.ok (.tuple #[.agg #[.nilIface],.bool false]) w:=by rfl
theorem ZgC(v:Value)(w:World):(Instr.typeAssert (.iface 116 v) 44 116 true).run prog w=.ok (.tuple #[v,.bool true]) w:=by rfl
theorem ZkR(v:Value)(w:World):(Instr.typeAssert (.iface 116 v) 44 124 true).run prog w=.ok (.tuple #[.agg #[.string ByteArray.empty,S0,.nilIface],.bool false]) w:=by rfl
theorem ZkS(v:Value)(w:World):(Instr.typeAssert (.iface 116 v) 44 150 true).run prog w=.ok (.tuple #[.agg #[.string ByteArray.empty,.string ByteArray.empty,S0,Vi 0],.bool false]) w:=by rfl
theorem ZiU(v:Value)(w:World):(Instr.typeAssert (.iface 116 v) 44 148 true).run prog w=.ok (.tuple #[.agg #[.string ByteArray.empty,S0],.bool false]) w:=by rfl
theorem Zhx(v:Value)(w:World):(Instr.typeAssert (.iface 124 v) 44 119 true).run prog w=.ok (.tuple #[.agg #[Vi 0],.bool false]) w:=by rfl
theorem Zhw(v:Value)(w:World):(Instr.typeAssert (.iface 124 v) 44 121 true).run prog w=.ok (.tuple #[.agg #[.nilIface],.bool false]) w:=by rfl
theorem Zhy(v:Value)(w:World):(Instr.typeAssert (.iface 124 v) 44 116 true).run prog w=.ok (.tuple #[.agg #[Vi 0,.nilIface,.nilIface],.bool false]) w:=by rfl
theorem Zhv(v:Value)(w:World):(Instr.typeAssert (.iface 124 v) 44 124 true).run prog w=.ok (.tuple #[v,.bool true]) w:=by rfl
theorem ZkJ(v:Value)(w:World):(Instr.typeAssert (.iface 124 v) 44 150 true).run prog w=.ok (.tuple #[.agg #[.string ByteArray.empty,.string ByteArray.empty,S0,Vi 0],.bool false]) w:=by rfl
theorem ZiR(v:Value)(w:World):(Instr.typeAssert (.iface 124 v) 44 148 true).run prog w=.ok (.tuple #[.agg #[.string ByteArray.empty,S0],.bool false]) w:=by rfl
theorem ZhJ(v:Value)(w:World):(Instr.typeAssert (.iface 150 v) 44 119 true).run prog w=.ok (.tuple #[.agg #[Vi 0],.bool false]) w:=by rfl
theorem ZhI(v:Value)(w:World):(Instr.typeAssert (.iface 150 v) 44 121 true).run prog w=.ok (.tuple #[.agg #[.nilIface],.bool false]) w:=by rfl
theorem ZhK(v:Value)(w:World):(Instr.typeAssert (.iface 150 v) 44 116 true).run prog w=.ok (.tuple #[.agg #[Vi 0,.nilIface,.nilIface],.bool false]) w:=by rfl
theorem ZhH(v:Value)(w:World):(Instr.typeAssert (.iface 150 v) 44 124 true).run prog w=.ok (.tuple #[.agg #[.string ByteArray.empty,S0,.nilIface],.bool false]) w:=by rfl
theorem ZhL(v:Value)(w:World):(Instr.typeAssert (.iface 150 v) 44 150 true).run prog w=.ok (.tuple #[v,.bool true]) w:=by rfl
theorem ZiV(v:Value)(w:World):(Instr.typeAssert (.iface 150 v) 44 148 true).run prog w=.ok (.tuple #[.agg #[.string ByteArray.empty,S0],.bool false]) w:=by rfl
theorem ZhE(v:Value)(w:World):(Instr.typeAssert (.iface 148 v) 44 119 true).run prog w=.ok (.tuple #[.agg #[Vi 0],.bool false]) w:=by rfl
theorem ZhD(v:Value)(w:World):(Instr.typeAssert (.iface 148 v) 44 121 true).run prog w=.ok (.tuple #[.agg #[.nilIface],.bool false]) w:=by rfl
theorem ZhF(v:Value)(w:World):(Instr.typeAssert (.iface 148 v) 44 116 true).run prog w=.ok (.tuple #[.agg #[Vi 0,.nilIface,.nilIface],.bool false]) w:=by rfl
theorem ZhC(v:Value)(w:World):(Instr.typeAssert (.iface 148 v) 44 124 true).run prog w=.ok (.tuple #[.agg #[.string ByteArray.empty,S0,.nilIface],.bool false]) w:=by rfl
theorem ZhG(v:Value)(w:World):(Instr.typeAssert (.iface 148 v) 44 150 true).run prog w=.ok (.tuple #[.agg #[.string ByteArray.empty,.string ByteArray.empty,S0,Vi 0],.bool false]) w:=by rfl
theorem ZgD(v:Value)(w:World):(Instr.typeAssert (.iface 148 v) 44 148 true).run prog w=.ok (.tuple #[v,.bool true]) w:=by rfl
theorem Zmw:∀l:List (LB),l.length<=nw l
 | []=>Yac _
 | c::l=>by have:=Zmw l;simp only[nw,Yaj];omega
theorem VOk.mono{m n:Nat}{V:VV}(h:VOk m V)(a:m<=n):VOk n V:=by
 cases V with
 | inl _=>trivial
 | inr l=>exact⟨h.1,Yah h.2 a⟩
theorem Zt6{h:Nat}(a:h % 2=1):bitS h=(h / 2) ^^^ 3988292384:=if_pos a
theorem Zt4{h:Nat}(a:¬h % 2=1):bitS h=h / 2:=if_neg a
theorem ZrR{k:IntKind}{a b:Int}(h:a=b):Ending.returned (.int k a)=.returned (.int k b):=by rw[h]
theorem ZE4{a:Nat}(d:a<4294967296)(c:UInt8):bits .xor .u32 (a:Int) ((c.toNat:Int) % 4294967296)=((a ^^^ c.toNat:Nat):Int):=by
 have e:=c.toNat_lt;rw[show((c.toNat:Int) % 4294967296)=(c.toNat) by omega];exact u32_xor_nat _ _ d Om
theorem ZE5{z:Nat}(a:z<4294967296):4294967295 ^^^ z=4294967295 - z:=by
 have h:(BitVec.allOnes _ ^^^ BitVec.ofNat 32 z).toNat=(~~~ BitVec.ofNat 32 z).toNat:=by rw[BitVec.allOnes_xor]
 rw[BitVec.toNat_xor,BitVec.toNat_not,BitVec.toNat_ofNat,Nat.mod_eq_of_lt a]at h;exact h
theorem Zzq{z:Nat}(a:z<4294967296):bits .xor .u32 IntKind.u32.max (z:Int)=4294967295 - (z:Int):=by
 have:=u32_xor_nat 4294967295 z Dc a;rw[ZE5 a]at this;rw[show IntKind.u32.max=((4294967295:Nat)) from rfl,this];omega
theorem ZtI{z:Nat}(a:z<4294967296):bits .and .u32 (z:Int) 1=(z:Int) % 2:=by
 have:=u32_and_nat z 1 a Dc;rw[Nat.and_one_is_mod]at this;rw[show(1)=((1:Nat):Int) from rfl,this];omega
theorem Zru{s:BA}{w:World}(r:s.size<=maxLen) :
  Cz 73 #[.string s] w fun e u=>e=.returned (.int .u32 (sumQ (bl s)))/\u=w:=by
 unfold maxLen at r;go_enter func73,ntmps73;go_wp2
 go_loop [3,8] (fun h i=>∃k:Nat,k<=s.size/\i=Vi k/\h=.int .u32 (sumL ((bl s).take k))) (fun _ i=>s.size - (intOf i).toNat)
 case atStart=>exact⟨0,Yag _,rfl,rfl⟩
 case round=>
  obtain⟨k,D,rfl,rfl⟩:=hrel;have c:=ZCX ((bl s).take k);obtain⟨a,d⟩:∃a,sumL ((bl s).take k)=a:=⟨_,rfl⟩
  have f:=hid d;rw[d]at c ⊢;by_cases n:k<s.size
  ·have t:=ZE4 c s[k];have g:Hid (sumL ((bl s).take (k+1))=ZfS 8 (a ^^^ s[k].toNat)):=by rw[ZiB s k n,Zsz,f];rfl
   have l:a ^^^ s[k].toNat<4294967296:=Zty c _;obtain⟨g0,o⟩:∃g0,a ^^^ s[k].toNat=g0:=⟨_,rfl⟩
   rw[o]at t g l;go_wp2
   go_loop [3,17] (fun h i=>∃j:Nat,j<=8/\i=Vi j/\h=.int .u32 (ZfS j g0)) (fun _ i=>8 - (intOf i).toNat)
   case atStart=>exact⟨0,Yag _,rfl,rfl⟩
   case round=>
    obtain⟨j,E,rfl,rfl⟩:=hrel;by_cases B:j<8
    ·have v:=ZkX l j;have p:Hid (ZfS (j+1) g0=bitS _):=rfl;generalize ZfS j g0=z at *
     have x:=ZtI v;by_cases q:z % 2=1
     ·have C:bits .xor .u32 ((z) / 2) 3988292384=((z / 2 ^^^ 3988292384:Nat)):=by
       have:=u32_xor_nat (z / 2) 3988292384 Om Om;simpa using this
      have y:((z:Int) % 2 == 1)=true:=by rw[beq_iff_eq];omega
      have m:=hid (Zt6 q);go_wp2
      go_round
      case rel=>exact⟨j+1,by omega,by go_num,by rw[p,m]⟩
      case measure=>simp[intOf];omega
     ·have y:((z:Int) % 2 == 1)=false:=by rw[beq_eq_false_iff_ne];omega
      have m:=hid (Zt4 q);go_wp2
      go_round
      case rel=>exact⟨j+1,by omega,by go_num,by rw[p,m];go_num⟩
      case measure=>simp[intOf];omega
    ·obtain rfl:j=8:=by omega
     go_wp2
     go_round
     case rel=>exact⟨k+1,by omega,by go_num,by rw[g]⟩
     case measure=>simp[intOf];omega
  ·have A:Hid (sumQ _=4294967295 - a):=hid (by
    unfold sumQ;rw[<-f,Ya5 (by rw[Zd];omega)])
   have F:=Zzq c;go_wp2;go_ret;exact⟨ZrR (by rw[A];omega),rfl⟩
open Go.Proofs.Tryz
open Go.RowKit Go.Extern.Stop Go.Stop Go.Extern LS
theorem ZtR{t:Value}{w:World} :
  Cz 33 #[.nilIface,t] w fun e u=>e=.returned (.bool false)/\u=w:=by
 go_enter func33,ntmps33;go_wp2;go_ret;exact⟨rfl,rfl⟩
def Zlu:Array Value->Sem Value:=fun args=>ReflectliteValue.unpack (args.getD 0 (.tuple #[]))
def Zo0 : Array Value → Sem Value := ReflectliteValue.methodAny (ReflectliteValue.valueError "reflectlite.Value.Type" 0) fun t _ _ _ => ReflectliteType.toType t
def Zls : Array Value → Sem Value := ReflectliteValue.method (ReflectliteValue.valueError "reflectlite.Value.IsNil" 0) ReflectliteValue.isNil
def Zlt:Array Value->Sem Value:=ReflectliteType.abiMethod fun t=>do pure (.int .u8 (<-Rtype.kind t))
def ZoY:Array Value->Sem Value:=ReflectliteType.method ReflectliteType.elem
def ZoZ : Array Value → Sem Value := ReflectliteType.relation "Implements" ReflectliteType.implements_
def Zlq : Array Value → Sem Value := ReflectliteType.relation "AssignableTo" ReflectliteType.assignableTo
def Zlr : Array Value → Sem Value := ReflectliteValue.method (ReflectliteValue.valueError "reflectlite.Value.Elem" 0) ReflectliteValue.elem
theorem Ztx (args : Array Value) (w : World) : (callFunc 59 args).run prog w = ((Zlu args).run prog w).andThen fun v u => .ok (.value v) u :=
  run_callFunc_extern func59 Kr Kr Kr Kr args w
theorem Ztw (args : Array Value) (w : World) : (callFunc 60 args).run prog w = ((Zo0 args).run prog w).andThen fun v u => .ok (.value v) u :=
  run_callFunc_extern func60 Kr Kr Kr Kr args w
theorem Ztu (args : Array Value) (w : World) : (callFunc 61 args).run prog w = ((Zls args).run prog w).andThen fun v u => .ok (.value v) u :=
  run_callFunc_extern func61 Kr Kr Kr Kr args w
theorem Ztv (args : Array Value) (w : World) : (callFunc 308 args).run prog w = ((Zlt args).run prog w).andThen fun v u => .ok (.value v) u :=
  run_callFunc_extern func308 Kr Kr Kr Kr args w
theorem Zts (args : Array Value) (w : World) : (callFunc 325 args).run prog w = ((ZoY args).run prog w).andThen fun v u => .ok (.value v) u :=
  run_callFunc_extern func325 Kr Kr Kr Kr args w
theorem Ztt (args : Array Value) (w : World) : (callFunc 326 args).run prog w = ((ZoZ args).run prog w).andThen fun v u => .ok (.value v) u :=
  run_callFunc_extern func326 Kr Kr Kr Kr args w
theorem Ztr (args : Array Value) (w : World) : (callFunc 323 args).run prog w = ((Zlq args).run prog w).andThen fun v u => .ok (.value v) u :=
  run_callFunc_extern func323 Kr Kr Kr Kr args w
theorem ZE2 (args : Array Value) (w : World) : (callFunc 110 args).run prog w = ((Zlr args).run prog w).andThen fun v u => .ok (.value v) u :=
  run_callFunc_extern func110 Kr Kr Kr Kr args w
theorem ZE3 (args : Array Value) (w : World) : (callFunc 111 args).run prog w = ((ReflectliteValue.set args).run prog w).andThen fun v u => .ok (.value v) u :=
  run_callFunc_extern func111 Kr Kr Kr Kr args w
theorem Zpe(t:Addr)(w:World):(Zlu #[.iface 83 (.pointer (some t))]).run prog w
  = .ok (.agg #[.pointer (some ⟨20,83,none⟩),Vp w.heap.size,.int .u64 150]) (w.alloc (.cells #[.pointer (some t)] 83)):=by kernel_rfl
theorem Zpd(a:Addr)(w:World):(Zo0 #[.agg #[.pointer (some ⟨20,83,none⟩),.pointer (some a),.int .u64 150]]).run prog w
  = .ok (.iface 209 (.agg #[.pointer (some ⟨20,83,none⟩)])) w:=by kernel_rfl
theorem ZqQ (h : Value) (w : World) : (Go.method 562 209 (.agg #[h]) "Kind").run Tryz.prog w = .ok (308, h) w := by kernel_rfl
theorem Zpc(w:World):(Zlt #[.pointer (some ⟨20,83,none⟩)]).run prog w=.ok (.int .u8 22) w:=by kernel_rfl
theorem Zpb(w:World):(Zlt #[.pointer (some ⟨20,81,none⟩)]).run prog w=.ok (.int .u8 22) w:=by kernel_rfl
theorem ZqO (h : Value) (w : World) : (Go.method 562 209 (.agg #[h]) "Elem").run Tryz.prog w = .ok (325, .agg #[h]) w := by kernel_rfl
theorem ZqP (h : Value) (w : World) : (Go.method 562 209 (.agg #[h]) "Implements").run Tryz.prog w = .ok (326, .agg #[h]) w := by kernel_rfl
theorem ZqN (h : Value) (w : World) : (Go.method 562 209 (.agg #[h]) "AssignableTo").run Tryz.prog w = .ok (323, .agg #[h]) w := by kernel_rfl
theorem Zo8(w:World):(ZoY #[.agg #[.pointer (some ⟨20,83,none⟩)]]).run prog w=.ok (.iface 209 (.agg #[.pointer (some ⟨20,81,none⟩)])) w:=by kernel_rfl
theorem Zo9(w:World):(ZoZ #[.agg #[.pointer (some ⟨20,81,none⟩)],.iface 209 (.agg #[.pointer (some ⟨20,46,none⟩)])]).run prog w=.ok (.bool true) w:=by kernel_rfl
theorem Zv0(v:Value)(w:World):(ReflectliteType.typeOf #[.iface 81 v]).run prog w=.ok (.iface 209 (.agg #[.pointer (some ⟨20,81,none⟩)])) w:=by kernel_rfl
theorem ZvW(w:World):(Zlq #[.agg #[.pointer (some ⟨20,81,none⟩)],.iface 209 (.agg #[.pointer (some ⟨20,81,none⟩)])]).run prog w=.ok (.bool true) w:=by kernel_rfl
theorem ZvX(w:World):(Zlq #[.agg #[.pointer (some ⟨20,432,none⟩)],.iface 209 (.agg #[.pointer (some ⟨20,81,none⟩)])]).run prog w=.ok (.bool false) w:=by kernel_rfl
theorem Zv1(e:Addr)(w:World):(Zlu #[.iface 81 (.pointer (some e))]).run prog w
  = .ok (.agg #[.pointer (some ⟨20,81,none⟩),Vp w.heap.size,.int .u64 150]) (w.alloc (.cells #[.pointer (some e)] 81)):=by kernel_rfl
theorem Zzm(v:Value)(xT:TypeId)(w:World):(Instr.typeAssert (.iface 432 v) xT 220 true).run prog w=.ok (.tuple #[.nilIface,.bool false]) w:=run_typeAssert_lacksB underlying220 Kr Kr v _ w
theorem Zrv(a:Addr)(w:World):(ReflectliteValue.parts (.agg #[.pointer (some ⟨20,83,none⟩),.pointer (some a),.int .u64 150])).run prog w=.ok (some (83,a,150)) w:=by kernel_rfl
theorem Zpa(a p:Addr)(W:World)(c:W.cell? a=some (.pointer (some p))) :
  (Zls #[.agg #[.pointer (some ⟨20,83,none⟩),.pointer (some a),.int .u64 150]]).run prog W=.ok (.bool false) W:=by
 refine(congrArg (fun q=>Sem.run _ q W) (show Zls _=(ReflectliteValue.parts (.agg _) >>= fun r=>_) from rfl)).trans ?_;simp only[Sem.run_bind,Zrv,Result.andThen];simp[ReflectliteValue.isNil,loadVar,isAgg,underlying,underlying83,c,Result.andThen]
theorem Zz6(w:World):(Rtype.elem? 83).run prog w=.ok (some 81) w:=by kernel_rfl
theorem Zz7(p:Addr)(w:World):(ReflectliteValue.mk 81 p ReflectliteValue.flagAddr).run prog w=.ok (.agg #[.pointer (some ⟨20,81,none⟩),.pointer (some p),.int .u64 406]) w:=by kernel_rfl
theorem ZvY(a p:Addr)(W:World)(c:W.cell? a=some (.pointer (some p))) :
  (Zlr #[.agg #[.pointer (some ⟨20,83,none⟩),.pointer (some a),.int .u64 150]]).run prog W
   = .ok (.agg #[.pointer (some ⟨20,81,none⟩),.pointer (some p),.int .u64 406]) W:=by
 refine(congrArg (fun q=>Sem.run _ q W) (show Zlr _=(ReflectliteValue.parts (.agg _) >>= fun r=>_) from rfl)).trans ?_;simp only[Sem.run_bind,Zrv,Result.andThen];simp[ReflectliteValue.elem,loadVar,isAgg,underlying,underlying83,c,Result.andThen,Zz6,Zz7]
theorem Zz9(a:Addr)(w:World):(ReflectliteValue.parts (.agg #[.pointer (some ⟨20,81,none⟩),.pointer (some a),.int .u64 406])).run prog w=.ok (some (81,a,406)) w:=by kernel_rfl
theorem Zz8(a:Addr)(w:World):(ReflectliteValue.parts (.agg #[.pointer (some ⟨20,81,none⟩),.pointer (some a),.int .u64 150])).run prog w=.ok (some (81,a,150)) w:=by kernel_rfl
theorem Zz5(w:World):(Rtype.directlyAssignable 81 81).run prog w=.ok true w:=by kernel_rfl
theorem ZvZ(ta b e:Addr)(old:Value)(W:World)(a:W.cell? b=some (.pointer (some e)))(c:W.cell? ta=some old)(d:W.frozen? ta=false) :
  (ReflectliteValue.set #[.agg #[.pointer (some ⟨20,81,none⟩),.pointer (some ta),.int .u64 406],.agg #[.pointer (some ⟨20,81,none⟩),.pointer (some b),.int .u64 150]]).run prog W
   = .ok (.tuple #[]) (W.setCell ta (.pointer (some e))):=by
 refine(congrArg (fun q=>Sem.run _ q W) (show ReflectliteValue.set _=(ReflectliteValue.parts (.agg _) >>= fun r=>ReflectliteValue.parts (.agg _) >>= fun s=>_) from rfl)).trans ?_;simp only[Sem.run_bind,Zz9,Zz8,Result.andThen];simp[ReflectliteValue.flagAddr,loadVar,isAgg,underlying,underlying81,a,Result.andThen,Zz5,storeVar,Value.cells,storeCells,Addr.add];rw[run_store _ W _ _ _ (by rfl)];simp[c,d]
theorem ZtP{e t:Addr}(old:Value){w:World}(f:w.cell? ⟨13,0,none⟩=some (.iface 209 (.agg #[.pointer (some ⟨20,46,none⟩)])))(c:w.cell? t=some old)(g:w.frozen? t=false) :
  Cz 33 #[.iface 81 (.pointer (some e)),.iface 83 (.pointer (some t))] w fun ev u=>ev=.returned (.bool true)/\u=((((w.alloc (.cells #[.pointer (some t)] 83)).alloc (.cells #[.pointer (some ⟨20,83,none⟩),Vp w.heap.size,.int .u64 150] 134)).alloc (.cells #[.pointer (some ⟨20,83,none⟩),Vp w.heap.size,.int .u64 150] 134)).alloc (.cells #[.pointer (some e)] 81)).setCell t (.pointer (some e)):=by
 have p:=Ztx;have q:=Ztw;have r:=Ztu;have h:=Ztv;have i:=Zts;have j:=Ztt;have k:=Zhn;have l:=Ztr;have m:=ZE2;have n:=ZE3;have tO:=Zv0;have mA:=ZqN;have a25:=ZvW;have v25:=Zv1;have f6:=Zpe;have f7:=Zpd;have mK:=ZqQ;have mE:=ZqO;have mI:=ZqP;have k27:=Zpc;have k25:=Zpb;have e27:=Zo8;have i25:=Zo9;have n8:=Zpa ⟨w.heap.size,0,none⟩ t ((w.alloc (.cells #[.pointer (some t)] 83)).alloc (.cells #[.pointer (some ⟨20,83,none⟩),Vp w.heap.size,.int .u64 150] 134)) (by simp);have d:13<w.heap.size:=Yai _ _ f;have o:((w.alloc (.cells #[.pointer (some t)] 83)).alloc (.cells #[.pointer (some ⟨20,83,none⟩),Vp w.heap.size,.int .u64 150] 134)).cell? ⟨13,0,none⟩=some (.iface 209 (.agg #[.pointer (some ⟨20,46,none⟩)])):=by rwa [Ybm _ _ ⟨13,0,none⟩ (by simp;omega),Ybm _ _ ⟨13,0,none⟩ d]
 have a:=Yai _ _ c;have el:=ZvY ⟨w.heap.size,0,none⟩ t (((w.alloc (.cells #[.pointer (some t)] 83)).alloc (.cells #[.pointer (some ⟨20,83,none⟩),Vp w.heap.size,.int .u64 150] 134)).alloc (.cells #[.pointer (some ⟨20,83,none⟩),Vp w.heap.size,.int .u64 150] 134)) (by rw[Ybm _ _ ⟨w.heap.size,0,none⟩ (by simp;omega)];simp)
 have st:=ZvZ t ⟨w.heap.size+1+1+1,0,none⟩ e old ((((w.alloc (.cells #[.pointer (some t)] 83)).alloc (.cells #[.pointer (some ⟨20,83,none⟩),Vp w.heap.size,.int .u64 150] 134)).alloc (.cells #[.pointer (some ⟨20,83,none⟩),Vp w.heap.size,.int .u64 150] 134)).alloc (.cells #[.pointer (some e)] 81))
  (by rw[Ydm _ _ _ _ (by simp)];rfl)
  (by rwa [Ybm _ _ t (by simp;omega),Ybm _ _ t (by simp;omega),Ybm _ _ t (by simp;omega),Ybm _ _ t a])
  (by rwa [Ydc _ _ t (by simp;omega),Ydc _ _ t (by simp;omega),Ydc _ _ t (by simp;omega),Ydc _ _ t (Nat.ne_of_lt a)])
 go_enter func33,ntmps33;go_wp2;refine wp_loop_rounds 1 ?_;rw[rounds_succ];go_wp2;go_ret;exact⟨rfl,rfl⟩
theorem ZtQ{e t:Addr}{w:World}(c:w.cell? ⟨13,0,none⟩=some (.iface 209 (.agg #[.pointer (some ⟨20,46,none⟩)]))) :
  Cz 33 #[.iface 432 (.pointer (some e)),.iface 83 (.pointer (some t))] w fun ev u=>ev=.returned (.bool false)/\BW w u:=by
 have k:=Ztx;have l:=Ztw;have m:=Ztu;have d:=Ztv;have f:=Zts;have g:=Ztt;have h:=Zhn;have i:=Ztr;have tO:=Tryz.isTypeOf;have mA:=ZqN;have a25:=ZvX;have f6:=Zpe;have f7:=Zpd;have mK:=ZqQ;have mE:=ZqO;have mI:=ZqP;have k27:=Zpc;have k25:=Zpb;have e27:=Zo8;have i25:=Zo9;have nA:=Zzm;have uE:=Tryz.noUnwrapE;have vE:=Tryz.noUnwrapsE;have n8:=Zpa ⟨w.heap.size,0,none⟩ t ((w.alloc (.cells #[.pointer (some t)] 83)).alloc (.cells #[.pointer (some ⟨20,83,none⟩),Vp w.heap.size,.int .u64 150] 134)) (by simp);have a:13<w.heap.size:=Yai _ _ c;have j:((w.alloc (.cells #[.pointer (some t)] 83)).alloc (.cells #[.pointer (some ⟨20,83,none⟩),Vp w.heap.size,.int .u64 150] 134)).cell? ⟨13,0,none⟩=some (.iface 209 (.agg #[.pointer (some ⟨20,46,none⟩)])):=by rwa [Ybm _ _ ⟨13,0,none⟩ (by simp;omega),Ybm _ _ ⟨13,0,none⟩ a]
 go_enter func33,ntmps33;go_wp2;refine wp_loop_rounds 1 ?_;rw[rounds_succ];go_wp2;go_ret;exact⟨rfl,belB⟩
theorem Vars.all{w:World}{A:Nat->Addr}{m:Int}(h:Vars w A m):∀g,g<13->w.cell? ⟨g,0,none⟩=some (.iface 432 (.pointer (some (A g)))):=fun g a=>h.sent g (by unfold sents;simp;omega)
theorem Zgv {w : World} {A : Nat -> Addr} {m : Int} {fa g h : Nat} (a : Vars w A m) (i : w.cell? ⟨fa, 2, none⟩ = some (.iface 432 (.pointer (some (A g))))) (d : g ∈ sents := by decide) (f : h ∈ sents := by decide) (j : g ≠ h := by decide) :
    Cz 32 #[.iface 81 (Vp fa),.iface 432 (.pointer (some (A h)))] w fun e u=>e=.returned (.bool false)/\u=w:=by
  obtain⟨c,t,r⟩:=a.row g d;obtain⟨c',t',r'⟩:=a.row h f;exact Zxn i (a.apart _ d _ f j) r r'
theorem Zg7 {w : World} {A : Nat -> Addr} {m : Int} {g h : Nat} (a : Vars w A m) (d : g ∈ sents := by decide) (f : h ∈ sents := by decide) (i : g ≠ h := by decide) :
    Cz 32 #[.iface 432 (.pointer (some (A g))),.iface 432 (.pointer (some (A h)))] w fun e u=>e=.returned (.bool false)/\u=w:=by
  obtain⟨c,t,r⟩:=a.row g d;obtain⟨c',t',r'⟩:=a.row h f;exact Zxm (a.apart _ d _ f i) r r'
theorem Zik(A:Nat->Addr)(m:Int){w:World}(a:Vars w A m) :
  Cz 18 #[.nilIface] w fun e u=>e=.returned (Vi 0)/\u=w:=by
 have v:=a.all;go_enter func18,ntmps18
 iterate 13 (go_wp2_with fail;refine cret (Zxl) ?_)
 go_wp2;go_ret;exact⟨rfl,rfl⟩
theorem ZjQ(A:Nat->Addr)(m:Int){w:World}(a:Vars w A m) :
  Cz 18 #[.iface 432 (.pointer (some (A 0)))] w fun e u=>e=.returned (Vi 1)/\u=w:=by
 have v:=a.all;go_enter func18,ntmps18
 go_wp2_with fail
 refine cret (Zf7) ?_;go_wp2;go_ret;exact⟨rfl,rfl⟩
theorem Zmt(A:Nat->Addr)(m:Int){w:World}(a:Vars w A m)(fa:Nat)(c:w.cell? ⟨fa,2,none⟩=some (.iface 432 (.pointer (some (A 1))))) :
  Cz 18 #[.iface 81 (Vp fa)] w fun e u=>e=.returned (Vi 2)/\u=w:=by
 have v:=a.all;go_enter func18,ntmps18
 iterate 1 (go_wp2_with fail;refine cret (Zgv a c) ?_)
 go_wp2_with fail
 refine cret (Zf8 c) ?_;go_wp2;go_ret;exact⟨rfl,rfl⟩
theorem Zms(A:Nat->Addr)(m:Int){w:World}(a:Vars w A m)(fa:Nat)(c:w.cell? ⟨fa,2,none⟩=some (.iface 432 (.pointer (some (A 2))))) :
  Cz 18 #[.iface 81 (Vp fa)] w fun e u=>e=.returned (Vi 3)/\u=w:=by
 have v:=a.all;go_enter func18,ntmps18
 iterate 2 (go_wp2_with fail;refine cret (Zgv a c) ?_)
 go_wp2_with fail
 refine cret (Zf8 c) ?_;go_wp2;go_ret;exact⟨rfl,rfl⟩
theorem Zmu(A:Nat->Addr)(m:Int){w:World}(a:Vars w A m) :
  Cz 18 #[.iface 432 (.pointer (some (A 3)))] w fun e u=>e=.returned (Vi 4)/\u=w:=by
 have v:=a.all;go_enter func18,ntmps18
 iterate 3 (go_wp2_with fail;refine cret (Zg7 a) ?_)
 go_wp2_with fail
 refine cret (Zf7) ?_;go_wp2;go_ret;exact⟨rfl,rfl⟩
theorem Ziq{w:World} :
  Cz 19 #[.nilIface] w fun e u=>e=.returned (Vi 0)/\BW w u:=by
 go_enter func19,ntmps19
 go_wp2_with fail
 refine cret (ZtR) ?_;go_wp2;go_ret;exact⟨rfl,belB⟩
theorem Zdm(A:Nat->Addr)(m:Int){a:Addr}{w:World}(d:Vars w A m) :
  Cz 19 #[.iface 432 (.pointer (some a))] w fun e u=>e=.returned (Vi 0)/\BW w u:=by
 have f:Below _ w (w.alloc (.cells #[.pointer none] 81)):=Zbal;go_enter func19,ntmps19
 go_wp2_with fail
 refine(ZtQ (d.alloc _).handle).mono ?_;rintro e u ⟨rfl,g⟩;have c:=f.trans (g.mono (by simp));go_wp2;go_ret;exact⟨rfl,c⟩
theorem ZdB(A:Nat->Addr)(m:Int)(fa:Nat)(i:Int){w:World}(h:Vars w A m)(f:w.cell? ⟨fa,1,none⟩=some (Vi i)) :
  Cz 19 #[.iface 81 (Vp fa)] w fun e a=>e=.returned (Vi i)/\BW w a:=by
 have g:fa<w.heap.size:=Yai _ _ f;go_enter func19,ntmps19
 go_wp2_with fail
 refine(ZtP (.pointer none) (h.alloc _).handle (by simp) (by simp)).mono ?_;rintro e a ⟨rfl,d⟩;have c:BW w a:=d▸belB
 have c1:a.cell? ⟨w.heap.size,0,none⟩=some (Vp fa):=by
  rw[d];refine World.cell?_setCell_same _ _ _ (u:=.pointer none) ?_;refine(Below.cell (B:=w.heap.size+1) (w:=w.alloc (.cells #[.pointer none] 81)) ?_ (Ybd _)).trans (by simp);exact belB
 have c2:=(c.cell g).trans f;clear d;go_wp2;go_ret;exact⟨rfl,c⟩
theorem Zrl(A:Nat->Addr)(m:Int){w:World}(a:Vars w A m)(fa:Nat)(c:w.cell? ⟨fa,2,none⟩=some (.iface 432 (.pointer (some (A 4))))) :
  Cz 18 #[.iface 81 (Vp fa)] w fun e u=>e=.returned (Vi 5)/\u=w:=by
 have v:=a.all;go_enter func18,ntmps18
 iterate 4 (go_wp2_with fail;refine cret (Zgv a c) ?_)
 go_wp2_with fail
 refine cret (Zf8 c) ?_;go_wp2;go_ret;exact⟨rfl,rfl⟩
theorem Zrn(A:Nat->Addr)(m:Int){w:World}(a:Vars w A m)(fa:Nat)(c:w.cell? ⟨fa,2,none⟩=some (.iface 432 (.pointer (some (A 5))))) :
  Cz 18 #[.iface 81 (Vp fa)] w fun e u=>e=.returned (Vi 6)/\u=w:=by
 have v:=a.all;go_enter func18,ntmps18
 iterate 5 (go_wp2_with fail;refine cret (Zgv a c) ?_)
 go_wp2_with fail
 refine cret (Zf8 c) ?_;go_wp2;go_ret;exact⟨rfl,rfl⟩
theorem Zrk(A:Nat->Addr)(m:Int){w:World}(a:Vars w A m) :
  Cz 18 #[.iface 432 (.pointer (some (A 6)))] w fun e u=>e=.returned (Vi 7)/\u=w:=by
 have v:=a.all;go_enter func18,ntmps18
 iterate 6 (go_wp2_with fail;refine cret (Zg7 a) ?_)
 go_wp2_with fail
 refine cret (Zf7) ?_;go_wp2;go_ret;exact⟨rfl,rfl⟩
theorem Zrm(A:Nat->Addr)(m:Int){w:World}(a:Vars w A m) :
  Cz 18 #[.iface 432 (.pointer (some (A 7)))] w fun e u=>e=.returned (Vi 8)/\u=w:=by
 have v:=a.all;go_enter func18,ntmps18
 iterate 7 (go_wp2_with fail;refine cret (Zg7 a) ?_)
 go_wp2_with fail
 refine cret (Zf7) ?_;go_wp2;go_ret;exact⟨rfl,rfl⟩
attribute [local go_sem ↓] Go.wp_at_zero Go.wp_at_succ
theorem ZCi(l:LB):(1<=numI 1000 l ↔ 1<=numV l/\numV l<=1000)/\(1<=numI 1000 l->numI 1000 l=numV l):=by
 unfold numI numV ZQ;by_cases c:l.length<1∨(l.head?=some 48/\1<l.length)∨l.all ZC=false
 ·rw[if_pos (by rcases c with h|h|h;exact .inl h;exact .inr (.inl h);exact .inr (.inr (.inl h)))];rw[if_pos (by rcases c with h|h|h;exact .inl h;exact .inr (.inl h);exact .inr (.inr (.inl h)))];simp
 ·have e:∀most,most<val l->(l.length<1∨(l.head?=some 48/\1<l.length)∨l.all ZC=false∨most<val l):=fun _ h=>.inr (.inr (.inr h))
  have d:∀most,¬most<val l->¬(l.length<1∨(l.head?=some 48/\1<l.length)∨l.all ZC=false∨most<val l):=by
   rintro most h (a|a|a|a)
   ·exact c (.inl a)
   ·exact c (.inr (.inl a))
   ·exact c (.inr (.inr a))
   ·exact h a
  by_cases a:1000<val l
  ·rw[if_pos (e _ a)];by_cases f:1000000000<val l
   ·rw[if_pos (e _ f)];simp
   ·rw[if_neg (d _ f)];simp only[Ya6];constructor
    ·constructor
     ·intro h;omega
     ·intro h;omega
    ·intro h;omega
  ·rw[if_neg (d _ a),if_neg (d _ Om)];simp only[Ya6];constructor
   ·constructor
    ·intro h;omega
    ·intro h;omega
   ·intro _;trivial
def lenP(ts:List Tok):Out Int:=bnd (Zq [91] ts) fun _ r=>bnd (Zc2 r) fun n r=>bnd (Zq [93] r) fun _ r=>.ok (n,r)
theorem Zs8 (o : Nat) (ts : List Tok) : winP o ts = bnd (Zq [40] ts) fun _ r => bnd (selP r) fun p r => bnd (lenP r) fun n r => bnd (Zq [41] r) fun _ r => .ok (Zbg ⟨2, o, n, p.name, p.jn, []⟩, r) := by
  unfold winP lenP;cases a:Zq [40] ts with
  | error e=>rfl
  | ok p1=>
    obtain⟨a1,r1⟩:=p1;simp only[bnd];cases c:selP r1 with
    | error e=>rfl
    | ok p2=>
      obtain⟨a2,r2⟩:=p2;simp only;cases d:Zq [91] r2 with
      | error e=>rfl
      | ok p3=>
        obtain⟨a3,r3⟩:=p3;simp only;cases f:Zc2 r3 with
        | error e=>rfl
        | ok p4=>
          obtain⟨a4,r4⟩:=p4;simp only;cases g:Zq [93] r4 with
          | error e=>rfl
          | ok p5=>rfl
theorem Ze7(s:LB)(ts:List Tok):(isT s (hd ts)=true/\Zq s ts=.ok ((),ts.tail))∨(¬isT s (hd ts)=true/\Zq s ts=.error (2,(hd ts).at_)):=by
 by_cases h:isT s (hd ts)=true
 ·exact .inl ⟨h,ZdU h⟩
 ·exact .inr ⟨h,Ze8 h⟩
theorem ZEJ{w:World}{R:RS}{k:Nat}{ts:List Tok}(h:RK w R k ts) :
  Cz 170 #[Vp R.b] w fun e u=>∃(n:Int) (v:Value),e=.returned (.tuple #[Vi n,v])/\Hid (Res R (fun _ m=>n=m) u (lenP ts) v)/\w.grownBy u (some R.b):=by
 have H:=hid h;have a0:=(Yae.1 h.rd.cells).1;go_enter func170,ntmps170
 go_wp2_with fail
 refine(ZdT H _ Dc Dc).mono ?_;rintro e y ⟨v,rfl,f,hg⟩;have L:=hid hg;rcases Ze7 [91] ts with ⟨s,c⟩|⟨s,c⟩
 ·obtain⟨rfl,⟨k1,d⟩,_⟩:=f.good c;have M:=hid d;have A:Hid (lenP ts=bnd (Zc2 ts.tail) fun n r=>bnd (Zq [93] r) fun _ r=>.ok (n,r)):=by unfold lenP;rw[c];rfl
  go_wp2_with fail
  refine(Zee M).mono ?_;rintro e z ⟨⟨kd,at_,tx,tv⟩,rfl,B,N⟩;have C:=hid (Zj L (Zw N));have O:=hid (M.below N)
  go_upto_region 5 with fail
  refine ZP fun W6 D=>?_;have E:Below _ _ _:=D▸Zbal;have F:Hid (BAt _ _ [.int _ _,.int _ _,.string _,.int _ _] 74):=D▸bnw;have o:=hid (Zj C (Zw E));have g:=hid (O.below E);have a1:R.b<z.heap.size:=by have:=C.size;omega
  clear D E O C;have t0:=F.cell;have i:=ZCi (hd ts.tail).txt;by_cases d:(hd ts.tail).jj=1
  ·have P:kd=0:=by have:=B.1;rw[d]at this;exact this
   subst P;have p:(tv)=numV _:=B.2.2.2 d;by_cases t:1<=numI 1000 (hd ts.tail).txt
   ·have x:=i.1.1 t;rw[<-p]at x;have Q:=x.1;have G:=x.2;have U:Hid (Zc2 _=.ok _):=hid (by unfold Zc2;rw[if_pos ⟨d,t⟩,i.2 t,<-p]);have HD:Hid (¬((hd ts.tail).jj=0∨(hd ts.tail).jj=5)):=hid Om;obtain⟨rc0,rc1,rfz,rcx⟩:=g.rd.all;have a2:=g.lt;have a3:=g.len;clear t i p x d B
    go_upto_region 8 with fail
    refine ZP fun W8 q=>?_;have V:Hid _:=q▸g.step HD.out;have W:Hid _:=q▸ZA o.out (Or.inl rfl);have X:Hid (BAt _ _ _ _):=q▸F.other (by show z.heap.size≠R.b;omega) _;clear q rc0 rc1 rfz rcx t0 F g o;have e3:=X.cell 3;simp only[Zget]at e3;have S:=hid (V.below ((Yaf _ _).drew));have T:=hid (Zj W (Zw ((Yaf _ _).drew)))
    go_region_held3 (fun u => u.cell? ⟨z.heap.size, 3, none⟩ = some (Vi tv)) (first | exact e9 | exact e3 | go_keep) (first
      | (go_at_call 166
         refine(ZdT S.out ⟨#[93]⟩ Dc Dc).mono ?_;rintro e Y ⟨v,rfl,f,I⟩;have e9:Y.cell? ⟨z.heap.size,3,none⟩=some (Vi tv):=(Ycc (a:=⟨z.heap.size,3,none⟩) (I.block _ (Yai _ _ e3) (by simp;omega))).trans e3;have Z:Hid (w.grownBy Y (some R.b)):=Zj T.out I;clear I))
    all_goals
     go_wp2;go_ret2;refine⟨_,_,rfl,?_,Z⟩;rw[A,U];show Hid (Res R _ _ (bnd (Zq [93] ts.tail.tail) _) _);rcases Ze7 [93] ts.tail.tail with ⟨_,c⟩|⟨_,c⟩
     ·obtain⟨s,h2,_⟩:=f.good c;rw[c];exact⟨s,h2,rfl⟩
     ·have:=f.err c;rw[c];exact this
   ·have j:Hid (lenP ts=.error (2,(hd ts.tail).at_)):=by rw[A];unfold Zc2;rw[if_neg (fun h=>t h.2)];rfl
    have x:(tv:Int)<1∨1000<(tv:Int):=by
     rw[p];by_cases s:1<=numV (hd ts.tail).txt/\numV (hd ts.tail).txt<=1000
     ·exact absurd (i.1.2 s) t
     ·omega
    by_cases Q:(tv:Int)<1
    all_goals
     have G:¬(tv:Int)<1->1000<(tv:Int):=by omega
     clear x
     try have a4:=G Q
     clear G
     go_wp2_with fail
     refine(Zfi g).mono ?_;rintro e wE ⟨v,rfl,J,l⟩;obtain⟨fa,rfl⟩:=J.shape;have K:=hid (Zj o (Zw l));clear l;go_wp2;go_ret2;exact⟨_,_,rfl,by rwa [j.out],K⟩
  ·have P:((kd:Int) != 0)=true:=by
    rw[bne_iff_ne];intro e;exact d ((Ze0 g.wf.head.2.2).2.2.2.1.1 (by have:=B.1;simp only at this;omega))
   have j:Hid (lenP ts=.error (2,(hd ts.tail).at_)):=by rw[A];unfold Zc2;rw[if_neg (fun h=>d h.1)];rfl
   clear i B d
   go_wp2_with fail
   refine(Zfi g).mono ?_;rintro e wE ⟨v,rfl,J,l⟩;obtain⟨fa,rfl⟩:=J.shape;have K:=hid (Zj o (Zw l));clear l;go_wp2;go_ret2;exact⟨_,_,rfl,by rwa [j.out],K⟩
 ·have j:Hid (lenP ts=.error (2,(hd ts).at_)):=by unfold lenP;rw[c];rfl
  have J:=hid (f.err c);obtain⟨fa,rfl⟩:=J.shape;clear f c s;go_wp2;go_ret2;exact⟨_,_,rfl,by rwa [j.out],L⟩
end Go.Proofs.YtcdgkkfipdoeeaaGreatDoor
namespace Go.Proofs.YtcdgkkfipdoeeaaGreatDoor
open Go.RowKit LS Go.Proofs.Tryz
attribute [local go_sem ↓] Go.wp_at_zero Go.wp_at_succ
theorem ZEK{w:World}{R:RS}{k:Nat}{ts:List Tok}(h:RK w R k ts){J:BA}(o:Nat)(N:bl J=Z0.getD o []) :
  Cz 107 #[Vp R.b,.string J] w fun e u=>∃(pv v:Value),e=.returned (.tuple #[pv,v])/\Zhp pv/\Hid (Res R (fun u t=>Zh u t pv) u (winP o ts) v)/\w.grownBy u (some R.b):=by
 have H:=hid h;have O:=hid N;have a8:=(Yae.1 h.rd.cells).1;go_enter func107,ntmps107
 go_wp2_with fail
 refine(ZdT H _ Dc Dc).mono ?_;rintro e y ⟨v,rfl,c,hg⟩;have B:=hid hg;rcases Ze7 [40] ts with ⟨K,d⟩|⟨K,d⟩
 ·obtain⟨rfl,⟨k1,P⟩,_⟩:=c.good d;have Q:=hid P;have C:Hid (winP o ts=bnd (selP ts.tail) fun p r=>bnd (lenP r) fun n r=>bnd (Zq [41] r) fun _ r=>.ok (Zbg ⟨2,o,n,p.name,p.jn,[]⟩,r)):=by rw[Zs8,d];rfl
  go_wp2_with fail
  refine(Zsd Q).mono ?_;rintro e z ⟨nm,la,ln,lc,v,rfl,c,S⟩;have m:=hid (Zj B S);have a9:R.b<z.heap.size:=by have:=m.size;omega
  cases i:selP ts.tail with
  | error er=>
   have l:=hid (c.err i);obtain⟨fa,rfl⟩:=l.shape;have f:Hid (winP o ts=.error er):=by rw[C,i];rfl
   go_wp2;go_ret2;exact⟨_,_,rfl,.inl rfl,f.out▸l.below Zbal,ZbR m⟩
  | ok pr=>
   obtain⟨nd,r2⟩:=pr;obtain⟨rfl,⟨k2,T⟩,U,V⟩:=c.good i;have D:Hid (winP o ts=bnd (lenP r2) fun n r=>bnd (Zq [41] r) fun _ r=>.ok (Zbg ⟨2,o,n,nd.name,nd.jn,[]⟩,r)):=by rw[C,i];rfl
   have W:=hid U;have X:=hid V;have Y:=hid T
   go_wp2_with fail
   refine Zm fun W3 E=>?_;have q:Below _ _ _:=E▸Zbal;have Z:Hid (BAt _ _ _ 148):=E▸bnw;have a0:=hid (Zj m (Zw q));have F:=hid (Y.below q);have a1:=hid (X.below q);refine(ZEJ F).mono ?_;rintro e w4 ⟨n,v,rfl,c,s⟩;have G:=hid (Zj a0 s);have a2:=hid (a1.read F s);have I:=hid (Z.grown s (by simp;omega));cases j:lenP r2 with
   | error er=>
    have l:=hid (c.err j);obtain⟨fa,rfl⟩:=l.shape;have f:Hid (winP o ts=.error er):=by rw[D,j];rfl
    go_wp2;go_ret2;exact⟨_,_,rfl,.inl rfl,by rwa [f.out],G⟩
   | ok pr=>
    obtain⟨n',r4⟩:=pr;obtain⟨rfl,⟨k4,a3⟩,hn⟩:=c.good j;subst hn;have a4:Hid (winP o ts=bnd (Zq [41] r4) fun _ r=>.ok (Zbg ⟨2,o,n,nd.name,nd.jn,[]⟩,r)):=by rw[D,j];rfl
    have a5:=hid a3;have e0:=I.cell 0;have e1:=I.cell 1;simp only[Zget]at e0 e1;have x:=hid (a5.below ((Yaf _ _).drew));have L:=hid (Zj G (Zw ((Yaf _ _).drew)));have M:=hid (a2.below ((Yaf _ _).drew))
    go_upto_region 10 with fail
    go_region_held3 (fun u => u.cell? ⟨z.heap.size, 0, none⟩ = some (.string nm) /\ u.cell? ⟨z.heap.size, 1, none⟩ = some (.slice la ln lc)) (first | exact ⟨e90, e91⟩ | exact ⟨e0, e1⟩ | go_keep) (first
      | (go_at_call 166
         refine(ZdT x.out ⟨#[41]⟩ Dc Dc).mono ?_;rintro e A ⟨v,rfl,c,g⟩;have e90:A.cell? ⟨z.heap.size,0,none⟩=some (.string nm):=(Ycc (a:=⟨z.heap.size,0,none⟩) (g.block _ (Yai _ _ e0) (by simp;omega))).trans e0;have e91:A.cell? ⟨z.heap.size,1,none⟩=some (.slice la ln lc):=(Ycc (a:=⟨z.heap.size,1,none⟩) (g.block _ (Yai _ _ e1) (by simp;omega))).trans e1;have a6:Hid (w.grownBy A (some R.b)):=Zj L.out g;have a7:Hid (ZX A (.slice la ln lc) nd.jn):=M.read x.out g;clear g))
    all_goals
     go_wp2;go_ret2;refine⟨_,_,rfl,.inr ⟨_,_,rfl⟩,?_,a6⟩;rw[a4];rcases Ze7 [41] r4 with ⟨_,d⟩|⟨_,d⟩
     ·obtain⟨K,h2,_⟩:=c.good d;rw[d];exact⟨K,h2,.inr (.inr (.inl ⟨rfl,J,nm,la,ln,lc,rfl,O,W,a7⟩))⟩
     ·have:=c.err d;rw[d];exact this
 ·have f:Hid (winP o ts=.error (2,(hd ts).at_)):=by rw[Zs8,d];rfl
  have l:=hid (c.err d);obtain⟨fa,rfl⟩:=l.shape;go_wp2;go_ret2;exact⟨_,_,rfl,.inl rfl,by rwa [f.out],B⟩
end Go.Proofs.YtcdgkkfipdoeeaaGreatDoor
