/- Parts. -/
import Derived.Test.YtkodhpilkaihjaaGreatDoorF10
import Derived.Test.YtkodhpilkaihjaaGreatDoorF00
import Derived.Lib.SplitLaws
import Derived.Lib.IndexMore
import Derived.Test.YtkodhpilkaihjaaGreatDoorFX
namespace Go.Proofs.YtkodhpilkaihjaaGreatDoor.LS
open Go Go.RowKit
abbrev Lab:=List UInt8×List UInt8
abbrev El:=List Lab×Int
structure Ser where
 name:List UInt8
 labs:List Lab
 sams:List (Int×Int)
inductive VV where
 | sc (n:Int)
 | vec (l:List El)
def lab1(p:Lab):List UInt8:=p.1++[61]++p.2
def wrt(l:List Lab):List UInt8:=Go.Proofs.YtkodhpilkaihjaaGreatDoor.LS.commas (l.map lab1)
def cutV(n:Int):Int:=if 1000000000<n then 1000000000 else if n < -1000000000 then -1000000000 else n
def Zb3:List El->El->List El
 | [],x=>[x]
 | y::l,x=>if Op.bytesLess (wrt x.1) (wrt y.1)then x::y::l else y::Zb3 l x
def Zea:List Lab->List UInt8->List UInt8
 | [],_=>[]
 | p::l,n=>if p.1=n then p.2 else Zea l n
def Zee(s:Ser)(c:List UInt8×List UInt8×Bool):Bool:=!((decide (Zea s.labs c.1=c.2.1)) == c.2.2)
def Zco(a:Nd)(s:Ser):Bool:=a.conds.all (Zee s) && decide (a.name=s.name)
def ZbG(l:List (Int×Int))(n t:Int):List (Int×Int):=l.filter fun x=>decide (t - n<x.1) && decide (x.1<=t)
def maxL:Int->List Int->Int
 | m,[]=>m
 | m,x::l=>maxL (if m<x then x else m) l
def minL:Int->List Int->Int
 | m,[]=>m
 | m,x::l=>minL (if x<m then x else m) l
def Zd7(op:Nat)(l:List Int):Int:=
 if op=0 then l.sum else if op=1 then maxL (l.headD 0) l else if op=2 then minL (l.headD 0) l else if op=3 then (l.length:Int)else l.getLastD 0 - l.headD 0
def oneV(op:Option Nat)(l:List (Int×Int)):Int:=match op with
 | none=>(l.getLastD (0,0)).2
 | some o=>cutV (Zd7 o (l.map (·.2)))
def Zcr(st:List Ser)(a:Nd)(op:Option Nat)(size t:Int):List El:=
 st.foldl (fun acc s=>if Zco a s && !(ZbG s.sams size t).isEmpty then Zb3 acc (s.labs,oneV op (ZbG s.sams size t))else acc) []
def twoV(op:Nat)(a b:Int):Int:=if op=0 then cutV (a+b)else if op=1 then cutV (a - b)else if op=2 then cutV (a*b)else if b=0 then 0 else a.tdiv b
def Zdk(op:Nat):VV->VV->VV
 | .sc a,.sc b=>.sc (twoV op a b)
 | .sc a,.vec y=>.vec (y.map fun e=>(e.1,twoV op a e.2))
 | .vec x,.sc b=>.vec (x.map fun e=>(e.1,twoV op e.2 b))
 | .vec x,.vec y=>.vec (x.flatMap fun e=>(y.filter fun f=>decide (wrt e.1=wrt f.1)).map fun f=>(e.1,twoV op e.2 f.2))
def negV:VV->VV
 | .sc a=>.sc (-a)
 | .vec x=>.vec (x.map fun e=>(e.1,-e.2))
def Zv(l:List Lab)(by_:List (List UInt8)):List Lab:=l.filter fun p=>by_.contains p.1
def ZcO(op:Nat)(by_:List (List UInt8))(all:List El):List El->List El->List El
 | _,[]=>[]
 | pre,e::l=>(if pre.any (fun f=>decide (wrt (Zv f.1 by_)=wrt (Zv e.1 by_)))then [] else [(Zv e.1 by_,cutV (Zd7 op ((all.filter fun f=>decide (wrt (Zv f.1 by_)=wrt (Zv e.1 by_))).map (·.2))))])++ZcO op by_ all (pre++[e]) l
def ZcP(op:Nat)(by_:List (List UInt8))(l:List El):List El:=(ZcO op by_ l [] l).foldl Zb3 []
def ZdZ:VV->List El
 | .sc _=>[]
 | .vec l=>l
def sayT(st:List Ser)(t:Int):Tr->VV
 | .nil=>.vec []
 | .node _ _ a l r => if a.kind = 0 then .sc a.n else if a.kind = 1 then .vec (Zcr st a none 10 t) else if a.kind = 2 then .vec (Zcr st a (some a.op) a.n t)
   else if a.kind=3 then negV (sayT st t l)else if a.kind=5 then .vec (ZcP a.op a.by_ (ZdZ (sayT st t l)))
   else if a.kind=6 then (if (ZdZ (sayT st t l)).isEmpty then sayT st t r else sayT st t l)else Zdk a.op (sayT st t l) (sayT st t r)
def decI(n:Int):List UInt8:=if n<0 then [45]++decS n.natAbs else decS n.toNat
def elS(e:El):List UInt8:=[32,123]++wrt e.1++[125]++decI e.2
def Zc7(t:Int):VV->List UInt8
 | .sc n=>decI t++[32]++decI n
 | .vec l=>decI t++(l.map elS).flatten
end Go.Proofs.YtkodhpilkaihjaaGreatDoor.LS
namespace Go.Proofs.YtkodhpilkaihjaaGreatDoor
open Go.RowKit LS
def winT:Tr->Prop
 | .nil=>True
 | .node _ _ a l r=>(a.kind=2->1<=a.n/\a.n<=1000)/\winT l/\winT r
def InvW(rec:Nat->List Tok->Nat->Out Tr):Prop:=∀lv t d z,rec lv t d=.ok z->winT z.1
theorem ZiA{a:Nd}(h:a.kind=2->1<=a.n/\a.n<=1000):winT (Zcz a):=⟨h,trivial,trivial⟩
theorem ZvY{o:Nat}{ts:List Tok}{z:Tr×List Tok}(h:winP o ts=.ok z):winT z.1:=by
 unfold winP at h
 obtain⟨_,t1,h1,h⟩:=Zq h
 obtain⟨p,t2,h2,h⟩:=Zq h
 obtain⟨_,t3,h3,h⟩:=Zq h
 obtain⟨m,t4,h4,h⟩:=Zq h
 obtain⟨_,t5,h5,h⟩:=Zq h
 obtain⟨_,t6,h6,h⟩:=Zq h
 injection h with h;subst h
 have a4:1<=m/\m<=1000:=by
  unfold ZdK at h4
  split at h4
  ·rename_i hh
   injection h4 with h4;injection h4 with h4 h4';subst h4
   exact⟨hh.2,(ZlM 1000 _).2⟩
  ·cases h4
 exact ZiA (fun _=>a4)
theorem Znb{rec:Nat->List Tok->Nat->Out Tr}(hr:InvW rec){ts:List Tok}{deep:Nat}{z:Tr×List Tok}(h:ZbU rec ts deep=.ok z):winT z.1:=by
 unfold ZbU at h
 obtain⟨_,t1,h1,h⟩:=Zq h
 obtain⟨a,t2,h2,h⟩:=Zq h
 obtain⟨_,t3,h3,h⟩:=Zq h
 injection h with h;subst h
 show winT a
 exact hr _ _ _ _ h2
theorem ZvW{rec:Nat->List Tok->Nat->Out Tr}(hr:InvW rec){g:Nat}{ts:List Tok}{deep:Nat}{z:Tr×List Tok}(h:Zcw rec g ts deep=.ok z):winT z.1:=by
 unfold Zcw at h
 obtain⟨_,t1,h1,h⟩:=Zq h
 obtain⟨_,t2,h2,h⟩:=Zq h
 obtain⟨ns,t3,h3,h⟩:=Zq h
 obtain⟨a,t4,h4,h⟩:=Zq h
 injection h with h;subst h
 exact⟨fun h=>absurd (show(5:Nat)=2 from h) (by decide),Znb hr h4,trivial⟩
theorem ZvX{rec:Nat->List Tok->Nat->Out Tr}(hr:InvW rec){ts:List Tok}{deep:Nat}{z:Tr×List Tok}(h:Zce rec ts deep=.ok z):winT z.1:=by
 unfold Zce at h
 split at h
 ·injection h with h;subst h
  exact ZiA (fun h=>absurd (show(0:Nat)=2 from h) (by decide))
 ·split at h
  ·obtain⟨a,t1,h1,h⟩:=Zq h
   injection h with h;subst h
   exact⟨fun h=>absurd (show(3:Nat)=2 from h) (by decide),hr _ _ _ _ h1,trivial⟩
  ·split at h
   ·exact Znb hr h
   ·split at h
    ·exact ZvW hr h
    ·split at h
     ·exact ZvY h
     ·obtain⟨p,t1,h1,h⟩:=Zq h
      injection h with h;subst h
      obtain⟨a1,a2,a3,a4,a5⟩:=ZhE h1
      simp only at a2
      exact ZiA (fun h=>absurd (a2.symm.trans h) (by decide))
theorem Zf8:∀(n:Nat) (m:Bool) (lv:Nat) (a:Tr) (ts:List Tok) (deep:Nat) (z:Tr×List Tok),(m=true->winT a)->Zz n m lv a ts deep=.ok z->winT z.1
 | 0,_,_,_,_,_,_,_,h=>by cases h
 | n + 1, false, lv, a, ts, deep, z, _, h => by
   have hr:InvW (fun lv t d=>Zz n false lv .nil t d):=fun lv t d z h=>Zf8 n false lv .nil t d z (fun h=>nomatch h) h
   unfold Zz at h
   split at h
   · unfold Zcj at h
     split at h
     · split at h
       · cases h
       · exact ZvX hr h
     · cases h
   · obtain⟨b,t1,h1,h2⟩:=Zq h
     exact Zf8 n true lv b t1 deep z (fun _=>hr _ _ _ _ h1) h2
 | n + 1, true, lv, a, ts, deep, z, ha, h => by
   unfold Zz at h
   split at h
   · injection h with h;subst h;exact ha rfl
   · rename_i p hp
     obtain⟨b,t1,h1,h2⟩:=Zq h
     have l1:=Zf8 n false _ _ _ _ _ (fun h=>nomatch h) h1
     refine Zf8 n true lv (.node 0 0 (nd0 p.1 p.2) a b) t1 deep z (fun _=>⟨fun hk=>?_,ha rfl,l1⟩) h2
     unfold LS.opAt at hp
     exfalso
     have hk':p.1=2:=hk
     repeat (first|(split at hp)|(injection hp with hp;subst hp;exact absurd hk' (by decide))|cases hp)
theorem ZtP{l:List UInt8}{t:Tr}(h:Z4 l=.ok t):winT t/\Zk t≠0:=by
 unfold Z4 at h
 split at h
 ·cases h
 ·split at h
  ·cases h
  ·rename_i t' r hp
   split at h
   ·split at h
    ·cases h
    ·injection h with h;subst h;rename_i hk;exact⟨(Zf8 _ false _ _ _ _ (t',r) (fun h=>nomatch h) hp:winT t'),hk⟩
   ·cases h
def Zdp:VV->Bool
 | .sc _=>false
 | .vec _=>true
theorem ZnI(op:Nat)(a b:VV):Zdp (Zdk op a b)=(Zdp a || Zdp b):=by cases a <;> cases b <;> rfl
theorem Zhp(st:List Ser)(tm:Int):∀t:Tr,wfT t->isNil t=false->Zk t≠0->Zdp (sayT st tm t)=decide (Zk t=2)
 | .nil,_,h,_=>by cases h
 | .node x y a l r, hw, _, hk => by
   obtain⟨w1,w2,w3,w4,w5,w6,w7,w8,w9,w10,wl,wr⟩:=hw
   have ihl:=Zhp st tm l wl
   have ihr:=Zhp st tm r wr
   unfold Zk at hk ⊢
   unfold sayT
   by_cases h0:a.kind=0
   · rw[if_pos h0,if_pos h0];rfl
   rw[if_neg h0]at hk ⊢
   rw[if_neg h0]
   by_cases h1:a.kind=1
   · rw[if_pos h1,if_pos (Or.inl h1)];rfl
   by_cases h2:a.kind=2
   · rw[if_neg h1,if_pos h2,if_pos (Or.inr h2)];rfl
   rw[if_neg (show ¬(a.kind=1∨a.kind=2) by omega)]at hk ⊢
   rw[if_neg h1,if_neg h2]
   by_cases h3:a.kind=3
   · rw[if_pos h3]at hk ⊢
     rw[if_pos h3,<-ihl (w7 (by omega)) hk]
     cases sayT st tm l <;> rfl
   rw[if_neg h3]at hk ⊢
   rw[if_neg h3]
   by_cases h5:a.kind=5
   · rw[if_pos h5]at hk ⊢
     rw[if_pos h5]
     by_cases hl:Zk l=2
     · rw[if_pos hl];rfl
     · rw[if_neg hl]at hk;exact absurd rfl hk
   rw[if_neg h5]at hk ⊢
   rw[if_neg h5]
   have hnr:=w8 (by omega)
   have hnl:=w7 (by omega)
   by_cases hb:Zk l=0∨Zk r=0∨(a.kind=6/\Zk l+Zk r≠4)
   · rw[if_pos hb]at hk;exact absurd rfl hk
   rw[if_neg hb]at hk ⊢
   have hl0:Zk l≠0:=fun h=>hb (Or.inl h)
   have hr0:Zk r≠0:=fun h=>hb (Or.inr (Or.inl h))
   have kl:=Zf2 l
   have kr:=Zf2 r
   have il:=ihl hnl hl0
   have ir:=ihr hnr hr0
   by_cases h6:a.kind=6
   · have h4:Zk l+Zk r=4:=by
       refine Classical.byContradiction fun h=>hb (Or.inr (Or.inr ⟨h6,h⟩))
     rw[if_pos h6,if_neg (show ¬Zk l+Zk r=2 by omega)]
     split
     · rw[ir];simp;omega
     · rw[il];simp;omega
   · rw[if_neg h6,ZnI,il,ir]
     split
     · simp;omega
     · simp;omega
theorem Zda:∀x:List UInt8,Op.bytesLess x x=false
 | []=>rfl
 | a :: x => by
   have h:¬a<a:=UInt8.lt_irrefl a
   simp[Op.bytesLess,Zda x,h]
theorem Zdy:∀x y z:List UInt8,Op.bytesLess x y=true->Op.bytesLess y z=true->Op.bytesLess x z=true
 | x,y,[],_,h=>by cases y <;> simp[Op.bytesLess]at h
 | x,[],c::z,h,_=>by cases x <;> simp[Op.bytesLess]at h
 | [],b::y,c::z,_,_=>rfl
 | a :: x, b :: y, c :: z, h1, h2 => by
   simp only[Op.bytesLess,Bool.or_eq_true,decide_eq_true_eq,Bool.and_eq_true,beq_iff_eq]at h1 h2 ⊢
   rcases h1 with h1|⟨rfl,h1⟩
   · rcases h2 with h2|⟨rfl,h2⟩
     · exact Or.inl (UInt8.lt_trans h1 h2)
     · exact Or.inl h1
   · rcases h2 with h2|⟨rfl,h2⟩
     · exact Or.inl h2
     · exact Or.inr ⟨rfl,Zdy x y z h1 h2⟩
theorem Zdz:∀x y:List UInt8,Op.bytesLess x y=false->Op.bytesLess y x=false->x=y
 | [],[],_,_=>rfl
 | [],b::y,h,_=>by simp[Op.bytesLess]at h
 | a::x,[],_,h=>by simp[Op.bytesLess]at h
 | a :: x, b :: y, h1, h2 => by
   simp only[Op.bytesLess,Bool.or_eq_false_iff,decide_eq_false_iff_not,Bool.and_eq_false_iff,beq_eq_false_iff_ne]at h1 h2
   have hab:a=b:=by
     have k1:¬a.toNat<b.toNat:=fun h=>h1.1 (UInt8.lt_iff_toNat_lt.2 h)
     have k2:¬b.toNat<a.toNat:=fun h=>h2.1 (UInt8.lt_iff_toNat_lt.2 h)
     exact UInt8.toNat_inj.1 (by omega)
   subst hab
   have e:=Zdz x y (h1.2.resolve_left (fun h=>h rfl)) (h2.2.resolve_left (fun h=>h rfl))
   rw[e]
def lt1(a b:El):Prop:=Op.bytesLess (wrt a.1) (wrt b.1)=true
def Srt(l:List El):Prop:=l.Pairwise lt1
theorem ZiZ(l:List El)(x z:El):z∈Zb3 l x ↔ z=x∨z∈l:=by
 induction l with
 | nil=>simp[Zb3]
 | cons y l ih=>
  rw[Zb3]
  split
  ·simp
  ·rw[List.mem_cons,ih,List.mem_cons]
   constructor
   ·rintro(h|h|h)
    ·exact Or.inr (Or.inl h)
    ·exact Or.inl h
    ·exact Or.inr (Or.inr h)
   ·rintro(h|h|h)
    ·exact Or.inr (Or.inl h)
    ·exact Or.inl h
    ·exact Or.inr (Or.inr h)
theorem Zth(l:List El)(x:El):(Zb3 l x).length=l.length+1:=by
 induction l with
 | nil=>rfl
 | cons y l ih=>
  rw[Zb3]
  split
  ·rfl
  ·rw[List.length_cons,ih,List.length_cons]
theorem Zti(l:List El)(x:El)(h:Srt l)(hx:∀y∈l,wrt y.1≠wrt x.1):Srt (Zb3 l x):=by
 induction l with
 | nil=>exact List.pairwise_singleton _ _
 | cons y l ih=>
  obtain⟨h1,h2⟩:=List.pairwise_cons.1 h
  rw[Zb3]
  split
  ·rename_i hlt
   refine List.pairwise_cons.2 ⟨fun z hz=>?_,h⟩
   rcases List.mem_cons.1 hz with rfl|hz
   ·exact hlt
   ·exact Zdy _ _ _ hlt (h1 z hz)
  ·rename_i hlt
   refine List.pairwise_cons.2 ⟨fun z hz=>?_,ih h2 (fun y hy=>hx y (List.mem_cons_of_mem _ hy))⟩
   rcases(ZiZ l x z).1 hz with rfl|hz
   ·unfold lt1
    cases h3:Op.bytesLess (wrt y.1) (wrt z.1)with
    | true=>rfl
    | false=>exact absurd (Zdz _ _ h3 (Bool.eq_false_iff.2 hlt)) (hx y (List.mem_cons_self ..))
   ·exact h1 z hz
theorem ZfW (L : List El) : ∀ acc : List El, Srt acc -> (L.Pairwise fun a b => wrt a.1 ≠ wrt b.1) -> (∀ y ∈ acc, ∀ x ∈ L, wrt y.1 ≠ wrt x.1) ->
    Srt (L.foldl Zb3 acc)/\(L.foldl Zb3 acc).length=acc.length+L.length/\∀z,z∈L.foldl Zb3 acc ↔ z∈acc∨z∈L:=by
  induction L with
  | nil=>intro acc h _ _;exact⟨h,rfl,by simp⟩
  | cons x L ih=>
    intro acc h hp hd
    obtain⟨h1,h2⟩:=List.pairwise_cons.1 hp
    obtain ⟨k1, k2, k3⟩ := ih (Zb3 acc x) (Zti acc x h (fun y hy => hd y hy x (List.mem_cons_self ..))) h2 (fun y hy z hz => by
      rcases(ZiZ acc x y).1 hy with rfl|hy
      · exact h1 z hz
      · exact hd y hy z (List.mem_cons_of_mem _ hz))
    refine⟨k1,by rw[List.foldl_cons,k2,Zth,List.length_cons];omega,fun z=>?_⟩
    rw[List.foldl_cons,k3,ZiZ,List.mem_cons]
    constructor
    · rintro((h|h)|h)
      · exact Or.inr (Or.inl h)
      · exact Or.inl h
      · exact Or.inr (Or.inr h)
    · rintro(h|h|h)
      · exact Or.inl (Or.inr h)
      · exact Or.inl (Or.inl h)
      · exact Or.inr h
def Dst(st:List Ser):Prop:=st.Pairwise fun s r=>¬(s.name=r.name/\wrt s.labs=wrt r.labs)
def ZdH(st:List Ser)(a:Nd)(op:Option Nat)(size t:Int):List El:=(st.filter fun s=>Zco a s && !(ZbG s.sams size t).isEmpty).map fun s=>(s.labs,oneV op (ZbG s.sams size t))
theorem Zju(st:List Ser)(a:Nd)(op:Option Nat)(size t:Int):Zcr st a op size t=(ZdH st a op size t).foldl Zb3 []:=by
 unfold Zcr ZdH
 generalize([]:List El)=acc
 induction st generalizing acc with
 | nil=>rfl
 | cons s st ih=>
  rw[List.foldl_cons]
  by_cases h:(Zco a s && !(ZbG s.sams size t).isEmpty)=true
  ·rw[if_pos h,List.filter_cons_of_pos (by simpa using h),List.map_cons,List.foldl_cons];exact ih _
  ·rw[if_neg h,List.filter_cons_of_neg (by simpa using h)];exact ih _
theorem ZiY {st : List Ser} (h : Dst st) (a : Nd) (op : Option Nat) (size t : Int) : (ZdH st a op size t).Pairwise fun x y => wrt x.1 ≠ wrt y.1 := by
  unfold ZdH
  rw[List.pairwise_map]
  refine List.Pairwise.imp_of_mem ?_ (h.filter _)
  intro s r hs hr hn he
  have n1:=(List.mem_filter.1 hs).2
  have n2:=(List.mem_filter.1 hr).2
  simp only[Bool.and_eq_true,Zco,decide_eq_true_eq]at n1 n2
  exact hn ⟨n1.1.2.symm.trans n2.1.2,he⟩
def VOk(n:Nat):VV->Prop
 | .sc _=>True
 | .vec l=>Srt l/\l.length<=n
theorem ZhK{st:List Ser}(h:Dst st)(a:Nd)(op:Option Nat)(size t:Int):VOk st.length (.vec (Zcr st a op size t)):=by
 rw[Zju]
 obtain⟨h1,h2,_⟩:=ZfW (ZdH st a op size t) [] List.Pairwise.nil (ZiY h a op size t) (by simp)
 refine⟨h1,?_⟩
 rw[h2]
 unfold ZdH
 rw[List.length_map]
 have:=List.length_filter_le (fun s=>Zco a s && !(ZbG s.sams size t).isEmpty) st
 simpa using this
theorem ZiJ{l:List El}(h:Srt l)(f:El->El)(hf:∀e,(f e).1=e.1):Srt (l.map f):=by
 unfold Srt
 rw[List.pairwise_map]
 exact h.imp (fun {a b} hab=>by unfold lt1 at *;rw[hf,hf];exact hab)
theorem Zpf {y : List El} (h : Srt y) (k : List UInt8) : y.filter (fun f => decide (k = wrt f.1)) = (y.find? fun f => decide (k = wrt f.1)).toList := by
  induction y with
  | nil=>rfl
  | cons e y ih=>
    obtain⟨h1,h2⟩:=List.pairwise_cons.1 h
    by_cases he:k=wrt e.1
    · rw[List.filter_cons_of_pos (by simpa using he),List.find?_cons_of_pos (by simpa using he)]
      have : y.filter (fun f => decide (k = wrt f.1)) = [] := by
        rw[List.filter_eq_nil_iff]
        intro f hf hk
        have h3:=h1 f hf
        unfold lt1 at h3
        rw[<-he,of_decide_eq_true hk,Zda]at h3
        cases h3
      rw[this];rfl
    · rw[List.filter_cons_of_neg (by simpa using he),List.find?_cons_of_neg (by simpa using he)]
      exact ih h2
theorem Zpo {α β : Type} (f : α -> Option β) (l : List α) : l.flatMap (fun a => (f a).toList) = l.filterMap f := by
  induction l with
  | nil=>rfl
  | cons a l ih=>
    rw[List.flatMap_cons,ih,List.filterMap_cons]
    cases f a <;> rfl
def vvF(op:Nat)(y:List El)(e:El):Option El:=(y.find? fun f=>decide (wrt e.1=wrt f.1)).map fun f=>(e.1,twoV op e.2 f.2)
theorem ZjH(op:Nat)(x y:List El)(hy:Srt y):Zdk op (.vec x) (.vec y)=.vec (x.filterMap (vvF op y)):=by
 have h : ∀ e : El, (y.filter fun f => decide (wrt e.1 = wrt f.1)).map (fun f => (e.1, twoV op e.2 f.2)) = (vvF op y e).toList := fun e => by
   rw[Zpf hy]
   unfold vvF
   cases y.find? (fun f=>decide (wrt e.1=wrt f.1)) <;> rfl
 show VV.vec (x.flatMap fun e=>(y.filter fun f=>decide (wrt e.1=wrt f.1)).map fun f=>(e.1,twoV op e.2 f.2))=_
 rw[<-Zpo,funext h]
theorem ZvU(op:Nat)(x y:List El)(hx:Srt x):Srt (x.filterMap (vvF op y)):=by
 unfold Srt
 rw[List.pairwise_filterMap]
 refine hx.imp ?_
 intro a b hab c hc d hd
 unfold vvF at hc hd
 cases h1:y.find? (fun f=>decide (wrt a.1=wrt f.1))with
 | none=>rw[h1]at hc;cases hc
 | some f=>
  cases h2:y.find? (fun f=>decide (wrt b.1=wrt f.1))with
  | none=>rw[h2]at hd;cases hd
  | some g=>
   rw[h1]at hc;rw[h2]at hd
   cases hc;cases hd
   exact hab
theorem ZjG(op n:Nat)(a b:VV)(ha:VOk n a)(hb:VOk n b):VOk n (Zdk op a b):=by
 cases a with
 | sc a=>
  cases b with
  | sc b=>trivial
  | vec y=>exact⟨ZiJ hb.1 _ (fun _=>rfl),by rw[List.length_map];exact hb.2⟩
 | vec x=>
  cases b with
  | sc b=>exact⟨ZiJ ha.1 _ (fun _=>rfl),by rw[List.length_map];exact ha.2⟩
  | vec y=>
   rw[ZjH op x y hb.1]
   exact⟨ZvU op x y ha.1,Nat.le_trans (List.length_filterMap_le _ _) ha.2⟩
theorem ZlF(n:Nat)(a:VV)(ha:VOk n a):VOk n (negV a):=by
 cases a with
 | sc a=>trivial
 | vec x=>exact⟨ZiJ ha.1 _ (fun _=>rfl),by rw[List.length_map];exact ha.2⟩
theorem Ziq (op : Nat) (bs : List (List UInt8)) (all : List El) : ∀ (l pre : List El), ((ZcO op bs all pre l).Pairwise fun x y => wrt x.1 ≠ wrt y.1) /\ (ZcO op bs all pre l).length <= l.length /\ ∀ x ∈ ZcO op bs all pre l, ∀ f ∈ pre, wrt (Zv f.1 bs) ≠ wrt x.1
  | [],pre=>⟨List.Pairwise.nil,Nat.le_refl _,by simp[ZcO]⟩
  | e :: l, pre => by
    obtain⟨h1,h2,h3⟩:=Ziq op bs all l (pre++[e])
    rw[ZcO]
    split
    · refine⟨by simpa using h1,by simp;omega,fun x hx f hf=>h3 x (by simpa using hx) f (List.mem_append_left _ hf)⟩
    · rename_i hn
      refine⟨?_,by simp;omega,?_⟩
      · rw[List.singleton_append,List.pairwise_cons]
        exact⟨fun x hx=>h3 x hx e (by simp),h1⟩
      · intro x hx f hf
        rw[List.singleton_append,List.mem_cons]at hx
        rcases hx with rfl|hx
        · intro he
          exact hn (List.any_eq_true.2 ⟨f,hf,by simpa using he⟩)
        · exact h3 x hx f (List.mem_append_left _ hf)
theorem ZkS(op:Nat)(bs:List (List UInt8))(n:Nat)(l:List El)(h:l.length<=n):VOk n (.vec (ZcP op bs l)):=by
 obtain⟨h1,h2,_⟩:=Ziq op bs l l []
 obtain⟨k1,k2,_⟩:=ZfW (ZcO op bs l [] l) [] List.Pairwise.nil h1 (by simp)
 exact⟨k1,by show(List.foldl Zb3 [] _).length<=n;rw[k2];simp;omega⟩
theorem Zkl{n:Nat}{v:VV}(h:VOk n v):(ZdZ v).length<=n:=by
 cases v with
 | sc _=>exact Nat.zero_le _
 | vec l=>exact h.2
theorem Zhq{st:List Ser}(h:Dst st)(tm:Int):∀t:Tr,VOk st.length (sayT st tm t)
 | .nil=>⟨List.Pairwise.nil,Nat.zero_le _⟩
 | .node x y a l r => by
   have il:=Zhq h tm l
   have ir:=Zhq h tm r
   unfold sayT
   split
   · trivial
   split
   · exact ZhK h a _ _ _
   split
   · exact ZhK h a _ _ _
   split
   · exact ZlF _ _ il
   split
   · exact ZkS _ _ _ _ (Zkl il)
   split
   · split
     · exact ir
     · exact il
   · exact ZjG _ _ _ _ il ir
end Go.Proofs.YtkodhpilkaihjaaGreatDoor
namespace Go.Proofs.YtkodhpilkaihjaaGreatDoor.LS
open Go Go.RowKit
theorem ZgZ (c : UInt8) (l : List UInt8) : Lib.index l [c] = match seek c l with | none => -1 | some i => (i : Int) := by
  induction l with
  | nil=>rfl
  | cons b l ih=>
    unfold Lib.index seek
    by_cases hb:b=c
    · subst hb;simp[List.isPrefixOf]
    · have h1:[c].isPrefixOf (b::l)=false:=by simp[List.isPrefixOf,Ne.symm hb]
      have h2:(b == c)=false:=by simp[hb]
      rw[if_neg (by simp[h1]),ih,h2]
      cases seek c l with
      | none=>rfl
      | some i=>
        have h3:¬(((i:Int) == -1)=true):=by simp
        simp only[Bool.false_eq_true,if_false,Option.map_some]
        rw[if_neg h3];rfl
theorem Zrx{c:UInt8}{l x y:List UInt8}(h:cut c l=some (x,y)):Lib.cut l [c]=(x,y,true):=by
 unfold cut at h
 cases hs:seek c l with
 | none=>rw[hs]at h;cases h
 | some i=>
  rw[hs]at h
  simp only[Option.map_some,Option.some.injEq,Prod.mk.injEq]at h
  unfold Lib.cut
  rw[ZgZ,hs]
  simp only[List.length_singleton,Int.toNat_natCast]
  rw[if_pos (by omega),h.1,h.2]
theorem Zrw{c:UInt8}{l:List UInt8}(h:cut c l=none):Lib.cut l [c]=(l,[],false):=by
 unfold cut at h
 cases hs:seek c l with
 | some i=>rw[hs]at h;cases h
 | none=>
  unfold Lib.cut
  rw[ZgZ,hs]
  rfl
theorem Zdb{c:UInt8}{l x y:List UInt8}(h:cut c l=some (x,y)):l=x++c::y/\c∉x:=by
 unfold cut at h
 cases hs:seek c l with
 | none=>rw[hs]at h;cases h
 | some i=>
  rw[hs]at h
  simp only[Option.map_some,Option.some.injEq,Prod.mk.injEq]at h
  obtain⟨a,b,rfl,rfl,hn⟩:=Zge hs
  have e1:x=a:=by rw[<-h.1];simp
  have e2:y=b:=by rw[<-h.2];simp
  subst e1;subst e2
  exact⟨rfl,hn⟩
theorem Zj9{c:UInt8}{x y:List UInt8}(h:c∉x):cut c (x++c::y)=some (x,y):=by
 unfold cut;rw[Zgd c x y h];simp
theorem ZmF(c:UInt8):∀(n:Nat) (l:List UInt8),l.length<=n->Lib.splitK [c] 0 (Lib.count l [c]) l=split c l:=by
 intro n
 induction n with
 | zero=>
  intro l hl
  obtain rfl:l=[]:=List.length_eq_zero_iff.1 (by omega)
  rw[Lib.count_miss rfl];rfl
 | succ n ih=>
  intro l hl
  cases hs:seek c l with
  | none=>
   rw[Lib.count_miss (by rw[ZgZ,hs])]
   have hn:=(Zi9 c l).1 hs
   have:=Zht c l [] hn
   rw[List.append_nil]at this
   rw[this];simp[Lib.splitK,split,pre]
  | some i=>
   obtain⟨a,b,rfl,rfl,hn⟩:=Zge hs
   have hi:Lib.index (a++c::b) [c]=(a.length:Int):=by rw[ZgZ,hs]
   rw[Lib.count_hit (by simp) hi]
   have e1:(a++c::b).drop (a.length + [c].length)=b:=by simp
   rw[e1,Nat.add_comm,Lib.splitK,if_neg (by rw[hi];simp),hi]
   rw[show((a.length:Int)).toNat=a.length by omega,e1,ih b (by simp at hl;omega),Zht c a _ hn,Zgg]
   simp[pre]
def Zbk(c:UInt8):List UInt8->List UInt8×Bool
 | []=>([],false)
 | b::t=>if b == c then (t,true)else (b::t,false)
theorem Zry(c:UInt8)(l:List UInt8):(Lib.trimPrefix l [c],Lib.hasPrefix l [c])=Zbk c l:=by
 cases l with
 | nil=>rfl
 | cons b t=>
  by_cases hb:b=c
  ·subst hb;simp[Lib.trimPrefix,Lib.hasPrefix,Zbk]
  ·have h1:[c].isPrefixOf (b::t)=false:=by simp[List.isPrefixOf,Ne.symm hb]
   simp[Lib.trimPrefix,Lib.hasPrefix,Zbk,hb,h1]
theorem Zjm(c:UInt8)(l:List UInt8):(Zbk c l).1.length<=l.length:=by
 cases l with
 | nil=>simp[Zbk]
 | cons b t=>by_cases h:(b == c)=true <;> simp[Zbk,h]
def Zcp(d:List UInt8):Bool:=match ZE 1000000000 (Zbk 45 d).1 with
 | none=>false
 | some v=>!((Zbk 45 d).2 && v == 0)
def ZcT(t:List UInt8):Option Nat:=match cut 58 t with
 | none=>none
 | some (a, d) => match ZE 1000000 a with
   | none=>none
   | some tm=>if Zcp d then some tm else none
def ZbM:Int->Nat->List (List UInt8)->Option Nat
 | _,n,[]=>some n
 | last, n, x :: xs => match ZcT x with
   | none=>none
   | some t=>if (t:Int)<=last then none else ZbM t (n+1) xs
def Zb4(l:List UInt8):Option Nat:=match Zbk 32 l with
 | (r,f)=>if l=[] then some 0 else if f then ZbM (-1) 0 (split 32 r)else none
def leS(a b:List UInt8):Bool:=Op.bytesLess a b || a == b
def ZdF(last:List UInt8)(x:List UInt8):Option (List UInt8×List UInt8):=match cut 61 x with
 | none=>none
 | some (n,v)=>if ZC n && Z7 v && !v.isEmpty && !leS n last then some (n,v)else none
def Zby:List UInt8->List (List UInt8×List UInt8)->List (List UInt8)->Option (List (List UInt8×List UInt8))
 | _,acc,[]=>some acc
 | last, acc, x :: xs => match ZdF last x with
   | none=>none
   | some p=>Zby p.1 (acc++[p]) xs
def ZbS(l:List UInt8):Option (List (List UInt8×List UInt8)):=if l=[] then some [] else Zby [] [] (split 44 l)
def line(l:List UInt8):Option (List UInt8×List UInt8×Nat):=match cut 123 l with
 | none=>none
 | some (name, rest) => match cut 125 rest with
   | none=>none
   | some (inside,behind)=>if ZC name && (ZbS inside).isSome then (Zb4 behind).map (fun n=>(name,inside,n))else none
theorem Zhb{l:List UInt8}(h:cut 123 l=none):line l=none:=by unfold line;rw[h]
theorem Zha{l name rest:List UInt8}(h:cut 123 l=some (name,rest))(h2:cut 125 rest=none):line l=none:=by unfold line;rw[h];simp only[h2]
theorem Zhc{l name rest inside behind:List UInt8}(h:cut 123 l=some (name,rest))(h2:cut 125 rest=some (inside,behind)) :
  line l=if ZC name && (ZbS inside).isSome then (Zb4 behind).map (fun n=>(name,inside,n))else none:=by unfold line;rw[h];simp only[h2]
structure Entry where
 at_:Nat
 name:List UInt8
 inside:List UInt8
 count:Nat
def Z3:Nat->List Entry->List (List UInt8)->Nat ⊕ List Entry
 | _,acc,[]=>.inr acc
 | i, acc, x :: xs => if x = [] then Z3 (i + 1) acc xs else match line x with
   | none=>.inl i
   | some (a,b,n)=>Z3 (i+1) (acc++[⟨i,a,b,n⟩]) xs
theorem ZrG{i:Nat}{acc:List Entry}{ps:List (List UInt8)}(hk:i<ps.length)(h:ps.getD i []=[]):Z3 i acc (ps.drop i)=Z3 (i+1) acc (ps.drop (i+1)):=by
 have e:ps.getD i []=ps[i]:=by simp[hk]
 rw[List.drop_eq_getElem_cons hk,Z3,<-e,if_pos h]
theorem ZrE{i:Nat}{acc:List Entry}{ps:List (List UInt8)}(hk:i<ps.length)(h:ps.getD i []≠[])(hl:line (ps.getD i [])=none):Z3 i acc (ps.drop i)=.inl i:=by
 have e:ps.getD i []=ps[i]:=by simp[hk]
 rw[List.drop_eq_getElem_cons hk,Z3,<-e,if_neg h,hl]
theorem ZrF{i:Nat}{acc:List Entry}{ps:List (List UInt8)}(hk:i<ps.length)(h:ps.getD i []≠[]){a b:List UInt8}{n:Nat}(hl:line (ps.getD i [])=some (a,b,n)) :
  Z3 i acc (ps.drop i)=Z3 (i+1) (acc++[⟨i,a,b,n⟩]) (ps.drop (i+1)):=by
 have e:ps.getD i []=ps[i]:=by simp[hk]
 rw[List.drop_eq_getElem_cons hk,Z3,<-e,if_neg h,hl]
theorem ZrH{i:Nat}{acc:List Entry}{ps:List (List UInt8)}(hk:¬i<ps.length):Z3 i acc (ps.drop i)=.inr acc:=by
 rw[List.drop_of_length_le (by omega)];rfl
end Go.Proofs.YtkodhpilkaihjaaGreatDoor.LS
namespace Go.Proofs.YtkodhpilkaihjaaGreatDoor
open Go.RowKit LS
theorem Zj8{c:UInt8}{s:ByteArray}{x y:List UInt8}(m:Int)(w:World)(hs:s.size<=70000)(hm:w.cell? ⟨14,0,none⟩=some (.int .i64 m))(h:cut c (bl s)=some (x,y)) :
  Calls Tryz.prog 91 #[.string s,.string ⟨#[c]⟩] w fun e w'=>∃a b:ByteArray,e=.returned (.tuple #[.string a,.string b,.bool true])/\Hid (bl a=x/\bl b=y)/\∃n,w'=w.drewN n:=by
 refine(Tryz.strings_Cut s ⟨#[c]⟩ m w (by omega) hm).mono ?_
 rintro e w' ⟨rfl,hw⟩
 have e1:Lib.cut s.data.toList (⟨#[c]⟩:ByteArray).data.toList=(x,y,true):=Zrx h
 rw[e1]
 exact⟨_,_,rfl,⟨Zbu x,Zbu y⟩,hw⟩
theorem ZdY{c:UInt8}{s:ByteArray}{x y:List UInt8}(m:Int)(w:World)(hs:s.size<=6000)(hm:w.cell? ⟨14,0,none⟩=some (.int .i64 m))(h:cut c (bl s)=some (x,y)) :
  Calls Tryz.prog 91 #[.string s,.string ⟨#[c]⟩] w fun e w'=>∃a b:ByteArray,e=.returned (.tuple #[.string a,.string b,.bool true])/\Hid (bl a=x/\bl b=y)/\∃n,w'=w.drewN n:=Zj8 m w (by omega) hm h
theorem Zka{c:UInt8}{s:ByteArray}(m:Int)(w:World)(hs:s.size<=70000)(hm:w.cell? ⟨14,0,none⟩=some (.int .i64 m))(h:cut c (bl s)=none) :
  Calls Tryz.prog 91 #[.string s,.string ⟨#[c]⟩] w fun e w'=>∃a b:ByteArray,e=.returned (.tuple #[.string a,.string b,.bool false])/\Hid (bl a=bl s/\bl b=[])/\∃n,w'=w.drewN n:=by
 refine(Tryz.strings_Cut s ⟨#[c]⟩ m w (by omega) hm).mono ?_
 rintro e w' ⟨rfl,hw⟩
 have e1:Lib.cut s.data.toList (⟨#[c]⟩:ByteArray).data.toList=(bl s,[],false):=Zrw h
 rw[e1]
 exact⟨_,_,rfl,⟨Zbu _,Zbu _⟩,hw⟩
theorem Zfi{c:UInt8}{s:ByteArray}(m:Int)(w:World)(hs:s.size<=6000)(hm:w.cell? ⟨14,0,none⟩=some (.int .i64 m))(h:cut c (bl s)=none) :
  Calls Tryz.prog 91 #[.string s,.string ⟨#[c]⟩] w fun e w'=>∃a b:ByteArray,e=.returned (.tuple #[.string a,.string b,.bool false])/\Hid (bl a=bl s/\bl b=[])/\∃n,w'=w.drewN n:=Zka m w (by omega) hm h
theorem ZoJ(c:UInt8)(s:ByteArray)(w:World) :
  Calls Tryz.prog 207 #[.string s,.string ⟨#[c]⟩] w fun e w'=>∃a:ByteArray,e=.returned (.tuple #[.string a,.bool (Zbk c (bl s)).2])/\Hid (bl a=(Zbk c (bl s)).1)/\w'=w:=by
 refine(Tryz.strings_CutPrefix s ⟨#[c]⟩ w).mono ?_
 rintro e w' ⟨rfl,hw⟩
 have e1:=Zry c (bl s)
 rw[<-e1]
 exact⟨_,rfl,Zbu _,hw⟩
def ZeN(w:World)(g:Nat)(ps:List (List UInt8)):Prop:=g<w.heap.size/\∀i,i<ps.length->∃s:ByteArray,w.cell? ⟨g,i,none⟩=some (.string s)/\bl s=ps.getD i []
theorem ZeN.below{w w':World}{g:Nat}{ps:List (List UInt8)}{B:Nat}(h:ZeN w g ps)(hb:Below B w w')(hB:g<B):ZeN w' g ps:=
 ⟨Nat.lt_of_lt_of_le h.1 hb.size, fun i hi => by
   obtain⟨s,h1,h2⟩:=h.2 i hi
   exact⟨s,(hb.cell (p:=⟨g,i,none⟩) hB).trans h1,h2⟩⟩
theorem ZuT(c:UInt8)(s:ByteArray)(m:Int)(w:World)(hs:s.size<=70000)(hm:w.cell? ⟨14,0,none⟩=some (.int .i64 m)) :
  Calls Tryz.prog 42 #[.string s,.string ⟨#[c]⟩] w fun e w'=>
   ∃n,e=.returned (.slice (some ⟨w.heap.size,0,none⟩) n n)/\n=(split c (bl s)).length/\ZeN w' w.heap.size (split c (bl s))/\Below w.heap.size w w':=by
 refine(Tryz.strings_Split s ⟨#[c]⟩ m w (by omega) hm (Nat.le_refl 1)).mono ?_
 rintro e w' ⟨rfl,rfl⟩
 have hd:(Lib.splitB ⟨#[c]⟩ 0 (Lib.countB s ⟨#[c]⟩) s).map bl=split c (bl s):=by
  refine(Lib.splitB_data ⟨#[c]⟩ 0 (Lib.countB s ⟨#[c]⟩) s).trans ?_
  exact ZmF c _ (bl s) (Nat.le_refl _)
 have hl:(Lib.splitB ⟨#[c]⟩ 0 (Lib.countB s ⟨#[c]⟩) s).length=Lib.countB s ⟨#[c]⟩+1:=Lib.splitB_all ⟨#[c]⟩ (Nat.le_refl 1) 0 _ s rfl
 have hl2:(split c (bl s)).length=Lib.countB s ⟨#[c]⟩+1:=by rw[<-hd,List.length_map,hl]
 refine⟨_,rfl,hl2.symm,⟨by simp,fun i hi=>?_⟩,Zbal⟩
 have hi2:i<(Lib.splitB ⟨#[c]⟩ 0 (Lib.countB s ⟨#[c]⟩) s).length:=by rw[hl,<-hl2];exact hi
 refine⟨(Lib.splitB ⟨#[c]⟩ 0 (Lib.countB s ⟨#[c]⟩) s)[i],?_,?_⟩
 ·rw[World.cell?_alloc_at _ _ _ _ rfl]
  simp[hi2]
 ·rw[<-hd];simp[hi2]
theorem Zjd(c:UInt8)(s:ByteArray)(m:Int)(w:World)(hs:s.size<=6000)(hm:w.cell? ⟨14,0,none⟩=some (.int .i64 m)) :
  Calls Tryz.prog 42 #[.string s,.string ⟨#[c]⟩] w fun e w'=>
   ∃n,e=.returned (.slice (some ⟨w.heap.size,0,none⟩) n n)/\n=(split c (bl s)).length/\ZeN w' w.heap.size (split c (bl s))/\Below w.heap.size w w':=ZuT c s m w (by omega) hm
theorem ZlL(most:Nat)(l:List UInt8) : -1<=numI most l/\numI most l<=most:=by
 cases h:ZE most l with
 | none=>rw[Zfr h];omega
 | some v=>rw[Zfs h];have:=Zft h;omega
def Zb2:List (Int×Int)->List Value
 | []=>[]
 | x::l=>.int .i64 x.1::.int .i64 x.2::Zb2 l
theorem Zpp(l m:List (Int×Int)):Zb2 (l++m)=Zb2 l++Zb2 m:=by
 induction l with
 | nil=>rfl
 | cons a l ih=>simp[Zb2,ih]
theorem Zpq (l : List (Int × Int)) (j : Nat) : (Zb2 l)[j * 2]? = l[j]?.map (fun x => .int .i64 x.1) /\ (Zb2 l)[j * 2 + 1]? = l[j]?.map (fun x => .int .i64 x.2) := by
  induction l generalizing j with
  | nil=>simp[Zb2]
  | cons r l ih=>
    cases j with
    | zero=>simp[Zb2]
    | succ j=>
      obtain⟨h1,h2⟩:=ih j
      refine⟨?_,?_⟩
      · rw[show(j+1)*2=j*2+1+1 by omega];simpa [Zb2] using h1
      · rw[show(j+1)*2+1=j*2+1+1+1 by omega];simpa [Zb2] using h2
def smOk(x:Int×Int):Prop:=-1000000<=x.1/\x.1<=1000000/\-1000000000<=x.2/\x.2<=1000000000
def valI(d:List UInt8):Int:=match Zbk 45 d with
 | (d',less)=>if less then -(numI 1000000000 d')else numI 1000000000 d'
def smV(x:List UInt8):Int×Int:=match cut 58 x with
 | none=>(0,0)
 | some (a,d)=>(numI 1000000 a,valI d)
def ZdJ:List UInt8->List (Int×Int)
 | []=>[]
 | _::t=>(split 32 t).map smV
theorem ZuI(x:List UInt8):smOk (smV x):=by
 unfold smV
 split
 ·unfold smOk;decide
 ·rename_i a d _
  have h1:=ZlL 1000000 a
  unfold valI
  cases hd:Zbk 45 d with
  | mk d' less=>
   have h2:=ZlL 1000000000 d'
   unfold smOk
   cases less
   ·simp only[Bool.false_eq_true,if_false];omega
   ·simp only[if_true];omega
theorem Zpr{l:List (List UInt8)}{k:Nat}(hk:k<l.length){x:List UInt8}(hx:x=l.getD k []){t v:Int}(hs:smV x=(t,v)):Zb2 ((l.map smV).take (k+1))=Zb2 ((l.map smV).take k)++[.int .i64 t,.int .i64 v]:=by
 have e:l[k]=x:=by rw[hx,List.getD_eq_getElem?_getD,List.getElem?_eq_getElem hk];rfl
 rw[<-List.map_take,<-List.map_take,List.take_succ_eq_append_getElem hk,List.map_append,Zpp,List.map_singleton,e,hs]
 rfl
def ZcU(l:List UInt8):List (Int×Int):=match LS.seek 125 l with
 | some b=>ZdJ (l.drop (b+1))
 | none=>[]
theorem Zms{l x r y z:List UInt8}(hn:ZC x=true)(h1:cut 123 l=some (x,r))(h2:cut 125 r=some (y,z)):ZcU l=ZdJ z:=by
 obtain⟨e1,n1⟩:=Zdb h1
 obtain⟨e2,n2⟩:=Zdb h2
 have hx:(125:UInt8)∉x:=by
  intro hm
  unfold ZC at hn
  rw[Bool.and_eq_true]at hn
  have:=List.all_eq_true.1 hn.1 _ hm
  exact absurd this (by decide)
 have hl:l=(x++123::y)++125::z:=by rw[e1,e2];simp
 have hs:LS.seek 125 l=some (x++123::y).length:=by
  rw[hl]
  refine Zgd 125 _ z ?_
  rw[List.mem_append,List.mem_cons]
  rintro(h|h|h)
  ·exact hx h
  ·exact absurd h (by decide)
  ·exact n2 h
 unfold ZcU
 rw[hs,hl]
 simp only
 congr 1
 rw[show(x++123::y)++125::z=((x++123::y)++[125])++z by simp,List.drop_append_of_le_length (by simp;omega),List.drop_of_length_le (by simp;omega)]
 rfl
end Go.Proofs.YtkodhpilkaihjaaGreatDoor
