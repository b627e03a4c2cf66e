/- Parts. -/
import Derived.Test.YtcdgkkfipdoeeaaGreatDoorU08
set_option linter.all false
set_option maxRecDepth 100000
set_option maxHeartbeats 16000000
namespace Go.Proofs.YtcdgkkfipdoeeaaGreatDoor
open Go.RowKit LS Go.Proofs.Tryz
variable {es:Array MapEntry}{tm:Int}{ms ns:List (LB)}{gs:List (Nat×Value)}{l sl:List (Option Int)}{c vs xs:List Value}{a base clock j k mb n s sc sn sz x:Nat}{S:Nat->Prop}{sa:Option Addr}{p:UInt8->Bool}{gr st v:Value}{w w':World}
section
attribute [local go_sem] ZhB ZkO ZkP ZkN ZkQ ZiT ZhA Zhz ZkL ZkK ZkM ZiS ZgB ZgA ZgC ZkR ZkS ZiU Zhx Zhw Zhy Zhv ZkJ ZiR ZhJ ZhI ZhK ZhH ZhL ZiV ZhE ZhD ZhF ZhC ZhG ZgD
def KR(tp:Addr)(t:Tr)(kd:Int)(err:Value):Prop:=(Zf t=0/\err=.iface 432 (.pointer (some tp)))∨(Zf t=1/\kd=0/\err=.nilIface)∨(Zf t=2/\kd=1/\err=.nilIface)
def Zgy(w:World)(tp:Addr):Prop:=w.cell? ⟨3,0,none⟩=some (.iface 432 (.pointer (some tp)))
theorem Zgy.below{tp:Addr}(h:Zgy w tp)(a:BW w w'):Zgy w' tp:=(a.cell (World.block_lt_of_cell? _ _ h)).trans h
def KC(t:Tr):Prop:=∀(w:World) (v:Value) (tp:Addr),Zh w t v->Zgy w tp->
 CP 31 #[v] w fun e w'=>∃(kd:Int) (err:Value),e=.returned (.tuple #[Vi kd,err])/\Hid (KR tp t kd err)/\BW w w'
theorem ZED{t:Tr}(h:KC t)(w:World)(v:Value)(tp:Addr)(f:Zh w t v)(g:Zgy w tp) :
  CP 55 #[v] w fun e l=>∃err:Value,e=.returned err/\Hid ((Zf t=2/\err=.nilIface)∨(Zf t≠2/\err=.iface 432 (.pointer (some tp))))/\BW w l:=by
 have k:=hid (h w v _ f g);have m:=hid g;obtain⟨ty,u,rfl⟩:=Zh.shape f;clear h f g;go_enter func55,ntmps55
 go_wp2_with fail
 refine k.mono ?_;rintro e n ⟨kd,err,rfl,d,i⟩;have j:=hid i;have o:n.cell? _=some _:=m.below i;clear i k;rcases d.out with ⟨a,rfl⟩|⟨a,rfl,rfl⟩|⟨a,rfl,rfl⟩
 ·have c:=hid a;clear d a;go_wp2;go_ret;exact⟨_,rfl,.inr ⟨by rw[c];decide,rfl⟩,j⟩
 ·have c:=hid a;clear d a;go_wp2;go_ret;exact⟨_,rfl,.inr ⟨by rw[c];decide,rfl⟩,j⟩
 ·have c:=hid a;clear d a;go_wp2;go_ret;exact⟨_,rfl,.inl ⟨c,rfl⟩,j⟩
theorem Zxy{y:Nat}{a:Nd}{l r:Tr}(h:a.jk=4∨a.jk=6):Zf (.node x y a l r)=if Zf l=0∨Zf r=0∨(a.jk=6/\Zf l+Zf r≠4)then 0 else if Zf l+Zf r=2 then 1 else 2:=by
 show(if a.jk=0 then _ else _)=_;rw[if_neg Om,if_neg Om,if_neg Om,if_neg Om]
theorem ZxB{y:Nat}{a:Nd}{l r:Tr}(F:a.jk=4∨a.jk=6)(I:KC l)(J:KC r)(w:World)(vl vr:Value)(tp:Addr)(q:Zh w l vl)(k:Zh w r vr)(E:Zgy w tp) :
  CP 56 #[.agg #[Vi (opNo a),vl,vr]] w fun e u=>∃(kd:Int) (err:Value),e=.returned (.tuple #[Vi kd,err])/\Hid (KR tp (.node x y a l r) kd err)/\BW w u:=by
 obtain⟨tyl,ul,rfl⟩:=Zh.shape q;obtain⟨tyr,ur,rfl⟩:=Zh.shape k;have s:=hid (Zxy (x:=x) (y:=y) (l:=l) (r:=r) F);have R:=hid k;have Q:=hid E;obtain⟨o,p⟩:∃o,o=opNo a:=⟨_,rfl⟩
 have K:(a.jk=6/\((o:Int) == 0)=true)∨(a.jk=4/\((o:Int) == 0)=false):=by
  rcases F with h|h
  ·right
   refine⟨h,?_⟩;rw[beq_eq_false_iff_ne,p];unfold opNo;rw[if_neg Om];omega
  ·left
   refine⟨h,?_⟩;rw[p];unfold opNo;rw[if_pos h];rfl
 rw[<-p];have L:=hid (fun W t=>I W _ _ (q.below t) (E.below t));have M:=hid (fun W t=>J W _ _ (k.below t) (E.below t));clear q k E I J F p;go_enter func56,ntmps56
 go_upto_region 1 with fail
 refine ZP fun T v=>?_;have m:Hid _:=v▸Zbal;have g:Hid (BAt _ _ _ 116):=v▸Go.Deep.blk_alloc_new _ _;clear v;have p0:=g.cell 0;have p1:=g.cell 1;have p2:=g.cell 2;simp only[Zget]at p0 p1 p2
 go_wp2_with fail
 refine(L _ m).mono ?_;rintro e U ⟨kd,err,rfl,A,B⟩;have i:=hid (m.trans (B.mono m.size));have j:=hid (g.below B);clear B m g p0 p1 p2;have p0:=j.cell 0;have p1:=j.cell 1;have p2:=j.cell 2;simp only[Zget]at p0 p1 p2;rcases A.out with ⟨d,rfl⟩|⟨d,rfl,rfl⟩|⟨d,rfl,rfl⟩
 ·have G:Hid (Zf _=0):=hid (by rw[s,if_pos (.inl d)]);clear A d;go_wp2;go_ret2;exact⟨_,_,rfl,.inl ⟨G,rfl⟩,i⟩
 all_goals
  have N:=hid d;clear A d
  go_wp2_with fail
  refine(M _ i).mono ?_;rintro e z ⟨kd2,err2,rfl,C,D⟩;have c:=hid (i.trans (D.mono i.size));have O:=hid (j.below D);have S:z.cell? _=some _:=Q.below c;clear D i j p0 p1 p2;have p0:=O.cell 0;simp only[List.getElem?_cons_zero]at p0;rcases C.out with ⟨f,rfl⟩|⟨f,rfl,rfl⟩|⟨f,rfl,rfl⟩
  ·have G:Hid (Zf _=0):=hid (by rw[s,if_pos (.inr (.inl f))]);clear C f;go_wp2;go_ret2;exact⟨_,_,rfl,.inl ⟨G,rfl⟩,c⟩
  all_goals
   have P:=hid f;clear C f;rcases K with ⟨H,p⟩|⟨H,p⟩
   all_goals
    have n:=hid (show Zf (.node x y a l r)=_ by rw[s.out,N.out,P.out,H]);clear H
    first
     | (go_wp2
        go_ret2;exact⟨_,_,rfl,by first|exact Or.inr (Or.inl ⟨by rw[n.out];rfl,rfl,rfl⟩)|exact Or.inr (Or.inr ⟨by rw[n.out];rfl,rfl,rfl⟩)|exact Or.inl ⟨by rw[n.out];rfl,rfl⟩,c.out⟩)
     | (go_wp2
        go_region
        all_goals
          go_wp2;go_ret2;exact⟨_,_,rfl,Or.inl ⟨by rw[n.out];rfl,rfl⟩,by exact⟨c.os,c.tape,c.output,c.size,c.block⟩⟩)
theorem Zl2:∀t:Tr,KC t
 | .nil=>fun _ _ _ h=>h.elim
 | .node x y a l r => by
   have f:=Zl2 l;have g:=Zl2 r;intro w v tp E k;rcases E with ⟨d,rfl⟩|⟨d,nm,la,ln,lc,rfl,_⟩|⟨d,F,nm,la,ln,lc,rfl,_⟩|⟨d,z,rfl,p⟩|⟨d,F,la,ln,lc,z,rfl,_,_,p⟩|⟨d,z1,z2,rfl,q,s⟩
   · have j:Hid (Zf (.node x y a l r)=1):=by show(if a.jk=0 then _ else _)=_;rw[if_pos d]
     clear f g d k;go_enter func31,ntmps31;go_wp2;go_ret2;exact⟨_,_,rfl,.inr (.inl ⟨j,rfl,rfl⟩),belB⟩
   · have j:Hid (Zf (.node x y a l r)=2):=hid (by show(if a.jk=0 then _ else _)=_;rw[if_neg Om,if_pos (Or.inl d)])
     clear f g d k;go_enter func31,ntmps31;go_wp2;go_ret2;exact⟨_,_,rfl,.inr (.inr ⟨j,rfl,rfl⟩),belB⟩
   · have j:Hid (Zf (.node x y a l r)=2):=hid (by show(if a.jk=0 then _ else _)=_;rw[if_neg Om,if_pos (Or.inr d)])
     clear f g d k;go_enter func31,ntmps31;go_wp2;go_ret2;exact⟨_,_,rfl,.inr (.inr ⟨j,rfl,rfl⟩),belB⟩
   · have j:Hid (Zf (.node x y a l r)=Zf l):=by show(if a.jk=0 then _ else _)=_;rw[if_neg Om,if_neg Om,if_pos d]
     obtain⟨ty,u,rfl⟩:=Zh.shape p;have A:=hid (fun W c=>f W _ _ (p.below c) (k.below c));clear f g d k p;go_enter func31,ntmps31
     go_wp2_with fail
     refine Zm fun W c=>?_;have i:Hid (BW w W):=c▸belB;clear c;refine(A W i).mono ?_;rintro e D ⟨kd,err,rfl,m,n⟩;have o:=hid (i.trans (n.mono i.size));clear n;go_wp2;go_ret2;exact⟨_,_,rfl,by unfold KR;rw[j];exact m,o⟩
   · have j:Hid (Zf (.node x y a l r)=if Zf l=2 then 2 else 0):=by show(if a.jk=0 then _ else _)=_;rw[if_neg Om,if_neg Om,if_neg Om,if_pos d]
     obtain⟨ty,u,rfl⟩:=Zh.shape p;have A:=hid (fun W c=>ZED f W _ _ (p.below c) (k.below c));clear f g d k p;go_enter func31,ntmps31
     go_wp2_with fail
     refine Zm fun W c=>?_;have i:Hid (BW w W):=c▸belB;clear c;refine(A W i).mono ?_;rintro e D ⟨err,rfl,m,n⟩;have o:=hid (i.trans (n.mono i.size));clear n;go_wp2;go_ret2;refine⟨_,_,rfl,?_,o⟩;rcases m.out with ⟨B,C⟩|⟨B,C⟩
     · exact .inr (.inr ⟨by rw[j,if_pos B],rfl,C⟩)
     · exact .inl ⟨by rw[j,if_neg B],C⟩
   · obtain⟨ty,u,rfl⟩:=Zh.shape q
     obtain⟨ty2,u2,rfl⟩:=Zh.shape s;have A:Hid (∀W,Below _ w W->Calls _ _ _ W fun e G=>∃(kd:Int) (err:Value),e=.returned _/\Hid (KR _ (.node x y a l r) _ _)/\Below _ W _):=hid (fun W c=>ZxB d f g W _ _ _ (q.below c) (s.below c) (k.below c));clear f g d k q s;go_enter func31,ntmps31
     go_wp2_with fail
     refine Zm fun W c=>?_;have i:Hid (BW w W):=c▸belB;clear c;refine(A W i).mono ?_;rintro e D ⟨kd,err,rfl,m,n⟩;have o:=hid (i.trans (n.mono i.size));clear n;go_wp2;go_ret2;exact⟨_,_,rfl,m,o⟩
end
section
theorem Zj5(s:BA)(k:Nat)(h:k<s.size)(a:p s[k]=true):run p ((bl s).drop k)=run p ((bl s).drop (k+1))+1:=by
 rw[ZdW s k h,run,if_pos a]
theorem ZrY(s:BA)(k:Nat)(h:k<s.size)(a:p s[k]=false):run p ((bl s).drop k)=0:=by
 rw[ZdW s k h,run,if_neg (a▸Bool.false_ne_true)]
theorem ZrU(s:BA)(k:Nat)(h:¬k<s.size):run p ((bl s).drop k)=0:=by
 rw[List.drop_of_length_le (by rw[Zd];omega)];rfl
theorem ZBB(s:BA)(k:Nat)(w:World)(l:s.size<=6000)(h:k<=s.size) :
  CP 45 #[.string s,Vi k,.func (.func 44) #[] #[]] w fun e u=>e=.returned (Vi ((k+run ZC ((bl s).drop k):Nat):Int))/\u=w:=by
 obtain⟨E,c⟩:∃E,E=k+run ZC ((bl s).drop k):=⟨_,rfl⟩
 rw[<-c];have f:=hid c;clear c;go_enter func45,ntmps45;go_wp2
 go_loop [1] (fun i=>∃j:Nat,j<=s.size/\i=Vi j/\Hid (E=j+run ZC ((bl s).drop j))) (fun i=>s.size - (intOf i).toNat)
 case atStart=>exact⟨k,h,rfl,f⟩
 case round=>
  obtain⟨j,m,rfl,d⟩:=hrel;clear f;by_cases g:j<s.size
  ·cases hd:ZC s[j]
   ·have a:Hid (E=j):=by rw[d,ZrY s j _ hd];rfl
    go_wp2_with (go_at_call 44;refine(Zdk _ _).mono ?_;rintro e u ⟨rfl,rfl⟩)
    go_ret;exact⟨by rw[a];rfl,rfl⟩
   ·have a:Hid (E=(j+1)+run ZC ((bl s).drop (j+1))):=hid (by rw[d,Zj5 s j _ hd];omega)
    go_wp2_with (go_at_call 44;refine(Zdk _ _).mono ?_;rintro e u ⟨rfl,rfl⟩)
    go_round
    case rel=>exact⟨j+1,by omega,by go_num,a⟩
    case measure=>simp[intOf];omega
  ·have a:Hid (E=j):=by rw[d,ZrU s j g];rfl
   go_wp2;go_ret;exact⟨by rw[a];rfl,rfl⟩
theorem ZBD(s:BA)(k:Nat)(w:World)(l:s.size<=6000)(h:k<=s.size) :
  CP 45 #[.string s,Vi k,.func (.func 47) #[] #[]] w fun e u=>e=.returned (Vi ((k+run Zp ((bl s).drop k):Nat):Int))/\u=w:=by
 obtain⟨E,c⟩:∃E,E=k+run Zp ((bl s).drop k):=⟨_,rfl⟩
 rw[<-c];have f:=hid c;clear c;go_enter func45,ntmps45;go_wp2
 go_loop [1] (fun i=>∃j:Nat,j<=s.size/\i=Vi j/\Hid (E=j+run Zp ((bl s).drop j))) (fun i=>s.size - (intOf i).toNat)
 case atStart=>exact⟨k,h,rfl,f⟩
 case round=>
  obtain⟨j,m,rfl,d⟩:=hrel;clear f;by_cases g:j<s.size
  ·cases hd:Zp s[j]
   ·have a:Hid (E=j):=by rw[d,ZrY s j _ hd];rfl
    go_wp2_with (go_at_call 47;refine(Zd2 _ _).mono ?_;rintro e u ⟨rfl,rfl⟩)
    go_ret;exact⟨by rw[a];rfl,rfl⟩
   ·have a:Hid (E=(j+1)+run Zp ((bl s).drop (j+1))):=hid (by rw[d,Zj5 s j _ hd];omega)
    go_wp2_with (go_at_call 47;refine(Zd2 _ _).mono ?_;rintro e u ⟨rfl,rfl⟩)
    go_round
    case rel=>exact⟨j+1,by omega,by go_num,a⟩
    case measure=>simp[intOf];omega
  ·have a:Hid (E=j):=by rw[d,ZrU s j g];rfl
   go_wp2;go_ret;exact⟨by rw[a];rfl,rfl⟩
theorem Zqi(h:∀z,z∈ns ↔ z∈ms)(l:List Lab):ZB l ns=ZB l ms:=by
 unfold ZB;refine List.filter_congr (fun p _=>?_);rw[Bool.eq_iff_iff,List.contains_iff_mem,List.contains_iff_mem];exact h _
theorem ZpH(h:∀z,z∈ns ↔ z∈ms)(op:Nat)(all:List El):∀(l pre:List El),ZcF op ns all pre l=ZcF op ms all pre l
 | [],_=>rfl
 | e :: l, pre => by
   rw[ZcF,ZcF,ZpH h _ _ l _];have a:(fun f:El=>ZB _ _)=fun f=>ZB f.1 _:=funext fun f=>Zqi h _;simp only[Zqi h]
theorem ZpJ(h:∀z,z∈ns ↔ z∈ms)(op:Nat)(l:List El):Zcv op ns l=Zcv op ms l:=by unfold Zcv;rw[ZpH h]
theorem Zzt(A:Nat->Addr)(m:Int)(w:World)(a:Vars w A m)(fa:Nat)(c:w.cell? ⟨fa,2,none⟩=some (.iface 432 (.pointer (some (A 8))))) :
  CP 18 #[.iface 81 (Vp fa)] w fun e u=>e=.returned (Vi 9)/\u=w:=by
 have v:=a.all;go_enter func18,ntmps18
 iterate 8 (go_wp2_with fail;refine cret (Zgv a c) ?_)
 go_wp2_with fail
 refine cret (Zf8 _ _ _ c) ?_;go_wp2;go_ret;exact⟨rfl,rfl⟩
theorem ZzB(A:Nat->Addr)(m:Int)(w:World)(a:Vars w A m) :
  CP 18 #[.iface 432 (.pointer (some (A 9)))] w fun e u=>e=.returned (Vi 10)/\u=w:=by
 have v:=a.all;go_enter func18,ntmps18
 iterate 9 (go_wp2_with fail;refine cret (Zg7 a) ?_)
 go_wp2_with fail
 refine cret (Zf7 _ _) ?_;go_wp2;go_ret;exact⟨rfl,rfl⟩
theorem Zzx(A:Nat->Addr)(m:Int)(w:World)(a:Vars w A m)(fa:Nat)(c:w.cell? ⟨fa,2,none⟩=some (.iface 432 (.pointer (some (A 10))))) :
  CP 18 #[.iface 81 (Vp fa)] w fun e u=>e=.returned (Vi 11)/\u=w:=by
 have v:=a.all;go_enter func18,ntmps18
 iterate 10 (go_wp2_with fail;refine cret (Zgv a c) ?_)
 go_wp2_with fail
 refine cret (Zf8 _ _ _ c) ?_;go_wp2;go_ret;exact⟨rfl,rfl⟩
theorem ZzA(A:Nat->Addr)(m:Int)(w:World)(a:Vars w A m)(fa:Nat)(c:w.cell? ⟨fa,2,none⟩=some (.iface 432 (.pointer (some (A 11))))) :
  CP 18 #[.iface 81 (Vp fa)] w fun e u=>e=.returned (Vi 12)/\u=w:=by
 have v:=a.all;go_enter func18,ntmps18
 iterate 11 (go_wp2_with fail;refine cret (Zgv a c) ?_)
 go_wp2_with fail
 refine cret (Zf8 _ _ _ c) ?_;go_wp2;go_ret;exact⟨rfl,rfl⟩
theorem Zzu(A:Nat->Addr)(m:Int)(w:World)(a:Vars w A m) :
  CP 18 #[.iface 432 (.pointer (some (A 12)))] w fun e u=>e=.returned (Vi 13)/\u=w:=by
 have v:=a.all;go_enter func18,ntmps18
 iterate 12 (go_wp2_with fail;refine cret (Zg7 a) ?_)
 go_wp2_with fail
 refine cret (Zf7 _ _) ?_;go_wp2;go_ret;exact⟨rfl,rfl⟩
section
variable {jx:List Nq} {W:Nat->Cq->Cq} {c d e:Cq} {U U' U1 U2:Nat->Bool} {K K1 K2:Nat->Prop} {T:Nat->Nat} {n m x y N:Nat}
def IS(c:Cq)(x:Nat):Prop:=∃s,s<16/\c.jy.getD s none=some (x:Int)
inductive Rch (jx:List Nq) (S:Nat->Prop):Nat->Nat->Prop
 | last {m x:Nat} : ¬S m->x∈Zg (jx.getD m nq0)->Rch jx S m x
 | step {m y x:Nat} : ¬S m->y∈Zg (jx.getD m nq0)->Rch jx S y x->Rch jx S m x
theorem Rch.head(h:Rch jx S m x):¬S m:=by cases h <;> assumption
theorem Rch.gt(a:NOk jx)(h:Rch jx S m x):x<m:=by
 induction h with
 | last _ h=>exact Zcf a _ _ h
 | step _ h _ ih=>exact Nat.lt_trans ih (Zcf a _ _ h)
theorem Rch.mono{S':Nat->Prop}(f:NOk jx)(h:Rch jx S m x):(∀y,x<y->¬S y->Rch jx S y x->¬S' y)->Rch jx S' m x:=by
 induction h with
 | last g a=>exact fun i=>.last (i _ (Zcf f _ _ a) g (.last g a)) a
 | step g a j ih=>exact fun i=>.step (i _ (Nat.lt_trans (j.gt f) (Zcf f _ _ a)) g (.step g a j)) a (ih i)
structure Pt (jx:List Nq) (c:Cq) (U:Nat->Bool) (d:Cq) (U':Nat->Bool) (K:Nat->Prop):Prop where
 sub:∀x,U' x=true->U x=true
 wrk:∀m,¬IS c m->IS d m->K m
 rch:∀x,U' x=true->∀m,K m->¬Rch jx (IS c) m x
 stay:∀x,U' x=true->∀s,c.jy.getD s none=some (x:Int)->d.jy.getD s none=some (x:Int)
theorem Pt.keep(a:NOk jx)(h:Pt jx c U d U' K)(f:U' x=true)(g:Rch jx (IS c) m x):Rch jx (IS d) m x:=
 g.mono a (fun y _ i j hd=>h.rch x f y (h.wrk y i hd) j)
theorem Pt.trans (g : NOk jx) (h : Pt jx c U d U1 K1) (q : Pt jx d U2 e U' K2) : Pt jx c U e (fun x => U1 x && U' x) (fun m => K1 m ∨ K2 m) := by
  refine⟨fun x a=>?_,fun m j k=>?_,fun x a m f i=>?_,fun x a s l=>?_⟩
  · rw[Bool.and_eq_true]at a;exact h.sub x a.1
  · by_cases hd:IS d m
    · exact .inl (h.wrk m j hd)
    · exact .inr (q.wrk m hd k)
  · rw[Bool.and_eq_true]at a
    rcases f with f|f
    · exact h.rch x a.1 m f i
    · exact q.rch x a.2 m f (h.keep g a.1 i)
  · rw[Bool.and_eq_true]at a;exact q.stay x a.2 s (h.stay x a.1 s l)
theorem Pt.same(h:Pt jx c U d U' K)(f:e.jy=d.jy):Pt jx c U e U' K:=
 ⟨h.sub,fun m a g=>h.wrk m a (by unfold IS at *;rw[<-f];exact g),h.rch,fun x i s a=>by rw[f];exact h.stay x i s a⟩
theorem Pt.from_(h:Pt jx c U d U' K)(a:e.jy=c.jy):Pt jx e U d U' K:=by
 have f:IS e=IS c:=by unfold IS;rw[a]
 exact⟨h.sub,fun m g i=>h.wrk m (f▸g) i,f▸h.rch,fun x j s g=>h.stay x j s (by rwa [<-a])⟩
theorem Pt.still(c:Cq)(U:Nat->Bool):Pt jx c U c U (fun _=>False):=⟨fun _ h=>h,fun _ a f=>absurd f a,fun _ _ _ h=>h.elim,fun _ _ _ h=>h⟩
theorem Pt.less(h:Pt jx c U d U' K)(f:∀x,U1 x=true->U' x=true):Pt jx c U d U1 K:=⟨fun x a=>h.sub x (f x a),h.wrk,fun x a=>h.rch x (f x a),fun x a=>h.stay x (f x a)⟩
def Inv(N:Nat)(c:Cq)(U:Nat->Bool):Prop:=c.jy.length=16/\∀x,U x=true->IS c x/\x<N
theorem Pt.inv (h : Pt jx c U d U' K) (f : Inv N c U) (g : d.jy.length = 16) : Inv N d U' := ⟨g, fun x a => by
  obtain⟨⟨s,i,j⟩,k⟩:=f.2 x (h.sub x a);exact⟨⟨s,i,h.stay x a s j⟩,k⟩⟩
def psi(T:Nat->Nat)(U:Nat->Bool):Nat->Nat
 | 0=>0
 | n+1=>psi T U n+if U n=true then T n - 1 else 0
theorem ZjY{V:Nat->Bool} : ∀(N:Nat),(∀x,x<N->U x=V x)->psi T U N=psi T V N
 | 0,_=>rfl
 | N+1,h=>by unfold psi;rw[ZjY N (fun x a=>h x Om),h N Om]
theorem ZmV (a : U x = false) : ∀ (N : Nat), x < N -> psi T (fun z => U z || decide (z = x)) N = psi T U N + (T x - 1)
  | 0,h=>absurd h (Nat.not_lt_zero _)
  | N + 1, h => by
    unfold psi;by_cases e:x=N
    · subst e
      rw[ZjY (V:=U) x (fun z f=>by rw[show decide _=false by simp;omega];simp)];simp[a]
    · rw[ZmV a N Om,show decide _=false by simp;omega]
      simp;omega
theorem ZAX (a : U x = true) (N : Nat) (h : x < N) : psi T (fun z => U z && !decide (z = x)) N + (T x - 1) = psi T U N := by
  rw[<-ZmV (by simp) N h];refine ZjY N (fun z _=>?_);by_cases e:z=x
  · subst e;simp[a]
  · simp[e]
theorem ZmW:∀(N:Nat),(∀x,U x=false)->psi T U N=0
 | 0,_=>rfl
 | N+1,h=>by unfold psi;rw[ZmW N h,h N];rfl
theorem ZCn(h:ZK n l=none)(a:s<16):l.getD s none≠some (n:Int):=by
 unfold ZK at h;rw[List.find?_eq_none]at h;have:=h s (List.mem_range.2 a);simpa using this
theorem IS.of(h:ZK n c.jy=none):¬IS c n:=fun⟨_,a,f⟩=>ZCn h a f
theorem ZCl(h:ZK n c.jy=some s):IS c n:=⟨s,Zha h⟩
def WBd(jx:List Nq)(T:Nat->Nat)(W:Nat->Cq->Cq)(n:Nat):Prop:=∀c U,Inv jx.length c U->¬IS c n->∃U' K,Pt jx c U (W n c) U' K/\K n/\(W n c).jy.length=16/\(W n c).jq.length+psi T U jx.length+2<=c.jq.length+T n+psi T U' jx.length
theorem Pt.kept(h:Pt jx c U d U' K)(i:K n)(j:d.jy.getD s none=none)(f:e.jy=d.jy.set s (some (n:Int))):Pt jx c U e U' K:=by
 refine⟨h.sub,fun m k l=>?_,h.rch,fun x o s' g=>?_⟩
 ·obtain⟨s',p,a⟩:=l;rw[f,Zc0]at a;split at a
  ·injection a with a;have:m=n:=by omega
   rw[this];exact i
  ·exact h.wrk m k ⟨s',p,a⟩
 ·have:=h.stay x o _ g;rw[f,Zc0,if_neg (fun e=>by rw[e.1,j]at this;cases this)];exact this
theorem Zj1(t:WBd jx T W n)(B:4<=T n)(i:Inv jx.length c U):∃U' K,Pt jx c U (putQ jx W n c) U' K/\U' n=false/\(¬IS c n->K n)/\(putQ jx W n c).jy.length=16/\(putQ jx W n c).jq.length+psi T U jx.length<=c.jq.length+T n+psi T U' jx.length:=by
 have hid:Inv _ (decL n c) U:=i;cases g:ZK n c.jy with
 | some s=>
  obtain⟨p,o⟩:=Zha g
  have A : psi T U jx.length + 1 <= T n + psi T (fun z => U z && !decide (z = n)) jx.length := by
    cases j:U n with
    | true=>have:=ZAX (T:=T) j _ (i.2 n j).2;omega
    | false=>
      rw [ZjY (V := fun z => U z && !decide (z = n)) _ (fun z _ => by
        by_cases e:z=n
        · subst e;simp[j]
        · simp[e])]
      omega
  rw[Zd8 g];refine⟨fun z=>U z && !decide (z=n),fun _=>False,?_,by simp,fun h=>absurd (ZCl g) h,?_,?_⟩
  ·have u:∀ {x:Nat} {s':Nat},x≠n->c.jy.getD s' _=some (x:Int)->(c.jy.set s none).getD s' _=some _:=fun f h=>by rwa [Zc0,if_neg (fun e=>by rw[e.1,o]at h;injection h with h;omega)]
   split
   ·refine⟨fun x f=>by simp at f;exact f.1,fun m a k=>?_,fun _ _ _ h=>h.elim,fun x f s' a=>?_⟩
    ·obtain⟨s',r,l⟩:=k;simp only at l;rw[Zc0]at l;split at l
     ·cases l
     ·exact a ⟨s',r,l⟩
    ·simp at f;exact u f.2 a
   ·exact⟨fun x f=>by simp at f;exact f.1,fun m a k=>absurd k a,fun _ _ _ h=>h.elim,fun x _ s' a=>a⟩
  ·split
   ·simp only[List.length_set];exact i.1
   ·exact i.1
  ·split <;> simp only[Zc,decL,List.length_append,List.length_singleton] <;> omega
 | none=>
  obtain⟨U',K,p,o,a,k⟩:=t (decL n c) U hid (IS.of g);have q:=p.from_ (e:=c) rfl
  have v:U' n=false:=by
   cases j:U' n with
   | false=>rfl
   | true=>exact absurd (i.2 n (p.sub n j)).1 (IS.of g)
  have r:(W n _).jq.length+psi T U _+2<=c.jq.length+T n+psi T _ _:=k;rw[ZdR g];refine⟨U',K,?_,v,fun _=>o,?_,?_⟩
  ·split
   ·exact q
   ·split
    ·rename_i s w;exact q.kept o (ZdZ w).2 rfl
    ·exact q
  ·split
   ·exact a
   ·split
    ·simp[Zc,ZZ,a]
    ·exact a
  ·split
   ·omega
   ·split
    ·simp only[Zc,ZZ,List.length_append,List.length_singleton];omega
    ·omega
end
end
section
section
variable {jx:List Nq} {W:Nat->Cq->Cq} {c d e:Cq} {U U' U1 U2:Nat->Bool} {K K1 K2:Nat->Prop} {T:Nat->Nat} {n m x y N:Nat}
theorem Zpn (g : NOk jx) : ∀ (ts : List Nat) (c : Cq) (U : Nat -> Bool), (∀ t ∈ ts, WBd jx T W t /\ 4 <= T t) -> Inv jx.length c U -> ∃ U' K, Pt jx c U (ts.foldl (fun c t => putQ jx W t c) c) U' K /\ (∀ t ∈ ts, U' t = false /\ ∀ x, U' x = true -> ¬ Rch jx (IS c) t x) /\ (ts.foldl (fun c t => putQ jx W t c) c).jy.length = 16 /\ (ts.foldl (fun c t => putQ jx W t c) c).jq.length + psi T U jx.length <= c.jq.length + (ts.map T).sum + psi T U' jx.length
  | [],c,U,_,h=>⟨U,_,Pt.still c U,fun t q=>(by cases q),h.1,by simp⟩
  | t :: ts, c, U, l, h => by
    obtain⟨U1,K1,i,o,r,s,v⟩:=Zj1 (l t (List.mem_cons_self ..)).1 (l t (List.mem_cons_self ..)).2 h;have p:=i.inv h s;obtain⟨U2,K2,q1,q2,q3,q4⟩:=Zpn g ts (putQ jx W t c) U1 (fun z f=>l z (List.mem_cons_of_mem _ f)) p;have a:=q1.sub;rw[List.foldl_cons];refine⟨U2,fun m=>K1 m∨K2 m,(i.trans g q1).less (fun z f=>by rw[a z f,f];rfl),fun z f=>?_,q3,?_⟩
    · rcases List.mem_cons.1 f with e|e
      · subst e
        refine⟨?_,fun x j k=>i.rch x (a x j) z (r k.head) k⟩;cases u:U2 z with
        | false=>rfl
        | true=>rw[a z u]at o;cases o
      · exact⟨(q2 z e).1,fun x j k=>(q2 z e).2 x j (i.keep g (a x j) k)⟩
    · rw[List.map_cons,List.sum_cons];omega
theorem Zoh(i:c.jy=sl):∀(f n:Nat) (k:List Nat) (y:Nat),k.getD y 0<(cntQ jx sl f n k).getD y 0->y=n∨Rch jx (IS c) n y
 | 0,n,k,y,h=>absurd h (Nat.lt_irrefl _)
 | f + 1, n, k, y, h => by
   by_cases e:y=n
   · exact .inl e
   · right
     have j:(bump k n).getD y 0=k.getD y 0:=by unfold bump;rw[Zf2,if_neg (fun h=>e h.1)]
     unfold cntQ at h;simp only at h;split at h
     · rw[j]at h;exact absurd h (Nat.lt_irrefl _)
     · rename_i o
       have a:¬IS c n:=by
         intro p;cases q:ZK n sl with
         | none=>exact IS.of (by rwa [i]) p
         | some s=>exact o (.inl (by rw[q];rfl))
       rw[<-j]at h
       have key : ∀ (ts : List Nat) (k : List Nat), (∀ t ∈ ts, t ∈ Zg (jx.getD n nq0)) -> k.getD y 0 < (ts.foldl (fun k t => cntQ jx sl f t k) k).getD y 0 -> Rch jx (IS c) n y := by
         intro ts
         induction ts with
         | nil=>intro k _ h;exact absurd h (Nat.lt_irrefl _)
         | cons t ts ih=>
           intro k g h;rw[List.foldl_cons]at h;by_cases l:k.getD y 0<(cntQ jx sl f t k).getD y 0
           · rcases Zoh i f t k y l with e1|e1
             · subst e1;exact .last a (g _ (List.mem_cons_self ..))
             · exact .step a (g _ (List.mem_cons_self ..)) e1
           · exact ih _ (fun z r=>g z (List.mem_cons_of_mem _ r)) (Nat.lt_of_le_of_lt (Nat.le_of_not_lt l) h)
       exact key _ _ (fun _ h=>h) h
theorem Zqw{p:Nat->Bool} : ∀(n:Nat),ZbT p n=some x->p x=true
 | 0,h=>by cases h
 | n + 1, h => by
   unfold ZbT at h;split at h
   · injection h with h;rw[<-h];assumption
   · exact Zqw n h
theorem Zsj(h:ZbY jx n c=some x):¬IS c x/\(x=n∨Rch jx (IS c) n x):=by
 unfold ZbY at h;have:=Zqw _ h;unfold ZcX at this;simp only[Bool.and_eq_true,decide_eq_true_eq]at this;obtain⟨⟨⟨a,f⟩,_⟩,_⟩:=this;refine⟨IS.of (by simpa using f),Zoh rfl _ _ _ _ (Nat.lt_of_le_of_lt ?_ a)⟩;rw[List.getD_eq_getElem?_getD,List.getElem?_replicate];split <;> simp
structure Pn (jx:List Nq) (n:Nat) (d:Cq) (O Q:Nat->Bool):Prop where
 apart:∀x,O x=true->Q x=false
 way:∀x,Q x=true->x=n∨Rch jx (IS d) n x
theorem ZtB(g:d.jy.getD s none=none)(z:Nat):IS { d with jy:=d.jy.set s (some (-1)) } z ↔ IS d z:=by
 constructor
 ·rintro⟨s',f,a⟩;simp only at a;rw[Zc0]at a;split at a
  ·injection a with a;omega
  ·exact⟨s',f,a⟩
 ·rintro⟨s',f,a⟩;refine⟨s',f,?_⟩;simp only;rw[Zc0,if_neg (fun e=>by rw[e.1,g]at a;cases a)];exact a
theorem ZnL (i : NOk jx) (M : ∀ z, z <= n -> z < jx.length -> WBd jx T W z /\ 4 <= T z) (R : ∀ z, z <= n -> ∀ c, c.jy.length = 16 -> Low z c (W z c)) (U : Nat -> Bool) (c : Cq) : ∀ (k : Nat) (d : Cq) (O Q : Nat -> Bool) (K : Nat -> Prop), Pt jx c U d O K -> Pn jx n d O Q -> Inv jx.length d (fun x => O x || Q x) -> d.jq.length + psi T U jx.length <= c.jq.length + psi T (fun x => O x || Q x) jx.length -> ∃ O Q K, Pt jx c U (ZG jx W n k d) O K /\ Pn jx n (ZG jx W n k d) O Q /\ Inv jx.length (ZG jx W n k d) (fun x => O x || Q x) /\ (ZG jx W n k d).jq.length + psi T U jx.length <= c.jq.length + psi T (fun x => O x || Q x) jx.length
  | 0,d,O,Q,K,p,l,g,t=>⟨O,Q,K,p,l,g,t⟩
  | k + 1, d, O, Q, K, p, l, g, t => by
    cases u:ZbY jx n d with
    | none=>rw[Zff (.inl u)];exact⟨O,Q,K,p,l,g,t⟩
    | some x=>
      cases D:ZbQ d.jy with
      | none=>rw[Zff (.inr D)];exact⟨O,Q,K,p,l,g,t⟩
      | some s=>
        rw[ZiP u D];obtain⟨E,v⟩:=ZdZ D;obtain⟨w,q⟩:=Zg9 i u;obtain⟨A,S⟩:=Zsj u;have j:IS { d with jy:=d.jy.set s (some (-1)) }=IS d:=funext fun z=>propext (ZtB v z);obtain⟨Z,hT⟩:=M x w q;have F:=R x w { d with jy:=d.jy.set s (some (-1)) } (by simp only[List.length_set];exact g.1);obtain⟨V,K2,p1,p2,p3,p4⟩:=Z { d with jy:=d.jy.set s (some (-1)) } (fun x=>O x || Q x) ⟨by simp only[List.length_set];exact g.1,fun z a=>by rw[j];exact g.2 z a⟩ (by rw[j];exact A);simp only at p4;generalize W x { d with jy:=d.jy.set s (some (-1)) }=e at *
        have G:(ZZ x s e).jy=e.jy.set s _:=rfl;have H:∀s',s'≠s->(ZZ x s e).jy.getD _ _=e.jy.getD _ _:=fun s' I=>by rw[G,Zc0,if_neg (fun h=>I h.1)]
        have r:(ZZ x s e).jy.getD s none=some (x:Int):=by rw[G,Zc0,if_pos ⟨rfl,by rwa [p3]⟩]
        have P : Pt jx d (fun x => O x || Q x) (ZZ x s e) V K2 := by
          refine⟨p1.sub,fun m o h6=>?_,fun z a m hm hr=>p1.rch z a m hm (by rwa [j]),fun z a s' o=>?_⟩
          · obtain⟨s',J,f⟩:=h6
            by_cases es:s'=s
            · subst es
              rw[r]at f;injection f with f;have:m=x:=by omega
              rw[this];exact p2
            · rw[H _ es]at f
              exact p1.wrk m (by rwa [j]) ⟨s',J,f⟩
          · have es:s'≠s:=fun es=>by rw[es,v]at o;cases o
            rw[H _ es];refine p1.stay z a _ ?_;simp only;rw[Zc0,if_neg (fun h=>es h.1)];exact o
        have B:V x=false:=by
          cases L:V x with
          | false=>rfl
          | true=>exact absurd (g.2 x (p1.sub x L)).1 A
        have X:=P.inv g (by rwa [G,List.length_set])
        have C : (fun z => (O z && V z) || ((Q z && V z) || decide (z = x))) = fun z => V z || decide (z = x) := funext fun z => by
          cases L:V z with
          | false=>simp
          | true=>have:=p1.sub z L;simp only[Bool.or_eq_true]at this;rcases this with h|h <;> simp[h]
        have Y:=ZmV (T:=T) B _ q;refine ZnL i M R U c k _ _ (fun z=>(Q z && V z) || decide (z=x)) _ (p.trans i P) ⟨fun z a=>?_,fun z a=>?_⟩ ?_ ?_
        · rw[Bool.and_eq_true]at a
          have e1:z≠x:=fun e=>by rw[e,B]at a;exact absurd a.2 Dc
          simp[l.apart z a.1,e1]
        · rw[Bool.or_eq_true,Bool.and_eq_true,decide_eq_true_eq]at a
          rcases a with a|a
          · rcases l.way z a.1 with e1|e1
            · exact .inl e1
            · exact .inr (P.keep i a.2 e1)
          · rw[a]
            rcases S with e1|e1
            · exact .inl e1
            · refine .inr (e1.mono i (fun y hy I _ o=>?_))
              obtain⟨s',J,f⟩:=o;by_cases es:s'=s
              · subst es;rw[r]at f;injection f with f;omega
              · rw[H _ es]at f
                have:=(F.sl _ y (Nat.le_of_lt hy)).1 f;exact I (j▸⟨s',J,this⟩)
        · rw[C]
          refine⟨X.1,fun z a=>?_⟩;rw[Bool.or_eq_true,decide_eq_true_eq]at a;rcases a with a|a
          · exact X.2 z a
          · rw[a];exact⟨⟨s,E,r⟩,q⟩
        · rw[C,Y]
          have:(ZZ x s e).jq.length=e.jq.length+1:=by simp[ZZ,Zc]
          omega
end
end
section
def Zd6(c n:Int):Int:=if c<0 then -((c+1).tmod n)else c % n
theorem ZmM(c n:Int)(a:1<=n):0<=Zd6 c n/\Zd6 c n<n:=by
 unfold Zd6;split
 ·rw[<-Int.neg_tmod,Int.tmod_eq_emod_of_nonneg Om];exact⟨Int.emod_nonneg _ Om,Int.emod_lt_of_pos _ Om⟩
 ·exact⟨Int.emod_nonneg _ Om,Int.emod_lt_of_pos _ Om⟩
theorem ZAC(c n:Int)(f : -9223372036854775808<=c)(g:c<=9223372036854775807)(a:1<=n)(i:n<=9223372036854775807)(w:World) :
  CP 9 #[Vi c,Vi n] w fun e u=>e=.returned (Vi (Zd6 c n))/\u=w:=by
 have d:=ZmM c n a;have j:¬n=0:=by omega
 go_enter func9,ntmps9;by_cases h:c<0
 ·have e:Zd6 c n=-((c+1).tmod n):=by unfold Zd6;rw[if_pos h]
  rw[e]at d;rw[e];go_wp2;go_ret;exact⟨rfl,rfl⟩
 ·have e:Zd6 c n=c % n:=by unfold Zd6;rw[if_neg h]
  rw[e]at d;rw[e];go_wp2;go_ret;exact⟨rfl,rfl⟩
def ZdL:List (Nat×Nat)->List Value
 | []=>[]
 | x::l=>.int .i64 x.1::.int .i64 x.2::ZdL l
theorem Zwd(l m:List (Nat×Nat)):ZdL (l++m)=ZdL l++ZdL m:=by
 induction l with
 | nil=>rfl
 | cons a l ih=>simp[ZdL,ih]
theorem Zfm(l:List (Nat×Nat))(j:Nat)(a:j<l.length):(ZdL l)[j*2]?=some (Vi l[j].1)/\(ZdL l)[j*2+1]?=some (Vi l[j].2):=by
 induction l generalizing j with
 | nil=>simp at a
 | cons r l ih=>
  cases j with
  | zero=>exact⟨rfl,rfl⟩
  | succ j=>
   have h:=ih j (by simpa using a);rw[show(j+1)*2=j*2+1+1 by omega];simpa [ZdL] using h
def kl(k:Nat):UInt8:=match k with
 | 1=>115
 | 2=>118
 | 3=>114
 | _=>45
theorem BAt.setkM{t:TypeId}(h:BAt w a c t)(i:Nat)(v:Value):BAt (w.setCell ⟨a,i,none⟩ v) a (c.set i v) t:=by
 unfold BAt at h ⊢;simp only[World.setCell,Array.getElem?_modify,h,if_true,Option.map_some];show some (Obj.cells (c.toArray.setIfInBounds i v) t (0,0))=_;rw[List.setIfInBounds_toArray]
theorem BAt.ownGrownR{t:TypeId}(h:BAt w a c t){e:TypeId}(d:w.ownsRow base e sz v n xs)(f:w.grownBy w' v.ownBlock)(g:t≠e):BAt w' a c t:=
 (f.block a h.lt (Zcx d h g)).trans h
theorem Zsy(s:BA)(p n:Nat):bl (s.extract p (p+n))=sub (bl s) p n:=by
 rw[Zfh,List.drop_take];unfold sub;congr 1;omega
structure MKeep (w w':World) (mb:Nat) (st:Value):Prop where
 os:w'.os=w.os
 tape:w'.tape=w.tape
 output:w'.output=w.output
 size:w.heap.size<=w'.heap.size
 block:∀k,k<w.heap.size->k≠mb->some k≠st.ownBlock->w'.heap[k]?=w.heap[k]?
theorem MKeep.below{w0:World}(h:MKeep w w' mb st)(a:BW w0 w)(f:w0.heap.size<=mb)(d:∀k,st.ownBlock=some k->w0.heap.size<=k):BW w0 w':=
 ⟨h.os.trans a.os, h.tape.trans a.tape, h.output.trans a.output, Nat.le_trans a.size h.size, fun k c => by
   rw[h.block k (Nat.lt_of_lt_of_le c a.size) Om (fun e=>by have:=d k e.symm;omega)];exact a.block k c⟩
def pmC(c0 c1 c2 c3 al:Value)(tm:Int)(st sl gr:Value):List Value:=[c0,c1,c2,c3,al,Vi tm,st,sl,gr]
theorem Tryz.infoIVal:(Tryz.prog.info? 196).map (fun i=>(i.zero,i.size,i.bytes))=some (some .nilIface,1,16):=by kernel_rfl
structure PSt (w:World) (base mb:Nat) (c0 c1 c2 c3 al:Value) (tm:Int) (sl gr:Value) (sa:Option Addr) (sn sc:Nat) (vs:List Value):Prop where
 box:BAt w mb (pmC c0 c1 c2 c3 al tm (.slice sa sn sc) sl gr) 305
 own:w.ownsRow base 196 1 (.slice sa sn sc) sn vs
 len:vs.length=sn
theorem PSt.below{c0 c1 c2 c3 al:Value}{sl:Value}(h:PSt w base mb c0 c1 c2 c3 al tm sl gr sa sn sc vs)(a:BW w w'):PSt w' base mb c0 c1 c2 c3 al tm sl gr sa sn sc vs:=⟨h.box.below a,Zn h.own a,h.len⟩
theorem ZzZ{e:TypeId}{g cap:Nat}(h:w.ownsRow base e sz (.slice (some ⟨g,0,none⟩) n cap) n xs)(k:Nat)(c:k<=n):w.ownsRow base e sz (.slice (some ⟨g,0,none⟩) k cap) k (xs.take (k*sz)):=by
 obtain⟨d,a⟩:=h;refine⟨List.length_take▸d▸Nat.min_eq_left (Nat.mul_le_mul_right _ c),?_⟩;rcases a with ⟨a,_⟩|⟨g',cap',cur,f,i,j,p,l,m,o⟩
 ·cases a
 ·injection f with hv1 hv2 hv3;injection hv1 with hv1;injection hv1 with hv1 _ _;subst hv1 hv3;refine .inr ⟨_,_,cur,rfl,i,j,by omega,l,m,?_⟩;rw[<-o,List.take_take,Nat.min_eq_left (Nat.mul_le_mul_right _ c)]
theorem Zfz(w:World)(base mb:Nat)(c0 c1 c2 c3 al:Value)(tm:Int)(sl gr:Value)(sa:Option Addr)(n sc:Nat)(vs:List Value)(v:Value)(h:PSt w base mb c0 c1 c2 c3 al tm sl gr sa (n+1) sc (vs++[v]))(d:n<=64) :
  CP 96 #[Vp mb] w fun e u=>e=.returned v/\Hid (PSt u base mb c0 c1 c2 c3 al tm sl gr sa n sc vs)/\Hid (w.grownBy u (some mb)):=by
 have a:vs.length=n:=by have:=h.len;rw[List.length_append]at this;simpa using this
 obtain⟨g,cp,c⟩:=ZF h.own Om;injection c with hv1 hv2 hv3;subst hv1 hv3;have m6:w.cell? _=some _:=h.box.cell 6;have mf:=h.box.frozen 6;have k0:=Zi h.own n v (by rw[List.getElem?_append_right Om,a];simp);have p:=h.box.lt;have q:=Z1 h.own
 have f:n+1<=sc:=by
  rcases h.own.2 with ⟨i,_⟩|⟨g',cap',cur,c,_,_,d,_⟩
  ·cases i
  ·injection c with _ _ hv3;omega
 have j:Hid (PSt _ _ _ _ _ _ _ _ _ _ _ _ n _ _):=hid ⟨h.box.setkM 6 _,by
  have l : (w.setCell ⟨mb, 6, none⟩ (.slice (some ⟨g, 0, none⟩) n sc)).ownsRow _ _ 1 _ _ _ := ZdA h.own (fun k m => Go.Deep.blk_setCell_other _ _ _ _ (by
    rintro rfl;exact Zcx h.own h.box Dc m.symm))
  have:=ZzZ l n Om;rw[Nat.mul_one,List.take_append_of_le_length Om,List.take_of_length_le Om]at this;exact this,a⟩
 have o:Hid (w.grownBy (w.setCell ⟨mb,6,none⟩ (.slice (some ⟨g,0,none⟩) n sc)) (some mb)):=hid (ZA (ZbM w _) (.inl rfl) _);clear h a;go_enter func96,ntmps96;go_wp2;go_ret;exact⟨rfl,j,o⟩
theorem PSt.app{wr a:World}{c0 c1 c2 c3 al:Value}{sl:Value}(h:PSt wr base mb c0 c1 c2 c3 al tm sl gr sa sn sc vs)(c:BW w wr){ga nc:Nat}
  (d:wr.grownBy a (Value.slice sa sn sc).ownBlock) (g:a.ownsRow base 196 1 (.slice (some ⟨ga,0,none⟩) (sn+1) nc) (sn+1) (vs++[v])) :
  BAt a mb (pmC c0 c1 c2 c3 al tm (.slice sa sn sc) sl gr) 305/\PSt (a.setCell ⟨mb,6,none⟩ (.slice (some ⟨ga,0,none⟩) (sn+1) nc)) base mb c0 c1 c2 c3 al tm sl gr (some ⟨ga,0,none⟩) (sn+1) nc (vs++[v])/\MKeep w (a.setCell ⟨mb,6,none⟩ (.slice (some ⟨ga,0,none⟩) (sn+1) nc)) mb (.slice sa sn sc):=by
 have e:=h.box.ownGrownR h.own d Dc
 refine ⟨e, ⟨e.setkM 6 _, ZdA g (fun k j => Go.Deep.blk_setCell_other _ _ _ _ (by
     rintro rfl;exact Zcx g e Dc j.symm)),by rw[List.length_append,h.len];rfl⟩,?_⟩
 have f:a.grownBy (a.setCell ⟨mb,6,none⟩ (.slice (some ⟨ga,0,none⟩) (sn+1) nc)) (some mb):=ZA (ZbM _ _) (.inl rfl) _;refine⟨f.os.trans (d.os.trans c.os),f.tape.trans (d.tape.trans c.tape),f.output.trans (d.output.trans c.output),Nat.le_trans c.size (Nat.le_trans d.size f.size),fun k i l m=>?_⟩;rw[Go.Deep.blk_setCell_other _ _ _ _ l,d.block k (Nat.lt_of_lt_of_le i c.size) m];exact c.block k i
theorem Zgm(w:World)(base mb:Nat)(c0 c1 c2 c3 al:Value)(tm:Int)(sl gr:Value)(sa:Option Addr)(sn sc:Nat)(vs:List Value)(ty:TypeId)(u:Value)(h:PSt w base mb c0 c1 c2 c3 al tm sl gr sa sn sc vs)(C:sn<=64)(B:base<=w.heap.size) :
  CP 162 #[Vp mb,.iface ty u] w fun e l=>e=.returned (.tuple #[])/\Hid (∃ga nc,PSt l base mb c0 c1 c2 c3 al tm sl gr (some ⟨ga,0,none⟩) (sn+1) nc (vs++[.iface ty u]))/\Hid (MKeep w l mb (.slice sa sn sc)):=by
 obtain⟨i0,x,m,n,p⟩:=info_parts Tryz.infoIVal;have z:=hid h;have d:=h.own;have m6:w.cell? _=some _:=h.box.cell 6;have g:=h.box.lt;have q:Hid (∀o,PSt (w.alloc o) base mb c0 c1 c2 c3 al tm sl gr sa sn sc vs):=hid (fun o=>z.below Zbal);clear h;go_enter func162,ntmps162
 go_wp2_with (at_builtin;refine wpList_append_own _ rfl (.tmp 8) (.tmp 10) 303 rfl base 196 i0 .nilIface 1 16 underlying303 x m n p rfl Dc _ _ _ rfl (d.alloc _) ⟨w.heap.size,0,none⟩ 1 1 [.iface ty u] rfl rfl ?c1 ?c2 ?c3 ?c4 ?c5 ?_)
 (try case c1=>exact cell_one_new _ _ _)
 case c2=>first|rfl|(intro u r;simp at r;subst r;rfl)
 case c3=>unfold maxLen;omega
 case c4=>omega
 case c5=>first|omega|(simp;omega)
 intro v' A a c _;obtain⟨g3,cp3,s⟩:=ZF a Om;subst s;obtain⟨i,j,k⟩:=(q.out _).app (w:=w) Zbal (by exact c) a;have f:=hid i;have t:=hid j;have v:=hid k;clear a c i j k m6 d g;have m6:A.cell? _=some _:=f.cell 6;have mf:=f.frozen 6;have g:=f.lt;go_wp2;exact bodyPost_end (results_none rfl _ _ _) rfl ⟨rfl,hid ⟨_,_,t⟩,v⟩
open Go.ChangeMaps (setBlock)
structure MapI (w:World) (x:Nat) (gs:List (Nat×Value)) (es:Array MapEntry) (clock:Nat):Prop where
 heap:w.heap[x]?=some (.map es clock)
 stm:MapKept.Stamped es clock
 kv:es.toList.map (fun e=>(e.key,e.val))=gs.map (fun g=>(Value.int .i64 g.1,g.2))
 sz:∀g∈gs,g.1<16
theorem wf16(h:j<16):(Lit.int .i64 (j:Int)).wf=true:=by
 rcases(by omega:j=0∨j=1∨j=2∨j=3∨j=4∨j=5∨j=6∨j=7∨j=8∨j=9∨j=10∨j=11∨j=12∨j=13∨j=14∨j=15)with rfl|rfl|rfl|rfl|rfl|rfl|rfl|rfl|rfl|rfl|rfl|rfl|rfl|rfl|rfl|rfl <;> rfl
theorem MapI.len(h:MapI w x gs es clock):es.size=gs.length:=by
 have:=congrArg List.length h.kv;simpa using this
theorem MapI.at(h:MapI w x gs es clock){e:MapEntry}(f:es.toList[j]?=some e):∃c:j<gs.length,e.key=Vi gs[j].1/\e.val=gs[j].2:=by
 have a:(es.toList.map (fun e=>(e.key,e.val)))[j]?=(gs.map (fun g=>(Value.int .i64 g.1,g.2)))[j]?:=by rw[h.kv]
 rw[List.getElem?_map,f,List.getElem?_map]at a
 have c:j<gs.length:=by
  rcases Nat.lt_or_ge j gs.length with d|d
  ·exact d
  ·rw[List.getElem?_eq_none d]at a;cases a
 rw[List.getElem?_eq_getElem c]at a;simp only[Option.map_some,Option.some.injEq,Prod.mk.injEq]at a;exact⟨c,a.1,a.2⟩
theorem MapI.keys   {gs : List (Nat × Value)}   (h : MapI w x gs es clock) : ∀ e ∈ es.toList, ∃ l, keyOf prog 3 e.key = some l := fun e a => by
  obtain⟨j,c⟩:=List.getElem?_of_mem a;obtain⟨f,d,_⟩:=h.at c;rw[d];exact⟨_,Maps.keyOf_int_mk underlying3 (wf16 (h.sz _ (List.getElem_mem _)))⟩
theorem MapI.moved(h:MapI w x gs es clock)(a:w'.heap[x]?=w.heap[x]?):MapI w' x gs es clock:=⟨a.trans h.heap,h.stm,h.kv,h.sz⟩
theorem ZpW{b:Nat}(h:Value.int .i64 (a:Int)=Vi (b:Int)):a=b:=by
 injection h with _ h;omega
theorem MapI.find(h:MapI w x gs es clock)(k:Nat)(v:k<16) :
  ((∀W:World,(Instr.findKey 3 (Vi k) es.toList).run prog W=.ok none W)/\(∀g∈gs,g.1≠k)/\∀e∈es.toList,e.key≠.int .i64 k)∨
  ∃j,∃p:j<gs.length,gs[j].1=k/\(∀i (o:i<gs.length),i≠j->gs[i].1≠k)/\∃e,es.toList[j]?=some e/\e.key=Vi k/\e.val=gs[j].2/\∀W:World,(Instr.findKey 3 (Vi k) es.toList).run prog W=.ok (some (j,e.val)) W:=by
 have K:=Maps.int_keyed (k:=3) underlying3;have c:=Maps.keyOf_int_mk (k:=3) underlying3 (wf16 v);rcases K.find w c _ h.keys with ⟨z,a⟩|⟨j,e,z,a,f⟩
 ·left
  refine⟨fun W=>?_,fun g A n=>?_,a⟩
  ·rcases K.find W c _ h.keys with ⟨k1,_⟩|⟨j,e,k1,k2,k3⟩
   ·exact k1
   ·exact absurd k3 (a e (List.mem_of_getElem? k2))
  ·obtain⟨i,o,rfl⟩:=List.mem_iff_getElem.1 A;have l:i<es.toList.length:=by rwa [Array.length_toList,h.len]
   obtain⟨_,e1,_⟩:=h.at (List.getElem?_eq_getElem l)
   exact a _ (List.getElem_mem _) (by rw[e1,n])
 ·right
  obtain⟨p,e1,e2⟩:=h.at a;rw[f]at e1;have q:=(ZpW e1).symm;have m:=h.stm.2.2
  have d : ∀ i (o : i < gs.length), i ≠ j -> gs[i].1 ≠ k := fun i o B n => by
    have l:i<es.toList.length:=by rwa [Array.length_toList,h.len]
    have r:=(List.getElem?_eq_some_iff.1 a).1;obtain⟨_,f1,_⟩:=h.at (List.getElem?_eq_getElem l)
    have e3:=Option.some.inj ((List.getElem?_eq_getElem r).symm.trans a);rw[List.Nodup,List.pairwise_map,List.pairwise_iff_getElem]at m;rcases Nat.lt_or_ge i j with s|s
    · exact m i j _ _ s (by rw[f1,n,e3,f])
    · exact m j i _ _ Om (by rw[f1,n,e3,f])
  refine⟨j,p,q,d,e,a,f,e2,fun W=>?_⟩;rcases K.find W c _ h.keys with ⟨_,k2⟩|⟨j',e',k1,k2,k3⟩
  ·exact absurd f (k2 e (List.mem_of_getElem? a))
  ·obtain⟨t,f1,f2⟩:=h.at k2;rw[k3]at f1
   have:j'=j:=by
    refine Classical.byContradiction fun u=>d _ t u ?_;exact(ZpW f1).symm
   subst this;rw[a]at k2;have k4:=Option.some.inj k2;subst k4;exact k1
def getI(gs:List (Nat×Value))(k:Nat):Option Value:=(gs.find? fun g=>g.1=k).map (·.2)
theorem Zwv(h:∀g∈gs,g.1≠k):getI gs k=none:=by
 unfold getI;rw[List.find?_eq_none.2 (fun g a=>by simpa using h g a)];rfl
theorem ZpC:∀ {gs:List (Nat×Value)} {k j:Nat} (a:j<gs.length),gs[j].1=k->(∀i (c:i<gs.length),i≠j->gs[i].1≠k)->getI gs k=some gs[j].2
 | [],k,j,a,_,_=>absurd a (Nat.not_lt_zero _)
 | g::gs,k,0,a,h,_=>by unfold getI;rw[List.find?_cons_of_pos (by simpa using h)];rfl
 | g :: gs, k, j + 1, a, h, d => by
   have e:g.1≠k:=d 0 (by simp) Om;have:=ZpC (j:=j) (by simpa using a) h (fun i c f=>d (i+1) (by simpa using c) Om);unfold getI at this ⊢;rw[List.find?_cons_of_neg (by simpa using e)];exact this
theorem ZyF(h:MapI w x gs es clock)(f:k<16)(a:getI gs k=some v)(W:World)(l:W.heap[x]?=w.heap[x]?) :
  (Instr.lookup 302 (.map (some x)) (Vi k) false).run prog W=.ok v W:=by
 have K:=Maps.int_keyed (k:=3) underlying3;have c:=Maps.keyOf_int_mk (k:=3) underlying3 (wf16 f);rcases h.find k f with ⟨_,d,_⟩|⟨j,o,m,d,e,p,q,n,g⟩
 ·rw[Zwv d]at a;cases a
 ·rw[ZpC _ m d]at a;have i:=Option.some.inj a;rw[n,i]at g;simp[Instr.lookup,run_underlying _,MapKept.run_getObj_map (l.trans h.heap),K.check W _ c,g W,Result.andThen]
theorem Zwu(gs:List (Nat×Value))(k:Nat)(v:Value)(h:∀g∈gs,g.1≠k)(i:Nat):getI (gs++[(k,v)]) i=if k=i then some v else getI gs i:=by
 unfold getI;rw[List.find?_append];by_cases e:k=i
 ·subst e;rw[if_pos rfl,List.find?_eq_none.2 (fun g a=>by simpa using h g a)];simp
 ·rw[if_neg e];cases c:gs.find? (fun g=>decide (g.1=i))with
  | none=>simp[e]
  | some g=>simp
theorem ZpD:∀ {gs:List (Nat×Value)} {k j:Nat} (a:j<gs.length) (v:Value),gs[j].1=k->(∀i (c:i<gs.length),i≠j->gs[i].1≠k)->∀i,getI (gs.set j (k,v)) i=if k=i then some v else getI gs i
 | [],k,j,a,_,_,_,_=>absurd a (Nat.not_lt_zero _)
 | g :: gs, k, 0, a, v, h, _, i => by
   have h:g.1=k:=h;unfold getI;rw[List.set_cons_zero];by_cases e:k=i
   · rw[if_pos e,List.find?_cons_of_pos (by simpa using e)];rfl
   · rw[if_neg e,List.find?_cons_of_neg (by simpa using e),List.find?_cons_of_neg (by rw[h];simpa using e)]
 | g :: gs, k, j + 1, a, v, h, d, i => by
   have l:g.1≠k:=d 0 (by simp) Om;have ih:=ZpD (j:=j) _ v h (fun i c f=>d (i+1) (by simpa using c) Om) i;unfold getI at ih ⊢;rw[List.set_cons_succ];by_cases e:g.1=i
   · rw[List.find?_cons_of_pos (by simpa using e),List.find?_cons_of_pos (by simpa using e),if_neg Om]
   · rw[List.find?_cons_of_neg (by simpa using e),List.find?_cons_of_neg (by simpa using e)]
     exact ih
theorem ZDF(h:MapI w x gs es clock)(g:k<16)(v:Value) :
  ∃(es':Array MapEntry) (cl':Nat) (gs':List (Nat×Value)),(∀W:World,W.heap[x]?=w.heap[x]?->(Instr.mapUpdate 302 (.map (some x)) (Vi k) v).run prog W=.ok () (setBlock W x (.map es' cl')))/\(∀W:World,x<W.heap.size->MapI (setBlock W x (.map es' cl')) x gs' es' cl')/\∀i,getI gs' i=if k=i then some v else getI gs i:=by
 have K:=Maps.int_keyed (k:=3) underlying3;have c:=Maps.keyOf_int_mk (k:=3) underlying3 (wf16 g);rcases h.find k g with ⟨n,o,d⟩|⟨j,u,t,o,e,d,q,A,n⟩
 ·refine⟨es.push ⟨.int _ k,v,clock⟩,clock+1,gs++[(k,v)],fun W f=>?_,fun W p=>⟨by simp[setBlock,p],MapKept.stamped_push h.stm d,?_,fun z a=>?_⟩,Zwu _ k v o⟩
  ·simp[Instr.mapUpdate,run_underlying _,MapKept.run_getObj_map (f.trans h.heap),K.check W _ c,n W,MapKept.run_setObj_map _ (f.trans h.heap),Result.andThen,setBlock]
  ·rw[Array.toList_push,List.map_append,List.map_append,h.kv];rfl
  ·rcases List.mem_append.1 a with a|a
   ·exact h.sz z a
   ·rw[List.mem_singleton]at a;subst a;exact g
 ·have r:((es[j]?).map (·.key)).getD (Vi k)=Vi k:=Array.getElem?_toList▸d▸q;refine⟨es.modify j fun e=>{ e with key:=Vi k,val:=v },clock,gs.set j _,fun W f=>?_,fun W p=>⟨by simp[setBlock,p],MapKept.stamped_modify h.stm j _ (fun _ _=>rfl) (fun e' _ l=>?_),?_,fun z a=>?_⟩,ZpD _ v t o⟩
  ·simp[Instr.mapUpdate,run_underlying _,MapKept.run_getObj_map (f.trans h.heap),K.check W _ c,n W,r,K.stays W c,MapKept.run_setObj_map _ (f.trans h.heap),Result.andThen,setBlock]
  ·rw[<-Array.getElem?_toList,d]at l;have:=Option.some.inj l;subst this;exact q.symm
  ·rw[List.map_set,<-h.kv];apply List.ext_getElem?;intro i;rw[List.getElem?_map,Array.toList_modify,List.getElem?_modify,List.getElem?_set];by_cases m:j=i
   ·subst m;have s:j<es.size:=by have:=(List.getElem?_eq_some_iff.1 d).1;simpa using this
    simp[s]
   ·simp[m]
  ·rcases List.mem_or_eq_of_mem_set a with a|a
   ·exact h.sz z a
   ·rw[a];exact g
theorem ZuC(h:w.heap[x]?=some (.map es clock))(T:TypeId):(Builtin.clear_ #[302] T #[.map (some x)]).run prog w=.ok (.tuple #[]) (setBlock w x (.map #[] clock)):=by
 simp[Builtin.clear_,run_underlying _,MapKept.run_getObj_map h,MapKept.run_setObj_map _ h,Result.andThen,setBlock]
