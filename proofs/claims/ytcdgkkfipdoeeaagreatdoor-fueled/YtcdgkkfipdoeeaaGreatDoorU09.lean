/- Parts. -/
import Derived.Test.YtcdgkkfipdoeeaaGreatDoorU08
set_option linter.all false
set_option maxRecDepth 100000
set_option maxHeartbeats 16000000
namespace Go.Proofs.YtcdgkkfipdoeeaaGreatDoor
open Go.RowKit LS Go.Proofs.Tryz
variable {tp:Addr}{es:Array MapEntry}{tm:Int}{ms ns:List (LB)}{gs:List (Nat×Value)}{jx:List Nq}{c vs xs:List Value}{a base clock fa j k m mb n s sc sn sz x y:Nat}{S:Nat->Prop}{sa:Option Addr}{p:UInt8->Bool}{gr sl st v:Value}{w w':World}
section
attribute [local go_sem] ZhB ZkO ZkP ZkN ZkQ ZiT ZhA Zhz ZkL ZkK ZkM ZiS ZgB ZgA ZgC ZkR ZkS ZiU Zhx Zhw Zhy Zhv ZkJ ZiR ZhJ ZhI ZhK ZhH ZhL ZiV ZhE ZhD ZhF ZhC ZhG ZgD
def KR(tp:Addr)(t:Tr)(kd:Int)(err:Value):Prop:=(Zf t=0/\err=.iface 432 (.pointer (some tp)))∨(Zf t=1/\kd=0/\err=.nilIface)∨(Zf t=2/\kd=1/\err=.nilIface)
def Zgy(w:World)(tp:Addr):Prop:=w.cell? ⟨3,0,none⟩=some (.iface 432 (.pointer (some tp)))
theorem Zgy.below(h:Zgy w tp)(a:BW w w'):Zgy w' tp:=(a.cell (Yai _ _ h)).trans h
def KC(t:Tr):Prop:=∀(w:World) (v:Value) (tp:Addr),Zh w t v->Zgy w tp->
 CP 31 #[v] w fun e w'=>∃(kd:Int) (err:Value),e=.returned (.tuple #[Vi kd,err])/\Hid (KR tp t kd err)/\BW w w'
theorem ZED{t:Tr}(h:KC t)(w:World)(f:Zh w t v)(g:Zgy w tp) :
  CP 55 #[v] w fun e j=>∃err:Value,e=.returned err/\Hid ((Zf t=2/\err=.nilIface)∨(Zf t≠2/\err=.iface 432 (.pointer (some tp))))/\BW w j:=by
 have k:=hid (h w v _ f g);have l:=hid g;obtain⟨ty,u,rfl⟩:=Zh.shape f;go_enter func55,ntmps55
 go_wp2_with fail
 refine k.mono ?_;rintro e m ⟨kd,err,rfl,n,i⟩;have d:=hid i;have o:m.cell? _=some _:=l.below i;rcases n.out with ⟨a,rfl⟩|⟨a,rfl,rfl⟩|⟨a,rfl,rfl⟩
 ·have c:=hid a;go_wp2;go_ret;exact⟨_,rfl,.inr ⟨by rw[c];decide,rfl⟩,d⟩
 ·have c:=hid a;go_wp2;go_ret;exact⟨_,rfl,.inr ⟨by rw[c];decide,rfl⟩,d⟩
 ·have c:=hid a;go_wp2;go_ret;exact⟨_,rfl,.inl ⟨c,rfl⟩,d⟩
theorem Zxy{a:Nd}{l r:Tr}(h:a.jk=4∨a.jk=6):Zf (.node x y a l r)=if Zf l=0∨Zf r=0∨(a.jk=6/\Zf l+Zf r≠4)then 0 else if Zf l+Zf r=2 then 1 else 2:=by
 show(if a.jk=0 then _ else _)=_;rw[if_neg Om,if_neg Om,if_neg Om,if_neg Om]
theorem ZxB{a:Nd}{l r:Tr}(D:a.jk=4∨a.jk=6)(F:KC l)(G:KC r)(w:World){vl vr:Value}(p:Zh w l vl)(d:Zh w r vr)(A:Zgy w tp) :
  CP 56 #[.agg #[Vi (opNo a),vl,vr]] w fun e u=>∃(kd:Int) (err:Value),e=.returned (.tuple #[Vi kd,err])/\Hid (KR tp (.node x y a l r) kd err)/\BW w u:=by
 obtain⟨tyl,ul,rfl⟩:=Zh.shape p;obtain⟨tyr,ur,rfl⟩:=Zh.shape d;have q:=hid (Zxy (x:=x) (y:=y) (l:=l) (r:=r) D);have R:=hid d;have Q:=hid A;obtain⟨o,n⟩:∃o,o=opNo a:=⟨_,rfl⟩
 have H:(a.jk=6/\((o:Int) == 0)=true)∨(a.jk=4/\((o:Int) == 0)=false):=by
  rcases D with h|h
  ·right
   refine⟨h,?_⟩;rw[beq_eq_false_iff_ne,n];unfold opNo;rw[if_neg Om];omega
  ·left
   refine⟨h,?_⟩;rw[n];unfold opNo;rw[if_pos h];rfl
 rw[<-n];have I:=hid (fun W s=>F W _ _ (p.below s) (A.below s));have J:=hid (fun W s=>G W _ _ (d.below s) (A.below s));clear p d A F G D n;go_enter func56,ntmps56
 go_upto_region 1 with fail
 refine ZP fun T t=>?_;have v:Hid _:=t▸Zbal;have f:Hid (BAt _ _ _ 116):=t▸bnw;clear t;have p0:=f.cell 0;have p1:=f.cell 1;have p2:=f.cell 2;simp only[Zget]at p0 p1 p2
 go_wp2_with fail
 refine(I _ v).mono ?_;rintro e U ⟨kd,err,rfl,K,B⟩;have g:=hid (v.trans (B.mono v.size));have i:=hid (f.below B);have p0:=i.cell 0;have p1:=i.cell 1;have p2:=i.cell 2;simp only[Zget]at p0 p1 p2;rcases K.out with ⟨j,rfl⟩|⟨j,rfl,rfl⟩|⟨j,rfl,rfl⟩
 ·have E:Hid (Zf _=0):=hid (by rw[q,if_pos (.inl j)]);go_wp2;go_ret2;exact⟨_,_,rfl,.inl ⟨E,rfl⟩,g⟩
 all_goals
  have L:=hid j
  go_wp2_with fail
  refine(J _ g).mono ?_;rintro e z ⟨kd2,err2,rfl,M,C⟩;have c:=hid (g.trans (C.mono g.size));have N:=hid (i.below C);have S:z.cell? _=some _:=Q.below c;have p0:=N.cell;rcases M.out with ⟨k,rfl⟩|⟨k,rfl,rfl⟩|⟨k,rfl,rfl⟩
  ·have E:Hid (Zf _=0):=hid (by rw[q,if_pos (.inr (.inl k))]);go_wp2;go_ret2;exact⟨_,_,rfl,.inl ⟨E,rfl⟩,c⟩
  all_goals
   have O:=hid k;rcases H with ⟨P,n⟩|⟨P,n⟩
   all_goals
    have m:=hid (show Zf (.node x y a l r)=_ by rw[q.out,L.out,O.out,P])
    first
     | (go_wp2
        go_ret2;exact⟨_,_,rfl,by first|exact Or.inr (Or.inl ⟨by rw[m.out];rfl,rfl,rfl⟩)|exact Or.inr (Or.inr ⟨by rw[m.out];rfl,rfl,rfl⟩)|exact Or.inl ⟨by rw[m.out];rfl,rfl⟩,c.out⟩)
     | (go_wp2
        go_region
        all_goals
          go_wp2;go_ret2;exact⟨_,_,rfl,Or.inl ⟨by rw[m.out];rfl,rfl⟩,by exact⟨c.os,c.tape,c.output,c.size,c.block⟩⟩)
theorem Zl2:∀t:Tr,KC t
 | .nil=>fun _ _ _ h=>h.elim
 | .node x y a l r => by
   have k:=Zl2 l;have C:=Zl2 r;intro w v tp E s;rcases E with ⟨d,rfl⟩|⟨d,nm,la,ln,lc,rfl,_⟩|⟨d,F,nm,la,ln,lc,rfl,_⟩|⟨d,z,rfl,m⟩|⟨d,F,la,ln,lc,z,rfl,_,_,m⟩|⟨d,z1,z2,rfl,p,q⟩
   · have g:Hid (Zf (.node x y a l r)=1):=by show(if a.jk=0 then _ else _)=_;rw[if_pos d]
     go_enter func31,ntmps31;go_wp2;go_ret2;exact⟨_,_,rfl,.inr (.inl ⟨g,rfl,rfl⟩),belB⟩
   · have g:Hid (Zf (.node x y a l r)=2):=hid (by show(if a.jk=0 then _ else _)=_;rw[if_neg Om,if_pos (Or.inl d)])
     go_enter func31,ntmps31;go_wp2;go_ret2;exact⟨_,_,rfl,.inr (.inr ⟨g,rfl,rfl⟩),belB⟩
   · have g:Hid (Zf (.node x y a l r)=2):=hid (by show(if a.jk=0 then _ else _)=_;rw[if_neg Om,if_pos (Or.inr d)])
     go_enter func31,ntmps31;go_wp2;go_ret2;exact⟨_,_,rfl,.inr (.inr ⟨g,rfl,rfl⟩),belB⟩
   · have g:Hid (Zf (.node x y a l r)=Zf l):=by show(if a.jk=0 then _ else _)=_;rw[if_neg Om,if_neg Om,if_pos d]
     obtain⟨ty,u,rfl⟩:=Zh.shape m;have n:=hid (fun W c=>k W _ _ (m.below c) (s.below c));go_enter func31,ntmps31
     go_wp2_with fail
     refine Zm fun W c=>?_;have f:Hid (BW w W):=c▸belB;refine(n W f).mono ?_;rintro e D ⟨kd,err,rfl,i,o⟩;have j:=hid (f.trans (o.mono f.size));go_wp2;go_ret2;exact⟨_,_,rfl,by unfold KR;rw[g];exact i,j⟩
   · have g:Hid (Zf (.node x y a l r)=if Zf l=2 then 2 else 0):=by show(if a.jk=0 then _ else _)=_;rw[if_neg Om,if_neg Om,if_neg Om,if_pos d]
     obtain⟨ty,u,rfl⟩:=Zh.shape m;have n:=hid (fun W c=>ZED k W (m.below c) (s.below c));go_enter func31,ntmps31
     go_wp2_with fail
     refine Zm fun W c=>?_;have f:Hid (BW w W):=c▸belB;refine(n W f).mono ?_;rintro e D ⟨err,rfl,i,o⟩;have j:=hid (f.trans (o.mono f.size));go_wp2;go_ret2;refine⟨_,_,rfl,?_,j⟩;rcases i.out with ⟨A,B⟩|⟨A,B⟩
     · exact .inr (.inr ⟨by rw[g,if_pos A],rfl,B⟩)
     · exact .inl ⟨by rw[g,if_neg A],B⟩
   · obtain⟨ty,u,rfl⟩:=Zh.shape p
     obtain⟨ty2,u2,rfl⟩:=Zh.shape q;have n:Hid (∀W,Below _ w W->Calls _ _ _ W fun e G=>∃(kd:Int) (err:Value),e=.returned _/\Hid (KR _ (.node x y a l r) _ _)/\Below _ W _):=hid (fun W c=>ZxB d k C W (p.below c) (q.below c) (s.below c));go_enter func31,ntmps31
     go_wp2_with fail
     refine Zm fun W c=>?_;have f:Hid (BW w W):=c▸belB;refine(n W f).mono ?_;rintro e D ⟨kd,err,rfl,i,o⟩;have j:=hid (f.trans (o.mono f.size));go_wp2;go_ret2;exact⟨_,_,rfl,i,j⟩
end
section
theorem Zj5(s:BA)(k:Nat){h:k<s.size}(a:p s[k]=true):run p ((bl s).drop k)=run p ((bl s).drop (k+1))+1:=by
 rw[ZdW s k h,run,if_pos a]
theorem ZrY(s:BA)(k:Nat){h:k<s.size}(a:p s[k]=false):run p ((bl s).drop k)=0:=by
 rw[ZdW s k h,run,if_neg (a▸Bool.false_ne_true)]
theorem ZrU(s:BA)(k:Nat)(h:¬k<s.size):run p ((bl s).drop k)=0:=by
 rw[Yb8 (by rw[Zd];omega)];rfl
theorem ZBB(s:BA)(k:Nat)(w:World)(l:s.size<=6000)(g:k<=s.size) :
  CP 45 #[.string s,Vi k,.func (.func 44) #[] #[]] w fun e u=>e=.returned (Vi ((k+run ZC ((bl s).drop k):Nat):Int))/\u=w:=by
 obtain⟨E,c⟩:∃E,E=k+run ZC ((bl s).drop k):=⟨_,rfl⟩
 rw[<-c];have h:=hid c;clear c;go_enter func45,ntmps45;go_wp2
 go_loop [1] (fun i=>∃j:Nat,j<=s.size/\i=Vi j/\Hid (E=j+run ZC ((bl s).drop j))) (fun i=>s.size - (intOf i).toNat)
 case atStart=>exact⟨k,g,rfl,h⟩
 case round=>
  obtain⟨j,m,rfl,d⟩:=hrel;by_cases f:j<s.size
  ·cases hd:ZC s[j]
   ·have a:Hid (E=j):=by rw[d,ZrY s j hd];rfl
    go_wp2_with (go_at_call 44;refine cret (Zdk) ?_)
    go_ret;exact⟨by rw[a];rfl,rfl⟩
   ·have a:Hid (E=(j+1)+run ZC ((bl s).drop (j+1))):=hid (by rw[d,Zj5 s j hd];omega)
    go_wp2_with (go_at_call 44;refine cret (Zdk) ?_)
    go_round
    case rel=>exact⟨j+1,by omega,by go_num,a⟩
    case measure=>simp[intOf];omega
  ·have a:Hid (E=j):=by rw[d,ZrU s j f];rfl
   go_wp2;go_ret;exact⟨by rw[a];rfl,rfl⟩
theorem ZBD(s:BA)(k:Nat)(w:World)(l:s.size<=6000)(g:k<=s.size) :
  CP 45 #[.string s,Vi k,.func (.func 47) #[] #[]] w fun e u=>e=.returned (Vi ((k+run Zp ((bl s).drop k):Nat):Int))/\u=w:=by
 obtain⟨E,c⟩:∃E,E=k+run Zp ((bl s).drop k):=⟨_,rfl⟩
 rw[<-c];have h:=hid c;clear c;go_enter func45,ntmps45;go_wp2
 go_loop [1] (fun i=>∃j:Nat,j<=s.size/\i=Vi j/\Hid (E=j+run Zp ((bl s).drop j))) (fun i=>s.size - (intOf i).toNat)
 case atStart=>exact⟨k,g,rfl,h⟩
 case round=>
  obtain⟨j,m,rfl,d⟩:=hrel;by_cases f:j<s.size
  ·cases hd:Zp s[j]
   ·have a:Hid (E=j):=by rw[d,ZrY s j hd];rfl
    go_wp2_with (go_at_call 47;refine cret (Zd2) ?_)
    go_ret;exact⟨by rw[a];rfl,rfl⟩
   ·have a:Hid (E=(j+1)+run Zp ((bl s).drop (j+1))):=hid (by rw[d,Zj5 s j hd];omega)
    go_wp2_with (go_at_call 47;refine cret (Zd2) ?_)
    go_round
    case rel=>exact⟨j+1,by omega,by go_num,a⟩
    case measure=>simp[intOf];omega
  ·have a:Hid (E=j):=by rw[d,ZrU s j f];rfl
   go_wp2;go_ret;exact⟨by rw[a];rfl,rfl⟩
theorem Zqi(h:∀z,z∈ns ↔ z∈ms)(l:List Lab):ZB l ns=ZB l ms:=by
 unfold ZB
 simp_all
theorem ZpH(h:∀z,z∈ns ↔ z∈ms)(op:Nat)(all:List El):∀(l pre:List El),ZcF op ns all pre l=ZcF op ms all pre l
 | [],_=>rfl
 | e :: l, pre => by
   rw[ZcF,ZcF,ZpH h _ _ l _];have a:(fun f:El=>ZB _ _)=fun f=>ZB f.1 _:=funext fun f=>Zqi h _;simp only[Zqi h]
theorem ZpJ(h:∀z,z∈ns ↔ z∈ms)(op:Nat)(l:List El):Zcv op ns l=Zcv op ms l:=by unfold Zcv;rw[ZpH h]
theorem Zzt(A:Nat->Addr)(m:Int)(w:World)(a:Vars w A m)(c:w.cell? ⟨fa,2,none⟩=some (.iface 432 (.pointer (some (A 8))))) :
  CP 18 #[.iface 81 (Vp fa)] w fun e u=>e=.returned (Vi 9)/\u=w:=by
 have v:=a.all;go_enter func18,ntmps18
 iterate 8 (go_wp2_with fail;refine cret (Zgv a c) ?_)
 go_wp2_with fail
 refine cret (Zf8 c) ?_;go_wp2;go_ret;exact⟨rfl,rfl⟩
theorem ZzB(A:Nat->Addr)(m:Int)(w:World)(a:Vars w A m) :
  CP 18 #[.iface 432 (.pointer (some (A 9)))] w fun e u=>e=.returned (Vi 10)/\u=w:=by
 have v:=a.all;go_enter func18,ntmps18
 iterate 9 (go_wp2_with fail;refine cret (Zg7 a) ?_)
 go_wp2_with fail
 refine cret (Zf7) ?_;go_wp2;go_ret;exact⟨rfl,rfl⟩
theorem Zzx(A:Nat->Addr)(m:Int)(w:World)(a:Vars w A m)(c:w.cell? ⟨fa,2,none⟩=some (.iface 432 (.pointer (some (A 10))))) :
  CP 18 #[.iface 81 (Vp fa)] w fun e u=>e=.returned (Vi 11)/\u=w:=by
 have v:=a.all;go_enter func18,ntmps18
 iterate 10 (go_wp2_with fail;refine cret (Zgv a c) ?_)
 go_wp2_with fail
 refine cret (Zf8 c) ?_;go_wp2;go_ret;exact⟨rfl,rfl⟩
theorem ZzA(A:Nat->Addr)(m:Int)(w:World)(a:Vars w A m)(c:w.cell? ⟨fa,2,none⟩=some (.iface 432 (.pointer (some (A 11))))) :
  CP 18 #[.iface 81 (Vp fa)] w fun e u=>e=.returned (Vi 12)/\u=w:=by
 have v:=a.all;go_enter func18,ntmps18
 iterate 11 (go_wp2_with fail;refine cret (Zgv a c) ?_)
 go_wp2_with fail
 refine cret (Zf8 c) ?_;go_wp2;go_ret;exact⟨rfl,rfl⟩
theorem Zzu(A:Nat->Addr)(m:Int)(w:World)(a:Vars w A m) :
  CP 18 #[.iface 432 (.pointer (some (A 12)))] w fun e u=>e=.returned (Vi 13)/\u=w:=by
 have v:=a.all;go_enter func18,ntmps18
 iterate 12 (go_wp2_with fail;refine cret (Zg7 a) ?_)
 go_wp2_with fail
 refine cret (Zf7) ?_;go_wp2;go_ret;exact⟨rfl,rfl⟩
section
variable {jx:List Nq} {W:Nat->Cq->Cq} {c d e:Cq} {U U' U1 U2:Nat->Bool} {K K1 K2:Nat->Prop} {T:Nat->Nat} {n m x y N:Nat}
def IS(c:Cq)(x:Nat):Prop:=∃s,s<16/\c.jy.getD s none=some (x:Int)
def Rch(jx:List Nq)(S:Nat->Prop)(m:Nat)(x:Nat):Prop:=∀P:Nat->Nat->Prop,(∀ {m x:Nat},¬S m->x∈Zg (jx.getD m nq0)->P m x)->(∀ {m y x:Nat},¬S m->y∈Zg (jx.getD m nq0)->P y x->P m x)->P m x
theorem Rch.last(a:¬S m)(f:x∈Zg (jx.getD m nq0)):Rch jx S m x:=fun _ k0 _=>k0 a f
theorem Rch.step(a:¬S m)(f:y∈Zg (jx.getD m nq0))(g:Rch jx S y x):Rch jx S m x:=fun P k0 k1=>k1 a f (g P k0 k1)
theorem Rch.ind{motive:∀m x,Rch jx S m x->Prop}(last:∀ {m x:Nat} (h1:¬S m) (h2:x∈Zg (jx.getD m nq0)),motive m x (Rch.last h1 h2))(step:∀ {m y x:Nat} (h1:¬S m) (h2:y∈Zg (jx.getD m nq0)) (h3:Rch jx S y x),motive y x h3->motive m x (Rch.step h1 h2 h3))(h:Rch jx S m x):motive m x h:=by
 obtain⟨_,k⟩:=h (fun m x=>∃h,motive m x h) (fun h1 h2=>⟨_,last h1 h2⟩) (fun h1 h2 ⟨h3,h3_k⟩=>⟨_,step h1 h2 h3 h3_k⟩);exact k
theorem Rch.inv(h:Rch jx S m x):(¬S m/\x∈Zg (jx.getD m nq0))∨∃y,¬S m/\y∈Zg (jx.getD m nq0)/\Rch jx S y x:=by
 induction h using Rch.ind with
 | last a f=>exact .inl ⟨a,f⟩
 | step a f g _=>exact .inr ⟨_,a,f,g⟩
theorem Rch.head(h:Rch jx S m x):¬S m:=by induction h using Rch.ind <;> assumption
theorem Rch.gt(a:NOk jx)(h:Rch jx S m x):x<m:=by
 induction h using Rch.ind with
 | last _ h=>exact Zcf a _ _ h
 | step _ h _ ih=>exact Nat.lt_trans ih (Zcf a _ _ h)
theorem Rch.mono{S':Nat->Prop}(f:NOk jx)(h:Rch jx S m x):(∀y,x<y->¬S y->Rch jx S y x->¬S' y)->Rch jx S' m x:=by
 induction h using Rch.ind with
 | last g a=>exact fun i=>.last (i _ (Zcf f _ _ a) g (.last g a)) a
 | step g a j ih=>exact fun i=>.step (i _ (Nat.lt_trans (j.gt f) (Zcf f _ _ a)) g (.step g a j)) a (ih i)
structure Pt (jx:List Nq) (c:Cq) (U:Nat->Bool) (d:Cq) (U':Nat->Bool) (K:Nat->Prop):Prop where
 sub:∀x,U' x=true->U x=true
 wrk:∀m,¬IS c m->IS d m->K m
 rch:∀x,U' x=true->∀m,K m->¬Rch jx (IS c) m x
 stay:∀x,U' x=true->∀s,c.jy.getD s none=some (x:Int)->d.jy.getD s none=some (x:Int)
theorem Pt.keep(a:NOk jx)(h:Pt jx c U d U' K)(f:U' x=true)(g:Rch jx (IS c) m x):Rch jx (IS d) m x:=
 g.mono a (fun y _ i j hd=>h.rch x f y (h.wrk y i hd) j)
theorem Pt.trans (g : NOk jx) (h : Pt jx c U d U1 K1) (q : Pt jx d U2 e U' K2) : Pt jx c U e (fun x => U1 x && U' x) (fun m => K1 m ∨ K2 m) := by
  refine⟨fun x a=>?_,fun m j k=>?_,fun x a m f i=>?_,fun x a s l=>?_⟩
  · rw[Yas]at a;exact h.sub x a.1
  · by_cases hd:IS d m
    · exact .inl (h.wrk m j hd)
    · exact .inr (q.wrk m hd k)
  · rw[Yas]at a
    rcases f with f|f
    · exact h.rch x a.1 m f i
    · exact q.rch x a.2 m f (h.keep g a.1 i)
  · rw[Yas]at a;exact q.stay x a.2 s (h.stay x a.1 s l)
theorem Pt.same(h:Pt jx c U d U' K)(f:e.jy=d.jy):Pt jx c U e U' K:=
 ⟨h.sub,fun m a i=>h.wrk m a (by unfold IS at *;simp_all),h.rch,fun x g s a=>by rw[f];exact h.stay x g s a⟩
theorem Pt.from_(h:Pt jx c U d U' K)(a:e.jy=c.jy):Pt jx e U d U' K:=by
 have f:IS e=IS c:=by unfold IS;rw[a]
 exact⟨h.sub,fun m g i=>h.wrk m (by simp_all) i,f▸h.rch,fun x j s g=>h.stay x j s (by simp_all)⟩
theorem Pt.still(c:Cq)(U:Nat->Bool):Pt jx c U c U (fun _=>False):=⟨fun _ h=>h,fun _ a f=>absurd f a,fun _ _ _ h=>h.elim,fun _ _ _ h=>h⟩
theorem Pt.less(h:Pt jx c U d U' K)(f:∀x,U1 x=true->U' x=true):Pt jx c U d U1 K:=⟨fun x a=>h.sub x (f x a),h.wrk,fun x a=>h.rch x (f x a),fun x a=>h.stay x (f x a)⟩
def Inv(N:Nat)(c:Cq)(U:Nat->Bool):Prop:=c.jy.length=16/\∀x,U x=true->IS c x/\x<N
theorem Pt.inv (h : Pt jx c U d U' K) (f : Inv N c U) (g : d.jy.length = 16) : Inv N d U' := ⟨g, fun x a => by
  obtain⟨⟨s,i,j⟩,k⟩:=f.2 x (h.sub x a);exact⟨⟨s,i,h.stay x a s j⟩,k⟩⟩
def psi(T:Nat->Nat)(U:Nat->Bool):Nat->Nat
 | 0=>0
 | n+1=>psi T U n+if U n=true then T n - 1 else 0
theorem ZjY{V:Nat->Bool} : ∀(N:Nat),(∀x,x<N->U x=V x)->psi T U N=psi T V N
 | 0,_=>rfl
 | N+1,h=>by unfold psi;rw[ZjY N (fun x a=>h x Om),h N Om]
theorem ZmV (a : U x = false) : ∀ (N : Nat), x < N -> psi T (fun z => U z || decide (z = x)) N = psi T U N + (T x - 1)
  | 0,h=>absurd h (Ya1 _)
  | N + 1, h => by
    unfold psi;by_cases e:x=N
    · subst e
      rw[ZjY (V:=U) x (fun z f=>by simp_all;omega)];simp[a]
    · rw[ZmV a N Om,show decide _=false by simp;omega]
      simp;omega
theorem ZAX (a : U x = true) {N:Nat} (h : x < N) : psi T (fun z => U z && !decide (z = x)) N + (T x - 1) = psi T U N := by
  rw[<-ZmV (by simp) N h];refine ZjY N (fun z _=>?_);by_cases e:z=x
  · simp_all
  simp_all
theorem ZmW:∀(N:Nat),(∀x,U x=false)->psi T U N=0
 | 0,_=>rfl
 | N+1,h=>by unfold psi;rw[ZmW N h,h N];rfl
theorem ZCn{l:List (Option Int)}(h:ZK n l=none)(a:s<16):l.getD s none≠some (n:Int):=by
 unfold ZK at h
 simp_all
theorem IS.of(h:ZK n c.jy=none):¬IS c n:=fun⟨_,a,f⟩=>ZCn h a f
theorem ZCl(h:ZK n c.jy=some s):IS c n:=⟨s,Zha h⟩
def WBd(jx:List Nq)(T:Nat->Nat)(W:Nat->Cq->Cq)(n:Nat):Prop:=∀c U,Inv jx.length c U->¬IS c n->∃U' K,Pt jx c U (W n c) U' K/\K n/\(W n c).jy.length=16/\(W n c).jq.length+psi T U jx.length+2<=c.jq.length+T n+psi T U' jx.length
theorem Pt.kept(h:Pt jx c U d U' K)(o:K n)(p:d.jy.getD s none=none)(f:e.jy=d.jy.set s (some (n:Int))):Pt jx c U e U' K:=by
 refine⟨h.sub,fun m i j=>?_,h.rch,fun x k s' g=>?_⟩
 ·obtain⟨s',l,a⟩:=j;rw[f,Zc0]at a;split at a
  ·injection a with a;have:m=n:=by omega
   simp_all
  ·exact h.wrk m i ⟨s',l,a⟩
 ·have:=h.stay x k _ g;rw[f,Zc0,if_neg (fun e=>by simp_all)];omega
theorem Zj1(t:WBd jx T W n)(B:4<=T n)(g:Inv jx.length c U):∃U' K,Pt jx c U (putQ jx W n c) U' K/\U' n=false/\(¬IS c n->K n)/\(putQ jx W n c).jy.length=16/\(putQ jx W n c).jq.length+psi T U jx.length<=c.jq.length+T n+psi T U' jx.length:=by
 have hid:Inv _ (decL n c) U:=g;cases f:ZK n c.jy with
 | some s=>
  obtain⟨o,p⟩:=Zha f
  have A : psi T U jx.length + 1 <= T n + psi T (fun z => U z && !decide (z = n)) jx.length := by
    cases l:U n with
    | true=>have:=ZAX (T:=T) l (g.2 n l).2;omega
    | false=>
      rw [ZjY (V := fun z => U z && !decide (z = n)) _ (fun z _ => by
        by_cases e:z=n
        · simp_all
        simp_all)]
      omega
  rw[Zd8 f];refine⟨fun z=>U z && !decide (z=n),fun _=>False,?_,by simp,fun h=>absurd (ZCl f) h,?_,?_⟩
  ·have u : ∀ {x : Nat} {s' : Nat}, x ≠ n -> c.jy.getD s' _ = some (x : Int) -> (c.jy.set s none).getD s' _ = some _ := fun i h => by
     rw[Zc0,if_neg (fun e=>by simp_all;omega)];exact h
   split
   ·refine⟨fun x i=>by simp_all,fun m a j=>?_,fun _ _ _ h=>h.elim,fun x i s' a=>?_⟩
    ·obtain⟨s',q,k⟩:=j;simp only at k;rw[Zc0]at k;split at k
     ·cases k
     ·exact a ⟨s',q,k⟩
    ·simp at i;exact u i.2 a
   ·exact⟨fun x i=>by simp_all,fun m a j=>absurd j a,fun _ _ _ h=>h.elim,fun x _ s' a=>a⟩
  ·split
   ·simp only[Yat];exact g.1
   ·exact g.1
  ·split <;> simp only[Zc,decL,Yab,Ybj] <;> omega
 | none=>
  obtain⟨U',K,o,p,a,j⟩:=t (decL n c) U hid (IS.of f);have r:=o.from_ (e:=c) rfl
  have v:U' n=false:=by
   cases l:U' n with
   | false=>rfl
   | true=>exact absurd (g.2 n (o.sub n l)).1 (IS.of f)
  have q:(W n _).jq.length+psi T U _+2<=c.jq.length+T n+psi T _ _:=j;rw[ZdR f];refine⟨U',K,?_,v,fun _=>p,?_,?_⟩
  ·split
   ·exact r
   ·split
    ·rename_i s w;exact r.kept p (ZdZ w).2 rfl
    omega
  ·split
   ·exact a
   ·split
    ·simp[Zc,ZZ,a]
    omega
  ·split
   ·omega
   ·split
    ·simp only[Zc,ZZ,Yab,Ybj];omega
    ·omega
end
end
section
section
variable {jx:List Nq} {W:Nat->Cq->Cq} {c d e:Cq} {U U' U1 U2:Nat->Bool} {K K1 K2:Nat->Prop} {T:Nat->Nat} {n m x y N:Nat}
theorem Zpn (a : NOk jx) : ∀ (ts : List Nat) (c : Cq) (U : Nat -> Bool), (∀ t ∈ ts, WBd jx T W t /\ 4 <= T t) -> Inv jx.length c U -> ∃ U' K, Pt jx c U (ts.foldl (fun c t => putQ jx W t c) c) U' K /\ (∀ t ∈ ts, U' t = false /\ ∀ x, U' x = true -> ¬ Rch jx (IS c) t x) /\ (ts.foldl (fun c t => putQ jx W t c) c).jy.length = 16 /\ (ts.foldl (fun c t => putQ jx W t c) c).jq.length + psi T U jx.length <= c.jq.length + (ts.map T).sum + psi T U' jx.length
  | [],c,U,_,g=>⟨U,_,Pt.still c U,fun t p=>(by cases p),g.1,by simp⟩
  | t :: ts, c, U, l, g => by
    obtain⟨U1,K1,h,s,q,r,u⟩:=Zj1 (l t (Yay ..)).1 (l t (Yay ..)).2 g;have o:=h.inv g r;obtain⟨U2,K2,q1,q2,q3,q4⟩:=Zpn a ts (putQ jx W t c) U1 (fun z i=>l z (Yam _ i)) o;have f:=q1.sub;rw[Ybp];refine⟨U2,fun m=>K1 m∨K2 m,(h.trans a q1).less (fun z i=>by simp_all),fun z i=>?_,q3,?_⟩
    · rcases Yau.1 i with e|e
      · subst e
        refine⟨?_,fun x j k=>h.rch x (f x j) z (q k.head) k⟩;cases v:U2 z with
        | false=>rfl
        | true=>simp_all
      · exact⟨(q2 z e).1,fun x j k=>(q2 z e).2 x j (h.keep a (f x j) k)⟩
    simp_all;omega
theorem Zoh{sl:List (Option Int)}(j:c.jy=sl):∀(f n:Nat) (k:List Nat) (y:Nat),k.getD y 0<(cntQ jx sl f n k).getD y 0->y=n∨Rch jx (IS c) n y
 | 0,n,k,y,h=>absurd h (Nat.lt_irrefl _)
 | f + 1, n, k, y, h => by
   by_cases e:y=n
   · omega
   · right
     have l:(bump k n).getD y 0=k.getD y 0:=by unfold bump;rw[Zf2,if_neg (fun h=>e h.1)]
     unfold cntQ at h;simp only at h;split at h
     · omega
     · rename_i q
       have a:¬IS c n:=by
         intro o;cases r:ZK n sl with
         | none=>exact IS.of (by simp_all) o
         | some s=>simp_all
       rw[<-l]at h
       have key : ∀ (ts : List Nat) (k : List Nat), (∀ t ∈ ts, t ∈ Zg (jx.getD n nq0)) -> k.getD y 0 < (ts.foldl (fun k t => cntQ jx sl f t k) k).getD y 0 -> Rch jx (IS c) n y := by
         intro ts
         induction ts with
         | nil=>simp
         | cons t ts ih=>
           intro k g h;rw[Ybp]at h;by_cases i:k.getD y 0<(cntQ jx sl f t k).getD y 0
           · rcases Zoh j f t k y i with e1|e1
             · apply Rch.last<;>simp_all
             · exact .step a (g _ (Yay ..)) e1
           · exact ih _ (fun z p=>g z (Yam _ p)) (Nat.lt_of_le_of_lt (Nat.le_of_not_lt i) h)
       exact key _ _ (fun _ h=>h) h
theorem Zqw{p:Nat->Bool} : ∀(n:Nat),ZbT p n=some x->p x=true
 | 0,h=>by cases h
 | n + 1, h => by
   unfold ZbT at h;split at h
   · simp_all
   · exact Zqw n h
theorem Zsj(h:ZbY jx n c=some x):¬IS c x/\(x=n∨Rch jx (IS c) n x):=by
 unfold ZbY at h;have:=Zqw _ h;unfold ZcX at this;simp only[Yas,decide_eq_true_eq]at this;obtain⟨⟨⟨a,f⟩,_⟩,_⟩:=this;refine⟨IS.of (by simp_all),Zoh rfl _ _ _ _ (Nat.lt_of_le_of_lt ?_ a)⟩;rw[Yaa,Ybs];split <;> simp
structure Pn (jx:List Nq) (n:Nat) (d:Cq) (O Q:Nat->Bool):Prop where
 apart:∀x,O x=true->Q x=false
 way:∀x,Q x=true->x=n∨Rch jx (IS d) n x
theorem ZtB(g:d.jy.getD s none=none)(z:Nat):IS { d with jy:=d.jy.set s (some (-1)) } z ↔ IS d z:=by
 constructor
 ·rintro⟨s',f,a⟩;simp only at a;rw[Zc0]at a;split at a
  ·simp_all
  ·exact⟨s',f,a⟩
 ·rintro⟨s',f,a⟩;refine⟨s',f,?_⟩;simp only;rw[Zc0,if_neg (fun e=>by simp_all)];exact a
theorem ZnL (g : NOk jx) (H : ∀ z, z <= n -> z < jx.length -> WBd jx T W z /\ 4 <= T z) (I : ∀ z, z <= n -> ∀ c, c.jy.length = 16 -> Low z c (W z c)) (U : Nat -> Bool) (c : Cq) : ∀ (k : Nat) (d : Cq) (O Q : Nat -> Bool) (K : Nat -> Prop), Pt jx c U d O K -> Pn jx n d O Q -> Inv jx.length d (fun x => O x || Q x) -> d.jq.length + psi T U jx.length <= c.jq.length + psi T (fun x => O x || Q x) jx.length -> ∃ O Q K, Pt jx c U (ZG jx W n k d) O K /\ Pn jx n (ZG jx W n k d) O Q /\ Inv jx.length (ZG jx W n k d) (fun x => O x || Q x) /\ (ZG jx W n k d).jq.length + psi T U jx.length <= c.jq.length + psi T (fun x => O x || Q x) jx.length
  | 0,d,O,Q,K,l,j,f,p=>⟨O,Q,K,l,j,f,p⟩
  | k + 1, d, O, Q, K, l, j, f, p => by
    cases q:ZbY jx n d with
    | none=>rw[Zff (Or.inl q)];exact⟨O,Q,K,l,j,f,p⟩
    | some x=>
      cases A:ZbQ d.jy with
      | none=>rw[Zff (Or.inr A)];exact⟨O,Q,K,l,j,f,p⟩
      | some s=>
        rw[ZiP q A];obtain⟨B,J⟩:=ZdZ A;obtain⟨t,o⟩:=Zg9 g q;obtain⟨L,M⟩:=Zsj q;have u:IS { d with jy:=d.jy.set s (some (-1)) }=IS d:=funext fun z=>propext (ZtB J z);obtain⟨Z,hT⟩:=H x t o;have C:=I x t { d with jy:=d.jy.set s (some (-1)) } (by simp only[Yat];exact f.1);obtain⟨V,K2,p1,p2,p3,p4⟩:=Z { d with jy:=d.jy.set s (some (-1)) } (fun x=>O x || Q x) ⟨by simp only[Yat];exact f.1,fun z a=>by rw[u];exact f.2 z a⟩ (by simp_all);simp only at p4;generalize W x { d with jy:=d.jy.set s (some (-1)) }=e at *
        have R:(ZZ x s e).jy=e.jy.set s (some (x:Int)):=rfl;have D:∀s',s'≠s->(ZZ x s e).jy.getD s' none=e.jy.getD s' none:=fun s' E=>by rw[R,Zc0,if_neg (fun h=>E h.1)]
        have v:(ZZ x s e).jy.getD s none=some (x:Int):=by rw[R,Zc0,if_pos ⟨rfl,by omega⟩]
        have P : Pt jx d (fun x => O x || Q x) (ZZ x s e) V K2 := by
          refine⟨p1.sub,fun m r h6=>?_,fun z a m hm hr=>p1.rch z a m hm (by simp_all),fun z a s' r=>?_⟩
          · obtain⟨s',F,i⟩:=h6
            by_cases es:s'=s
            · subst es
              rw[v]at i;injection i with i;have:m=x:=by omega
              simp_all
            · rw[D s' es]at i
              exact p1.wrk m (by simp_all) ⟨s',F,i⟩
          · have es:s'≠s:=fun es=>by simp_all
            rw[D s' es];refine p1.stay z a s' ?_;simp only;rw[Zc0,if_neg (fun h=>es h.1)];exact r
        have S:V x=false:=by
          cases G:V x with
          | false=>rfl
          | true=>exact absurd (f.2 x (p1.sub x G)).1 L
        have X:=P.inv f (by simp_all)
        have w : (fun z => (O z && V z) || ((Q z && V z) || decide (z = x))) = fun z => V z || decide (z = x) := funext fun z => by
          cases G:V z with
          | false=>simp
          | true=>have:=p1.sub z G;simp only[Yct]at this;rcases this with h|h <;> simp[h]
        have Y:=ZmV (T:=T) S jx.length o;refine ZnL g H I U c k (ZZ x s e) (fun z=>O z && V z) (fun z=>(Q z && V z) || decide (z=x)) (fun m=>K m∨K2 m) (l.trans g P) ⟨fun z a=>?_,fun z a=>?_⟩ ?_ ?_
        · rw[Yas]at a
          have e1:z≠x:=fun e=>by simp_all
          simp[j.apart z a.1,e1]
        · rw[Yct,Yas,decide_eq_true_eq]at a
          rcases a with a|a
          · rcases j.way z a.1 with e1|e1
            · omega
            · exact Or.inr (P.keep g a.2 e1)
          · rw[a]
            rcases M with e1|e1
            · omega
            · refine Or.inr (e1.mono g (fun y hy E _ r=>?_))
              obtain⟨s',F,i⟩:=r;by_cases es:s'=s
              · simp_all;omega
              · rw[D s' es]at i
                have:=(C.sl s' y (Nat.le_of_lt hy)).1 i;exact E (by rw[<-u];exact⟨s',F,this⟩)
        · rw[w]
          refine⟨X.1,fun z a=>?_⟩;rw[Yct,decide_eq_true_eq]at a;rcases a with a|a
          · exact X.2 z a
          · rw[a];exact⟨⟨s,B,v⟩,o⟩
        · rw[w,Y]
          have:(ZZ x s e).jq.length=e.jq.length+1:=by simp[ZZ,Zc]
          omega
end
end
section
def Zd6(c n:Int):Int:=if c<0 then -((c+1).tmod n)else c % n
theorem ZmM(c n:Int)(a:1<=n):0<=Zd6 c n/\Zd6 c n<n:=by
 unfold Zd6;split
 ·rw[<-Int.neg_tmod,Int.tmod_eq_emod_of_nonneg Om];exact⟨Int.emod_nonneg _ Om,Int.emod_lt_of_pos _ Om⟩
 ·exact⟨Int.emod_nonneg _ Om,Int.emod_lt_of_pos _ Om⟩
theorem ZAC(c n:Int)(f : -9223372036854775808<=c)(g:c<=9223372036854775807)(a:1<=n)(i:n<=9223372036854775807)(w:World) :
  CP 9 #[Vi c,Vi n] w fun e u=>e=.returned (Vi (Zd6 c n))/\u=w:=by
 have d:=ZmM c n a;have j:¬n=0:=by omega
 go_enter func9,ntmps9;by_cases h:c<0
 ·have e:Zd6 c n=-((c+1).tmod n):=by unfold Zd6;rw[if_pos h]
  rw[e]at d;rw[e];go_wp2;go_ret;exact⟨rfl,rfl⟩
 ·have e:Zd6 c n=c % n:=by unfold Zd6;rw[if_neg h]
  rw[e]at d;rw[e];go_wp2;go_ret;exact⟨rfl,rfl⟩
def ZdL:List (Nat×Nat)->List Value
 | []=>[]
 | x::l=>.int .i64 x.1::.int .i64 x.2::ZdL l
theorem Zwd(l m:List (Nat×Nat)):ZdL (l++m)=ZdL l++ZdL m:=by
 induction l with
 | nil=>rfl
 | cons a l ih=>simp[ZdL,ih]
theorem Zfm(l:List (Nat×Nat))(j:Nat)(a:j<l.length):(ZdL l)[j*2]?=some (Vi l[j].1)/\(ZdL l)[j*2+1]?=some (Vi l[j].2):=by
 induction l generalizing j with
 | nil=>simp at a
 | cons r l ih=>
  cases j with
  | zero=>exact⟨rfl,rfl⟩
  | succ j=>
   have h:=ih j (by simp_all);rw[show(j+1)*2=j*2+1+1 by omega]
   assumption
def kl(k:Nat):UInt8:=match k with
 | 1=>115
 | 2=>118
 | 3=>114
 | _=>45
theorem BAt.setkM{t:TypeId}(h:BAt w a c t)(i:Nat)(v:Value):BAt (w.setCell ⟨a,i,none⟩ v) a (c.set i v) t:=by
 unfold BAt at h ⊢;simp only[World.setCell,Ybn,h,if_true,Ybf];show some (Obj.cells (c.toArray.setIfInBounds i v) t (0,0))=_;rw[Yc4]
theorem BAt.ownGrownR{t:TypeId}(h:BAt w a c t){e:TypeId}(d:w.ownsRow base e sz v n xs)(f:w.grownBy w' v.ownBlock)(g:t≠e):BAt w' a c t:=
 (f.block a h.lt (Zcx d h g)).trans h
theorem Zsy(s:BA)(p n:Nat):bl (s.extract p (p+n))=sub (bl s) p n:=by
 rw[Zfh,Yc8];unfold sub;congr 1;omega
structure MKeep (w w':World) (mb:Nat) (st:Value):Prop where
 os:w'.os=w.os
 tape:w'.tape=w.tape
 output:w'.output=w.output
 size:w.heap.size<=w'.heap.size
 block:∀k,k<w.heap.size->k≠mb->some k≠st.ownBlock->w'.heap[k]?=w.heap[k]?
theorem MKeep.below{w0:World}(h:MKeep w w' mb st)(a:BW w0 w)(f:w0.heap.size<=mb)(d:∀k,st.ownBlock=some k->w0.heap.size<=k):BW w0 w':=
 ⟨h.os.trans a.os, h.tape.trans a.tape, h.output.trans a.output, Yah a.size h.size, fun k c => by
   rw[h.block k (Yaw c a.size) Om (fun e=>by have:=d k e.symm;omega)];exact a.block k c⟩
def pmC(c0 c1 c2 c3 al:Value)(tm:Int)(st sl gr:Value):List Value:=[c0,c1,c2,c3,al,Vi tm,st,sl,gr]
theorem Tryz.infoIVal:(Tryz.prog.info? 196).map (fun i=>(i.zero,i.size,i.bytes))=some (some .nilIface,1,16):=by kernel_rfl
structure PSt (w:World) (base mb:Nat) (c0 c1 c2 c3 al:Value) (tm:Int) (sl gr:Value) (sa:Option Addr) (sn sc:Nat) (vs:List Value):Prop where
 box:BAt w mb (pmC c0 c1 c2 c3 al tm (.slice sa sn sc) sl gr) 305
 own:w.ownsRow base 196 1 (.slice sa sn sc) sn vs
 len:vs.length=sn
theorem PSt.below{c0 c1 c2 c3 al:Value}(h:PSt w base mb c0 c1 c2 c3 al tm sl gr sa sn sc vs)(a:BW w w'):PSt w' base mb c0 c1 c2 c3 al tm sl gr sa sn sc vs:=⟨h.box.below a,Zn h.own a,h.len⟩
theorem ZzZ{e:TypeId}{g cap:Nat}(h:w.ownsRow base e sz (.slice (some ⟨g,0,none⟩) n cap) n xs)(k:Nat)(c:k<=n):w.ownsRow base e sz (.slice (some ⟨g,0,none⟩) k cap) k (xs.take (k*sz)):=by
 obtain⟨d,a⟩:=h;refine⟨Ya7▸d▸Yc3 (Yc6 _ c),?_⟩;rcases a with ⟨a,_⟩|⟨g',cap',cur,f,i,j,p,l,m,o⟩
 ·cases a
 ·injection f with hv1 hv2 hv3;injection hv1 with hv1;injection hv1 with hv1 _ _;subst hv1 hv3;refine .inr ⟨_,_,cur,rfl,i,j,by omega,l,m,?_⟩;rw[<-o,List.take_take,Yc3 (Yc6 _ c)]
theorem Zfz(w:World){c0 c1 c2 c3 al:Value}(tm:Int)(n:Nat)(v:Value)(h:PSt w base mb c0 c1 c2 c3 al tm sl gr sa (n+1) sc (vs++[v]))(d:n<=64) :
  CP 96 #[Vp mb] w fun e u=>e=.returned v/\Hid (PSt u base mb c0 c1 c2 c3 al tm sl gr sa n sc vs)/\Hid (w.grownBy u (some mb)):=by
 have c:vs.length=n:=by have:=h.len;rw[Yab]at this;simpa using this
 obtain⟨g,cp,a⟩:=ZF h.own Om;injection a with hv1 hv2 hv3;subst hv1 hv3;have m6:w.cell? _=some _:=h.box.cell 6;have mf:=h.box.frozen 6;have k0:=Zi h.own n v (by rw[Yb3 Om,c];simp);have p:=h.box.lt;have q:=Z1 h.own
 have f:n+1<=sc:=by
  rcases h.own.2 with ⟨i,_⟩|⟨g',cap',cur,a,_,_,d,_⟩
  ·cases i
  ·injection a with _ _ hv3;omega
 have j:Hid (PSt _ _ _ _ _ _ _ _ _ _ _ _ n _ _):=hid ⟨h.box.setkM 6 _,by
  have l : (w.setCell ⟨mb, 6, none⟩ (.slice (some ⟨g, 0, none⟩) n sc)).ownsRow _ _ 1 _ _ _ := ZdA h.own (fun k m => Go.Deep.blk_setCell_other _ _ _ _ (by
    rintro rfl;exact Zcx h.own h.box Dc m.symm))
  have:=ZzZ l n Om;rw[Yej,Yec Om,Ya5 Om]at this;exact this,c⟩
 have o:Hid (w.grownBy (w.setCell ⟨mb,6,none⟩ (.slice (some ⟨g,0,none⟩) n sc)) (some mb)):=hid (ZA (ZbM w _) (.inl rfl) _);go_enter func96,ntmps96;go_wp2;go_ret;exact⟨rfl,j,o⟩
theorem PSt.app{wr a:World}{c0 c1 c2 c3 al:Value}(h:PSt wr base mb c0 c1 c2 c3 al tm sl gr sa sn sc vs)(c:BW w wr){ga nc:Nat}
  (d:wr.grownBy a (Value.slice sa sn sc).ownBlock) (g:a.ownsRow base 196 1 (.slice (some ⟨ga,0,none⟩) (sn+1) nc) (sn+1) (vs++[v])) :
  BAt a mb (pmC c0 c1 c2 c3 al tm (.slice sa sn sc) sl gr) 305/\PSt (a.setCell ⟨mb,6,none⟩ (.slice (some ⟨ga,0,none⟩) (sn+1) nc)) base mb c0 c1 c2 c3 al tm sl gr (some ⟨ga,0,none⟩) (sn+1) nc (vs++[v])/\MKeep w (a.setCell ⟨mb,6,none⟩ (.slice (some ⟨ga,0,none⟩) (sn+1) nc)) mb (.slice sa sn sc):=by
 have e:=h.box.ownGrownR h.own d Dc
 refine ⟨e, ⟨e.setkM 6 _, ZdA g (fun k j => Go.Deep.blk_setCell_other _ _ _ _ (by
     rintro rfl;exact Zcx g e Dc j.symm)),by rw[Yab,h.len];rfl⟩,?_⟩
 have f:a.grownBy (a.setCell ⟨mb,6,none⟩ (.slice (some ⟨ga,0,none⟩) (sn+1) nc)) (some mb):=ZA (ZbM _ _) (.inl rfl) _;refine⟨f.os.trans (d.os.trans c.os),f.tape.trans (d.tape.trans c.tape),f.output.trans (d.output.trans c.output),Yah c.size (Yah d.size f.size),fun k i l m=>?_⟩;rw[Go.Deep.blk_setCell_other _ _ _ _ l,d.block k (Yaw i c.size) m];exact c.block k i
theorem Zgm{c0 c1 c2 c3 al:Value}(tm:Int)(sn:Nat)(ty:TypeId)(u:Value)(h:PSt w base mb c0 c1 c2 c3 al tm sl gr sa sn sc vs)(C:sn<=64)(B:base<=w.heap.size) :
  CP 162 #[Vp mb,.iface ty u] w fun e g=>e=.returned (.tuple #[])/\Hid (∃ga nc,PSt g base mb c0 c1 c2 c3 al tm sl gr (some ⟨ga,0,none⟩) (sn+1) nc (vs++[.iface ty u]))/\Hid (MKeep w g mb (.slice sa sn sc)):=by
 obtain⟨i0,x,i,j,k⟩:=info_parts Tryz.infoIVal;have z:=hid h;have f:=h.own;have m6:w.cell? _=some _:=h.box.cell 6;have l:=h.box.lt;have m:Hid (∀o,PSt (w.alloc o) base mb c0 c1 c2 c3 al tm sl gr sa sn sc vs):=hid (fun o=>z.below Zbal);go_enter func162,ntmps162
 go_wp2_with (at_builtin;refine wpList_append_own _ rfl (.tmp 8) (.tmp 10) 303 rfl base 196 i0 .nilIface 1 16 underlying303 x i j k rfl Dc _ _ _ rfl (f.alloc _) ⟨w.heap.size,0,none⟩ 1 1 [.iface ty u] rfl rfl ?c1 ?c2 ?c3 ?c4 ?c5 ?_)
 (try case c1=>exact cell_one_new _ _ _)
 case c2=>first|rfl|(intro u n;simp at n;subst n;rfl)
 case c3=>unfold maxLen;omega
 case c4=>omega
 case c5=>first|omega|(simp;omega)
 intro v' A a d _;obtain⟨g3,cp3,p⟩:=ZF a Om;subst p;obtain⟨q,r,s⟩:=(m.out _).app (w:=w) Zbal (by exact d) a;have c:=hid q;have t:=hid r;have v:=hid s;have m6:A.cell? _=some _:=c.cell 6;have mf:=c.frozen 6;have l:=c.lt;go_wp2;exact bodyPost_end (results_none rfl _ _ _) rfl ⟨rfl,hid ⟨_,_,t⟩,v⟩
open Go.ChangeMaps (setBlock)
structure MapI (w:World) (x:Nat) (gs:List (Nat×Value)) (es:Array MapEntry) (clock:Nat):Prop where
 heap:w.heap[x]?=some (.map es clock)
 stm:MapKept.Stamped es clock
 kv:es.toList.map (fun e=>(e.key,e.val))=gs.map (fun g=>(Value.int .i64 g.1,g.2))
 sz:∀g∈gs,g.1<16
theorem wf16(h:j<16):(Lit.int .i64 (j:Int)).wf=true:=by
 rcases(by omega:j=0∨j=1∨j=2∨j=3∨j=4∨j=5∨j=6∨j=7∨j=8∨j=9∨j=10∨j=11∨j=12∨j=13∨j=14∨j=15)with rfl|rfl|rfl|rfl|rfl|rfl|rfl|rfl|rfl|rfl|rfl|rfl|rfl|rfl|rfl|rfl <;> rfl
theorem MapI.len(h:MapI w x gs es clock):es.size=gs.length:=by
 have:=congrArg List.length h.kv
 simp_all
theorem MapI.at(h:MapI w x gs es clock){e:MapEntry}(c:es.toList[j]?=some e):∃d:j<gs.length,e.key=Vi gs[j].1/\e.val=gs[j].2:=by
 have f:(es.toList.map (fun e=>(e.key,e.val)))[j]?=(gs.map (fun g=>(Value.int .i64 g.1,g.2)))[j]?:=by rw[h.kv]
 rw[Ya2,c,Ya2]at f
 have d:j<gs.length:=by
  rcases Yav j gs.length with a|a
  ·exact a
  ·simp_all
 simp_all
theorem MapI.keys   {gs : List (Nat × Value)}   (h : MapI w x gs es clock) : ∀ e ∈ es.toList, ∃ l, keyOf prog 3 e.key = some l := fun e a => by
  obtain⟨j,c⟩:=Yd9 a;obtain⟨f,d,_⟩:=h.at c;rw[d];exact⟨_,Maps.keyOf_int_mk underlying3 (wf16 (h.sz _ (List.getElem_mem _)))⟩
theorem MapI.moved(h:MapI w x gs es clock)(a:w'.heap[x]?=w.heap[x]?):MapI w' x gs es clock:=⟨a.trans h.heap,h.stm,h.kv,h.sz⟩
theorem ZpW{b:Nat}(h:Value.int .i64 (a:Int)=Vi (b:Int)):a=b:=by
 simp_all;omega
theorem MapI.find(h:MapI w x gs es clock)(k:Nat)(u:k<16) :
  ((∀W:World,(Instr.findKey 3 (Vi k) es.toList).run prog W=.ok none W)/\(∀g∈gs,g.1≠k)/\∀e∈es.toList,e.key≠.int .i64 k)∨
  ∃j,∃p:j<gs.length,gs[j].1=k/\(∀i (l:i<gs.length),i≠j->gs[i].1≠k)/\∃e,es.toList[j]?=some e/\e.key=Vi k/\e.val=gs[j].2/\∀W:World,(Instr.findKey 3 (Vi k) es.toList).run prog W=.ok (some (j,e.val)) W:=by
 have K:=Maps.int_keyed (P:=prog) (k:=3) underlying3;have d:=Maps.keyOf_int_mk (P:=prog) (k:=3) underlying3 (wf16 u);rcases K.find w d es.toList h.keys with ⟨v,a⟩|⟨j,e,v,a,o⟩
 ·left
  refine⟨fun W=>?_,fun g z A=>?_,a⟩
  ·rcases K.find W d es.toList h.keys with ⟨k1,_⟩|⟨j,e,k1,k2,k3⟩
   ·exact k1
   ·exact absurd k3 (a e (Ycq k2))
  ·obtain⟨i,l,rfl⟩:=List.mem_iff_getElem.1 z;have c:i<es.toList.length:=by rw[Ybl,h.len];exact l
   obtain⟨_,e1,_⟩:=h.at (List.getElem?_eq_getElem c)
   simp_all
 ·right
  obtain⟨p,e1,e2⟩:=h.at a;rw[o]at e1;have q:gs[j].1=k:=(ZpW e1).symm;have m:=h.stm.2.2
  have f : ∀ i (l : i < gs.length), i ≠ j -> gs[i].1 ≠ k := fun i l B A => by
    have c:i<es.toList.length:=by rw[Ybl,h.len];exact l
    have n:j<es.toList.length:=(Ycm.1 a).1;obtain⟨_,f1,_⟩:=h.at (List.getElem?_eq_getElem c)
    have e3:es.toList[j]=e:=Yax ((List.getElem?_eq_getElem n).symm.trans a);rw[List.Nodup,Ybx,List.pairwise_iff_getElem]at m;rcases Yav i j with r|r
    · exact m i j c n r (by simp_all)
    · exact m j i n c Om (by simp_all)
  refine⟨j,p,q,f,e,a,o,e2,fun W=>?_⟩;rcases K.find W d es.toList h.keys with ⟨_,k2⟩|⟨j',e',k1,k2,k3⟩
  ·exact absurd o (k2 e (Ycq a))
  ·obtain⟨s,f1,f2⟩:=h.at k2;rw[k3]at f1
   have:j'=j:=by
    refine Yb6 fun t=>f j' s t ?_;exact(ZpW f1).symm
   simp_all
def getI(gs:List (Nat×Value))(k:Nat):Option Value:=(gs.find? fun g=>g.1=k).map (·.2)
theorem Zwv(h:∀g∈gs,g.1≠k):getI gs k=none:=by
 unfold getI
 simp_all;omega
theorem ZpC:∀ {gs:List (Nat×Value)} {k j:Nat} (a:j<gs.length),gs[j].1=k->(∀i (d:i<gs.length),i≠j->gs[i].1≠k)->getI gs k=some gs[j].2
 | [],k,j,a,_,_=>absurd a (Ya1 _)
 | g::gs,k,0,a,h,_=>by unfold getI;simp_all
 | g :: gs, k, j + 1, a, h, c => by
   have f:g.1≠k:=c 0 (by simp) Om;have:=ZpC (j:=j) (by simpa using a) h (fun i d e=>c (i+1) (by simp_all) Om);unfold getI at this ⊢
   simp_all
theorem ZyF(h:MapI w x gs es clock)(f:k<16)(a:getI gs k=some v)(W:World)(l:W.heap[x]?=w.heap[x]?) :
  (Instr.lookup 302 (.map (some x)) (Vi k) false).run prog W=.ok v W:=by
 have K:=Maps.int_keyed (k:=3) underlying3;have c:=Maps.keyOf_int_mk (k:=3) underlying3 (wf16 f);rcases h.find k f with ⟨_,d,_⟩|⟨j,o,m,d,e,p,q,n,g⟩
 ·rw[Zwv d]at a;cases a
 ·rw[ZpC _ m d]at a;have i:=Yax a;rw[n,i]at g;simp[Instr.lookup,run_underlying _,Ybt (l.trans h.heap),K.check W _ c,g W,Result.andThen]
theorem Zwu(k:Nat)(v:Value)(h:∀g∈gs,g.1≠k)(i:Nat):getI (gs++[(k,v)]) i=if k=i then some v else getI gs i:=by
 unfold getI;rw[List.find?_append];by_cases e:k=i
 ·subst e;rw[if_pos rfl,Yc2.2 (fun g a=>by simpa using h g a)];simp
 simp_all
theorem ZpD:∀ {gs:List (Nat×Value)} {k j:Nat} (a:j<gs.length) (v:Value),gs[j].1=k->(∀i (d:i<gs.length),i≠j->gs[i].1≠k)->∀i,getI (gs.set j (k,v)) i=if k=i then some v else getI gs i
 | [],k,j,a,_,_,_,_=>absurd a (Ya1 _)
 | g :: gs, k, 0, a, v, h, _, i => by
   have h:g.1=k:=h;unfold getI;split<;>simp_all
 | g :: gs, k, j + 1, a, v, h, c, i => by
   have l:g.1≠k:=c 0 (by simp) Om;have ih:=ZpD (j:=j) _ v h (fun i d f=>c (i+1) (by simp_all) Om) i;unfold getI at ih ⊢;rw[Ydx];by_cases e:g.1=i
   · simp_all;omega
   simp_all
theorem ZDF(h:MapI w x gs es clock)(n:k<16)(v:Value) :
  ∃(es':Array MapEntry) (cl':Nat) (gs':List (Nat×Value)),(∀W:World,W.heap[x]?=w.heap[x]?->(Instr.mapUpdate 302 (.map (some x)) (Vi k) v).run prog W=.ok () (setBlock W x (.map es' cl')))/\(∀W:World,x<W.heap.size->MapI (setBlock W x (.map es' cl')) x gs' es' cl')/\∀i,getI gs' i=if k=i then some v else getI gs i:=by
 have K:=Maps.int_keyed (k:=3) underlying3;have c:=Maps.keyOf_int_mk (k:=3) underlying3 (wf16 n);rcases h.find k n with ⟨g,l,f⟩|⟨j,u,r,l,e,f,s,A,g⟩
 ·refine⟨es.push ⟨.int _ k,v,clock⟩,clock+1,gs++[(k,v)],fun W d=>?_,fun W m=>⟨by simp[setBlock,m],MapKept.stamped_push h.stm f,?_,fun z a=>?_⟩,Zwu k v l⟩
  ·simp[Instr.mapUpdate,run_underlying _,Ybt (d.trans h.heap),K.check W _ c,g W,Ych _ (d.trans h.heap),Result.andThen,setBlock]
  ·rw[Yeu,Yaq,Yaq,h.kv];rfl
  ·rcases Yar.1 a with a|a
   ·exact h.sz z a
   simp_all
 ·have o:((es[j]?).map (·.key)).getD (Vi k)=Vi k:=Yb2▸f▸s;refine⟨es.modify j fun e=>{ e with key:=Vi k,val:=v },clock,gs.set j _,fun W d=>?_,fun W m=>⟨by simp[setBlock,m],MapKept.stamped_modify h.stm j _ (fun _ _=>rfl) (fun e' _ t=>?_),?_,fun z a=>?_⟩,ZpD _ v r l⟩
  ·simp[Instr.mapUpdate,run_underlying _,Ybt (d.trans h.heap),K.check W _ c,g W,o,K.stays W c,Ych _ (d.trans h.heap),Result.andThen,setBlock]
  ·simp_all
  ·rw[Yd8,<-h.kv];apply Ycs;intro i;rw[Ya2,Array.toList_modify,List.getElem?_modify,Ya0];by_cases p:j=i
   ·subst p;have q:j<es.size:=by have:=(Ycm.1 f).1;simpa using this
    simp[q]
   simp_all
  ·rcases Yck a with a|a
   ·exact h.sz z a
   simp_all
theorem ZuC(h:w.heap[x]?=some (.map es clock))(T:TypeId):(Builtin.clear_ #[302] T #[.map (some x)]).run prog w=.ok (.tuple #[]) (setBlock w x (.map #[] clock)):=by
 simp[Builtin.clear_,run_underlying _,Ybt h,Ych _ h,Result.andThen,setBlock]
