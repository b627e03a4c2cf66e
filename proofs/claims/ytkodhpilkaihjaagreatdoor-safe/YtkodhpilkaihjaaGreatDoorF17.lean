/- Parts. -/
import Derived.Test.YtkodhpilkaihjaaGreatDoorF16
import Derived.Test.YtkodhpilkaihjaaGreatDoorF08
set_option linter.all false
set_option maxRecDepth 100000
set_option maxHeartbeats 16000000
namespace Go.Proofs.YtkodhpilkaihjaaGreatDoor
open Go.RowKit LS Go.Proofs.Tryz
variable {ok:Bool}{fn:Func}{m:Int}{l:LB}{b x y:Nat}{A:Nat->Addr}{a:Nd}{r:Option (Nd×Nat)}{p q t:Tr}{u v:Value}{w w' w0:World}
section
theorem Zop:∀xs:List (LB),([44]:LB).intercalate xs=commas xs
 | []=>rfl
 | [a]=>by simp[List.intercalate,commas]
 | a :: b :: l => by
   have ih:=Zop (b::l);rw[ZhX,<-ih];simp[List.intercalate]
theorem ZlV(la:Option Addr)(ln lc:Nat)(ns:List (LB))(h:Zbm w (.slice la ln lc) ns)(v:nw ns<=1000000) :
  CP 96 #[.slice la ln lc,.string ⟨#[44]⟩] w fun e u=>∃s:BA,e=.returned (.string s)/\Hid (bl s=commas ns)/\BW w u:=by
 obtain⟨bs,a,d⟩:=h;have m:ln=bs.length:=by obtain⟨_,_,e⟩:=Zl a;injection e
 subst m;by_cases k:bs.length=0
 ·rw[k];refine(strings_Join_none la lc ⟨#[44]⟩ w).mono ?_;rintro e u ⟨rfl,rfl⟩;have:bs=[]:=Ya3 k;subst this;exact⟨_,rfl,hid (by rw[<-d];rfl),Yaf _ _⟩
 ·obtain⟨g,cp,n⟩:=ZF a Om;injection n with hg1 _ hg2;subst hg1 hg2
  have f:Lib.join (bs.map (·.data.toList)) [44]=commas ns:=by
   rw[<-d];exact Zop _
  have r:=ZeS ns
  have i:bs.length<=lc:=by
   rcases a.2 with ⟨e,_⟩|⟨g',cap,cur,e,_,_,o,_⟩
   ·cases e
   ·injection e with _ _ e;subst e;exact o
  have t:bs.length<=1000000:=by
   have p:bs.length<=nw (bs.map bl):=by
    clear f i a d k
    induction bs with
    | nil=>exact Yag _
    | cons c l ih=>simp only[Ybb,nw,Yaj];omega
   rw[d]at p;omega
  refine(strings_Join g 0 lc bs ⟨#[44]⟩ w ?_ (Z1 a) Om i (by show(Lib.join (bs.map (·.data.toList)) [44]).length<=_;rw[f];omega)).mono ?_
  ·intro j x f;rw[Ycf];exact Zi a j _ (by show(bs.map Value.string)[j]?=_;rw[Ya2,f];rfl)
  ·rintro e u ⟨rfl,q⟩;exact⟨_,rfl,hid (by show bl (ByteArray.mk (Lib.join (bs.map (·.data.toList)) [44]).toArray)=_;rw[ZbF,f]),q⟩
theorem ZsJ(d:a.jj=4∨a.jj=6)(e:a.jj=4->a.op<=3):Zdb (opNo a)+1=Zz a/\opNo a<=4:=by
 rcases d with h|h
 ·have f:=e h;have e1:opNo a=a.op+1:=by unfold opNo;rw[if_neg Om]
  have e2:Zz a=if a.op<2 then 2 else 3:=by unfold Zz;rw[if_neg Om,if_pos h]
  rw[e1,e2];refine⟨?_,by omega⟩;unfold Zdb;rw[if_neg Om];by_cases c:a.op<2
  ·rw[if_pos c,if_pos Om]
  ·rw[if_neg c,if_neg Om]
 ·have e1:opNo a=0:=by unfold opNo;rw[if_pos h]
  have e2:Zz a=1:=by unfold Zz;rw[if_pos h]
  rw[e1,e2];exact⟨rfl,by omega⟩
theorem Zvl(c:a.jj=4∨a.jj=6)(d:a.jj=4->a.op<=3)(pl pr:Nat->LB):Zbv a pl pr=pl (Zz a)++[32]++Ze5 (opNo a)++[32]++pr (Zz a+1):=by
 unfold Zbv;rw[if_neg Om,if_neg Om,if_neg Om,if_neg Om,if_neg Om];rcases c with h|h
 ·rw[if_neg Om];have:=d h
  have e:opS a.op=Ze5 (opNo a):=by
   unfold opNo;rw[if_neg Om];rcases(by omega:a.op=0∨a.op=1∨a.op=2∨a.op=3)with h|h|h|h <;> rw[h] <;> rfl
  rw[e]
 ·have e:Zz a=1:=by unfold Zz;rw[if_pos h]
  rw[if_pos h,e];unfold opNo Ze5;rw[if_pos h,if_pos rfl];simp
theorem ZA5 (W : World)  : CP 345 #[v] W fun e u => e = .returned (Vi 3) /\ BW W u := by
  go_enter func345,ntmps345;go_wp2
  all_goals
    go_ret;exact⟨rfl,belB⟩
theorem ZA4 (W : World)  : CP 346 #[v] W fun e u => e = .returned (Vi 3) /\ BW W u := by
  go_enter func346,ntmps346;go_wp2
  all_goals
    go_ret;exact⟨rfl,belB⟩
theorem ZA7 (W : World)  : CP 347 #[v] W fun e u => e = .returned (Vi 3) /\ BW W u := by
  go_enter func347,ntmps347;go_wp2
  all_goals
    go_ret;exact⟨rfl,belB⟩
theorem ZA8 (W : World)  : CP 349 #[v] W fun e u => e = .returned (Vi 3) /\ BW W u := by
  go_enter func349,ntmps349;go_wp2
  all_goals
    go_ret;exact⟨rfl,belB⟩
theorem ZA6 (W : World)  : CP 348 #[v] W fun e u => e = .returned (Vi 3) /\ BW W u := by
  go_enter func348,ntmps348;go_wp2
  all_goals
    go_ret;exact⟨rfl,belB⟩
theorem ZrK (W : World) (o : Nat) (a : o <= 4) (ty1 ty2 : TypeId) (u1 u2 : Value) : CP 132 #[.agg #[Vi o, .iface ty1 u1, .iface ty2 u2]] W fun e u => e = .returned (Vi (Zdb o)) /\ BW W u := by
  have c:BW W (W.alloc (.cells #[Vi o,.iface ty1 u1,.iface ty2 u2] 268)):=Zbal;go_enter func132,ntmps132
  go_wp2_with (go_at_call 125;refine(Zm0 o a).mono ?_;rintro e d ⟨rfl,rfl⟩)
  go_ret;exact⟨rfl,c⟩
theorem mN  (w : World) : (Go.method 620 270 v "gauge/syntax.rank").run Tryz.prog w = .ok (345, v) w := by kernel_rfl
theorem mG  (w : World) : (Go.method 620 272 v "gauge/syntax.rank").run Tryz.prog w = .ok (346, v) w := by kernel_rfl
theorem mU (v : Value) (w : World) : (Go.method 620 274 v "gauge/syntax.rank").run Tryz.prog w = .ok (347, v) w := by kernel_rfl
theorem mW  (w : World) : (Go.method 620 283 v "gauge/syntax.rank").run Tryz.prog w = .ok (349, v) w := by kernel_rfl
theorem mS  (w : World) : (Go.method 620 281 v "gauge/syntax.rank").run Tryz.prog w = .ok (348, v) w := by kernel_rfl
theorem mP  (w : World) : (Go.method 620 268 v "gauge/syntax.rank").run Tryz.prog w = .ok (132, v) w := by kernel_rfl
theorem ZAk    {l r : Tr}  (h : Zh w (.node x y a l r) v) (ho : a.jj = 4 → a.op ≤ 3) : ∃ (ty : TypeId) (u : Value) (f : FuncId), v = .iface ty u ∧ (∀ W, (Go.method 620 ty u "gauge/syntax.rank").run Tryz.prog W = .ok (f, u) W) ∧ (∀ W, (callFunc f #[u]).run Tryz.prog W = .ok (.enter f #[u]) W) ∧ (∀ W, Calls Tryz.prog f #[u] W fun e w' => e = .returned (.int .i64 ((Zz a - 1 : Nat) : Int)) ∧ Below W.heap.size W w') := by
  have h4:a.jj<=3∨a.jj=5->Zz a - 1=3:=by
    intro h;unfold Zz;rw[if_neg Om,if_neg Om]
  rcases h with ⟨hk,rfl⟩|⟨hk,nm,la,ln,lc,rfl,_⟩|⟨hk,wd,nm,la,ln,lc,rfl,_⟩|⟨hk,z,rfl,hz⟩|⟨hk,wd,la,ln,lc,z,rfl,_,_,hz⟩|⟨hk,z1,z2,rfl,hz1,hz2⟩
  · exact⟨_,_,_,rfl,fun W=>mN W,fun W=>by kernel_rfl,fun W=>by rw[h4 Om];exact ZA5 W⟩
  · exact⟨_,_,_,rfl,fun W=>mS W,fun W=>by kernel_rfl,fun W=>by rw[h4 Om];exact ZA6 W⟩
  · exact⟨_,_,_,rfl,fun W=>mW W,fun W=>by kernel_rfl,fun W=>by rw[h4 Om];exact ZA8 W⟩
  · exact⟨_,_,_,rfl,fun W=>mG W,fun W=>by kernel_rfl,fun W=>by rw[h4 Om];exact ZA4 W⟩
  · exact⟨_,_,_,rfl,fun W=>mU _ W,fun W=>by kernel_rfl,fun W=>by rw[h4 Om];exact ZA7 W⟩
  · obtain⟨t1,u1,rfl⟩:=Zh.shape hz1
    obtain⟨t2,u2,rfl⟩:=Zh.shape hz2;have ht:=ZsJ hk ho;exact⟨_,_,_,rfl,fun W=>mP W,fun W=>by kernel_rfl,fun W=>by rw[show Zz a - 1=Zdb (opNo a) by omega];exact ZrK W _ ht.2 _ _ _ _⟩
def WC(t:Tr):Prop:=∀(w:World) (v:Value) (B b:Nat) (l:LB),Zh w t v->WB w B b l->ZR w->20<=B->l.length+wT t<=big->
 CP 72 #[Vp b,v] w fun e w'=>e=.returned (.tuple #[])/\Hid (WB w' B b (l++Zu t 1))/\Hid (WK B b w w')
def WW(t:Tr):Prop:=∀(w:World) (v:Value) (B b:Nat) (l:LB) (j:Nat),Zh w t v->WB w B b l->ZR w->20<=B->l.length+wT t+2<=big->
 CP 131 #[Vp b,v,Vi j] w fun e w'=>e=.returned (.tuple #[])/\Hid (WB w' B b (l++Zu t (j+1)))/\Hid (WK B b w w')
theorem Zd7{l r:Tr} : Zu (.node x y a l r) 1=Zbv a (Zu l) (Zu r):=by
 show ZeK (decide (Zz a<1)) _=_;rw[decide_eq_false (by unfold Zz;split <;> (try split) <;> (try split) <;> omega)];rfl
theorem Ztc(d:wfT t)(h:WC t):WW t:=by
 intro w v B b l j r P Q R F
 match t,d,h,r,F with
 | .node x y a p q,d,h,r,F=>
  obtain⟨ty,u,f,rfl,hm,S,T⟩:=ZAk r d.2.2.1;have HP:Hid (Zh w (.node x y a p q) (.iface ty u)):=r;have U:Hid (WB w B b l):=P;have V:Hid (ZR w):=Q;have G:Hid (20<=B):=R;have H:Hid (l.length+wT (.node x y a p q)+2<=big):=F;have HC:Hid (∀W,CP f #[u] W fun e w'=>e=.returned (Vi ((Zz a - 1:Nat):Int))/\BW W w'):=T;have I:Hid (1<=Zz a):=hid (by unfold Zz;split <;> (try split) <;> (try split) <;> omega)
  have J:Hid ((Zu (.node x y a p q) 1).length+2<=wT (.node x y a p q)):=hid (by
   rw[Zd7];exact Zow d.2.2.2.2.2.1 (fun m=>Zfy p m d.2.2.2.2.2.2.2.2.2.2.1) (fun m=>Zfy q m d.2.2.2.2.2.2.2.2.2.2.2))
  clear T r P Q R F;go_enter func131,ntmps131
  go_wp2_with fail
  refine(HC.out w).mono ?_;rintro e s ⟨rfl,i⟩;have A:Hid (Zh s (.node x y a p q) (.iface ty u)):=HP.below i;have k:Hid (WB s B b l):=U.below i;have n:Hid (WK B b w s):=WK.below i U.le;have K:Hid (ZR s):=V.low n.low G.out;clear i hm S;obtain⟨rk,C⟩:∃rk,rk=Zz a - 1:=⟨_,rfl⟩
  rw[<-C];by_cases a2:(j:Int)<=rk
  ·have O:Hid (Zu (.node x y a p q) (j+1)=Zu (.node x y a p q) 1):=hid (by
    rw[Zd7];show ZeK (decide (Zz a<j+1)) _=_;rw[decide_eq_false (by have:=I.out;omega)];rfl)
   clear C
   go_wp2_with fail
   refine(h s _ B b l A.out k.out K.out G.out (by have:=H.out;omega)).mono ?_;rintro e z ⟨rfl,o,c⟩;have g:Hid (WK B b w z):=n.trans c.out;clear c;go_wp2;exact bodyPost_ret (v:=.tuple #[]) (results_none rfl _ _ _) rfl ⟨rfl,by rw[O.out];exact o,g⟩
  ·have O:Hid (Zu (.node x y a p q) (j+1)=[40]++Zu (.node x y a p q) 1++[41]):=hid (by
    rw[Zd7];show ZeK (decide (Zz a<j+1)) _=_;rw[decide_eq_true (by have:=I.out;omega)];rfl)
   clear C
   go_wp2_with fail
   refine(Zda k.out ⟨#[40]⟩ (by have X:=H.out;have h2:=J.out;show _+1<=_;omega)).mono ?_;rintro e z ⟨rfl,o,c⟩;have g:Hid (WK B b w z):=n.trans c.out;have L:Hid (Zh z (.node x y a p q) (.iface ty u)):=hid (Zh.wrote k.out c.out A.out);have M:Hid (ZR z):=V.low g.low G.out;clear c A k n K
   go_wp2_with fail
   refine(h z _ B b _ L.out o.out M.out G.out (by rw[Yab,Zd];have X:=H.out;show _+1+_<=_;omega)).mono ?_;rintro e w3 ⟨rfl,Y,D⟩;have Z:Hid (WK B b w w3):=g.trans D.out;clear D L o g M
   go_wp2_with fail
   refine(Zda Y.out ⟨#[41]⟩ (by simp only[Yab,Zd];have X:=H.out;have h2:=J.out;show _+1+_+1<=_;omega)).mono ?_;rintro e w4 ⟨rfl,N,E⟩;have a0:Hid (WK B b w w4):=Z.trans E.out
   have a1:Hid (WB w4 B b (l++Zu (.node x y a p q) (j+1))):=hid (by
    rw[O.out];have:=N.out;simp only[Yan]at this ⊢;exact this)
   clear E N;go_wp2
   go_end0
   exact⟨rfl,a1,a0⟩
attribute [local go_sem ↓] Go.wp_at_zero Go.wp_at_succ
attribute [local go_sem] ZhB ZkO ZkP ZkN ZkQ ZiT ZhA Zhz ZkL ZkK ZkM ZiS ZgB ZgA ZgC ZkR ZkS ZiU Zhx Zhw Zhy Zhv ZkJ ZiR ZhJ ZhI ZhK ZhH ZhL ZiV ZhE ZhD ZhF ZhC ZhG ZgD
theorem Zvi(h:a.jj=0)(pl pr:Nat->LB):Zbv a pl pr=decS a.n.toNat:=by unfold Zbv;rw[if_pos h]
theorem Zvj(h:a.jj=1)(pl pr:Nat->LB):Zbv a pl pr=selS a:=by unfold Zbv;rw[if_neg Om,if_pos h]
theorem Zvk(h:a.jj=2)(pl pr:Nat->LB):Zbv a pl pr=Z0.getD a.op []++[40]++selS a++[91]++decS a.n.toNat++[93,41]:=by unfold Zbv;rw[if_neg Om,if_neg Om,if_pos h]
theorem Zvh(h:a.jj=3)(pl pr:Nat->LB):Zbv a pl pr=[45]++pl 4:=by unfold Zbv;rw[if_neg Om,if_neg Om,if_neg Om,if_pos h]
theorem Zvg(h:a.jj=5)(pl pr:Nat->LB):Zbv a pl pr=ZW.getD a.op []++[32,98,121,32,40]++commas a.by_++[41,32,40]++pl 1++[41]:=by unfold Zbv;rw[if_neg Om,if_neg Om,if_neg Om,if_neg Om,if_pos h]
theorem ZoL{n:Int}(h:n<=1000000000):(decS n.toNat).length<=10:=by
 refine ZhZ 9 _ ?_;have a:n.toNat<=1000000000:=by omega
 have c:(10:Nat) ^ 10=10000000000:=by decide
 omega
theorem ZET(c:wfT (.node x y a p q))(k:a.jj=0)(w:World)(B b:Nat)(l:LB)(m:WB w B b l)(o:ZR w)(r:20<=B)(K:l.length+wT (.node x y a p q)<=big) :
  CP 72 #[Vp b,.iface 270 (.agg #[Vi a.n])] w fun e u=>e=.returned (.tuple #[])/\Hid (WB u B b (l++Zu (.node x y a p q) 1))/\Hid (WK B b w u):=by
 have t:Hid (Zu (.node x y a p q) 1=decS a.n.toNat):=hid (by rw[Zd7,Zvi k]);have v:Hid (WB w B b l):=m;have L:Hid (ZR w):=o;have M:Hid (20<=B):=r;have h:Hid (0<=a.n/\a.n<=1000000000):=⟨c.2.2.2.2.1,c.2.2.2.2.2.1⟩
 have N:Hid (l.length+24<=big):=hid (by have O:ownW a+wT p+wT q=wT (.node x y a p q):=rfl;unfold ownW at O;omega);obtain⟨n,A⟩:∃n,n=a.n:=⟨_,rfl⟩
 rw[<-A]at h t ⊢;clear m o r K c k A;go_enter func72,ntmps72
 go_wp2_with fail
 refine Zm fun W C=>?_;have d:BW w W:=by rw[C];exact Zbal
 have i:Hid (WB W B b l):=v.below d;have j:Hid (WK B b w W):=WK.below d v.le;have D:Hid (ZR W):=L.low j.low M.out;clear C d;refine(ZlT D.out n h.1 h.2).mono ?_;rintro e E ⟨s,rfl,F,f⟩;have G:Hid (WB E B b l):=i.below f;have H:Hid (WK B b w E):=j.trans (WK.below f i.le);clear f
 go_wp2_with fail
 refine(Zda G.out s (by rw[ZU F.out];have:=ZoL h.2;have:=N.out;omega)).mono ?_;rintro e z ⟨rfl,I,g⟩;have J:Hid (WK B b w z):=H.trans g.out;clear g;go_wp2
 go_end0
 exact⟨rfl,by rw[t.out,<-F.out];exact I,J⟩
theorem ZEV(g:a.jj=1)(nm:BA)(la:Option Addr)(ln lc:Nat)(w:World)(f:bl nm=a.name)(h:ZX w (.slice la ln lc) a.kq)(B b:Nat)(l:LB)(i:WB w B b l)(v:l.length+wT (.node x y a p q)<=big) :
  CP 72 #[Vp b,.iface 281 (.agg #[.string nm,.slice la ln lc])] w fun e u=>e=.returned (.tuple #[])/\Hid (WB u B b (l++Zu (.node x y a p q) 1))/\Hid (WK B b w u):=by
 have A:Hid (Zu (.node x y a p q) 1=selS a):=hid (by rw[Zd7,Zvj g]);have j:Hid (WB w B b l):=i;have k:Hid (bl nm=a.name):=f;have C:Hid (ZX w (.slice la ln lc) a.kq):=h;have D:Hid (l.length+a.name.length+cw a.kq+10<=big):=hid (by have E:ownW a+wT p+wT q=wT (.node x y a p q):=rfl;unfold ownW at E;omega);clear i v g f h;go_enter func72,ntmps72
 go_wp2_with fail
 refine Zm fun W m=>?_;have c:BW w W:=by rw[m];exact Zbal
 have n:Hid (WB W B b l):=j.below c;have o:Hid (WK B b w W):=WK.below c j.le;have r:Hid (ZX W (.slice la ln lc) a.kq):=C.below c;clear m c;refine(Ztq n.out nm la ln lc a k.out r.out D.out).mono ?_;rintro e z ⟨rfl,s,d⟩;have t:Hid (WK B b w z):=o.trans d.out;clear d;go_wp2
 go_end0
 exact⟨rfl,by rw[A.out];exact s,t⟩
theorem ZEW(j:wfT (.node x y a p q))(O:a.jj=2)(c nm:BA)(la:Option Addr)(ln lc:Nat)(w:World)(k:bl c=Z0.getD a.op [])(E:bl nm=a.name)(P:ZX w (.slice la ln lc) a.kq)(B b:Nat)(l:LB)(Q:WB w B b l)(R:ZR w)(S:20<=B)(hl:l.length+wT (.node x y a p q)<=big) :
  CP 72 #[Vp b,.iface 283 (.agg #[.string c,.string nm,.slice la ln lc,Vi a.n])] w fun e u=>e=.returned (.tuple #[])/\Hid (WB u B b (l++Zu (.node x y a p q) 1))/\Hid (WK B b w u):=by
 have T:Hid (Zu (.node x y a p q) 1=bl c++[40]++selS a++[91]++decS a.n.toNat++[93,41]):=hid (by rw[Zd7,Zvk O,k]);have U:Hid (WB w B b l):=Q;have HT:Hid (ZR w):=R;have HB:Hid (20<=B):=S;have D:Hid (0<=a.n/\a.n<=1000000000):=⟨j.2.2.2.2.1,j.2.2.2.2.2.1⟩
 have V:Hid (bl nm=a.name):=E;have HC:Hid (ZX w (.slice la ln lc) a.kq):=P;have a7:c.size<=5:=by rw[ZU k];exact Zh5 Z0 Dc a.op
 have M:Hid (l.length+a.name.length+cw a.kq+24<=big):=hid (by have h1:ownW a+wT p+wT q=wT (.node x y a p q):=rfl;unfold ownW at h1;omega);have X:Hid ((selS a).length<=a.name.length+cw a.kq+2):=hid (Zr7 a);obtain⟨n,Y⟩:∃n,n=a.n:=⟨_,rfl⟩
 rw[<-Y]at D T ⊢;have a1:∀W,(Op.stringOp .add c ⟨#[40]⟩).run prog W=.ok (.string (c++⟨#[40]⟩)) W:=fun W=>run_string_add_sum W _ _ (by show c.size+1<=_;omega);have m:Hid ((c++⟨#[40]⟩:BA).size=c.size+1):=hid (by rw[Yaz];rfl);clear Q R S hl j O Y k E P;go_enter func72,ntmps72
 go_upto_region 20 with fail
 refine ZP fun W N=>?_;have g:BW w W:=by rw[N];exact Zbal
 have o:Hid (BAt W w.heap.size [.string c,.string nm,.slice la ln lc,Vi n] 283):=hid (by rw[N];exact Go.Deep.blk_alloc_new _ _);have h:Hid (WB W B b l):=U.below g;have F:Hid (WK B b w W):=WK.below g U.le;have G:Hid (ZX W (.slice la ln lc) a.kq):=HC.below g;clear N g;have p0:=o.cell 0;simp only[Ycy]at p0
 go_wp2_with fail
 refine(Zda h.out _ (by rw[m.out];have:=M.out;omega)).mono ?_;rintro e Z ⟨rfl,r,d⟩;have H:Hid (WK B b w Z):=F.trans d.out;have i:=hid (WK.bat h.out d.out o.out Dc Dc);have I:Hid (ZX Z (.slice la ln lc) a.kq):=hid (G.wrote h.out d.out);clear d p0 o h F G;have p1:=i.cell 1;have p2:=i.cell 2;simp only[Zget]at p1 p2
 go_wp2_with fail
 refine(Ztq r.out nm la ln lc a V.out I.out (by rw[Yab,Zd,m.out];have:=M.out;omega)).mono ?_;rintro e z ⟨rfl,t,f⟩;have v:Hid (WK B b w z):=H.trans f.out;have a0:=hid (WK.bat r.out f.out i.out Dc Dc);have J:Hid (ZR z):=HT.low v.low HB.out;clear f p1 p2 i r H I;have p3:=a0.cell 3;simp only[Zget]at p3
 go_wp2_with fail
 refine(ZlT J.out n D.1 D.2).mono ?_;rintro e w3 ⟨s,rfl,hs,A⟩;have a2:=hid (t.below A);have a3:Hid (WK B b w w3):=v.trans (WK.below A t.le);have a8:s.size<=10:=by rw[ZU hs.out];exact ZoL D.2
 have b1:∀W,(Op.stringOp .add ⟨#[91]⟩ s).run prog W=.ok (.string (⟨#[91]⟩++s)) W:=fun W=>run_string_add_sum W _ _ (by show 1+s.size<=_;omega);have K:Hid ((⟨#[91]⟩++s:BA).size=1+s.size):=hid (by rw[Yaz];rfl);have b2:∀W,(Op.stringOp .add (⟨#[91]⟩++s) ⟨#[93,41]⟩).run prog W=.ok (.string ((⟨#[91]⟩++s)++⟨#[93,41]⟩)) W:=fun W=>run_string_add_sum W _ _ (by rw[K.out];show _+2<=_;omega);have a4:Hid (((⟨#[91]⟩++s)++⟨#[93,41]⟩:BA).size=1+s.size+2):=hid (by rw[Yaz,K.out];rfl);clear A p3 t v J
 go_wp2_with fail
 refine(Zda a2.out _ (by rw[a4.out];simp only[Yab,Zd];rw[m.out];have:=M.out;have:=X.out;omega)).mono ?_;rintro e w4 ⟨rfl,L,C⟩;have a5:Hid (WK B b w w4):=a3.trans C.out
 have a6:Hid (WB w4 B b (l++Zu (.node x y a p q) 1)):=hid (by
  rw[T.out,<-hs.out];have:=L.out;rw[ZcV,ZcV,ZcV]at this;simp only[Yan]at this ⊢;exact this)
 clear C L;go_wp2
 go_end0
 exact⟨rfl,a6,a5⟩
theorem ZES(s:a.jj=3)(ih:WW p)(w:World)(z:Value)(o:Zh w p z)(B b:Nat)(l:LB)(t:WB w B b l)(v:ZR w)(A:20<=B)(O:l.length+wT (.node x y a p q)<=big) :
  CP 72 #[Vp b,.iface 272 (.agg #[z])] w fun e C=>e=.returned (.tuple #[])/\Hid (WB C B b (l++Zu (.node x y a p q) 1))/\Hid (WK B b w C):=by
 have P:Hid (Zu (.node x y a p q) 1=[45]++Zu p 4):=hid (by rw[Zd7,Zvh s]);have D:Hid (WB w B b l):=t;have Q:Hid (ZR w):=v;have E:Hid (20<=B):=A;have F:Hid (l.length+24+wT p<=big):=hid (by have R:ownW a+wT p+wT q=wT (.node x y a p q):=rfl;unfold ownW at R;omega);have S:Hid (Zh w p z):=o;obtain⟨ty,u,G⟩:=Zh.shape o;subst G;clear t v A O s o;go_enter func72,ntmps72
 go_upto_region 6 with fail
 refine ZP fun W r=>?_;have d:BW w W:=by rw[r];exact Zbal
 have i:Hid (BAt W w.heap.size [.iface ty u] 272):=hid (by rw[r];exact Go.Deep.blk_alloc_new _ _);have f:Hid (WB W B b l):=D.below d;have j:Hid (WK B b w W):=WK.below d D.le;have k:Hid (Zh W p (.iface ty u)):=S.below d;clear r d
 go_wp2_with fail
 refine(Zda f.out ⟨#[45]⟩ (by have:=F.out;show _+1<=_;omega)).mono ?_;rintro e h ⟨rfl,H,c⟩;have m:Hid (WK B b w h):=j.trans c.out;have I:=hid (WK.bat f.out c.out i.out Dc Dc);have J:Hid (Zh h p (.iface ty u)):=hid (Zh.wrote f.out c.out k.out);have K:Hid (ZR h):=Q.low m.low E.out;clear c i f j k;have p0:=I.cell 0;simp only[Ycy]at p0
 go_wp2_with fail
 refine(ih h _ B b _ 3 J.out H.out K.out E.out (by rw[Yab,Zd];have:=F.out;show _+1+_+2<=_;omega)).mono ?_;rintro e L ⟨rfl,n,g⟩;have M:Hid (WK B b w L):=m.trans g.out;have N:Hid (WB L B b (l++Zu (.node x y a p q) 1)):=hid (by rw[P.out,<-Yan];exact n.out);clear g n;go_wp2
 go_end0
 exact⟨rfl,N,M⟩
end
section
attribute [local go_sem ↓] Go.wp_at_zero Go.wp_at_succ
attribute [local go_sem] ZhB ZkO ZkP ZkN ZkQ ZiT ZhA Zhz ZkL ZkK ZkM ZiS ZgB ZgA ZgC ZkR ZkS ZiU Zhx Zhw Zhy Zhv ZkJ ZiR ZhJ ZhI ZhK ZhH ZhL ZiV ZhE ZhD ZhF ZhC ZhG ZgD
theorem ZCe(o:Nat):(Ze5 o).length<=2:=by
 unfold Ze5;split <;> (try split) <;> (try split) <;> (try split) <;> simp
theorem ZEU(s:wfT (.node x y a p q))(hk:a.jj=4∨a.jj=6)(R:WW p)(S:WW q)(w:World)(z1 z2:Value)(E:Zh w p z1)(F:Zh w q z2)(B b:Nat)(l:LB)(hw:WB w B b l)(ht:ZR w)(hB:20<=B)(hl:l.length+wT (.node x y a p q)<=big) :
  CP 72 #[Vp b,.iface 268 (.agg #[Vi (opNo a),z1,z2])] w fun e u=>e=.returned (.tuple #[])/\Hid (WB u B b (l++Zu (.node x y a p q) 1))/\Hid (WK B b w u):=by
 obtain⟨o,t⟩:∃o,o=opNo a:=⟨_,rfl⟩
 have G:=ZsJ hk s.2.2.1;have HX:Hid (Zu (.node x y a p q) 1=Zu p (Zdb o+1)++[32]++Ze5 o++[32]++Zu q (Zdb o+1+1)):=hid (by rw[Zd7,Zvl hk s.2.2.1,t,G.1]);have T:o<=4:=by rw[t];exact G.2
 have H:Hid ((Zu p (Zdb o+1)).length<=wT p):=hid (Zfy p _ s.2.2.2.2.2.2.2.2.2.2.1);rw[<-t];have HW:Hid (WB w B b l):=hw;have HT:Hid (ZR w):=ht;have P:Hid (20<=B):=hB;have HL:Hid (l.length+24+wT p+wT q<=big):=hid (by have I:ownW a+wT p+wT q=wT (.node x y a p q):=rfl;unfold ownW at I;omega);have a6:Hid (Zh w p z1):=E;have a7:Hid (Zh w q z2):=F;obtain⟨t1,u1,a0⟩:=Zh.shape E;obtain⟨t2,u2,a3⟩:=Zh.shape F;subst a0 a3;obtain⟨sg,J⟩:∃sg:BA,sg=⟨(Ze5 o).toArray⟩:=⟨_,rfl⟩
 have a8:Hid (⟨(Ze5 o).toArray⟩=sg):=J.symm;have U:Hid (bl sg=Ze5 o):=hid (by rw[J,ZbF]);have c0:sg.size<=2:=by rw[ZU U.out];exact ZCe o
 have a9:Zdb o<=2:=by unfold Zdb;split <;> (try split) <;> omega
 have a1:∀W,(Op.stringOp .add ⟨#[32]⟩ sg).run prog W=.ok (.string (⟨#[32]⟩++sg)) W:=fun W=>run_string_add_sum W _ _ (by show 1+sg.size<=_;omega);have V:Hid ((⟨#[32]⟩++sg:BA).size=1+sg.size):=hid (by rw[Yaz];rfl);have a2:∀W,(Op.stringOp .add (⟨#[32]⟩++sg) ⟨#[32]⟩).run prog W=.ok (.string ((⟨#[32]⟩++sg)++⟨#[32]⟩)) W:=fun W=>run_string_add_sum W _ _ (by rw[V.out];show _+1<=_;omega);have X:Hid (((⟨#[32]⟩++sg)++⟨#[32]⟩:BA).size=1+sg.size+1):=hid (by rw[Yaz,V.out];rfl);obtain⟨rr,K⟩:∃rr,rr=Zdb o:=⟨_,rfl⟩
 rw[<-K]at HX H a9;have Y:Hid (∀W,CP 132 #[.agg #[Vi o,.iface t1 u1,.iface t2 u2]] W fun e u=>e=.returned (Vi rr)/\BW W u):=hid (fun W=>by rw[K];exact ZrK W o T t1 t2 u1 u2);have b0:Hid (∀(u:World) (l':LB),Zh u p (.iface t1 u1)->WB u B b l'->ZR u->l'.length+wT p+2<=big->CP 131 #[Vp b,.iface t1 u1,Vi (rr:Int)] u fun e j=>e=.returned (.tuple #[])/\Hid (WB j B b (l'++Zu p (rr+1)))/\Hid (WK B b u j)):=hid (fun u l' I h2 h3 h4=>R u _ B b l' rr I h2 h3 P.out h4);have b1:Hid (∀(u:World) (l':LB),Zh u q (.iface t2 u2)->WB u B b l'->ZR u->l'.length+wT q+2<=big->CP 131 #[Vp b,.iface t2 u2,Vi ((rr:Int)+1)] u fun e j=>e=.returned (.tuple #[])/\Hid (WB j B b (l'++Zu q (rr+1+1)))/\Hid (WK B b u j)):=hid (fun u l' I h2 h3 h4=>S u _ B b l' (rr+1) I h2 h3 P.out h4);have c1:IntKind.i64.wrap ((rr:Int)+1)=(rr:Int)+1:=by rcases(by omega:rr=0∨rr=1∨rr=2)with h|h|h <;> rw[h] <;> rfl
 clear hw ht hB hl hk E F s t G J K R S;go_enter func72,ntmps72
 go_upto_region 10 with fail
 refine ZP fun W hW=>?_;have k:BW w W:=by rw[hW];exact Zbal
 have v:Hid (BAt W w.heap.size [Vi o,.iface t1 u1,.iface t2 u2] 268):=hid (by rw[hW];exact Go.Deep.blk_alloc_new _ _);have z:Hid (WB W B b l):=HW.below k;have b2:Hid (WK B b w W):=WK.below k HW.le;have a4:Hid (Zh W p (.iface t1 u1)):=a6.below k;have a5:Hid (Zh W q (.iface t2 u2)):=a7.below k;clear hW k;have p0:=v.cell 0;have p1:=v.cell 1;have p2:=v.cell 2;simp only[Zget]at p0 p1 p2
 go_region_held3 (fun u => u.cell? ⟨w.heap.size, 0, none⟩ = some (Vi o) /\ u.cell? ⟨w.heap.size, 1, none⟩ = some (.iface t1 u1) /\ u.cell? ⟨w.heap.size, 2, none⟩ = some (.iface t2 u2)) (first | exact ⟨e0, e1, e2⟩ | exact ⟨d0, d1, d2⟩ | exact ⟨p0, p1, p2⟩ | go_keep) (first
   | (go_at_call 132
      refine(Y.out _).mono ?_;rintro e w5 ⟨rfl,d⟩;have c:Hid (BW W w5):=hid ⟨d.os,d.tape,d.output,d.size,d.block⟩;have m:=hid (v.below c.out);have d0:=m.cell 0;have d1:=m.cell 1;have d2:=m.cell 2;simp only[Zget]at d0 d1 d2;have L:Hid (WK B b w w5):=b2.trans (WK.below c.out z.le);clear d)
   | (go_at_call 131
      refine(b0.out w5 l (a4.below c.out) (z.below c.out) (HT.low L.low P.out) (by have:=HL.out;omega)).mono ?_;rintro e w6 ⟨rfl,M,g⟩;have A:=hid (WK.bat (z.below c.out) g.out m.out Dc Dc);have e0:=A.cell 0;have e1:=A.cell 1;have e2:=A.cell 2;simp only[Zget]at e0 e1 e2;have b3:Hid (WK B b w w6):=L.trans g.out;have b4:Hid (Zh w6 q (.iface t2 u2)):=hid (Zh.wrote (z.below c.out) g.out (a5.below c.out));clear g))
 clear p0 p1 p2 d0 d1 d2 m c L
 go_wp2_with (go_at_call 133;refine(ZCd o T).mono ?_;rintro e wq ⟨rfl,rfl⟩;rw[a8.out])
 refine(Zda M.out _ (by rw[X.out,Yab];have:=HL.out;have:=H.out;omega)).mono ?_;rintro e Q ⟨rfl,N,i⟩;have b5:Hid (WK B b w Q):=b3.trans i.out;have C:=hid (WK.bat M.out i.out A.out Dc Dc);have b6:Hid (Zh Q q (.iface t2 u2)):=hid (Zh.wrote M.out i.out b4.out);clear i e0 e1 e2;have p0:=C.cell 0;have p1:=C.cell 1;have p2:=C.cell 2;simp only[Zget]at p0 p1 p2
 go_upto_region 12 with fail
 go_region_held3 (fun u => u.cell? ⟨w.heap.size, 0, none⟩ = some (Vi o) /\ u.cell? ⟨w.heap.size, 1, none⟩ = some (.iface t1 u1) /\ u.cell? ⟨w.heap.size, 2, none⟩ = some (.iface t2 u2)) (first | exact ⟨e0, e1, e2⟩ | exact ⟨d0, d1, d2⟩ | exact ⟨p0, p1, p2⟩ | go_keep) (first
   | (go_at_call 132
      refine(Y.out _).mono ?_;rintro e w8 ⟨rfl,f⟩;have n:Hid (BW Q w8):=hid ⟨f.os,f.tape,f.output,f.size,f.block⟩;have D:=hid (C.below n.out);have d0:=D.cell 0;have d1:=D.cell 1;have d2:=D.cell 2;simp only[Zget]at d0 d1 d2;have Z:Hid (WK B b w w8):=b5.trans (WK.below n.out N.le);clear f)
   | (go_at_call 131
      refine(b1.out w8 _ (b6.below n.out) (N.below n.out) (HT.low Z.low P.out) (by simp only[Yab,Zd];rw[X.out];have:=HL.out;have:=H.out;omega)).mono ?_;rintro e w9 ⟨rfl,b7,r⟩;have O:=hid (WK.bat (N.below n.out) r.out D.out Dc Dc);have e0:=O.cell 0;have e1:=O.cell 1;have e2:=O.cell 2;simp only[Zget]at e0 e1 e2;have b8:Hid (WK B b w w9):=Z.trans r.out;clear r))
 have b9:Hid (WB w9 B b (l++Zu (.node x y a p q) 1)):=hid (by
  rw[HX.out,<-U.out];have:=b7.out;rw[ZcV,ZcV]at this;simp only[Yan]at this ⊢;exact this)
 go_wp2
 go_end0
 exact⟨rfl,b9,b8⟩
theorem ZER(E:wfT (.node x y a p q))(R:a.jj=5)(ih:WC p)(c:BA)(la:Option Addr)(ln lc:Nat)(w:World)(z:Value)(o:bl c=ZW.getD a.op [])(F:Zbm w (.slice la ln lc) a.by_)(N:Zh w p z)(B b:Nat)(l:LB)(S:WB w B b l)(T:ZR w)(U:20<=B)(hl:l.length+wT (.node x y a p q)<=big) :
  CP 72 #[Vp b,.iface 274 (.agg #[.string c,.slice la ln lc,z])] w fun e d=>e=.returned (.tuple #[])/\Hid (WB d B b (l++Zu (.node x y a p q) 1))/\Hid (WK B b w d):=by
 have HX:Hid (Zu (.node x y a p q) 1=bl c++[32,98,121,32,40]++commas a.by_++[41,32,40]++Zu p 1++[41]):=hid (by rw[Zd7,Zvg R,o]);have V:Hid ((Zu p 1).length<=wT p):=hid (Zfy p _ E.2.2.2.2.2.2.2.2.2.2.1);have X:Hid (WB w B b l):=S;have HT:Hid (ZR w):=T;have Y:Hid (20<=B):=U;have r:Hid (l.length+24+nw a.by_+wT p<=big):=hid (by have Z:ownW a+wT p+wT q=wT (.node x y a p q):=rfl;unfold ownW at Z;omega);have HZ:Hid (Zh w p z):=N;have a0:Hid (Zbm w (.slice la ln lc) a.by_):=F;have b7:c.size<=5:=by rw[ZU o];exact Zh5 ZW Dc a.op
 obtain⟨ty,u,a4⟩:=Zh.shape N;subst a4;obtain⟨js,G⟩:∃js:BA,js=⟨(commas a.by_).toArray⟩:=⟨_,rfl⟩
 have t:Hid (bl js=commas a.by_):=hid (by rw[G,ZbF]);have k:Hid (js.size<=nw a.by_):=hid (by rw[ZU t.out];exact ZeS _);have b8:js.size<=1000000:=by have Z:=k.out;have O:=r.out;unfold big at O;omega
 have a1:∀W,(Op.stringOp .add c ⟨#[32,98,121,32,40]⟩).run prog W=.ok (.string (c++⟨#[32,98,121,32,40]⟩)) W:=fun W=>run_string_add_sum W _ _ (by show c.size+5<=_;omega);have H:Hid ((c++⟨#[32,98,121,32,40]⟩:BA).size=c.size+5):=hid (by rw[Yaz];rfl);have a2:∀W,(Op.stringOp .add (c++⟨#[32,98,121,32,40]⟩) js).run prog W=.ok (.string ((c++⟨#[32,98,121,32,40]⟩)++js)) W:=fun W=>run_string_add_sum W _ _ (by rw[H.out];omega);have I:Hid (((c++⟨#[32,98,121,32,40]⟩)++js:BA).size=c.size+5+js.size):=hid (by rw[Yaz,H.out]);have a3:∀W,(Op.stringOp .add ((c++⟨#[32,98,121,32,40]⟩)++js) ⟨#[41,32,40]⟩).run prog W=.ok (.string (((c++⟨#[32,98,121,32,40]⟩)++js)++⟨#[41,32,40]⟩)) W:=fun W=>run_string_add_sum W _ _ (by rw[I.out];show _+3<=_;omega);have v:Hid ((((c++⟨#[32,98,121,32,40]⟩)++js)++⟨#[41,32,40]⟩:BA).size=c.size+5+js.size+3):=hid (by rw[Yaz,I.out];rfl);clear S T U hl R N E o F G;go_enter func72,ntmps72
 go_upto_region 15 with fail
 refine ZP fun W P=>?_;have i:BW w W:=by rw[P];exact Zbal
 have m:Hid (BAt W w.heap.size [.string c,.slice la ln lc,.iface ty u] 274):=hid (by rw[P];exact Go.Deep.blk_alloc_new _ _);have n:Hid (WB W B b l):=X.below i;have a5:Hid (WK B b w W):=WK.below i X.le;have a6:Hid (Zh W p (.iface ty u)):=HZ.below i;have a7:Hid (Zbm W (.slice la ln lc) a.by_):=a0.below i;clear P i;have p0:=m.cell 0;have p1:=m.cell 1;have p2:=m.cell 2;simp only[Zget]at p0 p1 p2
 have J : Hid (∀ d, BW W d -> CP 96 #[.slice la ln lc, .string ⟨#[44]⟩] d fun e K => e = .returned (.string js) /\ BW d K) := hid (by
   intro d a8;refine(ZlV la ln lc a.by_ (a7.below a8) (by have O:=r.out;unfold big at O;omega)).mono ?_;rintro e K ⟨s,rfl,hs,hb⟩;exact⟨by rw[ZcW (hs.trans t.symm)],hb⟩)
 have a9:Hid (BW W W.drew):=hid ((Yaf _ _).drew)
 go_region_held3 (fun d => d.cell? ⟨w.heap.size, 0, none⟩ = some (.string c) /\ d.cell? ⟨w.heap.size, 1, none⟩ = some (.slice la ln lc) /\ d.cell? ⟨w.heap.size, 2, none⟩ = some (.iface ty u)) (first | exact ⟨e0, e1, e2⟩ | exact ⟨d0, d1, d2⟩ | exact ⟨p0, p1, p2⟩ | go_keep) (first
   | (go_at_call 96
      refine(J.out _ a9.out).mono ?_;rintro e w5 ⟨rfl,g⟩;have f:Hid (BW W w5):=hid ⟨g.os,g.tape,g.output,g.size,g.block⟩;have j:=hid (m.below f.out);have d0:=j.cell 0;have d1:=j.cell 1;have d2:=j.cell 2;simp only[Zget]at d0 d1 d2;have L:Hid (WK B b w w5):=a5.trans (WK.below f.out n.le);clear g)
   | (go_at_call 129
      refine(Zda (n.below f.out) _ (by rw[v.out];have:=r.out;have:=k.out;omega)).mono ?_;rintro e Q ⟨rfl,b0,h⟩;have A:=hid (WK.bat (n.below f.out) h.out j.out Dc Dc);have e0:=A.cell 0;have e1:=A.cell 1;have e2:=A.cell 2;simp only[Zget]at e0 e1 e2;have M:Hid (WK B b w Q):=L.trans h.out;have b1:Hid (Zh Q p (.iface ty u)):=hid (Zh.wrote (n.below f.out) h.out (a6.below f.out));clear h))
 clear p0 p1 p2 d0 d1 d2 j f L J
 go_wp2_with fail
 refine(ih Q _ B b _ b1.out b0.out (HT.low M.low Y.out) Y.out (by rw[Yab,Zd,v.out];have:=r.out;have:=k.out;omega)).mono ?_;rintro e w7 ⟨rfl,b2,C⟩;have b3:Hid (WK B b w w7):=M.trans C.out;clear C e0 e1 e2
 go_wp2_with fail
 refine(Zda b2.out ⟨#[41]⟩ (by simp only[Yab,Zd];rw[v.out];show _+1<=_;have:=r.out;have:=k.out;have:=V.out;omega)).mono ?_;rintro e w8 ⟨rfl,b4,D⟩;have b5:Hid (WK B b w w8):=b3.trans D.out
 have b6:Hid (WB w8 B b (l++Zu (.node x y a p q) 1)):=hid (by
  rw[HX.out,<-t.out];have:=b4.out;rw[ZcV,ZcV,ZcV]at this;simp only[Yan]at this ⊢;exact this)
 clear D;go_wp2
 go_end0
 exact⟨rfl,b6,b5⟩
theorem ZnC:∀t:Tr,wfT t->WC t
 | .nil,_=>fun _ _ _ _ _ h=>h.elim
 | .node x y a p q, c => by
   have m:WC p:=ZnC p c.2.2.2.2.2.2.2.2.2.2.1;have r:WC q:=ZnC q c.2.2.2.2.2.2.2.2.2.2.2;have iwp:WW p:=Ztc c.2.2.2.2.2.2.2.2.2.2.1 m;have iwq:WW q:=Ztc c.2.2.2.2.2.2.2.2.2.2.2 r;intro w v B b l A e g i f;rcases A with ⟨d,rfl⟩|⟨d,nm,la,ln,lc,rfl,j,k⟩|⟨d,n,nm,la,ln,lc,rfl,j,k,C⟩|⟨d,z,rfl,o⟩|⟨d,n,la,ln,lc,z,rfl,j,k,o⟩|⟨d,z1,z2,rfl,s,u⟩
   · exact ZET c d w B b l e g i f
   · exact ZEV d nm la ln lc w j k B b l e f
   · exact ZEW c d n nm la ln lc w j k C B b l e g i f
   · exact ZES d iwp w z o B b l e g i f
   · exact ZER c d m n la ln lc w z j k o B b l e g i f
   · exact ZEU c d iwp iwq w z1 z2 s u B b l e g i f
theorem Zj6(c:wfT t)(d:wT t<=100000)(w:World)(v:Value)(h:Zh w t v)(j:ZR w)(k:20<=w.heap.size) :
  CP 37 #[v] w fun e D=>∃s:BA,e=.returned (.string s)/\Hid (bl s=Zu t 1)/\BW w D:=by
 have l:Hid (WC t):=ZnC t c;have E:Hid (Zh w t v):=h;have F:Hid (ZR w):=j;have m:Hid (20<=w.heap.size):=k;have G:Hid (wT t<=100000):=d;obtain⟨ty,u,n⟩:=Zh.shape h;subst n;clear h j k d c;go_enter func37,ntmps37
 go_wp2_with fail
 refine Zm fun W i=>?_;have a:BW w W:=by rw[i];exact Zbal
 have o:Hid (WB W w.heap.size w.heap.size []):=hid ⟨Or.inl ⟨Yac _,S0,by rw[i];exact Go.Deep.blk_alloc_new _ _,⟨rfl,Or.inl ⟨rfl,rfl⟩⟩,by simp[Value.ownBlock]⟩,a.size⟩;have p:Hid (BW w W):=a;have q:Hid (Zh W t (.iface ty u)):=E.below a;have r:Hid (ZR W):=F.low a m.out;clear i a;refine(l.out W _ w.heap.size w.heap.size [] q.out o.out r.out m.out (by have:=G.out;unfold big;simp;omega)).mono ?_;rintro e x ⟨rfl,f,A⟩;have B:Hid (BW w x):=p.trans A.low
 go_wp2_with fail
 refine(Builder_String_any_f w.heap.size w.heap.size _ x f.bd f.le).mono ?_;rintro e z ⟨rfl,_,g⟩;have C:Hid (BW w z):=B.trans g;clear g;go_wp2;go_ret;exact⟨_,rfl,hid (by rw[ZbF]),C.out⟩
end
section
attribute [local go_sem] ZiT ZiS ZiU ZiR ZiV ZgD
theorem ZrM(h:ZD l=.ok t):wfT t/\isNil t=false/\wT t<=100000:=by
 unfold ZD at h;by_cases d:300<l.length
 ·rw[if_pos d]at h;cases h
 ·rw[if_neg d]at h;have j:=ZjB l (l.length+1) 0 (Yag _);have k:=ZjC l Om (l.length+1) 0;cases a:Zs (10*(ZN l (l.length+1) 0).length+5) false 0 .nil (ZN l (l.length+1) 0) 0 with
  | error e=>rw[a]at h;cases h
  | ok z=>
   obtain⟨t',r⟩:=z;rw[a]at h;have c:=Zfv _ _ _ _ _ _ _ (fun e=>by cases e) a;simp only at h;by_cases f:(hd r).jj=0
   ·rw[if_pos f]at h;by_cases g:Zf t'=0
    ·rw[if_pos g]at h;cases h
    ·rw[if_neg g]at h;injection h with h;subst h;refine⟨c.1,c.2.1,?_⟩;have i:=c.2.2;rw[if_neg Dc]at i;simp only at i;omega
   ·rw[if_neg f]at h;cases h
theorem Vars.sentsV(h:Vars w A m):Sents w (A 0) (A 1) (A 2) (A 3):=
 ⟨h.sent _ Dc,h.sent _ Dc,h.sent _ Dc,h.sent _ Dc⟩
theorem RdIs.jn{lg sy dp tp:Addr}{r:Except (Nat×Nat) Tr}{pv:Value}{x:Nat×Nat}(c:r=.error x)(h:RdIs w lg sy dp tp r pv v):∃ty u,v=.iface ty u:=by
 subst c;rcases h with ⟨_,rfl⟩|⟨_,rfl⟩|⟨_,a⟩|⟨_,a⟩
 ·exact⟨_,_,rfl⟩
 ·exact⟨_,_,rfl⟩
 ·obtain⟨fa,rfl⟩:=ZM.shape a;exact⟨_,_,rfl⟩
 ·obtain⟨fa,rfl⟩:=ZM.shape a;exact⟨_,_,rfl⟩
def SelR(w:World)(r:Option (Nd×Nat))(v:Value)(ok:Bool):Prop:=match r with
 | some a=>ok=true/\ZdG w a v
 | none=>ok=false/\Zfc v
theorem SelR.mkNone(a:r=none)(h:ok=false/\Zfc v):SelR w r v ok:=by subst a;exact h
theorem SelR.mkSome{a:Nd×Nat}(c:r=some a)(h:ok=true/\ZdG w a v):SelR w r v ok:=by subst c;exact h
theorem Zr4{x:Nat×Nat}(h:ZD l=.error x):selQ l=none:=by unfold selQ;rw[h]
theorem Zr5(h:ZD l=.ok (.node x y a p q))(c:a.jj≠1):selQ l=none:=by
 unfold selQ;rw[h];simp only;rw[if_neg (fun e=>c e.1)]
theorem Zr6(h:ZD l=.ok (.node x y a p q))(c:a.jj=1):selQ l=if selS a=l then some a else none:=by
 unfold selQ;rw[h];simp only;by_cases e:selS a=l
 ·rw[if_pos ⟨c,e⟩,if_pos e]
 ·rw[if_neg (fun h=>e h.2),if_neg e]
theorem ZfC(w:World)(a:Nat)(x y z:Value):w.grownBy (set3 w a x y z) (some a):=ZA (ZA (ZA (ZbM w (some a)) (Or.inl rfl) _) (Or.inl rfl) _) (Or.inl rfl) _
theorem ZdC{a:Nat}(h:BW w0 w)(c:w0.heap.size<=a)(x y z:Value):BW w0 (set3 w a x y z):=
 ((h.setCell (p:=⟨a,0,none⟩) c _).setCell (p:=⟨a,1,none⟩) c _).setCell (p:=⟨a,2,none⟩) c _
theorem ZCW(y:LB)(c:UInt8):Lib.hasSuffix y [c]=decide (y.getLast?=some c):=by
 rw[Ybh,decide_eq_true_iff];unfold Lib.hasSuffix;rw[List.isSuffixOf_iff_suffix];constructor
 ·rintro⟨z,rfl⟩;simp
 ·intro h;obtain⟨z,a⟩:=List.getLast?_eq_some_iff.1 h;exact⟨z,a.symm⟩
theorem ZAH {t : LB} (h : LS.cut 91 t = none) : ZbA t = (selQ t).map fun a => (a, 0) := by
  have:LS.seek 91 t=none:=by
    unfold LS.cut at h;cases c:LS.seek 91 t with
    | none=>rfl
    | some i=>rw[c]at h;cases h
  unfold ZbA;rw[this]
theorem ZAE{t x y:LB}(h:LS.cut 91 t=some (x,y)):ZbA t=if Lib.hasSuffix y [93]=true then (match ZQ 1000 y.dropLast with
   | some n=>if n=0 then none else (selQ x).map fun a=>(a,n)
   | none=>none)else none:=by
 cases d:LS.seek 91 t with
 | none=>unfold LS.cut at h;rw[d]at h;cases h
 | some i=>
  unfold LS.cut at h;rw[d]at h;simp only[Ybf]at h;injection h with h;injection h with h1 h2
  have f:t.getLast?=some 93 ↔ y.getLast?=some 93:=by
   obtain⟨a,b,rfl,rfl,_⟩:=Ziv d
   have g:y=b:=by
    rw[<-h2,List.drop_append];simp
   rw[g];cases b with
   | nil=>simp
   | cons c b=>rw[List.getLast?_append,List.getLast?_cons_cons];simp
  unfold ZbA;rw[d];simp only;rw[h1,h2,ZCW];by_cases e:t.getLast?=some 93
  ·rw[if_pos e,if_pos (by simpa using f.1 e)];cases ZQ 1000 y.dropLast <;> rfl
  ·rw[if_neg e,if_neg (by simpa using fun e'=>e (f.2 e'))]
theorem ZDh{y:LB}{c:UInt8}(h:Lib.hasSuffix y [c]=true):Lib.trimSuffix y [c]=y.dropLast:=by
 unfold Lib.trimSuffix;rw[if_pos h,List.dropLast_eq_take];rfl
theorem BAt.three{a:Nat}{x y z:Value}{t:TypeId}(h:BAt w a [x,y,z] t):(w.frozen? ⟨a,0,none⟩=false/\w.frozen? ⟨a,1,none⟩=false/\w.frozen? ⟨a,2,none⟩=false)/\w.cell? ⟨a,0,none⟩=some x/\w.cell? ⟨a,1,none⟩=some y/\w.cell? ⟨a,2,none⟩=some z:=⟨⟨h.frozen 0,h.frozen 1,h.frozen 2⟩,h.cell 0,h.cell 1,h.cell 2⟩
def ZGl(fn:Func)(a:Act)(b:Nat)(x y z:Value)(ok:Bool):Prop:=∀W:World,W.cell? ⟨b,0,none⟩=some x->W.cell? ⟨b,1,none⟩=some y->W.cell? ⟨b,2,none⟩=some z->(results fn a.tmps).run prog W=.ok (.tuple #[.agg #[x,y,z],.bool ok]) W
theorem ZGn{v:World}{x y z p q:Value}{t:TypeId}{a:Act}{k:Nd×Nat}(d:ZGl fn a w.heap.size x y z true)(hd:a.defers=[])(f:BAt v w.heap.size [p,q,u] t)(g:BW w v)(h:r=some k)(i:∀W,v.grownBy W (some w.heap.size)->ZdG W k (.agg #[x,y,z])) :
  bodyPost prog fn (fun e c=>∃v ok,e=.returned (.tuple #[v,.bool ok])/\Hid (SelR c r v ok)/\BW w c) .ret a (set3 v w.heap.size x y z):=by
 obtain⟨_,s0,s1,s2⟩:=(Zcr f (x:=x) (y:=y) (z:=z)).three;exact bodyPost_ret (d _ s0 s1 s2) hd ⟨_,_,rfl,hid (SelR.mkSome h ⟨rfl,i _ (ZfC _ _ _ _ _)⟩),ZdC g (Yac _) _ _ _⟩
theorem ZGk{v:World}{p q:Value}{t:TypeId}{a:Act}(d:ZGl fn a w.heap.size (.string ⟨#[]⟩) S0 (Vi 0) false)(hd:a.defers=[])(f:BAt v w.heap.size [p,q,u] t)(g:BW w v)(h:r=none) :
  bodyPost prog fn (fun e c=>∃v ok,e=.returned (.tuple #[v,.bool ok])/\Hid (SelR c r v ok)/\BW w c) .ret a (set3 v w.heap.size (.string ⟨#[]⟩) S0 (Vi 0)):=by
 obtain⟨_,s0,s1,s2⟩:=(Zcr f (x:=.string ⟨#[]⟩) (y:=S0) (z:=Vi 0)).three;exact bodyPost_ret (d _ s0 s1 s2) hd ⟨_,_,rfl,hid (SelR.mkNone h ⟨rfl,rfl⟩),ZdC g (Yac _) _ _ _⟩
theorem ZGm{v:World}{p q:Value}{t:TypeId}{a:Act}{o:Obj}(f:ZGl fn a w.heap.size (.string ⟨#[]⟩) S0 (Vi 0) false)(hd:a.defers=[])(g:BAt v w.heap.size [p,q,u] t)(h:BW w v)(i:r=none) :
  bodyPost prog fn (fun e c=>∃v ok,e=.returned (.tuple #[v,.bool ok])/\Hid (SelR c r v ok)/\BW w c) .ret a ((set3 v w.heap.size (.string ⟨#[]⟩) S0 (Vi 0)).alloc o):=by
 obtain⟨_,s0,s1,s2⟩:=((Zcr g (x:=.string ⟨#[]⟩) (y:=S0) (z:=Vi 0)).below ((Yaf _ _).alloc (Yac _) o)).three;have d:=ZdC h (Yac _) (.string ⟨#[]⟩) S0 (Vi 0);exact bodyPost_ret (f _ s0 s1 s2) hd ⟨_,_,rfl,hid (SelR.mkNone i ⟨rfl,rfl⟩),d.alloc d.size _⟩
theorem ZBd(s:BA)(A:Nat->Addr)(m:Int)(w:World)(hs:s.size<=70000)(hv:Vars w A m)(ht:ZR w)(hB:20<=w.heap.size) :
  CP 197 #[.string s] w fun e w'=>∃v ok,e=.returned (.tuple #[v,.bool ok])/\Hid (SelR w' (ZbA (bl s)) v ok)/\BW w w':=by
 have HV:=hid hv;have HT:=hid ht;have b2:=hid hB;clear hv ht hB;go_enter func197,ntmps197
 go_wp2_with fail
 refine Zm fun W hW=>?_;have c2:BW w W:=by rw[hW];exact Zbal
 have V:=hid c2;have b3:Hid (BAt W w.heap.size [.string ⟨#[]⟩,S0,Vi 0] 294):=hid (by rw[hW];exact Go.Deep.blk_alloc_new _ _);clear hW c2;cases hcut:LS.cut 91 (bl s)with
 | none=>
  refine(ZoF m W hs (HV.below V.out).max hcut).mono ?_;rintro e L ⟨a,b,rfl,J,nd,a0⟩;have M:BW W L:=by rw[a0];exact ZiX _ _ _
  have B:Hid (BW w L):=hid (V.trans (M.mono V.size));have k:=hid (b3.below M);have h:Hid (ZbA (bl s)=(selQ (bl a)).map fun z=>(z,0)):=hid (by rw[ZAH hcut,J.1]);have b4:a.size<=70000:=by rw[ZU J.1,Zd];exact hs
  clear M a0 hcut J b3
  go_wp2_with fail
  have a1:=hid ((HV.below B.out).sentsV);refine(Ziu a L Om a1.out).mono ?_;rintro e Y ⟨pv,v,rfl,g,N⟩;have d:Hid (BW w Y):=hid (B.trans (N.mono B.size));have c:=hid (k.below N);have c3:=c.lt;clear N k B a1;have f:=c.three;cases p:ZD (bl a)with
  | error x=>
   have j:Hid (ZbA (bl s)=none):=hid (by rw[h.out,Zr4 p];rfl);obtain⟨ty,u,rfl⟩:=RdIs.jn p g.out;clear g p h;go_wp2;exact ZGk (fun W s0 s1 s2=>by simp[results,results197,go_sem,s0,s1,s2]) rfl c.out d.out j.out
  | ok t=>
   rw[p]at g;obtain⟨rfl,a2⟩:=g.out;obtain⟨O,F,P⟩:=ZrM p;cases t with
   | nil=>cases F
   | node x y nd l r=>
    have Q:=hid a2;have a3:=hid (And.intro O P);rcases a2 with ⟨q,rfl⟩|⟨q,nm,la,ln,lc,rfl,h1,h2⟩|⟨q,wd,nm,la,ln,lc,rfl,_⟩|⟨q,z,rfl,_⟩|⟨q,wd,la,ln,lc,z,rfl,_⟩|⟨q,z1,z2,rfl,_⟩
    case inr.inl=>
     have G:=hid (Zr6 p q);have a4:=hid q;have b7:=hid h1;have a5:=hid h2;clear g p O F P q h1 h2
     go_wp2_with fail
     refine Zm fun Z R=>?_;have C:BW Y Z:=by rw[R];exact Zbal
     have D:Hid (BW w Z):=hid (d.trans (C.mono d.size));have a6:=hid (c.below C);have a7:Hid (BAt Z Y.heap.size [.string nm,.slice la ln lc] 281):=hid (by rw[R];exact Go.Deep.blk_alloc_new _ _);have S:=hid (Q.below C);have T:=hid (a5.below C);clear R C Q a5 f;refine(Zj6 a3.1 a3.2 Z _ S.out (HT.low D.out b2.out) (Yah b2.out D.size)).mono ?_;rintro e w4 ⟨tx,rfl,a8,E⟩;have b8:Hid (BW w w4):=hid (D.trans (E.mono D.size));have H:=hid (a6.below E);have a9:=hid (a7.below E);have b1:=hid (T.below E);have b0:Hid (bl tx=selS nd):=hid (by rw[a8.out,Zd7];unfold Zbv;rw[if_neg (by rw[a4.out];decide),if_pos a4.out]);clear E D a6 a7 S T a8;have d0:=a9.cell 0;have d1:=a9.cell 1;simp only[Zget]at d0 d1;have c:=H;have d:=b8;have f:=H.three;have c8:=H.lt;by_cases he:tx=a
     ·subst he;have b9:(tx.toList != tx.toList)=false:=by simp
      have c0:Hid (ZbA (bl s)=some (nd,0)):=hid (by rw[h.out,G.out,if_pos b0.symm];rfl);clear h G;go_wp2;exact ZGn (fun W s0 s1 s2=>by simp[results,results197,go_sem,s0,s1,s2]) rfl c.out d.out c0.out (fun W hg=>⟨⟨nm,la,ln,lc,nd,0⟩,rfl,rfl,b7.out,b1.kept hg H.out Dc⟩)
     ·have b9:(tx.toList == a.toList)=false:=by
       rw[beq_eq_false_iff_ne,Zbt,Zbt];intro e;exact he (ZcW e)
      have j:Hid (ZbA (bl s)=none):=hid (by rw[h.out,G.out,if_neg (by intro e;exact he (ZcW (b0.trans e)))];rfl);clear h G he;go_wp2;exact ZGk (fun W s0 s1 s2=>by simp[results,results197,go_sem,s0,s1,s2]) rfl c.out d.out j.out
    all_goals
     have j:Hid (ZbA (bl s)=none):=hid (by rw[h.out,Zr5 p Om];rfl);clear g p h O F P q Q;go_wp2;exact ZGm (fun W s0 s1 s2=>by simp[results,results197,go_sem,s0,s1,s2]) rfl c.out d.out j.out
 | some xy=>
  obtain⟨x,y⟩:=xy;refine(ZoD m W hs (HV.below V.out).max hcut).mono ?_;rintro e L ⟨a,b,rfl,J,nd,a0⟩;have M:BW W L:=by rw[a0];exact ZiX _ _ _
  have B:Hid (BW w L):=hid (V.trans (M.mono V.size));have k:=hid (b3.below M)
  have b4:a.size<=70000/\b.size<=70000:=by
   have h9:=J.out;rw[LS.cut]at hcut;cases c4:LS.seek 91 (bl s)with
   | none=>rw[c4]at hcut;cases hcut
   | some i=>
    rw[c4]at hcut;simp only[Ybf]at hcut;injection hcut with hcut;injection hcut with e1 e2;rw[ZU h9.1,ZU h9.2,<-e1,<-e2,Ya7,Ybv,Zd];omega
  have c9:=b4.2;have b4:=b4.1;have b5:=hid (ZAE hcut);clear M a0 hcut b3
  go_wp2_with fail
  refine(strings_CutSuffix b ⟨#[93]⟩ L Om).mono ?_;rintro e wq ⟨rfl,rfl⟩;have c5:Hid (bl b=y):=hid J.2;have d2:Hid (bl a=x):=hid J.1;rw[show b.data.toList=y from c5.out,show(⟨#[93]⟩:BA).data.toList=[93] from rfl];have d3:y.length<=70000:=by rw[<-c5.out,Zd];exact c9
  clear J;cases X:Lib.hasSuffix y [93]with
  | false=>
   have j:Hid (ZbA (bl s)=none):=hid (by rw[b5.out,if_neg (by rw[X];simp)])
   have U : Hid (∀ W', CP 118 #[.string ⟨(Lib.trimSuffix y [93]).toArray⟩, Vi (1000 : Nat)] W' _) := hid (fun W' => Znx ⟨(Lib.trimSuffix y [93]).toArray⟩ 1000 W' (by
     rw[<-Zd,ZbF];unfold Lib.trimSuffix;rw[X];simpa using d3) Dc Dc)
   generalize(⟨(Lib.trimSuffix y [93]).toArray⟩:BA)=dg at *
   have c:=k;have d:=B;have c3:=k.lt;have f:=k.three;clear b5 X
   go_wp2_with fail
   refine(U.out _).mono ?_;rintro e c6 ⟨rfl,rfl⟩;have b6:∃(v:Int) (o:Bool),numT 1000 (bl dg)=.tuple #[Vi v,.bool o]:=⟨_,_,rfl⟩
   obtain⟨nv,no,b6⟩:=b6;rw[b6];clear b6 U;go_wp2;exact ZGk (fun W s0 s1 s2=>by simp[results,results197,go_sem,s0,s1,s2]) rfl c.out d.out j.out
  | true=>
   rw[ZDh X]
   have I:Hid (ZbA (bl s)=match ZQ 1000 y.dropLast with
    | some n=>if n=0 then none else (selQ x).map fun a=>(a,n)
    | none=>none):=hid (by rw[b5.out,if_pos X])
   have U : Hid (∀ W', CP 118 #[.string ⟨y.dropLast.toArray⟩, Vi (1000 : Nat)] W' _) := hid (fun W' => Znx ⟨y.dropLast.toArray⟩ 1000 W' (by
     rw[<-Zd,ZbF,List.length_dropLast];omega) Dc Dc)
   have d4:=k.lt;clear b5 X
   go_wp2_with fail
   refine(U.out _).mono ?_;rintro e c6 ⟨rfl,rfl⟩;rw[ZbF];cases K:ZQ 1000 y.dropLast with
   | none=>
    rw[Zgg K];have j:Hid (ZbA (bl s)=none):=hid (by rw[I.out,K]);have c:=k;have d:=B;have f:=k.three;clear K I;go_wp2;exact ZGk (fun W s0 s1 s2=>by simp[results,results197,go_sem,s0,s1,s2]) rfl c.out d.out j.out
   | some n=>
    rw[ZjO K];by_cases c1:n=0
    ·subst c1;have j:Hid (ZbA (bl s)=none):=hid (by rw[I.out,K];rfl);have c:=k;have d:=B;have f:=k.three;clear K I;go_wp2;exact ZGk (fun W s0 s1 s2=>by simp[results,results197,go_sem,s0,s1,s2]) rfl c.out d.out j.out
    ·have d5:((n:Int) == 0)=false:=by rw[beq_eq_false_iff_ne];omega
     have h:Hid (ZbA (bl s)=(selQ (bl a)).map fun z=>(z,n)):=hid (by rw[I.out,K,d2.out];simp only;rw[if_neg c1]);clear K I c1 U;obtain⟨L,c7⟩:∃L,L=c6:=⟨_,rfl⟩
     subst c7
     go_wp2_with fail
     have a1:=hid ((HV.below B.out).sentsV);refine(Ziu a L Om a1.out).mono ?_;rintro e Y ⟨pv,v,rfl,g,N⟩;have d:Hid (BW w Y):=hid (B.trans (N.mono B.size));have c:=hid (k.below N);have c3:=c.lt;clear N k B a1;have f:=c.three;cases p:ZD (bl a)with
     | error x=>
      have j:Hid (ZbA (bl s)=none):=hid (by rw[h.out,Zr4 p];rfl);obtain⟨ty,u,rfl⟩:=RdIs.jn p g.out;clear g p h;go_wp2;exact ZGk (fun W s0 s1 s2=>by simp[results,results197,go_sem,s0,s1,s2]) rfl c.out d.out j.out
     | ok t=>
      rw[p]at g;obtain⟨rfl,a2⟩:=g.out;obtain⟨O,F,P⟩:=ZrM p;cases t with
      | nil=>cases F
      | node x y nd l r=>
       have Q:=hid a2;have a3:=hid (And.intro O P);rcases a2 with ⟨q,rfl⟩|⟨q,nm,la,ln,lc,rfl,h1,h2⟩|⟨q,wd,nm,la,ln,lc,rfl,_⟩|⟨q,z,rfl,_⟩|⟨q,wd,la,ln,lc,z,rfl,_⟩|⟨q,z1,z2,rfl,_⟩
       case inr.inl=>
        have G:=hid (Zr6 p q);have a4:=hid q;have b7:=hid h1;have a5:=hid h2;clear g p O F P q h1 h2
        go_wp2_with fail
        refine Zm fun Z R=>?_;have C:BW Y Z:=by rw[R];exact Zbal
        have D:Hid (BW w Z):=hid (d.trans (C.mono d.size));have a6:=hid (c.below C);have a7:Hid (BAt Z Y.heap.size [.string nm,.slice la ln lc] 281):=hid (by rw[R];exact Go.Deep.blk_alloc_new _ _);have S:=hid (Q.below C);have T:=hid (a5.below C);clear R C Q a5 f;refine(Zj6 a3.1 a3.2 Z _ S.out (HT.low D.out b2.out) (Yah b2.out D.size)).mono ?_;rintro e w4 ⟨tx,rfl,a8,E⟩;have b8:Hid (BW w w4):=hid (D.trans (E.mono D.size));have H:=hid (a6.below E);have a9:=hid (a7.below E);have b1:=hid (T.below E);have b0:Hid (bl tx=selS nd):=hid (by rw[a8.out,Zd7];unfold Zbv;rw[if_neg (by rw[a4.out];decide),if_pos a4.out]);clear E D a6 a7 S T a8;have d0:=a9.cell 0;have d1:=a9.cell 1;simp only[Zget]at d0 d1;have c:=H;have d:=b8;have f:=H.three;have c8:=H.lt;by_cases he:tx=a
        ·subst he;have b9:(tx.toList != tx.toList)=false:=by simp
         have c0:Hid (ZbA (bl s)=some (nd,n)):=hid (by rw[h.out,G.out,if_pos b0.symm];rfl);clear h G;go_wp2;exact ZGn (fun W s0 s1 s2=>by simp[results,results197,go_sem,s0,s1,s2]) rfl c.out d.out c0.out (fun W hg=>⟨⟨nm,la,ln,lc,nd,n⟩,rfl,rfl,b7.out,b1.kept hg H.out Dc⟩)
        ·have b9:(tx.toList == a.toList)=false:=by
          rw[beq_eq_false_iff_ne,Zbt,Zbt];intro e;exact he (ZcW e)
         have j:Hid (ZbA (bl s)=none):=hid (by rw[h.out,G.out,if_neg (by intro e;exact he (ZcW (b0.trans e)))];rfl);clear h G he;go_wp2;exact ZGk (fun W s0 s1 s2=>by simp[results,results197,go_sem,s0,s1,s2]) rfl c.out d.out j.out
       all_goals
        have j:Hid (ZbA (bl s)=none):=hid (by rw[h.out,Zr5 p Om];rfl);clear g p h O F P q Q;go_wp2;exact ZGm (fun W s0 s1 s2=>by simp[results,results197,go_sem,s0,s1,s2]) rfl c.out d.out j.out
end
section
theorem Zkl{p:Nat}{x:LB×Nat}(h:ZcH l p=.ok x):x.1.length<65536/\x.2<=l.length:=by
 unfold ZcH at h;cases a:Zbr l p 2 with
 | error e=>rw[a]at h;cases h
 | ok y=>
  rw[a]at h;simp only at h;obtain⟨d,f,g⟩:=Zhh h;have c:=(Zev a).2.2.2;have c:y.1<65536:=c;exact⟨by rw[f,Zki d];exact c,by omega⟩
theorem ZdG.ju{a:Nd×Nat}(h:ZdG w a v){c:List Value}{t:TypeId}(d:BAt w b c t)(e:w.grownBy w' (some b))(f:t≠379):ZdG w' a v:=by
 obtain⟨x,g,i,j⟩:=h;exact⟨x,g,i,j.ju d e f⟩
theorem ZdG.below{a:Nd×Nat}(h:ZdG w a v)(c:BW w w'):ZdG w' a v:=by
 obtain⟨x,d,e,f⟩:=h;exact⟨x,d,e,f.below c⟩
structure Ground (w0:World) (A:Nat->Addr) (m:Int) (b:Nat):Prop where
 v:Vars w0 A m
 t:ZR w0
 n:20<=w0.heap.size
 b:w0.heap.size<=b
theorem Ground.code(h:Ground w0 A m b)(a:BW w0 w):Zc5 w (A 8):=(h.v.below a).sent _ Dc
theorem Ground.ng(h:Ground w0 A m b):20<=b:=Yah h.n h.b
theorem ZBz(s:BA)(b:Nat)(A:Nat->Addr)(m:Int)(w0:World)(P:Ground w0 A m b)(hs:s.size<=maxLen) :
  OneC 139 ZdG Zfc w0 b s (A 8) (Zb4 (bl s)):=by
 intro p w h0 Q hp;have b5:=Q.lt;have d:=hid P;have T:Hid (∀w,BW w0 w->RdAt w b s p->CP 196 #[Vp b] w _):=hid (fun w h1 h2=>ZrS s p b w h2 (P.code h1) P.ng hp hs);have R:=hid h0;have a6:=hid Q;have c1:w.cell? ⟨b,1,none⟩=some (Vi p):=Q.cell 1;clear Q h0 P hs;go_enter func139,ntmps139
 go_wp2_with fail
 refine Zm fun W hW=>?_;have I:BW w W:=by rw[hW];exact Zbal
 have U:Hid (BAt W w.heap.size [.string ⟨#[]⟩,S0,Vi 0] 294):=hid (by rw[hW];exact Go.Deep.blk_alloc_new _ _);have J:Hid (w.grownBy W (some b)):=hid (Zw I);have V:Hid (BW w0 W):=hid (ZbV R.out J.out d.b);have X:=hid (a6.below I);clear hW I c1;refine(T.out W V.out X.out).mono ?_;rintro e G ⟨v,err,rfl,H,K⟩;have l:Hid (w.grownBy G (some b)):=hid (Zj J.out K);have c:=hid (U.grown K (by intro e;injection e with e;omega));have o:Hid (BW w0 G):=hid (ZbV R.out l.out d.b);clear K J U V X T;cases k:ZcH (bl s) p with
 | error x=>
  obtain⟨fa,rfl⟩:=H.jn k;have L:Hid (RdC ZdG Zfc G b s (A 8) (Zb4 (bl s) p) (.agg #[.string ⟨#[]⟩,S0,Vi 0]) (.iface 115 (Vp fa))):=hid (H.km k (by unfold Zb4;rw[k]) rfl);obtain⟨_,_,rfl,_⟩:=H.err k;clear H k;have f0:=c.frozen 0;have f1:=c.frozen 1;have f2:=c.frozen 2;have c0:=c.cell 0;have c1:=c.cell 1;have c2:=c.cell 2;simp only[Zget]at c0 c1 c2;go_wp2;exact ret3 (r:=.tuple #[.agg #[.string ⟨#[]⟩,S0,Vi 0],.iface 115 (Vp fa)]) (fun W s0 s1 s2=>by simp[results,results139,go_sem,s0,s1,s2]) rfl c.out ⟨_,_,rfl,L.kept (ZfC G w.heap.size (.string ⟨#[]⟩) S0 (Vi 0)) c.out Dc Dc (fun _ h=>h.ju c.out (ZfC G w.heap.size (.string ⟨#[]⟩) S0 (Vi 0)) Dc),Ze4 l.out (Yac _) (.string ⟨#[]⟩) S0 (Vi 0)⟩
 | ok x=>
  obtain⟨t,q⟩:=x;obtain⟨rfl,⟨tx,rfl,u⟩,hq⟩:=H.ok k;have a7:=(Zkl k).1;simp only at hq a7 u;have a8:tx.size<=70000:=by rw[ZU u];omega
  have Y:=hid hq
  have B:Hid (Zb4 (bl s) p=match ZbA (bl tx)with
   | none=>.error (9,p)
   | some y=>.ok (y,q)):=hid (by unfold Zb4;rw[k,u];simp only;cases ZbA t <;> rfl)
  clear H k hq u
  go_wp2_with fail
  refine(ZBd tx A m G a8 (d.v.below o.out) (d.t.low o.out d.n) (Yah d.n o.size)).mono ?_;rintro e g ⟨v,ok,rfl,i,C⟩;have D:Hid (w.grownBy g (some b)):=hid (ZeT l.out C);have a:=hid (c.below C);have a9:Hid (BW w0 g):=hid (ZbV R.out D.out d.b);have M:=hid (Y.below C);have b6:=a.lt;clear C c l o Y;cases j:ZbA (bl tx)with
  | none=>
   rw[j]at i;obtain⟨rfl,rfl⟩:=i.out;have N:Hid (Zb4 (bl s) p=.error (9,p)):=hid (by rw[B.out,j]);clear i j B
   go_wp2_with fail
   refine Zm fun W3 Z=>?_;have E:BW g W3:=by rw[Z];exact Zbal
   have O:Hid (w.grownBy W3 (some b)):=hid (ZeT D.out E);have a0:=hid (a.below E);have a1:Hid (BW w0 W3):=hid (ZbV R.out O.out d.b);have a2:=hid (M.below E);clear Z E D a a9 M;refine(ZfX _ (d.code a1.out)).mono ?_;rintro e S ⟨v,rfl,hv,F⟩;have L:Hid (RdC ZdG Zfc S b s (A 8) (Zb4 (bl s) p) (.agg #[.string ⟨#[]⟩,S0,Vi 0]) v):=hid (RdC.ku N.out ⟨rfl,hv.out,rfl,_,a2.below F⟩);have b0:Hid (w.grownBy S (some b)):=hid (ZeT O.out F);have f:=hid (a0.below F);obtain⟨fa,rfl⟩:=ZM.shape hv.out;clear hv F a0 O a1 a2;have f0:=f.frozen 0;have f1:=f.frozen 1;have f2:=f.frozen 2;have c0:=f.cell 0;have c1:=f.cell 1;have c2:=f.cell 2;simp only[Zget]at c0 c1 c2;go_wp2;exact ret3 (r:=.tuple #[.agg #[.string ⟨#[]⟩,S0,Vi 0],.iface 115 (Vp fa)]) (fun W s0 s1 s2=>by simp[results,results139,go_sem,s0,s1,s2]) rfl f.out ⟨_,_,rfl,L.kept (ZfC S w.heap.size (.string ⟨#[]⟩) S0 (Vi 0)) f.out Dc Dc (fun _ h=>h.ju f.out (ZfC S w.heap.size (.string ⟨#[]⟩) S0 (Vi 0)) Dc),Ze4 b0.out (Yac _) (.string ⟨#[]⟩) S0 (Vi 0)⟩
  | some y=>
   rw[j]at i;obtain⟨rfl,a3⟩:=i.out;have a4:=hid a3;obtain⟨z,rfl,b1,b2⟩:=a3;have N:Hid (Zb4 (bl s) p=.ok (y,q)):=hid (by rw[B.out,j]);have L:Hid (RdC ZdG Zfc g b s (A 8) (Zb4 (bl s) p) (.agg #[.string z.nm,.slice z.la z.ln z.lc,Vi z.n]) .nilIface):=hid (RdC.mkOk N.out ⟨rfl,a4.out,M.out⟩);clear i j B b1 b2 a4;have f0:=a.frozen 0;have f1:=a.frozen 1;have f2:=a.frozen 2;have c0:=a.cell 0;have c1:=a.cell 1;have c2:=a.cell 2;simp only[Zget]at c0 c1 c2;go_wp2;change bodyPost _ _ _ _ _ ((set3 g w.heap.size (.string z.nm) (.slice z.la z.ln z.lc) (Vi z.n)).alloc (.cells #[.string z.nm,.slice z.la z.ln z.lc,Vi z.n] 294));have st:=(Zcr a.out (x:=.string z.nm) (y:=.slice z.la z.ln z.lc) (z:=Vi z.n)).below ((Yaf _ _).alloc (Yac _) (.cells #[.string z.nm,.slice z.la z.ln z.lc,Vi z.n] 294));have s0:=st.cell 0;have s1:=st.cell 1;have s2:=st.cell 2;simp only[Zget]at s0 s1 s2;have a5:=hid (L.kept (ZfC g w.heap.size (.string z.nm) (.slice z.la z.ln z.lc) (Vi z.n)) a.out Dc Dc (fun _ h=>h.ju a.out (ZfC g w.heap.size (.string z.nm) (.slice z.la z.ln z.lc) (Vi z.n)) Dc));obtain⟨g1,g2,g3⟩:=a5.ok N.out;have b3:Hid (RdC ZdG Zfc ((set3 g w.heap.size (.string z.nm) (.slice z.la z.ln z.lc) (Vi z.n)).alloc (.cells #[.string z.nm,.slice z.la z.ln z.lc,Vi z.n] 294)) b s (A 8) (Zb4 (bl s) p) (.agg #[.string z.nm,.slice z.la z.ln z.lc,Vi z.n]) .nilIface):=hid (RdC.mkOk N.out ⟨rfl,g2.below Zbal,g3.below Zbal⟩);have b4:=hid (ZbR (Ze4 D.out (Yac _) (.string z.nm) (.slice z.la z.ln z.lc) (Vi z.n)) (.cells #[.string z.nm,.slice z.la z.ln z.lc,Vi z.n] 294));clear g1 g2 g3 a5;generalize(set3 g w.heap.size (.string z.nm) (.slice z.la z.ln z.lc) (Vi z.n)).alloc (.cells #[.string z.nm,.slice z.la z.ln z.lc,Vi z.n] 294)=WX at *
   exact bodyPost_ret (v:=.tuple #[.agg #[.string z.nm,.slice z.la z.ln z.lc,Vi z.n],.nilIface]) (by simp[results,results139,go_sem,s0,s1,s2]) rfl ⟨_,_,rfl,b3,b4.out⟩
