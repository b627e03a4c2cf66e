/- Parts. -/
import Derived.Test.YtpbemaaghbbocaaGreatDoorH14
set_option linter.all false
set_option maxRecDepth 100000
set_option maxHeartbeats 16000000
namespace Go.Proofs.YtpbemaaghbbocaaGreatDoor
open Go.RowKit LS Go.Proofs.Tryz
variable {P Q:List (LB)}{st su:List Ser}{x y:Nat}{a:Nd}{p q t:Tr}{v:Value}{w:World}
section
theorem Zop:∀xs:List (LB),([44]:LB).intercalate xs=commas xs
 | []=>rfl
 | [a]=>by simp[List.intercalate,commas]
 | a :: b :: l => by
   have ih:=Zop (b::l);rw[ZhX,<-ih];simp[List.intercalate]
theorem ZlV(la:Option Addr)(ln lc:Nat)(ns:List (LB))(h:Zbm w (.slice la ln lc) ns)(v:nw ns<=1000000) :
  CP 82 #[.slice la ln lc,.string ⟨#[44]⟩] w fun e u=>∃s:BA,e=.returned (.string s)/\Hid (bl s=commas ns)/\BW w u:=by
 obtain⟨bs,a,d⟩:=h;have m:ln=bs.length:=by obtain⟨_,_,e⟩:=Zl a;injection e
 subst m;by_cases k:bs.length=0
 ·rw[k];refine(strings_Join_none la lc ⟨#[44]⟩ w).mono ?_;rintro e u ⟨rfl,rfl⟩;have:bs=[]:=Ya3 k;subst this;exact⟨_,rfl,hid (by rw[<-d];rfl),Yaf _ _⟩
 ·obtain⟨g,cp,n⟩:=ZF a Om;injection n with hg1 _ hg2;subst hg1 hg2
  have f:Lib.join (bs.map (·.data.toList)) [44]=commas ns:=by
   rw[<-d];exact Zop _
  have r:=ZeS ns
  have i:bs.length<=lc:=by
   rcases a.2 with ⟨e,_⟩|⟨g',cap,cur,e,_,_,o,_⟩
   ·cases e
   ·injection e with _ _ e;subst e;exact o
  have t:bs.length<=1000000:=by
   have p:bs.length<=nw (bs.map bl):=by
    clear f i a d k
    induction bs with
    | nil=>exact Yag _
    | cons c l ih=>simp only[Ybb,nw,Yaj];omega
   rw[d]at p;omega
  refine(strings_Join g 0 lc bs ⟨#[44]⟩ w ?_ (Z1 a) Om i (by show(Lib.join (bs.map (·.data.toList)) [44]).length<=_;rw[f];omega)).mono ?_
  ·intro j x f;rw[Ycf];exact Zi a j _ (by show(bs.map Value.string)[j]?=_;rw[Ya2,f];rfl)
  ·rintro e u ⟨rfl,q⟩;exact⟨_,rfl,hid (by show bl (ByteArray.mk (Lib.join (bs.map (·.data.toList)) [44]).toArray)=_;rw[ZbF,f]),q⟩
theorem ZsJ(d:a.jx=4∨a.jx=6)(e:a.jx=4->a.op<=3):Zdb (opNo a)+1=Zz a/\opNo a<=4:=by
 rcases d with h|h
 ·have f:=e h;have e1:opNo a=a.op+1:=by unfold opNo;rw[if_neg Om]
  have e2:Zz a=if a.op<2 then 2 else 3:=by unfold Zz;rw[if_neg Om,if_pos h]
  rw[e1,e2];refine⟨?_,by omega⟩;unfold Zdb;rw[if_neg Om];by_cases c:a.op<2
  ·rw[if_pos c,if_pos Om]
  ·rw[if_neg c,if_neg Om]
 ·have e1:opNo a=0:=by unfold opNo;rw[if_pos h]
  have e2:Zz a=1:=by unfold Zz;rw[if_pos h]
  rw[e1,e2];exact⟨rfl,by omega⟩
theorem Zvl(c:a.jx=4∨a.jx=6)(d:a.jx=4->a.op<=3)(pl pr:Nat->LB):Zbv a pl pr=pl (Zz a)++[32]++Ze5 (opNo a)++[32]++pr (Zz a+1):=by
 unfold Zbv;rw[if_neg Om,if_neg Om,if_neg Om,if_neg Om,if_neg Om];rcases c with h|h
 ·rw[if_neg Om];have:=d h
  have e:opS a.op=Ze5 (opNo a):=by
   unfold opNo;rw[if_neg Om];rcases(by omega:a.op=0∨a.op=1∨a.op=2∨a.op=3)with h|h|h|h <;> rw[h] <;> rfl
  rw[e]
 ·have e:Zz a=1:=by unfold Zz;rw[if_pos h]
  rw[if_pos h,e];unfold opNo Ze5;rw[if_pos h,if_pos rfl];simp
theorem ZA5 (W : World)  : CP 279 #[v] W fun e u => e = .returned (Vi 3) /\ BW W u := by
  go_enter func279,ntmps279;go_wp2
  all_goals
    go_ret;exact⟨rfl,belB⟩
theorem ZA4 (W : World)  : CP 280 #[v] W fun e u => e = .returned (Vi 3) /\ BW W u := by
  go_enter func280,ntmps280;go_wp2
  all_goals
    go_ret;exact⟨rfl,belB⟩
theorem ZA7 (W : World)  : CP 281 #[v] W fun e u => e = .returned (Vi 3) /\ BW W u := by
  go_enter func281,ntmps281;go_wp2
  all_goals
    go_ret;exact⟨rfl,belB⟩
theorem ZA8 (W : World)  : CP 286 #[v] W fun e u => e = .returned (Vi 3) /\ BW W u := by
  go_enter func286,ntmps286;go_wp2
  all_goals
    go_ret;exact⟨rfl,belB⟩
theorem ZA6 (W : World)  : CP 285 #[v] W fun e u => e = .returned (Vi 3) /\ BW W u := by
  go_enter func285,ntmps285;go_wp2
  all_goals
    go_ret;exact⟨rfl,belB⟩
theorem ZrK (W : World) (o : Nat) (a : o <= 4) (ty1 ty2 : TypeId) (u1 u2 : Value) : CP 80 #[.agg #[Vi o, .iface ty1 u1, .iface ty2 u2]] W fun e u => e = .returned (Vi (Zdb o)) /\ BW W u := by
  have c:BW W (W.alloc (.cells #[Vi o,.iface ty1 u1,.iface ty2 u2] 149)):=Zbal;go_enter func80,ntmps80
  go_wp2_with (go_at_call 67;refine(Zm0 o a).mono ?_;rintro e d ⟨rfl,rfl⟩)
  go_ret;exact⟨rfl,c⟩
theorem mN  (w : World) : (Go.method 518 152 v "gauge/syntax.rank").run Tryz.prog w = .ok (279, v) w := by kernel_rfl
theorem mG  (w : World) : (Go.method 518 154 v "gauge/syntax.rank").run Tryz.prog w = .ok (280, v) w := by kernel_rfl
theorem mU (v : Value) (w : World) : (Go.method 518 156 v "gauge/syntax.rank").run Tryz.prog w = .ok (281, v) w := by kernel_rfl
theorem mW  (w : World) : (Go.method 518 181 v "gauge/syntax.rank").run Tryz.prog w = .ok (286, v) w := by kernel_rfl
theorem mS  (w : World) : (Go.method 518 179 v "gauge/syntax.rank").run Tryz.prog w = .ok (285, v) w := by kernel_rfl
theorem mP  (w : World) : (Go.method 518 149 v "gauge/syntax.rank").run Tryz.prog w = .ok (80, v) w := by kernel_rfl
theorem ZAk    {l r : Tr}  (h : Zh w (.node x y a l r) v) (ho : a.jx = 4 → a.op ≤ 3) : ∃ (ty : TypeId) (u : Value) (f : FuncId), v = .iface ty u ∧ (∀ W, (Go.method 518 ty u "gauge/syntax.rank").run Tryz.prog W = .ok (f, u) W) ∧ (∀ W, (callFunc f #[u]).run Tryz.prog W = .ok (.enter f #[u]) W) ∧ (∀ W, Calls Tryz.prog f #[u] W fun e w' => e = .returned (.int .i64 ((Zz a - 1 : Nat) : Int)) ∧ Below W.heap.size W w') := by
  have h4:a.jx<=3∨a.jx=5->Zz a - 1=3:=by
    intro h;unfold Zz;rw[if_neg Om,if_neg Om]
  rcases h with ⟨hk,rfl⟩|⟨hk,nm,la,ln,lc,rfl,_⟩|⟨hk,wd,nm,la,ln,lc,rfl,_⟩|⟨hk,z,rfl,hz⟩|⟨hk,wd,la,ln,lc,z,rfl,_,_,hz⟩|⟨hk,z1,z2,rfl,hz1,hz2⟩
  · exact⟨_,_,_,rfl,fun W=>mN W,fun W=>by kernel_rfl,fun W=>by rw[h4 Om];exact ZA5 W⟩
  · exact⟨_,_,_,rfl,fun W=>mS W,fun W=>by kernel_rfl,fun W=>by rw[h4 Om];exact ZA6 W⟩
  · exact⟨_,_,_,rfl,fun W=>mW W,fun W=>by kernel_rfl,fun W=>by rw[h4 Om];exact ZA8 W⟩
  · exact⟨_,_,_,rfl,fun W=>mG W,fun W=>by kernel_rfl,fun W=>by rw[h4 Om];exact ZA4 W⟩
  · exact⟨_,_,_,rfl,fun W=>mU _ W,fun W=>by kernel_rfl,fun W=>by rw[h4 Om];exact ZA7 W⟩
  · obtain⟨t1,u1,rfl⟩:=Zh.shape hz1
    obtain⟨t2,u2,rfl⟩:=Zh.shape hz2;have ht:=ZsJ hk ho;exact⟨_,_,_,rfl,fun W=>mP W,fun W=>by kernel_rfl,fun W=>by rw[show Zz a - 1=Zdb (opNo a) by omega];exact ZrK W _ ht.2 _ _ _ _⟩
def WC(t:Tr):Prop:=∀(w:World) (v:Value) (B b:Nat) (l:LB),Zh w t v->WB w B b l->ZR w->20<=B->l.length+wT t<=big->
 CP 38 #[Vp b,v] w fun e w'=>e=.returned (.tuple #[])/\Hid (WB w' B b (l++Zu t 1))/\Hid (WK B b w w')
def WW(t:Tr):Prop:=∀(w:World) (v:Value) (B b:Nat) (l:LB) (j:Nat),Zh w t v->WB w B b l->ZR w->20<=B->l.length+wT t+2<=big->
 CP 79 #[Vp b,v,Vi j] w fun e w'=>e=.returned (.tuple #[])/\Hid (WB w' B b (l++Zu t (j+1)))/\Hid (WK B b w w')
theorem Zd7{l r:Tr} : Zu (.node x y a l r) 1=Zbv a (Zu l) (Zu r):=by
 show ZeK (decide (Zz a<1)) _=_;rw[decide_eq_false (by unfold Zz;split <;> (try split) <;> (try split) <;> omega)];rfl
theorem Ztc(d:wfT t)(h:WC t):WW t:=by
 intro w v B b l j r P Q R F
 match t,d,h,r,F with
 | .node x y a p q,d,h,r,F=>
  obtain⟨ty,u,f,rfl,hm,S,T⟩:=ZAk r d.2.2.1;have HP:Hid (Zh w (.node x y a p q) (.iface ty u)):=r;have U:Hid (WB w B b l):=P;have V:Hid (ZR w):=Q;have G:Hid (20<=B):=R;have H:Hid (l.length+wT (.node x y a p q)+2<=big):=F;have HC:Hid (∀W,CP f #[u] W fun e w'=>e=.returned (Vi ((Zz a - 1:Nat):Int))/\BW W w'):=T;have I:Hid (1<=Zz a):=hid (by unfold Zz;split <;> (try split) <;> (try split) <;> omega)
  have J:Hid ((Zu (.node x y a p q) 1).length+2<=wT (.node x y a p q)):=hid (by
   rw[Zd7];exact Zow d.2.2.2.2.2.1 (fun m=>Zfy p m d.2.2.2.2.2.2.2.2.2.2.1) (fun m=>Zfy q m d.2.2.2.2.2.2.2.2.2.2.2))
  clear T r P Q R F;go_enter func79,ntmps79
  go_wp2_with fail
  refine(HC.out w).mono ?_;rintro e s ⟨rfl,i⟩;have A:Hid (Zh s (.node x y a p q) (.iface ty u)):=HP.below i;have k:Hid (WB s B b l):=U.below i;have n:Hid (WK B b w s):=WK.below i U.le;have K:Hid (ZR s):=V.low n.low G.out;clear i hm S;obtain⟨rk,C⟩:∃rk,rk=Zz a - 1:=⟨_,rfl⟩
  rw[<-C];by_cases a2:(j:Int)<=rk
  ·have O:Hid (Zu (.node x y a p q) (j+1)=Zu (.node x y a p q) 1):=hid (by
    rw[Zd7];show ZeK (decide (Zz a<j+1)) _=_;rw[decide_eq_false (by have:=I.out;omega)];rfl)
   clear C
   go_wp2_with fail
   refine(h s _ B b l A.out k.out K.out G.out (by have:=H.out;omega)).mono ?_;rintro e z ⟨rfl,o,c⟩;have g:Hid (WK B b w z):=n.trans c.out;clear c;go_wp2;exact bodyPost_ret (v:=.tuple #[]) (results_none rfl _ _ _) rfl ⟨rfl,by rw[O.out];exact o,g⟩
  ·have O:Hid (Zu (.node x y a p q) (j+1)=[40]++Zu (.node x y a p q) 1++[41]):=hid (by
    rw[Zd7];show ZeK (decide (Zz a<j+1)) _=_;rw[decide_eq_true (by have:=I.out;omega)];rfl)
   clear C
   go_wp2_with fail
   refine(Zda k.out ⟨#[40]⟩ (by have X:=H.out;have h2:=J.out;show _+1<=_;omega)).mono ?_;rintro e z ⟨rfl,o,c⟩;have g:Hid (WK B b w z):=n.trans c.out;have L:Hid (Zh z (.node x y a p q) (.iface ty u)):=hid (Zh.wrote k.out c.out A.out);have M:Hid (ZR z):=V.low g.low G.out;clear c A k n K
   go_wp2_with fail
   refine(h z _ B b _ L.out o.out M.out G.out (by rw[Yab,Zd];have X:=H.out;show _+1+_<=_;omega)).mono ?_;rintro e w3 ⟨rfl,Y,D⟩;have Z:Hid (WK B b w w3):=g.trans D.out;clear D L o g M
   go_wp2_with fail
   refine(Zda Y.out ⟨#[41]⟩ (by simp only[Yab,Zd];have X:=H.out;have h2:=J.out;show _+1+_+1<=_;omega)).mono ?_;rintro e w4 ⟨rfl,N,E⟩;have a0:Hid (WK B b w w4):=Z.trans E.out
   have a1:Hid (WB w4 B b (l++Zu (.node x y a p q) (j+1))):=hid (by
    rw[O.out];have:=N.out;simp only[Yan]at this ⊢;exact this)
   clear E N;go_wp2
   go_end0
   exact⟨rfl,a1,a0⟩
attribute [local go_sem ↓] Go.wp_at_zero Go.wp_at_succ
attribute [local go_sem] ZhB ZkO ZkP ZkN ZkQ ZiT ZhA Zhz ZkL ZkK ZkM ZiS ZgB ZgA ZgC ZkR ZkS ZiU Zhx Zhw Zhy Zhv ZkJ ZiR ZhJ ZhI ZhK ZhH ZhL ZiV ZhE ZhD ZhF ZhC ZhG ZgD
theorem Zvi(h:a.jx=0)(pl pr:Nat->LB):Zbv a pl pr=decS a.n.toNat:=by unfold Zbv;rw[if_pos h]
theorem Zvj(h:a.jx=1)(pl pr:Nat->LB):Zbv a pl pr=selS a:=by unfold Zbv;rw[if_neg Om,if_pos h]
theorem Zvk(h:a.jx=2)(pl pr:Nat->LB):Zbv a pl pr=Z0.getD a.op []++[40]++selS a++[91]++decS a.n.toNat++[93,41]:=by unfold Zbv;rw[if_neg Om,if_neg Om,if_pos h]
theorem Zvh(h:a.jx=3)(pl pr:Nat->LB):Zbv a pl pr=[45]++pl 4:=by unfold Zbv;rw[if_neg Om,if_neg Om,if_neg Om,if_pos h]
theorem Zvg(h:a.jx=5)(pl pr:Nat->LB):Zbv a pl pr=ZW.getD a.op []++[32,98,121,32,40]++commas a.by_++[41,32,40]++pl 1++[41]:=by unfold Zbv;rw[if_neg Om,if_neg Om,if_neg Om,if_neg Om,if_pos h]
theorem ZoL{n:Int}(h:n<=1000000000):(decS n.toNat).length<=10:=by
 refine ZhZ 9 _ ?_;have a:n.toNat<=1000000000:=by omega
 have c:(10:Nat) ^ 10=10000000000:=by decide
 omega
theorem ZET(c:wfT (.node x y a p q))(k:a.jx=0)(w:World)(B b:Nat)(l:LB)(m:WB w B b l)(o:ZR w)(r:20<=B)(K:l.length+wT (.node x y a p q)<=big) :
  CP 38 #[Vp b,.iface 152 (.agg #[Vi a.n])] w fun e u=>e=.returned (.tuple #[])/\Hid (WB u B b (l++Zu (.node x y a p q) 1))/\Hid (WK B b w u):=by
 have t:Hid (Zu (.node x y a p q) 1=decS a.n.toNat):=hid (by rw[Zd7,Zvi k]);have v:Hid (WB w B b l):=m;have L:Hid (ZR w):=o;have M:Hid (20<=B):=r;have h:Hid (0<=a.n/\a.n<=1000000000):=⟨c.2.2.2.2.1,c.2.2.2.2.2.1⟩
 have N:Hid (l.length+24<=big):=hid (by have O:ownW a+wT p+wT q=wT (.node x y a p q):=rfl;unfold ownW at O;omega);obtain⟨n,A⟩:∃n,n=a.n:=⟨_,rfl⟩
 rw[<-A]at h t ⊢;clear m o r K c k A;go_enter func38,ntmps38
 go_wp2_with fail
 refine Zm fun W C=>?_;have d:BW w W:=by rw[C];exact Zbal
 have i:Hid (WB W B b l):=v.below d;have j:Hid (WK B b w W):=WK.below d v.le;have D:Hid (ZR W):=L.low j.low M.out;clear C d;refine(ZlT D.out n h.1 h.2).mono ?_;rintro e E ⟨s,rfl,F,f⟩;have G:Hid (WB E B b l):=i.below f;have H:Hid (WK B b w E):=j.trans (WK.below f i.le);clear f
 go_wp2_with fail
 refine(Zda G.out s (by rw[ZU F.out];have:=ZoL h.2;have:=N.out;omega)).mono ?_;rintro e z ⟨rfl,I,g⟩;have J:Hid (WK B b w z):=H.trans g.out;clear g;go_wp2
 go_end0
 exact⟨rfl,by rw[t.out,<-F.out];exact I,J⟩
theorem ZEV(g:a.jx=1)(nm:BA)(la:Option Addr)(ln lc:Nat)(w:World)(f:bl nm=a.name)(h:ZX w (.slice la ln lc) a.jq)(B b:Nat)(l:LB)(i:WB w B b l)(v:l.length+wT (.node x y a p q)<=big) :
  CP 38 #[Vp b,.iface 179 (.agg #[.string nm,.slice la ln lc])] w fun e u=>e=.returned (.tuple #[])/\Hid (WB u B b (l++Zu (.node x y a p q) 1))/\Hid (WK B b w u):=by
 have A:Hid (Zu (.node x y a p q) 1=selS a):=hid (by rw[Zd7,Zvj g]);have j:Hid (WB w B b l):=i;have k:Hid (bl nm=a.name):=f;have C:Hid (ZX w (.slice la ln lc) a.jq):=h;have D:Hid (l.length+a.name.length+cw a.jq+10<=big):=hid (by have E:ownW a+wT p+wT q=wT (.node x y a p q):=rfl;unfold ownW at E;omega);clear i v g f h;go_enter func38,ntmps38
 go_wp2_with fail
 refine Zm fun W m=>?_;have c:BW w W:=by rw[m];exact Zbal
 have n:Hid (WB W B b l):=j.below c;have o:Hid (WK B b w W):=WK.below c j.le;have r:Hid (ZX W (.slice la ln lc) a.jq):=C.below c;clear m c;refine(Ztq n.out nm la ln lc a k.out r.out D.out).mono ?_;rintro e z ⟨rfl,s,d⟩;have t:Hid (WK B b w z):=o.trans d.out;clear d;go_wp2
 go_end0
 exact⟨rfl,by rw[A.out];exact s,t⟩
theorem ZEW(j:wfT (.node x y a p q))(O:a.jx=2)(c nm:BA)(la:Option Addr)(ln lc:Nat)(w:World)(k:bl c=Z0.getD a.op [])(E:bl nm=a.name)(P:ZX w (.slice la ln lc) a.jq)(B b:Nat)(l:LB)(Q:WB w B b l)(R:ZR w)(S:20<=B)(hl:l.length+wT (.node x y a p q)<=big) :
  CP 38 #[Vp b,.iface 181 (.agg #[.string c,.string nm,.slice la ln lc,Vi a.n])] w fun e u=>e=.returned (.tuple #[])/\Hid (WB u B b (l++Zu (.node x y a p q) 1))/\Hid (WK B b w u):=by
 have T:Hid (Zu (.node x y a p q) 1=bl c++[40]++selS a++[91]++decS a.n.toNat++[93,41]):=hid (by rw[Zd7,Zvk O,k]);have U:Hid (WB w B b l):=Q;have HT:Hid (ZR w):=R;have HB:Hid (20<=B):=S;have D:Hid (0<=a.n/\a.n<=1000000000):=⟨j.2.2.2.2.1,j.2.2.2.2.2.1⟩
 have V:Hid (bl nm=a.name):=E;have HC:Hid (ZX w (.slice la ln lc) a.jq):=P;have a7:c.size<=5:=by rw[ZU k];exact Zh5 Z0 Dc a.op
 have M:Hid (l.length+a.name.length+cw a.jq+24<=big):=hid (by have h1:ownW a+wT p+wT q=wT (.node x y a p q):=rfl;unfold ownW at h1;omega);have X:Hid ((selS a).length<=a.name.length+cw a.jq+2):=hid (Zr7 a);obtain⟨n,Y⟩:∃n,n=a.n:=⟨_,rfl⟩
 rw[<-Y]at D T ⊢;have a1:∀W,(Op.stringOp .add c ⟨#[40]⟩).run prog W=.ok (.string (c++⟨#[40]⟩)) W:=fun W=>run_string_add_sum W _ _ (by show c.size+1<=_;omega);have m:Hid ((c++⟨#[40]⟩:BA).size=c.size+1):=hid (by rw[Yaz];rfl);clear Q R S hl j O Y k E P;go_enter func38,ntmps38
 go_upto_region 20 with fail
 refine ZP fun W N=>?_;have g:BW w W:=by rw[N];exact Zbal
 have o:Hid (BAt W w.heap.size [.string c,.string nm,.slice la ln lc,Vi n] 181):=hid (by rw[N];exact Go.Deep.blk_alloc_new _ _);have h:Hid (WB W B b l):=U.below g;have F:Hid (WK B b w W):=WK.below g U.le;have G:Hid (ZX W (.slice la ln lc) a.jq):=HC.below g;clear N g;have p0:=o.cell 0;simp only[Ycy]at p0
 go_wp2_with fail
 refine(Zda h.out _ (by rw[m.out];have:=M.out;omega)).mono ?_;rintro e Z ⟨rfl,r,d⟩;have H:Hid (WK B b w Z):=F.trans d.out;have i:=hid (WK.bat h.out d.out o.out Dc Dc);have I:Hid (ZX Z (.slice la ln lc) a.jq):=hid (G.wrote h.out d.out);clear d p0 o h F G;have p1:=i.cell 1;have p2:=i.cell 2;simp only[Zget]at p1 p2
 go_wp2_with fail
 refine(Ztq r.out nm la ln lc a V.out I.out (by rw[Yab,Zd,m.out];have:=M.out;omega)).mono ?_;rintro e z ⟨rfl,t,f⟩;have v:Hid (WK B b w z):=H.trans f.out;have a0:=hid (WK.bat r.out f.out i.out Dc Dc);have J:Hid (ZR z):=HT.low v.low HB.out;clear f p1 p2 i r H I;have p3:=a0.cell 3;simp only[Zget]at p3
 go_wp2_with fail
 refine(ZlT J.out n D.1 D.2).mono ?_;rintro e w3 ⟨s,rfl,hs,A⟩;have a2:=hid (t.below A);have a3:Hid (WK B b w w3):=v.trans (WK.below A t.le);have a8:s.size<=10:=by rw[ZU hs.out];exact ZoL D.2
 have b1:∀W,(Op.stringOp .add ⟨#[91]⟩ s).run prog W=.ok (.string (⟨#[91]⟩++s)) W:=fun W=>run_string_add_sum W _ _ (by show 1+s.size<=_;omega);have K:Hid ((⟨#[91]⟩++s:BA).size=1+s.size):=hid (by rw[Yaz];rfl);have b2:∀W,(Op.stringOp .add (⟨#[91]⟩++s) ⟨#[93,41]⟩).run prog W=.ok (.string ((⟨#[91]⟩++s)++⟨#[93,41]⟩)) W:=fun W=>run_string_add_sum W _ _ (by rw[K.out];show _+2<=_;omega);have a4:Hid (((⟨#[91]⟩++s)++⟨#[93,41]⟩:BA).size=1+s.size+2):=hid (by rw[Yaz,K.out];rfl);clear A p3 t v J
 go_wp2_with fail
 refine(Zda a2.out _ (by rw[a4.out];simp only[Yab,Zd];rw[m.out];have:=M.out;have:=X.out;omega)).mono ?_;rintro e w4 ⟨rfl,L,C⟩;have a5:Hid (WK B b w w4):=a3.trans C.out
 have a6:Hid (WB w4 B b (l++Zu (.node x y a p q) 1)):=hid (by
  rw[T.out,<-hs.out];have:=L.out;rw[ZcV,ZcV,ZcV]at this;simp only[Yan]at this ⊢;exact this)
 clear C L;go_wp2
 go_end0
 exact⟨rfl,a6,a5⟩
theorem ZES(s:a.jx=3)(ih:WW p)(w:World)(z:Value)(o:Zh w p z)(B b:Nat)(l:LB)(t:WB w B b l)(v:ZR w)(A:20<=B)(O:l.length+wT (.node x y a p q)<=big) :
  CP 38 #[Vp b,.iface 154 (.agg #[z])] w fun e C=>e=.returned (.tuple #[])/\Hid (WB C B b (l++Zu (.node x y a p q) 1))/\Hid (WK B b w C):=by
 have P:Hid (Zu (.node x y a p q) 1=[45]++Zu p 4):=hid (by rw[Zd7,Zvh s]);have D:Hid (WB w B b l):=t;have Q:Hid (ZR w):=v;have E:Hid (20<=B):=A;have F:Hid (l.length+24+wT p<=big):=hid (by have R:ownW a+wT p+wT q=wT (.node x y a p q):=rfl;unfold ownW at R;omega);have S:Hid (Zh w p z):=o;obtain⟨ty,u,G⟩:=Zh.shape o;subst G;clear t v A O s o;go_enter func38,ntmps38
 go_upto_region 6 with fail
 refine ZP fun W r=>?_;have d:BW w W:=by rw[r];exact Zbal
 have i:Hid (BAt W w.heap.size [.iface ty u] 154):=hid (by rw[r];exact Go.Deep.blk_alloc_new _ _);have f:Hid (WB W B b l):=D.below d;have j:Hid (WK B b w W):=WK.below d D.le;have k:Hid (Zh W p (.iface ty u)):=S.below d;clear r d
 go_wp2_with fail
 refine(Zda f.out ⟨#[45]⟩ (by have:=F.out;show _+1<=_;omega)).mono ?_;rintro e h ⟨rfl,H,c⟩;have m:Hid (WK B b w h):=j.trans c.out;have I:=hid (WK.bat f.out c.out i.out Dc Dc);have J:Hid (Zh h p (.iface ty u)):=hid (Zh.wrote f.out c.out k.out);have K:Hid (ZR h):=Q.low m.low E.out;clear c i f j k;have p0:=I.cell 0;simp only[Ycy]at p0
 go_wp2_with fail
 refine(ih h _ B b _ 3 J.out H.out K.out E.out (by rw[Yab,Zd];have:=F.out;show _+1+_+2<=_;omega)).mono ?_;rintro e L ⟨rfl,n,g⟩;have M:Hid (WK B b w L):=m.trans g.out;have N:Hid (WB L B b (l++Zu (.node x y a p q) 1)):=hid (by rw[P.out,<-Yan];exact n.out);clear g n;go_wp2
 go_end0
 exact⟨rfl,N,M⟩
end
section
attribute [local go_sem ↓] Go.wp_at_zero Go.wp_at_succ
attribute [local go_sem] ZhB ZkO ZkP ZkN ZkQ ZiT ZhA Zhz ZkL ZkK ZkM ZiS ZgB ZgA ZgC ZkR ZkS ZiU Zhx Zhw Zhy Zhv ZkJ ZiR ZhJ ZhI ZhK ZhH ZhL ZiV ZhE ZhD ZhF ZhC ZhG ZgD
theorem ZCe(o:Nat):(Ze5 o).length<=2:=by
 unfold Ze5;split <;> (try split) <;> (try split) <;> (try split) <;> simp
theorem ZEU(s:wfT (.node x y a p q))(hk:a.jx=4∨a.jx=6)(R:WW p)(S:WW q)(w:World)(z1 z2:Value)(E:Zh w p z1)(F:Zh w q z2)(B b:Nat)(l:LB)(hw:WB w B b l)(ht:ZR w)(hB:20<=B)(hl:l.length+wT (.node x y a p q)<=big) :
  CP 38 #[Vp b,.iface 149 (.agg #[Vi (opNo a),z1,z2])] w fun e u=>e=.returned (.tuple #[])/\Hid (WB u B b (l++Zu (.node x y a p q) 1))/\Hid (WK B b w u):=by
 obtain⟨o,t⟩:∃o,o=opNo a:=⟨_,rfl⟩
 have G:=ZsJ hk s.2.2.1;have HX:Hid (Zu (.node x y a p q) 1=Zu p (Zdb o+1)++[32]++Ze5 o++[32]++Zu q (Zdb o+1+1)):=hid (by rw[Zd7,Zvl hk s.2.2.1,t,G.1]);have T:o<=4:=by rw[t];exact G.2
 have H:Hid ((Zu p (Zdb o+1)).length<=wT p):=hid (Zfy p _ s.2.2.2.2.2.2.2.2.2.2.1);rw[<-t];have HW:Hid (WB w B b l):=hw;have HT:Hid (ZR w):=ht;have P:Hid (20<=B):=hB;have HL:Hid (l.length+24+wT p+wT q<=big):=hid (by have I:ownW a+wT p+wT q=wT (.node x y a p q):=rfl;unfold ownW at I;omega);have a6:Hid (Zh w p z1):=E;have a7:Hid (Zh w q z2):=F;obtain⟨t1,u1,a0⟩:=Zh.shape E;obtain⟨t2,u2,a3⟩:=Zh.shape F;subst a0 a3;obtain⟨sg,J⟩:∃sg:BA,sg=⟨(Ze5 o).toArray⟩:=⟨_,rfl⟩
 have a8:Hid (⟨(Ze5 o).toArray⟩=sg):=J.symm;have U:Hid (bl sg=Ze5 o):=hid (by rw[J,ZbF]);have c0:sg.size<=2:=by rw[ZU U.out];exact ZCe o
 have a9:Zdb o<=2:=by unfold Zdb;split <;> (try split) <;> omega
 have a1:∀W,(Op.stringOp .add ⟨#[32]⟩ sg).run prog W=.ok (.string (⟨#[32]⟩++sg)) W:=fun W=>run_string_add_sum W _ _ (by show 1+sg.size<=_;omega);have V:Hid ((⟨#[32]⟩++sg:BA).size=1+sg.size):=hid (by rw[Yaz];rfl);have a2:∀W,(Op.stringOp .add (⟨#[32]⟩++sg) ⟨#[32]⟩).run prog W=.ok (.string ((⟨#[32]⟩++sg)++⟨#[32]⟩)) W:=fun W=>run_string_add_sum W _ _ (by rw[V.out];show _+1<=_;omega);have X:Hid (((⟨#[32]⟩++sg)++⟨#[32]⟩:BA).size=1+sg.size+1):=hid (by rw[Yaz,V.out];rfl);obtain⟨rr,K⟩:∃rr,rr=Zdb o:=⟨_,rfl⟩
 rw[<-K]at HX H a9;have Y:Hid (∀W,CP 80 #[.agg #[Vi o,.iface t1 u1,.iface t2 u2]] W fun e u=>e=.returned (Vi rr)/\BW W u):=hid (fun W=>by rw[K];exact ZrK W o T t1 t2 u1 u2);have b0:Hid (∀(u:World) (l':LB),Zh u p (.iface t1 u1)->WB u B b l'->ZR u->l'.length+wT p+2<=big->CP 79 #[Vp b,.iface t1 u1,Vi (rr:Int)] u fun e j=>e=.returned (.tuple #[])/\Hid (WB j B b (l'++Zu p (rr+1)))/\Hid (WK B b u j)):=hid (fun u l' I h2 h3 h4=>R u _ B b l' rr I h2 h3 P.out h4);have b1:Hid (∀(u:World) (l':LB),Zh u q (.iface t2 u2)->WB u B b l'->ZR u->l'.length+wT q+2<=big->CP 79 #[Vp b,.iface t2 u2,Vi ((rr:Int)+1)] u fun e j=>e=.returned (.tuple #[])/\Hid (WB j B b (l'++Zu q (rr+1+1)))/\Hid (WK B b u j)):=hid (fun u l' I h2 h3 h4=>S u _ B b l' (rr+1) I h2 h3 P.out h4);have c1:IntKind.i64.wrap ((rr:Int)+1)=(rr:Int)+1:=by rcases(by omega:rr=0∨rr=1∨rr=2)with h|h|h <;> rw[h] <;> rfl
 clear hw ht hB hl hk E F s t G J K R S;go_enter func38,ntmps38
 go_upto_region 10 with fail
 refine ZP fun W hW=>?_;have k:BW w W:=by rw[hW];exact Zbal
 have v:Hid (BAt W w.heap.size [Vi o,.iface t1 u1,.iface t2 u2] 149):=hid (by rw[hW];exact Go.Deep.blk_alloc_new _ _);have z:Hid (WB W B b l):=HW.below k;have b2:Hid (WK B b w W):=WK.below k HW.le;have a4:Hid (Zh W p (.iface t1 u1)):=a6.below k;have a5:Hid (Zh W q (.iface t2 u2)):=a7.below k;clear hW k;have p0:=v.cell 0;have p1:=v.cell 1;have p2:=v.cell 2;simp only[Zget]at p0 p1 p2
 go_region_held3 (fun u => u.cell? ⟨w.heap.size, 0, none⟩ = some (Vi o) /\ u.cell? ⟨w.heap.size, 1, none⟩ = some (.iface t1 u1) /\ u.cell? ⟨w.heap.size, 2, none⟩ = some (.iface t2 u2)) (first | exact ⟨e0, e1, e2⟩ | exact ⟨d0, d1, d2⟩ | exact ⟨p0, p1, p2⟩ | go_keep) (first
   | (go_at_call 80
      refine(Y.out _).mono ?_;rintro e w5 ⟨rfl,d⟩;have c:Hid (BW W w5):=hid ⟨d.os,d.tape,d.output,d.size,d.block⟩;have m:=hid (v.below c.out);have d0:=m.cell 0;have d1:=m.cell 1;have d2:=m.cell 2;simp only[Zget]at d0 d1 d2;have L:Hid (WK B b w w5):=b2.trans (WK.below c.out z.le);clear d)
   | (go_at_call 79
      refine(b0.out w5 l (a4.below c.out) (z.below c.out) (HT.low L.low P.out) (by have:=HL.out;omega)).mono ?_;rintro e w6 ⟨rfl,M,g⟩;have A:=hid (WK.bat (z.below c.out) g.out m.out Dc Dc);have e0:=A.cell 0;have e1:=A.cell 1;have e2:=A.cell 2;simp only[Zget]at e0 e1 e2;have b3:Hid (WK B b w w6):=L.trans g.out;have b4:Hid (Zh w6 q (.iface t2 u2)):=hid (Zh.wrote (z.below c.out) g.out (a5.below c.out));clear g))
 clear p0 p1 p2 d0 d1 d2 m c L
 go_wp2_with (go_at_call 81;refine(ZCd o T).mono ?_;rintro e wq ⟨rfl,rfl⟩;rw[a8.out])
 refine(Zda M.out _ (by rw[X.out,Yab];have:=HL.out;have:=H.out;omega)).mono ?_;rintro e Q ⟨rfl,N,i⟩;have b5:Hid (WK B b w Q):=b3.trans i.out;have C:=hid (WK.bat M.out i.out A.out Dc Dc);have b6:Hid (Zh Q q (.iface t2 u2)):=hid (Zh.wrote M.out i.out b4.out);clear i e0 e1 e2;have p0:=C.cell 0;have p1:=C.cell 1;have p2:=C.cell 2;simp only[Zget]at p0 p1 p2
 go_upto_region 12 with fail
 go_region_held3 (fun u => u.cell? ⟨w.heap.size, 0, none⟩ = some (Vi o) /\ u.cell? ⟨w.heap.size, 1, none⟩ = some (.iface t1 u1) /\ u.cell? ⟨w.heap.size, 2, none⟩ = some (.iface t2 u2)) (first | exact ⟨e0, e1, e2⟩ | exact ⟨d0, d1, d2⟩ | exact ⟨p0, p1, p2⟩ | go_keep) (first
   | (go_at_call 80
      refine(Y.out _).mono ?_;rintro e w8 ⟨rfl,f⟩;have n:Hid (BW Q w8):=hid ⟨f.os,f.tape,f.output,f.size,f.block⟩;have D:=hid (C.below n.out);have d0:=D.cell 0;have d1:=D.cell 1;have d2:=D.cell 2;simp only[Zget]at d0 d1 d2;have Z:Hid (WK B b w w8):=b5.trans (WK.below n.out N.le);clear f)
   | (go_at_call 79
      refine(b1.out w8 _ (b6.below n.out) (N.below n.out) (HT.low Z.low P.out) (by simp only[Yab,Zd];rw[X.out];have:=HL.out;have:=H.out;omega)).mono ?_;rintro e w9 ⟨rfl,b7,r⟩;have O:=hid (WK.bat (N.below n.out) r.out D.out Dc Dc);have e0:=O.cell 0;have e1:=O.cell 1;have e2:=O.cell 2;simp only[Zget]at e0 e1 e2;have b8:Hid (WK B b w w9):=Z.trans r.out;clear r))
 have b9:Hid (WB w9 B b (l++Zu (.node x y a p q) 1)):=hid (by
  rw[HX.out,<-U.out];have:=b7.out;rw[ZcV,ZcV]at this;simp only[Yan]at this ⊢;exact this)
 go_wp2
 go_end0
 exact⟨rfl,b9,b8⟩
theorem ZER(E:wfT (.node x y a p q))(R:a.jx=5)(ih:WC p)(c:BA)(la:Option Addr)(ln lc:Nat)(w:World)(z:Value)(o:bl c=ZW.getD a.op [])(F:Zbm w (.slice la ln lc) a.by_)(N:Zh w p z)(B b:Nat)(l:LB)(S:WB w B b l)(T:ZR w)(U:20<=B)(hl:l.length+wT (.node x y a p q)<=big) :
  CP 38 #[Vp b,.iface 156 (.agg #[.string c,.slice la ln lc,z])] w fun e d=>e=.returned (.tuple #[])/\Hid (WB d B b (l++Zu (.node x y a p q) 1))/\Hid (WK B b w d):=by
 have HX:Hid (Zu (.node x y a p q) 1=bl c++[32,98,121,32,40]++commas a.by_++[41,32,40]++Zu p 1++[41]):=hid (by rw[Zd7,Zvg R,o]);have V:Hid ((Zu p 1).length<=wT p):=hid (Zfy p _ E.2.2.2.2.2.2.2.2.2.2.1);have X:Hid (WB w B b l):=S;have HT:Hid (ZR w):=T;have Y:Hid (20<=B):=U;have r:Hid (l.length+24+nw a.by_+wT p<=big):=hid (by have Z:ownW a+wT p+wT q=wT (.node x y a p q):=rfl;unfold ownW at Z;omega);have HZ:Hid (Zh w p z):=N;have a0:Hid (Zbm w (.slice la ln lc) a.by_):=F;have b7:c.size<=5:=by rw[ZU o];exact Zh5 ZW Dc a.op
 obtain⟨ty,u,a4⟩:=Zh.shape N;subst a4;obtain⟨js,G⟩:∃js:BA,js=⟨(commas a.by_).toArray⟩:=⟨_,rfl⟩
 have t:Hid (bl js=commas a.by_):=hid (by rw[G,ZbF]);have k:Hid (js.size<=nw a.by_):=hid (by rw[ZU t.out];exact ZeS _);have b8:js.size<=1000000:=by have Z:=k.out;have O:=r.out;unfold big at O;omega
 have a1:∀W,(Op.stringOp .add c ⟨#[32,98,121,32,40]⟩).run prog W=.ok (.string (c++⟨#[32,98,121,32,40]⟩)) W:=fun W=>run_string_add_sum W _ _ (by show c.size+5<=_;omega);have H:Hid ((c++⟨#[32,98,121,32,40]⟩:BA).size=c.size+5):=hid (by rw[Yaz];rfl);have a2:∀W,(Op.stringOp .add (c++⟨#[32,98,121,32,40]⟩) js).run prog W=.ok (.string ((c++⟨#[32,98,121,32,40]⟩)++js)) W:=fun W=>run_string_add_sum W _ _ (by rw[H.out];omega);have I:Hid (((c++⟨#[32,98,121,32,40]⟩)++js:BA).size=c.size+5+js.size):=hid (by rw[Yaz,H.out]);have a3:∀W,(Op.stringOp .add ((c++⟨#[32,98,121,32,40]⟩)++js) ⟨#[41,32,40]⟩).run prog W=.ok (.string (((c++⟨#[32,98,121,32,40]⟩)++js)++⟨#[41,32,40]⟩)) W:=fun W=>run_string_add_sum W _ _ (by rw[I.out];show _+3<=_;omega);have v:Hid ((((c++⟨#[32,98,121,32,40]⟩)++js)++⟨#[41,32,40]⟩:BA).size=c.size+5+js.size+3):=hid (by rw[Yaz,I.out];rfl);clear S T U hl R N E o F G;go_enter func38,ntmps38
 go_upto_region 15 with fail
 refine ZP fun W P=>?_;have i:BW w W:=by rw[P];exact Zbal
 have m:Hid (BAt W w.heap.size [.string c,.slice la ln lc,.iface ty u] 156):=hid (by rw[P];exact Go.Deep.blk_alloc_new _ _);have n:Hid (WB W B b l):=X.below i;have a5:Hid (WK B b w W):=WK.below i X.le;have a6:Hid (Zh W p (.iface ty u)):=HZ.below i;have a7:Hid (Zbm W (.slice la ln lc) a.by_):=a0.below i;clear P i;have p0:=m.cell 0;have p1:=m.cell 1;have p2:=m.cell 2;simp only[Zget]at p0 p1 p2
 have J : Hid (∀ d, BW W d -> CP 82 #[.slice la ln lc, .string ⟨#[44]⟩] d fun e K => e = .returned (.string js) /\ BW d K) := hid (by
   intro d a8;refine(ZlV la ln lc a.by_ (a7.below a8) (by have O:=r.out;unfold big at O;omega)).mono ?_;rintro e K ⟨s,rfl,hs,hb⟩;exact⟨by rw[ZcW (hs.trans t.symm)],hb⟩)
 have a9:Hid (BW W W.drew):=hid ((Yaf _ _).drew)
 go_region_held3 (fun d => d.cell? ⟨w.heap.size, 0, none⟩ = some (.string c) /\ d.cell? ⟨w.heap.size, 1, none⟩ = some (.slice la ln lc) /\ d.cell? ⟨w.heap.size, 2, none⟩ = some (.iface ty u)) (first | exact ⟨e0, e1, e2⟩ | exact ⟨d0, d1, d2⟩ | exact ⟨p0, p1, p2⟩ | go_keep) (first
   | (go_at_call 82
      refine(J.out _ a9.out).mono ?_;rintro e w5 ⟨rfl,g⟩;have f:Hid (BW W w5):=hid ⟨g.os,g.tape,g.output,g.size,g.block⟩;have j:=hid (m.below f.out);have d0:=j.cell 0;have d1:=j.cell 1;have d2:=j.cell 2;simp only[Zget]at d0 d1 d2;have L:Hid (WK B b w w5):=a5.trans (WK.below f.out n.le);clear g)
   | (go_at_call 77
      refine(Zda (n.below f.out) _ (by rw[v.out];have:=r.out;have:=k.out;omega)).mono ?_;rintro e Q ⟨rfl,b0,h⟩;have A:=hid (WK.bat (n.below f.out) h.out j.out Dc Dc);have e0:=A.cell 0;have e1:=A.cell 1;have e2:=A.cell 2;simp only[Zget]at e0 e1 e2;have M:Hid (WK B b w Q):=L.trans h.out;have b1:Hid (Zh Q p (.iface ty u)):=hid (Zh.wrote (n.below f.out) h.out (a6.below f.out));clear h))
 clear p0 p1 p2 d0 d1 d2 j f L J
 go_wp2_with fail
 refine(ih Q _ B b _ b1.out b0.out (HT.low M.low Y.out) Y.out (by rw[Yab,Zd,v.out];have:=r.out;have:=k.out;omega)).mono ?_;rintro e w7 ⟨rfl,b2,C⟩;have b3:Hid (WK B b w w7):=M.trans C.out;clear C e0 e1 e2
 go_wp2_with fail
 refine(Zda b2.out ⟨#[41]⟩ (by simp only[Yab,Zd];rw[v.out];show _+1<=_;have:=r.out;have:=k.out;have:=V.out;omega)).mono ?_;rintro e w8 ⟨rfl,b4,D⟩;have b5:Hid (WK B b w w8):=b3.trans D.out
 have b6:Hid (WB w8 B b (l++Zu (.node x y a p q) 1)):=hid (by
  rw[HX.out,<-t.out];have:=b4.out;rw[ZcV,ZcV,ZcV]at this;simp only[Yan]at this ⊢;exact this)
 clear D;go_wp2
 go_end0
 exact⟨rfl,b6,b5⟩
theorem ZnC:∀t:Tr,wfT t->WC t
 | .nil,_=>fun _ _ _ _ _ h=>h.elim
 | .node x y a p q, c => by
   have m:WC p:=ZnC p c.2.2.2.2.2.2.2.2.2.2.1;have r:WC q:=ZnC q c.2.2.2.2.2.2.2.2.2.2.2;have iwp:WW p:=Ztc c.2.2.2.2.2.2.2.2.2.2.1 m;have iwq:WW q:=Ztc c.2.2.2.2.2.2.2.2.2.2.2 r;intro w v B b l A e g i f;rcases A with ⟨d,rfl⟩|⟨d,nm,la,ln,lc,rfl,j,k⟩|⟨d,n,nm,la,ln,lc,rfl,j,k,C⟩|⟨d,z,rfl,o⟩|⟨d,n,la,ln,lc,z,rfl,j,k,o⟩|⟨d,z1,z2,rfl,s,u⟩
   · exact ZET c d w B b l e g i f
   · exact ZEV d nm la ln lc w j k B b l e f
   · exact ZEW c d n nm la ln lc w j k C B b l e g i f
   · exact ZES d iwp w z o B b l e g i f
   · exact ZER c d m n la ln lc w z j k o B b l e g i f
   · exact ZEU c d iwp iwq w z1 z2 s u B b l e g i f
theorem Zj6(c:wfT t)(d:wT t<=100000)(w:World)(v:Value)(h:Zh w t v)(j:ZR w)(k:20<=w.heap.size) :
  CP 22 #[v] w fun e C=>∃s:BA,e=.returned (.string s)/\Hid (bl s=Zu t 1)/\BW w C:=by
 have l:Hid (WC t):=ZnC t c;have D:Hid (Zh w t v):=h;have E:Hid (ZR w):=j;have m:Hid (20<=w.heap.size):=k;have F:Hid (wT t<=100000):=d;obtain⟨ty,u,n⟩:=Zh.shape h;subst n;clear h j k d c;go_enter func22,ntmps22
 go_wp2_with fail
 refine Zm fun W i=>?_;have a:BW w W:=by rw[i];exact Zbal
 have o:Hid (WB W w.heap.size w.heap.size []):=hid ⟨Or.inl ⟨Yac _,S0,by rw[i];exact Go.Deep.blk_alloc_new _ _,⟨rfl,Or.inl ⟨rfl,rfl⟩⟩,by simp[Value.ownBlock]⟩,a.size⟩;have p:Hid (BW w W):=a;have q:Hid (Zh W t (.iface ty u)):=D.below a;have r:Hid (ZR W):=E.low a m.out;clear i a;refine(l.out W _ w.heap.size w.heap.size [] q.out o.out r.out m.out (by have:=F.out;unfold big;simp;omega)).mono ?_;rintro e y ⟨rfl,f,x⟩;have A:Hid (BW w y):=p.trans x.low
 go_wp2_with fail
 refine(Builder_String_any_f w.heap.size w.heap.size _ y f.bd f.le).mono ?_;rintro e z ⟨rfl,_,g⟩;have B:Hid (BW w z):=A.trans g;clear g;go_wp2;go_ret;exact⟨_,rfl,hid (by rw[ZbF]),B.out⟩
end
section
theorem ZQ6(s:BA)(A:Nat->Addr)(m:Int)(w:World)(a:Vars w A m)(c:s.size<=maxLen) :
  CP 13 #[.string s] w fun e u=>e=.returned (.tuple #[Vi (Zbp (bl s)).1,Vi (Zbp (bl s)).2])/\BW w u:=by
 refine ZRN s A m (Zbp (bl s)) w a ?_;by_cases h:s.size<=6000
 ·refine hid ((ZBt s A m w a h).mono ?_);rintro e u ⟨sv,err,d,f,g,_⟩;exact⟨sv,err,d,f,g⟩
 ·have e:Zbp (bl s)=(1,0):=by unfold Zbp;rw[if_pos (by rw[Zd];omega)]
  rw[e];exact ZBr s A m w a Om c
def ixF(n k:Nat)(back:Bool)(i:Nat):Nat:=if back then n - 1 - (k+i) % n else (k+i) % n
theorem ZQS{n k:Nat}{back:Bool}{i:Nat}(h:i<n):ixF n k back i<n:=by
 have:=Nat.mod_lt (k+i) (show 0<n by omega);unfold ixF;split <;> omega
def ZQO(Sx:Nat->BA)(n k:Nat)(back:Bool)(i:Nat):LB:=Zcn ((List.range i).map fun j=>bl (Sx (ixF n k back j)))
theorem ZRK(Sx:Nat->BA)(n k:Nat)(back:Bool)(i:Nat):ZQO Sx n k back (i+1)=(if i=0 then [] else ZQO Sx n k back i++[10])++bl (Sx (ixF n k back i)):=by
 unfold ZQO;rw[Ygx,Yaq,Yco,ZMM];cases i with
 | zero=>rfl
 | succ i=>rw[if_neg (Nat.succ_ne_zero i),if_neg (by simp)]
theorem ZRL(a:Addr)(n cap k:Nat)(back:Bool)(Sx:Nat->BA)(w:World)(D:n<=1048576)(E:k<=n)(g:∀i,i<n->w.cell? (a.add i)=some (.string (Sx i)))(t:∀i,i<n->(Sx i).size<=1048576) :
  CP 11 #[.slice (some a) n cap,Vi k,.bool back] w fun e u=>∃r:BA,e=.returned (.string r)/\Hid (bl r=ZQO Sx n k back n)/\r.size<=1099512676352/\u=w:=by
 have y:=hid g;have z:=hid t;clear g t;go_enter func11,ntmps11;go_wp2
 go_loop [7,8] (fun sv iv=>∃(i:Nat) (s:BA),sv=.string s/\iv=Vi i/\i<=n/\s.size<=i*1048577/\Hid (bl s=ZQO Sx n k back i)) (fun _ iv=>n - (intOf iv).toNat)
 case atStart=>exact⟨0,⟨#[]⟩,rfl,rfl,Yag _,Nat.le_of_eq Dc,hid rfl⟩
 case round=>
  obtain⟨i,s,rfl,rfl,F,G,j⟩:=hrel;have v:s.size<=1099512676352:=by omega
  by_cases l:i<n
  ·have o:=y.out (ixF n k back i) (ZQS l);have p:=z.out (ixF n k back i) (ZQS l);have q:=ZQS (k:=k) (back:=back) l;have h:=ZRK Sx n k back i;have e10:(⟨#[10]⟩:BA).size=1:=rfl;have B:¬(n:Int)=0:=by omega
   obtain⟨x,c⟩:∃x,x=(k+i) % n:=⟨_,rfl⟩
   have C:x<n:=by rw[c];exact Nat.mod_lt _ Om
   have emod:((k:Int)+(i:Int)) % (n:Int)=(x:Int):=by rw[c,Int.natCast_emod,Int.natCast_add]
   by_cases m:i=0
   ·have f:Hid (bl (s++Sx (ixF n k back i))=ZQO Sx n k back (i+1)):=hid (by rw[h,if_pos m,ZcV,j.out,m];rfl);have A:¬(0<(i:Int)):=by omega
    have d:(s++Sx (ixF n k back i)).size<=(i+1)*1048577:=by rw[Yaz];omega
    clear h j m;cases back with
    | false=>
     have e:ixF n k false i=x:=c.symm;rw[e]at o p q f d;clear e c;go_wp2
     go_round
     case rel=>exact⟨i+1,_,rfl,by go_num,by omega,d,f⟩
     case measure=>simp[intOf];omega
    | true=>
     have e:ixF n k true i=n - 1 - x:=by rw[c];rfl
     rw[e]at o p q f d;clear e c;go_wp2
     go_round
     case rel=>exact⟨i+1,_,rfl,by go_num,by omega,d,f⟩
     case measure=>simp[intOf];omega
   ·have f:Hid (bl (s++⟨#[10]⟩++Sx (ixF n k back i))=ZQO Sx n k back (i+1)):=hid (by rw[h,if_neg m,ZcV,ZcV,j.out];rfl);have A:0<(i:Int):=by omega
    have d:(s++⟨#[10]⟩++Sx (ixF n k back i)).size<=(i+1)*1048577:=by rw[Yaz,Yaz];omega
    clear h j m;cases back with
    | false=>
     have e:ixF n k false i=x:=c.symm;rw[e]at o p q f d;clear e c;go_wp2
     go_round
     case rel=>exact⟨i+1,_,rfl,by go_num,by omega,d,f⟩
     case measure=>simp[intOf];omega
    | true=>
     have e:ixF n k true i=n - 1 - x:=by rw[c];rfl
     rw[e]at o p q f d;clear e c;go_wp2
     go_round
     case rel=>exact⟨i+1,_,rfl,by go_num,by omega,d,f⟩
     case measure=>simp[intOf];omega
  ·obtain rfl:i=n:=by omega
   go_wp2;go_ret;exact⟨s,rfl,j,v,rfl⟩
theorem ZRM(k:Nat)(back:Bool)(w:World) :
  CP 11 #[S0,Vi k,.bool back] w fun e u=>e=.returned (.string ⟨#[]⟩)/\u=w:=by
 go_enter func11,ntmps11;go_wp2
 go_loop [7,8] (fun sv iv=>sv=.string ⟨#[]⟩/\iv=Vi 0) (fun _ _=>0)
 case atStart=>exact⟨rfl,rfl⟩
 case round=>
  obtain⟨rfl,rfl⟩:=hrel;go_wp2;go_ret;exact⟨rfl,rfl⟩
theorem ZRO{p:LB}{x y:List (LB)}(h:x≠[]):pre p (x++y)=pre p x++y:=by
 cases x with
 | nil=>exact absurd rfl h
 | cons a t=>rfl
theorem ZRT(c:UInt8)(a b:LB):split c (a++c::b)=split c a++split c b:=by
 induction a with
 | nil=>rw[Ycu,Zhc];rfl
 | cons x a ih=>
  by_cases d:x=c
  ·subst d;rw[Yby,Zhc,Zhc,ih];rfl
  ·have h:(x == c)=false:=by simp[d]
   rw[Yby,Zke c x _ h,Zke c x _ h,ih,ZRO (Zix c a)]
theorem ZQU:∀l:List (LB),l≠[]->split 10 (Zcn l)=l.flatMap (split 10)
 | [],h=>absurd rfl h
 | [a],_=>by simp[Zcn]
 | a :: b :: l, _ => by
   rw[Zcn,ZRT,ZQU (b::l) (by simp)];rfl
theorem ZP3 (c : UInt8) (l : LB) : ((split c l).map fun x => x.length + 1).sum = l.length + 1 := by
  induction l with
  | nil=>rfl
  | cons x l ih=>
    by_cases d:x=c
    · subst d;rw[Zhc,Ybb,Yd2,ih,Yaj];simp;omega
    · rw[Zke c x l (by simp[d])]
      cases h:split c l with
      | nil=>exact absurd h (Zix c l)
      | cons a t=>
        rw[h]at ih;simp only[pre,Ybb,Yd2,Yab,Yaj,Ybq]at ih ⊢;omega
def full(P:List (LB)):List (LB):=P.filter fun x=>!x.isEmpty
def ser1(x:LB):Ser:=match line x with
 | some (a,b,_)=>⟨a,(Zcc b).getD [],Zdo x⟩
 | none=>⟨[],[],[]⟩
def cnt1(x:LB):Nat:=match line x with
 | some (_,_,n)=>n
 | none=>0
theorem ZPT(P:List (LB)):full ([]::P)=full P:=rfl
theorem ZPb(x:LB)(P:List (LB))(h:x≠[]):full (x::P)=x::full P:=by
 unfold full;rw[Yda];cases x with
 | nil=>exact absurd rfl h
 | cons _ _=>rfl
theorem ZPd(P:List (LB)):∀(ps:List (LB)) (i:Nat) (acc:List Entry),P.drop i=ps->(∀x∈ps,x≠[]->(line x).isSome=true)->
  ∃rest:List Entry,Zbh i acc ps=.inr (acc++rest)/\rest.map (serE P)=(full ps).map ser1/\rest.map ZdO=(full ps).map Zdz/\rest.map (·.count)=(full ps).map cnt1
 | [],i,acc,_,_=>⟨[],by simp[Zbh],rfl,rfl,rfl⟩
 | x :: xs, i, acc, hd, g => by
   have e:P.drop (i+1)=xs:=by rw[<-Yei,hd];rfl
   have f:∀y∈xs,y≠[]->(line y).isSome=true:=fun y j=>g y (Yam _ j)
   have k:P.getD i []=x:=by
     have:(P.drop i)[0]?=some x:=by rw[hd];rfl
     rw[Ygv]at this;rw[Yaa,show i=i+0 from rfl,this];rfl
   by_cases c:x=[]
   · subst c
     rw[Zbh,if_pos rfl,ZPT];exact ZPd P xs (i+1) acc e f
   · have h:=g x (Yay ..) c
     cases d:line x with
     | none=>rw[d]at h;cases h
     | some t=>
       obtain⟨a,b,n⟩:=t;obtain⟨rest,e1,e2,e3,e4⟩:=ZPd P xs (i+1) (acc++[⟨i,a,b,n⟩]) e f;refine⟨⟨i,a,b,n⟩::rest,?_,?_,?_,?_⟩
       · rw[Zbh,if_neg c,d]
         simp only;rw[e1];simp
       · rw[ZPb x xs c,Ybb,Ybb,e2]
         congr 1
         unfold serE ser1;rw[d,k]
       · rw[ZPb x xs c,Ybb,Ybb,e3]
         congr 1
         exact(Zyt d).2.2.symm
       · rw[ZPb x xs c,Ybb,Ybb,e4]
         congr 1
         unfold cnt1;rw[d]
theorem ZPl:∀(ps:List (LB)) (i:Nat) (acc:List Entry),(∃x∈ps,x≠[]/\line x=none)->∃k,Zbh i acc ps=.inl k
 | [],_,_,h=>by obtain⟨x,g,_⟩:=h;cases g
 | x :: xs, i, acc, h => by
   rw[Zbh];by_cases f:x=[]
   · rw[if_pos f]
     obtain⟨y,c,e,d⟩:=h;rcases Yau.1 c with rfl|c
     · exact absurd f e
     · exact ZPl xs _ _ ⟨y,c,e,d⟩
   · rw[if_neg f]
     cases j:line x with
     | none=>exact⟨i,rfl⟩
     | some t=>
       obtain⟨a,b,n⟩:=t;obtain⟨y,c,e,d⟩:=h;rcases Yau.1 c with rfl|c
       · rw[j]at d;cases d
       · exact ZPl xs _ _ ⟨y,c,e,d⟩
theorem ZPv : ∀ (rest seen : List Entry), (rest.Pairwise fun a b => ZdO a ≠ ZdO b) -> (∀ e ∈ rest, ∀ s ∈ seen, ZdO s ≠ ZdO e) -> Zfk seen rest = none
  | [],_,_,_=>rfl
  | e :: rest, seen, h, d => by
    obtain⟨g1,g2⟩:=Ybg.1 h;rw[Zfk,if_neg]
    · refine ZPv rest (seen++[e]) g2 (fun f g s c=>?_)
      rcases Yar.1 c with c|c
      · exact d f (Yam _ g) s c
      · rw[Yap]at c;subst c;exact g1 f g
    · rw[Ydk]
      intro i;obtain⟨s,c,j⟩:=Ybe.1 i;exact d e (Yay ..) s c j
def ZO7(P:List (LB)):Prop:=(P.map fun x=>x.length+1).sum<=6001/\(∀x∈P,x≠[]->(line x).isSome=true)/\((full P).map Zdz).Nodup/\(full P).length<=30/\((full P).map cnt1).sum<=200
theorem ZPW(l:LB):(Zbp l).1=0 ↔ ZO7 (split 10 l):=by
 unfold ZO7;rw[ZP3];unfold Zbp;by_cases c:6000<l.length
 ·rw[if_pos c];exact⟨fun h=>absurd h Dc,fun h=>by omega⟩
 rw[if_neg c];by_cases d:∀x∈split 10 l,x≠[]->(line x).isSome=true
 ·obtain⟨rest,e1,e2,e3,e4⟩:=ZPd (split 10 l) (split 10 l) 0 [] rfl d;rw[Ycu]at e1;rw[e1];simp only;rw[ZDv e1]
  have m:ZcS rest rest.length=((full (split 10 l)).map cnt1).sum:=by
   unfold ZcS;rw[Ya4,e4]
  have n:rest.length=(full (split 10 l)).length:=by
   have:=congrArg List.length e3;simpa using this
  have e : (rest.Pairwise fun a b => ZdO a ≠ ZdO b) ↔ ((full (split 10 l)).map Zdz).Nodup := by
    rw[<-e3];unfold List.Nodup;rw[Ybx]
  by_cases hd:rest.Pairwise fun a b=>ZdO a≠ZdO b
  ·rw[ZPv rest [] hd (by simp)];simp only;rw[m,n];by_cases f:30<(full (split 10 l)).length∨200<((full (split 10 l)).map cnt1).sum
   ·rw[if_pos f];exact⟨fun h=>absurd h Dc,fun h=>by omega⟩
   ·rw[if_neg f];exact⟨fun _=>⟨by omega,d,e.1 hd,by omega,by omega⟩,fun _=>rfl⟩
  ·cases g:Zfk [] rest with
   | none=>exact absurd (ZoQ rest [] g).1 hd
   | some i=>exact⟨fun h=>(by cases h),fun h=>absurd (e.2 h.2.2.1) hd⟩
 ·have o:∃x∈split 10 l,x≠[]/\line x=none:=by
   simp only[Classical.not_forall]at d;obtain⟨x,p,q,j⟩:=d;refine⟨x,p,q,?_⟩;cases r:line x with
   | none=>rfl
   | some _=>rw[r]at j;exact absurd rfl j
  obtain⟨k,s⟩:=ZPl _ 0 [] o;rw[s];exact⟨fun h=>(by cases h),fun h=>absurd h.2.1 d⟩
theorem ZP4{l:LB}(h:ZO7 (split 10 l)):Ze6 l=(full (split 10 l)).map ser1/\Dst (Ze6 l):=by
 obtain⟨rest,e1,e2,e3,e4⟩:=ZPd (split 10 l) (split 10 l) 0 [] rfl h.2.1;rw[Ycu]at e1;have d:Ze6 l=(full (split 10 l)).map ser1:=by unfold Ze6;rw[e1];exact e2
 refine⟨d,?_⟩;rw[d];unfold Dst;rw[Ybx];have g:=h.2.2.1;unfold List.Nodup at g;rw[Ybx]at g;refine Ycx ?_ g;intro x y o p m c
 have gx:x∈split 10 l/\x≠[]:=by
  have:=Ycg.1 o;exact⟨this.1,fun i=>by rw[i]at this;exact absurd this.2 Dc⟩
 have gy:y∈split 10 l/\y≠[]:=by
  have:=Ycg.1 p;exact⟨this.1,fun i=>by rw[i]at this;exact absurd this.2 Dc⟩
 have lx:=h.2.1 x gx.1 gx.2;have ly:=h.2.1 y gy.1 gy.2;cases j:line x with
 | none=>rw[j]at lx;cases lx
 | some t=>
  cases k:line y with
  | none=>rw[k]at ly;cases ly
  | some u=>
   obtain⟨a,b,n⟩:=t;obtain⟨a',b',n'⟩:=u;have p1:=Zyt j;have p2:=Zyt k;unfold ser1 at c;rw[j,k]at c;simp only at c;obtain⟨q1,e⟩:=Ycw.1 p1.2.1;obtain⟨q2,f⟩:=Ycw.1 p2.2.1;rw[e,f]at c;simp only[Ya6]at c;rw[Ztn e,Ztn f]at c;exact m (by rw[p1.2.2,p2.2.2,c.1,c.2])
theorem ZQP(h:P.Perm Q):(full P).Perm (full Q):=h.filter _
theorem ZQR(h:P.Perm Q)(a:ZO7 P):ZO7 Q:=by
 obtain⟨c,d,e,f,g⟩:=a;refine⟨?_,fun x i=>d x (h.mem_iff.2 i),((ZQP h).map Zdz).nodup_iff.1 e,?_,?_⟩
 ·rw[<-(h.map _).sum_nat];exact c
 ·rw[<-(ZQP h).length_eq];exact f
 ·rw[<-((ZQP h).map _).sum_nat];exact g
theorem ZQ0:∀(l m:List El),Srt l->Srt m->(∀z,z∈l ↔ z∈m)->l=m
 | [],[],_,_,_=>rfl
 | [],y::m,_,_,h=>absurd ((h y).2 (Yay ..)) (by simp)
 | x::l,[],_,_,h=>absurd ((h x).1 (Yay ..)) (by simp)
 | x :: l, y :: m, i, j, h => by
   obtain⟨l1,l2⟩:=Ybg.1 i;obtain⟨m1,m2⟩:=Ybg.1 j;have irr:∀a:El,¬lt1 a a:=fun a f=>by unfold lt1 at f;rw[ZcL]at f;cases f
   have g:x=y:=by
     rcases Yau.1 ((h x).1 (Yay ..))with e|k
     · exact e
     · rcases Yau.1 ((h y).2 (Yay ..))with e|n
       · exact e.symm
       · exact absurd (Zdv _ _ _ (m1 x k) (l1 y n)) (irr y)
   subst g
   congr 1
   refine ZQ0 l m l2 m2 (fun z=>⟨fun c=>?_,fun c=>?_⟩)
   · rcases Yau.1 ((h z).1 (Yam _ c))with rfl|d
     · exact absurd (l1 z c) (irr z)
     · exact d
   · rcases Yau.1 ((h z).2 (Yam _ c))with rfl|d
     · exact absurd (m1 z c) (irr z)
     · exact d
theorem ZQ1(h:st.Perm su)(c:Dst st)(d:Dst su)(a:Nd)(op:Option Nat)(size t:Int):Zc4 st a op size t=Zc4 su a op size t:=by
 rw[Zny,Zny];obtain⟨s1,_,m1⟩:=Zh4 (ZeZ st a op size t) [] List.Pairwise.nil (ZmN c a op size t) (by simp);obtain⟨s2,_,m2⟩:=Zh4 (ZeZ su a op size t) [] List.Pairwise.nil (ZmN d a op size t) (by simp);refine ZQ0 _ _ s1 s2 (fun z=>?_);rw[m1,m2];have:(ZeZ st a op size t).Perm (ZeZ su a op size t):=(h.filter _).map _;rw[this.mem_iff]
theorem ZQT(h:st.Perm su)(c:Dst st)(d:Dst su)(tm:Int):∀t:Tr,sayT st tm t=sayT su tm t
 | .nil=>rfl
 | .node x y a l r => by
   unfold sayT;rw[ZQ1 h c d,ZQ1 h c d,ZQT h c d tm l,ZQT h c d tm r]
theorem ZQ5{a b:LB}(h:(split 10 a).Perm (split 10 b))(c:(Zbp a).1=0)(q:LB)(f l st:Int):ZdK q a f l st=ZdK q b f l st:=by
 have g1:=(ZPW a).1 c;have g2:=ZQR h g1;have d:=(ZPW b).2 g2;obtain⟨e1,d1⟩:=ZP4 g1;obtain⟨e2,d2⟩:=ZP4 g2;have g:(Ze6 a).Perm (Ze6 b):=by rw[e1,e2];exact(ZQP h).map _
 have e:Zeu (Ze6 a)=Zeu (Ze6 b):=by
  funext t tm
  unfold Zeu;rw[ZQT g d1 d2]
 unfold ZdK;rw[c,d,e];rfl
theorem ZQX{a b:LB}(h:(split 10 a).Perm (split 10 b)):(Zbp a).1=0 ↔ (Zbp b).1=0:=by
 rw[ZPW,ZPW];exact⟨ZQR h,ZQR h.symm⟩
theorem ZRI{L M:List (LB)}(h:L.Perm M):(split 10 (Zcn L)).Perm (split 10 (Zcn M)):=by
 cases L with
 | nil=>rw[h.nil_eq]
 | cons x l=>
  have a:M≠[]:=by rintro rfl;exact absurd h.length_eq (by simp)
  rw[ZQU _ (by simp),ZQU _ a];exact h.flatMap_right _
