/- Parts. -/
import Derived.Test.YtcdgkkfipdoeeaaGreatDoorU22
set_option linter.all false
set_option maxRecDepth 100000
set_option maxHeartbeats 16000000
namespace Go.Proofs.YtcdgkkfipdoeeaaGreatDoor
open Go.RowKit LS Go.Proofs.Tryz
variable {nm:BA}{lc ln x y:Nat}{a:Nd}{la:Option Addr}{p q t:Tr}{v:Value}{w:World}
section
theorem Zop:∀xs:List (LB),([44]:LB).intercalate xs=commas xs
 | []=>rfl
 | [a]=>by simp[List.intercalate,commas]
 | a :: b :: l => by
   have ih:=Zop (b::l);rw[ZhX,<-ih];simp[List.intercalate]
theorem ZlV(la:Option Addr)(ln lc:Nat)(ns:List (LB))(h:Zbm w (.slice la ln lc) ns)(v:nw ns<=1000000) :
  CP 68 #[.slice la ln lc,.string ⟨#[44]⟩] w fun e u=>∃s:BA,e=.returned (.string s)/\Hid (bl s=commas ns)/\BW w u:=by
 obtain⟨bs,a,d⟩:=h;have m:ln=bs.length:=by obtain⟨_,_,e⟩:=Zl a;injection e
 subst m;by_cases k:bs.length=0
 ·rw[k];refine(strings_Join_none _ _ _ w).mono ?_;rintro e u ⟨rfl,rfl⟩;have:=Ya3 k;subst this;exact⟨_,rfl,hid (by rw[<-d];rfl),Yaf _ _⟩
 ·obtain⟨g,cp,n⟩:=ZF a Om;injection n with hg1 _ hg2;subst hg1 hg2;have f:Lib.join (bs.map (·.data.toList)) [44]=commas ns:=d▸Zop _;have r:=ZeS ns
  have i:bs.length<=lc:=by
   rcases a.2 with ⟨e,_⟩|⟨g',cap,cur,e,_,_,o,_⟩
   ·cases e
   ·injection e with _ _ e;subst e;exact o
  have t:bs.length<=1000000:=by
   have p:bs.length<=nw (bs.map bl):=by
    clear f i a d k
    induction bs with
    | nil=>exact Yag _
    | cons c l ih=>simp only[Ybb,nw,Yaj];omega
   rw[d]at p;omega
  refine(strings_Join g 0 _ _ _ w ?_ (Z1 a) Om i (by show(Lib.join (bs.map (·.data.toList)) [44]).length<=_;rw[f];omega)).mono ?_
  ·intro j x f;rw[Ycf];exact Zi a j _ (by show(bs.map Value.string)[j]?=_;rw[Ya2,f];rfl)
  ·rintro e u ⟨rfl,q⟩;exact⟨_,rfl,hid (by show bl (ByteArray.mk (Lib.join (bs.map (·.data.toList)) [44]).toArray)=_;rw[ZbF,f]),q⟩
theorem ZsJ(d:a.jk=4∨a.jk=6)(e:a.jk=4->a.op<=3):Zdb (opNo a)+1=Zz a/\opNo a<=4:=by
 rcases d with h|h
 ·have f:=e h;have e1:opNo a=a.op+1:=by unfold opNo;rw[if_neg Om]
  have e2:Zz a=if a.op<2 then 2 else 3:=by unfold Zz;rw[if_neg Om,if_pos h]
  rw[e1,e2];refine⟨?_,by omega⟩;unfold Zdb;rw[if_neg Om];by_cases c:a.op<2
  ·rw[if_pos c,if_pos Om]
  ·rw[if_neg c,if_neg Om]
 ·have e1:opNo a=0:=by unfold opNo;rw[if_pos h]
  have e2:Zz a=1:=by unfold Zz;rw[if_pos h]
  rw[e1,e2];exact⟨rfl,by omega⟩
theorem Zvl(c:a.jk=4∨a.jk=6)(d:a.jk=4->a.op<=3)(pl pr:Nat->LB):Zbv a pl pr=pl (Zz a)++[32]++Ze5 (opNo a)++[32]++pr (Zz a+1):=by
 unfold Zbv;rw[if_neg Om,if_neg Om,if_neg Om,if_neg Om,if_neg Om];rcases c with h|h
 ·rw[if_neg Om];have:=d h
  have e:opS a.op=Ze5 (opNo a):=by
   unfold opNo;rw[if_neg Om];rcases(by omega:a.op=0∨a.op=1∨a.op=2∨a.op=3)with h|h|h|h <;> rw[h] <;> rfl
  rw[e]
 ·have e:Zz a=1:=by unfold Zz;rw[if_pos h]
  rw[if_pos h,e];unfold opNo Ze5;rw[if_pos h,if_pos rfl];simp
theorem ZA5 (W : World)  : CP 314 #[v] W fun e u => e = .returned (Vi 3) /\ BW W u := by
  go_enter func314,ntmps314;go_wp2
  all_goals
    go_ret;exact⟨rfl,belB⟩
theorem ZA4 (W : World)  : CP 315 #[v] W fun e u => e = .returned (Vi 3) /\ BW W u := by
  go_enter func315,ntmps315;go_wp2
  all_goals
    go_ret;exact⟨rfl,belB⟩
theorem ZA7 (W : World)  : CP 316 #[v] W fun e u => e = .returned (Vi 3) /\ BW W u := by
  go_enter func316,ntmps316;go_wp2
  all_goals
    go_ret;exact⟨rfl,belB⟩
theorem ZA8 (W : World)  : CP 321 #[v] W fun e u => e = .returned (Vi 3) /\ BW W u := by
  go_enter func321,ntmps321;go_wp2
  all_goals
    go_ret;exact⟨rfl,belB⟩
theorem ZA6 (W : World)  : CP 320 #[v] W fun e u => e = .returned (Vi 3) /\ BW W u := by
  go_enter func320,ntmps320;go_wp2
  all_goals
    go_ret;exact⟨rfl,belB⟩
theorem ZrK (W : World) (o : Nat) (a : o <= 4) (ty1 ty2 : TypeId) (u1 u2 : Value) : CP 66 #[.agg #[Vi o, .iface ty1 u1, .iface ty2 u2]] W fun e u => e = .returned (Vi (Zdb o)) /\ BW W u := by
  have c:Below _ W (W.alloc (.cells #[Vi o,.iface ty1 u1,.iface ty2 u2] 116)):=Zbal;go_enter func66,ntmps66
  go_wp2_with (go_at_call 53;refine(Zm0 o a).mono ?_;rintro e d ⟨rfl,rfl⟩)
  go_ret;exact⟨rfl,c⟩
theorem mN  (w : World) : (Go.method 562 119 v "gauge/syntax.rank").run Tryz.prog w = .ok (314, v) w := by kernel_rfl
theorem mG  (w : World) : (Go.method 562 121 v "gauge/syntax.rank").run Tryz.prog w = .ok (315, v) w := by kernel_rfl
theorem mU (v : Value) (w : World) : (Go.method 562 124 v "gauge/syntax.rank").run Tryz.prog w = .ok (316, v) w := by kernel_rfl
theorem mW  (w : World) : (Go.method 562 150 v "gauge/syntax.rank").run Tryz.prog w = .ok (321, v) w := by kernel_rfl
theorem mS  (w : World) : (Go.method 562 148 v "gauge/syntax.rank").run Tryz.prog w = .ok (320, v) w := by kernel_rfl
theorem mP  (w : World) : (Go.method 562 116 v "gauge/syntax.rank").run Tryz.prog w = .ok (66, v) w := by kernel_rfl
theorem ZAk    {l r : Tr}  (h : Zh w (.node x y a l r) v) (ho : a.jk = 4 → a.op ≤ 3) : ∃ (ty : TypeId) (u : Value) (f : FuncId), v = .iface ty u ∧ (∀ W, (Go.method 562 ty u "gauge/syntax.rank").run Tryz.prog W = .ok (f, u) W) ∧ (∀ W, (callFunc f #[u]).run Tryz.prog W = .ok (.enter f #[u]) W) ∧ (∀ W, Calls Tryz.prog f #[u] W fun e w' => e = .returned (.int .i64 ((Zz a - 1 : Nat) : Int)) ∧ Below W.heap.size W w') := by
  have h4:a.jk<=3∨a.jk=5->Zz a - 1=3:=by
    intro h;unfold Zz;rw[if_neg Om,if_neg Om]
  rcases h with ⟨hk,rfl⟩|⟨hk,nm,la,ln,lc,rfl,_⟩|⟨hk,wd,nm,la,ln,lc,rfl,_⟩|⟨hk,z,rfl,hz⟩|⟨hk,wd,la,ln,lc,z,rfl,_,_,hz⟩|⟨hk,z1,z2,rfl,hz1,hz2⟩
  · exact⟨_,_,_,rfl,fun W=>mN W,fun W=>by kernel_rfl,fun W=>h4 Om▸ZA5 W⟩
  · exact⟨_,_,_,rfl,fun W=>mS W,fun W=>by kernel_rfl,fun W=>h4 Om▸ZA6 W⟩
  · exact⟨_,_,_,rfl,fun W=>mW W,fun W=>by kernel_rfl,fun W=>h4 Om▸ZA8 W⟩
  · exact⟨_,_,_,rfl,fun W=>mG W,fun W=>by kernel_rfl,fun W=>h4 Om▸ZA4 W⟩
  · exact⟨_,_,_,rfl,fun W=>mU _ W,fun W=>by kernel_rfl,fun W=>h4 Om▸ZA7 W⟩
  · obtain⟨t1,u1,rfl⟩:=Zh.shape hz1
    obtain⟨t2,u2,rfl⟩:=Zh.shape hz2;have ht:=ZsJ hk ho;exact⟨_,_,_,rfl,fun W=>mP W,fun W=>by kernel_rfl,fun W=>by rw[show Zz a - 1=Zdb (opNo a) by omega];exact ZrK W _ ht.2 _ _ _ _⟩
def WC(t:Tr):Prop:=∀(w:World) (v:Value) (B b:Nat) (l:LB),Zh w t v->WB w B b l->ZR w->20<=B->l.length+wT t<=big->
 CP 34 #[Vp b,v] w fun e w'=>e=.returned (.tuple #[])/\Hid (WB w' B b (l++Zu t 1))/\Hid (WK B b w w')
def WW(t:Tr):Prop:=∀(w:World) (v:Value) (B b:Nat) (l:LB) (j:Nat),Zh w t v->WB w B b l->ZR w->20<=B->l.length+wT t+2<=big->
 CP 65 #[Vp b,v,Vi j] w fun e w'=>e=.returned (.tuple #[])/\Hid (WB w' B b (l++Zu t (j+1)))/\Hid (WK B b w w')
theorem Zd7{l r:Tr} : Zu (.node x y a l r) 1=Zbv a (Zu l) (Zu r):=by
 show ZeK (decide (Zz a<1)) _=_;rw[decide_eq_false (by unfold Zz;split <;> (try split) <;> (try split) <;> omega)];rfl
theorem Ztc(d:wfT t)(h:WC t):WW t:=by
 intro w v B b l j o O P Q E
 match t,d,h,o,E with
 | .node x y a p q,d,h,o,E=>
  obtain⟨ty,u,f,rfl,hm,R,S⟩:=ZAk o d.2.2.1;have HP:=hid o;have T:=hid O;have U:=hid P;have F:=hid Q;have G:=hid E;have HC:=hid S;have H:Hid (1<=Zz a):=hid (by unfold Zz;split <;> (try split) <;> (try split) <;> omega);have I:Hid ((Zu (.node x y a p q) 1).length+2<=wT (.node x y a p q)):=Zd7▸Zow d.2.2.2.2.2.1 (fun m=>Zfy p m d.2.2.2.2.2.2.2.2.2.2.1) (fun m=>Zfy q m d.2.2.2.2.2.2.2.2.2.2.2);clear S o O P Q E;go_enter func65,ntmps65
  go_wp2_with fail
  refine(HC w).mono ?_;rintro e w1 ⟨rfl,i⟩;have r:=hid (HP.below i);have k:=hid (T.below i);have n:Hid (WK B b w _):=WK.below i T.le;have J:=hid (U.low n.low F);clear i hm R;obtain⟨rk,s⟩:∃rk,rk=Zz a - 1:=⟨_,rfl⟩
  rw[<-s];by_cases a0:(j:Int)<=rk
  ·have N:Hid (Zu (.node x y a p q) (j+1)=Zu (.node x y a p q) 1):=by
    rw[Zd7];show ZeK (decide (Zz a<j+1)) _=_;rw[decide_eq_false (by have:=H.out;omega)];rfl
   clear s
   go_wp2_with fail
   refine(h _ _ B b l r k J F (by have:=G.out;omega)).mono ?_;rintro e z ⟨rfl,A,c⟩;have g:=hid (n.trans c);clear c;go_wp2;exact bodyPost_ret (results_none rfl _ _ _) rfl ⟨rfl,by rwa [N.out],g⟩
  ·have N:Hid (Zu (.node x y a p q) (j+1)=[40]++Zu (.node x y a p q) 1++[41]):=by
    rw[Zd7];show ZeK (decide (Zz a<j+1)) _=_;rw[decide_eq_true (by have:=H.out;omega)];rfl
   clear s
   go_wp2_with fail
   refine(Zda k _ (by have V:=G.out;have h2:=I.out;show _+1<=_;omega)).mono ?_;rintro e z ⟨rfl,A,c⟩;have g:=hid (n.trans c);have K:=hid (Zh.wrote k c r);have L:=hid (U.low g.low F);clear c r k n J
   go_wp2_with fail
   refine(h _ _ B b _ K A L F (by rw[Yab,Zd];have V:=G.out;show _+1+_<=_;omega)).mono ?_;rintro e w3 ⟨rfl,W,C⟩;have X:=hid (g.trans C);clear C K A g L
   go_wp2_with fail
   refine(Zda W _ (by simp only[Yab,Zd];have V:=G.out;have h2:=I.out;show _+1+_+1<=_;omega)).mono ?_;rintro e w4 ⟨rfl,M,D⟩;have Y:=hid (X.trans D)
   have Z:Hid (WB w4 B b (l++Zu (.node x y a p q) (j+1))):=by
    rw[N];have:=M.out;simp only[Yan]at this ⊢;exact this
   clear D M;go_wp2
   go_end0
   exact⟨rfl,Z,Y⟩
attribute [local go_sem ↓] Go.wp_at_zero Go.wp_at_succ
attribute [local go_sem] ZhB ZkO ZkP ZkN ZkQ ZiT ZhA Zhz ZkL ZkK ZkM ZiS ZgB ZgA ZgC ZkR ZkS ZiU Zhx Zhw Zhy Zhv ZkJ ZiR ZhJ ZhI ZhK ZhH ZhL ZiV ZhE ZhD ZhF ZhC ZhG ZgD
theorem Zvi(h:a.jk=0)(pl pr:Nat->LB):Zbv a pl pr=decS a.n.toNat:=by unfold Zbv;rw[if_pos h]
theorem Zvj(h:a.jk=1)(pl pr:Nat->LB):Zbv a pl pr=selS a:=by unfold Zbv;rw[if_neg Om,if_pos h]
theorem Zvk(h:a.jk=2)(pl pr:Nat->LB):Zbv a pl pr=Z0.getD a.op []++[40]++selS a++[91]++decS a.n.toNat++[93,41]:=by unfold Zbv;rw[if_neg Om,if_neg Om,if_pos h]
theorem Zvh(h:a.jk=3)(pl pr:Nat->LB):Zbv a pl pr=[45]++pl 4:=by unfold Zbv;rw[if_neg Om,if_neg Om,if_neg Om,if_pos h]
theorem Zvg(h:a.jk=5)(pl pr:Nat->LB):Zbv a pl pr=ZW.getD a.op []++[32,98,121,32,40]++commas a.by_++[41,32,40]++pl 1++[41]:=by unfold Zbv;rw[if_neg Om,if_neg Om,if_neg Om,if_neg Om,if_pos h]
theorem ZoL{n:Int}(h:n<=1000000000):(decS n.toNat).length<=10:=by
 refine ZhZ 9 _ ?_;have a:n.toNat<=1000000000:=by omega
 have c:(10) ^ 10=10000000000:=by decide
 omega
theorem ZET(c:wfT (.node x y a p q))(k:a.jk=0)(w:World)(B b:Nat)(l:LB)(m:WB w B b l)(o:ZR w)(r:20<=B)(I:l.length+wT (.node x y a p q)<=big) :
  CP 34 #[Vp b,.iface 119 (.agg #[Vi a.n])] w fun e u=>e=.returned (.tuple #[])/\Hid (WB u B b (l++Zu (.node x y a p q) 1))/\Hid (WK B b w u):=by
 have t:Hid (Zu (.node x y a p q) 1=decS _):=hid (by rw[Zd7,Zvi k]);have v:=hid m;have J:=hid o;have K:=hid r;have h:Hid (0<=a.n/\a.n<=1000000000):=⟨c.2.2.2.2.1,c.2.2.2.2.2.1⟩
 have L:Hid (l.length+24<=big):=hid (by have M:ownW a+wT p+wT q=wT (.node x y a p q):=rfl;unfold ownW at M;omega);obtain⟨n,A⟩:∃n,n=a.n:=⟨_,rfl⟩
 rw[<-A]at h t ⊢;clear m o r I c k A;go_enter func34,ntmps34
 go_wp2_with fail
 refine Zm fun W C=>?_;have d:Below _ w W:=C▸Zbal;have i:=hid (v.below d);have j:Hid (WK B b w W):=WK.below d v.le;have D:=hid (J.low j.low K);clear C d;refine(ZlT D n h.1 h.2).mono ?_;rintro e O ⟨s,rfl,E,f⟩;have F:=hid (i.below f);have G:=hid (j.trans (WK.below f i.le));clear f
 go_wp2_with fail
 refine(Zda F s (by rw[ZU E];have:=ZoL h.2;have:=L.out;omega)).mono ?_;rintro e z ⟨rfl,N,g⟩;have H:=hid (G.trans g);clear g;go_wp2
 go_end0
 exact⟨rfl,by rwa [t.out,<-E.out],H⟩
theorem ZEV(g:a.jk=1)(w:World)(f:bl nm=a.name)(h:ZX w (.slice la ln lc) a.ku)(B b:Nat)(l:LB)(i:WB w B b l)(t:l.length+wT (.node x y a p q)<=big) :
  CP 34 #[Vp b,.iface 148 (.agg #[.string nm,.slice la ln lc])] w fun e u=>e=.returned (.tuple #[])/\Hid (WB u B b (l++Zu (.node x y a p q) 1))/\Hid (WK B b w u):=by
 have v:Hid (Zu (.node x y a p q) 1=selS a):=hid (by rw[Zd7,Zvj g]);have j:=hid i;have k:=hid f;have A:=hid h;have C:Hid (l.length+a.name.length+cw a.ku+10<=big):=hid (by have D:ownW a+wT p+wT q=wT (.node x y a p q):=rfl;unfold ownW at D;omega);clear i t g f h;go_enter func34,ntmps34
 go_wp2_with fail
 refine Zm fun W m=>?_;have c:Below _ w W:=m▸Zbal;have n:=hid (j.below c);have o:Hid (WK B b w W):=WK.below c j.le;have r:=hid (A.below c);clear m c;refine(Ztq n _ _ _ _ a k r C).mono ?_;rintro e z ⟨rfl,E,d⟩;have s:=hid (o.trans d);clear d;go_wp2
 go_end0
 exact⟨rfl,by rwa [v.out],s⟩
theorem ZEW(i:wfT (.node x y a p q))(O:a.jk=2){h:BA}(w:World)(j:bl h=Z0.getD a.op [])(E:bl nm=a.name)(P:ZX w (.slice la ln lc) a.ku)(B b:Nat)(l:LB)(Q:WB w B b l)(R:ZR w)(S:20<=B)(hl:l.length+wT (.node x y a p q)<=big) :
  CP 34 #[Vp b,.iface 150 (.agg #[.string h,.string nm,.slice la ln lc,Vi a.n])] w fun e u=>e=.returned (.tuple #[])/\Hid (WB u B b (l++Zu (.node x y a p q) 1))/\Hid (WK B b w u):=by
 have T:Hid (Zu (.node x y a p q) 1=bl _++[40]++selS a++[91]++decS _++[93,41]):=hid (by rw[Zd7,Zvk O,j]);have U:=hid Q;have HT:=hid R;have HB:=hid S;have D:Hid (0<=a.n/\a.n<=1000000000):=⟨i.2.2.2.2.1,i.2.2.2.2.2.1⟩
 have V:=hid E;have HC:=hid P;have a6:h.size<=5:=ZU j▸Zh5 Z0 Dc a.op;have M:Hid (l.length+a.name.length+cw a.ku+24<=big):=hid (by have h1:ownW a+wT p+wT q=wT (.node x y a p q):=rfl;unfold ownW at h1;omega);have X:=hid (Zr7 a);obtain⟨n,Y⟩:∃n,n=a.n:=⟨_,rfl⟩
 rw[<-Y]at D T ⊢;have a1:∀W,(Op.stringOp _ _ ⟨#[40]⟩).run prog W=.ok _ W:=fun W=>run_string_add_sum W _ _ (by show h.size+1<=_;omega);have k:Hid ((h++⟨#[40]⟩).size=h.size+1):=by rw[Yaz];rfl
 clear Q R S hl i O Y j E P;go_enter func34,ntmps34
 go_upto_region 20 with fail
 refine ZP fun W N=>?_;have f:Below _ w W:=N▸Zbal;have m:Hid (BAt W _ [.string _,.string _,.slice _ _ _,.int _ n] 150):=N▸bnw;have g:=hid (U.below f);have F:Hid (WK B b w W):=WK.below f U.le;have G:=hid (HC.below f);clear N f;have p0:=m.cell
 go_wp2_with fail
 refine(Zda g _ (by rw[k];have:=M.out;omega)).mono ?_;rintro e w1 ⟨rfl,o,c⟩;have H:=hid (F.trans c);have r:=hid (WK.bat g c m Dc Dc);have I:=hid (G.wrote g c);clear c p0 m g F G;have p1:=r.cell
 go_wp2_with fail
 refine(Ztq o _ _ _ _ a V I (by rw[Yab,Zd,k];have:=M.out;omega)).mono ?_;rintro e z ⟨rfl,t,d⟩;have v:=hid (H.trans d);have Z:=hid (WK.bat o d r Dc Dc);have J:=hid (HT.low v.low HB);clear d p1 r o H I;have p3:=Z.cell
 go_wp2_with fail
 refine(ZlT J n D.1 D.2).mono ?_;rintro e w3 ⟨s,rfl,hs,A⟩;have a0:=hid (t.below A);have a2:=hid (v.trans (WK.below A t.le));have a7:s.size<=10:=ZU hs.out▸ZoL D.2;have b1:∀W,(Op.stringOp _ ⟨#[91]⟩ s).run prog W=.ok _ W:=fun W=>run_string_add_sum W _ _ (by show 1+s.size<=_;omega);have K:Hid ((⟨#[91]⟩++s).size=1+s.size):=by rw[Yaz];rfl
 have b2:∀W,(Op.stringOp _ _ ⟨#[93,41]⟩).run prog W=.ok _ W:=fun W=>run_string_add_sum W _ _ (by rw[K];show _+2<=_;omega);have a3:Hid (((⟨#[91]⟩++s)++⟨#[93,41]⟩).size=1+s.size+2):=by rw[Yaz,K];rfl
 clear A p3 t v J
 go_wp2_with fail
 refine(Zda a0 _ (by rw[a3];simp only[Yab,Zd];rw[k];have:=M.out;have:=X.out;omega)).mono ?_;rintro e w4 ⟨rfl,L,C⟩;have a4:=hid (a2.trans C)
 have a5:Hid (WB w4 B b (l++Zu (.node x y a p q) 1)):=by
  rw[T,<-hs];have:=L.out;rw[ZcV,ZcV,ZcV]at this;simp only[Yan]at this ⊢;exact this
 clear C L;go_wp2
 go_end0
 exact⟨rfl,a5,a4⟩
theorem ZES(o:a.jk=3)(ih:WW p)(w:World)(z:Value)(m:Zh w p z)(B b:Nat)(l:LB)(r:WB w B b l)(s:ZR w)(t:20<=B)(M:l.length+wT (.node x y a p q)<=big) :
  CP 34 #[Vp b,.iface 121 (.agg #[z])] w fun e v=>e=.returned (.tuple #[])/\Hid (WB v B b (l++Zu (.node x y a p q) 1))/\Hid (WK B b w v):=by
 have N:Hid (Zu (.node x y a p q) 1=[45]++Zu p 4):=hid (by rw[Zd7,Zvh o]);have A:=hid r;have O:=hid s;have C:=hid t;have D:Hid (l.length+24+wT p<=big):=hid (by have P:ownW a+wT p+wT q=wT (.node x y a p q):=rfl;unfold ownW at P;omega);have Q:=hid m;obtain⟨ty,u,E⟩:=Zh.shape m;subst E;clear r s t M o m;go_enter func34,ntmps34
 go_upto_region 6 with fail
 refine ZP fun W n=>?_;have d:Below _ w W:=n▸Zbal;have h:Hid (BAt W _ _ 121):=n▸bnw;have f:=hid (A.below d);have i:Hid (WK B b w W):=WK.below d A.le;have j:=hid (Q.below d);clear n d
 go_wp2_with fail
 refine(Zda f _ (by have:=D.out;show _+1<=_;omega)).mono ?_;rintro e S ⟨rfl,F,c⟩;have k:=hid (i.trans c);have G:=hid (WK.bat f c h Dc Dc);have H:=hid (Zh.wrote f c j);have I:=hid (O.low k.low C);clear c h f i j;have p0:=G.cell
 go_wp2_with fail
 refine(ih _ _ B b _ 3 H F I C (by rw[Yab,Zd];have:=D.out;show _+1+_+2<=_;omega)).mono ?_;rintro e R ⟨rfl,J,g⟩;have K:=hid (k.trans g);have L:Hid (WB R B b (l++Zu (.node x y a p q) 1)):=by rwa [N.out,<-Yan]
 clear g J;go_wp2
 go_end0
 exact⟨rfl,L,K⟩
end
section
attribute [local go_sem ↓] Go.wp_at_zero Go.wp_at_succ
attribute [local go_sem] ZhB ZkO ZkP ZkN ZkQ ZiT ZhA Zhz ZkL ZkK ZkM ZiS ZgB ZgA ZgC ZkR ZkS ZiU Zhx Zhw Zhy Zhv ZkJ ZiR ZhJ ZhI ZhK ZhH ZhL ZiV ZhE ZhD ZhF ZhC ZhG ZgD
theorem ZCe(o:Nat):(Ze5 o).length<=2:=by
 unfold Ze5;split <;> (try split) <;> (try split) <;> (try split) <;> simp
theorem ZEU(r:wfT (.node x y a p q))(X:a.jk=4∨a.jk=6)(N:WW p)(O:WW q)(w:World){z1 z2:Value}(C:Zh w p z1)(D:Zh w q z2)(B b:Nat)(l:LB)(hw:WB w B b l)(ht:ZR w)(hB:20<=B)(hl:l.length+wT (.node x y a p q)<=big) :
  CP 34 #[Vp b,.iface 116 (.agg #[Vi (opNo a),z1,z2])] w fun e u=>e=.returned (.tuple #[])/\Hid (WB u B b (l++Zu (.node x y a p q) 1))/\Hid (WK B b w u):=by
 obtain⟨o,s⟩:∃o,o=opNo a:=⟨_,rfl⟩
 have E:=ZsJ X r.2.2.1;have HX:Hid (Zu (.node x y a p q) 1=Zu p (Zdb o+1)++[32]++Ze5 o++[32]++Zu q (Zdb o+1+1)):=hid (by rw[Zd7,Zvl X r.2.2.1,s,E.1]);have P:o<=4:=s▸E.2;have F:Hid ((Zu p (Zdb o+1)).length<=wT p):=hid (Zfy p _ r.2.2.2.2.2.2.2.2.2.2.1);rw[<-s];have HW:=hid hw;have HT:=hid ht;have M:=hid hB;have Y:Hid (l.length+24+wT p+wT q<=big):=hid (by have G:ownW a+wT p+wT q=wT (.node x y a p q):=rfl;unfold ownW at G;omega);have a5:=hid C;have a6:=hid D;obtain⟨t1,u1,Z⟩:=Zh.shape C;obtain⟨t2,u2,a0⟩:=Zh.shape D;subst Z a0;obtain⟨sg,H⟩:∃sg:BA,sg=⟨(Ze5 o).toArray⟩:=⟨_,rfl⟩
 have a7:=hid H.symm;have Q:Hid (bl sg=Ze5 o):=hid (by rw[H,ZbF]);have c1:sg.size<=2:=ZU Q.out▸ZCe o;have a8:Zdb o<=2:=by unfold Zdb;split <;> (try split) <;> omega
 have a1:∀W,(Op.stringOp _ ⟨#[32]⟩ _).run prog W=.ok _ W:=fun W=>run_string_add_sum W _ _ (by show 1+sg.size<=_;omega);have R:Hid ((⟨#[32]⟩++sg).size=1+sg.size):=by rw[Yaz];rfl
 have a2:∀W,(Op.stringOp _ _ ⟨#[32]⟩).run prog W=.ok _ W:=fun W=>run_string_add_sum W _ _ (by rw[R];show _+1<=_;omega);have S:Hid (((⟨#[32]⟩++sg)++⟨#[32]⟩).size=1+sg.size+1):=by rw[Yaz,R];rfl
 obtain⟨rr,I⟩:∃rr,rr=Zdb o:=⟨_,rfl⟩
 rw[<-I]at HX F a8;have T:Hid (∀W,Calls _ _ _ W fun e u=>e=.returned _/\Below _ W _):=hid (fun W=>I▸ZrK W o P t1 t2 u1 u2);have a9:Hid (∀(u:World) (l':List _),Zh _ p (.iface t1 u1)->WB u B b _->ZR _->l'.length+wT p+2<=big->Calls _ _ _ _ _):=hid (fun u l' G h2 h3 h4=>N _ _ B b _ rr G h2 h3 M h4);have b0:Hid (∀(u:World) (l':List _),Zh _ q _->WB _ B b _->ZR u->l'.length+wT q+2<=big->Calls _ _ #[.pointer _,.iface t2 u2,.int _ ((rr)+1)] _ _):=hid (fun u l' G h2 h3 h4=>O _ _ B b _ (rr+1) G h2 h3 M h4);have c2:IntKind.i64.wrap ((rr)+1)=(rr)+1:=by rcases(by omega:rr=0∨rr=1∨rr=2)with h|h|h <;> rw[h] <;> rfl
 clear hw ht hB hl X C D r s E H I N O;go_enter func34,ntmps34
 go_upto_region 10 with fail
 refine ZP fun W hW=>?_;have j:Below _ w W:=hW▸Zbal;have t:Hid (BAt W _ _ 116):=hW▸bnw;have v:=hid (HW.below j);have b1:Hid (WK B b w W):=WK.below j HW.le;have a3:=hid (a5.below j);have a4:=hid (a6.below j);clear hW j;have p0:=t.cell 0;have p1:=t.cell 1;have p2:=t.cell 2;simp only[Zget]at p0 p1 p2
 go_region_held3 (fun u => u.cell? ⟨w.heap.size, 0, none⟩ = some (Vi o) /\ u.cell? ⟨w.heap.size, 1, none⟩ = some (.iface t1 u1) /\ u.cell? ⟨w.heap.size, 2, none⟩ = some (.iface t2 u2)) (first | exact ⟨e0, e1, e2⟩ | exact ⟨d0, d1, d2⟩ | exact ⟨p0, p1, p2⟩ | go_keep) (first
   | (go_at_call 66
      refine(T.out _).mono ?_;rintro e w5 ⟨rfl,d⟩;have c:Hid (BW W w5):=hid ⟨d.os,d.tape,d.output,d.size,d.block⟩;have k:=hid (t.below c.out);have d0:=k.cell 0;have d1:=k.cell 1;have d2:=k.cell 2;simp only[Zget]at d0 d1 d2;have J:Hid (WK B b w w5):=b1.trans (WK.below c.out v.le);clear d)
   | (go_at_call 65
      refine(a9.out w5 l (a3.below c.out) (v.below c.out) (HT.low J.low M.out) (by have:=Y.out;omega)).mono ?_;rintro e w6 ⟨rfl,K,g⟩;have z:=hid (WK.bat (v.below c.out) g.out k.out Dc Dc);have e0:=z.cell 0;have e1:=z.cell 1;have e2:=z.cell 2;simp only[Zget]at e0 e1 e2;have b2:Hid (WK B b w w6):=J.trans g.out;have b3:Hid (Zh w6 q (.iface t2 u2)):=hid (Zh.wrote (v.below c.out) g.out (a4.below c.out));clear g))
 clear p0 p1 p2 d0 d1 d2 k c J
 go_wp2_with (go_at_call 67;refine(ZCd o P).mono ?_;rintro e wq ⟨rfl,rfl⟩;rw[a7.out])
 refine(Zda K _ (by rw[S,Yab];have:=Y.out;have:=F.out;omega)).mono ?_;rintro e w7 ⟨rfl,L,i⟩;have b4:=hid (b2.trans i);have A:=hid (WK.bat K i z Dc Dc);have b5:=hid (Zh.wrote K i b3);clear i e0 e1 e2;have p0:=A.cell 0;have p1:=A.cell 1;have p2:=A.cell 2;simp only[Zget]at p0 p1 p2
 go_upto_region 12 with fail
 go_region_held3 (fun u => u.cell? ⟨w.heap.size, 0, none⟩ = some (Vi o) /\ u.cell? ⟨w.heap.size, 1, none⟩ = some (.iface t1 u1) /\ u.cell? ⟨w.heap.size, 2, none⟩ = some (.iface t2 u2)) (first | exact ⟨e0, e1, e2⟩ | exact ⟨d0, d1, d2⟩ | exact ⟨p0, p1, p2⟩ | go_keep) (first
   | (go_at_call 66
      refine(T.out _).mono ?_;rintro e w8 ⟨rfl,f⟩;have m:Hid (BW w7 w8):=hid ⟨f.os,f.tape,f.output,f.size,f.block⟩;have U:=hid (A.below m.out);have d0:=U.cell;have V:Hid (WK B b w w8):=b4.trans (WK.below m.out L.le);clear f)
   | (go_at_call 65
      refine(b0.out w8 _ (b5.below m.out) (L.below m.out) (HT.low V.low M.out) (by simp only[Yab,Zd];rw[S.out];have:=Y.out;have:=F.out;omega)).mono ?_;rintro e w9 ⟨rfl,b6,n⟩;have b7:=hid (WK.bat (L.below m.out) n.out U.out Dc Dc);have e0:=b7.cell;have b8:Hid (WK B b w w9):=V.trans n.out;clear n))
 have b9:Hid (WB w9 B b (l++Zu (.node x y a p q) 1)):=by
  rw[HX,<-Q];have:=b6.out;rw[ZcV,ZcV]at this;simp only[Yan]at this ⊢;exact this
 go_wp2
 go_end0
 exact⟨rfl,b9,b8⟩
theorem ZER(E:wfT (.node x y a p q))(Q:a.jk=5)(ih:WC p){d:BA}(w:World)(z:Value)(o:bl d=ZW.getD a.op [])(F:Zbm w (.slice la ln lc) a.by_)(N:Zh w p z)(B b:Nat)(l:LB)(R:WB w B b l)(S:ZR w)(T:20<=B)(hl:l.length+wT (.node x y a p q)<=big) :
  CP 34 #[Vp b,.iface 124 (.agg #[.string d,.slice la ln lc,z])] w fun e c=>e=.returned (.tuple #[])/\Hid (WB c B b (l++Zu (.node x y a p q) 1))/\Hid (WK B b w c):=by
 have HX:Hid (Zu (.node x y a p q) 1=bl _++[32,98,121,32,40]++commas _++[41,32,40]++Zu p 1++[41]):=hid (by rw[Zd7,Zvg Q,o]);have U:Hid ((Zu p 1).length<=wT p):=hid (Zfy p _ E.2.2.2.2.2.2.2.2.2.2.1);have V:=hid R;have HT:=hid S;have X:=hid T;have r:Hid (l.length+24+nw a.by_+wT p<=big):=hid (by have Y:ownW a+wT p+wT q=wT (.node x y a p q):=rfl;unfold ownW at Y;omega);have HZ:=hid N;have Z:=hid F;have b6:d.size<=5:=ZU o▸Zh5 ZW Dc a.op;obtain⟨ty,u,a0⟩:=Zh.shape N;subst a0;obtain⟨js,G⟩:∃js:BA,js=⟨(commas a.by_).toArray⟩:=⟨_,rfl⟩
 have t:Hid (bl js=commas _):=hid (by rw[G,ZbF]);have k:Hid _:=ZU t.out▸ZeS _;have b7:js.size<=1000000:=by have Y:=k.out;have O:=r.out;unfold big at O;omega
 have a1:∀W,(Op.stringOp _ _ ⟨#[32,98,121,32,40]⟩).run prog W=.ok _ W:=fun W=>run_string_add_sum W _ _ (by show d.size+5<=_;omega);have H:Hid ((d++⟨#[32,98,121,32,40]⟩).size=d.size+5):=by rw[Yaz];rfl
 have a2:∀W,(Op.stringOp _ _ js).run prog W=.ok _ W:=fun W=>run_string_add_sum W _ _ (by rw[H];omega);have I:Hid (((d++⟨#[32,98,121,32,40]⟩)++js).size=d.size+5+js.size):=hid (by rw[Yaz,H]);have a3:∀W,(Op.stringOp _ _ ⟨#[41,32,40]⟩).run prog W=.ok _ W:=fun W=>run_string_add_sum W _ _ (by rw[I];show _+3<=_;omega);have v:Hid ((((d++⟨#[32,98,121,32,40]⟩)++js)++⟨#[41,32,40]⟩).size=d.size+5+js.size+3):=by rw[Yaz,I];rfl
 clear R S T hl Q N E o F G;go_enter func34,ntmps34
 go_upto_region 15 with fail
 refine ZP fun W P=>?_;have i:Below _ w W:=P▸Zbal;have m:Hid (BAt W _ _ 124):=P▸bnw;have n:=hid (V.below i);have a4:Hid (WK B b w W):=WK.below i V.le;have a5:=hid (HZ.below i);have a6:=hid (Z.below i);clear P i;have p0:=m.cell 0;have p1:=m.cell 1;have p2:=m.cell 2;simp only[Zget]at p0 p1 p2
 have J : Hid (∀ c, BW W c -> CP 68 #[.slice la ln lc, .string ⟨#[44]⟩] c fun e K => e = .returned (.string js) /\ BW c K) := by
   intro c a7;refine(ZlV _ _ _ _ (a6.below a7) (by have O:=r.out;unfold big at O;omega)).mono ?_;rintro e K ⟨s,rfl,hs,hb⟩;exact⟨by rw[ZcW (hs.trans t.symm)],hb⟩
 have a8:Hid (BW W _):=hid ((Yaf _ _).drew)
 go_region_held3 (fun c => c.cell? ⟨w.heap.size, 0, none⟩ = some (.string d) /\ c.cell? ⟨w.heap.size, 1, none⟩ = some (.slice la ln lc) /\ c.cell? ⟨w.heap.size, 2, none⟩ = some (.iface ty u)) (first | exact ⟨e0, e1, e2⟩ | exact ⟨d0, d1, d2⟩ | exact ⟨p0, p1, p2⟩ | go_keep) (first
   | (go_at_call 68
      refine(J.out _ a8.out).mono ?_;rintro e w5 ⟨rfl,g⟩;have f:Hid (BW W w5):=hid ⟨g.os,g.tape,g.output,g.size,g.block⟩;have j:=hid (m.below f.out);have d0:=j.cell 0;have d1:=j.cell 1;have d2:=j.cell 2;simp only[Zget]at d0 d1 d2;have L:Hid (WK B b w w5):=a4.trans (WK.below f.out n.le);clear g)
   | (go_at_call 63
      refine(Zda (n.below f.out) _ (by rw[v.out];have:=r.out;have:=k.out;omega)).mono ?_;rintro e w6 ⟨rfl,a9,h⟩;have A:=hid (WK.bat (n.below f.out) h.out j.out Dc Dc);have e0:=A.cell 0;have e1:=A.cell 1;have e2:=A.cell 2;simp only[Zget]at e0 e1 e2;have M:Hid (WK B b w w6):=L.trans h.out;have b0:Hid (Zh w6 p (.iface ty u)):=hid (Zh.wrote (n.below f.out) h.out (a5.below f.out));clear h))
 clear p0 p1 p2 d0 d1 d2 j f L J
 go_wp2_with fail
 refine(ih _ _ B b _ b0 a9 (HT.low M.low X) X (by rw[Yab,Zd,v];have:=r.out;have:=k.out;omega)).mono ?_;rintro e w7 ⟨rfl,b1,C⟩;have b2:=hid (M.trans C);clear C e0 e1 e2
 go_wp2_with fail
 refine(Zda b1 _ (by simp only[Yab,Zd];rw[v];show _+1<=_;have:=r.out;have:=k.out;have:=U.out;omega)).mono ?_;rintro e w8 ⟨rfl,b3,D⟩;have b4:=hid (b2.trans D)
 have b5:Hid (WB w8 B b (l++Zu (.node x y a p q) 1)):=by
  rw[HX,<-t];have:=b3.out;rw[ZcV,ZcV,ZcV]at this;simp only[Yan]at this ⊢;exact this
 clear D;go_wp2
 go_end0
 exact⟨rfl,b5,b4⟩
theorem ZnC:∀t:Tr,wfT t->WC t
 | .nil,_=>fun _ _ _ _ _ h=>h.elim
 | .node x y a p q, c => by
   have m:=ZnC p c.2.2.2.2.2.2.2.2.2.2.1;have o:=ZnC q c.2.2.2.2.2.2.2.2.2.2.2;have iwp:=Ztc c.2.2.2.2.2.2.2.2.2.2.1 m;have iwq:=Ztc c.2.2.2.2.2.2.2.2.2.2.2 o;intro w v B b l u e g i f;rcases u with ⟨d,rfl⟩|⟨d,nm,la,ln,lc,rfl,j,k⟩|⟨d,A,nm,la,ln,lc,rfl,j,k,C⟩|⟨d,z,rfl,n⟩|⟨d,A,la,ln,lc,z,rfl,j,k,n⟩|⟨d,z1,z2,rfl,r,s⟩
   · exact ZET c d w B b l e g i f
   · exact ZEV d w j k B b l e f
   · exact ZEW c d w j k C B b l e g i f
   · exact ZES d iwp w z n B b l e g i f
   · exact ZER c d m w z j k n B b l e g i f
   · exact ZEU c d iwp iwq w r s B b l e g i f
theorem Zj6(c:wfT t)(d:wT t<=100000)(w:World)(h:Zh w t v)(j:ZR w)(k:20<=w.heap.size) :
  CP 20 #[v] w fun e C=>∃s:BA,e=.returned (.string s)/\Hid (bl s=Zu t 1)/\BW w C:=by
 have l:=hid (ZnC t c);have D:=hid h;have E:=hid j;have m:=hid k;have F:=hid d;obtain⟨ty,u,n⟩:=Zh.shape h;subst n;clear h j k d c;go_enter func20,ntmps20
 go_wp2_with fail
 refine Zm fun W i=>?_;have a:Below _ w W:=i▸Zbal;have o:Hid (WB W _ _ []):=hid ⟨.inl ⟨Yac _,.slice _ 0 0,i▸bnw,⟨rfl,.inl ⟨rfl,rfl⟩⟩,by simp[Value.ownBlock]⟩,a.size⟩;have p:=hid a;have q:=hid (D.below a);have r:=hid (E.low a m);clear i a;refine(l W _ _ _ _ q o r m (by have:=F.out;unfold big;simp;omega)).mono ?_;rintro e G ⟨rfl,f,x⟩;have A:=hid (p.trans x.low)
 go_wp2_with fail
 refine(Builder_String_any_f _ _ _ _ f.bd f.le).mono ?_;rintro e z ⟨rfl,_,g⟩;have B:=hid (A.trans g);clear g;go_wp2;go_ret;exact⟨_,rfl,hid (by rw[ZbF]),B⟩
end
section
def TimP(w':World)(f l s:Int)(ft:Addr)(tv ev:Value):Prop:=(Zdr f l s=none/\tv=.slice none 0 0/\ev=.iface 432 (.pointer (some ft)))∨(∃ts,Zdr f l s=some ts/\ts.length<=50/\(∀t∈ts,-1000000<=t/\t<=1000000)/\ev=.nilIface/\w'.ownsRow 0 3 1 tv ts.length (ts.map (Value.int .i64)))
theorem ZyO(n:Nat):(madeCells #[Value.int .i64 0] n).toList=List.replicate n (Value.int .i64 0):=by
 refine List.ext_getElem (by simp[madeCells]) (fun i a c=>?_);simp[madeCells,Nat.mod_one]
theorem ZrI(f l s:Int){ft:Addr}(w:World)(H:w.cell? ⟨7,0,none⟩=some (.iface 432 (.pointer (some ft)))) :
  CP 41 #[.agg #[Vi f,Vi l,Vi s]] w fun e u=>∃tv ev,e=.returned (.tuple #[tv,ev])/\Hid (TimP u f l s ft tv ev)/\BW w u:=by
 obtain⟨i0,V,I,J,K⟩:=info_parts Tryz.infoInt3;have L:7<w.heap.size:=Yai _ _ H;have E:∀o,(w.alloc o).cell? ⟨7,0,none⟩=some _:=fun o=>by rwa [Ybm _ _ _ L]
 by_cases j:badT f l s
 ·have n:Hid (∀u,TimP u f l s ft _ _):=hid (fun u=>.inl ⟨by unfold Zdr;rw[if_pos j],rfl,rfl⟩);by_cases c1:(-1000000<=f/\f<=1000000)
  ·obtain⟨d1,d2⟩:=c1;by_cases c2:(-1000000<=l/\l<=1000000)
   ·obtain⟨d3,d4⟩:=c2;by_cases c3:l<f
    ·clear j;go_enter func41,ntmps41
     go_wp2_with (go_at_call 90;refine(Zf9).mono ?_;rintro e u ⟨rfl,rfl⟩)
     go_region
     all_goals (try go_wp2)
     all_goals (go_ret2;exact⟨_,_,rfl,hid (n _),belB⟩)
    ·by_cases c4:s<1
     ·clear j;go_enter func41,ntmps41
      go_wp2_with (go_at_call 90;refine(Zf9).mono ?_;rintro e u ⟨rfl,rfl⟩)
      go_region
      all_goals (try go_wp2)
      all_goals (go_ret2;exact⟨_,_,rfl,hid (n _),belB⟩)
     ·have c5:1000000<s:=by unfold badT at j;omega
      clear j;go_enter func41,ntmps41
      go_wp2_with (go_at_call 90;refine(Zf9).mono ?_;rintro e u ⟨rfl,rfl⟩)
      go_region
      all_goals (try go_wp2)
      all_goals (go_ret2;exact⟨_,_,rfl,hid (n _),belB⟩)
   ·have c3:(decide (-1000000<=l) && decide (l<=1000000))=false:=by simp;omega
    clear j c2;go_enter func41,ntmps41
    go_wp2_with (go_at_call 90;refine(Zf9).mono ?_;rintro e u ⟨rfl,rfl⟩)
    go_region
    all_goals (try go_wp2)
    all_goals (go_ret2;exact⟨_,_,rfl,hid (n _),belB⟩)
  ·have c3:(decide (-1000000<=f) && decide (f<=1000000))=false:=by simp;omega
   clear j c1;go_enter func41,ntmps41
   go_wp2_with (go_at_call 90;refine(Zf9).mono ?_;rintro e u ⟨rfl,rfl⟩)
   go_region
   all_goals (try go_wp2)
   all_goals (go_ret2;exact⟨_,_,rfl,hid (n _),belB⟩)
 ·have F:=hid (ZsN j);have M : -1000000<=f/\f<=1000000/\-1000000<=l/\l<=1000000/\1<=s/\s<=1000000/\f<=l:=by unfold badT at j;omega
  obtain⟨d1,d2,d3,d4,d5,d6,d7⟩:=M;clear j;obtain⟨m,v⟩:∃m:Nat,(l - f).tdiv s=(m):=⟨((l - f).tdiv s).toNat,by have:=Int.tdiv_nonneg (a:=l - f) (b:=s) Om Om;omega⟩
  have x:cnt l s f=m+1:=by
   unfold cnt;rw[if_pos d7,<-Yes Om,v];omega
  have a0:m<=2000000:=by
   have c:((l - f).tdiv s).natAbs<=(l - f).natAbs:=by rw[Yff];exact Yfg _ _
   rw[v]at c;omega
  rw[x]at F;have a1:(s == 0)=false:=by rw[beq_eq_false_iff_ne];omega
  have N:s≠0:=by omega
  clear x;by_cases A:50<m+1
  ·have n:Hid (∀u,TimP u f l s ft _ _):=hid (fun u=>.inl ⟨by rw[F,if_pos A],rfl,rfl⟩);have O:(50:Int)<(m)+1:=by omega
   go_enter func41,ntmps41
   go_wp2_with (go_at_call 90;refine(Zf9).mono ?_;rintro e u ⟨rfl,rfl⟩)
   go_region
   all_goals (try go_wp2)
   all_goals (go_ret2;exact⟨_,_,rfl,hid (n _),belB⟩)
  ·have n:Hid (Zdr f l s=some _):=hid (by rw[F,if_neg A]);have O:(m:Int)+1<=50:=by omega
   have B : Hid (∀ i, i < m + 1 -> -1000000 <= f + (i) * s /\ f + (i) * s <= 1000000) := hid (fun i C => by
     have c:(i)*s<=(m)*s:=Int.mul_le_mul_of_nonneg_right Om Om
     have h2:(m)*s<=l - f:=by
       rw[<-v,Yes Om];exact Int.ediv_mul_le _ N
     have h3:0<=(i)*s:=Int.mul_nonneg Om Om;omega)
   go_enter func41,ntmps41
   go_wp2_with (first
     | (go_at_call 90;refine(Zf9).mono ?_;rintro e u ⟨rfl,rfl⟩)
     | (at_make;refine wpList_make_full _ rfl _ _ 54 rfl w.heap.size 3 i0 _ 1 underlying54 V I J _ _ _ _ (m+1) rfl rfl ?e1 ?e2 ?b2 ?b3 ?b4 ?_))
   case e1=>rfl
   case e2=>rfl
   case b2=>rw[K];omega
   case b3=>unfold maxLen;omega
   case b4=>simp
   rw[ZyO];intro z p d;have P:Hid (BAt _ _ _ 23):=hid ((d.block _ (by simp) (by simp)).trans bnw);have Q:=hid (Zbal.grown d (by simp) (fun q W=>by cases W));clear d v E;have X:=Z1 p;go_wp2
   go_loopw [50] (fun i wr => ∃ k : Nat, k <= m + 1 /\ i = Vi k /\ Hid (wr.ownsRow w.heap.size 3 1 (.slice (some ⟨w.heap.size + 1, 0, none⟩) (m + 1) (m + 1)) (m + 1) ((List.range k).map (fun (i : Nat) => Value.int .i64 (f + (i : Int) * s)) ++ List.replicate (m + 1 - k) (Value.int .i64 0))) /\ Hid (BAt wr w.heap.size [Vi f, Vi l, Vi s] 23) /\ Hid (BW w wr))
     (fun i _=>m+1 - (intOf i).toNat)
   case atStart=>exact⟨0,Yag _,rfl,hid (by simpa using p),P,Q⟩
   case round=>
    obtain⟨k,hk,rfl,r,G,R⟩:=hrel;by_cases D:k<m+1
    ·have x0:=G.cell 0;have x2:=G.cell;simp only[Zget]at x0;have a2:=B k D;have a3:0<=(k)*s:=Int.mul_nonneg Om Om
     have a4:(Go.IntKind.i64).wrap ((k)*s)=(k)*s:=by
      generalize(k:Int)*s=ks at *
      rw[Ybo];omega
     have a5:(Go.IntKind.i64).wrap (f+(k)*s)=f+(k)*s:=by
      generalize(k:Int)*s=ks at *
      rw[Ybo];omega
     have U:wr.cell? ⟨w.heap.size+1,k,none⟩=some _:=Zi r _ _ (by rw[Yb3 (by simp),Yak,List.length_range,Yfw,Ybs,if_pos Om])
     have a6:wr.frozen? ⟨w.heap.size+1,k,none⟩=false:=by
      rcases r.2 with ⟨h,_⟩|⟨g,cap,cur,h,_,Y,_⟩
      ·cases h
      ·injection h with c;injection c with c;injection c with c;subst c;simp[World.frozen?,Y]
     have a7:(k:Int)<(m)+1:=by omega
     have S : Hid ((wr.setCell ⟨w.heap.size + 1, k, none⟩ (Vi (f + (k) * s))).ownsRow w.heap.size 3 1 (.slice (some ⟨w.heap.size + 1, 0, none⟩) (m + 1) (m + 1)) (m + 1) ((List.range (k + 1)).map (fun (i : Nat) => Value.int .i64 (f + (i) * s)) ++ List.replicate (m + 1 - (k + 1)) (Value.int .i64 0))) := by
       have:=ZmD r k (Vi (f+(k)*s));rw[ZB6 k D]at this;exact this
     go_wp2
     go_roundw
     case rel=>exact⟨k+1,by omega,by go_num,S,hid (G.other (by show w.heap.size≠w.heap.size+1;omega) _),hid (R.setCell (by show w.heap.size<=w.heap.size+1;omega) _)⟩
     case measure=>simp[intOf];omega
    ·obtain rfl:k=m+1:=by omega
     have T : Hid (TimP _ f l s ft _ _) := hid (.inr ⟨_, n, by simp; omega, fun t Z => by
       obtain⟨i,C,rfl⟩:=Ybe.1 Z;exact B i (Yb9.1 C),rfl,by
       have c:=r.out;rw[Yfw,List.replicate_zero,Yca]at c;rw[Yak,List.length_range,Yb1];exact c.mono (Yag _)⟩)
     go_wp2;go_ret2;exact⟨_,_,rfl,T,R⟩
