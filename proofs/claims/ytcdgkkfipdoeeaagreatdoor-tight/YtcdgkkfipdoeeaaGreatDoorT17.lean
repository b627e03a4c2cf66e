/- Parts. -/
import Derived.Test.YtcdgkkfipdoeeaaGreatDoorT16
import Derived.Deep.AppendLies
set_option linter.all false
set_option maxRecDepth 100000
set_option maxHeartbeats 16000000
namespace Go.Proofs.YtcdgkkfipdoeeaaGreatDoor
open Go.RowKit LS Go.Proofs.Tryz
variable {nm:BA}{l last:LB}{ps seen xs:List (LB)}{acc es:List Entry}{i lc ln n x y:Nat}{a:Nd}{la:Option Addr}{p q t:Tr}{v:Value}{w:World}
section
theorem Zop:∀xs:List (LB),([44]:LB).intercalate xs=commas xs
 | []=>rfl
 | [a]=>by simp[List.intercalate,commas]
 | a :: b :: l => by
   have ih:=Zop (b::l);rw[ZhX,<-ih];simp[List.intercalate]
theorem ZlV(la:Option Addr)(ln lc:Nat)(ns:List (LB))(h:Zbm w (.slice la ln lc) ns)(v:nw ns<=1000000) :
  Cz 68 #[.slice la ln lc,.string ⟨#[44]⟩] w fun e u=>∃s:BA,e=.returned (.string s)/\Hid (bl s=commas ns)/\BW w u:=by
 obtain⟨bs,a,d⟩:=h;have m:ln=bs.length:=by obtain⟨_,_,e⟩:=Zl a;injection e
 subst m;by_cases k:bs.length=0
 ·rw[k];refine(strings_Join_none _ _ _ w).mono ?_;rintro e u ⟨rfl,rfl⟩;have:=Ya3 k;subst this;exact⟨_,rfl,hid (by rw[<-d];rfl),Yaf _ _⟩
 ·obtain⟨g,cp,n⟩:=ZF a Om;injection n with hg1 _ hg2;subst hg1 hg2;have f:Lib.join (bs.map (·.data.toList)) [44]=commas ns:=d▸Zop _;have r:=ZeS ns
  have i:bs.length<=lc:=by
   rcases a.2 with ⟨e,_⟩|⟨g',cap,cur,e,_,_,o,_⟩
   ·cases e
   ·injection e with _ _ e;subst e;exact o
  have t:bs.length<=1000000:=by
   have p:bs.length<=nw (bs.map bl):=by
    clear f i a d k
    induction bs with
    | nil=>exact Yag _
    | cons c l ih=>simp only[Ybb,nw,Yaj];omega
   rw[d]at p;omega
  refine(strings_Join g 0 _ _ _ w ?_ (Z1 a) Om i (by show(Lib.join (bs.map (·.data.toList)) [44]).length<=_;rw[f];omega)).mono ?_
  ·intro j x f;rw[Ycf];exact Zi a j (by show(bs.map Value.string)[j]?=_;rw[Ya2,f];rfl)
  ·rintro e u ⟨rfl,q⟩;exact⟨_,rfl,hid (by show bl (ByteArray.mk (Lib.join (bs.map (·.data.toList)) [44]).toArray)=_;rw[ZbF,f]),q⟩
theorem ZsJ(d:a.jj=4∨a.jj=6)(e:a.jj=4->a.op<=3):Zdb (opNo a)+1=Zz a/\opNo a<=4:=by
 rcases d with h|h
 ·have f:=e h;have e1:opNo a=a.op+1:=by unfold opNo;rw[if_neg Om]
  have e2:Zz a=if a.op<2 then 2 else 3:=by unfold Zz;rw[if_neg Om,if_pos h]
  rw[e1,e2];refine⟨?_,by omega⟩;unfold Zdb;rw[if_neg Om];by_cases c:a.op<2
  ·rw[if_pos c,if_pos Om]
  ·rw[if_neg c,if_neg Om]
 ·have e1:opNo a=0:=by unfold opNo;rw[if_pos h]
  have e2:Zz a=1:=by unfold Zz;rw[if_pos h]
  rw[e1,e2];exact⟨rfl,by omega⟩
theorem Zvl(c:a.jj=4∨a.jj=6)(d:a.jj=4->a.op<=3)(pl pr:Nat->LB):Zbv a pl pr=pl (Zz a)++[32]++Ze5 (opNo a)++[32]++pr (Zz a+1):=by
 unfold Zbv;rw[if_neg Om,if_neg Om,if_neg Om,if_neg Om,if_neg Om];rcases c with h|h
 ·rw[if_neg Om];have:=d h
  have e:opS a.op=Ze5 (opNo a):=by
   unfold opNo;rw[if_neg Om];rcases(by omega:a.op=0∨a.op=1∨a.op=2∨a.op=3)with h|h|h|h <;> rw[h] <;> rfl
  rw[e]
 ·have e:Zz a=1:=by unfold Zz;rw[if_pos h]
  rw[if_pos h,e];unfold opNo Ze5;rw[if_pos h,if_pos rfl];simp
theorem ZA5 (W : World)  : Cz 314 #[v] W fun e u => e = .returned (Vi 3) /\ BW W u := by
  go_enter func314,ntmps314;go_wp2
  all_goals
    go_ret;exact⟨rfl,belB⟩
theorem ZA4 (W : World)  : Cz 315 #[v] W fun e u => e = .returned (Vi 3) /\ BW W u := by
  go_enter func315,ntmps315;go_wp2
  all_goals
    go_ret;exact⟨rfl,belB⟩
theorem ZA7 (W : World)  : Cz 316 #[v] W fun e u => e = .returned (Vi 3) /\ BW W u := by
  go_enter func316,ntmps316;go_wp2
  all_goals
    go_ret;exact⟨rfl,belB⟩
theorem ZA8 (W : World)  : Cz 321 #[v] W fun e u => e = .returned (Vi 3) /\ BW W u := by
  go_enter func321,ntmps321;go_wp2
  all_goals
    go_ret;exact⟨rfl,belB⟩
theorem ZA6 (W : World)  : Cz 320 #[v] W fun e u => e = .returned (Vi 3) /\ BW W u := by
  go_enter func320,ntmps320;go_wp2
  all_goals
    go_ret;exact⟨rfl,belB⟩
theorem ZrK (W : World) (o : Nat) (a : o <= 4) (ty1 ty2 : TypeId) (u1 u2 : Value) : Cz 66 #[.agg #[Vi o, .iface ty1 u1, .iface ty2 u2]] W fun e u => e = .returned (Vi (Zdb o)) /\ BW W u := by
  have c:Below _ W (W.alloc (.cells #[Vi o,.iface ty1 u1,.iface ty2 u2] 116)):=Zbal;go_enter func66,ntmps66
  go_wp2_with (go_at_call 53;refine(Zm0 o a).mono ?_;rintro e d ⟨rfl,rfl⟩)
  go_ret;exact⟨rfl,c⟩
theorem mN  (w : World) : (Go.method 562 119 v "gauge/syntax.rank").run Tryz.prog w = .ok (314, v) w := by kernel_rfl
theorem mG  (w : World) : (Go.method 562 121 v "gauge/syntax.rank").run Tryz.prog w = .ok (315, v) w := by kernel_rfl
theorem mU (v : Value) (w : World) : (Go.method 562 124 v "gauge/syntax.rank").run Tryz.prog w = .ok (316, v) w := by kernel_rfl
theorem mW  (w : World) : (Go.method 562 150 v "gauge/syntax.rank").run Tryz.prog w = .ok (321, v) w := by kernel_rfl
theorem mS  (w : World) : (Go.method 562 148 v "gauge/syntax.rank").run Tryz.prog w = .ok (320, v) w := by kernel_rfl
theorem mP  (w : World) : (Go.method 562 116 v "gauge/syntax.rank").run Tryz.prog w = .ok (66, v) w := by kernel_rfl
theorem ZAk    {l r : Tr}  (h : Zh w (.node x y a l r) v) (ho : a.jj = 4 → a.op ≤ 3) : ∃ (ty : TypeId) (u : Value) (f : FuncId), v = .iface ty u ∧ (∀ W, (Go.method 562 ty u "gauge/syntax.rank").run Tryz.prog W = .ok (f, u) W) ∧ (∀ W, (callFunc f #[u]).run Tryz.prog W = .ok (.enter f #[u]) W) ∧ (∀ W, Calls Tryz.prog f #[u] W fun e w' => e = .returned (.int .i64 ((Zz a - 1 : Nat) : Int)) ∧ Below W.heap.size W w') := by
  have h4:a.jj<=3∨a.jj=5->Zz a - 1=3:=by
    intro h;unfold Zz;rw[if_neg Om,if_neg Om]
  rcases h with ⟨hk,rfl⟩|⟨hk,nm,la,ln,lc,rfl,_⟩|⟨hk,wd,nm,la,ln,lc,rfl,_⟩|⟨hk,z,rfl,hz⟩|⟨hk,wd,la,ln,lc,z,rfl,_,_,hz⟩|⟨hk,z1,z2,rfl,hz1,hz2⟩
  · exact⟨_,_,_,rfl,fun W=>mN W,fun W=>by kernel_rfl,fun W=>h4 Om▸ZA5 W⟩
  · exact⟨_,_,_,rfl,fun W=>mS W,fun W=>by kernel_rfl,fun W=>h4 Om▸ZA6 W⟩
  · exact⟨_,_,_,rfl,fun W=>mW W,fun W=>by kernel_rfl,fun W=>h4 Om▸ZA8 W⟩
  · exact⟨_,_,_,rfl,fun W=>mG W,fun W=>by kernel_rfl,fun W=>h4 Om▸ZA4 W⟩
  · exact⟨_,_,_,rfl,fun W=>mU _ W,fun W=>by kernel_rfl,fun W=>h4 Om▸ZA7 W⟩
  · obtain⟨t1,u1,rfl⟩:=Zh.shape hz1
    obtain⟨t2,u2,rfl⟩:=Zh.shape hz2;have ht:=ZsJ hk ho;exact⟨_,_,_,rfl,fun W=>mP W,fun W=>by kernel_rfl,fun W=>by rw[show Zz a - 1=Zdb (opNo a) by omega];exact ZrK W _ ht.2 _ _ _ _⟩
def WC(t:Tr):Prop:=∀(w:World) (v:Value) (B b:Nat) (l:LB),Zh w t v->WB w B b l->ZR w->20<=B->l.length+wT t<=big->
 Cz 34 #[Vp b,v] w fun e w'=>e=.returned (.tuple #[])/\Hid (WB w' B b (l++Zu t 1))/\Hid (WK B b w w')
def WW(t:Tr):Prop:=∀(w:World) (v:Value) (B b:Nat) (l:LB) (j:Nat),Zh w t v->WB w B b l->ZR w->20<=B->l.length+wT t+2<=big->
 Cz 65 #[Vp b,v,Vi j] w fun e w'=>e=.returned (.tuple #[])/\Hid (WB w' B b (l++Zu t (j+1)))/\Hid (WK B b w w')
theorem Zd7{l r:Tr} : Zu (.node x y a l r) 1=Zbv a (Zu l) (Zu r):=by
 show ZeK (decide (Zz a<1)) _=_;rw[decide_eq_false (by unfold Zz;split <;> (try split) <;> (try split) <;> omega)];rfl
theorem Ztc(d:wfT t)(h:WC t):WW t:=by
 intro w v B b l j o O P Q E
 match t,d,h,o,E with
 | .node x y a p q,d,h,o,E=>
  obtain⟨ty,u,f,rfl,hm,R,S⟩:=ZAk o d.2.2.1;have HP:=hid o;have T:=hid O;have U:=hid P;have F:=hid Q;have G:=hid E;have HC:=hid S;have H:Hid (1<=Zz a):=hid (by unfold Zz;split <;> (try split) <;> (try split) <;> omega);have I:Hid ((Zu (.node x y a p q) 1).length+2<=wT (.node x y a p q)):=Zd7▸Zow d.2.2.2.2.2.1 (fun m=>Zfy p m d.2.2.2.2.2.2.2.2.2.2.1) (fun m=>Zfy q m d.2.2.2.2.2.2.2.2.2.2.2);clear S o O P Q E;go_enter func65,ntmps65
  go_wp2_with fail
  refine(HC w).mono ?_;rintro e w1 ⟨rfl,i⟩;have r:=hid (HP.below i);have k:=hid (T.below i);have n:Hid (WK B b w _):=WK.below i T.le;have J:=hid (U.low n.low F);clear i hm R;obtain⟨rk,s⟩:∃rk,rk=Zz a - 1:=⟨_,rfl⟩
  rw[<-s];by_cases a0:(j:Int)<=rk
  ·have N:Hid (Zu (.node x y a p q) (j+1)=Zu (.node x y a p q) 1):=by
    rw[Zd7];show ZeK (decide (Zz a<j+1)) _=_;rw[decide_eq_false (by have:=H.out;omega)];rfl
   clear s
   go_wp2_with fail
   refine(h _ _ B b l r k J F (by have:=G.out;omega)).mono ?_;rintro e z ⟨rfl,A,c⟩;have g:=hid (n.trans c);clear c;go_wp2;exact bodyPost_ret (results_none rfl _ _ _) rfl ⟨rfl,by rwa [N.out],g⟩
  ·have N:Hid (Zu (.node x y a p q) (j+1)=[40]++Zu (.node x y a p q) 1++[41]):=by
    rw[Zd7];show ZeK (decide (Zz a<j+1)) _=_;rw[decide_eq_true (by have:=H.out;omega)];rfl
   clear s
   go_wp2_with fail
   refine(Zda k _ (by have V:=G.out;have h2:=I.out;show _+1<=_;omega)).mono ?_;rintro e z ⟨rfl,A,c⟩;have g:=hid (n.trans c);have K:=hid (Zh.wrote k c r);have L:=hid (U.low g.low F);clear c r k n J
   go_wp2_with fail
   refine(h _ _ B b _ K A L F (by rw[Yab,Zd];have V:=G.out;show _+1+_<=_;omega)).mono ?_;rintro e w3 ⟨rfl,W,C⟩;have X:=hid (g.trans C);clear C K A g L
   go_wp2_with fail
   refine(Zda W _ (by simp only[Yab,Zd];have V:=G.out;have h2:=I.out;show _+1+_+1<=_;omega)).mono ?_;rintro e w4 ⟨rfl,M,D⟩;have Y:=hid (X.trans D)
   have Z:Hid (WB w4 B b (l++Zu (.node x y a p q) (j+1))):=by
    rw[N];have:=M.out;simp only[Yan]at this ⊢;exact this
   clear D M;go_wp2
   go_end0
   exact⟨rfl,Z,Y⟩
attribute [local go_sem ↓] Go.wp_at_zero Go.wp_at_succ
attribute [local go_sem] ZhB ZkO ZkP ZkN ZkQ ZiT ZhA Zhz ZkL ZkK ZkM ZiS ZgB ZgA ZgC ZkR ZkS ZiU Zhx Zhw Zhy Zhv ZkJ ZiR ZhJ ZhI ZhK ZhH ZhL ZiV ZhE ZhD ZhF ZhC ZhG ZgD
theorem Zvi(h:a.jj=0)(pl pr:Nat->LB):Zbv a pl pr=decS a.n.toNat:=by unfold Zbv;rw[if_pos h]
theorem Zvj(h:a.jj=1)(pl pr:Nat->LB):Zbv a pl pr=selS a:=by unfold Zbv;rw[if_neg Om,if_pos h]
theorem Zvk(h:a.jj=2)(pl pr:Nat->LB):Zbv a pl pr=Z0.getD a.op []++[40]++selS a++[91]++decS a.n.toNat++[93,41]:=by unfold Zbv;rw[if_neg Om,if_neg Om,if_pos h]
theorem Zvh(h:a.jj=3)(pl pr:Nat->LB):Zbv a pl pr=[45]++pl 4:=by unfold Zbv;rw[if_neg Om,if_neg Om,if_neg Om,if_pos h]
theorem Zvg(h:a.jj=5)(pl pr:Nat->LB):Zbv a pl pr=ZW.getD a.op []++[32,98,121,32,40]++commas a.by_++[41,32,40]++pl 1++[41]:=by unfold Zbv;rw[if_neg Om,if_neg Om,if_neg Om,if_neg Om,if_pos h]
theorem ZoL{n:Int}(h:n<=1000000000):(decS n.toNat).length<=10:=by
 refine ZhZ 9 _ ?_;have a:n.toNat<=1000000000:=by omega
 have c:(10) ^ 10=10000000000:=by decide
 omega
theorem ZET(c:wfT (.node x y a p q))(k:a.jj=0)(w:World)(B b:Nat)(l:LB)(m:WB w B b l)(o:ZR w)(r:20<=B)(I:l.length+wT (.node x y a p q)<=big) :
  Cz 34 #[Vp b,.iface 119 (.agg #[Vi a.n])] w fun e u=>e=.returned (.tuple #[])/\Hid (WB u B b (l++Zu (.node x y a p q) 1))/\Hid (WK B b w u):=by
 have t:Hid (Zu (.node x y a p q) 1=decS _):=hid (by rw[Zd7,Zvi k]);have v:=hid m;have J:=hid o;have K:=hid r;have h:Hid (0<=a.n/\a.n<=1000000000):=⟨c.2.2.2.2.1,c.2.2.2.2.2.1⟩
 have L:Hid (l.length+24<=big):=hid (by have M:ownW a+wT p+wT q=wT (.node x y a p q):=rfl;unfold ownW at M;omega);obtain⟨n,A⟩:∃n,n=a.n:=⟨_,rfl⟩
 rw[<-A]at h t ⊢;clear m o r I c k A;go_enter func34,ntmps34
 go_wp2_with fail
 refine Zm fun W C=>?_;have d:Below _ w W:=C▸Zbal;have i:=hid (v.below d);have j:Hid (WK B b w W):=WK.below d v.le;have D:=hid (J.low j.low K);clear C d;refine(ZlT D n h.1 h.2).mono ?_;rintro e O ⟨s,rfl,E,f⟩;have F:=hid (i.below f);have G:=hid (j.trans (WK.below f i.le));clear f
 go_wp2_with fail
 refine(Zda F s (by rw[ZU E];have:=ZoL h.2;have:=L.out;omega)).mono ?_;rintro e z ⟨rfl,N,g⟩;have H:=hid (G.trans g);clear g;go_wp2
 go_end0
 exact⟨rfl,by rwa [t.out,<-E.out],H⟩
theorem ZEV(g:a.jj=1)(w:World)(f:bl nm=a.name)(h:ZX w (.slice la ln lc) a.jn)(B b:Nat)(l:LB)(i:WB w B b l)(t:l.length+wT (.node x y a p q)<=big) :
  Cz 34 #[Vp b,.iface 148 (.agg #[.string nm,.slice la ln lc])] w fun e u=>e=.returned (.tuple #[])/\Hid (WB u B b (l++Zu (.node x y a p q) 1))/\Hid (WK B b w u):=by
 have v:Hid (Zu (.node x y a p q) 1=selS a):=hid (by rw[Zd7,Zvj g]);have j:=hid i;have k:=hid f;have A:=hid h;have C:Hid (l.length+a.name.length+cw a.jn+10<=big):=hid (by have D:ownW a+wT p+wT q=wT (.node x y a p q):=rfl;unfold ownW at D;omega);clear i t g f h;go_enter func34,ntmps34
 go_wp2_with fail
 refine Zm fun W m=>?_;have c:Below _ w W:=m▸Zbal;have n:=hid (j.below c);have o:Hid (WK B b w W):=WK.below c j.le;have r:=hid (A.below c);clear m c;refine(Ztq n _ _ _ _ a k r C).mono ?_;rintro e z ⟨rfl,E,d⟩;have s:=hid (o.trans d);clear d;go_wp2
 go_end0
 exact⟨rfl,by rwa [v.out],s⟩
theorem ZEW(i:wfT (.node x y a p q))(O:a.jj=2){h:BA}(w:World)(j:bl h=Z0.getD a.op [])(E:bl nm=a.name)(P:ZX w (.slice la ln lc) a.jn)(B b:Nat)(l:LB)(Q:WB w B b l)(R:ZR w)(S:20<=B)(hl:l.length+wT (.node x y a p q)<=big) :
  Cz 34 #[Vp b,.iface 150 (.agg #[.string h,.string nm,.slice la ln lc,Vi a.n])] w fun e u=>e=.returned (.tuple #[])/\Hid (WB u B b (l++Zu (.node x y a p q) 1))/\Hid (WK B b w u):=by
 have T:Hid (Zu (.node x y a p q) 1=bl _++[40]++selS a++[91]++decS _++[93,41]):=hid (by rw[Zd7,Zvk O,j]);have U:=hid Q;have HT:=hid R;have HB:=hid S;have D:Hid (0<=a.n/\a.n<=1000000000):=⟨i.2.2.2.2.1,i.2.2.2.2.2.1⟩
 have V:=hid E;have HC:=hid P;have a6:h.size<=5:=ZU j▸Zh5 Z0 Dc a.op;have M:Hid (l.length+a.name.length+cw a.jn+24<=big):=hid (by have h1:ownW a+wT p+wT q=wT (.node x y a p q):=rfl;unfold ownW at h1;omega);have X:=hid (Zr7 a);obtain⟨n,Y⟩:∃n,n=a.n:=⟨_,rfl⟩
 rw[<-Y]at D T ⊢;have a1:∀W,(Op.stringOp _ _ ⟨#[40]⟩).run prog W=.ok _ W:=fun W=>run_string_add_sum W _ _ (by show h.size+1<=_;omega);have k:Hid ((h++⟨#[40]⟩).size=h.size+1):=by rw[Yaz];rfl
 clear Q R S hl i O Y j E P;go_enter func34,ntmps34
 go_upto_region 20 with fail
 refine ZP fun W N=>?_;have f:Below _ w W:=N▸Zbal;have m:Hid (BAt W _ [.string _,.string _,.slice _ _ _,.int _ n] 150):=N▸bnw;have g:=hid (U.below f);have F:Hid (WK B b w W):=WK.below f U.le;have G:=hid (HC.below f);clear N f;have p0:=m.cell
 go_wp2_with fail
 refine(Zda g _ (by rw[k];have:=M.out;omega)).mono ?_;rintro e w1 ⟨rfl,o,c⟩;have H:=hid (F.trans c);have r:=hid (WK.bat g c m Dc Dc);have I:=hid (G.wrote g c);clear c p0 m g F G;have p1:=r.cell
 go_wp2_with fail
 refine(Ztq o _ _ _ _ a V I (by rw[Yab,Zd,k];have:=M.out;omega)).mono ?_;rintro e z ⟨rfl,t,d⟩;have v:=hid (H.trans d);have Z:=hid (WK.bat o d r Dc Dc);have J:=hid (HT.low v.low HB);clear d p1 r o H I;have p3:=Z.cell
 go_wp2_with fail
 refine(ZlT J n D.1 D.2).mono ?_;rintro e w3 ⟨s,rfl,hs,A⟩;have a0:=hid (t.below A);have a2:=hid (v.trans (WK.below A t.le));have a7:s.size<=10:=ZU hs.out▸ZoL D.2;have b1:∀W,(Op.stringOp _ ⟨#[91]⟩ s).run prog W=.ok _ W:=fun W=>run_string_add_sum W _ _ (by show 1+s.size<=_;omega);have K:Hid ((⟨#[91]⟩++s).size=1+s.size):=by rw[Yaz];rfl
 have b2:∀W,(Op.stringOp _ _ ⟨#[93,41]⟩).run prog W=.ok _ W:=fun W=>run_string_add_sum W _ _ (by rw[K];show _+2<=_;omega);have a3:Hid (((⟨#[91]⟩++s)++⟨#[93,41]⟩).size=1+s.size+2):=by rw[Yaz,K];rfl
 clear A p3 t v J
 go_wp2_with fail
 refine(Zda a0 _ (by rw[a3];simp only[Yab,Zd];rw[k];have:=M.out;have:=X.out;omega)).mono ?_;rintro e w4 ⟨rfl,L,C⟩;have a4:=hid (a2.trans C)
 have a5:Hid (WB w4 B b (l++Zu (.node x y a p q) 1)):=by
  rw[T,<-hs];have:=L.out;rw[ZcV,ZcV,ZcV]at this;simp only[Yan]at this ⊢;exact this
 clear C L;go_wp2
 go_end0
 exact⟨rfl,a5,a4⟩
theorem ZES(o:a.jj=3)(ih:WW p)(w:World)(z:Value)(m:Zh w p z)(B b:Nat)(l:LB)(r:WB w B b l)(s:ZR w)(t:20<=B)(M:l.length+wT (.node x y a p q)<=big) :
  Cz 34 #[Vp b,.iface 121 (.agg #[z])] w fun e v=>e=.returned (.tuple #[])/\Hid (WB v B b (l++Zu (.node x y a p q) 1))/\Hid (WK B b w v):=by
 have N:Hid (Zu (.node x y a p q) 1=[45]++Zu p 4):=hid (by rw[Zd7,Zvh o]);have A:=hid r;have O:=hid s;have C:=hid t;have D:Hid (l.length+24+wT p<=big):=hid (by have P:ownW a+wT p+wT q=wT (.node x y a p q):=rfl;unfold ownW at P;omega);have Q:=hid m;obtain⟨ty,u,E⟩:=Zh.shape m;subst E;clear r s t M o m;go_enter func34,ntmps34
 go_upto_region 6 with fail
 refine ZP fun W n=>?_;have d:Below _ w W:=n▸Zbal;have h:Hid (BAt W _ _ 121):=n▸bnw;have f:=hid (A.below d);have i:Hid (WK B b w W):=WK.below d A.le;have j:=hid (Q.below d);clear n d
 go_wp2_with fail
 refine(Zda f _ (by have:=D.out;show _+1<=_;omega)).mono ?_;rintro e S ⟨rfl,F,c⟩;have k:=hid (i.trans c);have G:=hid (WK.bat f c h Dc Dc);have H:=hid (Zh.wrote f c j);have I:=hid (O.low k.low C);clear c h f i j;have p0:=G.cell
 go_wp2_with fail
 refine(ih _ _ B b _ 3 H F I C (by rw[Yab,Zd];have:=D.out;show _+1+_+2<=_;omega)).mono ?_;rintro e R ⟨rfl,J,g⟩;have K:=hid (k.trans g);have L:Hid (WB R B b (l++Zu (.node x y a p q) 1)):=by rwa [N.out,<-Yan]
 clear g J;go_wp2
 go_end0
 exact⟨rfl,L,K⟩
end
section
attribute [local go_sem ↓] Go.wp_at_zero Go.wp_at_succ
attribute [local go_sem] ZhB ZkO ZkP ZkN ZkQ ZiT ZhA Zhz ZkL ZkK ZkM ZiS ZgB ZgA ZgC ZkR ZkS ZiU Zhx Zhw Zhy Zhv ZkJ ZiR ZhJ ZhI ZhK ZhH ZhL ZiV ZhE ZhD ZhF ZhC ZhG ZgD
theorem ZCe(o:Nat):(Ze5 o).length<=2:=by
 unfold Ze5;split <;> (try split) <;> (try split) <;> (try split) <;> simp
theorem ZEU(r:wfT (.node x y a p q))(X:a.jj=4∨a.jj=6)(N:WW p)(O:WW q)(w:World){z1 z2:Value}(C:Zh w p z1)(D:Zh w q z2)(B b:Nat)(l:LB)(hw:WB w B b l)(ht:ZR w)(hB:20<=B)(hl:l.length+wT (.node x y a p q)<=big) :
  Cz 34 #[Vp b,.iface 116 (.agg #[Vi (opNo a),z1,z2])] w fun e u=>e=.returned (.tuple #[])/\Hid (WB u B b (l++Zu (.node x y a p q) 1))/\Hid (WK B b w u):=by
 obtain⟨o,s⟩:∃o,o=opNo a:=⟨_,rfl⟩
 have E:=ZsJ X r.2.2.1;have HX:Hid (Zu (.node x y a p q) 1=Zu p (Zdb o+1)++[32]++Ze5 o++[32]++Zu q (Zdb o+1+1)):=hid (by rw[Zd7,Zvl X r.2.2.1,s,E.1]);have P:o<=4:=s▸E.2;have F:Hid ((Zu p (Zdb o+1)).length<=wT p):=hid (Zfy p _ r.2.2.2.2.2.2.2.2.2.2.1);rw[<-s];have HW:=hid hw;have HT:=hid ht;have M:=hid hB;have Y:Hid (l.length+24+wT p+wT q<=big):=hid (by have G:ownW a+wT p+wT q=wT (.node x y a p q):=rfl;unfold ownW at G;omega);have a5:=hid C;have a6:=hid D;obtain⟨t1,u1,Z⟩:=Zh.shape C;obtain⟨t2,u2,a0⟩:=Zh.shape D;subst Z a0;obtain⟨sg,H⟩:∃sg:BA,sg=⟨(Ze5 o).toArray⟩:=⟨_,rfl⟩
 have a7:=hid H.symm;have Q:Hid (bl sg=Ze5 o):=hid (by rw[H,ZbF]);have c1:sg.size<=2:=ZU Q.out▸ZCe o;have a8:Zdb o<=2:=by unfold Zdb;split <;> (try split) <;> omega
 have a1:∀W,(Op.stringOp _ ⟨#[32]⟩ _).run prog W=.ok _ W:=fun W=>run_string_add_sum W _ _ (by show 1+sg.size<=_;omega);have R:Hid ((⟨#[32]⟩++sg).size=1+sg.size):=by rw[Yaz];rfl
 have a2:∀W,(Op.stringOp _ _ ⟨#[32]⟩).run prog W=.ok _ W:=fun W=>run_string_add_sum W _ _ (by rw[R];show _+1<=_;omega);have S:Hid (((⟨#[32]⟩++sg)++⟨#[32]⟩).size=1+sg.size+1):=by rw[Yaz,R];rfl
 obtain⟨rr,I⟩:∃rr,rr=Zdb o:=⟨_,rfl⟩
 rw[<-I]at HX F a8;have T:Hid (∀W,Calls _ _ _ W fun e u=>e=.returned _/\Below _ W _):=hid (fun W=>I▸ZrK W o P t1 t2 u1 u2);have a9:Hid (∀(u:World) (l':List _),Zh _ p (.iface t1 u1)->WB u B b _->ZR _->l'.length+wT p+2<=big->Calls _ _ _ _ _):=hid (fun u l' G h2 h3 h4=>N _ _ B b _ rr G h2 h3 M h4);have b0:Hid (∀(u:World) (l':List _),Zh _ q _->WB _ B b _->ZR u->l'.length+wT q+2<=big->Calls _ _ #[.pointer _,.iface t2 u2,.int _ ((rr)+1)] _ _):=hid (fun u l' G h2 h3 h4=>O _ _ B b _ (rr+1) G h2 h3 M h4);have c2:IntKind.i64.wrap ((rr)+1)=(rr)+1:=by rcases(by omega:rr=0∨rr=1∨rr=2)with h|h|h <;> rw[h] <;> rfl
 clear hw ht hB hl X C D r s E H I N O;go_enter func34,ntmps34
 go_upto_region 10 with fail
 refine ZP fun W hW=>?_;have j:Below _ w W:=hW▸Zbal;have t:Hid (BAt W _ _ 116):=hW▸bnw;have v:=hid (HW.below j);have b1:Hid (WK B b w W):=WK.below j HW.le;have a3:=hid (a5.below j);have a4:=hid (a6.below j);clear hW j;have p0:=t.cell 0;have p1:=t.cell 1;have p2:=t.cell 2;simp only[Zget]at p0 p1 p2
 go_region_held3 (fun u => u.cell? ⟨w.heap.size, 0, none⟩ = some (Vi o) /\ u.cell? ⟨w.heap.size, 1, none⟩ = some (.iface t1 u1) /\ u.cell? ⟨w.heap.size, 2, none⟩ = some (.iface t2 u2)) (first | exact ⟨e0, e1, e2⟩ | exact ⟨d0, d1, d2⟩ | exact ⟨p0, p1, p2⟩ | go_keep) (first
   | (go_at_call 66
      refine(T.out _).mono ?_;rintro e w5 ⟨rfl,d⟩;have c:Hid (BW W w5):=hid ⟨d.os,d.tape,d.output,d.size,d.block⟩;have k:=hid (t.below c.out);have d0:=k.cell 0;have d1:=k.cell 1;have d2:=k.cell 2;simp only[Zget]at d0 d1 d2;have J:Hid (WK B b w w5):=b1.trans (WK.below c.out v.le);clear d)
   | (go_at_call 65
      refine(a9.out w5 l (a3.below c.out) (v.below c.out) (HT.low J.low M.out) (by have:=Y.out;omega)).mono ?_;rintro e w6 ⟨rfl,K,g⟩;have z:=hid (WK.bat (v.below c.out) g.out k.out Dc Dc);have e0:=z.cell 0;have e1:=z.cell 1;have e2:=z.cell 2;simp only[Zget]at e0 e1 e2;have b2:Hid (WK B b w w6):=J.trans g.out;have b3:Hid (Zh w6 q (.iface t2 u2)):=hid (Zh.wrote (v.below c.out) g.out (a4.below c.out));clear g))
 clear p0 p1 p2 d0 d1 d2 k c J
 go_wp2_with (go_at_call 67;refine(ZCd o P).mono ?_;rintro e wq ⟨rfl,rfl⟩;rw[a7.out])
 refine(Zda K _ (by rw[S,Yab];have:=Y.out;have:=F.out;omega)).mono ?_;rintro e w7 ⟨rfl,L,i⟩;have b4:=hid (b2.trans i);have A:=hid (WK.bat K i z Dc Dc);have b5:=hid (Zh.wrote K i b3);clear i e0 e1 e2;have p0:=A.cell 0;have p1:=A.cell 1;have p2:=A.cell 2;simp only[Zget]at p0 p1 p2
 go_upto_region 12 with fail
 go_region_held3 (fun u => u.cell? ⟨w.heap.size, 0, none⟩ = some (Vi o) /\ u.cell? ⟨w.heap.size, 1, none⟩ = some (.iface t1 u1) /\ u.cell? ⟨w.heap.size, 2, none⟩ = some (.iface t2 u2)) (first | exact ⟨e0, e1, e2⟩ | exact ⟨d0, d1, d2⟩ | exact ⟨p0, p1, p2⟩ | go_keep) (first
   | (go_at_call 66
      refine(T.out _).mono ?_;rintro e w8 ⟨rfl,f⟩;have m:Hid (BW w7 w8):=hid ⟨f.os,f.tape,f.output,f.size,f.block⟩;have U:=hid (A.below m.out);have d0:=U.cell;have V:Hid (WK B b w w8):=b4.trans (WK.below m.out L.le);clear f)
   | (go_at_call 65
      refine(b0.out w8 _ (b5.below m.out) (L.below m.out) (HT.low V.low M.out) (by simp only[Yab,Zd];rw[S.out];have:=Y.out;have:=F.out;omega)).mono ?_;rintro e w9 ⟨rfl,b6,n⟩;have b7:=hid (WK.bat (L.below m.out) n.out U.out Dc Dc);have e0:=b7.cell;have b8:Hid (WK B b w w9):=V.trans n.out;clear n))
 have b9:Hid (WB w9 B b (l++Zu (.node x y a p q) 1)):=by
  rw[HX,<-Q];have:=b6.out;rw[ZcV,ZcV]at this;simp only[Yan]at this ⊢;exact this
 go_wp2
 go_end0
 exact⟨rfl,b9,b8⟩
theorem ZER(E:wfT (.node x y a p q))(Q:a.jj=5)(ih:WC p){d:BA}(w:World)(z:Value)(o:bl d=ZW.getD a.op [])(F:Zbm w (.slice la ln lc) a.by_)(N:Zh w p z)(B b:Nat)(l:LB)(R:WB w B b l)(S:ZR w)(T:20<=B)(hl:l.length+wT (.node x y a p q)<=big) :
  Cz 34 #[Vp b,.iface 124 (.agg #[.string d,.slice la ln lc,z])] w fun e c=>e=.returned (.tuple #[])/\Hid (WB c B b (l++Zu (.node x y a p q) 1))/\Hid (WK B b w c):=by
 have HX:Hid (Zu (.node x y a p q) 1=bl _++[32,98,121,32,40]++commas _++[41,32,40]++Zu p 1++[41]):=hid (by rw[Zd7,Zvg Q,o]);have U:Hid ((Zu p 1).length<=wT p):=hid (Zfy p _ E.2.2.2.2.2.2.2.2.2.2.1);have V:=hid R;have HT:=hid S;have X:=hid T;have r:Hid (l.length+24+nw a.by_+wT p<=big):=hid (by have Y:ownW a+wT p+wT q=wT (.node x y a p q):=rfl;unfold ownW at Y;omega);have HZ:=hid N;have Z:=hid F;have b6:d.size<=5:=ZU o▸Zh5 ZW Dc a.op;obtain⟨ty,u,a0⟩:=Zh.shape N;subst a0;obtain⟨js,G⟩:∃js:BA,js=⟨(commas a.by_).toArray⟩:=⟨_,rfl⟩
 have t:Hid (bl js=commas _):=hid (by rw[G,ZbF]);have k:Hid _:=ZU t.out▸ZeS _;have b7:js.size<=1000000:=by have Y:=k.out;have O:=r.out;unfold big at O;omega
 have a1:∀W,(Op.stringOp _ _ ⟨#[32,98,121,32,40]⟩).run prog W=.ok _ W:=fun W=>run_string_add_sum W _ _ (by show d.size+5<=_;omega);have H:Hid ((d++⟨#[32,98,121,32,40]⟩).size=d.size+5):=by rw[Yaz];rfl
 have a2:∀W,(Op.stringOp _ _ js).run prog W=.ok _ W:=fun W=>run_string_add_sum W _ _ (by rw[H];omega);have I:Hid (((d++⟨#[32,98,121,32,40]⟩)++js).size=d.size+5+js.size):=hid (by rw[Yaz,H]);have a3:∀W,(Op.stringOp _ _ ⟨#[41,32,40]⟩).run prog W=.ok _ W:=fun W=>run_string_add_sum W _ _ (by rw[I];show _+3<=_;omega);have v:Hid ((((d++⟨#[32,98,121,32,40]⟩)++js)++⟨#[41,32,40]⟩).size=d.size+5+js.size+3):=by rw[Yaz,I];rfl
 clear R S T hl Q N E o F G;go_enter func34,ntmps34
 go_upto_region 15 with fail
 refine ZP fun W P=>?_;have i:Below _ w W:=P▸Zbal;have m:Hid (BAt W _ _ 124):=P▸bnw;have n:=hid (V.below i);have a4:Hid (WK B b w W):=WK.below i V.le;have a5:=hid (HZ.below i);have a6:=hid (Z.below i);clear P i;have p0:=m.cell 0;have p1:=m.cell 1;have p2:=m.cell 2;simp only[Zget]at p0 p1 p2
 have J : Hid (∀ c, BW W c -> Cz 68 #[.slice la ln lc, .string ⟨#[44]⟩] c fun e K => e = .returned (.string js) /\ BW c K) := by
   intro c a7;refine(ZlV _ _ _ _ (a6.below a7) (by have O:=r.out;unfold big at O;omega)).mono ?_;rintro e K ⟨s,rfl,hs,hb⟩;exact⟨by rw[ZcW (hs.trans t.symm)],hb⟩
 have a8:Hid (BW W _):=hid ((Yaf _ _).drew)
 go_region_held3 (fun c => c.cell? ⟨w.heap.size, 0, none⟩ = some (.string d) /\ c.cell? ⟨w.heap.size, 1, none⟩ = some (.slice la ln lc) /\ c.cell? ⟨w.heap.size, 2, none⟩ = some (.iface ty u)) (first | exact ⟨e0, e1, e2⟩ | exact ⟨d0, d1, d2⟩ | exact ⟨p0, p1, p2⟩ | go_keep) (first
   | (go_at_call 68
      refine(J.out _ a8.out).mono ?_;rintro e w5 ⟨rfl,g⟩;have f:Hid (BW W w5):=hid ⟨g.os,g.tape,g.output,g.size,g.block⟩;have j:=hid (m.below f.out);have d0:=j.cell 0;have d1:=j.cell 1;have d2:=j.cell 2;simp only[Zget]at d0 d1 d2;have L:Hid (WK B b w w5):=a4.trans (WK.below f.out n.le);clear g)
   | (go_at_call 63
      refine(Zda (n.below f.out) _ (by rw[v.out];have:=r.out;have:=k.out;omega)).mono ?_;rintro e w6 ⟨rfl,a9,h⟩;have A:=hid (WK.bat (n.below f.out) h.out j.out Dc Dc);have e0:=A.cell 0;have e1:=A.cell 1;have e2:=A.cell 2;simp only[Zget]at e0 e1 e2;have M:Hid (WK B b w w6):=L.trans h.out;have b0:Hid (Zh w6 p (.iface ty u)):=hid (Zh.wrote (n.below f.out) h.out (a5.below f.out));clear h))
 clear p0 p1 p2 d0 d1 d2 j f L J
 go_wp2_with fail
 refine(ih _ _ B b _ b0 a9 (HT.low M.low X) X (by rw[Yab,Zd,v];have:=r.out;have:=k.out;omega)).mono ?_;rintro e w7 ⟨rfl,b1,C⟩;have b2:=hid (M.trans C);clear C e0 e1 e2
 go_wp2_with fail
 refine(Zda b1 _ (by simp only[Yab,Zd];rw[v];show _+1<=_;have:=r.out;have:=k.out;have:=U.out;omega)).mono ?_;rintro e w8 ⟨rfl,b3,D⟩;have b4:=hid (b2.trans D)
 have b5:Hid (WB w8 B b (l++Zu (.node x y a p q) 1)):=by
  rw[HX,<-t];have:=b3.out;rw[ZcV,ZcV,ZcV]at this;simp only[Yan]at this ⊢;exact this
 clear D;go_wp2
 go_end0
 exact⟨rfl,b5,b4⟩
theorem ZnC:∀t:Tr,wfT t->WC t
 | .nil,_=>fun _ _ _ _ _ h=>h.elim
 | .node x y a p q, c => by
   have m:=ZnC p c.2.2.2.2.2.2.2.2.2.2.1;have o:=ZnC q c.2.2.2.2.2.2.2.2.2.2.2;have iwp:=Ztc c.2.2.2.2.2.2.2.2.2.2.1 m;have iwq:=Ztc c.2.2.2.2.2.2.2.2.2.2.2 o;intro w v B b l u e g i f;rcases u with ⟨d,rfl⟩|⟨d,nm,la,ln,lc,rfl,j,k⟩|⟨d,A,nm,la,ln,lc,rfl,j,k,C⟩|⟨d,z,rfl,n⟩|⟨d,A,la,ln,lc,z,rfl,j,k,n⟩|⟨d,z1,z2,rfl,r,s⟩
   · exact ZET c d w B b l e g i f
   · exact ZEV d w j k B b l e f
   · exact ZEW c d w j k C B b l e g i f
   · exact ZES d iwp w z n B b l e g i f
   · exact ZER c d m w z j k n B b l e g i f
   · exact ZEU c d iwp iwq w r s B b l e g i f
theorem Zj6(c:wfT t)(d:wT t<=100000)(h:Zh w t v)(j:ZR w)(k:20<=w.heap.size) :
  Cz 20 #[v] w fun e C=>∃s:BA,e=.returned (.string s)/\Hid (bl s=Zu t 1)/\BW w C:=by
 have l:=hid (ZnC t c);have D:=hid h;have E:=hid j;have m:=hid k;have F:=hid d;obtain⟨ty,u,n⟩:=Zh.shape h;subst n;clear h j k d c;go_enter func20,ntmps20
 go_wp2_with fail
 refine Zm fun W i=>?_;have a:Below _ w W:=i▸Zbal;have o:Hid (WB W _ _ []):=hid ⟨.inl ⟨Yac _,.slice _ 0 0,i▸bnw,⟨rfl,.inl ⟨rfl,rfl⟩⟩,by simp[Value.ownBlock]⟩,a.size⟩;have p:=hid a;have q:=hid (D.below a);have r:=hid (E.low a m);clear i a;refine(l W _ _ _ _ q o r m (by have:=F.out;unfold big;simp;omega)).mono ?_;rintro e y ⟨rfl,f,x⟩;have A:=hid (p.trans x.low)
 go_wp2_with fail
 refine(Builder_String_any_f _ _ _ _ f.bd f.le).mono ?_;rintro e z ⟨rfl,_,g⟩;have B:=hid (A.trans g);clear g;go_wp2;go_ret;exact⟨_,rfl,hid (by rw[ZbF]),B⟩
end
section
open Go.Proofs.Tryz
open Go.RowKit Go.Maps Go.WideMaps LS
def Zdz(l:LB):LB:=match cut 125 l with|some p=>p.1|none=>l
def ZbZ:Nat->List (LB)->List (LB)->Option Nat
 | _,_,[]=>none
 | i,seen,x::xs=>if x=[] then ZbZ (i+1) seen xs else if seen.contains (Zdz x)then some i else ZbZ (i+1) (seen++[Zdz x]) xs
theorem ZDq(a:i<ps.length)(h:ps.getD i []=[]):ZbZ i seen (ps.drop i)=ZbZ (i+1) seen (ps.drop (i+1)):=by
 have e:ps.getD i []=ps[i]:=by simp[a]
 rw[List.drop_eq_getElem_cons a,ZbZ,<-e,if_pos h]
theorem ZDs(a:i<ps.length)(h:ps.getD i []≠[])(c:seen.contains (Zdz (ps.getD i []))=true):ZbZ i seen (ps.drop i)=some i:=by
 have e:ps.getD i []=ps[i]:=by simp[a]
 rw[List.drop_eq_getElem_cons a,ZbZ,<-e,if_neg h,if_pos c]
theorem ZDt(a:i<ps.length)(h:ps.getD i []≠[])(c:seen.contains (Zdz (ps.getD i []))=false):ZbZ i seen (ps.drop i)=ZbZ (i+1) (seen++[Zdz (ps.getD i [])]) (ps.drop (i+1)):=by
 have e:ps.getD i []=ps[i]:=by simp[a]
 rw[List.drop_eq_getElem_cons a,ZbZ,<-e,if_neg h,if_neg (c▸Ycv)]
theorem ZDr(a:¬i<ps.length):ZbZ i seen (ps.drop i)=none:=by
 rw[Yb8 Om];rfl
theorem law9:Keyed prog 9:=string_keyed underlying9
theorem Ztz:(zeroValue 277).run prog w=.ok (.agg #[]) w:=by kernel_rfl
def Sd(seen:List (LB)):DataW Unit:=setOf (.agg []) (seen.map Lit.string)
theorem ZtD(seen:List (LB))(x:LB):Sd (seen++[x])=(Sd seen).put (.string x) (.agg []):=by
 unfold Sd;rw[Yaq,Ybb,Ydg,setOf_snoc]
theorem Zxh:∀x∈seen.map Lit.string,WideAt.IsKeyLit x:=by
 intro x a;obtain⟨y,_,rfl⟩:=Ybe.1 a
 trivial
theorem ZwR(seen:List (LB))(x:LB):Maps.has (Sd seen) (.string x)=seen.contains x:=by
 unfold Sd;rw[has_setOf _ _ _ (Zxh)]
 induction seen with
 | nil=>rfl
 | cons a l ih=>
  rw[Ybb,List.any_cons,ih,List.contains_cons]
  congr 1
  show(a == x)=(x == a)
  exact BEq.comm
theorem Zvp{s:BA}(m:Int)(h:s.size<=6000)(i:w.cell? ⟨14,0,none⟩=some (Vi m)) :
  Cz 150 #[.string s,.string ⟨#[125]⟩] w fun e u=>∃(a b:BA) (f:Bool),e=.returned (.tuple #[.string a,.string b,.bool f])/\Hid (bl a=Zdz (bl s))/\a.size<=6000/\∃n,u=w.drewN n:=by
 cases d:cut 125 (bl s)with
 | none=>
  refine(ZgH m w h i d).mono ?_;rintro e u ⟨a,b,rfl,c,g⟩;exact⟨a,b,_,rfl,hid (by unfold Zdz;rw[d];exact c.1),by rwa [ZU c.1,Zd],g⟩
 | some p=>
  obtain⟨x,y⟩:=p;refine(Zep m w h i d).mono ?_;rintro e u ⟨a,b,rfl,c,g⟩;refine⟨a,b,_,rfl,hid (by unfold Zdz;rw[d];exact c.1),?_,g⟩;have:(bl s).length=x.length+(y.length+1):=by rw[(Zdx d).1];simp
  rw[ZU c.1];rw[Zd]at this;omega
theorem ZyC{g:Nat}(n:Nat)(A:Nat->Addr)(m:Int)(K:Hid (n=ps.length))(W:n<=6001)(L:Hid (∀i,i<ps.length->(ps.getD i []).length<=6000))(v:ZfN w g ps)(R:Vars w A m) :
  Cz 88 #[.slice (some ⟨g, 0, none⟩) n n] w fun e u => BW w u /\
    ((∃(i:Nat) (fa:Nat),e=.returned (.iface 81 (Vp fa))/\u.heap[fa]?=some (.cells #[.string ⟨#[108,105,110,101]⟩,Vi i,.iface 432 (.pointer (some (A 5)))] 85 (0,0))/\Hid (ZbZ 0 [] ps=some i))∨
     (e=.returned .nilIface/\Hid (ZbZ 0 [] ps=none))):=by
 have X:=@run_makeMap prog;have M:=v.1;go_enter func88,ntmps88;go_wp2
 go_loopw [14] (fun i wr => ∃ (k : Nat) (seen : List (LB)), k <= n /\ i = Vi k /\ wr.ownsMap prog 9 unitElem w.heap.size k (Sd seen) /\ Hid (ZbZ 0 [] ps = ZbZ k seen (ps.drop k)) /\ BW w wr /\ w.heap.size + 1 <= wr.heap.size)
   (fun i _=>n - (intOf i).toNat)
 case atStart=>exact⟨0,[],Yag _,rfl,World.ownsMap_made _ _ _ _,rfl,Zbal,by simp⟩
 case round=>
  obtain⟨k,seen,hk,rfl,x,D,d,N⟩:=hrel;have h:=R.below d;by_cases O:k<n
  ·have l:k<ps.length:=by rwa [<-K.out]
   obtain⟨sk,Y,B⟩:=(v.below d M).2 k l;have J:sk.size<=6000:=ZU B▸L.out k l;have E:=hid B;clear B;cases P:sk.toList.isEmpty
   ·have G:Hid (ps.getD k _≠[]):=E.out▸Zij P;have I:=h.max
    go_wp2_with fail
    refine(Zvp m J I).mono ?_;rintro e z ⟨a,b,f,rfl,Q,Z,j,rfl⟩;have S:∀o,((wr.alloc o).drewN j).cell? ⟨5,0,none⟩=some _:=fun o=>(h.alloc o).sent _ Dc;have T:∀o,(wr.alloc o).cell? ⟨5,0,none⟩=some _:=fun o=>(h.alloc o).sent _ Dc;have U:∀o,((wr.drewN j).alloc o).cell? ⟨5,0,none⟩=some _:=fun o=>((h.drewN j).alloc o).sent _ Dc;have r:keyOf _ 9 (.string a)=some _:=keyOf_string_mk underlying9 (by unfold maxLen;omega)
    have C:Maps.has (Sd seen) (.string a.data.toList)=seen.contains (Zdz (ps.getD k [])):=by
     rw[ZwR];show seen.contains (bl a)=_;rw[Q,E]
    have c:(wr.drewN j).ownsMap _ 9 _ _ k _:=x;clear I h;cases t:seen.contains (Zdz (ps.getD k []))
    ·have s:Hid (ZbZ 0 _ _=ZbZ _ _ _):=D.out▸ZDt l G.out t;rw[t]at C;clear t
     go_wp2_with (first
       | (at_lookup;refine wpList_lookup_own_unit _ rfl _ _ 274 rfl 9 277 law9 underlying274 (Ztz) w.heap.size k _ rfl c _ _ rfl r ?_)
       | (at_mapUpdate;refine wpList_mapUpdate_own _ rfl _ _ _ 274 rfl 9 277 law9 underlying274 (unitElem (H:=Unit)) w.heap.size k _ rfl (c.alloc _) (by unfold maxLen;omega) _ _ _ rfl rfl r _ [] unitElem_mk ?_;intro y F p))
     have s1:=p.size;simp at s1
     go_roundw
     case rel=>
      refine⟨k+1,_,by omega,by go_num,?_,s,?_,by omega⟩
      ·rw[ZtD,<-E,<-Q];exact F
      ·exact((ZhQ d j).alloc (by simp;omega) _).grown p (by simp;omega) (fun q V=>by cases V;exact Yac _)
     case measure=>simp[intOf];omega
    ·have s:Hid _:=D.out▸ZDs l G.out t;rw[t]at C;clear t
     go_wp2_with (first
       | (at_lookup;refine wpList_lookup_own_unit _ rfl _ _ 274 rfl 9 277 law9 underlying274 (Ztz) w.heap.size k _ rfl c _ _ rfl r ?_)
       | (go_at_call 149;refine(ZnV).mono ?_;rintro e u ⟨rfl,rfl⟩))
     go_ret;refine⟨belB,.inl ⟨k,wr.heap.size+1,rfl,?_,s⟩⟩;rw[show wr.heap.size+1=(wr.alloc (.cells #[] 277)).heap.size by simp];exact Ye3
   ·have s:Hid _:=D.out▸ZDq l (by rw[<-E.out];exact ZgW P);go_wp2
    go_roundw
    case rel=>exact⟨k+1,seen,by omega,by go_num,x.mono (Ydp _),s,d,N⟩
    case measure=>simp[intOf];omega
  ·have s:Hid (ZbZ 0 [] ps=none):=D.out▸ZDr (by rw[<-K.out];exact O);go_wp2;go_ret;exact⟨d,.inr ⟨rfl,s⟩⟩
open Go.RowKit LS Go.Proofs.Tryz
def Zbp(l:LB):Nat×Nat:=
 if 6000<l.length then (1,0)else match Zbh 0 [] (split 10 l)with
  | .inl i=>(5,i)
  | .inr es => match ZbZ 0 [] (split 10 l) with
    | some i=>(6,i)
    | none=>if 30<es.length∨200<ZcS es es.length then (7,0)else (0,0)
def Zei(w:World)(A:Nat->Addr)(err:Value)(r:Nat×Nat):Prop:=
 (err=.nilIface/\r=(0,0))∨
 (err=.iface 432 (.pointer (some (A 0)))/\r=(1,0))∨
 (err=.iface 432 (.pointer (some (A 6)))/\r=(7,0))∨
 (∃i fa:Nat,err=.iface 81 (Vp fa)/\r=(5,i)/\w.cell? ⟨fa,1,none⟩=some (Vi i)/\w.cell? ⟨fa,2,none⟩=some (.iface 432 (.pointer (some (A 4)))))∨
 (∃i fa:Nat,err=.iface 81 (Vp fa)/\r=(6,i)/\w.cell? ⟨fa,1,none⟩=some (Vi i)/\w.cell? ⟨fa,2,none⟩=some (.iface 432 (.pointer (some (A 5)))))
theorem Zn8{fa:Nat}{x y z:Value}{t:TypeId}(h:w.heap[fa]?=some (.cells #[x,y,z] t (0,0))):w.cell? ⟨fa,1,none⟩=some y/\w.cell? ⟨fa,2,none⟩=some z:=by
 simp[World.cell?,h]
theorem ZBI{last:Int}{k:Nat}(h:Zcq last n ps=some k):k<=n+ps.length:=by
 induction ps generalizing last n with
 | nil=>simp[Zcq]at h;omega
 | cons x xs ih=>
  unfold Zcq at h;cases a:Zdn x with
  | none=>rw[a]at h;cases h
  | some t=>
   rw[a]at h;simp only at h;split at h
   ·cases h
   ·have:=ih h;simp;omega
theorem ZBK(h:Zcz l=some n):n<=l.length+1:=by
 unfold Zcz at h;have a:=Znm 32 l;generalize ZbI 32 l=st at h a;obtain⟨r,f⟩:=st;simp only at h a;split at h
 ·have:=Yax h;omega
 ·split at h
  ·have c:=ZBI h;have d:=Zhd 32 r;omega
  ·cases h
theorem Zys{a b:LB}(h:line l=some (a,b,n)):n<=l.length+1:=by
 cases d:cut 123 l with
 | none=>rw[ZjF d]at h;cases h
 | some p=>
  obtain⟨x,r⟩:=p;cases c:cut 125 r with
  | none=>rw[ZjE d c]at h;cases h
  | some q=>
   obtain⟨y,z⟩:=q;rw[ZjG d c]at h
   have f:z.length<=l.length:=by
    rw[(Zdx d).1,(Zdx c).1];simp;omega
   split at h
   ·cases e:Zcz z with
    | none=>rw[e]at h;cases h
    | some k=>
     rw[e]at h;simp at h;have:=ZBK e;omega
   ·cases h
theorem ZqJ(h:Zbh i acc ps=.inr es)(f:∀e∈acc,e.count<=6001)(g:∀p∈ps,p.length<=6000) :
  es.length<=acc.length+ps.length/\∀e∈es,e.count<=6001:=by
 induction ps generalizing i acc with
 | nil=>
  simp only[Zbh,Sum.inr.injEq]at h;subst h;exact⟨by simp,f⟩
 | cons x xs ih=>
  unfold Zbh at h;split at h
  ·have:=ih h f (fun p d=>g p (by simp[d]));exact⟨by simp;omega,this.2⟩
  ·cases j:line x with
   | none=>rw[j]at h;cases h
   | some t=>
    obtain⟨a,b,n⟩:=t;rw[j]at h;simp only at h;have k:=g x (by simp);have l:=Zys j
    have := ih h (fun e c => by
      rcases Yar.1 c with c|c
      · exact f e c
      · simp at c;subst c;show n<=6001;omega) (fun p d=>g p (by simp[d]))
    exact⟨by have:=this.1;simp at this ⊢;omega,this.2⟩
theorem ZBr(s:BA)(A:Nat->Addr)(m:Int)(w:World)(c:Vars w A m)(d:6000<s.size)(a:s.size<=maxLen) :
  Cz 40 #[.string s] w fun e u=>∃sv err,e=.returned (.tuple #[sv,err])/\Hid (Zei u A err (1,0))/\BW w u:=by
 unfold maxLen at a;have f:=c.sent 0 Dc;go_enter func40,ntmps40;go_wp2
 go_region
 all_goals (try go_wp2)
 all_goals (go_ret2;exact⟨_,_,rfl,.inr (.inl ⟨rfl,rfl⟩),belB⟩)
def ZiM(w:World)(v:Value)(l:LB):Prop:=∃(es:List Entry) (rs:List (Value×Value×Value×Value)),Zbh 0 [] (split 10 l)=.inr es/\es.length<=30/\w.ownsRow 0 271 4 v es.length (ZbP rs)/\AllV w rs es (split 10 l)
theorem ZBt(s:BA)(A:Nat->Addr)(m:Int)(w:World)(R:Vars w A m)(hs:s.size<=6000) :
  Cz 40 #[.string s] w fun e u=>∃sv err,e=.returned (.tuple #[sv,err])/\Hid (Zei u A err (Zbp (bl s)))/\BW w u/\Hid ((Zbp (bl s)).1=0->ZiM u sv (bl s)):=by
 have q:Hid (∀x,(match Zbh 0 [] (split 10 (bl s))with
  | .inl i=>(5,i)
  | .inr es => match ZbZ 0 [] (split 10 (bl s)) with
    | some i=>(6,i)
    | none=>if 30<es.length∨200<ZcS es es.length then (7,0)else (0,0))=x->Zbp (bl s)=x):=by
  intro x hx;unfold Zbp;rw[if_neg (by rw[Zd];omega)];exact hx
 have S:(split 10 (bl s)).length<=6001:=by have:=Zhd 10 (bl s);rw[Zd]at this;omega
 have H : Hid (∀ i, i < (split 10 (bl s)).length -> ((split 10 (bl s)).getD i []).length <= 6000) := fun i hi => by
   have:=Zkd 10 (bl s) i hi;rw[Zd]at this;omega
 go_enter func40,ntmps40
 go_wp2_with fail
 refine(Znd s m hs R.max).mono ?_;rintro e y ⟨n,rfl,T,f,r⟩;have M:=hid T;have I:n<=6001:=by omega
 have U:=f.1;clear T S;have J:=R.below r
 go_wp2_with fail
 refine(ZBh n A m M I H f J).mono ?_;rintro e z ⟨t,E⟩;have K:=J.below t;have B:=r.trans (t.mono r.size);rcases E with ⟨i,fa,rfl,d,c⟩|⟨v,es,rs,rfl,g,c,V⟩
 ·obtain⟨c1,c2⟩:=Zn8 d;have N:=hid (q (5,i) (by rw[c]));have a:Hid (Zei z A (.iface 81 (Vp fa)) (Zbp (bl s))):=q.out (5,i) (by rw[c.out])▸Or.inr (Or.inr (Or.inr (Or.inl ⟨i,fa,rfl,rfl,c1,c2⟩)));clear c1 c2 d;go_wp2;go_ret2;exact⟨_,_,rfl,a,B,hid (fun h=>by rw[N]at h;cases h)⟩
 ·have j := ZqJ c.2 (fun e he => by simp at he) (fun p hp => by
    have:=Zne _ _ p hp;rw[Zd]at this;omega)
  have F:=f.below t U
  go_wp2_with fail
  refine(ZyC n A m M I H F K).mono ?_;rintro e w3 ⟨k,C⟩;have L:=K.below k;have D:=B.trans (k.mono B.size);rcases C with ⟨i,fa,rfl,d,G⟩|⟨rfl,G⟩
  ·obtain⟨c1,c2⟩:=Zn8 d;have N:=hid (q (6,i) (by rw[c.2];simp only[G.out]));have a:Hid (Zei w3 A (.iface 81 (Vp fa)) (Zbp (bl s))):=q.out (6,i) (by rw[c.2];simp only[G.out])▸Or.inr (Or.inr (Or.inr (Or.inr ⟨i,fa,rfl,rfl,c1,c2⟩)));clear c1 c2 d;go_wp2;go_ret2;exact⟨_,_,rfl,a,D,hid (fun h=>by rw[N]at h;cases h)⟩
  ·have l:=Zn g k;have W:es.length<=6001:=by have:=j.1;simp at this;have:=M.out;omega
   have HC:=hid (j.2);have a1:=ZsA _ j.2 es.length;have O:Hid (Zbp _=if 30<es.length∨200<ZcS es es.length then (7,0)else (0,0)):=q _ (by rw[c.2];simp only[G.out]);have hR:=hid (c.1);have a2:=L.sent 6 Dc;obtain⟨av,cp,rfl⟩:=Zl g;have X:=hid (c.2);have P:=hid (V.below k);clear j g c;by_cases Y:30<es.length
   ·have hd:decide (30<(es.length:Int))=true:=by simp;omega
    have a:Hid (Zbp _=(7,0)):=hid (by rw[O,if_pos (.inl Y)]);go_wp2
    go_region
    all_goals (try go_wp2)
    all_goals (go_ret2;exact⟨_,_,rfl,(a.out▸Or.inr (Or.inr (Or.inl ⟨rfl,rfl⟩))),belB,hid (fun h=>by rw[a]at h;cases h)⟩)
   ·have hd:decide (30<(es.length:Int))=false:=by simp;omega
    go_wp2_with fail
    refine(Zvm l hR HC W).mono ?_;rintro e w4 ⟨rfl,o⟩;have Z:=D.trans (o.mono D.size);have a3:=(L.below o).sent 6 Dc;by_cases Q:200<ZcS es es.length
    ·have a:Hid (Zbp _=(7,0)):=hid (by rw[O,if_pos (.inr Q)]);have a0:decide (200<(ZcS es es.length:Int))=true:=by simp;omega
     go_wp2
     go_region
     all_goals (try go_wp2)
     all_goals (go_ret2;exact⟨_,_,rfl,(a.out▸Or.inr (Or.inr (Or.inl ⟨rfl,rfl⟩))),belB,hid (fun h=>by rw[a]at h;cases h)⟩)
    ·have a:Hid (Zbp _=(0,0)):=hid (by rw[O,if_neg (by rintro(h|h) <;> omega)]);have a0:decide (200<(ZcS es es.length:Int))=false:=by simp;omega
     go_wp2;go_ret2;exact⟨_,_,rfl,(a.out▸Or.inl ⟨rfl,rfl⟩),Z,hid (fun _=>⟨es,rs,X,by omega,Zn l o,P.below o⟩)⟩
def Zd4:List (LB)->LB
 | []=>[]
 | [x]=>x
 | x::y::r=>x++44::Zd4 (y::r)
theorem ZlU(x:LB){l:List (LB)}(h:l≠[]):Zd4 (x::l)=x++44::Zd4 l:=by
 cases l with
 | nil=>simp_all
 | cons y r=>rfl
theorem Zxp{p:LB}{l:List (LB)}(h:l≠[]):Zd4 (pre p l)=p++Zd4 l:=by
 cases l with
 | nil=>simp_all
 | cons y r=>
  cases r with
  | nil=>rfl
  | cons z t=>simp[pre,Zd4]
theorem Zxr(l:LB):Zd4 (split 44 l)=l:=by
 induction l with
 | nil=>rfl
 | cons b l ih=>
  by_cases a:b=44
  ·subst a;rw[Zhc,ZlU _ (Zix _ l),ih];rfl
  ·rw[Zke _ b l (by simp[a]),Zxp (Zix _ l),ih];rfl
theorem Zxq(xs:List (LB))(x:LB)(h:xs≠[]):Zd4 (xs++[x])=Zd4 xs++44::x:=by
 induction xs with
 | nil=>simp_all
 | cons y r ih=>
  cases r with
  | nil=>rfl
  | cons z t=>
   rw[Yby,ZlU y (by simp),ih (by simp),ZlU y (by simp)];simp
def wr1(p:LB×LB):LB:=p.1++[61]++p.2
theorem ZE0(ps:List (LB×LB))(k:Nat)(d:k<=ps.length):ZfK ps k=Zd4 ((ps.take k).map wr1):=by
 induction k with
 | zero=>rfl
 | succ k ih=>
  have ih':=ih Om;have e:ps.getD k ([],[])=ps[k]:=by simp[show k<ps.length by omega]
  rw[ZfK,e,List.take_succ_eq_append_getElem Om,Yaq,Ybb,Ydg];by_cases c:0<k
  ·rw[if_pos c,Zxq _ _ (by intro h;have a:=congrArg List.length h;rw[Yak,Ya7]at a;simp only[Ybq]at a;omega),ih'];simp[wr1]
  ·obtain rfl:k=0:=by omega
   rfl
theorem ZxG{x:LB}{p:LB×LB}(h:Zd5 last x=some p):x=wr1 p:=by
 unfold Zd5 at h;cases a:cut 61 x with
 | none=>simp_all
 | some q=>
  obtain⟨n,v⟩:=q;rw[a]at h;simp only at h;split at h
  ·have:=Yax h;subst this;rw[(Zdx a).1];simp[wr1]
  ·cases h
theorem ZxJ{acc ps:List (LB×LB)}(h:ZbS last acc xs=some ps):∃qs,ps=acc++qs/\xs=qs.map wr1:=by
 induction xs generalizing last acc with
 | nil=>simp only[ZbS,Yci]at h;simp_all
 | cons x xs ih=>
  unfold ZbS at h;cases a:Zd5 last x with
  | none=>simp_all
  | some p=>
   rw[a]at h;obtain⟨qs,e1,e2⟩:=ih h;exact⟨p::qs,by simp_all,by rw[e2,Ybb,ZxG a]⟩
theorem ZE1{ps:List (LB×LB)}(h:Zcc l=some ps):ZfK ps ps.length=l:=by
 unfold Zcc at h;split at h
 ·rename_i a;have:=Yax h;subst this;rw[a];rfl
 ·obtain⟨qs,e1,e2⟩:=ZxJ h;simp at e1;subst e1;rw[ZE0 _ _ (Yac _),Ya4,<-e2,Zxr]
def ZdO(e:Entry):LB:=e.name++123::e.inside
theorem Zrf{n:LB}(h:Zx n=true):(123:UInt8)∉n:=by
 intro a;unfold Zx at h;rw[Yas]at h;have:=Ybu.1 h.1 _ a;exact absurd this Dc
theorem Zxv{e f:Entry}(d:Zx e.name=true)(g:Zx f.name=true):ZdO e=ZdO f ↔ e.name=f.name/\e.inside=f.inside:=by
 constructor
 ·intro h;have a:=Zgq _ _ e.inside (Zrf d);have c:=Zgq _ _ f.inside (Zrf g);unfold ZdO at h;rw[h,c]at a;have i:=Yax a;have:=List.append_inj h i.symm
  simp_all
 ·rintro⟨a,c⟩;unfold ZdO;simp_all
theorem Zyt{a b:LB}(h:line l=some (a,b,n)):Zx a=true/\(Zcc b).isSome=true/\Zdz l=a++123::b:=by
 cases e:cut 123 l with
 | none=>rw[ZjF e]at h;cases h
 | some p=>
  obtain⟨x,r⟩:=p;cases c:cut 125 r with
  | none=>rw[ZjE e c]at h;cases h
  | some q=>
   obtain⟨y,z⟩:=q;rw[ZjG e c]at h;split at h
   ·rename_i d;rw[Yas]at d;cases i:Zcz z with
    | none=>simp_all
    | some k=>
     rw[i]at h;simp only[Ybf,Yci,Yc5]at h;obtain⟨rfl,rfl,rfl⟩:=h;refine⟨d.1,d.2,?_⟩;have j:l=(x++123::y)++125::z:=by rw[(Zdx e).1,(Zdx c).1];simp
     have g:(125)∉x:=by
      intro m;have f:=d.1;unfold Zx at f;rw[Yas]at f;exact absurd (Ybu.1 f.1 _ m) Dc
     have o:(125)∉x++123::y:=by
      simp only[Yar,Yau,not_or];exact⟨g,by decide,(Zdx c).2⟩
     unfold Zdz;rw[j,ZoE o]
   ·cases h
def Zfk:List Entry->List Entry->Option Nat
 | _,[]=>none
 | seen,e::r=>if (seen.map ZdO).contains (ZdO e)then some e.at_ else Zfk (seen++[e]) r
theorem ZDu(h:Zbh i acc ps=.inr es):∃rest,es=acc++rest/\ZbZ i (acc.map ZdO) ps=Zfk acc rest:=by
 induction ps generalizing i acc with
 | nil=>simp only[Zbh,Sum.inr.injEq]at h;exact⟨[],by simp[h],rfl⟩
 | cons x xs ih=>
  unfold Zbh at h;unfold ZbZ;split at h
  ·simp_all
  ·rename_i d;rw[if_neg d];cases c:line x with
   | none=>simp_all
   | some t=>
    obtain⟨a,b,n⟩:=t;rw[c]at h;simp only at h;obtain⟨rest,e1,e2⟩:=ih h;refine⟨⟨i,a,b,n⟩::rest,by simp_all,?_⟩;have e:Zdz x=ZdO ⟨i,a,b,n⟩:=(Zyt c).2.2;rw[e,Zfk]
    simp_all
theorem ZDv(h:Zbh 0 [] ps=.inr es):ZbZ 0 [] ps=Zfk [] es:=by
 obtain⟨rest,e1,e2⟩:=ZDu h
 simp_all
def serE(P:List (LB))(e:Entry):Ser:=⟨e.name,(Zcc e.inside).getD [],Zdo (P.getD e.at_ [])⟩
def Ze6(l:LB):List Ser:=match Zbh 0 [] (split 10 l)with
 | .inr es=>es.map (serE (split 10 l))
 | .inl _=>[]
theorem ZBM:∀x∈Zdo l,smOk x:=by
 intro x a;unfold Zdo at a;split at a
 ·rename_i b _;cases hd:l.drop (b+1)with
  | nil=>rw[hd]at a;cases a
  | cons c t=>
   rw[hd]at a;obtain⟨y,_,rfl⟩:=Ybe.1 a;exact ZCr y
 simp_all
theorem Zoa{α:Type}(Q:Nat->α->Prop):∀n:Nat,(∀j,j<n->∃z,Q j z)->∃zs:List α,zs.length=n/\∀j (h:j<zs.length),Q j zs[j]
 | 0,_=>⟨[],rfl,fun j h=>absurd h (Ya1 _)⟩
 | n + 1, h => by
   obtain⟨zs,c,f⟩:=Zoa Q n (fun j a=>h j Om);obtain⟨z,g⟩:=h n Om;refine⟨zs++[z],by simp[c],fun j a=>?_⟩;by_cases d:j<zs.length
   · simp_all
   · have e:j=zs.length:=by simp at a;omega
     simp_all
theorem ZoQ : ∀ (rest seen : List Entry), Zfk seen rest = none -> (rest.Pairwise fun a b => ZdO a ≠ ZdO b) /\ ∀ e ∈ rest, ∀ s ∈ seen, ZdO s ≠ ZdO e
  | [],_,_=>⟨List.Pairwise.nil,fun _ h=>by cases h⟩
  | e :: rest, seen, h => by
    unfold Zfk at h;split at h
    · cases h
    · rename_i c
      obtain⟨d,f⟩:=ZoQ _ _ h
      simp_all
theorem Ztn{ps:List Lab}(h:Zcc l=some ps):wrt ps=l:=by
 have:=ZE1 h
 rwa [Ztm _ _ (Yac _),Ya4]at this
def TimP(w':World)(f l s:Int)(ft:Addr)(tv ev:Value):Prop:=(Zdr f l s=none/\tv=.slice none 0 0/\ev=.iface 432 (.pointer (some ft)))∨(∃ts,Zdr f l s=some ts/\ts.length<=50/\(∀t∈ts,-1000000<=t/\t<=1000000)/\ev=.nilIface/\w'.ownsRow 0 3 1 tv ts.length (ts.map (Value.int .i64)))
theorem ZyO(n:Nat):(madeCells #[Value.int .i64 0] n).toList=List.replicate n (Value.int .i64 0):=by
 refine List.ext_getElem (by simp[madeCells]) (fun i a c=>?_);simp[madeCells,Nat.mod_one]
theorem ZrI(f l s:Int){ft:Addr}(w:World)(G:w.cell? ⟨7,0,none⟩=some (.iface 432 (.pointer (some ft)))) :
  Cz 41 #[.agg #[Vi f,Vi l,Vi s]] w fun e u=>∃tv ev,e=.returned (.tuple #[tv,ev])/\Hid (TimP u f l s ft tv ev)/\BW w u:=by
 obtain⟨i0,U,H,I,J⟩:=info_parts Tryz.infoInt3;have K:7<w.heap.size:=Yai _ _ G;have D:∀o,(w.alloc o).cell? ⟨7,0,none⟩=some _:=fun o=>by rwa [Ybm _ _ _ K]
 by_cases j:badT f l s
 ·have n:Hid (∀u,TimP u f l s ft _ _):=hid (fun u=>.inl ⟨by unfold Zdr;rw[if_pos j],rfl,rfl⟩);by_cases c1:(-1000000<=f/\f<=1000000)
  ·obtain⟨d1,d2⟩:=c1;by_cases c2:(-1000000<=l/\l<=1000000)
   ·obtain⟨d3,d4⟩:=c2;by_cases c3:l<f
    ·clear j;go_enter func41,ntmps41
     go_wp2_with (go_at_call 90;refine(Zf9).mono ?_;rintro e u ⟨rfl,rfl⟩)
     go_region
     all_goals (try go_wp2)
     all_goals (go_ret2;exact⟨_,_,rfl,hid (n _),belB⟩)
    ·by_cases c4:s<1
     ·clear j;go_enter func41,ntmps41
      go_wp2_with (go_at_call 90;refine(Zf9).mono ?_;rintro e u ⟨rfl,rfl⟩)
      go_region
      all_goals (try go_wp2)
      all_goals (go_ret2;exact⟨_,_,rfl,hid (n _),belB⟩)
     ·have c5:1000000<s:=by unfold badT at j;omega
      clear j;go_enter func41,ntmps41
      go_wp2_with (go_at_call 90;refine(Zf9).mono ?_;rintro e u ⟨rfl,rfl⟩)
      go_region
      all_goals (try go_wp2)
      all_goals (go_ret2;exact⟨_,_,rfl,hid (n _),belB⟩)
   ·have c3:(decide (-1000000<=l) && decide (l<=1000000))=false:=by simp;omega
    clear j c2;go_enter func41,ntmps41
    go_wp2_with (go_at_call 90;refine(Zf9).mono ?_;rintro e u ⟨rfl,rfl⟩)
    go_region
    all_goals (try go_wp2)
    all_goals (go_ret2;exact⟨_,_,rfl,hid (n _),belB⟩)
  ·have c3:(decide (-1000000<=f) && decide (f<=1000000))=false:=by simp;omega
   clear j c1;go_enter func41,ntmps41
   go_wp2_with (go_at_call 90;refine(Zf9).mono ?_;rintro e u ⟨rfl,rfl⟩)
   go_region
   all_goals (try go_wp2)
   all_goals (go_ret2;exact⟨_,_,rfl,hid (n _),belB⟩)
 ·have E:=hid (ZsN j);have L : -1000000<=f/\f<=1000000/\-1000000<=l/\l<=1000000/\1<=s/\s<=1000000/\f<=l:=by unfold badT at j;omega
  obtain⟨d1,d2,d3,d4,d5,d6,d7⟩:=L;clear j;obtain⟨m,v⟩:∃m:Nat,(l - f).tdiv s=(m):=⟨((l - f).tdiv s).toNat,by have:=Int.tdiv_nonneg (a:=l - f) (b:=s) Om Om;omega⟩
  have x:cnt l s f=m+1:=by
   unfold cnt;rw[if_pos d7,<-Yes Om,v];omega
  have Z:m<=2000000:=by
   have c:((l - f).tdiv s).natAbs<=(l - f).natAbs:=by rw[Yff];exact Yfg _ _
   rw[v]at c;omega
  rw[x]at E;have a0:(s == 0)=false:=by rw[beq_eq_false_iff_ne];omega
  have M:s≠0:=by omega
  clear x;by_cases y:50<m+1
  ·have n:Hid (∀u,TimP u f l s ft _ _):=hid (fun u=>.inl ⟨by rw[E,if_pos y],rfl,rfl⟩);have N:(50:Int)<(m)+1:=by omega
   go_enter func41,ntmps41
   go_wp2_with (go_at_call 90;refine(Zf9).mono ?_;rintro e u ⟨rfl,rfl⟩)
   go_region
   all_goals (try go_wp2)
   all_goals (go_ret2;exact⟨_,_,rfl,hid (n _),belB⟩)
  ·have n:Hid (Zdr f l s=some _):=hid (by rw[E,if_neg y]);have N:(m:Int)+1<=50:=by omega
   have A : Hid (∀ i, i < m + 1 -> -1000000 <= f + (i) * s /\ f + (i) * s <= 1000000) := hid (fun i B => by
     have c:(i)*s<=(m)*s:=Int.mul_le_mul_of_nonneg_right Om Om
     have h2:(m)*s<=l - f:=by
       rw[<-v,Yes Om];exact Int.ediv_mul_le _ M
     have h3:0<=(i)*s:=Int.mul_nonneg Om Om;omega)
   go_enter func41,ntmps41
   go_wp2_with (first
     | (go_at_call 90;refine(Zf9).mono ?_;rintro e u ⟨rfl,rfl⟩)
     | (at_make;refine wpList_make_full _ rfl _ _ 54 rfl w.heap.size 3 i0 _ 1 underlying54 U H I _ _ _ _ (m+1) rfl rfl ?e1 ?e2 ?b2 ?b3 ?b4 ?_))
   case e1=>rfl
   case e2=>rfl
   case b2=>rw[J];omega
   case b3=>unfold maxLen;omega
   case b4=>simp
   rw[ZyO];intro z p d;have O:Hid (BAt _ _ _ 23):=hid ((d.block _ (by simp) (by simp)).trans bnw);have P:=hid (Zbal.grown d (by simp) (fun q V=>by cases V));clear d v D;have W:=Z1 p;go_wp2
   go_loopw [50] (fun i wr => ∃ k : Nat, k <= m + 1 /\ i = Vi k /\ Hid (wr.ownsRow w.heap.size 3 1 (.slice (some ⟨w.heap.size + 1, 0, none⟩) (m + 1) (m + 1)) (m + 1) ((List.range k).map (fun (i : Nat) => Value.int .i64 (f + (i : Int) * s)) ++ List.replicate (m + 1 - k) (Value.int .i64 0))) /\ Hid (BAt wr w.heap.size [Vi f, Vi l, Vi s] 23) /\ Hid (BW w wr))
     (fun i _=>m+1 - (intOf i).toNat)
   case atStart=>exact⟨0,Yag _,rfl,hid (by simpa using p),O,P⟩
   case round=>
    obtain⟨k,hk,rfl,r,F,Q⟩:=hrel;by_cases C:k<m+1
    ·have x0:=F.cell 0;have x2:=F.cell;simp only[Zget]at x0;have a1:=A k C;have a2:0<=(k)*s:=Int.mul_nonneg Om Om
     have a3:(Go.IntKind.i64).wrap ((k)*s)=(k)*s:=by
      generalize(k:Int)*s=ks at *
      rw[Ybo];omega
     have a4:(Go.IntKind.i64).wrap (f+(k)*s)=f+(k)*s:=by
      generalize(k:Int)*s=ks at *
      rw[Ybo];omega
     have T:wr.cell? ⟨w.heap.size+1,k,none⟩=some _:=Zi r _ (by rw[Yb3 (by simp),Yak,List.length_range,Yfw,Ybs,if_pos Om])
     have a5:wr.frozen? ⟨w.heap.size+1,k,none⟩=false:=by
      rcases r.2 with ⟨h,_⟩|⟨g,cap,cur,h,_,X,_⟩
      ·cases h
      ·injection h with c;injection c with c;injection c with c;subst c;simp[World.frozen?,X]
     have a6:(k:Int)<(m)+1:=by omega
     have R : Hid ((wr.setCell ⟨w.heap.size + 1, k, none⟩ (Vi (f + (k) * s))).ownsRow w.heap.size 3 1 (.slice (some ⟨w.heap.size + 1, 0, none⟩) (m + 1) (m + 1)) (m + 1) ((List.range (k + 1)).map (fun (i : Nat) => Value.int .i64 (f + (i) * s)) ++ List.replicate (m + 1 - (k + 1)) (Value.int .i64 0))) := by
       have:=ZmD r k (Vi (f+(k)*s));rw[ZB6 k C]at this;exact this
     go_wp2
     go_roundw
     case rel=>exact⟨k+1,by omega,by go_num,R,hid (F.other (by show w.heap.size≠w.heap.size+1;omega) _),hid (Q.setCell (by show w.heap.size<=w.heap.size+1;omega) _)⟩
     case measure=>simp[intOf];omega
    ·obtain rfl:k=m+1:=by omega
     have S : Hid (TimP _ f l s ft _ _) := hid (.inr ⟨_, n, by simp; omega, fun t Y => by
       obtain⟨i,B,rfl⟩:=Ybe.1 Y;exact A i (Yb9.1 B),rfl,by
       have c:=r.out;rw[Yfw,List.replicate_zero,Yca]at c;rw[Yak,List.length_range,Yb1];exact c.mono (Yag _)⟩)
     go_wp2;go_ret2;exact⟨_,_,rfl,S,Q⟩
theorem BAt.alloc{a:Nat}{c:List Value}{t:TypeId}(h:BAt w a c t)(o:Obj):BAt (w.alloc o) a c t:=h.below Zbal
def Zcn:List (LB)->LB
 | []=>[]
 | [a]=>a
 | a::b::l=>a++10::Zcn (b::l)
def Zeu(st:List Ser)(t:Tr)(tm:Int):LB:=Zel tm (sayT st tm t)
def ZdK(q s:LB)(f l st:Int):LB×Nat×Nat:=match ZD q with
 | .error x=>([],x.1,x.2)
 | .ok t => if (Zbp s).1 ≠ 0 then ([], (Zbp s).1, (Zbp s).2) else match Zdr f l st with
   | none=>([],8,0)
   | some ts=>(Zcn (ts.map (Zeu (Ze6 s) t)),0,0)
