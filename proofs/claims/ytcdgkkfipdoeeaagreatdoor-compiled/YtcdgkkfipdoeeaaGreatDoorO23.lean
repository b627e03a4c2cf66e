/- Parts. -/
import Derived.Test.YtcdgkkfipdoeeaaGreatDoorO22
import Derived.Test.YtcdgkkfipdoeeaaGreatDoorO20
set_option linter.all false
set_option maxRecDepth 100000
set_option maxHeartbeats 16000000
namespace Go.Proofs.YtcdgkkfipdoeeaaGreatDoor
open Go.RowKit LS Go.Proofs.Tryz
variable {v:Int}{l nm q:LB}{ns:List (LB)}{cs:List Cnd}{s2 sl' st st':List Nat}{jx:List Nq}{ts:List Tok}{arg k n op r:Nat}{p xx:Nat×Nat}{x:Nd×Nat}{z:Nq}{t:Tr}{c:UInt8}
section
section
variable {st:List Ser} {tm:Int} {F g:Gq} {n i:Nat} {t:Tr}
def SelV(x:Nd×Nat):Prop:=ZbA (ZI x)=some x
def GrpV(ns:List (LB)):Prop:=ZcG (commas ns)=some ns
def TrV:Tr->Prop
 | .nil=>True
 | .node _ _ a l r=>(a.jk=1->SelV (Zba a,0))/\(a.jk=2->SelV (Zba a,a.n.toNat))/\(a.jk=5->GrpV (Z6 a.by_))/\TrV l/\TrV r
structure TabV (g:Gq):Prop where
 se:∀x∈g.kw,SelV x
 gr:∀x∈g.qx,GrpV x
theorem ZeA(h:TabV g):TabV (addQ z g).2:=by unfold addQ;split <;> exact⟨h.se,h.gr⟩
theorem ZrH{l l':List (Nd×Nat)}(h:l <+: l')(a:i<l.length):l'.getD i nd00=l.getD i nd00:=by
 obtain⟨t,rfl⟩:=h;rw[Yaa,Yaa,Ybr a]
theorem ZrG{l l':List (List (LB))}(h:l <+: l')(a:i<l.length):l'.getD i []=l.getD i []:=by
 obtain⟨t,rfl⟩:=h;rw[Yaa,Yaa,Ybr a]
theorem ZlN{α:Type}{z:LB}{h:α->LB}{d:α} : ∀ {l:List α} {i:Nat},idx z (l.map h)=some i->i<l.length/\h (l.getD i d)=z
 | [],_,q=>by cases q
 | y :: l, i, q => by
   rw[Ybb]at q;unfold idx at q;split at q
   · rename_i e;injection q with q;subst q;simp_all
   · rw[Ybk]at q
     obtain⟨j,a,c⟩:=q;subst c;obtain⟨q1,q2⟩:=ZlN (d:=d) a
     simp_all
theorem ZpE{α:Type}{l:List α}{d:α}(h:i<l.length):l.getD i d∈l:=by
 simp_all
theorem ZrC(o:SelV x)(k:TabV g)(f:Px (ZJ x g).2 F):TabV (ZJ x g).2/\∃i,i<F.kw.length/\(ZJ x g).2.jx.getD (ZJ x g).1 nq0=⟨1,(i:Nat),none,none⟩/\F.kw.getD i nd00=x/\(∀y,g.jx.length<=y->y<(ZJ x g).2.jx.length->(ZJ x g).2.jx.getD y nq0=⟨1,(i:Nat),none,none⟩):=by
 have new : ∀ (z : Nq) (g : Gq), ∀ y, g.jx.length <= y -> y < (addQ z g).2.jx.length -> (addQ z g).2.jx.getD y nq0 = z := fun z g y c l => by
   rcases ZkD z g with ⟨i,_,_,e⟩|⟨_,e⟩
   · simp_all;omega
   simp_all
 unfold ZJ at f ⊢;cases m:idx (ZI x) (g.kw.map ZI)with
 | some i=>
  rw[m]at f;obtain⟨c,l⟩:=ZlN (d:=nd00) m;have a:=((ZcD _ _).trans f).se
  have r:g.kw.getD i nd00=x:=by
   have j:=k.se _ (ZpE (d:=nd00) c);unfold SelV at j o;rw[l,o]at j;injection j with j;exact j.symm
  exact⟨ZeA k,i,Yaw c a.length_le,(Zhr _ _).1,by rw[ZrH a c];exact r,new _ _⟩
 | none=>
  rw[m]at f
  have p : TabV { g with kw := g.kw ++ [x] } := ⟨fun y s => by
    rcases Yar.1 s with h|h
    · exact k.se y h
    simp_all,k.gr⟩
  have a:g.kw++[x] <+: F.kw:=((ZcD _ _).trans f).se;have q:g.kw.length<(g.kw++[x]).length:=by simp
  exact⟨ZeA p,g.kw.length,Yaw q a.length_le,(Zhr _ _).1,by rw[ZrH a q];simp,fun y c l=>new _ { g with kw:=g.kw++[x] } y c l⟩
theorem Zzk (z : Nq) (g : Gq) : ∀ y, g.jx.length <= y -> y < (addQ z g).2.jx.length -> (addQ z g).2.jx.getD y nq0 = z := fun y a c => by
  rcases ZkD z g with ⟨i,_,_,e⟩|⟨_,e⟩
  · simp_all;omega
  simp_all
theorem ZwE(l:GrpV (Z6 ns))(e:TabV g)(a:Px (Zbd ns g).2 F):TabV (Zbd ns g).2/\(Zbd ns g).1<F.qx.length/\F.qx.getD (Zbd ns g).1 []=Z6 ns:=by
 unfold Zbd at a ⊢;cases j:idx (commas (Z6 ns)) (g.qx.map commas)with
 | some i=>
  rw[j]at a;obtain⟨k,o⟩:=ZlN (d:=[]) j
  have p:g.qx.getD i []=Z6 ns:=by
   have c:=e.gr _ (ZpE (d:=[]) k);unfold GrpV at c l;rw[o,l]at c;injection c with c;exact c.symm
  exact⟨e,Yaw k a.gr.length_le,ZrG a.gr k▸p⟩
 | none=>
  rw[j]at a;have f:g.qx++[Z6 _] <+: F.qx:=a.gr;have m:g.qx.length<(g.qx++[Z6 ns]).length:=by simp
  refine⟨⟨e.se,fun y q=>?_⟩,Yaw m f.length_le,by rw[ZrG f m];simp⟩;rcases Yar.1 q with h|h
  ·exact e.gr y h
  simp_all
theorem Zxu(l:List Lab)(ns:List (LB)):ZB l (Z6 ns)=ZB l ns:=by
 unfold ZB
 congr 1
 funext p
 rw[Ybh,Ydk,Ydk];exact Zi0 _ _
theorem ZnG{all:List El}:∀(l pre:List El),ZcF op (Z6 ns) all pre l=ZcF op ns all pre l
 | [],_=>rfl
 | e :: l, pre => by
   unfold ZcF;rw[ZnG l _];simp only[Zxu]
theorem ZwG(op:Nat)(ns:List (LB))(l:List El):Zcv op (Z6 ns) l=Zcv op ns l:=by unfold Zcv;rw[ZnG]
def WtA(F g:Gq):Prop:=∀y,y<g.jx.length->WTn F (g.jx.getD y nq0)
structure Sem (F g':Gq) (r:Nat) (t:Tr):Prop where
 tab:TabV g'
 kd:kd F r=Zf t
 wt:WtA F g'
 ev:WG F->∀st tm,Go.Proofs.YtcdgkkfipdoeeaaGreatDoor.ev st tm F r=.inl (sayT st tm t)
theorem ZfR(a:Px g F)(c:r<g.jx.length)(h:g.jx.getD r nq0=z):At F r z:=by unfold At;rw[Zg3 a.nd c];exact h
theorem ZfL  (h : WtA F g) (c : WTn F z) : WtA F (addQ z g).2 := fun y d => by
  rcases Yav y g.jx.length with a|a
  · rw[Zg3 (ZcD z g).nd a];exact h y a
  · rw[Zzk z g y a d];exact c
theorem Zsk(h:WtA F g)(a:Px g F)(c:n<g.jx.length):∀m,m<=n->Shp F m:=fun m d=>Zna (by rw[Zg3 a.nd Om];exact h m Om)
theorem Zet(t:Tr):Zf t<=2:=by
 induction t with
 | nil=>decide
 | node x y a l r c d=>
  unfold Zf;split
  ·omega
  ·split
   ·omega
   ·split
    ·omega
    ·split
     ·split<;>simp
     ·split
      ·omega
      split<;>simp
theorem ZdV(z:Nq)(g:Gq):(addQ z g).1<(addQ z g).2.jx.length:=(Zdu z g).2
theorem ZcU(a:Px (addQ z g).2 F):At F (addQ z g).1 z:=ZfR a (ZdV z g) (Zhr z g).1
theorem Zl4(h:Zco n g=some v)(c:WtA F g)(d:n<g.jx.length):g.jx.getD n nq0=⟨0,v,none,none⟩/\vOk v:=by
 have j:=Zie h;have f:=c n d;unfold Zco at h;split at h
 ·rename_i e;generalize g.jx.getD n nq0=z at *
  cases f using WTn.ind with
  | con u l=>simp_all
  | pick i _=>simp_all
  | over o p _ _=>simp_all
  | ar o a b _ _ _=>simp_all
  | neg p _=>simp_all
  | grp o k p _ _ _=>simp_all
  | or a b _ _=>simp_all
 ·cases h
theorem ZmP{t:Tr}(h:k=Zf t)(a:Zf t≠0):pln k:=by
 have:=Zet t;unfold pln;omega
theorem ZAl(m:NOk F.jx)(h:GT t):∀g,TrV t->Zf t≠0->TabV g->WtA F g->Px (Zb t g).2 F->Sem F (Zb t g).2 (Zb t g).1 t/\(Zb t g).1<(Zb t g).2.jx.length:=by
 induction h using GT.ind with
 | num v z=>
  intro g hT x j k a;have e:Zb (Zbg ⟨0,0,(v:Int),[],[],[]⟩) g=addQ ⟨0,(v:Int),none,none⟩ g:=rfl;rw[e]at a ⊢;have c:=ZcU a;exact⟨⟨ZeA j,Zfp c,ZfL k (.con _ ⟨by omega,by omega⟩),fun _ st tm=>Zf1 c⟩,ZdV _ _⟩
 | sel nm cs hs=>
  intro g hT x j k a;have e:Zb (Zbg ⟨1,0,0,nm,cs,[]⟩) g=ZJ (Zba ⟨1,0,0,nm,cs,[]⟩,0) g:=rfl;have z:=hT.1 rfl;rw[e]at a ⊢;obtain⟨q1,i,q2,q3,q4,q5⟩:=ZrC z j a;have A:=(Zgk (Zba ⟨1,0,0,nm,cs,[]⟩,0) g).2;have c:=ZfR a A q3;refine⟨⟨q1,by rw[Zjq c,q4];rfl,fun y W=>?_,fun _ st tm=>by rw[Zlv c,q4];rfl⟩,A⟩;rcases Yav y g.jx.length with f|f
  ·rw[Zg3 (ZjW).nd f];exact k y f
  ·rw[q5 y f W];exact .pick i q2
 | win o v nm cs H a4 a5 hs=>
  intro g hT x j k a;have e:Zb (Zbg ⟨2,o,(v:Int),nm,cs,[]⟩) g=addQ ⟨2,(o:Nat),some (ZJ (Zba ⟨2,o,(v:Int),nm,cs,[]⟩,v) g).1,none⟩ (ZJ (Zba ⟨2,o,(v:Int),nm,cs,[]⟩,v) g).2:=rfl;have z:SelV (Zba ⟨2,o,(v:Int),nm,cs,[]⟩,v):=hT.2.1 rfl;rw[e]at a ⊢;have B:=(ZcD _ _).trans a;obtain⟨q1,i,q2,q3,q4,q5⟩:=ZrC z j B;have A:=(Zgk (Zba ⟨2,o,(v:Int),nm,cs,[]⟩,v) g).2;have c:=ZfR B A q3
  have I : WtA F (ZJ (Zba ⟨2, o, (v : Int), nm, cs, []⟩, v) g).2 := fun y W => by
    rcases Yav y g.jx.length with f|f
    · rw[Zg3 (ZjW).nd f];exact k y f
    · rw[q5 y f W];exact .pick i q2
  have hb:=ZcU a;have a0:kd F (ZJ (Zba ⟨2,o,(v:Int),nm,cs,[]⟩,v) g).1=3:=by rw[Zjq c,q4];unfold Zb3;rw[if_pos Om]
  refine⟨⟨ZeA q1,Zl0 hb,ZfL I (.over o _ H a0),fun d st tm=>?_⟩,ZdV _ _⟩
  have e2:ev st tm F (ZJ (Zba ⟨2,o,(v:Int),nm,cs,[]⟩,v) g).1=.inr ((Zba ⟨2,o,(v:Int),nm,cs,[]⟩),v):=by
   rw[Zlv c,q4];unfold Zdl;rw[if_pos Om]
  rw[Zo7 m d hb,e2];rfl
 | neg l A ih=>
  intro g hT x j k a;have e:Zb (.node 0 0 (nd0 3 0) l .nil) g=negQ (Zb l g).1 (Zb l g).2:=rfl;have C:Zf (.node 0 0 (nd0 3 0) l .nil)=Zf l:=rfl;have P:Zf l≠0:=x;rw[e]at a ⊢;obtain⟨q,J⟩:=ih g hT.2.2.2.1 P j k ((Zmo).trans a);generalize Zb l g=p at *
  unfold negQ at a ⊢;cases X:Zco p.1 p.2 with
  | some v=>
   rw[X]at a;obtain⟨k1,k2⟩:=Zl4 X q.wt J;have D:Px (addQ ⟨0,-v,none,none⟩ p.2).2 F:=a;have hc:=ZfR ((ZcD _ _).trans D) J k1;have c:=ZcU D;refine⟨⟨ZeA q.tab,?_,ZfL q.wt (.con _ ⟨by have:=k2.2;omega,by have:=k2.1;omega⟩),fun d st tm=>?_⟩,ZdV _ _⟩
   ·show kd F (addQ ⟨0,-v,none,none⟩ p.2).1=_;rw[Zfp c,C,<-q.kd,Zfp hc]
   ·show ev st tm F (addQ ⟨0,-v,none,none⟩ p.2).1=_;have f:=q.ev d st tm;rw[Zf1 hc]at f;injection f with f;rw[Zf1 c];show _=Sum.inl (negV (sayT st tm l));rw[<-f];rfl
  | none=>
   rw[X]at a;have D:Px (addQ ⟨4,0,some p.1,none⟩ p.2).2 F:=a;have c:=ZcU D;have E:=ZfL q.wt (.neg p.1 (ZmP q.kd P));refine⟨⟨ZeA q.tab,?_,E,fun d st tm=>?_⟩,ZdV _ _⟩
   ·show kd F (addQ ⟨4,0,some p.1,none⟩ p.2).1=_;rw[ZlY m (Zsk E D (ZdV _ _)) c,q.kd,C]
   ·show ev st tm F (addQ ⟨4,0,some p.1,none⟩ p.2).1=_;rw[Zo5 m d c,q.ev d st tm];rfl
 | grp o ns l H a6 A ih=>
  intro g hT x j k a;have e:Zb (.node 0 0 ⟨5,o,0,[],[],ns⟩ l .nil) g=addQ ⟨5+o,((Zbd ns (Zb l g).2).1:Nat),some (Zb l g).1,none⟩ (Zbd ns (Zb l g).2).2:=rfl
  have a1:Zf l=2:=by
   by_cases G:Zf l=2
   ·exact G
   ·exact absurd (show Zf (.node 0 0 ⟨5,o,0,[],[],ns⟩ l .nil)=0 from if_neg G) x
  rw[e]at a ⊢;have B:=(ZcD _ _).trans a;obtain⟨q,J⟩:=ih g hT.2.2.2.1 Om j k ((ZlF).trans B);have z:GrpV (Z6 ns):=hT.2.2.1 rfl;have a2:=(Zje ns (Zb l g).2).2.2;generalize Zb l g=p at *
  obtain⟨t1,t2,t3⟩:=ZwE z q.tab B;generalize Zbd ns p.2=w at *
  have c:=ZcU a;have I:WtA F w.2:=by unfold WtA;rw[a2];exact q.wt
  refine⟨⟨ZeA t1,?_,ZfL I (.grp o w.1 p.1 H t2 (q.kd.trans a1)),fun d st tm=>?_⟩,ZdV _ _⟩
  ·rw[ZlX c];show 2=if Zf l=2 then 2 else 0
   simp_all
  ·rw[Zo4 m d c H,t3,q.ev d st tm,ZwG];rfl
 | bin o l r H A hr K L=>
  intro g hT x j k a;have e:Zb (.node 0 0 (nd0 4 o) l r) g=Zbs o (Zb l g).1 (Zb r (Zb l g).2).1 (Zb r (Zb l g).2).2:=rfl;have M:Zf (.node 0 0 (nd0 4 o) l r)=if Zf l=0∨Zf r=0∨((4:Nat)=6/\Zf l+Zf r≠4)then 0 else if Zf l+Zf r=2 then 1 else 2:=rfl
  have C:Zf l≠0:=fun h=>x (by simp_all);have Q:Zf r≠0:=fun h=>x (by simp_all)
  have N:Zf (.node 0 0 (nd0 4 o) l r)=if Zf l+Zf r=2 then 1 else 2:=by
   rw[M,if_neg (fun h=>by omega)]
  have b1:=Zet l;have b2:=Zet r;rw[e]at a ⊢;have s:=(ZmG).trans a;obtain⟨ql,R⟩:=K g hT.2.2.2.1 C j k ((Zfw _ _).trans s);have S:=Zfw r (Zb l g).2;generalize Zb l g=p at *
  obtain⟨qr,O⟩:=L p.2 hT.2.2.2.2 Q ql.tab ql.wt s;generalize Zb r p.2=q at *
  have T:p.1<q.2.jx.length:=Yaw R S.nd.length_le;by_cases a3:∃u v,Zco p.1 q.2=some u/\Zco q.1 q.2=some v
  ·obtain⟨u,v,Y,z⟩:=a3;obtain⟨k1,k2⟩:=Zl4 Y qr.wt T;obtain⟨k3,k4⟩:=Zl4 z qr.wt O;have e2:Zbs o p.1 q.1 q.2=addQ ⟨0,twoV o u v,none,none⟩ q.2:=by unfold Zbs;rw[Y,z];rfl
   rw[e2]at a ⊢;have U:=ZfR s T k1;have V:=ZfR s O k3;have c:=ZcU a;refine⟨⟨ZeA qr.tab,?_,ZfL qr.wt (.con _ (Zhj o u v k2)),fun d st tm=>?_⟩,ZdV _ _⟩
   ·rw[Zfp c,N,<-ql.kd,<-qr.kd,Zfp U,Zfp V];rfl
   ·have f:=ql.ev d st tm;have G:=qr.ev d st tm;rw[Zf1 U]at f;rw[Zf1 V]at G;injection f with f;injection G with G;rw[Zf1 c];show _=Sum.inl (Zdg o (sayT st tm l) (sayT st tm r));rw[<-f,<-G];rfl
  ·have e2:Zbs o p.1 q.1 q.2=addQ ⟨3,(o:Nat),some p.1,some q.1⟩ q.2:=by
    unfold Zbs;cases Y:Zco p.1 q.2 with
    | none=>rfl
    | some u=>
     simp_all
   rw[e2]at a ⊢;have c:=ZcU a;have E:=ZfL qr.wt (.ar o p.1 q.1 H (ZmP ql.kd C) (ZmP qr.kd Q));refine⟨⟨ZeA qr.tab,?_,E,fun d st tm=>?_⟩,ZdV _ _⟩
   ·rw[ZlW m (Zsk E a (ZdV _ _)) c,ql.kd,qr.kd,N];by_cases G:Zf l+Zf r=2
    ·simp_all;omega
    simp_all;omega
   ·rw[Zo2 m d c,ql.ev d st tm,qr.ev d st tm];rfl
 | or l r A hr K L=>
  intro g hT x j k a;have e:Zb (.node 0 0 (nd0 6 0) l r) g=addQ ⟨10,0,some (Zb l g).1,some (Zb r (Zb l g).2).1⟩ (Zb r (Zb l g).2).2:=rfl;have M:Zf (.node 0 0 (nd0 6 0) l r)=if Zf l=0∨Zf r=0∨((6:Nat)=6/\Zf l+Zf r≠4)then 0 else if Zf l+Zf r=2 then 1 else 2:=rfl
  have b1:=Zet l;have b2:=Zet r
  have Z:Zf l=2/\Zf r=2:=by
   by_cases Z:Zf l+Zf r=4
   ·omega
   ·simp_all
  rw[e]at a ⊢;have s:=(ZcD _ _).trans a;obtain⟨ql,R⟩:=K g hT.2.2.2.1 Om j k ((Zfw _ _).trans s);have S:=Zfw r (Zb l g).2;generalize Zb l g=p at *
  obtain⟨qr,O⟩:=L p.2 hT.2.2.2.2 Om ql.tab ql.wt s;generalize Zb r p.2=q at *
  have c:=ZcU a;refine⟨⟨ZeA qr.tab,?_,ZfL qr.wt (.or p.1 q.1 (ql.kd.trans Z.1) (qr.kd.trans Z.2)),fun d st tm=>?_⟩,ZdV _ _⟩
  ·rw[ZlZ c,M,if_neg Om,if_neg Om]
  ·rw[Zo6 m d c,ql.ev d st tm,qr.ev d st tm];show(if (Zcm (sayT st tm l)).isEmpty=true then Sum.inl (sayT st tm r)else Sum.inl (sayT st tm l))=Sum.inl (if (Zcm (sayT st tm l)).isEmpty=true then sayT st tm r else sayT st tm l);split <;> rfl
end
end
section
def tk(t:Tok):Nat:=if t.jk=3 then t.txt.length+2 else t.txt.length
def tl:List Tok->Nat
 | []=>0
 | t::r=>tk t+tl r
theorem Zyg{j:Nat}{r:LB}(h:l.drop j=c::r):tk (lexC l j c r).1+j<=(lexC l j c r).2:=by
 have d:j<=l.length:=by
  rcases Yav l.length j with a|a
  ·rw[Yfl Om]at h;cases h
  ·exact a
 unfold lexC tk;split
 ·split <;> simp <;> omega
 ·split
  ·split <;> simp <;> omega
  ·split
   ·split
    ·simp_all
    ·split <;> simp <;> omega
   ·split
    ·simp;omega
    ·split <;> simp <;> omega
theorem Zya(l:LB)(i:Nat):tk (Zk l i).1+i<=(Zk l i).2:=by
 unfold Zk lexJ;split
 ·simp[tk]
 ·rename_i c r h;have:=Zyg h;omega
theorem ZqD(l:LB):∀(n i:Nat),i<=l.length->tl (ZN l n i)+i<=l.length
 | 0,i,h=>by show 0+i<=_;omega
 | n + 1, i, a => by
   have c:=Zya l i;have hg:=Zig l i a;unfold ZN;split
   · show tk _+0+i<=_
     omega
   · have d:=ZqD l n _ hg.2
     show tk _+tl _+i<=_;omega
theorem Zfa(ts:List Tok):tk (hd ts)+tl ts.tail=tl ts:=by
 cases ts with
 | nil=>rfl
 | cons t r=>rfl
theorem Zjl{s:LB}{t:Tok}(h:isT s t=true):tk t=s.length:=by
 unfold isT at h;rw[Yas,beq_iff_eq]at h;unfold tk
 simp_all;omega
theorem Zed{c:LB}{z:Unit×List Tok}(h:Zq c ts=.ok z):tl z.2+c.length=tl ts:=by
 unfold Zq at h;split at h
 ·rename_i e;injection h with h;subst h;have:=Zfa ts;rw[Zjl e]at this
  simp_all;omega
 ·cases h
theorem Zkm{z:LB×List Tok}(h:ZH k ts=.ok z):tl z.2+z.1.length+(if k=3 then 2 else 0)=tl ts:=by
 unfold ZH at h;split at h
 ·rename_i e;injection h with h;subst h;have:=Zfa ts;unfold tk at this;rw[e]at this;show tl ts.tail+(hd ts).txt.length+_=_;split at this
  ·simp_all;omega
  simp_all;omega
 ·cases h
theorem ZDg{z:Cnd×List Tok}(h:ZV ts=.ok z):tl z.2+(Z8 z.1).length=tl ts:=by
 unfold ZV at h;obtain⟨a,t1,f,h⟩:=Ze h;obtain⟨v,t2,c,h⟩:=Ze h;obtain⟨b,t3,g,h⟩:=Ze h;injection h with h;subst h;have l1:=Zkm f;have l3:=Zkm g;rw[if_neg Dc]at l1;rw[if_pos rfl]at l3
 have l2:tl t2+(if v then 2 else 1)=tl t1:=by
  unfold Zdc at c;split at c
  ·rename_i e;injection c with c;injection c with c h2';subst c;subst h2';have:=Zfa t1;rw[Zjl e]at this
   simp_all;omega
  ·obtain⟨_,t4,i,d⟩:=Ze c;injection d with d;injection d with d h5';subst d;subst h5';exact Zed i
 simp only at l1 l3;show tl t3+(a++(if v then [33,61] else [61])++[34]++b++[34]).length=_;simp only[Yab,Ybj];cases v
 ·simp_all;omega
 simp_all;omega
theorem ZsO:∀(n:Nat) (acc:List Cnd) (ts:List Tok) (z:List Cnd×List Tok),ZS ZV [125] n acc ts=.ok z->(commas (z.1.map Z8)).length+1+tl z.2<=(commas (acc.map Z8)).length+tl ts
 | 0,_,_,_,h=>by cases h
 | n + 1, acc, ts, z, h => by
   have d:(if isT _ _ then .ok _ else bnd (if acc.isEmpty then .ok _ else Zq _ _) fun _ r=>bnd (ZV r) fun a r=>ZS ZV _ n (acc++[a]) r)=.ok z:=h;cases e:isT [125] (hd ts)
   · rw[e]at d
     obtain⟨_,t1,f,g⟩:=Ze d;obtain⟨a,t2,i,j⟩:=Ze g;have ih:=ZsO n _ _ z j;have l3:=ZDg i;rw[Yaq,Ybb,Ydg,Zlc]at ih;cases k:acc.isEmpty
     · rw[k]at f
       have l1:=Zed (show Zq _ _=.ok ((),t1) from f)
       simp_all;omega
     simp_all;omega
   · rw[e]at d
     have c:(.ok (acc,ts.tail):Out (List Cnd))=.ok z:=d;injection c with c;subst c;have:=Zfa ts;rw[Zjl e]at this
     simp_all;omega
theorem ZsP{z:Nd×List Tok}(h:selP ts=.ok z):(selS z.1).length+tl z.2<=tl ts:=by
 unfold selP at h;obtain⟨a,t,d,c⟩:=Ze h
 have l1:tl t+a.length=tl ts:=by
  unfold ZdQ at d;split at d
  ·cases d
  ·exact Zkm d
 split at c
 ·rename_i e;obtain⟨cs,t2,g,f⟩:=Ze c;injection f with f;subst f;have l2:=ZsO _ _ _ _ g;have l3:=Zfa t;rw[Zjl e]at l3;have e1:([123]:LB).length=1:=rfl;have e0:(commas (([]:List Cnd).map Z8)).length=0:=rfl;simp only at l2;unfold selS;simp only;split
  ·omega
  simp_all;omega
 ·injection c with c;subst c;show(selS ⟨1,0,0,a,[],[]⟩).length+tl t<=_;have:selS ⟨1,0,0,a,[],[]⟩=a:=if_pos rfl;rw[this];omega
def SelL(N:Nat):Tr->Prop
 | .nil=>True
 | .node _ _ a l r=>(a.jk=1∨a.jk=2->(selS a).length<=N)/\SelL N l/\SelL N r
def InvL(N:Nat)(rec:Nat->List Tok->Nat->Out Tr):Prop:=∀lv t d z,tl t<=N->rec lv t d=.ok z->SelL N z.1/\tl z.2<=tl t
section
variable {N:Nat} {rec:Nat->List Tok->Nat->Out Tr} {ts:List Tok} {deep:Nat} {z:Tr×List Tok}
theorem Zql(c:InvL N rec)(g:tl ts<=N)(h:Zbu rec ts deep=.ok z):SelL N z.1/\tl z.2<=tl ts:=by
 unfold Zbu at h;obtain⟨_,t1,d,h⟩:=Ze h;obtain⟨a,t2,e,h⟩:=Ze h;obtain⟨_,t3,f,h⟩:=Ze h;injection h with h;subst h;have l1:=Zed d;have l3:=Zed f;obtain⟨q1,q2⟩:=c _ _ _ _ (by simp_all;omega) e
 simp_all;omega
theorem ZxD(n:Nat):∀(acc:List (LB)) (ts:List Tok) (z:List (LB)×List Tok),ZS (ZH 2) [41] n acc ts=.ok z->tl z.2<=tl ts:=by
 induction n with
 | zero=>intro _ _ _ h;cases h
 | succ n ih=>
  intro acc ts z h;have c:(if isT _ _ then .ok _ else bnd _ _)=.ok z:=h;split at c
  ·injection c with c;subst c;have:=Zfa ts
   simp_all;omega
  ·obtain⟨_,t1,d,e⟩:=Ze c;obtain⟨a,t2,f,g⟩:=Ze e;have l3:=Zkm f;have l4:=ih _ _ _ g
   have l1:tl t1<=tl ts:=by
    split at d
    ·simp_all
    ·have:=Zed d;simp_all;omega
   simp_all;omega
theorem ZxC(e:InvL N rec)(j:tl ts<=N)(h:Zbw rec ts deep=.ok z):SelL N z.1/\tl z.2<=tl ts:=by
 have n:=Zfa ts;unfold Zbw at h;split at h
 ·injection h with h;subst h;exact⟨⟨fun h=>absurd h (by simp),trivial,trivial⟩,by simp_all;omega⟩
 ·split at h
  ·obtain⟨a,t1,d,h⟩:=Ze h;injection h with h;subst h;obtain⟨q1,q2⟩:=e _ _ _ _ Om d;exact⟨⟨fun h=>absurd h Dc,q1,trivial⟩,by simp_all;omega⟩
  ·split at h
   ·exact Zql e j h
   ·split at h
    ·rename_i g _;unfold Zcb at h;obtain⟨_,t1,d,h⟩:=Ze h;obtain⟨_,t2,f,h⟩:=Ze h;obtain⟨ns,t3,i,h⟩:=Ze h;obtain⟨a,t4,c,h⟩:=Ze h;injection h with h;subst h;have l1:=Zed d;have l2:=Zed f;have l3:=ZxD _ _ _ _ i;simp only at l1 l2 l3;obtain⟨q1,q2⟩:=Zql e Om c;simp only at q1 q2;exact⟨⟨fun h=>absurd h (by simp),q1,trivial⟩,by simp_all;omega⟩
    ·split at h
     ·rename_i o _;unfold winP at h;obtain⟨_,t1,d,h⟩:=Ze h;obtain⟨p,t2,f,h⟩:=Ze h;obtain⟨_,t3,i,h⟩:=Ze h;obtain⟨m,t4,c,h⟩:=Ze h;obtain⟨_,t5,k,h⟩:=Ze h;obtain⟨_,t6,l,h⟩:=Ze h;injection h with h;subst h;have l1:=Zed d;have l2:=ZsP f;have l3:=Zed i;have l5:=Zed k;have l6:=Zed l
      have l4:tl t4<=tl t3:=by
       unfold Zc2 at c;split at c
       ·injection c with c;injection c with _ c;subst c;have:=Zfa t3;omega
       ·cases c
      simp only at l1 l2 l3 l5 l6;have q:selS ⟨2,o,m,p.name,p.ku,[]⟩=selS p:=rfl;exact⟨⟨fun _=>by simp_all;omega,trivial,trivial⟩,by simp_all;omega⟩
     ·obtain⟨p,t1,d,h⟩:=Ze h;injection h with h;subst h;have l1:=ZsP d;simp only at l1;exact⟨⟨fun _=>by omega,trivial,trivial⟩,by simp_all;omega⟩
theorem ZzK{lv:Nat}{t:Tok}(h:LS.opAt lv t=some p):p.1=4∨p.1=6:=by
 unfold LS.opAt at h;split at h
 ·split at h
  ·injection h with h;subst h;omega
  ·cases h
 ·split at h
  ·split at h
   ·injection h with h;subst h;omega
   ·split at h
    ·injection h with h;subst h;omega
    ·cases h
  ·split at h
   ·injection h with h;subst h;omega
   ·split at h
    ·injection h with h;subst h;omega
    ·cases h
theorem Zio(N:Nat):∀(n:Nat) (m:Bool) (lv:Nat) (a:Tr) (ts:List Tok) (deep:Nat) (z:Tr×List Tok),tl ts<=N->(m=true->SelL N a)->Zs n m lv a ts deep=.ok z->SelL N z.1/\tl z.2<=tl ts
 | 0,_,_,_,_,_,_,_,_,h=>by cases h
 | n + 1, false, lv, a, ts, deep, z, c, _, h => by
   have g:InvL N (fun lv t d=>Zs n _ _ _ t d):=fun lv t d z c h=>Zio N n false lv .nil t d z c (fun h=>(by cases h)) h;rw[Zs]at h;split at h
   · unfold Zb9 at h
     split at h
     · split at h
       · cases h
       · exact ZxC g c h
     · cases h
   · obtain⟨b,t1,e,f⟩:=Ze h
     obtain⟨q1,q2⟩:=g _ _ _ _ c e;simp only at q1 q2;obtain⟨r1,r2⟩:=Zio N n true lv b t1 deep z Om (fun _=>q1) f
     simp_all;omega
 | n + 1, true, lv, a, ts, deep, z, c, i, h => by
   have k:=Zfa ts;rw[Zs]at h;split at h
   · injection h with h;subst h;simp_all
   · rename_i p j
     obtain⟨b,t1,e,f⟩:=Ze h;obtain⟨q1,q2⟩:=Zio N n false (lv+1) .nil ts.tail deep _ Om (fun h=>(by cases h)) e;simp only at q1 q2;have l:=ZzK j
     obtain ⟨r1, r2⟩ := Zio N n true lv (.node 0 0 (nd0 p.1 p.2) a b) t1 deep z Om (fun _ => ⟨fun h => by
       have o:p.1=1∨p.1=2:=h;omega,i rfl,q1⟩) f
     simp_all;omega
theorem ZBs(h:ZD l=.ok t):SelL 300 t:=by
 unfold ZD at h;split at h
 ·cases h
 ·rename_i c;have d:=ZqD l (l.length+1) 0 (Yag _);split at h
  ·cases h
  ·rename_i t' r a;split at h
   ·split at h
    ·cases h
    ·injection h with h;subst h;exact(Zio _ _ false 0 _ _ 0 _ Om (fun h=>(by cases h)) a).1
   ·cases h
end
end
section
theorem ZGj(h:Ze3 nm cs)(g:(selS ⟨1,0,0,nm,cs,[]⟩).length<=300):ZD (selS ⟨1,0,0,nm,cs,[]⟩)=.ok (Zbg ⟨1,0,0,nm,cs,[]⟩):=by
 unfold ZD;rw[if_neg Om]
 have c:(ZN (selS ⟨1,0,0,nm,cs,[]⟩) ((selS ⟨1,0,0,nm,cs,[]⟩).length+1) 0).map sh=Zea ⟨1,0,0,nm,cs,[]⟩++[(0,[])]:=by
  have:=ZqM ⟨1,0,0,nm,cs,[]⟩ h ZCR Lx.nil;rw[Yca]at this;exact ZyL this _ 0 _ rfl (Yag _) (Yac _)
 generalize ZN (selS ⟨1,0,0,nm,cs,[]⟩) ((selS ⟨1,0,0,nm,cs,[]⟩).length+1) 0=ts at *
 have a:ts.map _=(2,nm)::_:=c;obtain⟨r,e1,e2⟩:=Zsc ⟨1,0,0,nm,cs,[]⟩ h ts c rfl
 have P3 : ∀ n, Zs (n + 1) _ 3 _ _ 0 = .ok (Zbg ⟨1, 0, 0, nm, cs, []⟩, r) := fun n => by
   rw[ZgK (Zhf a (ZnA h.2.2.2.1 h.2.2.2.2.1)) Om,ZlP a h.1,h.2.1,h.2.2.1];show(bnd (selP ts) fun p r=>.ok (Zbg p,r))=_;rw[e2];rfl
 have D : ∀ lv n, lv <= 2 -> Zs _ _ _ _ ts 0 = .ok (Zbg _, r) -> Zs (n + 2) _ lv .nil _ 0 = .ok _ := fun lv n d e => by
   rw[Zs,if_neg Om,e];show Zs (n+1) true lv (Zbg ⟨1,0,0,nm,cs,[]⟩) r 0=_;rw[Zs,Zrq,ZlH,e1,(ZCS 0).2 _ (Yag _) d]
 rw[D 0 _ Om (D 1 _ Om (D 2 _ Om (P3 _)))];have f:(hd r).jk=0:=congrArg Prod.fst (ZbB e1).1;simp only;split<;>rfl
theorem Zsb(h:Ze3 nm cs)(c:(selS ⟨1,0,0,nm,cs,[]⟩).length<=300):selQ (selS ⟨1,0,0,nm,cs,[]⟩)=some ⟨1,0,0,nm,cs,[]⟩:=by
 have a:=Zm5 (⟨1,0,0,nm,cs,[]⟩,0) rfl;simp only at a;unfold selQ;rw[ZGj h c];exact if_pos ⟨rfl,a⟩
theorem Zoq(e:c≠44):∀l:List (LB),(∀x∈l,c∉x)->c∉commas l
 | [],_=>by simp[commas]
 | [a],h=>h a (by simp)
 | a :: b :: l, h => by
   rw[ZhX,Yar,Yau];rintro(d|d|d)
   · simp_all
   · simp_all
   · exact Zoq e _ (fun x f=>h x (Yam _ f)) d
theorem Zu9{k:Cnd}(h:Zfj k):(91:UInt8)∉Z8 k:=by
 unfold Z8;have a:=Zii (c:=91) Dc h.1;have d:=Ztf (c:=91) Dc h.2;split<;>simp_all
theorem Zsa(h:Ze3 nm cs):(91:UInt8)∉selS ⟨1,0,0,nm,cs,[]⟩:=by
 have a:=Zii (c:=91) Dc h.1;unfold selS;split
 ·exact a
 ·simp only[Yar,Yap];rintro(((q|q)|q)|q)
  ·exact a q
  ·simp_all
  ·refine Zoq Dc _ (fun x d=>?_) q;obtain⟨k,e,rfl⟩:=Ybe.1 d;exact Zu9 (h.2.2.2.2.2 k e)
  simp_all
theorem ZBZ(h:Ze3 nm cs)(a:(selS ⟨1,0,0,nm,cs,[]⟩).length<=300):SelV (⟨1,0,0,nm,cs,[]⟩,0):=by
 have e:ZI (⟨1,0,0,nm,cs,[]⟩,0)=selS ⟨1,0,0,nm,cs,[]⟩:=by
  show selS _++(if 0<0 then _ else [])=_;rw[if_neg Dc,Yca]
 unfold SelV ZbA;rw[e,(Zj9 _ _).2 (Zsa h),Zsb h a];rfl
theorem ZB0(h:Ze3 nm cs)(c:(selS ⟨1,0,0,nm,cs,[]⟩).length<=300)(g:1<=n)(d:n<=1000):SelV (⟨1,0,0,nm,cs,[]⟩,n):=by
 have e:ZI (⟨1,0,0,nm,cs,[]⟩,n)=selS ⟨1,0,0,nm,cs,[]⟩++91::(decS n++[93]):=by
  show selS _++(if 0<n then _ else [])=_;rw[if_pos Om];simp
 have f:=Zsb h c;have a:=Zsa h;unfold SelV ZbA;rw[e];generalize selS ⟨1,0,0,nm,cs,[]⟩=s at *
 rw[Zgq _ s _ a];simp only
 have e1:(s++91::(decS n++[93])).getLast?=some 93:=by
  rw[show s++91::(decS n++[93])=(s++91::decS n)++[93] by simp,List.getLast?_append];rfl
 have e2:((s++91::(decS n++[93])).drop (s.length+1)).dropLast=decS n:=by
  rw[List.drop_append,Yfl Om,show s.length+1 - s.length=1 by omega];simp
 have e3:(s++91::(decS n++[93])).take s.length=s:=by simp
 rw[e1,if_pos rfl,e2,ZjP d,e3,f]
 simp_all;omega
theorem Zsr:∀l:List (LB),l≠[]->(∀x∈l,(44:UInt8)∉x)->split 44 (commas l)=l
 | [],h,_=>absurd rfl h
 | [p], _, h => by
   have e:=Zhb _ p [] (h p (by simp));rw[Yca]at e;show split 44 p=[p]
   rw[e];simp[split,pre]
 | p :: q :: l, _, h => by
   rw[ZhX,Zhb _ _ _ (h p (by simp)),Zhc,Zsr _ (by simp) (fun x a=>h x (Yam _ a))];simp[pre]
theorem ZCD{l:List (LB)}(h:SS l):l.Nodup:=List.Pairwise.imp (fun {a b} c e=>by rw[e,ZcL]at c;cases c) h
theorem ZwO(h:∀x∈ns,Zx x=true):GrpV (Z6 ns):=by
 have c:=fun x d=>h x ((Zi0 x _).1 d);have hd:=ZCD (Zk6 ns);generalize Z6 ns=ms at *
 unfold GrpV ZcG;cases ms with
 | nil=>rfl
 | cons a l=>
  have g:commas (a::l)≠[]:=by
   have f:=c a (by simp);unfold Zx at f;rw[Yas,Yas,decide_eq_true_eq]at f;have:1<=a.length:=by have:=f.2.1;omega
   cases l with
   | nil=>show a≠[];intro e;simp_all
   | cons b l=>rw[ZhX];simp
  rw[if_neg g,Zsr _ (by simp) (fun x d=>Zii Dc (c x d)),if_pos ⟨Ybu.2 c,hd⟩]
theorem ZDj(h:GT t):SelL 300 t->TrV t:=by
 induction h using GT.ind with
 | num v _=>exact fun _=>⟨fun h=>(by cases h),fun h=>(by cases h),fun h=>(by cases h),trivial,trivial⟩
 | sel nm cs e=>exact fun a=>⟨fun _=>ZBZ e (a.1 (.inl rfl)),fun h=>(by cases h),fun h=>(by cases h),trivial,trivial⟩
 | win o n nm cs k i j e=>exact fun a=>⟨fun h=>(by cases h),fun _=>ZB0 e (a.1 (.inr rfl)) i j,fun h=>(by cases h),trivial,trivial⟩
 | neg l _ ih=>exact fun a=>⟨fun h=>(by cases h),fun h=>(by cases h),fun h=>(by cases h),ih a.2.1,trivial⟩
 | grp g ns l _ f _ ih=>exact fun a=>⟨fun h=>(by cases h),fun h=>(by cases h),fun _=>ZwO f,ih a.2.1,trivial⟩
 | bin o l r _ _ _ c d=>exact fun a=>⟨fun h=>(by cases h),fun h=>(by cases h),fun h=>(by cases h),c a.2.1,d a.2.2⟩
 | or l r _ _ c d=>exact fun a=>⟨fun h=>(by cases h),fun h=>(by cases h),fun h=>(by cases h),c a.2.1,d a.2.2⟩
theorem ZDk(h:ZD q=.ok t):TrV t:=ZDj (ZmU h).1.gt (ZBs h)
section
variable {jx:List Nq} {K:Nat->Cq->Cq} {c d e:Cq} {M:Nat->Prop} {δ:Nat->Nat} {W:Nat->Bool} {n m x y:Nat}
end
end
section
section
variable {jx nodes':List Nq} {K K':Nat->Cq->Cq} {c d:Cq} {n m x y N:Nat} {z:Nq}
end
end
section
section
variable {jx:List Nq} {g:Gq} {n k a b f:Nat} {o:Int} {t:Tr} {T:List Nat}
variable {fl:Nat}
theorem Zws{t:Tr}(c:wfT t)(d:isNil t=false)(h:wT t<=100000)(fl:Nat):NOk (Zb t (g0 fl)).2.jx:=(ZjU t _ c d (fun i e=>absurd e (Ya1 _)) (by show 0+wT t<=_;omega) (by show 0+wT t<=_;omega)).ok
end
section
variable {fl n:Nat} {t T:Tr} {s:LB}
theorem ZuP(t:Tr)(fl:Nat):(LS.codeOf t fl).jq.length=(Zv (Zb t (g0 fl)).2 (Zb t (g0 fl)).1).jq.length:=by
 show(if 4<=fl then Zch _ else _).length=_;split
 ·exact(ZiE _ _ (Zi2 _ _)).2
 ·rfl
theorem ZuZ(h:ZD s=.ok T)(c:fl<=7):ZcM s fl=(ZbJ (LS.codeOf T fl),0,0):=by
 unfold ZcM
 simp_all;omega
end
end
section
theorem ZkU(k:Nat):∀n,n<256 ^ k->back (digL n k)=n:=by
 induction k with
 | zero=>decide
 | succ k ih=>
  intro n h;show back (digL (n / 256) k++[UInt8.ofNat (n % 256)])=n;rw[show back _=256*back (digL (n / 256) k)+(UInt8.ofNat (n % 256)).toNat by simp[back],ih _ Om,UInt8.toNat_ofNat_of_lt' (by show n % 256<256;omega)];omega
theorem ZiA(a x b:LB):sub (a++(x++b)) a.length x.length=x:=by unfold sub;simp
theorem ZsH(a x b:LB):Zcg (a++(x++b)) a.length x.length=.ok (x,a.length+x.length):=by
 unfold Zcg;rw[if_neg (by simp),ZiA]
theorem ZjN(a b:LB)(h:n<256 ^ k):Zbr (a++(digL n k++b)) a.length k=.ok (n,a.length+k):=by
 have c:=ZsH a (digL n k) b;rw[ZbG]at c;unfold Zbr;rw[c];simp only;rw[ZkU k n h]
theorem Zve(a b:LB)(c:vOk v):ZbW (a++(Zb0 v++b)) a.length=.ok (v,a.length+(Zb0 v).length):=by
 unfold vOk at c;have d:(Zb0 v).length=4:=ZbG 4 _;have e:Zbr (a++(Zb0 v++b)) _ 4=.ok _:=ZjN a b (show(v % 4294967296).toNat<256 ^ 4 by omega)
 have f:Zdp (v % 4294967296).toNat=v:=by
  unfold Zdp;split <;> omega
 unfold ZbW
 simp_all
theorem ZsG(a b:LB){x:LB}(f:x.length<65536):ZcH (a++(ZO x++b)) a.length=.ok (x,a.length+(ZO x).length):=by
 have d:Zbr (a++(digL _ 2++(x++b))) _ 2=.ok _:=ZjN a _ (show x.length<256 ^ 2 by omega);have e:a++(ZO x++b)=a++(digL x.length 2++(x++b)):=by unfold ZO;rw[Yan]
 have c:=ZsH (a++digL x.length 2) x b;rw[Yab,ZbG,Yan]at c;unfold ZcH;rw[e,d];simp only;rw[c,Zsm];simp;omega
theorem ZAF(a b:LB)(c:SelV x)(d:(ZI x).length<65536):Zb4 (a++(ZO (ZI x)++b)) a.length=.ok (x,a.length+(ZO (ZI x)).length):=by
 unfold Zb4;rw[ZsG a b d];simp only;rw[c]
theorem ZwI(a b:LB){x:List (LB)}(c:GrpV x)(d:(commas x).length<65536):ZbX (a++(ZO (commas x)++b)) a.length=.ok (x,a.length+(ZO (commas x)).length):=by
 unfold ZbX;rw[ZsG a b d];simp only;rw[c]
theorem Zxd(a b:LB){x:Nat×Nat}(c:x.1<=13)(d:x.2<65536):ZbN (a++(insB x++b)) a.length=.ok (x,a.length+(insB x).length):=by
 have e:a++(insB x++b)=a++(digL x.1 1++(digL x.2 2++b)):=by
  unfold insB
  have:digL x.1 1=[UInt8.ofNat x.1]:=by
   show[]++[UInt8.ofNat (x.1 % 256)]=_;rw[Yd4 Om];rfl
  rw[this];simp
 have n1:=ZjN a (digL x.2 2++b) (n:=x.1) (k:=1) Om;have n2:=ZjN (a++digL x.1 1) b (n:=x.2) (k:=2) Om;rw[Yab,ZbG,Yan]at n2;have f:(insB x).length=3:=by unfold insB;rw[Yaj,ZbG]
 unfold ZbN
 simp_all
theorem ZqS{α:Type}{one:LB->Nat->RdR α}{enc:α->LB}{ok:α->Prop}(d:∀a b x,ok x->one (a++(enc x++b)) a.length=.ok (x,a.length+(enc x).length))(a b:LB){xs:List α}(f:∀x∈xs,ok x):∀k,k<=xs.length->many (one (a++(xs.flatMap enc++b))) a.length k=.ok (xs.take k,a.length+((xs.take k).flatMap enc).length)
 | 0,_=>rfl
 | k + 1, g => by
   have c:k<xs.length:=by omega
   have e:a++(xs.flatMap enc++b)=(a++(xs.take k).flatMap enc)++(enc xs[k]++((xs.drop (k+1)).flatMap enc++b)):=by
     have:xs.flatMap enc=(xs.take k).flatMap enc++(enc xs[k]++(xs.drop (k+1)).flatMap enc):=by
       rw[<-Ycd,<-Yds,List.getElem_cons_drop,Ycn]
     rw[this];simp only[Yan]
   have q:=d (a++(xs.take k).flatMap enc) ((xs.drop (k+1)).flatMap enc++b) _ (f _ (List.getElem_mem c));rw[<-e,Yab]at q;unfold many;rw[ZqS d a b f k Om];simp only;rw[q];simp only;rw[List.take_succ_eq_append_getElem c,Yds,Yab]
   simp_all;omega
structure Wrq (q:CodeQ):Prop where
 sh:Shrt q
 co:∀v∈q.jj,vOk v
 pi:∀x∈q.ju,SelV x
 gr:∀x∈q.jw,GrpV x
 is:∀x∈q.jq,x.1<=13/\x.2<65536
theorem ZjH{α:Type}{one:LB->Nat->RdR α}(enc:α->LB)(ok:α->Prop)(c:∀a b x,ok x->one (a++(enc x++b)) a.length=.ok (x,a.length+(enc x).length)){a b:LB}{p:Nat}{xs:List α}(d:l=a++(xs.flatMap enc++b))(e:p=a.length)(f:∀x∈xs,ok x):many (one l) p xs.length=.ok (xs,(a++xs.flatMap enc).length):=by
 subst d e;rw[ZqS c a b f _ (Yac _),Ya4,Yab]
theorem Zvr{q:CodeQ}(h:Wrq q):Zb7 (ZbJ q)=.ok q:=by
 obtain⟨e,j,k,m,o⟩:=h;have p:=e.t;have e0:ZbJ q=LS.Z2 q++digL _ 4:=rfl
 have eb : LS.Z2 q = [103] ++ (digL q.jj.length 2 ++ (digL q.ju.length 2 ++ (digL q.jw.length 2 ++ (digL q.jq.length 2 ++ (q.jj.flatMap Zb0 ++ (q.ju.flatMap (fun x => ZO (ZI x)) ++ (q.jw.flatMap (fun x => ZO (commas x)) ++ q.jq.flatMap insB))))))) := by
   unfold LS.Z2;simp only[Yan];rfl
 have f:=fun n D=>ZkU 2 n (by rwa [show(256:Nat) ^ 2=65536 from rfl]);generalize r:digL (sumQ (LS.Z2 q)) 4=S at *
 have u:S.length=4:=r▸ZbG 4 _;have v:back S=sumQ _:=r▸ZkU 4 _ (by rw[show(256:Nat) ^ 4=4294967296 from rfl];exact Znn _)
 -- the head
 have s1:sub (ZbJ q) 1 2=digL q.jj.length 2:=by
  have:=ZiA [103] (digL q.jj.length 2) (digL q.ju.length 2++(digL q.jw.length 2++(digL q.jq.length 2++(q.jj.flatMap Zb0++(q.ju.flatMap (fun x=>ZO (ZI x))++(q.jw.flatMap (fun x=>ZO (commas x))++(q.jq.flatMap insB++S)))))));rw[ZbG]at this;rw[e0,eb];simpa only[Yan,Ybj] using this
 have s3:sub (ZbJ q) 3 2=digL q.ju.length 2:=by
  have:=ZiA ([103]++digL q.jj.length 2) (digL q.ju.length 2) (digL q.jw.length 2++(digL q.jq.length 2++(q.jj.flatMap Zb0++(q.ju.flatMap (fun x=>ZO (ZI x))++(q.jw.flatMap (fun x=>ZO (commas x))++(q.jq.flatMap insB++S))))));rw[ZbG,Yab,ZbG,Ybj]at this;rw[e0,eb];simpa only[Yan] using this
 have s5:sub (ZbJ q) 5 2=digL q.jw.length 2:=by
  have:=ZiA ([103]++(digL q.jj.length 2++digL q.ju.length 2)) (digL q.jw.length 2) (digL q.jq.length 2++(q.jj.flatMap Zb0++(q.ju.flatMap (fun x=>ZO (ZI x))++(q.jw.flatMap (fun x=>ZO (commas x))++(q.jq.flatMap insB++S)))));rw[ZbG,Yab,Yab,ZbG,ZbG,Ybj]at this;rw[e0,eb];simpa only[Yan] using this
 have s7:sub (ZbJ q) 7 2=digL q.jq.length 2:=by
  have:=ZiA ([103]++(digL q.jj.length 2++(digL q.ju.length 2++digL q.jw.length 2))) (digL q.jq.length 2) (q.jj.flatMap Zb0++(q.ju.flatMap (fun x=>ZO (ZI x))++(q.jw.flatMap (fun x=>ZO (commas x))++(q.jq.flatMap insB++S))));rw[ZbG,Yab,Yab,Yab,ZbG,ZbG,ZbG,Ybj]at this;rw[e0,eb];simpa only[Yan] using this
 have z:Zc8 (ZbJ q)=.ok (q.jj.length,q.ju.length,q.jw.length,q.jq.length):=by
  unfold Zc8;rw[s1,s3,s5,s7,f _ e.c,f _ e.s,f _ e.g,f _ e.i,if_neg (by rw[e0,eb];simp),if_neg (by rw[e0,eb];simp[ZbG];omega)]
 -- the rows
 have A:([103]++digL q.jj.length 2++digL q.ju.length 2++digL q.jw.length 2++digL q.jq.length 2).length=9:=by simp[ZbG]
 have ew : ZbJ q = ([103] ++ digL q.jj.length 2 ++ digL q.ju.length 2 ++ digL q.jw.length 2 ++ digL q.jq.length 2) ++ (q.jj.flatMap Zb0 ++ (q.ju.flatMap (fun x => ZO (ZI x)) ++ (q.jw.flatMap (fun x => ZO (commas x)) ++ (q.jq.flatMap insB ++ S)))) := by
   rw[e0,eb];simp only[Yan]
 have ebl : LS.Z2 q = ((([103] ++ digL q.jj.length 2 ++ digL q.ju.length 2 ++ digL q.jw.length 2 ++ digL q.jq.length 2) ++ q.jj.flatMap Zb0) ++ q.ju.flatMap (fun x => ZO (ZI x))) ++ q.jw.flatMap (fun x => ZO (commas x)) ++ q.jq.flatMap insB := by
   rw[eb];simp only[Yan]
 generalize([103]++digL q.jj.length 2++digL q.ju.length 2++digL q.jw.length 2++digL q.jq.length 2:LB)=H at *
 generalize LS.Z2 q=B at *
 have m1:=ZjH Zb0 _ (fun a b x d=>Zve a b d) ew A.symm j;have m2:=ZjH _ (fun x=>SelV x/\(ZI x).length<65536) (fun a b x d=>ZAF a b d.1 d.2) (l:=ZbJ q) (a:=H++q.jj.flatMap Zb0) (b:=q.jw.flatMap (fun x=>ZO (commas x))++(q.jq.flatMap insB++S)) (by rw[ew];simp only[Yan]) rfl (fun x d=>⟨k x d,p _ (Yc7 _ (List.mem_map_of_mem d))⟩);have m3:=ZjH _ (fun x=>GrpV x/\(commas x).length<65536) (fun a b x d=>ZwI a b d.1 d.2) (l:=ZbJ q) (a:=H++q.jj.flatMap Zb0++q.ju.flatMap (fun x=>ZO (ZI x))) (b:=q.jq.flatMap insB++S) (by rw[ew];simp only[Yan]) rfl (fun x d=>⟨m x d,p _ (List.mem_append_right _ (List.mem_map_of_mem d))⟩);have m4:=ZjH insB _ (fun a b x d=>Zxd a b d.1 d.2) (l:=ZbJ q) (a:=H++q.jj.flatMap Zb0++q.ju.flatMap (fun x=>ZO (ZI x))++q.jw.flatMap (fun x=>ZO (commas x))) (b:=S) (by rw[ew];simp only[Yan]) rfl o;rw[<-ebl]at m4;unfold Zb7;rw[z];simp only;rw[m1];simp only;rw[m2];simp only;rw[m3];simp only;rw[m4];simp only;have C:(ZbJ q).length=B.length+4:=by rw[e0,Yab,u]
 have hd:(ZbJ q).drop B.length=S:=by rw[e0];simp
 have w:(ZbJ q).take B.length=B:=by rw[e0];simp
 rw[if_neg Om,if_neg Om,hd,w,v,if_neg (by simp)]
section
variable {C:CodeQ} {L:Nat->List Nat×List Nat} {i j k x y:Nat} {st sl a b c:List Nat}
def SLe(a b:List Nat):Prop:=∀j,a.getD j 0≠0->b.getD j 0=a.getD j 0
theorem SLe.refl(a:List Nat):SLe a a:=fun _ _=>rfl
theorem SLe.trans(h:SLe a b)(q:SLe b c):SLe a c:=fun j d=>by rw[q j (h j d▸d),h j d]
theorem Zk1:∀(a b:List Nat) (j v:Nat),a.getD j 0=v->b.getD j 0=v->(both a b).getD j 0=v
 | [],_,j,v,h,_=>by assumption
 | _::_,[],j,v,_,h=>by assumption
 | x :: a, y :: b, 0, v, d, e => by
   have f:x=v:=d;have g:y=v:=e;show(if x=y then x else 0)=v
   simp_all
 | _::a,_::b,j+1,v,d,e=>Zk1 a b j v d e
theorem Zn2(a b:List Nat):(both a b).length=min a.length b.length:=by unfold both;simp
theorem Zue{a b:List Nat}:SLe (both a b) a:=fun j d=>(ZhT a b j d).1
theorem Zuf{a b:List Nat}:SLe (both a b) b:=fun j d=>(ZhT a b j d).2
structure Nx (L:Nat->List Nat×List Nat) (x y j:Nat) (st sl:List Nat):Prop where
 lt:x<y
 le:y<=j
 st:(L y).1=st
 sl:SLe (L y).2 sl
def Lbl(C:CodeQ)(L:Nat->List Nat×List Nat)(i j:Nat):Prop:=∀x,i<=x->x<j->(C.jq.getD x (0,0)).1≠9/\Zy C x (C.jq.getD x (0,0))=true/\(L x).2.length=16/\∃st sl,Zt C (C.jq.getD x (0,0)) (L x).1 (L x).2=some (st,sl)/\Nx L x (x+1) j st sl/\((C.jq.getD x (0,0)).1=10->Nx L x (C.jq.getD x (0,0)).2 j st sl)
theorem Zjd(l:List Nat)(s j v:Nat):(l.set s v).getD j 0=if j=s/\s<l.length then v else l.getD j 0:=Zf2 l s j v
theorem ZAY{k:Nat}(h:ZE k st sl=some (st',sl'))(d:SLe sl s2):∃s3,ZE k st s2=some (st',s3)/\SLe sl' s3/\(s2.length=16->s3.length=16):=by
 unfold ZE at h ⊢
 simp_all
theorem ZCO(h:Zt C xx st sl=some (st',sl'))(d:SLe sl s2)(g:Zy C i xx=true)(m:sl.length=16)(n:s2.length=16):∃s3,Zt C xx st s2=some (st',s3)/\SLe sl' s3/\s3.length=16:=by
 have fin : ∀ {k : Nat} {r : List Nat}, ZE k r sl = some (st', sl') -> ∃ s3, ZE k r s2 = some (st', s3) /\ SLe sl' s3 /\ s3.length = 16 := fun h => by
   obtain⟨s3,q1,q2,q3⟩:=ZAY h d
   simp_all
 obtain⟨op,arg⟩:=xx;unfold Zt at h ⊢;simp only at h ⊢;split at h
 ·simp_all
 ·simp_all
 ·split<;>simp_all
 ·split<;>simp_all
 ·split<;>simp_all
 ·simp_all
 ·split<;>simp_all
 ·have o:arg<16:=by simpa [Zy] using g
  split at h
  ·injection h with h;injection h with h1 h3;subst h1;subst h3;refine⟨_,rfl,fun j f=>?_,by simp_all⟩;rw[Zjd]at f ⊢;rw[Zjd];by_cases e:j=arg
   ·simp_all
   ·rw[if_neg (fun q=>e q.1)]at f ⊢;rw[if_neg (fun q=>e q.1)];exact d j f
  ·cases h
 ·split at h
  ·cases h
  ·rename_i l;have:=d arg l
   simp_all
 split<;>simp_all
def Okd(L:Nat->List Nat×List Nat)(s:Nat)(a:Ah):Prop:=a.qy=true->a.qz=false/\a.jz=(L s).1/\SLe (L s).2 a.jy/\a.jy.length=16
theorem Zmx{s:Nat}{a:Ah}(h:Okd L s a)(l:(L s).1=st)(e:SLe (L s).2 sl)(f:sl.length=16):Okd L s (Zbi a st sl)/\(Zbi a st sl).qy=true:=by
 unfold Zbi;by_cases d:a.qy=true
 ·rw[if_pos d];obtain⟨q1,q2,q3,q4⟩:=h d;refine⟨fun _=>⟨?_,q2,fun j g=>?_,?_⟩,rfl⟩
  ·simp_all
  ·exact Zk1 _ _ j _ (q3 j g) (e j g)
  ·show(both a.jy sl).length=16;rw[Zn2,q4,f];rfl
 ·rw[if_neg d];exact⟨fun _=>⟨rfl,l.symm,e,f⟩,rfl⟩
theorem Zhs(l:List Ah)(i s:Nat)(a:Ah):(l.set i a).getD s ah0=if s=i/\i<l.length then a else l.getD s ah0:=by
 rw[Yaa,Ya0];by_cases h:i=s
 ·subst h;by_cases d:i<l.length
  ·simp[d]
  ·simp[d]
 simp_all;omega
theorem Zry(q:Lbl C L 0 C.jq.length)(r:(L 0).1=[])(t:SLe (L 0).2 (List.replicate 16 0)):∀k,k<=C.jq.length->∃l m,Zbx C k=.ok (l,m)/\l.length=C.jq.length+1/\(∀s,s<=C.jq.length->Okd L s (l.getD s ah0))/\(l.getD k ah0).qy=true/\(0<k->(L k).1.length<=m)
 | 0, _ => by
   refine⟨ZeY C.jq.length,0,rfl,by simp[ZeY],fun s _=>?_,rfl,fun h=>absurd h (Yfs _)⟩;cases s with
   | zero=>exact fun _=>⟨rfl,r.symm,t,by rfl⟩
   | succ s=>
     intro g
     have e:(ZeY C.jq.length).getD (s+1) ah0=ah0:=by
       show(List.replicate C.jq.length ah0).getD s ah0=ah0;rw[Yaa,Ybs];split <;> rfl
     rw[e]at g;cases g
 | k + 1, g => by
   obtain⟨l,m,A,v,o,w,_⟩:=Zry q r t k Om;obtain⟨B,D,p,st,sl,n,f,E⟩:=q k (Yag _) Om;obtain⟨q1,q2,q3,q4⟩:=o k Om w;obtain⟨s3,t1,t2,t3⟩:=ZCO n q3 D p q4;rw[<-q2]at t1
   have e:Zbx C (k+1)=.ok (goOn (C.jq.getD k (0,0)) k st s3 l,max m st.length):=by
     unfold Zbx;rw[A];simp only;unfold Zfx;simp only;rw[if_pos w,if_neg (by simp_all),t1]
   refine⟨_,_,e,by rw[ZpF];exact v,?_⟩;unfold goOn;simp only;rw[if_neg B];have G:=Zmx (o (k+1) g) f.st (f.sl.trans t2) t3;by_cases d:ZcE (C.jq.getD k (0,0)).1=true
   · have e10:(C.jq.getD k (0,0)).1=10:=by
       unfold ZcE at d;simp only[Yct,beq_iff_eq]at d;rcases d with e|e
       · omega
       · exact e
     have J:=E e10;rw[if_pos d];generalize(C.jq.getD k (0,0)).2=u at *
     have H:=Zmx (o u J.le) J.st (J.sl.trans t2) t3
     have z : ∀ s, s <= C.jq.length -> Okd L s ((l.set u (Zbi (l.getD u ah0) st s3)).getD s ah0) := fun s n => by
       rw[Zhs];split<;>simp_all
     have F:(l.set u (Zbi (l.getD u ah0) st s3)).length=C.jq.length+1:=by rw[Yat];exact v
     generalize l.set u (Zbi (l.getD u ah0) st s3)=l1 at *
     have I:=Zmx (z (k+1) g) f.st (f.sl.trans t2) t3;refine⟨fun s n=>?_,?_,fun _=>by rw[f.st];omega⟩
     · rw[Zhs]
       split<;>simp_all
     · rw[Zhs,if_pos ⟨rfl,by omega⟩];simp_all
   · rw[if_neg d]
     refine⟨fun s n=>?_,?_,fun _=>by rw[f.st];omega⟩
     · rw[Zhs]
       split<;>simp_all
     · rw[Zhs,if_pos ⟨rfl,by omega⟩];simp_all
theorem ZrQ(h:∀x,x<C.jq.length->Zy C x (C.jq.getD x (0,0))=true):∀k,k<=C.jq.length->Zcp C k=.ok ()
 | 0,_=>rfl
 | k + 1, d => by
   unfold Zcp;rw[ZrQ h k Om];simp only;rw[if_pos (h k Om)]
theorem ZD1(f:Lbl C L 0 C.jq.length)(h:(L 0).1=[])(n:SLe (L 0).2 (List.replicate 16 0))(d:0<C.jq.length)(g:(L C.jq.length).1=[1]∨(L C.jq.length).1=[2]):∃m,1<=m/\ZcT C=.ok (m,Zdd C.jq):=by
 obtain⟨l,m,t,_,o,p,q⟩:=Zry f h n C.jq.length (Yac _);obtain⟨q1,q2,_,_⟩:=o C.jq.length (Yac _) p
 have u:Zd1 (l.getD C.jq.length ah0)=true:=by
  unfold Zd1;rw[q1,q2];rcases g with e|e <;> rw[e] <;> rfl
 have r:1<=m:=by
  have:=q d;rcases g with e|e <;> rw[e]at this <;> exact this
 refine⟨m,r,?_⟩;unfold ZcT;rw[ZrQ (fun x s=>(f x (Yag _) s).2.1) _ (Yac _)];simp only;unfold Zdj
 simp_all
end
end
section
section
variable {C:CodeQ} {F:Gq} {K:Nat->Cq->Cq} {c d e:Cq} {h:Nat->Nat} {n i j k x y a b:Nat} {S sl sl':List Nat} {s s' s'':List Nat×List Nat}
def Lab(C:CodeQ)(i j:Nat)(s s':List Nat×List Nat):Prop:=∃L,L i=s/\L j=s'/\Lbl C L i j
theorem Lab.refl(C:CodeQ)(i:Nat)(s:List Nat×List Nat):Lab C i i s s:=⟨fun _=>s,rfl,rfl,fun x g f=>absurd f Om⟩
theorem Nx.congr{L L':Nat->List Nat×List Nat}(h:Nx L x y j st sl)(f:L' y=L y)(g:y<=k):Nx L' x y k st sl:=⟨h.lt,g,by rw[f];exact h.st,by rw[f];exact h.sl⟩
theorem Lab.trans(l:Lab C i j s s')(m:Lab C j k s' s'')(o:i<=j)(p:j<=k):Lab C i k s s'':=by
 obtain⟨L1,a1,a2,a3⟩:=l;obtain⟨L2,b1,b2,b3⟩:=m
 have e1 : ∀ y, y <= j -> (fun x => if x < j then L1 x else L2 x) y = L1 y := fun y q => by
   simp only;split
   · rfl
   · obtain rfl:y=j:=by omega
     simp_all
 have e2:∀y,j<=y->(fun x=>if x<j then L1 x else L2 x) y=L2 y:=fun y q=>by simp_all;omega
 refine⟨fun x=>if x<j then L1 x else L2 x,(e1 i o).trans a1,(e2 k p).trans b2,fun x l m=>?_⟩;rcases Yav x j with g|g
 ·obtain⟨q1,q2,q3,st,sl,q4,q5,q6⟩:=a3 x l g;rw[e1 x Om];exact⟨q1,q2,q3,st,sl,q4,q5.congr (e1 _ q5.le) Om,fun f=>(q6 f).congr (e1 _ (q6 f).le) (by have:=(q6 f).le;omega)⟩
 ·obtain⟨q1,q2,q3,st,sl,q4,q5,q6⟩:=b3 x g m;rw[e2 x g];exact⟨q1,q2,q3,st,sl,q4,q5.congr (e2 _ Om) q5.le,fun f=>(q6 f).congr (e2 _ (by have:=(q6 f).lt;omega)) (q6 f).le⟩
theorem Lab.one(l:C.jq.getD x (0,0)=(op,arg))(m:op≠9)(f:op≠10)(o:Zy C x (op,arg)=true)(g:sl.length=16)(p:Zt C (op,arg) st sl=some s'):Lab C x (x+1) (st,sl) s':=by
 refine⟨fun z=>if z=x then (st,sl)else s',if_pos rfl,if_neg Om,fun z q r=>?_⟩;obtain rfl:z=x:=by omega
 rw[l];simp only[if_true];exact⟨m,o,g,s'.1,s'.2,p,⟨by omega,by omega,by simp,by rw[if_neg Om];exact SLe.refl _⟩,fun h=>absurd h f⟩
structure Tp (F:Gq) (c:Cq) (ks:List Nat):Prop where
 sl:∀s (n:Nat),c.jy.getD s none=some (n:Int)->ks.getD s 0=kd F n
 l1:c.jy.length=16
 l2:ks.length=16
theorem Tp.same(q:Tp F c sl)(f:d.jy=c.jy):Tp F d sl:=⟨fun s n g=>q.sl s n (by simp_all),by rw[f];exact q.l1,q.l2⟩
def PutL(C:CodeQ)(F:Gq)(c d:Cq)(S sl:List Nat)(k:Nat):Prop:=∃sl',Lab C c.jq.length d.jq.length (S,sl) (k::S,sl')/\Tp F d sl'
def WL(C:CodeQ)(F:Gq)(h:Nat->Nat)(K:Nat->Cq->Cq)(n:Nat):Prop:=∀c S sl,Tp F c sl->Sgm C (K n c) c.jq.length->S.length+h n<=64->PutL C F c (K n c) S sl (kd F n)
theorem ZfA{k:Nat}(f:S.length<64)(sl:List Nat):ZE k S sl=some (k::S,sl):=by unfold ZE;simp_all;omega
theorem Zqp{s:Nat}(l:C.jq.getD x (0,0)=(13,s))(m:s<16)(f:sl.length=16)(o:sl.getD s 0=k)(g:k≠0)(p:S.length<64):Lab C x (x+1) (S,sl) (k::S,sl):=by
 refine Lab.one l Dc Dc (by simpa [Zy] using m) f ?_;show(if sl.getD s 0=0 then none else ZE (sl.getD s 0) S sl)=_;rw[o,if_neg g,ZfA p]
theorem Zqg{s:Nat}(g:Tp F c sl)(m:s<16)(hg:Sgm C (ZZ n s c) a)(o:a<=c.jq.length):∃sl',Lab C c.jq.length (ZZ n s c).jq.length (kd F n::S,sl) (S,sl')/\Tp F (ZZ n s c) sl'/\sl'.getD s 0=kd F n:=by
 have l:Sgm C (Zc _ s c) a:=⟨hg.co,hg.le,hg.at_⟩
 obtain⟨t,p⟩:=l.emit o;refine⟨sl.set s (kd F n),?_,⟨fun s' k r=>?_,?_,?_⟩,?_⟩
 ·show Lab C c.jq.length (Zc 12 s c).jq.length _ _;rw[ZdX];exact Lab.one p Dc Dc (by simpa [Zy] using m) g.l2 rfl
 ·have f:(c.jy.set s _).getD _ _=some _:=r;rw[Zc0]at f;rw[Zjd];by_cases es:s'=s
  ·rw[if_pos ⟨es,by simp_all⟩]at f;injection f with f;have:k=n:=by omega
   rw[if_pos ⟨es,by rwa [g.l2]⟩,this]
  ·rw[if_neg (fun q=>es q.1)]at f ⊢;exact g.sl _ k f
 ·show(c.jy.set s _).length=16;rw[Yat];exact g.l1
 ·rw[Yat];exact g.l2
 ·rw[Zjd,if_pos ⟨rfl,by rwa [g.l2]⟩]
theorem Zir(o:kd F n≠0)(L:1<=h n)(q:WL C F h K n)(B:∀c,Pre c (K n c))(f:Tp F c sl)(hg:Sgm C (putQ jx K n c) c.jq.length)(r:S.length+h n<=64):PutL C F c (putQ jx K n c) S sl (kd F n):=by
 cases t:ZK n c.jy with
 | some s=>
  obtain⟨D,E⟩:=Zha t;have G:=f.sl s n E;rw[Zd8 t]at hg ⊢
  have v:Sgm C (Zc 13 s (decL n c)) c.jq.length:=by
   split at hg
   ·exact⟨hg.co,hg.le,hg.at_⟩
   ·exact hg
  obtain⟨g1,g2⟩:=v.emit (Yac _);have g2':C.jq.getD c.jq.length _=(13,s):=g2
  have w:Lab C c.jq.length (Zc 13 s (decL n c)).jq.length (S,sl) (kd F n::S,sl):=by
   rw[ZdX];exact Zqp g2' D f.l2 G o Om
  split
  ·refine⟨sl,w,⟨fun s' k H=>?_,by show(c.jy.set s none).length=16;rw[Yat];exact f.l1,f.l2⟩⟩;have g:(c.jy.set s _).getD _ _=some _:=H;rw[Zc0]at g;split at g
   ·cases g
   ·exact f.sl _ k g
  ·exact⟨sl,w,⟨f.sl,f.l1,f.l2⟩⟩
 | none=>
  rw[ZdR t]at hg ⊢;have l:Tp F (decL n c) _:=f.same rfl;have A:=B (decL n c);have p:c.jq.length<=(K n _).jq.length:=A.length_le;split at hg
  ·rename_i u;rw[if_pos u];exact q _ S _ l hg r
  ·rename_i u;rw[if_neg u];cases m:ZbQ (K n (decL n c)).jy with
   | none=>
    rw[m]at hg;exact q _ S _ l hg r
   | some s=>
    rw[m]at hg;simp only at hg ⊢;have f1:=(ZdZ m).1;have gk:=hg.part (Zb8 _ _ _) (Ya8 _);have gw:Sgm C (K n (decL n c)) c.jq.length:=gk.part (Zfq _ _ _) (Ya8 _);obtain⟨sl1,I,z⟩:=q (decL n c) S sl l gw r;obtain⟨sl2,k1,k2,k3⟩:=Zqg (S:=S) z f1 gk p;have ek:(ZZ n s _).jq.length=(K n (decL n c)).jq.length+1:=ZdX;obtain⟨g1,g2⟩:=hg.emit Om;have J:=Zqp (S:=S) g2 f1 k2.l2 k3 o Om;refine⟨sl2,?_,k2.same rfl⟩;rw[ZdX];exact((I.trans k1 p Om).trans J (by show c.jq.length<=_;omega) Om)
theorem ZnM(q:NOk jx)(o:∀z c,Pre c (K z c))(r:∀z c,PrC c (K z c))(t:∀z,z<=y->z<jx.length->WL C F h K z)(u:∀z c,ZbY jx y c=some z->h z<=h y):∀(k:Nat) (c:Cq) (sl:List Nat),Tp F c sl->Sgm C (ZG jx K y k c) c.jq.length->S.length+h y<=64->∃sl',Lab C c.jq.length (ZG jx K y k c).jq.length (S,sl) (S,sl')/\Tp F (ZG jx K y k c) sl'
 | 0,c,sl,f,_,_=>⟨sl,Lab.refl _ _ _,f⟩
 | k + 1, c, sl, f, hg, D => by
   cases p:ZbY jx y c with
   | none=>rw[Zff (.inl p)];exact⟨sl,Lab.refl _ _ _,f⟩
   | some x=>
     cases l:ZbQ c.jy with
     | none=>rw[Zff (.inr l)];exact⟨sl,Lab.refl _ _ _,f⟩
     | some s=>
       rw[ZiP p l]at hg ⊢;obtain⟨f1,f2⟩:=ZdZ l;obtain⟨v,w⟩:=Zg9 q p;have I:=u x c p
       have A : Tp F { c with jy := c.jy.set s (some (-1)) } sl := ⟨fun s' k E => by
         have m:(c.jy.set s (some (-1))).getD s' none=some (k:Int):=E;rw[Zc0]at m;split at m
         · simp_all
         · exact f.sl s' k m,by show(c.jy.set s _).length=16;rw[Yat];exact f.l1,f.l2⟩
       have B:=o x { c with jy:=c.jy.set s (some (-1)) };have g:c.jq.length<=(K x { c with jy:=c.jy.set s (some (-1)) }).jq.length:=B.length_le;have gk:=hg.part (ZfP (jx:=jx) (n:=y) o k _) (ZjX (jx:=jx) (n:=y) r k _);have gw:Sgm C (K x { c with jy:=c.jy.set s (some (-1)) }) c.jq.length:=gk.part (Zfq _ _ _) (Ya8 _);obtain⟨sl1,G,H⟩:=t x v w _ S sl A gw Om;obtain⟨sl2,k1,k2,_⟩:=Zqg (S:=S) H f1 gk g;have lk:=(Zfq x s (K x { c with jy:=c.jy.set s (some (-1)) })).length_le;obtain⟨sl3,q1,q2⟩:=ZnM q o r t u k _ _ k2 (hg.from (Yah g lk)) D;have la:=(ZfP (jx:=jx) (n:=y) o k (ZZ x s (K x { c with jy:=c.jy.set s (some (-1)) }))).length_le;exact⟨sl3,(G.trans k1 g lk).trans q1 (Yah g lk) la,q2⟩
theorem ZvH(G:NOk jx)(r:∀z c,Pre c (K z c))(E:∀z c,PrC c (K z c))(R:WL C F h K a)(H:∀z,z<=b->z<jx.length->WL C F h K z)(T:b<jx.length)(v:∀z c,ZbY jx b c=some z->h z<=h b)(ka:kd F a=2)(kb:kd F b=2)(I:1<=h a)(J:1<=h b)(u:Tp F c sl)(hg:Sgm C (Zbo jx K a b c) c.jq.length)(M:S.length+h a<=64)(w:S.length+h b<=64):PutL C F c (Zbo jx K a b c) S sl 2:=by
 have p1:=ZfP (jx:=jx) (n:=b) r (b+2) c;have p2:=Zd9 (jx:=jx) (r a) (ZG jx K b (b+2) c);have r2:=Ze1 (jx:=jx) (E a) (ZG jx K b (b+2) c);unfold Zbo at hg ⊢;simp only at hg ⊢;have A:=fun hg=>ZnM (C:=C) (F:=F) (h:=h) (S:=S) G r E H v (b+2) c sl u hg w;generalize ZG jx K b (b+2) c=c1 at *
 have P1:=fun sl u hg=>Zir (jx:=jx) (c:=c1) (sl:=sl) (S:=S) Om I R (r a) u hg M;generalize putQ jx K a c1=c2 at *
 have p3:=Zd9 (jx:=jx) (r b) (Zc 11 0 (Zc 10 0 c2));have r3:=Ze1 (jx:=jx) (E b) (Zc 11 0 (Zc 10 0 c2));have P2:=fun sl u hg=>Zir (jx:=jx) (c:=Zc 11 0 (Zc 10 0 c2)) (sl:=sl) (S:=S) Om J (H b (Yac _) T) (r b) u hg w;have el:(Zc 11 0 (Zc 10 0 c2)).jq.length=c2.jq.length+2:=by simp[Zc]
 have e11:(Zc 11 0 (Zc 10 0 c2)).jq.getD (c2.jq.length+1) (0,0)=(11,0):=by simp[Zc]
 have pc2:Pre c2 (Zc 11 0 (Zc 10 0 c2)):=(Zb8 10 0 c2).trans (Zb8 11 0 _);have es:(Zc 11 0 (Zc 10 0 c2)).jy=c2.jy:=rfl;have r3':PrC c2 (putQ jx K b (Zc 11 0 (Zc 10 0 c2))):=r3;generalize Zc 11 0 (Zc 10 0 c2)=c3 at *
 generalize putQ jx K b c3=d at *
 have l3:c3.jq.length<=d.jq.length:=p3.length_le;have l2:c1.jq.length<=c2.jq.length:=p2.length_le;have l1:c.jq.length<=c1.jq.length:=p1.length_le;have N:d.jq.length<=C.jq.length:=by have:=hg.le;simp only[Yat]at this;exact this
 have p : ∀ i, c.jq.length <= i -> i < d.jq.length -> C.jq.getD i (0, 0) = if i = c2.jq.length then (10, d.jq.length) else d.jq.getD i (0, 0) := fun i f g => by
   rw[hg.at_ i f (by simp_all)];show(d.jq.set c2.jq.length (10,d.jq.length)).getD i (0,0)=_;rw[Yaa,Ya0];by_cases e:i=c2.jq.length
   · simp_all
   split<;>simp_all
 have gd:Sgm C d c3.jq.length:=⟨hg.co,N,fun i f g=>by rw[p i Om g,if_neg Om]⟩
 have g2:Sgm C c2 c.jq.length:=⟨Ydr r3' hg.co,by omega,fun i f g=>by rw[p i f Om,if_neg Om,Zex p3 Om,Zex pc2 g]⟩
 obtain⟨sl1,a1,a2⟩:=A (g2.part p2 r2);obtain⟨sl2,b1,b2⟩:=P1 _ a2 (g2.from l1);obtain⟨sl3,d1,d2⟩:=P2 sl2 (b2.same es) gd;rw[ka]at b1;rw[kb]at d1;obtain⟨L1,u1,u2,u3⟩:=a1.trans b1 l1 l2;obtain⟨L3,v1,v2,v3⟩:=d1;have O:=p c2.jq.length Om Om;rw[if_pos rfl]at O;have B:=p (c2.jq.length+1) Om Om;rw[if_neg Om,Zex p3 Om,e11]at B;unfold PutL;simp only[Yat];have P:c2.jq.length<d.jq.length:=by omega
 have E1:∀z,z<=c2.jq.length->(fun z=>if z<=c2.jq.length then L1 z else if z=c2.jq.length+1 then (2::S,sl2)else if z<d.jq.length then L3 z else (2::S,both sl2 sl3)) z=L1 z:=fun z t=>if_pos t;have E2:(fun z=>if z<=c2.jq.length then L1 z else if z=c2.jq.length+1 then (2::S,sl2)else if z<d.jq.length then L3 z else (2::S,both sl2 sl3)) (c2.jq.length+1)=(2::S,sl2):=by show(if c2.jq.length+1<=c2.jq.length then _ else if c2.jq.length+1=c2.jq.length+1 then _ else _)=_;rw[if_neg Om,if_pos rfl]
 have E3:∀z,c3.jq.length<=z->z<d.jq.length->(fun z=>if z<=c2.jq.length then L1 z else if z=c2.jq.length+1 then (2::S,sl2)else if z<d.jq.length then L3 z else (2::S,both sl2 sl3)) z=L3 z:=fun z f g=>by simp only;rw[if_neg Om,if_neg Om,if_pos g]
 have E4:(fun z=>if z<=c2.jq.length then L1 z else if z=c2.jq.length+1 then (2::S,sl2)else if z<d.jq.length then L3 z else (2::S,both sl2 sl3)) d.jq.length=(2::S,both sl2 sl3):=by simp only;rw[if_neg Om,if_neg Om,if_neg Om]
 generalize(fun z=>if z<=c2.jq.length then L1 z else if z=c2.jq.length+1 then (2::S,sl2)else if z<d.jq.length then L3 z else (2::S,both sl2 sl3))=L at *
 refine⟨both sl2 sl3,⟨L,(E1 _ Om).trans u1,E4,fun z f g=>?_⟩,⟨fun s n U=>?_,by rfl,by rw[Zn2,b2.l2,d2.l2];rfl⟩⟩
 ·
  rcases Yev z c2.jq.length with t|t|t
  ·obtain⟨q1,q2,q3,st,sl,q4,q5,q6⟩:=u3 z f t;rw[E1 z Om];exact⟨q1,q2,q3,st,sl,q4,q5.congr (E1 _ q5.le) Om,fun l=>(q6 l).congr (E1 _ (q6 l).le) (by have:=(q6 l).le;omega)⟩
  ·subst t;rw[E1 _ (Yac _),u2,O];refine⟨fun h=>(by cases h),by simp[Zy];omega,b2.l2,2::S,sl2,?_,⟨by omega,by omega,by rw[E2],by rw[E2];exact SLe.refl _⟩,fun _=>⟨P,Yac _,by rw[E4],by rw[E4];exact Zue⟩⟩;show(if (2:Nat)=2 then ZE 2 S sl2 else none)=_;rw[if_pos rfl,ZfA Om]
  ·by_cases Q:z=c2.jq.length+1
   ·subst Q;rw[E2,B]
    have m:L (c2.jq.length+1+1)=(S,sl2)∨(c2.jq.length+1+1=d.jq.length):=by
     rcases Yav (c2.jq.length+1+1) d.jq.length with q|q
     ·simp_all
     ·omega
    rcases m with m|m
    ·exact⟨fun h=>(by cases h),by rfl,b2.l2,S,sl2,rfl,⟨by omega,by omega,by rw[m],by rw[m];exact SLe.refl _⟩,fun h=>(by cases h)⟩
    simp_all
   ·have D:c3.jq.length<=z:=by omega
    obtain⟨q1,q2,q3,st,sl,q4,q5,q6⟩:=v3 z D g;rw[E3 z D g]
    have mv : ∀ {y : Nat}, Nx L3 z y d.jq.length st sl -> Nx L z y d.jq.length st sl := fun {y} q => by
      rcases Yav y d.jq.length with v|v
      · exact q.congr (E3 y (by have:=q.lt;omega) v) q.le
      · obtain rfl:y=d.jq.length:=by have:=q.le;omega
        have q7:=q.st;have q8:=q.sl;rw[v2]at q7 q8;exact⟨q.lt,q.le,by simp_all,by rw[E4];exact(Zuf).trans q8⟩
    exact⟨q1,q2,q3,st,sl,q4,mv q5,fun l=>mv (q6 l)⟩
 ·have o:(Zce d.jy c2.jy).getD s none=some (n:Int):=U;rcases Yav s 16 with f|f
  ·rw[Zkg f]at o;split at o
   ·rename_i e;exact Zk1 _ _ s _ (b2.sl s n (by simp_all)) (d2.sl s n o)
   simp_all
  ·rw[Yaa,Ya9 (by assumption)]at o;cases o
end
end
section
section
variable {C:CodeQ} {F g:Gq} {c d e:Cq} {n i j k x y a b p f:Nat} {S sl:List Nat} {t:Tr}
def hgQ(F:Gq):Nat->Nat->Nat
 | 0,_=>1
 | f + 1, n => match Zg (F.jx.getD n nq0) with
   | []=>1
   | [a]=>hgQ F f a
   | a::b::_=>if (F.jx.getD n nq0).op=3 then max (hgQ F f a) (hgQ F f b+1)else max (hgQ F f a) (hgQ F f b)
def hg(F:Gq)(n:Nat):Nat:=hgQ F (n+1) n
theorem Zjg(l:NOk F.jx):∀(f f' n:Nat),n<f->n<f'->hgQ F f n=hgQ F f' n
 | 0,_,_,h,_=>absurd h (Ya1 _)
 | _+1,0,_,_,h=>absurd h (Ya1 _)
 | f + 1, f' + 1, n, o, q => by
   have m:=Zcf l n;unfold hgQ;split
   · rfl
   · rename_i a e
     rw[e]at m;have:=m a (by simp);exact Zjg l f _ a Om Om
   · rename_i a b r e
     rw[e]at m;have:=m a (by simp);have:=m b (by simp);rw[Zjg l f f' a Om Om,Zjg l f f' b Om Om]
theorem ZlI:∀(f n:Nat),1<=hgQ F f n
 | 0,_=>Yac _
 | f + 1, n => by
   unfold hgQ;split
   · omega
   · exact ZlI f _
   · rename_i a b r e
     have:=ZlI f a;split <;> omega
theorem Zd0(n:Nat):1<=hg F n:=ZlI _ _
theorem ZlJ(h:NOk F.jx)(l:a<n):hgQ F n a=hg F a:=Zjg h n _ a l (Ybd _)
theorem Zf5(h:NOk F.jx)(l:Zg (F.jx.getD n nq0)=[a]):hg F n=hg F a:=by
 have:=Zcf h n a (by simp_all);rw[<-ZlJ h this]
 conv=>lhs;unfold hg hgQ
 rw[l]
theorem Zh9(h:NOk F.jx)(l:Zg (F.jx.getD n nq0)=[a,b]):hg F n=if (F.jx.getD n nq0).op=3 then max (hg F a) (hg F b+1)else max (hg F a) (hg F b):=by
 have m:=Zcf h n a (by simp_all);have o:=Zcf h n b (by simp_all);rw[<-ZlJ h m,<-ZlJ h o]
 conv=>lhs;unfold hg hgQ
 rw[l]
theorem ZpR(l:NOk F.jx){t:Nat}(h:t∈Zg (F.jx.getD n nq0)):hg F t<=hg F n:=by
 cases m:(F.jx.getD n nq0).fs with
 | none=>unfold Zg at h;simp_all
 | some a=>
  cases o:(F.jx.getD n nq0).sn with
  | none=>
   have e:Zg (F.jx.getD n nq0)=[a]:=by unfold Zg;rw[m,o]
   rw[e]at h;rw[Zf5 l e,Yap.1 h];omega
  | some b=>
   have e:Zg (F.jx.getD n nq0)=[a,b]:=by unfold Zg;rw[m,o]
   rw[e]at h;rw[Zh9 l e];rw[Yau,Yap]at h;rcases h with rfl|rfl <;> split <;> omega
theorem ZwY{X:Nat->Prop}(l:NOk F.jx)(h:Rch F.jx X n x):hg F x<=hg F n:=by
 induction h using Rch.ind with
 | last _ h=>exact ZpR l h
 | step _ h _ ih=>exact Yah ih (ZpR l h)
theorem ZwZ(l:NOk F.jx)(h:ZbY F.jx y c=some x):hg F x<=hg F y:=by
 rcases(Zsj h).2 with e|e
 ·simp_all
 ·exact ZwY l e
theorem Zl1(l:NOk F.jx)(q:WG F)(n:Nat):kd F n≠0:=by
 have key:∀m n,n<m->kd F n≠0:=by
  intro m
  induction m with
  | zero=>omega
  | succ m ih=>
   intro n u;have s:=ZfQ q n;have r:∀m,m<=n->Shp F m:=fun m _=>Zna (ZfQ q m);generalize h:F.jx.getD n nq0=z at *
   cases s using WTn.ind with
   | con v _=>rw[Zfp h];decide
   | pick i _=>rw[Zjq h];unfold Zb3;split<;>simp
   | over o p _ _=>rw[Zl0 h];decide
   | ar o a b _ _ _=>rw[ZlW l r h];split<;>simp
   | neg p _=>
    rw[ZlY l r h];exact ih p (by have:=Zes l (show(F.jx.getD n _).fs=some p by rw[h]);omega)
   | grp o k p _ _ _=>rw[ZlX h];decide
   | or a b _ _=>rw[ZlZ h];decide
 exact key _ n (Ybd _)
theorem ZgQ(l:Sgm C (Zc op arg e) c.jq.length)(h:c.jq.length<=e.jq.length){sl2:List Nat}(q:Lab C c.jq.length e.jq.length (S,sl) (st,sl2))(m:Tp F e sl2)(r:op≠9)(o:op≠10)(s:Zy C e.jq.length (op,arg)=true)(u:Zt C (op,arg) st sl2=some (k::S,sl2)):PutL C F c (Zc op arg e) S sl k:=by
 obtain⟨g1,g2⟩:=l.emit h;refine⟨sl2,?_,m.same rfl⟩;rw[ZdX];exact q.trans (Lab.one g2 r o s m.l2 u) h Om
theorem Zti(q:NOk F.jx)(w:WG F)(K:C.ju=F.kw)(J:C.jw=F.qx):∀(f n:Nat),n<f->n<F.jx.length->WL C F (hg F) (Zr F.jx f) n
 | 0,_,h,_=>absurd h (Ya1 _)
 | f + 1, n, hn, Y => by
   intro c S sl E l hS;have s:=Zcf q n;have IH:∀z,z<n->WL C F _ _ z:=fun z r=>Zti q w K J f z Om Om;have A:∀z c,Pre c (Zr F.jx f z c):=fun z c=>Zhm f z c;have M:∀z c,PrC c (Zr F.jx f z c):=fun z c=>ZmT f z c;have N:∀m,m<=n->Shp F m:=fun m _=>Zna (ZfQ w m);have O:=w n Y
   -- what takes one, two
   have one:∀p,p<n->S.length+hg F p<=64->Sgm C (putQ F.jx _ p c) _->PutL C F c _ S _ _:=fun p P Q R=>Zir (Zl1 q w p) (Zd0 p) (IH p P) (A p) E R Q;have l1:=fun p=>(Zd9 (jx:=F.jx) (A p) c).length_le;by_cases u:(F.jx.getD n nq0).op=10
   · generalize r:F.jx.getD n nq0=z at *
     cases O using WTn.ind with
     | or a b ka kb=>
       have G:(F.jx.getD n nq0).fs=some a:=by rw[r]
       have H:(F.jx.getD n nq0).sn=some b:=by rw[r]
       have T:=s a (by simp[Zg]);have a0:=s b (by simp[Zg]);have e2:=Zh9 q (by rw[r];rfl);rw[r]at e2;have e2':hg F n=max _ _:=e2;rw[Zky (by rw[r]) G H]at l ⊢;rw[ZlZ r];exact ZvH q A M (IH a T) (fun z r _=>IH z Om) Om (fun z c h=>ZwZ q h) ka kb (Zd0 a) (Zd0 b) E l Om Om
     | con v _=>cases u
     | pick i _=>cases u
     | over o p _ _=>cases u
     | ar o a b _ _ _=>cases u
     | neg p _=>cases u
     | grp o k p _ _ _=>simp_all;omega
   · rw[Zgu u]at l ⊢
     generalize r:F.jx.getD n nq0=z at *
     cases O using WTn.ind with
     | con v _=>
       rw[Zfp r];have e:ZbD ⟨0,v,none,none⟩ ((Zg ⟨0,v,none,none⟩).foldl (fun c t=>putQ F.jx (Zr F.jx f) t c) c)=Zc 0 c.jj.length { c with jj:=c.jj++[v] }:=rfl;rw[e]at l ⊢
       have U:c.jj.length<C.jj.length:=by
         have:=l.co.length_le;have e3:(Zc 0 c.jj.length { c with jj:=c.jj++[v] }).jj.length=c.jj.length+1:=by simp[Zc]
         omega
       have:=Zd0 (F:=F) n;exact ZgQ l (Yac _) (Lab.refl _ _ _) (E.same rfl) Dc Dc (by simpa [Zy] using U) (by show ZE 1 S sl=_;exact ZfA Om _)
     | pick i L=>
       rw[Zjq r];have e:ZbD ⟨1,(i),none,none⟩ ((Zg ⟨1,(i),none,none⟩).foldl (fun c t=>putQ F.jx (Zr F.jx f) t c) c)=Zc 1 i c:=rfl;rw[e]at l ⊢;have:=Zd0 (F:=F) n
       have B:(C.ju[i]?.map Zb3).getD 0=Zb3 (F.kw.getD i nd00):=by
         rw[K,List.getElem?_eq_getElem L,Yaa,List.getElem?_eq_getElem L];rfl
       exact ZgQ (c:=c) l (Yac _) (Lab.refl _ _ _) E Dc Dc (by simpa [Zy,K] using L) (by show ZE ((C.ju[i]?.map Zb3).getD 0) S sl=_;rw[B];exact ZfA Om sl)
     | over o p I Z=>
       rw[Zl0 r];have e:ZbD ⟨2,(o:Nat),some p,none⟩ ((Zg ⟨2,(o:Nat),some p,none⟩).foldl (fun c t=>putQ F.jx (Zr F.jx f) t c) c)=Zc 2 o (putQ F.jx (Zr F.jx f) p c):=rfl;have eh:=Zf5 q (n:=n) (a:=p) (by rw[r];rfl);rw[e]at l ⊢;obtain⟨sl1,q1,q2⟩:=one p (s p (by simp[Zg])) Om (l.part (Zb8 _ _ _) (Ya8 _));have:=Zd0 (F:=F) n;rw[Z]at q1;exact ZgQ l (l1 p) q1 q2 Dc Dc (by simpa [Zy] using I) (by show(if (3:Nat)=3 then ZE 2 S sl1 else none)=_;rw[if_pos rfl];exact ZfA Om _)
     | neg p V=>
       rw[ZlY q N r];have e:ZbD ⟨4,0,some p,none⟩ ((Zg ⟨4,0,some p,none⟩).foldl (fun c t=>putQ F.jx (Zr F.jx f) t c) c)=Zc 4 0 (putQ F.jx (Zr F.jx f) p c):=rfl;have eh:=Zf5 q (n:=n) (a:=p) (by rw[r];rfl);rw[e]at l ⊢;obtain⟨sl1,q1,q2⟩:=one p (s p (by simp[Zg])) Om (l.part (Zb8 _ _ _) (Ya8 _));have:=Zd0 (F:=F) n;have B:Zby (kd F p)=true:=by rcases V with e|e <;> rw[e] <;> rfl
       exact ZgQ l (l1 p) q1 q2 Dc Dc (by rfl) (by show(if Zby (kd F p)then ZE (kd F p) S sl1 else none)=_;rw[if_pos B];exact ZfA Om _)
     | grp o k p I B W=>
       rw[ZlX r]
       have e : ZbD ⟨5 + o, (k), some p, none⟩ ((Zg ⟨5 + o, (k), some p, none⟩).foldl (fun c t => putQ F.jx (Zr F.jx f) t c) c) = Zc (5 + o) k (putQ F.jx (Zr F.jx f) p c) := by
         show(if 5+o=0 then _ else Zc (5+o) k (putQ F.jx (Zr F.jx f) p c))=_;rw[if_neg Om]
       have eh:=Zf5 q (n:=n) (a:=p) (by rw[r];rfl);rw[e]at l ⊢;obtain⟨sl1,q1,q2⟩:=one p (s p (by simp[Zg])) Om (l.part (Zb8 _ _ _) (Ya8 _));have:=Zd0 (F:=F) n;rw[W]at q1
       have D:Zt C (5+o,k) (2::S) sl1=some (2::S,sl1):=by
         have e:Zt C (5+o,k) (2::S) sl1=if (2)=2 then ZE 2 S sl1 else none:=by
           obtain rfl|rfl|rfl|rfl:o=0∨o=1∨o=2∨o=3:=by omega
           all_goals rfl
         rw[e,if_pos rfl];exact ZfA Om _
       have X:Zy C (putQ F.jx (Zr F.jx f) p c).jq.length (5+o,k)=true:=by
         have e : ∀ m, Zy C m (5 + o, k) = decide (k < C.jw.length) := fun m => by
           obtain rfl|rfl|rfl|rfl:o=0∨o=1∨o=2∨o=3:=by omega
           all_goals rfl
         rw[e,J];exact decide_eq_true B
       exact ZgQ l (l1 p) q1 q2 Om Om X D
     | ar o a b I G H=>
       rw[ZlW q N r];have e:ZbD ⟨3,(o),some a,some b⟩ ((Zg ⟨3,(o),some a,some b⟩).foldl (fun c t=>putQ _ _ t c) c)=Zc 3 o (putQ _ _ b (putQ F.jx (Zr F.jx f) a c)):=rfl;have eh:=Zh9 q (by rw[r];rfl);rw[r,if_pos rfl]at eh;rw[e]at l ⊢;have g2:=l.part (Zb8 _ _ _) (Ya8 _);have pb:=Zd9 (jx:=F.jx) (A b) (putQ F.jx (Zr F.jx f) a c);have cb:=Ze1 (jx:=F.jx) (M b) (putQ F.jx (Zr F.jx f) a c);obtain⟨sl1,q1,q2⟩:=one a (s a (by simp[Zg])) Om (g2.part pb cb);have la:=l1 a;obtain⟨sl2,r1,r2⟩:=Zir (jx:=F.jx) (S:=kd F a::S) (Zl1 q w b) (Zd0 b) (IH b (s b (by simp[Zg]))) (A b) q2 (g2.from la) (by simp_all;omega);have:=Zd0 (F:=F) n;have lb:=pb.length_le
       have D:Zt C (3,o) (kd F b::kd F a::S) sl2=some ((if kd F a=1/\kd F b=1 then 1 else 2)::S,sl2):=by
         show(if Zby (kd F a) && Zby (kd F b)then ZE (max (kd F a) (kd F b)) S sl2 else none)=_;have k1:Zby (kd F a)=true:=by rcases G with e|e <;> rw[e] <;> rfl
         have k2:Zby (kd F b)=true:=by rcases H with e|e <;> rw[e] <;> rfl
         have k3:max (kd F a) (kd F b)=if kd F a=1/\kd F b=1 then 1 else 2:=by
           rcases G with e1|e1 <;> rcases H with e2|e2 <;> rw[e1,e2] <;> rfl
         rw[k1,k2,k3,if_pos (by rfl)];exact ZfA Om _
       exact ZgQ l Om (q1.trans r1 la lb) r2 Dc Dc (by simpa [Zy] using I) D
     | or a b _ _=>simp_all
theorem ZuW(m:NOk F.jx)(q:WG F)(z:C.ju=F.kw)(u:C.jw=F.qx)(A:r<F.jx.length)(l:C.jq=(Zv F r).jq)(v:C.jj=(Zv F r).jj)(D:hg F r<=64):∃L,L 0=([],List.replicate 16 0)/\(L C.jq.length).1=[kd F r]/\Lbl C L 0 C.jq.length:=by
 have w:Sgm C (putQ F.jx (Zr F.jx (r+1)) r (c0 F)) (c0 F).jq.length:=⟨v▸Ya8 _,l▸Yac _,fun i _ _=>by rw[l];rfl⟩
 have B : Tp F (c0 F) (List.replicate 16 0) := ⟨fun s n h => (by
   have o:(List.replicate _ _).getD s _=some _:=h;rw[Yaa,Ybs]at o;split at o <;> cases o),by rfl,by simp⟩
 obtain⟨sl',⟨L,l1,l2,l3⟩,_⟩:=Zir (S:=[]) (Zl1 m q r) (Zd0 r) (Zti m q z u (r+1) r (Ybd _) A) (fun c=>Zhm _ _ c) B w (by simp_all);refine⟨L,l1,?_,?_⟩
 ·rw[l];have l2':L (Zv F r).jq.length=(kd F r::[],sl'):=l2;rw[l2']
 ·rw[l];exact l3
end
end
section
section
variable {st:List Ser} {c:CodeQ} {t:Int}
theorem Zzl(d:LS.Fwd c){i:Nat}(e:i<c.jq.length)(m:MQ):i<Zbj i (c.jq.getD i (0,0)) m:=by
 have h:=d i e;unfold Zbj;split
 ·rename_i f;exact(ZgM h (by rw[f];rfl)).1
 ·split
  ·rename_i a;exact(ZgM h (by rw[a.1];rfl)).1
  ·omega
theorem ZrV(a:LS.Fwd c):∀(f i:Nat) (m:MQ),c.jq.length<=f+i->∃r,runE st t c f i m=some r/\f<=r.1+(c.jq.length - i)
 | 0,i,m,h=>⟨_,Zg5 Om,by omega⟩
 | f + 1, i, m, h => by
   by_cases d:c.jq.length<=i
   · exact⟨_,Zg5 d,by omega⟩
   · have e:=Zzl a (show i<c.jq.length by omega) m
     obtain⟨r,g,j⟩:=ZrV a f (Zbj i (c.jq.getD i (0,0)) m) (doE st t c (c.jq.getD i (0,0)) m) Om;exact⟨r,by rwa [Zj4 _ _ _ _ _ Om],by omega⟩
end
theorem ZDf{f l s:Int}{ts:List Int}(h:Zdr f l s=some ts):ts.length<=50:=by
 by_cases a:badT f l s
 ·unfold Zdr at h;simp_all
 ·rw[ZsN a]at h;split at h
  ·cases h
  ·injection h with h;subst h;simp_all
end
section
section
variable {C:CodeQ} {F g:Gq} {L:Nat->List Nat×List Nat} {c:Cq} {K:Nat->Cq->Cq} {jx:List Nq} {n i j k x y fl:Nat} {t:Tr}
def hT:Tr->Nat
 | .nil=>1
 | .node _ _ a l r=>if a.jk<=2 then 1 else if a.jk=3 then hT l else if a.jk=5 then hT l else if a.jk=6 then max (hT l) (hT r)else max (hT l) (hT r+1)
def fT(m:Nat):Nat:=if m=4 then 0 else if m=3 then 1 else 2
theorem Zh8{t:Tr}(h:GT t):1<=Zb5 t/\Zb5 t<=4:=by
 cases h using GT.ind with
 | num n h=>exact⟨by show 1<=4;omega,by show 4<=4;omega⟩
 | sel nm cs h=>exact⟨by show 1<=4;omega,by show 4<=4;omega⟩
 | win o n nm cs _ _ _ _=>exact⟨by show 1<=4;omega,by show 4<=4;omega⟩
 | neg l _=>exact⟨by show 1<=4;omega,by show 4<=4;omega⟩
 | grp g ns l _ _ _=>exact⟨by show 1<=4;omega,by show 4<=4;omega⟩
 | bin o l r _ _ _=>
  show 1<=(if o<2 then 2 else 3)/\(if o<2 then 2 else 3)<=4;split<;>simp
 | or l r _ _=>exact⟨by show 1<=1;omega,by show 1<=4;omega⟩
theorem ZlG(h:GT t):hT t+2<=3*Zbz t+fT (Zb5 t)/\1<=hT t:=by
 induction h using GT.ind with
 | num n _=>exact⟨by constructor<;>omega,Yac _⟩
 | sel nm cs _=>exact⟨by constructor<;>omega,Yac _⟩
 | win o n nm cs _ _ _ _=>exact⟨by constructor<;>omega,Yac _⟩
 | neg l e ih=>
  have u:=Zh8 e;refine⟨?_,ih.2⟩;show hT l+2<=3*(1+(brk l 4+Zbz l))+0;have d:=ih.1;unfold brk;unfold fT at d;split at d
  ·omega
  ·rw[if_pos Om];split at d <;> omega
 | grp o ns l _ _ e ih=>
  refine⟨?_,ih.2⟩;show hT l+2<=3*(1+(brk l 1+Zbz l))+0;have d:=ih.1;unfold fT at d;split at d
  ·omega
  ·split at d <;> omega
 | bin o l r v e q m p=>
  have tl:=Zh8 e;have tr:=Zh8 q;have e1:hT (.node 0 0 (nd0 4 o) l r)=max _ _:=rfl;have e2:Zbz (.node 0 0 (nd0 4 o) l r)=max _ _:=rfl;have e3:Zb5 (.node 0 0 (nd0 4 o) l r)=Zz _:=rfl
  have s:Zz (nd0 4 o)=2∨Zz (nd0 4 o)=3:=by
   show(if o<2 then 2 else 3)=2∨(if o<2 then 2 else 3)=3;split <;> simp
  rw[e1,e2,e3];generalize Zz (nd0 4 o)=T at *
  have d:=m.1;have f:=p.1;refine⟨?_,by omega⟩;unfold brk;unfold fT at d f ⊢;generalize Zb5 l=a at *
  generalize Zb5 r=b at *
  generalize hT l=hl' at *
  generalize hT r=hr' at *
  generalize Zbz l=nl at *
  generalize Zbz r=nr at *
  obtain rfl|rfl|rfl|rfl:a=1∨a=2∨a=3∨a=4:=by omega
  all_goals obtain rfl|rfl|rfl|rfl:b=1∨b=2∨b=3∨b=4:=by omega
  all_goals rcases s with rfl|rfl
  all_goals simp at d f ⊢
  all_goals omega
 | or l r e q m p=>
  have tl:=Zh8 e;have tr:=Zh8 q;have e1:hT (.node 0 0 (nd0 6 0) l r)=max _ _:=rfl;have e2:Zbz (.node 0 0 (nd0 6 0) l r)=max (brk l 1+Zbz l) (brk r 2+Zbz r):=rfl;rw[e1,e2];have d:=m.1;have f:=p.1;refine⟨?_,by omega⟩;show _<=_+2;unfold fT at d f;split at d <;> split at f <;> (try split at d) <;> (try split at f) <;> omega
theorem ZpQ(a:Zg (F.jx.getD n nq0)=[]):hg F n=1:=by
 unfold hg hgQ;rw[a]
theorem ZAG(q:Nd×Nat)(g:Gq):∃i:Nat,(ZJ q g).2.jx.getD (ZJ q g).1 nq0=⟨1,(i:Nat),none,none⟩:=by
 unfold ZJ;split
 ·exact⟨_,(Zhr _ _).1⟩
 ·exact⟨_,(Zhr _ _).1⟩
theorem ZAi(d:NOk F.jx)(h:GT t):∀g,Px (Zb t g).2 F->hg F (Zb t g).1<=hT t:=by
 have leaf:∀ {z:Nq} {g:Gq},Zg z=[]->Px (addQ z g).2 F->hg F _=1:=fun {z g} I a=>ZpQ (by rwa [ZcU a])
 have pk : ∀ {q : Nd × Nat} {g : Gq}, Px _ F -> hg F _ = 1 := fun {q g} a => by
   obtain⟨i,B⟩:=ZAG q g;exact ZpQ (by rw[ZfR a (Zgk q g).2 B];rfl)
 induction h using GT.ind with
 | num v J=>exact fun g a=>Ydh (leaf rfl a)
 | sel nm cs D=>exact fun g a=>Ydh (pk a)
 | win o v nm cs u E G D=>
  intro g a;have e:Zb (Zbg ⟨2,o,(v),nm,cs,[]⟩) g=addQ ⟨2,(o),some (ZJ (Zba _,v) g).1,none⟩ (ZJ (Zba _,v) g).2:=rfl;rw[e]at a ⊢;rw[Zf5 d (by rw[ZcU a];rfl),pk ((ZcD _ _).trans a)];exact Yac _
 | neg l m ih=>
  intro g a;have e:Zb (.node 0 0 (nd0 3 0) l .nil) g=negQ _ _:=rfl;have w:=(ZlG (GT.neg l m)).2;rw[e]at a ⊢;have IH:=ih g ((Zmo).trans a);unfold negQ at a ⊢;split at a
  ·exact Yah (Ydh (leaf rfl a)) w
  ·rw[Zf5 d (by rw[ZcU a];rfl)];exact IH
 | grp o ns l u H m ih=>
  intro g a;have e:Zb (.node 0 0 ⟨5,o,0,[],[],ns⟩ l .nil) g=addQ ⟨5+o,((Zbd ns _).1),some _,none⟩ (Zbd ns _).2:=rfl;rw[e]at a ⊢;rw[Zf5 d (by rw[ZcU a];rfl)];exact ih g ((ZlF).trans ((ZcD _ _).trans a))
 | bin o l r u m A p s=>
  intro g a;have e:Zb (.node 0 0 (nd0 4 o) l r) g=Zbs o _ _ _:=rfl;have w:=(ZlG (GT.bin o l r u m A)).2;rw[e]at a ⊢;have f:=(ZmG).trans a;have IL:=p g ((Zfw _ _).trans f);have IR:=s _ f;unfold Zbs at a ⊢;split at a
  ·exact Yah (Ydh (leaf rfl a)) w
  ·rw[Zh9 d (by rw[ZcU a];rfl),ZcU a];show(if (3:Nat)=3 then max _ _ else _)<=max (hT l) (hT r+1);split<;>omega
 | or l r m A p s=>
  intro g a;have e:Zb (.node 0 0 (nd0 6 0) l r) g=addQ _ _:=rfl;rw[e]at a ⊢;have f:=(ZcD _ _).trans a;have IL:=p g ((Zfw _ _).trans f);have IR:=s _ f;rw[Zh9 d (by rw[ZcU a];rfl),ZcU a];show(if (10:Nat)=3 then _ else max _ _)<=max (hT l) (hT r);split<;>omega
theorem ZCL{z:Nat}{sl:List Nat}(h:Zt C (10,z) st sl=some (st',sl')):st'=st/\sl'=sl:=by
 cases st with
 | nil=>cases h
 | cons k r=>
  have a:(if k=2 then ZE 2 r _ else none)=some _:=h;split at a
  ·rename_i e;unfold ZE at a
   simp_all
  simp_all
theorem ZxT(h:Lbl C L 0 C.jq.length)(i0:Nat)(w:i0<C.jq.length):Lbl { C with jq:=ZL C.jq i0 } L 0 C.jq.length:=by
 by_cases a:(C.jq.getD i0 (0,0)).1=10/\(C.jq.getD i0 (0,0)).2<C.jq.length/\(C.jq.getD (C.jq.getD i0 (0,0)).2 (0,0)).1=10
 ·have e:ZL C.jq i0=C.jq.set i0 (10,(C.jq.getD (C.jq.getD i0 (0,0)).2 (0,0)).2):=by unfold ZL;rw[if_pos a]
  have d : ∀ x z, Zy { C with jq := ZL C.jq i0 } x z = Zy C x z := fun x z => by
    unfold Zy
    simp_all
  have f:∀z st sl,Zt { C with jq:=ZL C.jq i0 } z _ _=Zt C z st sl:=fun _ _ _=>rfl
  have hg : ∀ x, (ZL C.jq i0).getD x (0, 0) = if x = i0 then (10, (C.jq.getD (C.jq.getD i0 (0, 0)).2 (0, 0)).2) else C.jq.getD x (0, 0) := fun x => by
    rw[e,Yaa,Ya0];by_cases e:x=i0
    · simp_all
    split<;>simp_all
  intro x m o;obtain⟨q1,q2,q3,st,sl,q4,q5,q6⟩:=h x m o;show((ZL C.jq i0).getD x (0,0)).1≠9/\Zy _ x ((ZL C.jq i0).getD x (0,0))=true/\(L x).2.length=16/\∃st sl,Zt _ ((ZL C.jq i0).getD x (0,0)) (L x).1 (L x).2=some (st,sl)/\Nx L x (x+1) C.jq.length st sl/\(((ZL C.jq i0).getD x (0,0)).1=10->Nx L x ((ZL C.jq i0).getD x (0,0)).2 C.jq.length st sl)
  simp only[d,f];rw[hg];by_cases ex:x=i0
  ·subst ex;rw[if_pos rfl];obtain⟨c1,c2,c3⟩:=a;have J:=q6 c1;obtain⟨r1,r2,r3,st2,sl2,r4,r5,r6⟩:=h _ (Yag _) c2;have J2:=r6 c3;generalize r:C.jq.getD x (0,0)=xx at *
   obtain⟨op,u⟩:=xx;simp only at c1 c2 c3 J r1 r2 r3 r4 r5 r6 J2 ⊢;subst c1;generalize s:C.jq.getD u (0,0)=yy at *
   obtain⟨op2,v⟩:=yy;simp only at c3 r4 J2 ⊢;subst c3;obtain⟨s1,s2⟩:=ZCL r4;subst s1;subst s2;have l:=J2.le;have p:=J.lt;have q:=J2.lt;refine⟨fun h=>(by cases h),by simp[Zy];omega,q3,st,sl,q4,q5,fun _=>⟨by omega,l,J2.st▸J.st,J2.sl.trans J.sl⟩⟩
  ·rw[if_neg ex];exact⟨q1,q2,q3,st,sl,q4,q5,q6⟩
 ·have e:ZL C.jq i0=C.jq:=by unfold ZL;rw[if_neg a]
  simp_all
theorem Zqy:∀(k:Nat) (C:CodeQ),k<=C.jq.length->Lbl C L 0 C.jq.length->Lbl { C with jq:=ZcI k C.jq } L 0 C.jq.length
 | 0,_,_,h=>h
 | k + 1, C, f, h => by
   have l:=ZxT h k Om;have d:(ZL C.jq k).length=C.jq.length:=by unfold ZL;split <;> simp
   have e:=Zqy k { C with jq:=ZL C.jq k } (by simp_all;omega) (by simp_all);have a:Lbl { C with jq:=ZcI k (ZL C.jq k) } L 0 (ZL C.jq k).length:=e;rw[d]at a;exact a
def CoV(c:Cq):Prop:=∀v∈c.jj,vOk v
theorem Zi4(d:∀c,CoV c->CoV (K n c))(h:CoV c):CoV (putQ jx K n c):=by
 cases a:ZK n c.jy with
 | some s=>rw[Zd8 a];split <;> exact h
 | none=>
  rw[ZdR a];have q:=d (decL n c) h;split
  ·exact q
  ·split
   ·exact q
   omega
theorem Zoz(a:∀z c,CoV c->CoV (K z c)):∀(k:Nat) (c:Cq),CoV c->CoV (ZG jx K n k c)
 | 0,_,h=>h
 | k + 1, c, h => by
   unfold ZG;split
   · rename_i z s _ _
     exact Zoz a k _ (a z _ h)
   omega
theorem ZoA (a : ∀ z c, CoV c -> CoV (K z c)) : ∀ (ts : List Nat) (c : Cq), CoV c -> CoV (ts.foldl (fun c t => putQ jx K t c) c)
  | [],_,h=>h
  | t::ts,c,h=>by rw[Ybp];exact ZoA a _ _ (Zi4 (a t) h)
theorem ZoB(d:NOk jx):∀(f n:Nat) (c:Cq),CoV c->CoV (Zr jx f n c)
 | 0,_,_,h=>h
 | f + 1, n, c, h => by
   have a:=fun z c=>ZoB d f z c;unfold Zr;simp only;split
   · unfold Zbo
     exact Zi4 (a _) (Zi4 (a _) (Zoz a _ c h))
   · have q:=ZoA (jx:=jx) a (Zg (jx.getD n nq0)) c h
     generalize(Zg (jx.getD n nq0)).foldl (fun c t=>putQ jx (Zr jx f) t c) c=e at *
     unfold ZbD;split
     · intro v p
       have m:v∈e.jj++[(jx.getD n _).arg]:=p;rcases Yar.1 m with l|l
       · exact q v l
       · rw[Yap.1 l]
         by_cases o:n<jx.length
         · have:=(d n o).ar
           constructor<;>simp_all
         · rw[show jx.getD n _=nq0 by simp[o]]
           exact⟨by decide,by decide⟩
     · exact q
theorem ZBv(h:Zy C x (op,arg)=true)(d:op<=13)(a:Shrt C):arg<65536:=by
 have e:=a.c;have f:=a.s;have hg:=a.g;have l:=a.i;unfold Zy at h;simp only at h;split at h <;> (have:=of_decide_eq_true h;omega)
end
end
section
structure Cmp (t:Tr) (F:Gq) (r:Nat):Prop where
 nok:NOk F.jx
 lt:r<F.jx.length
 wg:WG F
 tab:TabV F
 kd:kd F r=Zf t
 ev:∀st tm,Go.Proofs.YtcdgkkfipdoeeaaGreatDoor.ev st tm F r=.inl (sayT st tm t)
 hg:hg F r<=64
theorem Zk7(h:ZD q=.ok t)(fl:Nat):Cmp t (Zb t (g0 fl)).2 (Zb t (g0 fl)).1:=by
 obtain⟨c,g⟩:=ZmU h;have d:=Ze2 h;have a:=Zws d.1 d.2.1 d.2.2 fl;obtain⟨s,f⟩:=ZAl a c.gt (g0 fl) (ZDk h) g ⟨fun x e=>(by cases e),fun x e=>(by cases e)⟩ (fun y i=>absurd i (Ya1 _)) (Px.refl _);have j:=ZAi a c.gt _ (Px.refl _);have k:=(ZlG c.gt).1;have l:Zbz t<=20:=by have:=c.nd;unfold nd at this;omega
 have m:fT (Zb5 t)<=2:=by unfold fT;split <;> (try split) <;> omega
 exact⟨a,f,s.wt,s.tab,s.kd,s.ev s.wt,by omega⟩
theorem Zok(h:ZD q=.ok t)(fl:Nat):∃L,L 0=([],List.replicate 16 0)/\(L (LS.codeOf t fl).jq.length).1=[Zf t]/\Lbl (LS.codeOf t fl) L 0 (LS.codeOf t fl).jq.length:=by
 have m:=Zk7 h fl;have a:=ZuP t fl;obtain⟨L,l1,l2,l3⟩:=ZuW (C:=⟨(Zv (Zb t (g0 fl)).2 (Zb t (g0 fl)).1).jj,(Zb t (g0 fl)).2.kw,(Zb t (g0 fl)).2.qx,(Zv (Zb t (g0 fl)).2 (Zb t (g0 fl)).1).jq⟩) m.nok m.wg rfl rfl m.lt rfl rfl m.hg;have l2':(L (Zv _ _).jq.length).1=[Go.Proofs.YtcdgkkfipdoeeaaGreatDoor.kd _ _]:=l2;refine⟨L,l1,by rw[a,l2',m.kd],?_⟩;rw[a];by_cases c:4<=fl
 ·have e:LS.codeOf t fl=⟨(Zv (Zb t (g0 fl)).2 (Zb t (g0 fl)).1).jj,(Zb t (g0 fl)).2.kw,(Zb t (g0 fl)).2.qx,ZcI (Zv (Zb t (g0 fl)).2 (Zb t (g0 fl)).1).jq.length (Zv (Zb t (g0 fl)).2 (Zb t (g0 fl)).1).jq⟩:=by
   unfold LS.codeOf;simp only;rw[if_pos c];rfl
  rw[e];exact Zqy _ _ (Yac _) l3
 ·have e:LS.codeOf t fl=⟨(Zv (Zb t (g0 fl)).2 (Zb t (g0 fl)).1).jj,(Zb t (g0 fl)).2.kw,(Zb t (g0 fl)).2.qx,(Zv (Zb t (g0 fl)).2 (Zb t (g0 fl)).1).jq⟩:=by
   unfold LS.codeOf;simp only;rw[if_neg c]
  simp_all
theorem Zom(h:ZD q=.ok t)(fl:Nat):∃m,1<=m/\ZcR (ZbJ (LS.codeOf t fl))=.ok (LS.codeOf t fl,m,Zdd (LS.codeOf t fl).jq):=by
 have m:=Zk7 h fl;obtain⟨L,l1,l2,l3⟩:=Zok h fl;obtain⟨a,_,d⟩:=Zla h fl;have A:=(ZmU h).2;have z:=Zet t;have k:=(Zlb (Ze2 h).1 fl).2
 have f := fun j => by
   by_cases l:4<=fl
   · exact(ZuQ (Ze2 h).1 l).2 j
   · have e:(LS.codeOf t _).jq=(Zv _ _).jq:=if_neg l
     rw[e];exact k j
 have n:CoV (Zv _ (Zb t (g0 fl)).1):=Zi4 (fun c s=>ZoB m.nok _ _ c s) (fun v u=>by cases u)
 have o : Wrq _ := ⟨a, n, m.tab.se, m.tab.gr, fun x w => by
   obtain⟨i,p,rfl⟩:=List.getElem_of_mem w;have e:(LS.codeOf t fl).jq.getD i (0,0)=(LS.codeOf t _).jq[i]:=by simp[p]
   have g:=(f i).2;have r:=(l3 i (Yag _) p).2.1;rw[e]at g r;exact⟨g,ZBv r g a⟩⟩
 obtain⟨mm,q1,q2⟩:=ZD1 l3 (by rw[l1]) (by rw[l1];exact SLe.refl _) d (by simp_all;omega);refine⟨mm,q1,?_⟩;unfold ZcR;rw[Zvr o]
 simp_all
theorem ZuS(h:ZD q=.ok t)(fl:Nat)(st:List Ser)(tm:Int){f:Nat}(g:(LS.codeOf t fl).jq.length<=f):∃k sl,runE st tm (LS.codeOf t fl) f 0 mq0=some (k,⟨[.inl (sayT st tm t)],sl⟩)/\f<=k+(LS.codeOf t fl).jq.length:=by
 have m:=Zk7 h fl;obtain⟨l,n⟩:=Zlb (Ze2 h).1 fl;have d:=ZvR (st:=st) (tm:=tm) (C:=LS.codeOf t _) m.nok m.wg rfl rfl;obtain⟨k,sl,e⟩:=ZuV (C:=LS.codeOf t fl) (fl:=fl) m.nok m.lt l (fun j=>(n j).1) rfl rfl d g;obtain⟨L,_,_,l3⟩:=Zok h fl;obtain⟨r,a,p⟩:=ZrV (st:=st) (t:=tm) (c:=LS.codeOf t fl) (fun i o=>(l3 i (Yag _) o).2.1) f 0 mq0 Om;rw[e]at a;injection a with a;subst a;rw[m.ev]at e
 simp_all
theorem Zon(h:ZD q=.ok t)(fl:Nat)(st:List Ser):∀(ts:List Int) (f:Nat),(LS.codeOf t fl).jq.length*ts.length<=f->∃k,ZbO st (LS.codeOf t fl) f ts=some (ts.map (Zeu st t),k)
 | [],f,_=>⟨f,rfl⟩
 | tm :: ts, f, a => by
   rw[Yaj,Nat.mul_succ]at a;obtain⟨k,sl,c,e⟩:=ZuS h fl st tm (f:=f) Om;obtain⟨k2,d⟩:=Zon h fl st ts k Om;unfold ZbO;rw[c];simp only;rw[d];exact⟨k2,rfl⟩
theorem ZvT(h:ZD q=.ok t)(fl:Nat)(s:LB)(f l st:Int):Zdy (ZbJ (LS.codeOf t fl)) s f l st 1000000=ZdK q s f l st:=by
 obtain⟨m,_,d⟩:=Zom h fl;have a:=(Zla h fl).2.1;unfold Zdy ZdK;rw[d,h];simp only;split
 ·rfl
 ·cases e:Zdr f l st with
  | none=>rfl
  | some ts=>
   have c:=ZDf e;obtain⟨k,g⟩:=Zon h fl (Ze6 s) ts 1000000 (Yah (Nat.mul_le_mul a c) Dc)
   simp_all
theorem Zu5(q s:BA){fl:Int}(f l:Int){st:Int}(A:Nat->Addr)(m:Int)(w:World)(D:Vars w A m)(k:ZR w)(d:20<=w.heap.size)(hq:q.size<=9223372036854775807)(hs:s.size<=maxLen)(L : -9223372036854775808<=fl/\fl<=9223372036854775807) :
  CP 3 #[.string q,Vi fl,.string s,.agg #[Vi f,Vi l,Vi st]] w fun e u=>e=.returned (.bool true)/\BW w u:=by
 have HA:=hid (fun W a=>ZtU A m W (D.below a) (k.low a d) (Yah d a.size));have HP:=hid (fun W a=>Zpz q A m W (D.below a) (k.low a d) (Yah d a.size) hq);have M:=hid (fun f W a=>Zu2 q f A m W (D.below a) (k.low a d) (Yah d a.size) hq);have N:=hid (fun p W hp a=>Zwr p A m W (D.below a) (k.low a d) (Yah d a.size) hp);have HE:=hid (fun W a=>Zpy q s f l st A m W (D.below a) (k.low a d) (Yah d a.size) hq hs);have HX:=hid (fun cd W c8 a=>Zwp cd s f l st 1000000 A m W (D.below a) (k.low a d) (Yah d a.size) c8 hs);obtain⟨g,hg⟩:∃g:Nat,Zd6 fl 8=g:=⟨(Zd6 fl 8).toNat,by have:=ZmM fl 8 Om;omega⟩
 have c9:g<=7:=by have:=ZmM fl 8 Om;omega
 have a6:Hid (∀W,Calls _ 9 _ W _):=hid (fun W=>hg▸ZAC fl 8 L.1 L.2 Dc Dc W);have HG:Hid (0<=fl->fl<=7->fl=g):=hid (fun h0 h7=>by rw[<-hg];unfold Zd6;rw[if_neg Om];omega);clear D k d hq hs L hg;go_enter func3,ntmps3
 go_wp2_with fail
 refine Zm fun W hW=>?_;have E:Below _ w W:=hW▸Zbal;have a7:Hid (BAt W _ _ 23):=hW▸bnw;refine(HA W E).mono ?_;rintro e w1 ⟨rfl,O⟩;have F:=hid (E.trans (O.mono E.size));have a8:=hid (a7.below O);clear O E hW HA a7
 go_wp2_with fail
 refine(HP _ F).mono ?_;rintro e w2 ⟨p,c,at_,rfl,G,P,Q⟩;have H:=hid (F.trans (Q.mono F.size));have a9:=hid (a8.below Q);clear Q F a8 HP
 go_wp2_with fail
 refine(a6 _).mono ?_;rintro e wq ⟨rfl,rfl⟩
 go_wp2_with fail
 refine(M g _ H).mono ?_;rintro e w3 ⟨code,cc,ca,rfl,v,R⟩;have i:=hid (H.trans (R.mono H.size));have S:=hid (a9.below R);have T:=hid (Zu0 v);clear R H a9 a6;cases n:ZD (bl q)with
 | error x=>
  have k0:Zey (bl q)=([],x.1,x.2):=by unfold Zey;rw[n]
  have k1:∀y:Int,ZcM _ y=([],x.1,x.2):=fun y=>by unfold ZcM;rw[n]
  have a0:=G.symm.trans k0;injection a0 with a1 a2;injection a2 with a2 a3
  have d5:c≠0:=by
   rcases P.out with ⟨t,k⟩|h
   ·rw[n]at k;cases k
   ·exact h
  have b0:=v.symm.trans (k1 g);injection b0 with b1 b2;injection b2 with b2 b3;obtain rfl:=ZgF a1;obtain rfl:=ZgF b1;subst a2 a3 b2 b3;have HK:=hid k1;clear G P v k0 k1 n a1 b1 N HE HX T
  go_wp2_with fail
  refine(M _ _ i).mono ?_;rintro e w4 ⟨raw,cr,cp,rfl,B,o⟩;have j:=hid (i.trans (o.mono i.size));have d0:=B.symm.trans (HK _);injection d0 with d1 d2;injection d2 with d2 d3;obtain rfl:=ZgF d1;subst d2 d3;have d6:¬((x.1:Int)=0):=by omega
  clear B d1 HK o M i S HG;by_cases h0:fl<0
  ·go_wp2;go_ret;exact⟨by simp,j⟩
  ·by_cases h7:7<fl
   ·go_wp2;go_ret;exact⟨by simp,j⟩
   ·go_wp2;go_ret;exact⟨by simp,j⟩
 | ok t=>
  have k0:Zey (bl q)=(Zu t 1,0,0):=by unfold Zey;rw[n]
  have a0:=G.symm.trans k0;injection a0 with a1 a2;injection a2 with a2 a3;have k1:=ZuZ n c9;have b0:=v.symm.trans k1;injection b0 with b1 b2;injection b2 with b2 b3;subst a2 a3 b2 b3
  have b4 := hid (fun (x) (c p) (h : ZcM _ _ = (bl x, c, p)) => (show (fl < 0 ∨ 7 < fl -> x = ⟨#[]⟩ /\ c = 11 /\ p = 0) /\ (¬ (fl < 0 ∨ 7 < fl) -> x = code /\ c = 0 /\ p = 0) from by
    constructor
    · intro hf
      unfold ZcM at h;rw[n]at h;simp only at h;rw[if_pos hf]at h;injection h with h1 h2;injection h2 with h2 h3;exact⟨ZgF h1.symm,h2.symm,h3.symm⟩
    · intro hf
      have e:=HG Om Om;rw[e,k1,<-b1]at h;injection h with h1 h2;injection h2 with h2 h3;exact⟨(ZcW h1).symm,h2.symm,h3.symm⟩))
  obtain⟨mm,d7,b5⟩:=Zom n g;have b6:Hid (verR (ZcR (bl code))=(mm,Zdd (LS.codeOf t g).jq,0,0)):=by rw[b1,b5];rfl
  have b7:Hid (Zdy _ _ f l _ _=ZdK _ _ f l _):=b1▸ZvT n g (bl s) f l st;have b8:Hid (code.size<=maxLen):=by have:=T.out;rw[Zd]at this;exact Yah this (by unfold maxLen;decide)
  clear G P v k0 k1 a1 b1 n b5 T HG
  go_wp2_with fail
  refine(M _ _ i).mono ?_;rintro e w4 ⟨raw,cr,cp,rfl,B,o⟩;have j:=hid (i.trans (o.mono i.size));have b9:=hid (S.below o);have U:=hid (b4 _ _ _ B);clear o i S M B b4;rcases(show fl<0∨(¬fl<0/\7<fl)∨(¬fl<0/\¬7<fl) by omega)with h0|⟨h0,h7⟩|⟨h0,h7⟩
  all_goals first
   | (have z := U.1 Om
      obtain⟨z1,z2,z3⟩:=z;subst z1 z2 z3)
   | (have z := U.2 Om
      obtain⟨z1,z2,z3⟩:=z;have z4:=z1.symm;subst z4 z2 z3)
  all_goals clear U
  all_goals go_wp2_with fail
  all_goals refine(N _ _ b8 j).mono ?_
  all_goals rintro e w5 ⟨va,vb,ve,vp,rfl,c1,V⟩
  all_goals have X:=hid (j.trans (V.mono j.size))
  all_goals have c2:=hid (b9.below V)
  all_goals have v0:=c1.symm.trans b6
  all_goals injection v0 with v1 v2
  all_goals injection v2 with v2 v3
  all_goals injection v3 with v3 v4
  all_goals subst v1 v3 v4
  all_goals clear V j b9 N c1 b6 v2
  all_goals go_upto_region 15 with fail
  all_goals refine ZP fun W6 Y=>?_
  all_goals have Z:Below _ _ _:=Y▸Zbal
  all_goals have I:=hid (X.trans (Z.mono X.size))
  all_goals have r:=hid (c2.below Z)
  all_goals have c3:Hid (BAt _ _ _ 31):=Y▸bnw
  all_goals clear Z Y X c2
  all_goals generalize w5.heap.size=nb at *
  all_goals have x0:=r.cell 0
  all_goals have x1:=r.cell 1
  all_goals have x2:=r.cell 2
  all_goals simp only[Zget]at x0 x1 x2
  all_goals have a4:=r.lt
  all_goals go_wp2_with fail
  all_goals clear x0 x1 x2 a4
  all_goals refine(HE _ I).mono ?_
  all_goals rintro e w7 ⟨ea,ec,ep,rfl,c4,J⟩
  all_goals have K:=hid (I.trans (J.mono I.size))
  all_goals have C:=hid (r.below J)
  all_goals have c5:=hid (c3.below J)
  all_goals clear J I r c3 HE
  all_goals have x0:=C.cell 0
  all_goals have x1:=C.cell 1
  all_goals have x2:=C.cell 2
  all_goals simp only[Zget]at x0 x1 x2
  all_goals have a4:=C.lt
  all_goals go_wp2_with fail
  all_goals clear x0 x1 x2 a4
  all_goals refine(HX _ _ b8 K).mono ?_
  all_goals rintro e w8 ⟨xa,xc,xp,rfl,c6,a5⟩
  all_goals have d4:=hid (K.trans (a5.mono K.size))
  all_goals have c7:=hid (c5.below a5)
  all_goals have e0:=c6.symm.trans (b7.trans c4)
  all_goals injection e0 with e1 e2
  all_goals injection e2 with e2 e3
  all_goals subst e2 e3
  all_goals have e4:=ZcW e1
  all_goals subst e4
  all_goals clear a5 K C c5 HX c6 b7 c4 e1
  all_goals have y0:=c7.cell 0
  all_goals simp only[Ycy]at y0
  all_goals have d8:=c7.lt
  all_goals have d9:(1:Int)<=va:=by omega
  all_goals go_wp2
  all_goals go_ret
  all_goals exact⟨by first|rfl|simp,d4⟩
