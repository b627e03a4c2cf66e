/- Parts. -/
import Derived.Test.YtcdgkkfipdoeeaaGreatDoorU39
import Derived.Test.YtcdgkkfipdoeeaaGreatDoorU36
set_option linter.all false
set_option maxRecDepth 100000
set_option maxHeartbeats 16000000
namespace Go.Proofs.YtcdgkkfipdoeeaaGreatDoor
open Go.RowKit LS Go.Proofs.Tryz
variable {f:Int}{l q:LB}{ts:List Int}
section
section
variable {st:List Ser} {c:CodeQ} {t:Int}
theorem ZFk(k:Nat):∀(f i:Nat) (m:MQ) {r:Nat×MQ},runE st t c f i m=some r->runE st t c (f+k) i m=some (r.1+k,r.2)
 | 0, i, m, r, h => by
   by_cases a:c.jq.length<=i
   · rw[Zg5 a]at h ⊢;injection h with h;subst h;rfl
   · rw[ZBC Om]at h;cases h
 | f + 1, i, m, r, h => by
   by_cases a:c.jq.length<=i
   · rw[Zg5 a]at h ⊢;injection h with h;subst h;rfl
   · rw[Zj4 _ _ _ _ _ Om]at h
     rw[show f+1+k=f+k+1 by omega,Zj4 _ _ _ _ _ Om];exact ZFk k f _ _ h
theorem Zzl(d:LS.Fwd c){i:Nat}(e:i<c.jq.length)(m:MQ):i<Zbj i (c.jq.getD i (0,0)) m:=by
 have h:=d i e;unfold Zbj;split
 ·rename_i f;exact(ZgM h (by rw[f];rfl)).1
 ·split
  ·rename_i a;exact(ZgM h (by rw[a.1];rfl)).1
  ·omega
theorem ZrV(a:LS.Fwd c):∀(f i:Nat) (m:MQ),c.jq.length<=f+i->∃r,runE st t c f i m=some r/\f<=r.1+(c.jq.length - i)
 | 0,i,m,h=>⟨_,Zg5 Om,by omega⟩
 | f + 1, i, m, h => by
   by_cases d:c.jq.length<=i
   · exact⟨_,Zg5 d,by omega⟩
   · have e:=Zzl a (show i<c.jq.length by omega) m
     obtain⟨r,g,j⟩:=ZrV a f (Zbj i (c.jq.getD i (0,0)) m) (doE st t c (c.jq.getD i (0,0)) m) Om;exact⟨r,by rwa [Zj4 _ _ _ _ _ Om],by omega⟩
theorem ZFd(k:Nat):∀(ts:List Int) (f:Nat) {z:List (LB)×Nat},ZbO st c f ts=some z->ZbO st c (f+k) ts=some (z.1,z.2+k)
 | [],f,z,h=>by injection h with h;subst h;rfl
 | t :: ts, f, z, h => by
   unfold ZbO at h ⊢;cases a:runE st t c f 0 mq0 with
   | none=>simp_all
   | some x=>
     rw[a]at h;simp only at h;rw[ZFk k f 0 _ a];simp only;cases d:ZbO st c x.1 ts with
     | none=>simp_all
     | some y=>
       rw[d]at h;injection h with h;subst h;rw[ZFd k _ _ d]
theorem ZFn(a:LS.Fwd c):∀(ts:List Int) (f:Nat),c.jq.length*ts.length<=f->∃z,ZbO st c f ts=some z
 | [],f,_=>⟨_,rfl⟩
 | t :: ts, f, h => by
   rw[Yaj,Nat.mul_succ]at h;obtain⟨r,d,e⟩:=ZrV (st:=st) (t:=t) a f 0 mq0 Om;obtain⟨z,g⟩:=ZFn a ts r.1 Om;unfold ZbO
   simp_all
theorem ZFG(a:0<c.jq.length)(h:ts≠[]):ZbO st c 0 ts=none:=by
 cases ts with
 | nil=>simp_all
 | cons t ts=>unfold ZbO;rw[ZBC a]
end
theorem ZDf{l s:Int}(h:Zdr f l s=some ts):ts.length<=50:=by
 by_cases a:badT f l s
 ·unfold Zdr at h;simp_all
 ·rw[ZsN a]at h;split at h
  ·cases h
  ·injection h with h;subst h;simp_all
theorem ZFD(l:LB):(Zbp l).1≠13:=by
 unfold Zbp;split
 ·decide
 ·split
  ·simp
  ·split
   ·simp
   split<;>simp
theorem ZFo(l:LB)(h:9<=l.length):back (sub l 7 2)=two2 l 7:=by
 have e:sub l 7 2=[l.getD 7 0,l.getD 8 0]:=by
  have a:=List.drop_eq_getElem_cons (show 7<l.length by omega);have d:=List.drop_eq_getElem_cons (show 8<l.length by omega);unfold sub;rw[a,d];show[l[7],l[8]]=_;simp[List.getElem?_eq_getElem (show 7<l.length by omega),List.getElem?_eq_getElem (show 8<l.length by omega)]
 rw[e];simp[back,two2]
theorem ZFr{c:CodeQ}(h:Zb7 l=.ok c):c.jq.length=two2 l 7:=by
 unfold Zb7 at h;cases a:Zc8 l with
 | error e=>simp_all
 | ok n=>
  rw[a]at h;simp only at h
  have d:n.2.2.2=two2 l 7:=by
   unfold Zc8 at a;split at a
   ·cases a
   ·split at a
    ·cases a
    ·injection a with a;subst a;exact ZFo l Om
  cases g:many (ZbW l) 9 n.1 with
  | error e=>simp_all
  | ok cs=>
   rw[g]at h;simp only at h;cases i:many (Zb4 l) cs.2 n.2.1 with
   | error e=>simp_all
   | ok ps=>
    rw[i]at h;simp only at h;cases j:many (ZbX l) ps.2 n.2.2.1 with
    | error e=>simp_all
    | ok gs=>
     rw[j]at h;simp only at h;cases f:many (ZbN l) gs.2 n.2.2.2 with
     | error e=>simp_all
     | ok is=>
      rw[f]at h;simp only at h;split at h
      ·cases h
      ·split at h
       ·cases h
       ·split at h
        ·cases h
        ·injection h with h;subst h;rw[<-d];exact ZqR (f)
theorem ZFB{n p:Nat}(h:ZFb l=some (n,p)):two2 l 7=n:=by
 unfold ZFb at h;split at h
 ·cases h
 ·split at h
  ·cases h
  simp_all
def ZGp(cd s:LB)(f l st:Int):Prop:=(∃r:LB×Nat×Nat,r.2.1≠0/\r.2.1≠13/\r.1=[]/\∀n:Int,0<=n->n<=1000000->Zdy cd s f l st n=r)∨∃(r:LB) (k:Nat),0<k/\k<=1000000/\∀n:Int,0<=n->n<=1000000->Zdy cd s f l st n=if n<k then ([],13,0)else (r,0,0)
theorem ZGp.bad{cd s:LB}{l st:Int}(r:LB×Nat×Nat)(d:r.2.1≠0)(a:r.2.1≠13)(e:r.1=[])(h:∀n:Int,0<=n->n<=1000000->Zdy cd s f l st n=r):ZGp cd s f l st:=.inl ⟨r,d,a,e,h⟩
theorem ZGp.good{cd s:LB}{l st:Int}(r:LB)(k:Nat)(d:0<k)(a:k<=1000000)(h:∀n:Int,0<=n->n<=1000000->Zdy cd s f l st n=if n<k then ([],13,0)else (r,0,0)):ZGp cd s f l st:=.inr ⟨r,k,d,a,h⟩
theorem ZFv{t:Tr}(E:ZD q=.ok t)(fl:Nat)(s:LB)(f l st:Int):ZGp (ZbJ (LS.codeOf t fl)) s f l st:=by
 obtain⟨r,J,F⟩:=Zla E fl;have u:=ZFC r;have G:=ZFB u;generalize ZbJ (LS.codeOf t fl)=cd at *
 cases a:ZcR cd with
 | error x=>exact .bad _ (ZFh a).1 (ZFh a).2 rfl (fun n _ _=>ZFs a)
 | ok y=>
  by_cases g:(Zbp s).1=0
  ·cases h:Zdr f l st with
   | none=>exact .bad _ (by simp) (by simp) rfl (fun n _ _=>ZFu a g h)
   | some ts=>
    obtain⟨_,L,v⟩:=ZyI a
    have K:y.1.jq.length=(LS.codeOf t fl).jq.length:=by
     rw[<-G];unfold ZcR at a;cases hd:Zb7 cd with
     | error e=>simp_all
     | ok c=>
      rw[hd]at a;simp only at a;cases H:ZcT c with
      | error e=>simp_all
      | ok x=>
       rw[H]at a;injection a with a;subst a;exact ZFr hd
    have w:=ZDf h;have m:y.1.jq.length*ts.length<=1000000:=Yah (Nat.mul_le_mul (by omega:y.1.jq.length<=3110) w) Dc;obtain⟨z,I⟩:=ZFn (st:=Ze6 s) v.fwd ts 1000000 m
    -- the least that is enough
    have ex:∃k,k<=1000000/\(∃z,ZbO (Ze6 s) y.1 k ts=some z)/\∀j,j<k->ZbO (Ze6 s) y.1 j ts=none:=by
     have key:∀n,n<=1000000->(∃z,ZbO (Ze6 s) y.1 n ts=some z)->∃k,k<=1000000/\(∃z,ZbO (Ze6 s) y.1 k ts=some z)/\∀j,j<k->ZbO (Ze6 s) y.1 j ts=none:=by
      intro n
      induction n with
      | zero=>intro i o;exact⟨0,i,o,fun j A=>absurd A (Ya1 _)⟩
      | succ n ih=>
       intro i o;cases B:ZbO (Ze6 s) y.1 n ts with
       | some z=>exact ih Om ⟨z,B⟩
       | none=>
        refine⟨n+1,i,o,fun j A=>?_⟩;cases C:ZbO (Ze6 s) y.1 j ts with
        | none=>rfl
        | some z=>
         have:=ZFd (n - j) _ j C;rw[show j+(n - j)=n by omega,B]at this;cases this
     exact key _ (Yac _) ⟨z,I⟩
    obtain⟨k,D,⟨z2,d⟩,p⟩:=ex;refine .good (Zcn z2.1) k ?_ D (fun n M i=>?_)
    ·rcases Nat.eq_zero_or_pos k with e|e
     ·subst e;rw[ZFG Om (ZFF h)]at d;cases d
     omega
    ·rw[ZvU n a g h,if_neg Om];split
     ·rw[p _ Om];rfl
     ·have:=ZFd (n.toNat - k) _ k d;rw[show k+(n.toNat - k)=n.toNat by omega]at this;rw[this];rfl
  ·exact .bad _ g (ZFD s) rfl (fun n _ _=>ZFt a g)
end
section
theorem Zsn:∀(T:List (LB)),(∀x∈T,x.length<65536)->(T.flatMap ZO).length<=65538*T.length
 | [],_=>Yac _
 | x :: T, h => by
   have c:=h x (Yay ..);have d:=Zsn T (fun y a=>h y (Yam _ a));rw[Ycd,Yab,Zsm,Yaj];omega
theorem ZCa{q:CodeQ}(h:Shrt q):(ZbJ q).length<=100000000000:=by
 have a:=Zsn _ h.t;have d:(Ze9 q).length=q.ju.length+q.jw.length:=by simp[Ze9]
 rw[d]at a;have:=h.c;have:=h.s;have:=h.g;have:=h.i;rw[ZEZ];unfold offQ;omega
theorem Zu0{r:LB}{fl:Int}{c p:Nat}(h:ZcM q fl=(r,c,p)):r.length<=100000000000:=by
 unfold ZcM at h;cases a:ZD q with
 | error x=>rw[a]at h;simp only[Yc5]at h;rw[<-h.1];exact Yag _
 | ok t=>
  rw[a]at h;simp only at h;split at h
  ·simp only[Yc5]at h;rw[<-h.1];exact Yag _
  ·simp only[Yc5]at h;rw[<-h.1];exact ZCa (Zla a _).1
theorem ZFy(q s:BA)(fl f l st fuel more:Int)(A:Nat->Addr)(m:Int)(w:World)(V:Vars w A m)(X:ZR w)(E:20<=w.heap.size)(hq:q.size<=9223372036854775807)(hs:s.size<=maxLen)(Y : -9223372036854775808<=fl/\fl<=9223372036854775807)(Z : -9223372036854775808<=fuel/\fuel<=9223372036854775807)(a0 : -9223372036854775808<=more/\more<=9223372036854775807) :
  CP 5 #[.string q,Vi fl,.string s,.agg #[Vi f,Vi l,Vi st],Vi fuel,Vi more] w fun e u=>e=.returned (.bool true)/\BW w u:=by
 have HA:=hid (fun W v=>ZtU A m W (V.below v) (X.low v E) (Yah E v.size));have HC:Hid (∀(f:Nat) W,Below _ w W->Calls _ 8 _ W _):=hid (fun f W v=>Zu2 q f A m W (V.below v) (X.low v E) (Yah E v.size) hq);have U:=hid (fun cd fu W c8 v=>Zwp cd s f l st fu A m W (V.below v) (X.low v E) (Yah E v.size) c8 hs)
 have c9 : Hid (∀ x, ZD (bl q) = .error x -> x.1 ≠ 0) := hid (fun x hx => by
   obtain⟨e,u,fr,⟨r,c,p,_,h1,h2,_⟩,_⟩:=Zpz q A m w V X E hq [];have k:Zey (bl q)=([],x.1,x.2):=by unfold Zey;rw[hx]
   have h3:=h1.symm.trans k;injection h3 with _ h3;injection h3 with h3 _;rcases h2.out with ⟨t,h4⟩|h4
   · rw[hx]at h4;cases h4
   · rw[<-h3];exact h4)
 obtain⟨g,hg⟩:∃g:Nat,Zd6 fl 8=g:=⟨(Zd6 fl 8).toNat,by have:=ZmM fl 8 Om;omega⟩
 have d7:g<=7:=by have:=ZmM fl 8 Om;omega
 have b8:Hid (∀W,Calls _ 9 _ W _):=hid (fun W=>hg▸ZAC fl 8 Y.1 Y.2 Dc Dc W);obtain⟨n,hn⟩:∃n:Nat,Zd6 fuel 1000001=n:=⟨(Zd6 fuel 1000001).toNat,by have:=ZmM fuel 1000001 Om;omega⟩
 have d8:n<=1000000:=by have:=ZmM fuel 1000001 Om;omega
 have a4:Hid (∀W,Calls _ 9 _ W _):=hid (fun W=>hn▸ZAC fuel 1000001 Z.1 Z.2 Dc Dc W);obtain⟨k,hk⟩:∃k:Nat,Zd6 more (1000001 - n)=k:=⟨(Zd6 more (1000001 - n)).toNat,by have:=ZmM more (1000001 - n) Om;omega⟩
 have d9:n+k<=1000000:=by have:=ZmM more (1000001 - n) Om;omega
 have a5:Hid (∀W,Calls _ 9 _ W _):=hid (fun W=>hk▸ZAC more (1000001 - n) a0.1 a0.2 Om Om W);clear V X E hq hs Y Z a0 hg hn hk;go_enter func5,ntmps5
 go_wp2_with fail
 refine Zm fun W hW=>?_;have N:Below _ w W:=hW▸Zbal;have b9:Hid (BAt W _ _ 23):=hW▸bnw;refine(HA W N).mono ?_;rintro e w1 ⟨rfl,a6⟩;have O:=hid (N.trans (a6.mono N.size));have c4:=hid (b9.below a6);clear a6 N hW HA b9
 go_wp2_with fail
 refine(b8 _).mono ?_;rintro e wq ⟨rfl,rfl⟩
 go_wp2_with fail
 refine(HC g _ O).mono ?_;rintro e z ⟨code,c,at_,rfl,F,a7⟩;have G:=hid (O.trans (a7.mono O.size));have C:=hid (c4.below a7);have c5:=hid (Zu0 F);clear a7 O c4 HC b8;cases H:ZD (bl q)with
 | error x=>
  have k1:ZcM (bl q) g=([],x.1,x.2):=by unfold ZcM;rw[H]
  have k2:=F.symm.trans k1;injection k2 with a1 a2;injection a2 with a2 a3;obtain rfl:=ZgF a1;have e0:=c9 x H;have e4:¬((c:Int)=0):=by omega
  clear F k1 a1 H U a4 a5;go_wp2;go_ret;exact⟨by simp,G⟩
 | ok t=>
  have k1:ZcM (bl q) g=(ZbJ (LS.codeOf t g),0,0):=by
   unfold ZcM;rw[H];simp only;rw[if_neg Om];rfl
  have k2:=F.symm.trans k1;injection k2 with a1 a2;injection a2 with a2 a3;subst a2 a3;have P:Hid _:=a1▸ZFv H g (bl s) f l st;have Q:Hid (code.size<=maxLen):=by have:=c5.out;rw[Zd]at this;exact Yah this (by unfold maxLen;decide)
  clear F k1 a1 H c5
  go_wp2_with fail
  refine(a4 _).mono ?_;rintro e e5 ⟨rfl,rfl⟩;have x0:=C.cell 0;have x1:=C.cell 1;have x2:=C.cell 2;simp only[Zget]at x0 x1 x2;have B:=C.lt
  go_wp2_with fail
  clear x0 x1 x2 B;refine(U _ n _ Q G).mono ?_;rintro e w3 ⟨ra,ca,pa,rfl,D,a8⟩;have a9:=hid (G.trans (a8.mono G.size));have b0:=hid (C.below a8);clear a8 G C a4;have B:=b0.lt
  go_upto_region 9 with fail
  have HD:Hid (BW w3 _):=hid (Yaf _ _).drew;have o:=hid (b0.below HD);have R:=hid (a9.trans (HD.mono a9.size));have d0:IntKind.i64.wrap (1000001 - (n))=1000001 - (n):=by rw[Ybo];omega
  have d4:IntKind.i64.wrap ((n)+k)=(n)+k:=by rw[Ybo];omega
  refine Zbn 16 (fun u=>u.cell? _=some _/\u.cell? _=some _/\u.cell? _=some _) Kr (⟨o.cell 0,o.cell 1,o.cell 2⟩) (fun a=>?_);refine Za 0 a (h:=?_);refine Za 1 a (h:=?_);refine Za 2 a (h:=?_);refine Za 3 a (h:=?_);refine Za 4 a (h:=?_);refine Za 5 a (h:=?_);refine Za 6 a (h:=?_);refine Z4 (i:=7) Kr rfl (fun K I=>?_);go_simp;refine(a5 _).mono ?_;rintro e wq ⟨rfl,rfl⟩;go_simp;refine I _ _ ⟨o.cell 0,o.cell 1,o.cell 2⟩ (fun a=>?_);clear I K
  try simp only[Act.put,Zset]
  refine Za 8 a (h:=?_);refine Z4 (i:=9) Kr rfl (fun K I=>?_);go_simp;refine(U _ _ _ Q R).mono ?_;rintro e w4 ⟨rb,cb,pb,rfl,J,b4⟩;go_simp;have d:=hid (o.below b4);have S:=hid (R.trans (b4.mono R.size));refine I _ _ ⟨d.cell 0,d.cell 1,d.cell 2⟩ (fun a=>?_);clear I K b4 o R HD b0 a9 a5 d0 d4 B
  try simp only[Act.put,Zset]
  refine Za 10 a (h:=?_);refine Za 11 a (h:=?_);refine Za 12 a (h:=?_);refine Za 13 a (h:=?_);refine Za 14 a (h:=?_);refine Za 15 a (h:=?_);refine Zbl Kr Kr rfl Kr (fun K I=>?_);go_simp;refine I _ _ ?_;clear I K a;have x0:=d.cell 0;have x1:=d.cell 1;have x2:=d.cell 2;simp only[Zget]at x0 x1 x2;have B:=d.lt
  go_wp2_with fail
  clear x0 x1 x2 B;refine(U _ _ _ Q S).mono ?_;rintro e w5 ⟨rc,cc,pc,rfl,L,b5⟩;have T:=hid (S.trans (b5.mono S.size));have b6:=hid (d.below b5);clear b5 S d;have x0:=b6.cell;have B:=b6.lt
  go_wp2_with fail
  clear x0 B;refine(U _ 0 _ Q T).mono ?_;rintro e w6 ⟨rd,cd,pd,rfl,M,c6⟩;have b7:=hid (T.trans (c6.mono T.size));clear c6 T b6 U;rcases P.out with ⟨r,h0,d5,H,h⟩|⟨r,j,hj,e6,h⟩
  ·have ea:=(h n Om Om).symm.trans D;have eb:=(h _ Om Om).symm.trans J;have ec:=(h _ Dc Dc).symm.trans L;have ed:=(h 0 Dc Dc).symm.trans M;subst ea;injection eb with b1 b2;injection b2 with b2 b3;injection ec with c1 c2;injection c2 with c2 c3;injection ed with d1 d2;injection d2 with d2 d3;subst b2 b3 c2 d2;obtain rfl:=ZcW b1;simp only at h0 d5;have e7:¬((ca:Int)=0):=by omega
   have d6:¬((ca:Int)=13):=by omega
   clear D J L M h b1 c1 d1 H P;go_wp2;go_ret;exact⟨by simp,b7⟩
  ·have ec:=(h _ Dc Dc).symm.trans L;have ed:=(h 0 Dc Dc).symm.trans M;rw[if_neg Om]at ec;rw[if_pos Om]at ed;injection ec with c1 c2;injection c2 with c2 c3;injection ed with d1 d2;injection d2 with d2 d3;subst c2 c3 d2 d3;by_cases c7:(n:Int)<j
   ·have ea:=(h n Om Om).symm.trans D;rw[if_pos c7]at ea;injection ea with a1 a2;injection a2 with a2 a3;subst a2 a3;obtain rfl:=ZgF a1.symm;clear D J L M h c1 d1 P a1;go_wp2;go_ret;exact⟨by simp,b7⟩
   ·have ea:=(h n Om Om).symm.trans D;have eb:=(h _ Om Om).symm.trans J;rw[if_neg c7]at ea;rw[if_neg Om]at eb;have ee:=ea.symm.trans eb;injection ea with _ a2;injection a2 with a2 a3;subst a2 a3;injection ee with e1 e2;injection e2 with e2 e3;subst e2 e3;obtain rfl:=ZcW e1;clear D J L M h c1 d1 P e1 eb;go_wp2;go_ret;exact⟨by simp,b7⟩
