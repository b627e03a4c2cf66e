/- Parts. -/
import Derived.Test.YtkodhpilkaihjaaGreatDoorF28
import Derived.Test.YtkodhpilkaihjaaGreatDoorF21
set_option linter.all false
set_option maxRecDepth 100000
set_option maxHeartbeats 16000000
namespace Go.Proofs.YtkodhpilkaihjaaGreatDoor
open Go.RowKit LS Go.Proofs.Tryz
variable {A:Nat->Addr}{r:Nat×Nat}{err v:Value}{w:World}
theorem Zei.asks{m:Int}(h:Zei w A v r)(f:Vars w A m):Asks w v r.1 r.2:=by
 intro W e;have a:=f.below e;have mv:∀ {fa i:Nat} {u:Value},w.cell? ⟨fa,i,none⟩=some u->W.cell? ⟨fa,i,none⟩=some u:=fun {fa i u} h=>(e.cell (p:=⟨fa,i,none⟩) (Yai _ _ h)).trans h;rcases h with ⟨rfl,rfl⟩|⟨rfl,rfl⟩|⟨rfl,rfl⟩|⟨i,fa,rfl,rfl,c,d⟩|⟨i,fa,rfl,rfl,c,d⟩
 ·exact⟨Zik A m W a,Ziq W⟩
 ·exact⟨ZjQ A m W a,Zdm A m W a⟩
 ·exact⟨Zrk A m W a,Zdm A m W a⟩
 ·exact⟨Zrl A m W a fa (mv d),ZdB A m fa _ W a (mv c)⟩
 ·exact⟨Zrn A m W a fa (mv d),ZdB A m fa _ W a (mv c)⟩
theorem Zei.shape(h:Zei w A v r)(a:r.1≠0):∃ty u,v=.iface ty u:=by
 rcases h with ⟨rfl,rfl⟩|⟨rfl,rfl⟩|⟨rfl,rfl⟩|⟨i,fa,rfl,rfl,c,d⟩|⟨i,fa,rfl,rfl,c,d⟩
 ·exact absurd rfl a
 ·exact⟨_,_,rfl⟩
 ·exact⟨_,_,rfl⟩
 ·exact⟨_,_,rfl⟩
 ·exact⟨_,_,rfl⟩
theorem Asks.below{w':World}{c p:Nat}(h:Asks w err c p)(a:BW w w'):Asks w' err c p:=fun W d=>h W (a.trans (d.mono a.size))
theorem ZyH{l:LB}{y:CodeQ×Nat×Nat}(h:ZcR l=.ok y):y.1.jz.length<=65535/\∀x∈y.1.jz,x.1<=13/\x.2<65536:=by
 unfold ZcR at h;cases hd:Zb7 l with
 | error e=>rw[hd]at h;cases h
 | ok c=>
  rw[hd]at h;simp only at h;cases a:ZcT c with
  | error e=>rw[a]at h;cases h
  | ok x=>
   rw[a]at h;injection h with h;subst h;exact Zll hd
theorem ZvV(q s:BA)(f l st fuel:Int)(A:Nat->Addr)(m:Int)(w:World)(U:Vars w A m)(ht:ZR w)(hB:20<=w.heap.size)(hq:q.size<=maxLen)(hs:s.size<=maxLen) :
  CP 26 #[.string q,.string s,.agg #[Vi f,Vi l,Vi st],Vi fuel] w fun e w'=>∃(r:BA) (err:Value) (c p:Nat),e=.returned (.tuple #[.string r,err])/\Hid (Asks w' err c p)/\Hid (Zdy (bl q) (bl s) f l st fuel=(bl r,c,p))/\BW w w':=by
 have c0:Hid (∀W,BW w W->CP 21 #[.string q] W _):=hid (fun W g=>ZqK q A m W (U.below g) (ht.low g hB) (Yah hB g.size) hq);have c1:Hid (∀W,BW w W->CP 24 #[.string s] W _):=hid (fun W g=>Zss s A m W (U.below g) hs);have c2:Hid (∀W,BW w W->CP 46 #[.agg #[Vi f,Vi l,Vi st]] W _):=hid (fun W g=>ZrI f l st (A 7) W ((U.below g).sent _ Dc));have S:=hid U;have HT:Hid (ZR w):=ht;have c3:Hid (20<=w.heap.size):=hB;clear U ht hB hq hs;go_enter func26,ntmps26
 go_wp2_with fail
 refine Zm fun W hW=>?_;have Q:BW w W:=by rw[hW];exact Zbal
 have c4:Hid (BAt W w.heap.size [Vi f,Vi l,Vi st] 26):=hid (by rw[hW];exact Go.Deep.blk_alloc_new _ _);refine(c0.out W Q).mono ?_;rintro e V ⟨v,n,err,rfl,HC,⟨a0,a1,a2,a3,n0,n1,n2,n3,e0,e1,e2,e3,rfl⟩,X⟩;have Y:Hid (BW w V):=hid (Q.trans (X.mono Q.size));have Z:=hid (c4.below X);clear X c0 Q hW c4;obtain⟨a,b,c,p,rfl,HR,HA⟩:=HC.asks (S.below Y.out)
 go_upto_region 2 with fail
 refine ZP fun W2 a4=>?_;have d:BW V W2:=by rw[a4];exact Zbal.alloc (by simp) _
 have a5:Hid (BAt W2 V.heap.size [.slice a0 n0 e0,.slice a1 n1 e1,.slice a2 n2 e2,.slice a3 n3 e3] 58):=hid (by
  rw[a4];exact(Zbal.block _ (by simp)).trans (Go.Deep.blk_alloc_new _ _))
 have B:Hid (BW w W2):=hid (Y.trans (d.mono Y.size));have N:=hid (Z.below d);have a6:=hid (HA.below d);have F:=hid (HC.below d);clear d a4 HA HC Z;generalize V.heap.size=xb at a5 ⊢;generalize w.heap.size=sb at N ⊢;cases C:ZcR (bl q)with
 | error x=>
  have i:Hid (Zdy (bl q) (bl s) f l st fuel=([],x.1,x.2)):=hid (by unfold Zdy;rw[C]);have k:=F.out;rw[C]at k HR;have G:(0,0,x.1,x.2)=(a,b,c,p):=HR.out;injection G with _ G;injection G with _ G;injection G with hr3 hr4;subst hr3 hr4;rcases BadV.shape k.2 with ⟨fa,rfl⟩|rfl
  ·clear k F HR;go_wp2;go_ret2;exact⟨_,_,_,_,rfl,a6,i,B.out⟩
  ·clear k F HR;go_wp2;go_ret2;exact⟨_,_,_,_,rfl,a6,i,B.out⟩
 | ok y=>
  have k:=F.out;rw[C]at k;obtain⟨a7,_,rfl⟩:=k;have a8:=hid a7;have a9:=hid C
  have c5:Hid (∀z,(if (Zbp (bl s)).1≠0 then ([],(Zbp (bl s)).1,(Zbp (bl s)).2)else match Zdr f l st with
   | none=>([],8,0)
   | some ts => if fuel < 0 ∨ 1000000 < fuel then ([], 13, 0) else match ZbO (Ze6 (bl s)) y.1 fuel.toNat ts with
     | none=>([],13,0)
     | some z=>(Zcn z.1,0,0))=z->Zdy (bl q) (bl s) f l st fuel=z):=hid (fun z hz=>by unfold Zdy;rw[C];exact hz)
  clear a7 C F HR a6
  go_wp2_with fail
  refine(c1.out W2 B.out).mono ?_;rintro e w2 ⟨sv,err,rfl,H,d,b0⟩;have D:Hid (BW w w2):=hid (B.trans (d.mono B.size));have t:=hid (N.below d);have c6:=hid (a5.below d);have R:Hid (CodV w2 y.1 (.agg #[.slice a0 n0 e0,.slice a1 n1 e1,.slice a2 n2 e2,.slice a3 n3 e3])):=hid (by obtain⟨cv,pv,gv,iv,E,T⟩:=a8.out;exact⟨cv,pv,gv,iv,E,T.below d⟩);have c7:Hid (Asks w2 err (Zbp (bl s)).1 (Zbp (bl s)).2):=hid (H.asks (S.below D.out));clear d c1 N a5 a8 B;by_cases I:(Zbp (bl s)).1=0
  ·have d2:err=.nilIface:=by
    rcases Zfb.ld H.out with ⟨_,h⟩|⟨h,_⟩
    ·exact h
    ·exact absurd I h
   subst d2;obtain⟨ss,O,b1,b2,d3⟩:=(b0.out I).sto I;obtain⟨sa,scp,rfl⟩:=Zl O.row;have c8:=hid O;have d6:=hid b1;have d7:=hid b2;have H0:=hid I;clear H b0 O b1 b2 d3 I c7;have x0:=t.cell 0;have x1:=t.cell 1;have x2:=t.cell 2;simp only[Zget]at x0 x1 x2;have b3:=t.lt
   go_wp2_with fail
   clear x0 x1 x2 b3;refine(c2.out w2 D.out).mono ?_;rintro e P ⟨tv,ev,rfl,b4,J⟩;have j:Hid (BW w P):=hid (D.trans (J.mono D.size));have d4:=hid (c8.below J);have K:=hid (c6.below J);have b9:Hid (CodV P y.1 (.agg #[.slice a0 n0 e0,.slice a1 n1 e1,.slice a2 n2 e2,.slice a3 n3 e3])):=hid (by obtain⟨cv,pv,gv,iv,E,T⟩:=R.out;exact⟨cv,pv,gv,iv,E,T.below J⟩);clear J c2 c8 t D c6 R;rcases b4.out with ⟨E,rfl,rfl⟩|⟨ts,E,T,h3,rfl,h4⟩
   ·have i:Hid (Zdy (bl q) (bl s) f l st fuel=([],8,0)):=hid (c5.out _ (by rw[if_neg (by rw[H0.out];simp),E]));have M:Hid (Asks P (.iface 491 (.pointer (some (A 7)))) 8 0):=hid (fun W g=>⟨Zrm A m W ((S.below j.out).below g),Zdm A m W ((S.below j.out).below g)⟩);clear b4 E;go_wp2;go_ret2;exact⟨_,_,8,0,rfl,M,i,j.out⟩
   ·obtain⟨ta,tcp,rfl⟩:=Zl h4;obtain⟨o,ho⟩:∃o,o=(if fuel<0∨1000000<fuel then none else ZbO (ss.map Srs.ser) y.1 fuel.toNat ts):=⟨_,rfl⟩
    have i:Hid (Zdy (bl q) (bl s) f l st fuel=ZBE o):=hid (by rw[ho,d6.out];exact ZvU fuel a9.out H0.out E)
    have b5 : Hid (CP 48 #[.agg #[.slice a0 n0 e0, .slice a1 n1 e1, .slice a2 n2 e2, .slice a3 n3 e3], .slice sa ss.length scp, .slice ta ts.length tcp, Vi fuel] P fun e w' => ∃ r err, e = .returned (.tuple #[.string r, err]) /\ Hid (RunC A o r err) /\ BW P w') := hid (by
      obtain⟨cv,pv,gv,iv,b6,d8⟩:=b9.out;injection b6 with b6;have h5:=congrArg Array.toList b6;simp only[List.cons.injEq,and_true]at h5;obtain⟨rfl,rfl,rfl,rfl⟩:=h5;obtain⟨d9,L,e4⟩:=ZyI a9.out;have c9:=ZyH a9.out;rw[ho];exact ZAW y.1 L ss ts fuel A m P (S.below j.out) ⟨d8,d4.out,d7.out⟩ d9 e4 c9.1 c9.2 T h3 h4 (HT.low j.out c3.out) (Yah c3.out j.size))
    have e5:=hid (S.below j.out);have x0:=K.cell 0;have x1:=K.cell 1;have x2:=K.cell 2;have x3:=K.cell 3;simp only[Zget]at x0 x1 x2 x3;have b3:=K.lt;clear b4 E T h3 h4 ho
    go_wp2_with fail
    clear x0 x1 x2 x3 b3;refine b5.mono ?_;rintro e w4 ⟨r4,err4,rfl,d0,b7⟩;have d1:Hid (BW w w4):=hid (j.trans (b7.mono j.size));have b8:=hid (e5.below b7);clear b7 b5;cases o with
    | none=>
     obtain⟨rfl,rfl⟩:=d0.out;have M:Hid (Asks w4 (.iface 491 (.pointer (some (A 12)))) 13 0):=hid (fun W g=>⟨Zzu A m W (b8.below g),Zdm A m W (b8.below g)⟩);go_wp2;go_ret2;exact⟨_,_,13,0,rfl,M,i,d1.out⟩
    | some z=>
     obtain⟨h6,rfl⟩:=d0.out;have M:Hid (Asks w4 .nilIface 0 0):=hid (fun W g=>⟨Zik A m W (b8.below g),Ziq W⟩);have d5:Hid (Zdy (bl q) (bl s) f l st fuel=(bl r4,0,0)):=hid (by rw[i.out,h6];rfl);clear h6;go_wp2;go_ret2;exact⟨_,_,0,0,rfl,M,d5,d1.out⟩
  ·have i:Hid (Zdy (bl q) (bl s) f l st fuel=([],(Zbp (bl s)).1,(Zbp (bl s)).2)):=hid (c5.out _ (by rw[if_pos I]));obtain⟨ty,u,rfl⟩:=H.shape I;clear H b0 I;go_wp2;go_ret2;exact⟨_,_,_,_,rfl,c7,i,D.out⟩
theorem Zwp(q s:BA)(f l st fuel:Int)(A:Nat->Addr)(m:Int)(w:World)(n:Vars w A m)(o:ZR w)(j:20<=w.heap.size)(t:q.size<=maxLen)(v:s.size<=maxLen) :
  CP 13 #[.string q,.string s,.agg #[Vi f,Vi l,Vi st],Vi fuel] w fun e u=>∃(r:BA) (c p:Nat),e=.returned (.tuple #[.string r,Vi c,Vi p])/\Hid (Zdy (bl q) (bl s) f l st fuel=(bl r,c,p))/\BW w u:=by
 have x:Hid (∀W,BW w W->CP 26 #[.string q,.string s,.agg #[Vi f,Vi l,Vi st],Vi fuel] W _):=hid (fun W d=>ZvV q s f l st fuel A m W (n.below d) (o.low d j) (Yah j d.size) t v);clear n o j t v;go_enter func13,ntmps13
 go_wp2_with fail
 refine Zm fun W B=>?_;have a:BW w W:=by rw[B];exact Zbal
 refine(x.out W a).mono ?_;rintro e C ⟨r,err,c,p,rfl,k,E,g⟩;have h:Hid (BW w C):=hid (a.trans (g.mono a.size));clear g a B x;have F:=hid (k.out C (Yaf _ _)).1;have G:=hid (fun W d=>(k.out W d).2);clear k
 go_wp2_with fail
 refine F.mono ?_;rintro e H ⟨rfl,rfl⟩
 go_wp2_with fail
 refine(G.out _ (Yaf _ _)).mono ?_;rintro e z ⟨rfl,i⟩;have D:Hid (BW w z):=hid (h.trans (i.mono h.size));clear i;go_wp2
 go_ret3
 exact⟨r,_,_,rfl,E,D.out⟩
theorem ZXH(cd s:BA)(f l st fuel at_ bs:Int)(A:Nat->Addr)(m:Int)(w:World)(Y:Vars w A m)(C:ZR w)(I:20<=w.heap.size)(a0:cd.size<=maxLen)(hs:s.size<=maxLen)(b7 : -9223372036854775808<=fuel)(b8:fuel<=9223372036854775807)(b9 : -9223372036854775808<=at_)(c1:at_<=9223372036854775807)(c2 : -9223372036854775808<=bs)(c3:bs<=9223372036854775807) :
  CP 5 #[.string cd,.string s,.agg #[Vi f,Vi l,Vi st],Vi fuel,Vi at_,Vi bs] w fun e u=>e=.returned (.bool true)/\BW w u:=by
 have HA:Hid (∀W,BW w W->CP 9 #[] W _):=hid (fun W g=>ZtU A m W (Y.below g) (C.low g I) (Yah I g.size));have a1:Hid (∀(p:BA) W,p.size<=maxLen->BW w W->CP 10 #[.string p] W _):=hid (fun p W hp g=>Zwr p A m W (Y.below g) (C.low g I) (Yah I g.size) hp);have HL:Hid (∀W,BW w W->CP 11 #[.string s] W fun e u=>e=.returned (.tuple #[Vi (Zbp (bl s)).1,Vi (Zbp (bl s)).2])/\BW W u):=hid (fun W g=>ZQ6 s A m W (Y.below g) hs);have HE:Hid (∀W,BW w W->CP 12 #[.string ⟨#[49]⟩,.string ⟨#[]⟩,.agg #[Vi f,Vi l,Vi st]] W _):=hid (fun W g=>Zpy ⟨#[49]⟩ ⟨#[]⟩ f l st A m W (Y.below g) (C.low g I) (Yah I g.size) Dc Dc);have HX:Hid (∀(fu:Int) W,BW w W->CP 13 #[.string cd,.string s,.agg #[Vi f,Vi l,Vi st],Vi fu] W _):=hid (fun fu W g=>Zwp cd s f l st fu A m W (Y.below g) (C.low g I) (Yah I g.size) a0 hs);have c4:=hid (fun W=>ZAC fuel 1000001 b7 b8 Dc Dc W);have a2:=hid a0;have e7:=hid (ZmM fuel 1000001 Dc);clear Y C I hs a0 b7 b8;go_enter func5,ntmps5
 go_wp2_with fail
 refine Zm fun W hW=>?_;have O:BW w W:=by rw[hW];exact Zbal
 have c5:Hid (BAt W w.heap.size [Vi f,Vi l,Vi st] 26):=hid (by rw[hW];exact Go.Deep.blk_alloc_new _ _);refine(HA.out W O).mono ?_;rintro e w1 ⟨rfl,M⟩;have P:Hid (BW w w1):=hid (O.trans (M.mono O.size));have c6:=hid (c5.below M);clear M O hW HA c5
 go_wp2_with fail
 refine(a1.out cd w1 a2.out P.out).mono ?_;rintro e z ⟨va,vb,ve,vp,rfl,Q,N⟩;have a3:Hid (BW w z):=hid (P.trans (N.mono P.size));have c7:=hid (c6.below N);clear N P c6
 go_wp2_with fail
 refine Zm fun W3 c8=>?_;have a4:BW z W3:=by rw[c8];exact Zbal
 have R:Hid (BW w W3):=hid (a3.trans (a4.mono a3.size));have c9:=hid (c7.below a4);clear a4 c8 a3 c7;generalize z.heap.size=nb at *
 refine(HL.out W3 R.out).mono ?_;rintro e w4 ⟨rfl,a5⟩;have S:Hid (BW w w4):=hid (R.trans (a5.mono R.size));have G:=hid (c9.below a5);clear a5 R c9 HL;have x0:=G.cell 0;have x1:=G.cell 1;have x2:=G.cell 2;simp only[Zget]at x0 x1 x2;have a6:=G.lt
 go_wp2_with fail
 clear x0 x1 x2 a6;refine(HE.out w4 S.out).mono ?_;rintro e w5 ⟨er,ec,ep,rfl,d0,a7⟩;have H:Hid (ec=if (Zdr f l st).isNone then 8 else 0):=hid (by have t:=ZPw f l st;have c:=d0.out;rw[show bl ⟨#[49]⟩=[49] from rfl,show bl ⟨#[]⟩=[] from rfl]at c;rw[c]at t;exact t);have a8:Hid (BW w w5):=hid (S.trans (a7.mono S.size));have a9:=hid (G.below a7);clear a7 S G HE d0;have a6:=a9.lt
 go_upto_region 5 with fail
 have HD:Hid (BW w5 w5.drew):=hid (Yaf _ _).drew;have D:=hid (a9.below HD.out);have o:Hid (BW w w5.drew):=hid (a8.trans (HD.mono a8.size));refine Zbn 12 (fun u=>u.cell? ⟨w.heap.size,0,none⟩=some (Vi f)/\u.cell? ⟨w.heap.size,1,none⟩=some (Vi l)/\u.cell? ⟨w.heap.size,2,none⟩=some (Vi st)) Kr (by exact⟨D.cell 0,D.cell 1,D.cell 2⟩) (fun a=>?_);refine Za 0 a (h:=?_);refine Za 1 a (h:=?_);refine Za 2 a (h:=?_);refine Za 3 a (h:=?_);refine Z4 (i:=4) Kr rfl (fun K v=>?_);go_simp;refine(c4.out _).mono ?_;rintro e wq ⟨rfl,rfl⟩;go_simp;refine v.out _ _ ⟨D.cell 0,D.cell 1,D.cell 2⟩ (fun a=>?_);clear v K
 try simp only[Act.put,Zset]
 refine Z4 (i:=5) Kr rfl (fun K v=>?_);go_simp;refine(HX.out _ _ o.out).mono ?_;rintro e B ⟨xr,xc,xp,rfl,q,b0⟩;go_simp;have T:=hid (D.below b0);have U:Hid (BW w B):=hid (o.trans (b0.mono o.size));refine v.out _ _ ⟨T.cell 0,T.cell 1,T.cell 2⟩ (fun a=>?_);clear v K b0 D o HD a9 a8 a6 HX c4
 try simp only[Act.put,Zset]
 refine Za 6 a (h:=?_);refine Za 7 a (h:=?_);refine Za 8 a (h:=?_);refine Za 9 a (h:=?_);refine Za 10 a (h:=?_);refine Za 11 a (h:=?_);refine Zbl Kr Kr rfl Kr (fun K v=>?_);go_simp;refine v.out _ _ ?_;clear v K a T;cases E:ZcR (bl cd)with
 | error x=>
  have t:=Q.out;rw[E]at t;have c:(0,0,x.1,x.2)=(va,vb,ve,vp):=t;injection c with _ c;injection c with _ c;injection c with h3 h4;subst h3 h4;have e8:=(ZFh E).1;have Z:=q.symm.trans (ZFs E);injection Z with h6 n;injection n with n h8;subst n h8;obtain rfl:xr=⟨#[]⟩:=ZgF h6;have g3:¬((x.1:Int)=0):=by omega
  clear Q t E q h6;go_wp2;go_ret;exact⟨rfl,U.out⟩
 | ok y=>
  have t:=Q.out;rw[E]at t;have c:(y.2.1,y.2.2,0,0)=(va,vb,ve,vp):=t;injection c with _ c;injection c with _ c;injection c with h3 h4;subst h3 h4;have F:=hid E;have e5:=ZXC E;rw[Zd]at e5;clear Q t E
  go_upto_region 10 with fail
  have e9:=Lib.run_convert_string_bytes B 9 41 5 cd underlying9 underlying41 underlying5;have V:=hid (BytR.made B cd);have f0:Hid (BW w (Lib.bytesWorld B 5 cd)):=hid (U.trans ((show BW B (Lib.bytesWorld B 5 cd) from⟨rfl,rfl,rfl,by rw[Lib.bytesWorld_size];omega,fun k hk=>Lib.bytesWorld_at_old _ _ _ _ hk⟩).mono U.size));have g4:=V.lt;generalize f1:Lib.bytesWorld B 5 cd=w7 at *
  clear f1;have b1:(bl cd).length=cd.size:=Zd cd;obtain⟨ai,d1⟩:∃ai:Nat,Zd6 at_ cd.size=ai:=⟨(Zd6 at_ cd.size).toNat,by have:=ZmM at_ cd.size Om;omega⟩
  have J:ai<(bl cd).length:=by have:=ZmM at_ cd.size Om;rw[b1];omega
  obtain⟨bi,d2⟩:∃bi:Nat,Zd6 bs 255=bi:=⟨(Zd6 bs 255).toNat,by have:=ZmM bs 255 Om;omega⟩
  have g5:bi<255:=by have:=ZmM bs 255 Om;omega
  have f2:Hid (∀W,CP 14 #[Vi at_,Vi cd.size] W fun e u=>e=.returned (Vi (ai:Int))/\u=W):=hid (fun W=>by rw[<-d1];exact ZAC at_ cd.size b9 c1 Om (by have:=a2.out;unfold maxLen at this;omega) W);have d3:Hid (∀W,CP 14 #[Vi bs,Vi 255] W fun e u=>e=.returned (Vi (bi:Int))/\u=W):=hid (fun W=>by rw[<-d2];exact ZAC bs 255 c2 c3 Dc Dc W);obtain⟨d,f3,d4⟩:=ZXx (bl cd)[ai] (k:=bi+1) Om Om;have b2:=ZXy J d
  obtain⟨er,b3⟩:∃er,ZcR ((bl cd).set ai d)=.error er:=by
   have Z:=F.out;rw[b2.1]at Z;rw[b2.2];exact ZXD f3 Z
  have L:=hid b3;have f4:=hid (ZFh b3).1;have d5:((bl cd).set ai d).length=cd.size:=by rw[Yat,b1]
  have d6:=hid d5;have d7:=hid (fun W (h:BytR W B.heap.size (bl cd))=>h.set ai d);have c0:=V.cell ai J;have d8:=hid (V.frozen ai J);have g6:(ai:Int)<(cd.size:Int):=by rw[b1]at J;omega
  generalize(bl cd)[ai]=cb at *
  generalize f5:(bl cd).set ai d=ln at *
  clear b2 b3 d5 b9 c1 c2 c3 d1 d2 f5
  go_wp2_with fail
  refine(f2.out _).mono ?_;rintro e wq ⟨rfl,rfl⟩
  go_upto_region 12 with fail
  have fz:wq.drew.frozen? ⟨B.heap.size,ai,none⟩=false:=d8.out;have f6:IntKind.i64.wrap (1+(bi:Int))=1+(bi:Int):=by rw[Ybo];omega
  have f7:IntKind.u8.wrap (1+(bi:Int))=1+(bi:Int):=by rw[IntKind.wrap_u8'];omega
  have f8:bits .xor .u8 (cb.toNat:Int) (1+(bi:Int))=(d.toNat:Int):=by rw[<-d4];congr 1;omega
  have b4:=hid ((d7.out wq V.out).below (Yaf _ _).drew);have o:Hid (BW w (wq.setCell ⟨B.heap.size,ai,none⟩ (.int .u8 (d.toNat:Int))).drew):=hid (f0.setCell (by have:=U.size;exact this) _).drew;have d9:Hid (wq.drew.cell? ⟨B.heap.size,ai,none⟩=some (.int .u8 (cb.toNat:Int))):=hid c0;generalize grownCap B cd.size 0 5=gc at *
  generalize B.heap.size=gb at *
  clear d4 d7 d8 e9 a;refine Zbn 12 (fun u=>u.cell? ⟨gb,ai,none⟩=some (.int .u8 (cb.toNat:Int))) Kr (by exact c0) (fun a=>?_);clear c0;refine Za 0 a (h:=?_);refine Za 1 a (h:=?_);refine Za 2 a (h:=?_);refine Za 3 a (h:=?_);refine Za 4 a (h:=?_);refine Za 5 a (h:=?_);refine Za 6 a (h:=?_);refine Z4 (i:=7) Kr rfl (fun K v=>?_);go_simp;refine(d3.out _).mono ?_;rintro e wp ⟨rfl,rfl⟩;go_simp;refine v.out _ _ d9.out (fun a=>?_);clear v K
  try simp only[Act.put,Zset]
  refine Za 8 a (h:=?_);refine Za 9 a (h:=?_);refine Za 10 a (h:=?_);refine Za 11 a (h:=?_);refine Zbl Kr Kr rfl Kr (fun K v=>?_);go_simp;refine v.out _ _ ?_;clear v K a d3 fz f6 f7 f8 d9
  go_upto_region 13 with fail
  refine ZP fun W9 e0=>?_;rw[<-e0]at b4 o;clear e0;have e6:(convert 41 9 (.slice (some ⟨gb,0,none⟩) cd.size gc)).run prog W9=.ok (.string ⟨ln.toArray⟩) W9:=by rw[<-d6.out];exact b4.conv
  go_wp2_with fail
  refine(a1.out ⟨ln.toArray⟩ W9 (by show ln.toArray.size<=maxLen;rw[Yb5,d6.out];exact a2.out) o.out).mono ?_;rintro e f9 ⟨va2,vb2,ve2,vp2,rfl,e1,b5⟩;have j:Hid (BW w f9):=hid (o.trans (b5.mono o.size));have t:=e1.out;rw[ZbF,L.out]at t;have c:(0,0,er.1,er.2)=(va2,vb2,ve2,vp2):=t;injection c with h3 c;injection c with h4 c;injection c with Z h6;subst h3 h4 Z h6;have e8:¬((er.1:Int)=0):=by have:=f4.out;omega
  clear t e1 b5 o b4 e6 a1;obtain⟨lc,b6⟩:∃lc,(Zbp (bl s)).1=lc:=⟨_,rfl⟩
  obtain⟨lp,e2⟩:∃lp,(Zbp (bl s)).2=lp:=⟨_,rfl⟩
  have X:=hid b6;rw[b6,e2];clear b6 e2;by_cases e3:lc=0
  ·subst e3;cases C:Zdr f l st with
   | none=>
    have n:=q.symm.trans (ZFu F.out X.out C);injection n with h8 h9;injection h9 with h9 h10;subst h9 h10;obtain rfl:xr=⟨#[]⟩:=ZgF h8;obtain rfl:ec=8:=by rw[H.out,C];rfl
    clear h8 q F L H C;go_wp2;go_ret;exact⟨rfl,j.alloc (by exact j.size) _⟩
   | some ts=>
    obtain rfl:ec=0:=by rw[H.out,C];rfl
    rcases ZXA F.out (fuel:=Zd6 fuel 1000001) (by have:=e7.out;omega) X.out C with ⟨r,hr,n⟩|n
    ·have n:=q.symm.trans n;injection n with h8 h9;injection h9 with h9 h10;subst h9 h10;have g0:¬xr=⟨#[]⟩:=fun e=>hr (by rw[<-h8,e];rfl);have g1:(xr.toList == (⟨#[]⟩:BA).toList)=false:=by rw[ZTJ];exact decide_eq_false g0
     have g2:(⟨#[]⟩:BA).toList=[]:=by kernel_rfl
     have e4:(xr.toList == [])=false:=by rw[<-g2];exact g1
     have g7:¬xr.toList=[]:=fun e=>by rw[e]at e4;cases e4
     clear h8 q F L H C hr;go_wp2;go_ret;exact⟨rfl,j.alloc (by exact j.size) _⟩
    ·have n:=q.symm.trans n;injection n with h8 h9;injection h9 with h9 h10;subst h9 h10;obtain rfl:xr=⟨#[]⟩:=ZgF h8;clear h8 q F L H C;go_wp2;go_ret;exact⟨rfl,j.alloc (by exact j.size) _⟩
  ·have n:=q.symm.trans (ZFt F.out (by rw[X.out];exact e3));rw[X.out]at n;injection n with h8 h9;injection h9 with h9 h10;subst h9;obtain rfl:xr=⟨#[]⟩:=ZgF h8;have g8:¬((xc:Int)=0):=by omega
   clear h8 q F L H h10;go_wp2;go_ret;exact⟨rfl,j.alloc (by exact j.size) _⟩
