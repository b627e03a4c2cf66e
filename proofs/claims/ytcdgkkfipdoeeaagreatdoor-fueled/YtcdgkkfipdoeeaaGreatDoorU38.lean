/- Parts. -/
import Derived.Test.YtcdgkkfipdoeeaaGreatDoorU37
set_option linter.all false
set_option maxRecDepth 100000
set_option maxHeartbeats 16000000
namespace Go.Proofs.YtcdgkkfipdoeeaaGreatDoor
open Go.RowKit LS Go.Proofs.Tryz
variable {q:CodeQ}{l:List (Nat×Nat)}{co:List Int}{B b cap fl g k n op sz:Nat}{v v':Value}{w w0:World}
section
section
variable {w0 w w' w1 w2:World} {X:GX} {g g':Gq}
theorem ZwB {a:BA}  (c : op <= 3) (h : bl a = ZW.getD op []) (w : World) : CP 121 #[.string a] w fun e w' => e = .returned (Vi (5 + op : Nat)) /\ w' = w := by
  have d:=hid (ZqX c h w);clear h;go_enter func121,ntmps121
  go_wp2_with fail
  refine d.mono ?_;rintro e w1 ⟨rfl,rfl⟩;go_wp2;go_ret;exact⟨by simp,rfl⟩
theorem ZkV {x y : Nat} {a : Nd} {l r : Tr} (d : wT (.node x y a l r) <= 100000) (k : Nat) (c : k <= 1000000000) : SelW (Zba a, k) := ⟨⟨by show 1 <= 6; decide, by show 0 <= 4; decide, fun h => (by cases h), fun h => (by cases h), by show (0 : Int) <= 0; decide, by show (0 : Int) <= 1000000000; decide, fun h => absurd (show 3 <= 1 from h) Dc, fun h => (by rcases h with h | h <;> cases h), fun _ => ⟨rfl, rfl⟩, fun h => (by rcases h with h | h <;> cases h), trivial, trivial⟩, rfl, by
  have e:wT (.node x y a l r)=ownW a+wT l+wT r:=rfl;show ownW (Zba a)+0+0<=100000;have f:ownW (Zba a)<=ownW a:=by unfold ownW Zba;simp[nw]
  omega,c⟩
theorem GW.pow(h:GW w0 w X g)(d:ZR w0)(a:20<=w0.heap.size):ZR w/\20<=w.heap.size:=by
 obtain⟨a1,a2,a3,a4,a5,a6,e⟩:=h;obtain⟨f,c,_⟩:=e.j;exact⟨d.low c.bel a,Yah a c.bel.size⟩
theorem ZmI(X:GX)(P:ZR w0)(Q:20<=w0.heap.size):∀(t:Tr) (g:Gq) (w:World) (v:Value),GW w0 w X g->Zh w0 t v->wfT t->wT t<=100000->g.jx.length+wT t<=400000->g.kw.length+wT t<=400000->g.qx.length+wT t<=400000->
  CP 75 #[Vp X.gb,v] w fun e w'=>e=.returned (Vi ((Zb t g).1:Nat))/\Hid (GP w0 w w' X (Zb t g).2)
 | .nil,_,_,_,_,h,_,_,_,_,_=>h.elim
 | .node px py a l r, g, w, v, hG, hv, d, a8, hn, hs, hr => by
   have IHL:=hid (ZmI X P Q l);have IHR:=hid (ZmI X P Q r);have HG:=hid hG;have d8:=hid d;have HT:=hid P;have a4:=hid Q;have b6:=hid a8;have c7:wT (.node px py a l r)=ownW a+wT l+wT r:=rfl;rw[c7]at hn hs hr a8;have d9:=Zmz a;clear hG;rcases hv with ⟨B,rfl⟩|⟨B,nm,la,ln,lc,rfl,S,T⟩|⟨B,L,nm,la,ln,lc,rfl,U,S,T⟩|⟨B,x,rfl,G⟩|⟨B,L,la,ln,lc,x,rfl,U,b7,G⟩|⟨B,x,y,rfl,G,hy⟩
   · have H:Hid (Zb (.node px py a l r) g=Zdw _ g):=hid (by unfold Zb;rw[if_pos B])
     have HV:Hid (vOk _):=hid ⟨by have:=d.2.2.2.2.1;omega,d.2.2.2.2.2.1⟩;clear d P Q;have R:=ZhB (.agg #[Vi a.n]);go_enter func75,ntmps75
     go_wp2_with fail
     refine Zm fun C j=>?_;have f:BW w C:=j▸belB;clear j;refine(Zov (HG.below f) HV Om).mono ?_;rintro e w1 ⟨rfl,k⟩;go_wp2;go_ret;rw[H];exact⟨rfl,hid (GP.step (KT.below f) k)⟩
   · have H:Hid (Zb (.node px py a l r) g=ZJ _ g):=hid (by unfold Zb;rw[if_neg Om,if_pos B])
     have a9:Hid (Zeg _ (nm,la,ln,lc,0) (Zba a,0)):=hid ⟨S,T,rfl⟩;clear d P Q S T;have R:=ZhE (.agg #[.string nm,.slice la ln lc]);have V:=ZhD (.agg #[.string nm,.slice la ln lc]);have h3:=ZhF (.agg #[.string nm,.slice la ln lc]);have h4:=ZhC (.agg #[.string nm,.slice la ln lc]);have h5:=ZhG (.agg #[.string nm,.slice la ln lc]);have h6:=ZgD (.agg #[.string nm,.slice la ln lc]);go_enter func75,ntmps75
     go_wp2_with fail
     refine Zm fun C j=>?_;have f:BW w C:=j▸belB;clear j;have b0:=HG.below f;refine(ZrB b0 a9.out (ZkV b6.out 0 Om) (b0.pow HT.out a4.out).1 (b0.pow HT.out a4.out).2 Om Om).mono ?_;rintro e w1 ⟨rfl,k⟩;go_wp2;go_ret;rw[H];exact⟨rfl,hid (GP.step (KT.below f) k)⟩
   · obtain⟨m,hm⟩:∃m:Nat,a.n=m:=⟨a.n.toNat,by have:=d.2.2.2.2.1;omega⟩
     have H:Hid (Zb (.node px py a l r) g=addQ ⟨2,a.op,some (ZJ (Zba a,m) g).1,none⟩ (ZJ (Zba a,m) g).2):=by unfold Zb;rw[if_neg Om,if_neg Om,if_pos B,hm];rfl
     have a9:Hid (Zeg _ (nm,la,ln,lc,m) (Zba a,m)):=hid ⟨S,T,rfl⟩;have Y:=d.2.1;have c8:m<=1000000000:=by have:=d.2.2.2.2.2.1;omega
     have Z:=hid (Zgk (Zba a,m) g);have c9:=hid (fun W=>ZqY Y U W);rw[hm];clear d P Q S T U;have R:=ZhJ (.agg #[.string L,.string nm,.slice la ln lc,Vi m]);have V:=ZhI (.agg #[.string L,.string nm,.slice la ln lc,Vi m]);have h3:=ZhK (.agg #[.string L,.string nm,.slice la ln lc,Vi m]);have h4:=ZhH (.agg #[.string L,.string nm,.slice la ln lc,Vi m]);have h5:=ZhL (.agg #[.string L,.string nm,.slice la ln lc,Vi m]);go_enter func75,ntmps75
     go_wp2_with fail
     refine Zm fun C j=>?_;have f:BW w C:=j▸belB;have z:Hid (BAt _ _ _ 150):=j▸(show BAt _ _ _ _ from bnw);have A:=hid (KT.below f);have s:=hid (HG.below f);clear j f R V h3 h4 h5;generalize w.heap.size=qb at *
     refine(ZrB s.out a9.out (ZkV b6.out m c8) (s.pow HT.out a4.out).1 (s.pow HT.out a4.out).2 Om Om).mono ?_;rintro e w1 ⟨rfl,k⟩;have a0:=hid (k.kt.bat z Dc);have M:=hid k.gw;have N:=hid (A.trans k.kt);clear k z s A;generalize ZJ (Zba a,m) g=p at *
     have q0:w1.cell? _=some _:=a0.cell 0;have e0:=a0.lt;obtain⟨D,I⟩:=Z.out;have a5:=D.n2
     go_wp2_with fail
     refine(c9 _).mono ?_;rintro e w2 ⟨rfl,rfl⟩;have HA:=hid (M.add ⟨2,a.op,some _,none⟩ (ZgY Dc I Om Om) Om);simp only[nI]at HA
     go_wp2_with fail
     refine HA.mono ?_;rintro e w3 ⟨rfl,b1⟩;go_wp2;go_ret;rw[H];exact⟨rfl,hid (GP.step N b1)⟩
   · have H:Hid (Zb (.node px py a l r) g=negQ _ _):=hid (by rw[Zb,if_neg Om,if_neg Om,if_neg Om,if_pos B])
     have E:=d.2.2.2.2.2.2.2.2.2.2.1;have Z:=hid (Zew l g E);have a3:=d.2.2.2.2.2.2.1 Om;have HX:=hid G;obtain⟨ty,u,J⟩:=Zh.shape G;subst J;clear d P Q G;have R:=ZhA (.agg #[.iface ty u]);have V:=Zhz (.agg #[.iface ty u]);go_enter func75,ntmps75
     go_wp2_with fail
     refine Zm fun C j=>?_;have f:BW w C:=j▸belB;have A:=hid (KT.below f);have s:=hid (HG.below f);clear j f R V;refine(IHL g _ _ s HX E Om Om Om Om).mono ?_;rintro e w1 ⟨rfl,k⟩;have M:=hid k.gw;have N:=hid (A.trans k.kt);clear k s A;generalize Zb l g=p at *
     obtain⟨D,I⟩:=Z.out;have a5:=D.n2
     go_wp2_with fail
     refine(ZuI M (I a3) Om).mono ?_;rintro e w3 ⟨rfl,b1⟩;go_wp2;go_ret;rw[H];exact⟨rfl,hid (GP.step N b1)⟩
   · have H:Hid (Zb (.node px py a l r) g=addQ _ _):=hid (by rw[Zb,if_neg Om,if_neg Om,if_neg Om,if_neg Om,if_pos B])
     have E:=d.2.2.2.2.2.2.2.2.2.2.1;have Z:=hid (Zew l g E);have a3:=d.2.2.2.2.2.2.1 Om;have Y:=d.2.2.2.1 B;have d0:nw a.by_<=100000:=by unfold ownW at a8;omega
     have d1:=hid (fun W=>ZwB Y U W);have HX:=hid G;have d2:=hid b7;obtain⟨ty,u,J⟩:=Zh.shape G;subst J;clear d P Q G U b7;have R:=Zhx (.agg #[.string L,.slice la ln lc,.iface ty u]);have V:=Zhw (.agg #[.string L,.slice la ln lc,.iface ty u]);have h3:=Zhy (.agg #[.string L,.slice la ln lc,.iface ty u]);have h4:=Zhv (.agg #[.string L,.slice la ln lc,.iface ty u]);go_enter func75,ntmps75
     go_wp2_with fail
     refine Zm fun C j=>?_;have f:BW w C:=j▸belB;have z:Hid (BAt _ _ _ 124):=j▸(show BAt _ _ _ _ from bnw);have A:=hid (KT.below f);have s:=hid (HG.below f);clear j f R V h3 h4;generalize w.heap.size=qb at *
     refine(IHL g _ _ s HX E Om Om Om Om).mono ?_;rintro e w1 ⟨rfl,k⟩;have a0:=hid (k.kt.bat z Dc);have M:=hid k.gw;have N:=hid (A.trans k.kt);clear k s A z;generalize Zb l g=p at *
     obtain⟨D,I⟩:=Z.out;have a5:=D.n2;have b8:=D.r1;have e1:=hid (I a3);have d3:=hid (Zje a.by_ p.2)
     go_upto_region 14 with fail
     have a6:Hid (BAt w1.drew _ _ _):=a0;have b9:=hid (M.below (Yaf _ _).drew);have c1:=hid (N.trans (KT.below (Yaf _ _).drew));refine Zbn 11 (fun w'=>w'.cell? _=some _/\w'.cell? _=some _) Kr ⟨a6.cell 0,a6.cell 1⟩ (fun c=>?_);clear a0 M N;generalize w1.drew=w2 at *
     refine Za 0 c (h:=?_);refine Za 1 c (h:=?_);refine Za 2 c (h:=?_);refine Za 4 c (h:=?_);refine Za 5 c (h:=?_);refine Za 6 c (h:=?_);refine Za 8 c (h:=?_);refine Z4 (i:=3) Kr rfl (fun K o=>?_);go_simp;refine(d1 _).mono ?_;rintro e w3 ⟨rfl,rfl⟩;refine o _ _ c (fun c=>?_);clear o K
     try simp only[Act.put,Zset]
     refine Z4 (i:=7) Kr rfl (fun K o=>?_);go_simp;refine(Zuz b9 d2 d0 Om).mono ?_;rintro e w4 ⟨rfl,a7⟩;have F:=hid (a7.kt.bat a6 Dc);have b2:=hid a7.gw;have b3:=hid (c1.trans a7.kt);clear a7 a6 b9 c1;obtain⟨b4,e2,c2⟩:=d3.out;generalize Zbd a.by_ p.2=q at *
     refine o _ _ ⟨F.cell 0,F.cell 1⟩ (fun c=>?_);clear o K;refine Za 9 c (h:=?_);have e3:=b4.n2;have HA:=hid (b2.add ⟨5+a.op,(q.1),some _,none⟩ (ZgY Om (by rwa [c2]) Om Om) (by rw[c2];omega));simp only[nI]at HA;refine Z4 (i:=10) Kr rfl (fun K o=>?_);go_simp;refine HA.mono ?_;rintro e w5 ⟨rfl,a1⟩;have O:=hid (a1.kt.bat F Dc);refine o _ _ ⟨O.cell 0,O.cell 1⟩ (fun c=>?_);clear o K
     try simp only[Act.put,Zset]
     refine Zbl Kr Kr rfl Kr (fun K o=>?_);go_simp;refine o _ _ ?_;clear o K c;go_wp2;go_ret;rw[H];exact⟨rfl,hid (GP.step b3 a1)⟩
   · have H:Hid (Zb (.node px py a l r) g=Zgj (opNo a) (Zb l g).1 (Zb r (Zb l g).2).1 (Zb r (Zb l g).2).2):=hid (by
       rw[Zb,if_neg Om,if_neg Om,if_neg Om,if_neg Om,if_neg Om];unfold Zgj opNo;rcases B with h4|h6
       · have h6:¬a.jk=6:=by omega
         simp[h6]
       · simp[h6])
     have E:=d.2.2.2.2.2.2.2.2.2.2.1;have c3:=d.2.2.2.2.2.2.2.2.2.2.2;have d4:=hid (Zew l g E);have d5:=hid (Zew r (Zb l g).2 c3);have d6:=d.2.2.2.2.2.2.1 Om;have d7:=d.2.2.2.2.2.2.2.1 B
     have Y:opNo a<=4:=by
       unfold opNo;split
       · omega
       · have:=d.2.2.1 Om;omega
     have HX:=hid G;have HY:=hid hy;obtain⟨ty,u,J⟩:=Zh.shape G;subst J;obtain⟨ty2,u2,J⟩:=Zh.shape hy;subst J;generalize opNo a=oo at *
     clear d P Q G hy B;have R:=ZgB (.agg #[Vi oo,.iface ty u,.iface ty2 u2]);have V:=ZgA (.agg #[Vi oo,.iface ty u,.iface ty2 u2]);have h3:=ZgC (.agg #[Vi oo,.iface ty u,.iface ty2 u2]);go_enter func75,ntmps75
     go_upto_region 10 with fail
     refine ZP fun C j=>?_;have f:BW w C:=j▸belB;have z:Hid (BAt C.drew _ _ 116):=j▸(show BAt _ _ _ _ from bnw);have A:=hid (KT.below f.drew);have s:=hid (HG.below f.drew);clear j f R V h3;generalize w.heap.size=qb at *
     refine Zbn 12 (fun w'=>w'.cell? _=some _/\w'.cell? _=some _/\w'.cell? _=some _) Kr ⟨z.cell 0,z.cell 1,z.cell 2⟩ (fun c=>?_);generalize C.drew=w2 at *
     refine Za 0 c (h:=?_);refine Za 1 c (h:=?_);refine Za 2 c (h:=?_);refine Za 3 c (h:=?_);refine Za 4 c (h:=?_);refine Za 5 c (h:=?_);refine Za 7 c (h:=?_);refine Za 8 c (h:=?_);refine Za 9 c (h:=?_);refine Z4 (i:=6) Kr rfl (fun K o=>?_);go_simp;refine(IHL g _ _ s HX E Om Om Om Om).mono ?_;rintro e w3 ⟨rfl,k⟩;have a2:=hid (k.kt.bat z Dc);have c4:=hid k.gw;have c5:=hid (A.trans k.kt);clear k s A z;generalize Zb l g=p at *
     obtain⟨b5,a5⟩:=d4.out;have e4:=b5.n2;have e5:=b5.s1;have e6:=b5.r1;refine o _ _ ⟨a2.cell 0,a2.cell 1,a2.cell 2⟩ (fun c=>?_);clear o K
     try simp only[Act.put,Zset]
     refine Z4 (i:=10) Kr rfl (fun K o=>?_);go_simp;refine(IHR _ _ _ c4 HY c3 Om Om Om Om).mono ?_;rintro e w4 ⟨rfl,k⟩;have F:=hid (k.kt.bat a2 Dc);have b2:=hid k.gw;have b3:=hid (c5.trans k.kt);clear k c4 c5 a2;generalize Zb r p.2=q at *
     obtain⟨c6,b8⟩:=d5.out;have e7:=c6.n2;have e8:=c6.n1;have e9:=a5 d6;have b4:=b8 d7;refine o _ _ ⟨F.cell 0,F.cell 1,F.cell 2⟩ (fun c=>?_);clear o K
     try simp only[Act.put,Zset]
     refine Z4 (i:=11) Kr rfl (fun K o=>?_);go_simp;refine(Zvn b2 Y Om b4 Om).mono ?_;rintro e w5 ⟨rfl,a1⟩;have O:=hid (a1.kt.bat F Dc);refine o _ _ ⟨O.cell 0,O.cell 1,O.cell 2⟩ (fun c=>?_);clear o K
     try simp only[Act.put,Zset]
     refine Zbl Kr Kr rfl Kr (fun K o=>?_);go_simp;refine o _ _ ?_;clear o K c;go_wp2;go_ret;rw[H];exact⟨rfl,hid (GP.step b3 a1)⟩
end
end
section
section
variable {w0 w w' w1 w2:World} {X:GX} {nv uv sv rv:Value} {sl:List SelC} {rl:List RowC} {g g':Gq} {kN:Nat} {f:Nq->Option Int} {ss gs:List (LB)}
theorem Zg0{e:TypeId}:w.ownsRow b e sz S0 0 []:=Ybc w b e _
theorem GW.new(w:World)(fl:Nat)(w':World)(m:w'=(((w.alloc (.map #[] 0)).alloc (.map #[] 0)).alloc (.map #[] 0)).alloc (.cells #[.bool (g0 fl).fold,.bool (g0 fl).share,S0,S0,.map (some w.heap.size),S0,S0,.map (some (w.heap.size+1)),.map (some (w.heap.size+2))] 176)):GW w w' ⟨w.heap.size,w.heap.size+3,w.heap.size,w.heap.size+1,w.heap.size+2⟩ (g0 fl):=by
 have k:∀ {a c:World} (o:Obj),c=a.alloc o->Below _ a c:=fun o e=>e▸Zbal;obtain⟨a1,l⟩:∃a1,a1=w.alloc (.map #[] 0):=⟨_,rfl⟩
 obtain⟨a2,d⟩:∃a2,a2=a1.alloc (.map #[] 0):=⟨_,rfl⟩
 obtain⟨a3,h⟩:∃a3,a3=a2.alloc (.map #[] 0):=⟨_,rfl⟩
 rw[<-l,<-d,<-h]at m;have s1:a1.heap.size=w.heap.size+1:=by rw[l];simp
 have s2:a2.heap.size=w.heap.size+2:=by rw[d];simp[s1]
 have s3:a3.heap.size=w.heap.size+3:=by rw[h];simp[s2]
 have m1:MapK _ 232 _ 0 nodV _:=l▸MapK.made w _ _;have m2:MapK _ 9 _ 0 Value.string _:=d▸s1▸MapK.made a1 _ _;have m3:MapK _ 9 _ 0 Value.string _:=h▸s2▸MapK.made a2 _ _;have k4:=KB.below 0 (k _ m);have k3:=KB.below 0 (k _ h);have k2:=KB.below 0 (k _ d);refine⟨.slice _ 0 0,.slice _ 0 0,.slice _ 0 0,.slice _ 0 0,[],[],⟨⟨fun _=>none,⟨?_,Zg0,Zg0,Zg0,Zg0,trivial,trivial,((m1.kb k2).kb k3).kb k4,(m2.kb k3).kb k4,m3.kb k4,⟨by simp,by simp,by simp⟩,⟨rfl,by simp,by simp,by simp,by simp⟩,?_⟩,fun _ x=>rfl⟩,rfl,fun i n=>absurd n (by simp[g0]),fun j=>by simp[g0]⟩⟩
 ·rw[m,<-s3];exact bnw
 ·have b1:=k _ l;have b2:=b1.trans ((k _ d).mono b1.size);have b3:=b2.trans ((k _ h).mono b2.size);exact b3.trans ((k _ m).mono b3.size)
theorem Zzj   (h : fl <= 7) : CP 74 #[Vi fl] w fun e w' => e = .returned (Vp (w.heap.size + 3)) /\ Hid (GW w w' ⟨w.heap.size, w.heap.size + 3, w.heap.size, w.heap.size + 1, w.heap.size + 2⟩ (g0 fl)) := by
  have d:=@run_makeMap prog;have a:=hid (fun w' c=>GW.new w fl w' c);rcases(by omega:fl=0∨fl=1∨fl=2∨fl=3∨fl=4∨fl=5∨fl=6∨fl=7)with rfl|rfl|rfl|rfl|rfl|rfl|rfl|rfl
  all_goals
    go_enter func74,ntmps74;go_wp2;go_ret;exact⟨rfl,hid (a.out _ rfl)⟩
theorem MapZ.below{N:Nat}{q:Nat->Option Int}(h:MapZ w b N q)(a:BW w w'):MapZ w' b N q:=h.move (a.block _ h.lt)
theorem Co.new(h:GI w0 w X nv uv sv rv sl rl g)(n:BW w w1){lb lc:Nat}(q:0<g.jx.length)(u:g.jx.length<=400000)(t:w1.ownsRow w.heap.size 3 1 (.slice (some ⟨lb,0,none⟩) g.jx.length lc) g.jx.length (g.uses.map intC))(p:w'=((w1.alloc (.map #[] 0)).alloc (.map #[] 0)).alloc (.cells #[Vp X.gb,.slice (some ⟨lb,0,none⟩) g.jx.length lc,.map (some w1.heap.size),.map (some (w1.heap.size+1)),S0,S0] 171)) :
  ∃Y:CX,Y.cb=w1.heap.size+2/\Y.gb=X.gb/\Y.jx=g.jx/\Y.base=X.base/\Y.gc=graC X g nv uv sv rv/\Co w' Y S0 S0 (c0 g)/\BW w w':=by
 obtain⟨f,l,_⟩:=h.j;obtain⟨nb,nc,r⟩:=ZF l.nod q;subst r;have m:∀ {a c:World} (o:Obj),c=a.alloc o->Below _ a c:=fun o e=>e▸Zbal;obtain⟨a1,d⟩:∃a1,a1=w1.alloc (.map #[] 0):=⟨_,rfl⟩
 obtain⟨a2,i⟩:∃a2,a2=a1.alloc (.map #[] 0):=⟨_,rfl⟩
 rw[<-d,<-i]at p;have s1:a1.heap.size=w1.heap.size+1:=by rw[d];simp
 have s2:a2.heap.size=w1.heap.size+2:=by rw[i];simp[s1]
 have b1:=m _ d;have b2:=m _ i;have b3:=m _ p;have b13:=(b1.trans (b2.mono b1.size)).trans (b3.mono (Yah b1.size b2.size));have bw:=n.trans (b13.mono n.size);have m1:MapZ _ _ _ _:=d▸MapZ.made w1 16;have m2:MapZ _ _ g.jx.length _:=i▸s1▸MapZ.made a1 _;have s:X.base<=w.heap.size:=by have:=l.bel.size;have:=l.bas.1;omega
 have v:=n.size;refine⟨⟨X.base,w1.heap.size+2,X.gb,lb,w1.heap.size,w1.heap.size+1,nb,lc,nc,graC X g _ _ _ _,g.jx⟩,rfl,rfl,rfl,rfl,rfl,⟨?_,l.box.below bw,rfl,Zn l.nod bw,(Zn t b13).mono s,?_,by simp[c0],⟨fun _=>none,m2.below b3⟩,Zg0,Zg0,by simp[Value.ownBlock],by simp,⟨by show X.base<=w1.heap.size+2;omega,by show X.base<=w1.heap.size;omega,by show X.base<=w1.heap.size+1;omega⟩,?_,by show g.jx.length<=1000000;omega,h.nok,fun j=>?_⟩,bw⟩
 ·rw[p,<-s2];exact bnw
 ·exact ((m1.below b2).below b3).congr (fun k _ => by
    show(List.replicate 16 (none:Option Int)).getD k none=none;rw[Yaa,Ybs];split <;> rfl)
 ·have:=b13.size;show X.base<=_;omega
 ·have:=h.ubd j;show g.uses.getD j 0<=_;omega
theorem Zzi(h:GI w0 w X nv uv sv rv sl rl g)(d:0<g.jx.length)(n:g.jx.length<=400000) :
  CP 76 #[Vp X.gb] w fun e w'=>∃cb,e=.returned (Vp cb)/\Hid (∃Y:CX,Y.cb=cb/\Y.gb=X.gb/\Y.jx=g.jx/\Y.base=X.base/\Y.gc=graC X g nv uv sv rv/\Co w' Y S0 S0 (c0 g)/\BW w w'):=by
 obtain⟨f,m,v⟩:=h.j;have x:=hid h;have a:=m.use;rw[h.ulen]at a;obtain⟨ub,uc,r⟩:=ZF a d;subst r;obtain⟨L,c⟩:∃L,L=g.jx.length:=⟨_,rfl⟩
 have b3:w.cell? _=some (.slice _ L _):=c▸m.box.cell 3;have s:=m.box.lt
 have o := hid (slices_Clone_int _ 0 L uc (g.uses.map Int.ofNat) w (by rw [Yak, h.ulen, c]; exact Yac _) Om (fun j i => by
   rw[Ycf];rw[Yak]at i;refine Zi a j _ ?_;rw[Ya2,List.getElem?_eq_getElem i];simp[intC,Yaa,i]))
 have t:Hid (((g.uses.map Int.ofNat).take L).map (Value.int .i64)=g.uses.map intC):=by
  rw[Ya5 (by rw[Yak,h.ulen,c];exact Yac _),Yb1];rfl
 have k:=hid c;have A:=@run_makeMap prog;rw[<-c]at d n;clear h m v a c;go_enter func76,ntmps76
 go_wp2_with fail
 refine o.mono ?_;rintro e w1 ⟨v1,rfl,p,_,q⟩;obtain⟨lb,lc,u⟩:=ZF p d;subst u;have l:=hid (fun w' z=>Co.new (w':=w') x q (by rwa [<-k.out]) (k.out▸n) (by rwa [<-k.out,<-t.out]) z);rw[<-k]at l;clear p q o b3 s;go_wp2;go_ret;refine⟨_,rfl,hid ?_⟩;rw[<-k];exact l _ rfl
end
end
section
section
variable {w w' w1:World} {B:Nat}
def Zbe(l:List (Nat×Nat)):Prop:=∀x∈l,x.1=10->x.2<=l.length
theorem Zp7(h:Zbe l)(i:Nat):Zbe (ZL l i)/\(ZL l i).length=l.length:=by
 unfold ZL;split
 ·rename_i d;refine⟨fun x a c=>?_,by simp⟩;rw[Yat];rcases Yck a with a|a
  ·exact h x a c
  ·rw[a];have:l.getD (l.getD i (0,0)).2 (0,0)∈l:=Yaa▸List.getElem?_eq_getElem d.2.1▸List.getElem_mem _;show(l.getD (l.getD i (0,0)).2 (0,0)).2<=l.length;exact h _ this d.2.2
 ·exact⟨h,rfl⟩
theorem Zz3(h:w.ownsRow B 159 2 (.slice (some ⟨g,0,none⟩) n cap) n (l.flatMap insC)){v:Nat}{c:k<l.length}(a:l[k].1=10):(w.setCell ⟨g,k*2+1,none⟩ (Vi v)).ownsRow B 159 2 (.slice (some ⟨g,0,none⟩) n cap) n ((l.set k (10,v)).flatMap insC):=by
 have:=Zrt h (k*2+1) (Vi v)
 rwa [Zlx l k v _ a]at this
theorem ZmA(h:w.ownsRow B 159 2 (.slice (some ⟨g,0,none⟩) n cap) n (l.flatMap insC))(a:k<l.length):w.cell? ⟨g,k*2,none⟩=some (Vi (l.getD k (0,0)).1)/\w.cell? ⟨g,k*2+1,none⟩=some (Vi (l.getD k (0,0)).2):=by
 have q : ∀ j, j < 2 -> (l.flatMap insC)[k * 2 + j]? = (insC (l.getD k (0, 0)))[j]? := fun j c => by
   rw[ZgL insC 2 (fun _=>rfl) l k j a c];simp[a]
 exact⟨Zi h _ _ (q 0 Dc),Zi h _ _ (q 1 Dc)⟩
theorem ZDd(l:List (Nat×Nat))(h:w.ownsRow B 159 2 (.slice (some ⟨g,0,none⟩) l.length cap) l.length (l.flatMap insC))(D:Zbe l)(J:l.length<=1000000) :
  CP 78 #[.slice (some ⟨g,0,none⟩) l.length cap] w fun e w'=>e=.returned (.tuple #[])/\Hid (w'.ownsRow B 159 2 (.slice (some ⟨g,0,none⟩) l.length cap) l.length ((Zch l).flatMap insC))/\Hid (w.grownBy w' (some g)):=by
 have E:=hid h;have K:=hid D;obtain⟨L,u⟩:∃L,L=l.length:=⟨_,rfl⟩
 rw[<-u]at E J ⊢;have M:=hid u;have N:Hid (Zch l=ZcI L l):=hid (by unfold Zch;rw[u]);clear h D u;have T:IntKind.i64.wrap ((L) - 1)=(L) - 1:=by rw[Ybo];omega
 go_enter func78,ntmps78;go_wp2
 go_loopw [2] (fun i wr=>∃(k:Nat) (l':List (Nat×Nat)),k<=L/\i=Vi ((k:Int) - 1)/\Hid (wr.ownsRow B 159 2 (.slice (some ⟨g,0,none⟩) L cap) L (l'.flatMap insC))/\Hid (Zbe l'/\l'.length=L)/\Hid (ZcI L l=ZcI k l')/\Hid (w.grownBy wr (some g))) (fun i _=>(intOf i+1).toNat)
 case atStart=>exact⟨L,l,Yac _,rfl,E,hid ⟨K,M.symm⟩,hid rfl,hid (Yek _ _)⟩
 case round=>
  obtain⟨k,l',hk,rfl,a,f,j,m⟩:=hrel;by_cases U:0<k
  ·obtain⟨i,rfl⟩:∃i,k=i+1:=⟨k - 1,by omega⟩
   have p:=f.2;have q:i<l'.length:=by omega
   have F:((i+1:Nat):Int) - 1=i:=by omega
   rw[F];have V:(0:Int)<=i:=by omega
   have W:(i:Int)<L:=by omega
   have X:IntKind.i64.wrap ((i) - 1)=(i) - 1:=by rw[Ybo];omega
   obtain⟨c0',c1'⟩:=ZmA a q;have Y:=Z1 a;have n:Hid (ZcI (i+1) l'=ZcI i _):=hid rfl;have v:=hid (Zp7 f.1 i);have d:Hid (ZL _ i=if (l'.getD i _).1=10/\(l'.getD i _).2<l'.length/\(l'.getD _ _).1=10 then l'.set i _ else l'):=hid rfl
   have r : Hid ((l'.getD i _).1 = 10 -> (l'.getD i (0, 0)).2 <= L) := hid (fun o => by
     have:l'.getD i (0,0)∈l':=Yaa▸List.getElem?_eq_getElem q▸List.getElem_mem _;have:=f.1 _ this o;omega)
   have s:Hid ((l'.getD i (0,0)).1=10->l'[i].1=10):=hid (fun h=>by rw[<-h];simp[q]);have z:=hid (fun(t) (O:t<l'.length)=>ZmA a O);rw[p]at d z;generalize l'.getD i (0,0)=x at *
   obtain⟨op,arg⟩:=x;simp only at c0' c1' d r s;by_cases o:op=10
   ·subst o;have P:=r rfl;by_cases C:arg=L
    ·subst C;have c:Hid (ZL _ i=l'):=hid (by rw[d,if_neg (fun h=>absurd h.2.1 (Nat.lt_irrefl _))]);go_wp2
     go_roundw
     case rel=>exact⟨i,l',by omega,rfl,a,f,hid (by rw[j,n,c]),m⟩
     case measure=>first|(simp[intOf];omega)|simp[intOf]
    ·have A:arg<L:=by omega
     have Z:(arg:Int)≠L:=by omega
     have Q:(arg:Int)<L:=by omega
     obtain⟨d0,d1⟩:=z _ A;generalize l'.getD arg (0,0)=y at *
     obtain⟨op2,arg2⟩:=y;simp only at d0 d1 d;by_cases G:op2=10
     ·subst G;have c:Hid (ZL _ i=l'.set i _):=hid (by rw[d,if_pos ⟨by trivial,A,by trivial⟩]);have fz:=ZjT a (i*2+1);have H:Hid ((wr.setCell _ (.int _ arg2)).ownsRow B _ 2 _ L _):=hid (Zz3 a (s rfl));have I:Hid (w.grownBy (wr.setCell ⟨g,i*2+1,none⟩ (Vi arg2)) _):=hid (ZA m (.inl rfl) _);go_wp2
      go_roundw
      case rel=>exact⟨i,_,by omega,rfl,H,hid (c.out▸⟨v.1,v.2.trans p⟩),hid (by rw[j,n,c]),I⟩
      case measure=>first|(simp[intOf];omega)|simp[intOf]
     ·have a0:(op2:Int)≠10:=by omega
      have c:Hid (ZL _ i=l'):=hid (by rw[d,if_neg (fun h=>G h.2.2)]);go_wp2
      go_roundw
      case rel=>exact⟨i,l',by omega,rfl,a,f,hid (by rw[j,n,c]),m⟩
      case measure=>first|(simp[intOf];omega)|simp[intOf]
   ·have R:(op:Int)≠10:=by omega
    have c:Hid (ZL _ i=l'):=hid (by rw[d,if_neg (fun h=>o h.1)]);go_wp2
    go_roundw
    case rel=>exact⟨i,l',by omega,rfl,a,f,hid (by rw[j,n,c]),m⟩
    case measure=>first|(simp[intOf];omega)|simp[intOf]
  ·obtain rfl:k=0:=by omega
   have S:Hid (Zch l=l'):=by rw[N,j];rfl
   go_wp2;exact bodyPost_end (results_none rfl _ _ _) rfl ⟨rfl,hid (by rwa [S.out]),m⟩
end
end
section
section
variable {w0 w w' w1 w2:World} {X:GX} {Y:CX} {nv uv sv rv cv iv cv' iv':Value} {sl:List SelC} {rl:List RowC} {g:Gq} {c c' d:Cq} {jx:List Nq} {W:Nat->Cq->Cq} {n x y:Nat} {l:List (Nat×Nat)}
theorem Zp4 (h : Zbe l) {z : Nat × Nat} (f : z.1 = 10 -> z.2 <= l.length + 1) : Zbe (l ++ [z]) := fun q i e => by
  rw[Yab,Ybj];rcases Yar.1 i with a|a
  · have:=h q a e;omega
  · rw[Yap]at a;subst a;exact f e
theorem Zga(h:Zbe c.jq)(arg:Nat)(a:op≠10):Zbe (Zc op arg c).jq:=Zp4 h (fun e=>absurd e a)
theorem Zp6(h:Zbe c.jq)(n s:Nat):Zbe (ZZ n s c).jq:=Zga h s Dc
theorem Zjn(f:∀z c,Zbe c.jq->Zbe (W z c).jq)(h:Zbe c.jq):Zbe (putQ jx W n c).jq:=by
 cases e:ZK n c.jy with
 | some s=>
  rw[Zd8 e];split
  ·exact Zga h s Dc
  ·exact Zga h s Dc
 | none=>
  rw[ZdR e];have a:=f n (decL n c) h;split
  ·exact a
  ·split
   ·exact Zga (Zp6 a _ _) _ Dc
   ·exact a
theorem Zp3(a:∀z c,Zbe c.jq->Zbe (W z c).jq):∀(k:Nat) (c:Cq),Zbe c.jq->Zbe (ZG jx W n k c).jq
 | 0,c,h=>h
 | k + 1, c, h => by
   unfold ZG;split
   · rename_i z s _ _
     exact Zp3 a k _ (Zp6 (a z { c with jy:=c.jy.set s _ } h) z s)
   · exact h
theorem Zxo(a:∀z c,Zbe c.jq->Zbe (W z c).jq)(h:Zbe c.jq):Zbe (Zbo jx W x y c).jq:=by
 unfold Zbo;simp only;have i:=Zjn (jx:=jx) (n:=x) a (Zp3 (jx:=jx) (n:=y) a (y+2) c h);generalize putQ jx W x (ZG jx W y (y+2) c)=c1 at *
 have j:=Zjn (jx:=jx) (n:=y) a (Zga (c:=Zc 10 0 _) (op:=11) (Zp4 i (fun _=>Yag _)) 0 Dc);intro z k f;rw[Yat];rcases Yck k with e|e
 ·exact j z e f
 ·rw[e];exact Yac _
theorem Zp5 (a : ∀ z c, Zbe c.jq -> Zbe (W z c).jq) : ∀ (ts : List Nat) (c : Cq), Zbe c.jq -> Zbe (ts.foldl (fun c t => putQ jx W t c) c).jq
  | [],c,h=>h
  | t::ts,c,h=>by rw[Ybp];exact Zp5 a _ _ (Zjn a h)
theorem Zp8:∀(f n:Nat) (c:Cq),Zbe c.jq->Zbe (Zr jx f n c).jq
 | 0,n,c,h=>h
 | f + 1, n, c, h => by
   have e:=fun z c=>Zp8 f z c;by_cases a:(jx.getD n nq0).op=10
   · unfold Zr;simp only;rw[if_pos a];exact Zxo e h
   · rw[Zgu a]
     have i:=Zp5 (jx:=jx) e (Zg (jx.getD n nq0)) c h;unfold ZbD;split
     · exact Zga i _ Dc
     · exact Zga i _ a
theorem Zi2(g:Gq)(r:Nat):Zbe (Zv g r).jq:=Zjn (fun z c h=>Zp8 _ z c h) (fun z a=>by cases a)
theorem ZEQ(f n:Nat)(c:Cq):0<(Zr jx (f+1) n c).jq.length:=by
 by_cases a:(jx.getD n nq0).op=10
 ·unfold Zr;simp only;rw[if_pos a];unfold Zbo;simp only[Yat];exact Yaw (by simp[Zc]) (Zg4 _ (fun c=>ZiK f _ c) _).1
 ·rw[Zgu a];unfold ZbD;split <;> simp[Zc]
theorem ZCo(n:Nat):ZK n (List.replicate 16 none)=none:=by
 unfold ZK;rw[Yc2];intro s _;rw[Yaa,Ybs];split <;> simp
theorem Zoo(g:Gq)(r:Nat):0<(Zv g r).jq.length:=by
 unfold Zv;rw[ZdR (ZCo r)];have h:=ZEQ (jx:=g.jx) r r (decL r (c0 g));split
 ·exact h
 ·split
  ·simp[Zc,ZZ]
  ·exact h
theorem ZiE:∀(k:Nat) (l:List (Nat×Nat)),Zbe l->Zbe (ZcI k l)/\(ZcI k l).length=l.length
 | 0,l,h=>⟨h,rfl⟩
 | k + 1, l, h => by
   have a:=Zp7 h k;have e:=ZiE k _ a.1;exact⟨e.1,e.2.trans a.2⟩
structure CodeW (B:Nat) (w:World) (cv sv rv iv:Value) (sl:List SelC) (rl:List RowC) (c:CodeQ):Prop where
 cons:w.ownsRow B 3 1 cv c.jj.length (c.jj.map (Value.int .i64))
 sel:w.ownsRow B 156 3 sv c.ju.length (sl.flatMap ZfB)
 grp:w.ownsRow B 122 1 rv c.jw.length (rl.map rowV)
 jq:w.ownsRow B 159 2 iv c.jq.length (c.jq.flatMap insC)
 sok:ZcK w sl c.ju
 gok:ZbK w rl c.jw
theorem ZcK.mono(e:∀v cs,ZX w v cs->ZX w' v cs):∀ {a:List SelC} {b:List (Nd×Nat)},ZcK w a b->ZcK w' a b
 | [],[],h=>h
 | _::_,_::_,h=>⟨⟨h.1.1,e _ _ h.1.2.1,h.1.2.2⟩,ZcK.mono e h.2⟩
 | [],_::_,h=>h
 | _::_,[],h=>h
theorem CodeW.kb{T:TypeId}(h:CodeW B w cv sv rv iv sl rl q)(e:KB T w w')(f:T∉[3,156,122,159,224,9]):CodeW B w' cv sv rv iv sl rl q:=by
 simp only[Yau,Ye2,or_false,not_or]at f;obtain⟨i,j,k,m,o,p⟩:=f;exact⟨e.own h.cons (Ycp i),e.own h.sel (Ycp j),e.own h.grp (Ycp k),e.own h.jq (Ycp m),h.sok.mono (fun _ _ ⟨bs,a,b⟩=>⟨bs,e.own a (Ycp o),b⟩),h.gok.kb e (Ycp p)⟩
theorem CodeW.below(h:CodeW B w cv sv rv iv sl rl q)(a:BW w w'):CodeW B w' cv sv rv iv sl rl q:=h.kb (KB.below 0 a) Dc
theorem CodeW.lower{A:Nat}(h:CodeW B w cv sv rv iv sl rl q)(a:A<=B):CodeW A w cv sv rv iv sl rl q:=⟨h.cons.mono a,h.sel.mono a,h.grp.mono a,h.jq.mono a,h.sok,h.gok⟩
structure QW (w0 w:World) (X:GX) (Y:CX) (g:Gq) (nv uv sv rv cv iv:Value) (sl:List SelC) (rl:List RowC) (co:List Int) (l:List (Nat×Nat)):Prop where
 cb:BAt w Y.cb (coC Y cv iv) 171
 gb:BAt w X.gb (graC X g nv uv sv rv) 176
 code:CodeW w0.heap.size w cv sv rv iv sl rl ⟨co,g.kw,g.qx,l⟩
 bel:BW w0 w
theorem ZmE {base : Nat} {e : TypeId}    {xs : List Value} (a : w.ownsRow base e sz v n xs) (h : ∀ (b : Nat) (cs : Array Value) (fr : Nat × Nat), w.heap[b]? = some (.cells cs e fr) -> w'.heap[b]? = w.heap[b]?) : w'.ownsRow base e sz v n xs := ZdA a (fun k f => by
  obtain⟨cs,fr,i⟩:=Zcw a f;exact h _ _ _ i)
theorem Co.chgT(h:Co w Y cv iv c){cs:Array Value}{U:TypeId}{fr:Nat×Nat}(a:w.heap[b]?=some (.cells cs U fr))(i:U≠171/\U≠3/\U≠159):¬Y.chg cv iv b:=by
 obtain⟨lc,lf,m⟩:=Zcw h.left rfl;obtain⟨e1,c1,o⟩:=h.jy.obj;obtain⟨f,p⟩:=h.tak;obtain⟨e2,c2,k⟩:=p.obj;rintro(e|e|e|e|e|e)
 ·subst e;exact i.1 (Zc7 a h.box)
 ·subst e;exact i.2.1 (Zc7 a m)
 ·subst e;exact ZbU o a rfl
 ·subst e;exact ZbU k a rfl
 ·obtain⟨_,_,j⟩:=Zcw h.cons e;exact i.2.1 (Zc7 a j)
 ·obtain⟨_,_,j⟩:=Zcw h.jq e;exact i.2.2 (Zc7 a j)
theorem Co.chgB(h:Co w Y cv iv c)(a:Y.chg cv iv b):Y.base<=b:=by
 rcases a with e|e|e|e|e|e
 ·rw[e];exact h.bas.1
 ·rw[e];exact(h.left.lt _ rfl).1
 ·rw[e];exact h.bas.2.1
 ·rw[e];exact h.bas.2.2
 ·exact(h.cons.lt _ e).1
 ·exact(h.jq.lt _ e).1
theorem ZbK.stay{a:List RowC}{b:List (List (LB))}(h:ZbK w a b)(e:∀(b:Nat) (cs:Array Value) (fr:Nat×Nat),w.heap[b]?=some (.cells cs 9 fr)->w'.heap[b]?=w.heap[b]?):ZbK w' a b:=h.mono (fun _ _ ⟨bs,f,i⟩=>⟨bs,ZmE f e,i⟩)
theorem QW.of(h:GI w0 w X nv uv sv rv sl rl g)(k:BW w w1)(m:Y.gb=X.gb/\Y.base=X.base/\Y.gc=graC X g nv uv sv rv)(p:Co w1 Y cv iv c)(q:KeepS (Y.chg cv iv) w1 w2)(hd:Co w2 Y cv' iv' d):QW w0 w2 X Y g nv uv sv rv cv' iv' sl rl d.jj d.jq:=by
 obtain⟨f,a,_⟩:=h.j;have o:=m.2.1.trans a.bas.1
 have st : ∀ {U : TypeId}, (U ≠ 171 /\ U ≠ 3 /\ U ≠ 159) -> ∀ (b : Nat) (cs : Array _) (fr : Nat × Nat), w.heap[b]? = some (.cells cs U fr) -> w2.heap[b]? = w.heap[b]? := fun s b cs fr e => by
   have r:=(Yae.1 e).1;have i:=k.block b r;rw[q.block b (Yaw r k.size) (p.chgT (i.trans e) s),i]
 have e:=a.bel.trans (k.mono a.bel.size);have i:=e.trans (q.below (fun j a=>o▸p.chgB a) e.size);refine⟨hd.box,?_,⟨?_,?_,?_,?_,a.sok.mono (fun _ _ h=>h.below i),?_⟩,i⟩
 ·have:=hd.gbox;rwa [m.1,m.2.2]at this
 ·rw[<-o];exact hd.cons
 ·have:=a.bas.1;rw[<-this];exact ZmE a.sel (st ⟨by decide,by decide,by decide⟩)
 ·have:=a.bas.1;rw[<-this];exact ZmE a.grp (st ⟨by decide,by decide,by decide⟩)
 ·rw[<-o];exact hd.jq
 ·exact a.gok.stay (st ⟨by decide,by decide,by decide⟩)
theorem QW.led{ib ic:Nat}(h:QW w0 w X Y g nv uv sv rv cv (.slice (some ⟨ib,0,none⟩) l.length ic) sl rl co l)(i:Zbe l)(j:w1.ownsRow w0.heap.size 159 2 (.slice (some ⟨ib,0,none⟩) l.length ic) l.length ((Zch l).flatMap insC))(f:w.grownBy w1 (some ib)):QW w0 w1 X Y g nv uv sv rv cv (.slice (some ⟨ib,0,none⟩) l.length ic) sl rl co (Zch l):=by
 have e:=KB.row h.code.jq f;refine⟨e.bat h.cb Dc,e.bat h.gb Dc,⟨e.own h.code.cons Dc,e.own h.code.sel Dc,e.own h.code.grp Dc,?_,h.code.sok.mono (fun _ _ ⟨bs,a,b⟩=>⟨bs,e.own a Dc,b⟩),h.code.gok.kb e Dc⟩,?_⟩
 ·show w1.ownsRow _ _ _ _ (Zch l).length _;rw[show(Zch l).length=l.length from(ZiE _ l i).2];exact j
 ·exact ZeR h.bel f (fun k e=>by injection e with e;subst e;exact(h.code.jq.lt _ rfl).1)
theorem QW.below(h:QW w0 w X Y g nv uv sv rv cv iv sl rl co l)(a:BW w w'):QW w0 w' X Y g nv uv sv rv cv iv sl rl co l:=⟨h.cb.below a,h.gb.below a,h.code.below a,h.bel.trans (a.mono h.bel.size)⟩
theorem CodeW.set4{A:Nat}{x0 x1 x2 x3 v0 v1 v2 v3:Value}(e:BAt w b [x0,x1,x2,x3] 59)(h:CodeW B w cv sv rv iv sl rl q)(f:Below A w0 w)(a:A<=b):BAt ((((w.setCell ⟨b,0,none⟩ v0).setCell ⟨b,1,none⟩ v1).setCell ⟨b,2,none⟩ v2).setCell ⟨b,3,none⟩ v3).drew b [v0,v1,v2,v3] 59/\CodeW B ((((w.setCell ⟨b,0,none⟩ v0).setCell ⟨b,1,none⟩ v1).setCell ⟨b,2,none⟩ v2).setCell ⟨b,3,none⟩ v3).drew cv sv rv iv sl rl q/\Below A w0 ((((w.setCell ⟨b,0,none⟩ v0).setCell ⟨b,1,none⟩ v1).setCell ⟨b,2,none⟩ v2).setCell ⟨b,3,none⟩ v3).drew:=by
 have b1:=e.setC 0 v0;have b2:=b1.setC 1 v1;have b3:=b2.setC 2 v2;have b4:=b3.setC 3 v3;have i:=(((KB.set e 0 _).trans (KB.set b1 1 _)).trans (KB.set b2 2 _)).trans (KB.set b3 3 v3);exact⟨b4,(h.kb i Dc).below (Yaf _ _).drew,((((f.setCell (p:=⟨b,0,none⟩) a _).setCell a _).setCell a _).setCell (p:=⟨b,3,none⟩) a _).drew⟩
theorem ZtH(a:fl<=7):bits .and .i64 (fl:Int) 4=if 4<=fl then 4 else 0:=by
 rcases(by omega:fl=0∨fl=1∨fl=2∨fl=3∨fl=4∨fl=5∨fl=6∨fl=7)with rfl|rfl|rfl|rfl|rfl|rfl|rfl|rfl <;> rfl
theorem ZA2(t:Tr)(fl:Nat)(hf:fl<=7)(hv:Zh w t v)(B:wfT t)(L:isNil t=false)(M:wT t<=100000)(ht:ZR w)(hB:20<=w.heap.size)(hS:Sml (Zv (Zb t (g0 fl)).2 (Zb t (g0 fl)).1)) :
  CP 37 #[v,Vi fl] w fun e w'=>∃cv sv rv iv sl rl,e=.returned (.agg #[cv,sv,rv,iv])/\Hid (CodeW w.heap.size w' cv sv rv iv sl rl (LS.codeOf t fl))/\BW w w':=by
 obtain⟨P,H⟩:∃P,P=Zb t (g0 fl):=⟨_,rfl⟩
 have q:Hid (LS.codeOf t fl=⟨(Zv P.2 P.1).jj,P.2.kw,P.2.qx,if 4<=fl then Zch (Zv P.2 P.1).jq else (Zv P.2 P.1).jq⟩):=by rw[H];rfl
 have r:=hid (Zew t (g0 fl) B);rw[<-H]at hS r;have HP:=hid H;have HS:=hid hS;have HV:=hid hv;have b2:=hid B;have HT:=hid ht;have N:=hid hB;have b3:=hid L;have o:=hid M;have O:=ZtH hf;clear H hS hv B ht hB L M;go_enter func37,ntmps37
 go_wp2_with fail
 refine Zm fun k s=>?_;have Q:BW w k:=s▸belB;have c1:k.heap.size=w.heap.size+1:=by rw[s];simp
 have R:Hid (BAt _ _ _ 59):=s▸(show BAt _ _ _ _ from bnw);have p:=hid Q;clear s Q;refine(Zzj hf).mono ?_;rintro e w1 ⟨rfl,HG⟩;obtain⟨X,hX⟩:∃X:GX,X=⟨k.heap.size,k.heap.size+3,k.heap.size,k.heap.size+1,k.heap.size+2⟩:=⟨_,rfl⟩
 have S:k.heap.size+3=X.gb:=by rw[hX]
 rw[<-hX]at HG;rw[S];clear hX S
 go_wp2_with fail
 refine(ZmI X (HT.low p N) (Yah N p.size) t _ _ v HG (HV.below p) b2 o (by have:=o.out;show 0+_<=_;omega) (by have:=o.out;show 0+_<=_;omega) (by have:=o.out;show 0+_<=_;omega)).mono ?_;rintro e w2 ⟨rfl,u⟩;rw[<-HP]at u ⊢;obtain⟨root,g⟩:=P;simp only at u q HS r ⊢;obtain⟨nv,uv,sv,rv,sl,rl,T,_⟩:=u.out;have U:=hid T;have z:=r.2 b3;have b4:g.jx.length<=400000:=by have h1:=r.1.n2;have:=o.out;have e:(g0 fl).jx.length=0:=rfl;rw[e]at h1;omega
 clear T u HG HP
 go_wp2_with fail
 refine(Zzi U Om b4).mono ?_;rintro e w3 ⟨cb,rfl,V⟩;obtain⟨Y,b5,Z,a0,a1,a2,a3,a4⟩:=V.out;have HY:=hid (And.intro Z (And.intro a1 a2));have a5:=hid a3;have b6:=hid a4;have A:=hid a0;subst b5;clear Z a0 a1 a2 a3 a4 V
 go_wp2_with fail
 refine(ZjZ (Ztg Y (root+1) _ (Ybd _) (A.out▸z)) a5 (A.out▸z) (by rwa [A.out])).mono ?_;rintro e I ⟨rfl,D⟩;obtain⟨cv,iv,hd,hk,_,_⟩:=D.out;obtain⟨C,E⟩:∃C,C=Zv g root:=⟨_,rfl⟩
 have a6:Co I Y cv iv C:=by rw[E];rw[A]at hd;exact hd
 have m:=hid (QW.of U b6 HY a5 hk a6);have b7:0<C.jq.length:=E▸Zoo g root;have a7:Hid (Zbe _):=E▸Zi2 g root;rw[<-E]at HS q;obtain⟨ib,ic,b8⟩:=ZF m.code.jq b7;subst b8;obtain⟨ca,cc,a8⟩:=Zl m.code.cons;obtain⟨sa,sc,a9⟩:=Zl m.code.sel;obtain⟨ra,rc,b0⟩:=Zl m.code.grp;simp only at a8 a9 b0;subst a8 a9 b0;clear hd a6 hk D E;have m5:I.cell? _=some (.slice _ C.jq.length _):=m.cb.cell 5;have c2:=m.cb.lt;have F:=hid (ZDd C.jq m.code.jq a7 HS.1);by_cases J:4<=fl
 ·rw[if_pos J]at O
  go_wp2_with fail
  refine F.mono ?_;rintro e WW ⟨rfl,HR,b1⟩;have i:Hid (QW k WW X Y g nv uv (.slice sa g.kw.length sc) (.slice ra g.qx.length rc) (.slice ca C.jj.length cc) (.slice (some ⟨ib,0,none⟩) C.jq.length ic) sl rl C.jj (if 4<=fl then Zch C.jq else C.jq)):=if_pos J▸m.led a7.out HR.out b1.out;clear HR b1 F m m5
  go_upto_region 7 with fail
  have f:Hid (BAt WW.drew w.heap.size [S0,S0,S0,S0] 59):=by have:=R.below i.bel;exact this
  have b9:=hid (i.below (Yaf _ _).drew);refine Zbn 17 (fun w'=>w'.cell? _=some _/\w'.cell? _=some _/\w'.cell? _=some _/\w'.cell? _=some _) Kr ⟨i.cb.cell 4,i.cb.cell 5,i.gb.cell 5,i.gb.cell 6⟩ (fun a=>?_);refine Za 0 a (h:=?_);refine Za 1 a (h:=?_);refine Za 2 a (h:=?_);refine Za 3 a (h:=?_);refine Za 4 a (h:=?_);refine Za 5 a (h:=?_);refine Za 6 a (h:=?_);refine Za 7 a (h:=?_);refine Za 8 a (h:=?_);refine Za 9 a (h:=?_);refine Za 10 a (h:=?_);refine Za 11 a (h:=?_);refine Za 12 a (h:=?_);refine Za 13 a (h:=?_);refine Za 14 a (h:=?_);refine Za 15 a (h:=?_);refine Za 16 a (h:=?_);refine Zbl Kr Kr rfl Kr (fun K G=>?_);have ml:w.heap.size<WW.heap.size:=f.lt;have f0:WW.frozen? _=false:=f.frozen 0;have f1:WW.frozen? _=false:=f.frozen 1;have f2:WW.frozen? _=false:=f.frozen 2;have f3:WW.frozen? _=false:=f.frozen 3;have k0:WW.cell? _=some _:=f.cell 0;have k1:WW.cell? _=some _:=f.cell 1;have k2:WW.cell? _=some _:=f.cell 2;have k3:WW.cell? _=some _:=f.cell 3;go_simp;refine G _ _ ?_;clear a G K k0 k1 k2 k3 f0 f1 f2 f3 ml;have j:=hid (CodeW.set4 (w:=WW) (v0:=.slice ca C.jj.length cc) (v1:=.slice sa g.kw.length sc) (v2:=.slice ra g.qx.length rc) (v3:=.slice (some ⟨ib,0,none⟩) C.jq.length ic) f i.code (p.trans (i.bel.mono Om)) (Yac _));generalize((((WW.setCell ⟨w.heap.size,0,none⟩ (.slice ca C.jj.length cc)).setCell ⟨w.heap.size,1,none⟩ (.slice sa g.kw.length sc)).setCell ⟨w.heap.size,2,none⟩ (.slice ra g.qx.length rc)).setCell ⟨w.heap.size,3,none⟩ (.slice (some ⟨ib,0,none⟩) C.jq.length ic)).drew=W4 at *
  have k0:W4.cell? _=some _:=j.1.cell 0;have k1:W4.cell? _=some _:=j.1.cell 1;have k2:W4.cell? _=some _:=j.1.cell 2;have k3:W4.cell? _=some _:=j.1.cell 3;go_wp2;refine bodyPost_ret (results_cell_row rfl _ _ _ _ _ _ _ rfl j.1 underlying59 rfl Kr) rfl ?_;exact⟨_,_,_,_,sl,rl,rfl,hid (q.out▸j.2.1.lower Om),j.2.2⟩
 ·rw[if_neg J]at O;have i:Hid (QW k I X Y g nv uv (.slice sa g.kw.length sc) (.slice ra g.qx.length rc) (.slice ca C.jj.length cc) (.slice (some ⟨ib,0,none⟩) C.jq.length ic) sl rl C.jj (if 4<=fl then Zch C.jq else C.jq)):=by rwa [if_neg J]
  clear F m m5;generalize I=WW at *
  go_upto_region 7 with fail
  have f:Hid (BAt WW.drew w.heap.size [S0,S0,S0,S0] 59):=by have:=R.below i.bel;exact this
  have b9:=hid (i.below (Yaf _ _).drew);refine Zbn 17 (fun w'=>w'.cell? _=some _/\w'.cell? _=some _/\w'.cell? _=some _/\w'.cell? _=some _) Kr ⟨i.cb.cell 4,i.cb.cell 5,i.gb.cell 5,i.gb.cell 6⟩ (fun a=>?_);refine Za 0 a (h:=?_);refine Za 1 a (h:=?_);refine Za 2 a (h:=?_);refine Za 3 a (h:=?_);refine Za 4 a (h:=?_);refine Za 5 a (h:=?_);refine Za 6 a (h:=?_);refine Za 7 a (h:=?_);refine Za 8 a (h:=?_);refine Za 9 a (h:=?_);refine Za 10 a (h:=?_);refine Za 11 a (h:=?_);refine Za 12 a (h:=?_);refine Za 13 a (h:=?_);refine Za 14 a (h:=?_);refine Za 15 a (h:=?_);refine Za 16 a (h:=?_);refine Zbl Kr Kr rfl Kr (fun K G=>?_);have ml:w.heap.size<WW.heap.size:=f.lt;have f0:WW.frozen? _=false:=f.frozen 0;have f1:WW.frozen? _=false:=f.frozen 1;have f2:WW.frozen? _=false:=f.frozen 2;have f3:WW.frozen? _=false:=f.frozen 3;have k0:WW.cell? _=some _:=f.cell 0;have k1:WW.cell? _=some _:=f.cell 1;have k2:WW.cell? _=some _:=f.cell 2;have k3:WW.cell? _=some _:=f.cell 3;go_simp;refine G _ _ ?_;clear a G K k0 k1 k2 k3 f0 f1 f2 f3 ml;have j:=hid (CodeW.set4 (w:=WW) (v0:=.slice ca C.jj.length cc) (v1:=.slice sa g.kw.length sc) (v2:=.slice ra g.qx.length rc) (v3:=.slice (some ⟨ib,0,none⟩) C.jq.length ic) f i.code (p.trans (i.bel.mono Om)) (Yac _));generalize((((WW.setCell ⟨w.heap.size,0,none⟩ (.slice ca C.jj.length cc)).setCell ⟨w.heap.size,1,none⟩ (.slice sa g.kw.length sc)).setCell ⟨w.heap.size,2,none⟩ (.slice ra g.qx.length rc)).setCell ⟨w.heap.size,3,none⟩ (.slice (some ⟨ib,0,none⟩) C.jq.length ic)).drew=W4 at *
  have k0:W4.cell? _=some _:=j.1.cell 0;have k1:W4.cell? _=some _:=j.1.cell 1;have k2:W4.cell? _=some _:=j.1.cell 2;have k3:W4.cell? _=some _:=j.1.cell 3;go_wp2;refine bodyPost_ret (results_cell_row rfl _ _ _ _ _ _ _ rfl j.1 underlying59 rfl Kr) rfl ?_;exact⟨_,_,_,_,sl,rl,rfl,hid (q.out▸j.2.1.lower Om),j.2.2⟩
end
end
section
section
variable {w0 w w' w1 w2:World} {v:Value} {l:LB}
theorem ZbG(k:Nat):∀n,(digL n k).length=k:=by
 induction k with
 | zero=>intro n;rfl
 | succ k ih=>intro n;simp[digL,ih]
theorem Zvt(k:Nat):∀n,digL n (k+1)=UInt8.ofNat (n / 256 ^ k % 256)::digL n k:=by
 induction k with
 | zero=>intro n;simp[digL]
 | succ k ih=>
  intro n;show digL (n / 256) (k+1)++[UInt8.ofNat (n % 256)]=_;rw[ih,Nat.div_div_eq_div_mul,<-Nat.pow_succ'];rfl
def u8V(b:UInt8):Value:=.int .u8 (b.toNat:Int)
structure WrS (w0 w:World) (v:Value) (l:LB):Prop where
 row:w.ownsRow w0.heap.size 5 1 v l.length (l.map u8V)
 bel:BW w0 w
theorem WrS.below(h:WrS w0 w v l)(a:BW w w'):WrS w0 w' v l:=⟨Zn h.row a,h.bel.trans (a.mono h.bel.size)⟩
theorem WrS.grow(h:WrS w0 w v l)(a:BW w w1){l':LB}(c:w2.ownsRow w0.heap.size 5 1 v' l'.length (l'.map u8V))(d:w1.grownBy w2 v.ownBlock):WrS w0 w2 v' l':=⟨c,ZeR (h.below a).bel d (fun k e=>(h.row.lt k e).1)⟩
theorem WrS.shape(h:WrS w0 w v l):∃a c,v=.slice a l.length c:=Zl h.row
theorem ZCV(s:BA):Lib.strCells s=(bl s).map u8V:=by
 simp[Lib.strCells,bl,u8V]
theorem Zun{z:Int}(a:n=(z % 4294967296).toNat)(i:Nat)(c:i<4):((UInt8.ofNat (n / 256 ^ i % 256)).toNat:Int)=z / 256 ^ i % 256:=by
 have h:(UInt8.ofNat (n / 256 ^ i % 256)).toNat=n / 256 ^ i % 256:=by
  rw[UInt8.toNat_ofNat'];omega
 rw[h,a];rcases(by omega:i=0∨i=1∨i=2∨i=3)with rfl|rfl|rfl|rfl <;> simp only[Nat.reducePow,Int.reducePow] <;> omega
theorem Zhu(h:WrS w0 w v l)(z:Int)(size:Nat)(V:size<=4)(K:l.length<=1000000000000) :
  CP 70 #[v,Vi z,Vi size] w fun e w'=>∃v',e=.returned v'/\Hid (WrS w0 w' v' (l++digL (z % 4294967296).toNat size))/\Hid (KB 5 w w'):=by
 obtain⟨i0,L,t,x,A⟩:=info_parts ZiY;obtain⟨n,r⟩:∃n,n=(z % 4294967296).toNat:=⟨_,rfl⟩
 have M:=hid r;rw[<-r];clear r;obtain⟨va,vc,rfl⟩:=h.shape;obtain⟨m0,p⟩:∃m0,m0=l.length:=⟨_,rfl⟩
 have B:=hid p;rw[<-p]at h K ⊢;clear p;have N:=hid h;clear h;have R:IntKind.i64.wrap ((size) - 1)=(size) - 1:=by rw[Ybo];omega
 go_enter func70,ntmps70;go_wp2
 go_loopw [0,7] (fun tv iv wr=>∃(k m:Nat) (cur:LB) (a:Option Addr) (c:Nat),k<=size/\m<=m0+4 - k/\iv=Vi ((k:Int) - 1)/\tv=.slice a m c/\Hid (WrS w0 wr (.slice a m c) cur/\m=cur.length)/\Hid (cur++digL n k=l++digL n size)/\Hid (KB 5 w wr)) (fun _ iv _=>(intOf iv+1).toNat)
 case atStart=>exact⟨size,m0,l,va,vc,Yac _,by omega,rfl,rfl,hid ⟨N,B⟩,hid rfl,hid (KB.below _ (Yaf _ _))⟩
 case round=>
  obtain⟨k,m,cur,a,c,W,X,rfl,rfl,d,C,q⟩:=hrel;by_cases S:0<k
  ·obtain⟨i,rfl⟩:∃i,k=i+1:=⟨k - 1,by omega⟩
   have D:((i+1:Nat):Int) - 1=i:=by omega
   rw[D];have E:i<4:=by omega
   have O:=hid (Zun M i E);have F:Hid ((cur++[UInt8.ofNat (n / 256 ^ i % 256)])++digL n i=l++digL n size):=by rw[<-C,Zvt,Yan];rfl
   generalize UInt8.ofNat (n / 256 ^ i % 256)=b at *
   have j:=d.1.row;rw[<-d.2]at j;have T:=d.1.bel.size;have s:Hid (∀o,(wr.alloc o).ownsRow _ 5 1 _ m _):=hid (fun o=>j.alloc _);clear j;have U:IntKind.i64.wrap ((i) - 1)=(i) - 1:=by rw[Ybo];omega
   rcases(by omega:i=0∨i=1∨i=2∨i=3)with rfl|rfl|rfl|rfl
   all_goals
    go_wp2_with (at_builtin;refine wpList_append_own _ rfl (.tmp 14) (.tmp 20) 87 rfl w0.heap.size 5 i0 (.int .u8 0) 1 1 underlying87 L t x A rfl Dc _ _ _ rfl (s.out _) ⟨wr.heap.size,0,none⟩ 1 1 [_] rfl rfl (cell_one_new _ _ _) ?c2 ?c3 ?c4 ?c5 ?_)
    case c2=>intro u G;rw[Yap]at G;subst G;rfl
    case c3=>unfold maxLen;omega
    case c4=>omega
    case c5=>simp;omega
    intro v' P f g _;obtain⟨va3,vc3,rfl⟩:=Zl f
    have H:Hid (WrS _ _ _ (cur++[b])):=hid (d.1.grow Zbal (by
     rw[Yab,Yaq,<-d.2];have I:=O.out;simp only[Int.reducePow,Int.ediv_one]at I;show P.ownsRow _ _ _ _ (m+1) (List.map u8V cur++[Value.int .u8 (b.toNat:Int)]);rw[I];exact f) g)
    have J:=hid ((q.trans (KB.below _ Zbal)).trans (KB.row (s _) g));clear f g s;go_wp2
    go_roundw
    case rel=>exact⟨_,m+1,cur++[b],va3,vc3,Om,by omega,rfl,rfl,hid ⟨H,by rw[Yab,<-d.2];rfl⟩,F,J⟩
    case measure=>first|(simp[intOf];omega)|simp[intOf]
  ·obtain rfl:k=0:=by omega
   have Q:Hid (cur=l++digL n _):=hid (by rw[<-C];simp[digL]);go_wp2;go_ret;exact⟨_,rfl,hid (Q.out▸d.1),q⟩
theorem ZnS(h:WrS w0 w v l)(s:BA)(x:s.size<=1000000000)(z:l.length<=1000000000000) :
  CP 71 #[v,.string s] w fun e w'=>∃v',e=.returned v'/\Hid (WrS w0 w' v' (l++ZO (bl s))):=by
 obtain⟨i0,q,i,j,k⟩:=info_parts ZiY;have r:=hid h;have t:Hid (((s.size:Int) % 4294967296).toNat=(bl s).length):=hid (by rw[Zd];omega);go_enter func71,ntmps71
 go_wp2_with fail
 refine(Zhu r _ 2 Dc Om).mono ?_;rintro e w1 ⟨v1,rfl,d,_⟩;rw[t]at d;obtain⟨a1,c1,rfl⟩:=d.shape;have a:(l++digL (bl s).length 2).length=l.length+2:=by rw[Yab,ZbG]
 obtain⟨m1,f⟩:∃m1,m1=(l++digL (bl s).length 2).length:=⟨_,rfl⟩
 have g:=d.row;have u:=d.bel.size;have m:=hid f;rw[<-f]at g a ⊢;replace a:m1<=l.length+2:=Ydh a;clear f
 go_wp2_with (at_builtin;refine Lib.wpList_append_own_string _ rfl _ _ 87 9 rfl w0.heap.size 5 i0 underlying87 underlying9 q i j k _ _ _ rfl g s rfl ?c3 ?c4 ?c5 ?_)
 case c3=>unfold maxLen;omega
 case c4=>omega
 case c5=>omega
 intro v' w2 c p _
 have n:Hid (WrS _ _ _ (l++ZO _)):=hid (d.grow (Yaf _ _) (by
  unfold ZO;rw[<-Yan,Yab,<-m,Yaq,<-ZCV,Zd];have o:=c;simp only[Yaq,Yan,Zd]at o ⊢;exact o) (by rwa [<-m.out]))
 obtain⟨a2,c2,rfl⟩:=Zl c;go_wp2;go_ret;exact⟨_,rfl,n⟩
end
