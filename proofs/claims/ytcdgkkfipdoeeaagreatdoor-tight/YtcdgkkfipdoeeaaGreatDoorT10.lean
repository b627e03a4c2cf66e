/- Parts. -/
import Derived.Test.YtcdgkkfipdoeeaaGreatDoorT09
import Derived.Test.YtcdgkkfipdoeeaaGreatDoorT06
set_option linter.all false
set_option maxRecDepth 100000
set_option maxHeartbeats 16000000
namespace Go.Proofs.YtcdgkkfipdoeeaaGreatDoor
open Go.RowKit LS Go.Proofs.Tryz
section
section
variable {w0 w w' w1 w2:World} {X:GX} {nv uv sv rv nv' uv' sv' rv':Value} {sl sl':List SelC} {rl rl':List RowC} {g g':Gq} {T:TypeId} {x:Nat}
theorem Tryz.infoNode:(Tryz.prog.info? 232).map (fun i=>(i.zero,i.size,i.bytes))=some (some (.agg #[Vi 0,Vi 0,Vi 0,Vi 0]),4,32):=by kernel_rfl
theorem ZtE(h:GI w0 w X nv uv sv rv sl rl g)(z:Nq)(hz:NOne g.jx.length z)(hl:g.jx.length<=500000) :
  Cz 120 #[Vp X.gb,nodV z] w fun e w'=>e=.returned (Vi ((addQ z g).1:Nat))/\Hid (GP w0 w w' X (addQ z g).2):=by
 obtain⟨f,hj,hf⟩:=h.j;have V:=hid h;have HZ:=hid hz;have HF:=hid hf;have d4:=hid hj;obtain⟨kl,a8⟩:=hz.key Om;have a9:=hid a8;clear hj hf h a8;go_enter func120,ntmps120;simp only[nodV]
 go_upto_region 1 with fail
 refine ZP fun W hW=>?_;have b0:BW w W:=hW▸belB;have n:Hid (BAt W _ (nodC z) 232):=hW▸(show BAt _ _ _ _ from bnw);have J:=hid (d4.below b0);have d5:=hid (KT.below b0);have d6:=J.num.look nodK underlying173 a9;clear hW b0 d4
 have b5 : Hid (∀ k, nv.ownBlock = some k -> k ≠ w.heap.size) := hid (fun k hk e => by
   obtain⟨_,hj,_⟩:=V.j;have:=(hj.nod.lt k hk).2;omega)
 obtain⟨qb,d7⟩:∃qb,w.heap.size=qb:=⟨_,rfl⟩
 rw[d7]at n b5 ⊢;clear d7;have b4:W.cell? _=some _:=J.box.cell 4;have q0:W.cell? _=some _:=n.cell 0;have q1:W.cell? _=some _:=n.cell 1;have q2:W.cell? _=some _:=n.cell 2;have q3:W.cell? _=some _:=n.cell 3;have p:=J.box.lt;have b6:=n.lt;have g8:(Instr.lookup 173 _ (.agg _) _).run _ W.drew=.ok _ _:=d6 _ rfl;clear d6
 go_region
 have c:=hid (J.below (Yaf _ _).drew);have b7:=hid (d5.trans (KT.below (Yaf _ _).drew));have r:Hid (BAt W.drew _ _ _):=n;clear g8 b4 q0 q1 q2 q3 p b6 J d5 n;generalize W.drew=w1 at *
 have b1:w1.cell? _=some _:=c.box.cell 1;have p:=c.box.lt;by_cases l:g.share=true/\(f z).isSome=true
 ·obtain⟨s,a1⟩:=l
  obtain⟨i,Y⟩:∃i,idxN z g.jx=some i:=by
   have:=HF s z;rw[this]at a1;cases hx:idxN z g.jx with
   | none=>rw[hx]at a1;cases a1
   | some i=>exact⟨i,rfl⟩
  have HA:=hid (Zhq s Y);have i1:f z=some (i:Int):=by rw[HF s z,Y];rfl
  rw[i1];rw[s]at b1;simp only[Yb0,Ya6];clear a1;go_wp2;go_ret;rw[HA];exact⟨rfl,hid (GP.of ⟨⟨f,c,HF⟩,V.ulen,V.nok,V.ubd⟩ b7)⟩
 ·have b8 : Hid (g.share = true -> idxN z _ = none) := hid (fun s => by
    have m:=HF s z;cases hx:idxN z g.jx with
    | none=>rfl
    | some i=>rw[hx]at m;exact absurd ⟨s,by rw[m];rfl⟩ l)
  have HA:=hid (Zgz b8);obtain⟨na,nc,i2⟩:=Zl c.nod;subst i2;obtain⟨L,hL⟩:∃L,L=g.jx.length:=⟨_,rfl⟩
  have N:=hid hL;rw[<-hL]at hl c b5;clear hL hz
  go_upto_region 2 with fail
  go_cut [6,10,16,18,25] from 19 to 24 (fun _ _ _ _ v wc=>v=.bool false/\wc=w1)
  case first=>
   generalize g.share=sh at b1 l;generalize(f z).isSome=ts at l ⊢;cases ts <;> cases sh
   all_goals first
    | exact absurd ⟨rfl,rfl⟩ l
    | (go_wp2_with fail;go_meet;exact⟨rfl,rfl⟩)
  case rest=>
  obtain⟨rfl,rfl⟩:=hcut;clear l b1;obtain⟨f',b9⟩:∃f':Nq->Option _,f'=fun y=>haveI:=ZGo y z;if y=z then some (L:Int)else f y:=⟨_,rfl⟩
  have c1:f' z=some (L:Int):=by rw[b9];simp
  have c6:∀y,y≠z->f' y=f y:=fun y hy=>by rw[b9];simp[hy]
  obtain⟨w2,d8,c7,a2⟩:=c.num.put nodK underlying173 Zzn Om a9.out (v:=L) (Zhl Om) c1 c6 wc.drew rfl;have i3:=hid c1;have i4:=hid c6;have HD:=hid (c.below (Yaf _ _).drew);have d9:=hid (HD.numPut a2 c7).1;have e0:=hid ((b7.trans (KT.below (Yaf _ _).drew)).trans (HD.numPut a2 c7).2)
  have e4 := hid ((show BAt wc.drew _ _ _ from r).grown a2 (fun e => by
    obtain⟨es,cl,ho⟩:=HD.num.obj;injection e with e;exact ZbU ho (show wc.drew.heap[X.mb]?=_ by rw[<-e];exact r) rfl))
  simp only[nodV]at d8;clear b9 c1 c6 c7 a2;have b2:wc.cell? _=some _:=c.box.cell 2
  go_upto_region 5 with fail
  clear b2;refine Zbn 6 (fun w'=>w'.cell? _=some _/\w'.cell? _=some _/\w'.cell? _=some _/\w'.cell? _=some _/\w'.cell? _=some _) Kr ⟨c.box.cell 4,r.cell 0,r.cell 1,r.cell 2,r.cell 3⟩ (fun a=>?_);refine Za 0 a (h:=?_);refine Za 1 a (h:=?_);refine Za 2 a (h:=?_);refine Za 3 a (h:=?_);refine Za 4 a (h:=?_);refine Za 5 a (h:=?_);refine Zbl Kr Kr rfl Kr (fun K A=>?_);go_simp;refine A _ _ ?_;clear a A K d8 HD c b7 r p;obtain⟨i0,Y,a3,a4,a5⟩:=info_parts Tryz.infoNode
  go_upto_region 6 with fail
  have O:=hid (d9.below (Yaf _ _).drew);have e5:=hid (e0.trans (KT.below (Yaf _ _).drew));have E:Hid (BAt w2.drew _ _ _):=e4;refine Zbn 10 (fun w'=>w'.cell? _=some _/\w'.cell? _=some _/\w'.cell? _=some _/\w'.cell? _=some _/\w'.cell? _=some _) Kr ⟨O.box.cell 2,E.cell 0,E.cell 1,E.cell 2,E.cell 3⟩ (fun a=>?_);clear d9 e0 e4;refine Za 0 a (h:=?_);refine Za 1 a (h:=?_);refine Za 2 a (h:=?_);refine Za 3 a (h:=?_);refine Za 4 a (h:=?_);refine Za 5 a (h:=?_);generalize w2.drew=w3 at *
  have B:Hid (∀o,GJ _ (w3.alloc o) X _ _ _ _ _ _ g _ _ _ _):=hid (fun o=>O.below Zbal);have d:Hid (∀o,BAt (w3.alloc o) _ _ _):=hid (fun o=>E.below Zbal);have e6:=hid (fun o=>by have:=(B o).nod;rwa [<-N]at this);have P:Hid (∀o,KT w (w3.alloc o)):=hid (fun o=>e5.trans (KT.below Zbal));have Q:Hid (X.base<=w3.heap.size):=hid (by have m:=O.bel.size;have:=O.bas.1;omega);clear O e5 E;refine Z4 (i:=6) Kr rfl (fun K A=>?_);go_simp;refine A _ _ ⟨(B _).box.cell 2,(d _).cell 0,(d _).cell 1,(d _).cell 2,(d _).cell 3⟩ (fun a=>?_);clear A K
  try simp only[Act.put,Zset]
  refine Z4 (i:=7) Kr rfl (fun K A=>?_);refine ZfF rfl (.tmp 42) (.tmp 44) 172 rfl X.base 232 i0 _ 4 32 underlying172 Y a3 a4 a5 rfl Dc (.slice na L nc) L (g.jx.flatMap nodC) (by simp[Act.eval]) (e6.out _) ⟨w3.heap.size,0,none⟩ 1 1 (nodC z) (by simp[Act.eval]) rfl Zk4 ?h3 ?h4 ?h5 ?h6 ?_
  case h3=>intro u hu;simp[nodC]at hu;rcases hu with rfl|rfl|rfl|rfl <;> rfl
  case h4=>unfold maxLen;omega
  case h5=>omega
  case h6=>have:=Q.out;simp;omega
  intro v1 w4 a6 C g9;obtain⟨g1,cp1,i5⟩:=ZF a6 Om;subst i5;obtain⟨e7,e8,e9⟩:=(B _).nodApp z C (by rwa [<-N.out]);have f0:=(d _).grown C (fun e=>b5 _ e.symm rfl);have R:=hid e7;have q:=hid e8;have f1:=hid ((P _).trans e9);have F:=hid f0;clear a6 C g9 e7 e8 e9 f0 B d e6 P;refine A _ _ ⟨R.cell 2,F.cell 0,F.cell 1,F.cell 2,F.cell 3⟩ (fun a=>?_);clear A K;refine Za 8 a (h:=?_);refine Za 9 a (h:=?_);refine Zbl Kr Kr rfl Kr (fun K A=>?_);have e1:=R.frozen 2;have e2:=a.1;have e3:=R.lt;go_simp;refine A _ _ ?_;have f2:Hid (BAt (w4.setCell _ (.slice (some ⟨g1,0,none⟩) (L+1) cp1)) _ _ _):=hid ((KB.set R 2 _).bat F Dc);clear A K e1 e2 e3 a R F;generalize w4.setCell ⟨X.gb,2,none⟩ (.slice (some ⟨g1,0,none⟩) (L+1) cp1)=w5 at *
  clear Y a3 a4 a5 i0 Q;obtain⟨i0,Y,a3,a4,a5⟩:=info_parts Tryz.infoInt3;obtain⟨ua,uc,i6⟩:=Zl q.use;subst i6;have S:=V.ulen.trans N.symm;have c8:=hid (fun o=>by have:=q.use;simp only[S]at this;exact this.alloc o);have B:=hid (fun o=>by have:=q.below (w':=w5.alloc o) Zbal;simp only[S]at this;exact this);have d:Hid (∀o,BAt (w5.alloc o) _ _ _):=hid (fun o=>f2.below Zbal);have P:Hid (∀o,KT w (w5.alloc o)):=hid (fun o=>f1.trans (KT.below Zbal));have Q:Hid (X.base<=w5.heap.size):=hid (by have m:=q.bel.size;have:=q.bas.1;omega);have b3:w5.cell? _=some _:=(q.box.cell 3).trans (by rw[S];rfl);have p:=q.box.lt;have f3:=hid S;clear S q f1 f2
  go_wp2_with (at_builtin;refine wpList_append_own _ rfl (.tmp 52) (.tmp 53) 54 rfl X.base 3 i0 (Vi 0) 1 8 underlying54 Y a3 a4 a5 rfl Dc _ _ _ rfl (c8.out _) ⟨w5.heap.size,0,none⟩ 1 1 [Vi 0] rfl rfl (cell_one_new _ _ _) ?c2 ?c3 ?c4 ?c5 ?_)
  case c2=>first|rfl|(intro u hu;simp at hu;subst hu;rfl)
  case c3=>unfold maxLen;omega
  case c4=>omega
  case c5=>have:=Q.out;simp;omega
  intro v6 w6 I D _;obtain⟨ub,uc6,i7⟩:=ZF I Om;subst i7
  obtain⟨c9,f4,f5⟩:=(B _).useApp 0 D (by
   show w6.ownsRow _ _ _ _ (g.uses.length+1) (g.uses.map intC++[intC 0]);rw[f3];exact I)
  have U:=hid c9;have G:=hid ((KB.set c9 3 (.slice (some ⟨ub,0,none⟩) (L+1) uc6)).bat ((KB.row (c8 _) D).bat (d _) Dc) Dc);have d0:=hid f4;have f6:=hid ((P _).trans f5);clear I D c9 f4 f5 B d P c8 b3 p Q;have b3:w6.cell? _=some _:=U.cell 3;have bf:=U.frozen 3;have p:=U.lt;have i8:=hid ((KB.set U 3 (.slice (some ⟨ub,0,none⟩) (L+1) uc6)));generalize i9:w6.setCell ⟨X.gb,3,none⟩ (.slice (some ⟨ub,0,none⟩) (L+1) uc6)=w7 at *
  have q0:w7.cell? _=some _:=G.cell 0;have q1:w7.cell? _=some _:=G.cell 1;have q2:w7.cell? _=some _:=G.cell 2;have q3:w7.cell? _=some _:=G.cell 3;have b6:=G.lt
  go_upto_region 8 with fail
  clear i9 b3 bf p U i8
  go_wp2_with fail
  refine(Znp z HZ.sn).mono ?_;rintro e Z ⟨tv,rfl,d1,HT⟩;obtain⟨ta,tc,rfl,f7⟩:=HT.out;have HT:=hid f7;have j0:=hid (d0.below d1);have j1:=hid (f6.trans (KT.below d1));have j2:=ZiC z;have j3:Hid (∀t∈Zg z,t<L):=hid (fun t ht=>by have:=HZ.low t ht;rw[N];exact this);have j4:=hid (d0.use.lt ub rfl).2;clear f7 d1 q0 q1 q2 q3 b6 d0 f6 G;have j5:Hid (∀ {wz:World},GJ _ wz X (.slice (some ⟨g1,0,none⟩) (L+1) cp1) _ _ _ _ _ _ _ _ _ _->GI _ _ X _ (.slice (some ⟨ub,0,none⟩) (L+1) uc6) _ _ _ _ _):=hid (fun hj=>V.added HZ b8 HF (by rw[i3,N]) i4 (by rwa [<-N.out]));generalize Zg z=ts at *
  obtain⟨M,hM⟩:∃M,M=ts.length:=⟨_,rfl⟩
  rw[<-hM]at j2 ⊢;have HM:=hid hM;clear hM;go_wp2
  go_loopw [60] (fun i wr=>∃j:Nat,j<=M/\i=Vi j/\Hid (GJ w0 wr X (.slice (some ⟨g1,0,none⟩) (L+1) cp1) (.slice (some ⟨ub,0,none⟩) (L+1) uc6) sv rv sl rl { g with jx:=g.jx++[z],uses:=(ts.take j).foldl bump (g.uses++[0]) } (L+1) f' (g.jm.map ZI) (g.ky.map commas))/\Hid (KT w wr)/\Hid (∀b,w7.heap.size<=b->b<Z.heap.size->wr.heap[b]?=Z.heap[b]?)/\Hid (Z.heap.size<=wr.heap.size)) (fun i _=>M - (intOf i).toNat)
  case atStart=>exact⟨0,Yag _,rfl,j0,j1,hid (fun _ _ _=>rfl),hid (Yac _)⟩
  case round=>
   obtain⟨j,hj,rfl,H,f8,f9,g2⟩:=hrel;by_cases j6:j<M
   ·have l0:(j:Int)<M:=by omega
    have d2:j<ts.length:=by rw[<-HM.out];exact j6
    obtain⟨b,rfl,j7,g3,g4⟩:=HT.out Om;have g5:=f9 b j7 g3
    have kc:wr.cell? ⟨b,j,none⟩=some (intC ts[j]):=by
     have:=g4 j d2;simp only[World.cell?,g5]at this ⊢;exact this
    have l1:=Yaw g3 g2;have l2:=j3 _ (List.getElem_mem d2);have j8:=hid (ZlB bump (g.uses++[0]) d2);have b3:wr.cell? _=some _:=H.box.cell 3;have p:=H.box.lt;have k8:=(H.use.lt ub rfl).2;have a0:((ts.take j).foldl bump (g.uses++[0])).length=L+1:=by rw[Zpo,Yab,f3];rfl
    have g6:=H.out;have a7:=H.use;simp only[a0]at a7;have g7:=hid (show GJ _ _ X _ (.slice _ (({ g with jx:=g.jx++[z],uses:=(ts.take j).foldl _ _ }).uses.length) _) _ _ _ _ _ _ _ _ _ by show GJ _ _ _ _ _ _ _ _ _ _ _ _ _ _;rw[a0];exact g6)
    have j9:Hid (((ts.take j).foldl bump (g.uses++[0])).getD ts[j] 0<=2000000):=hid (by
     have m:=Zly (ts.take j) _ _ (ZnR V.ubd) ts[j];rw[Ya7]at m;have:=N.out;omega)
    generalize ts[j]=t at *
    generalize k0:(ts.take j).foldl bump (g.uses++[0])=us at *
    have uj:wr.cell? _=some (Vi (us.getD t 0)):=Zi a7 t (by
     rw[Ya2,List.getElem?_eq_getElem Om];simp[intC,Yaa,show t<us.length by omega])
    have uf:=ZjT a7 t;have d3:=hid (g7.useSet t (us.getD t 0+1));have l3:=j9.out;simp only[intC]at kc;have l4:(t:Int)<L+1:=by omega
    have k1:Hid (bump _ t=us.set t _):=hid rfl;generalize us.getD t 0=ut at *
    have k9:IntKind.i64.wrap ((ut)+1)=((ut+1:Nat)):=by rw[Ybo];omega
    have k2:Hid (∀b,w7.heap.size<=b->b<Z.heap.size->b≠ub):=hid (fun b m _ e=>by have:=j4.out;omega);clear g4 g5 g6 a7 g7 k0;go_wp2
    have k3:Hid (GJ w0 (wr.setCell ⟨ub,t,none⟩ (Vi ((ut)+1))) X (.slice (some ⟨g1,0,none⟩) (L+1) cp1) (.slice (some ⟨ub,0,none⟩) (L+1) uc6) sv rv sl rl { g with jx:=g.jx++[z],uses:=(ts.take (j+1)).foldl bump (g.uses++[0]) } (L+1) f' (g.jm.map ZI) (g.ky.map commas)):=by
     have m:=d3.1;simp only[a0]at m;rw[j8,k1];exact m
    have k4:=hid (f8.trans d3.2)
    have k5 : Hid (∀ b, w7.heap.size <= b -> b < Z.heap.size -> (wr.setCell ⟨ub, t, none⟩ (Vi ((ut : Int) + 1))).heap[b]? = Z.heap[b]?) := hid (fun b m h2 => by
      rw[Go.Deep.blk_setCell_other _ _ _ _ (k2.out b m h2)];exact f9.out b m h2)
    have k6:Hid (Z.heap.size<=(wr.setCell ⟨ub,t,none⟩ (Vi ((ut)+1))).heap.size):=hid (by simpa using g2.out)
    go_roundw
    case rel=>exact⟨j+1,by omega,by simp,k3,k4,k5,k6⟩
    case measure=>simp[intOf];omega
   ·obtain rfl:j=M:=by omega
    have k7:=hid (j5 (by have:=H.out;rw[HM,Ya4]at this;exact this));go_wp2;go_ret;refine⟨?_,hid (GP.of k7 f8)⟩;rw[HA];show Ending.returned (Vi (L:Int))=_;rw[N]
end
end
section
section
variable {jx:List Nq} {W:Nat->Cq->Cq} {c d e:Cq} {U U' U1 U2:Nat->Bool} {K K1 K2:Nat->Prop} {T:Nat->Nat} {n m x y a b N:Nat}
theorem Zkg{p q:List (Option Int)}{s:Nat}(f:s<16):(Zce p q).getD s none=if p.getD s none=q.getD s none then p.getD s none else none:=by
 unfold Zce
 simp_all
theorem ZvF(g:NOk jx)(r:∀z,z<=b->z<jx.length->WBd jx T W z/\4<=T z)(v:WBd jx T W a/\4<=T a)(o:b<jx.length)(G:∀z,z<=b->∀c,c.jy.length=16->Low z c (W z c))(H:Inv jx.length c U):∃U' K,Pt jx c U (Zbo jx W a b c) U' K/\(∀t∈[a,b],U' t=false/\∀x,U' x=true->¬Rch jx (IS c) t x)/\(Zbo jx W a b c).jy.length=16/\(Zbo jx W a b c).jz.length+psi T U jx.length<=c.jz.length+2+T a+T b+psi T U' jx.length:=by
 have M:(fun x=>U x || false)=U:=funext fun x=>by simp
 obtain⟨O,Q,K1,w,I,A,P⟩:=ZnL (n:=b) g r G U c (b+2) c U (fun _=>false) _ (Pt.still c U) ⟨fun _ _=>rfl,fun _ h=>(by cases h)⟩ (by simp_all) (by simp);unfold Zbo;simp only;generalize ZG jx W b (b+2) c=c1 at *
 obtain⟨V2,K2,p1,p2,p3,p4,p5⟩:=Zj1 v.1 v.2 A;have B:=p1.inv A p4;generalize putQ jx W a c1=c2 at *
 obtain⟨V3,K3,q1,q2,q3,q4,q5⟩:=Zj1 (c:=Zc 11 0 (Zc 10 0 c2)) (r b (Yac _) o).1 (r b (Yac _) o).2 B;have C:IS (Zc 11 0 (Zc 10 0 c2))=IS c2:=rfl;have q1':=q1.from_ (e:=c2) rfl
 have q5':(putQ jx W b (Zc 11 0 (Zc 10 0 c2))).jz.length+psi T V2 jx.length<=c2.jz.length+2+T b+psi T V3 jx.length:=by
  have:(Zc 11 0 (Zc 10 0 c2)).jz.length=c2.jz.length+2:=by simp[Zc]
  omega
 rw[C]at q3;generalize putQ jx W b (Zc 11 0 (Zc 10 0 c2))=d at *
 have j:∀z,V3 z=true->V2 z=true:=q1.sub
 have J : ∀ z, V3 z = true -> O z = true := fun z f => by
   have:=p1.sub z (j z f);rw[Yct]at this;rcases this with h|h
   · exact h
   · exfalso
     rcases I.way z h with e|e
     · simp_all
     · have i:=p1.keep g (j z f) e
       exact q1'.rch z f b (q3 i.head) i
 have R2:=w.trans g p1;have R:=(R2.trans g q1').less (U1:=V3) (fun z f=>by simp_all)
 have D : ∀ {s : Nat} {z : Nat}, c.jy.getD s none = some (z : Int) -> s < 16 := fun {s z} h => by
   rcases Yav s 16 with k|k
   · exact k
   · rw[Yaa,Ya9 (by rw[H.1];exact k)]at h;cases h
 refine⟨V3,_,⟨R.sub,fun m k L=>R.wrk m k ?_,R.rch,fun z f s u=>?_⟩,fun t E=>?_,?_,?_⟩
 ·obtain⟨s,F,l⟩:=L;simp only at l;rw[Zkg F]at l;split at l
  ·exact⟨s,F,l⟩
  simp_all
 ·simp only;rw[Zkg (D u),R.stay z f s u,R2.stay z (by simp_all) s u,if_pos rfl]
 ·rw[Yau,Yap]at E;rcases E with rfl|rfl
  ·refine⟨?_,fun z f i=>?_⟩
   ·cases S:V3 t with
    | false=>rfl
    | true=>simp_all
   ·have p:=w.keep g (J z f) i;exact p1.rch z (j z f) t (p3 p.head) p
  ·refine⟨q2,fun z f i=>?_⟩;have q:=R2.keep g (x:=z) (by simp_all) i;exact q1'.rch z f t (q3 q.head) q
 ·rfl
 simp_all;omega
theorem Zth(g:NOk jx)(k:∀n,n<jx.length->T n=4+((Zg (jx.getD n nq0)).map T).sum):∀(f n:Nat),n<f->n<jx.length->WBd jx T (Zr jx f) n
 | 0,n,h,_=>absurd h (Ya1 _)
 | f + 1, n, J, l => by
   intro c U r H;have i:=Zcf g n;have IH:∀z,z<n->WBd jx T (Zr jx f) z/\4<=T z:=fun z B=>⟨Zth g k f z Om Om,by rw[k z Om];omega⟩
   have s:=k n l
   have key : ∀ {d : Cq} {U' : Nat -> Bool} {K : Nat -> Prop}, Pt jx c U d U' K -> (∀ t ∈ Zg (jx.getD n nq0), U' t = false /\ ∀ x, U' x = true -> ¬ Rch jx (IS c) t x) -> Pt jx c U d U' (fun m => m = n ∨ K m) := fun h L => ⟨h.sub, fun m o u => Or.inr (h.wrk m o u), fun x C m D v => by
     rcases D with e|e
     · subst e
       rcases v.inv with ⟨_,o⟩|⟨y,_,o,u⟩
       · simp_all
       · simp_all
     · exact h.rch x C m e v,h.stay⟩
   by_cases j:(jx.getD n nq0).op=10
   · have E:jx.getD n nq0=jx[n]:=by simp[l]
     obtain⟨a,b,p,q⟩:=(g n l).or (by simp_all);rw[<-E]at p q;have w:Zg (jx.getD n nq0)=[a,b]:=by unfold Zg;rw[p,q]
     rw[w]at i s key;have A:a<n:=i a (by simp);have I:b<n:=i b (by simp);rw[Zky j p q];obtain⟨U',K,p1,p2,p3,p4⟩:=ZvF (c:=c) (U:=U) (a:=a) (b:=b) g (fun z B _=>IH z Om) (IH a A) Om (fun z _ c h=>ZnB g f z c h) r;refine⟨U',_,key p1 p2,Or.inl rfl,p3,?_⟩
     simp_all;omega
   · rw[Zgu j]
     obtain⟨U',K,p1,p2,p3,p4⟩:=Zpn (W:=Zr jx f) (T:=T) g (Zg (jx.getD n nq0)) c U (fun t F=>IH t (i t F)) r
     have G : ∀ (z : Nq) (d : Cq), (ZbD z d).jy = d.jy /\ (ZbD z d).jz.length = d.jz.length + 1 := fun z d => by
       unfold ZbD;split <;> simp[Zc]
     refine⟨U',_,key (p1.same (G _ _).1) p2,Or.inl rfl,by simp_all,?_⟩
     simp_all;omega
def Zcl(jx:List Nq):Nat->Nat->Nat
 | 0,_=>4
 | f+1,n=>4+((Zg (jx.getD n nq0)).map (Zcl jx f)).sum
theorem Zox(i:NOk jx):∀(f g n:Nat),n<f->n<g->Zcl jx f n=Zcl jx g n
 | 0,_,_,h,_=>absurd h (Ya1 _)
 | _+1,0,_,_,h=>absurd h (Ya1 _)
 | f + 1, g + 1, n, k, l => by
   unfold Zcl;rw[Ycb (fun t j=>Zox i f g t (by have:=Zcf i n t j;omega) (by have:=Zcf i n t j;omega))]
theorem Zi3 (f : NOk jx) (n : Nat) : Zcl jx (n + 1) n = 4 + ((Zg (jx.getD n nq0)).map (fun t => Zcl jx (t + 1) t)).sum := by
  rw[Zcl,Ycb (fun t g=>Zox f n _ t (Zcf f n t g) (Ybd _))]
theorem ZuU{g:Gq}(f:NOk g.jx){r:Nat}(j:r<g.jx.length):(Zv g r).jz.length<=Zcl g.jx (r+1) r:=by
 have k:∀n,n<g.jx.length->(fun t=>Zcl _ (t+1) t) n=4+((Zg _).map _).sum:=fun n _=>Zi3 f n;obtain⟨U',K,l,_,_,_,i⟩:=Zj1 (c:=c0 g) (U:=fun _=>false) (T:=fun t=>Zcl g.jx (t+1) t) (Zth f k (r+1) r (Ybd _) j) (by simp_all) ⟨by rfl,fun x h=>(by cases h)⟩
 have o : ∀ x, U' x = false := fun x => by
   cases p:U' x with
   | false=>rfl
   | true=>exact absurd (l.sub x p) Dc
 rw[ZmW _ o,ZmW _ (fun _=>rfl)]at i;have e:(c0 g).jz.length=0:=rfl;rw[e]at i;unfold Zv;omega
end
