/- Parts. -/
import Derived.Test.YtmncdbepjhmkgaaGreatDoorP09
import Derived.Deep.QuietTactic
set_option linter.all false
set_option maxRecDepth 100000
set_option maxHeartbeats 16000000
namespace Go.Proofs.YtmncdbepjhmkgaaGreatDoor
open Go.RowKit LS Go.Proofs.Tryz
variable {a:Act}{ops:Array Oper}{Q:Exit->Act->World->Prop}{ns:List (LB)}{xs:List Value}{b n x y:Nat}{nd:Nd}{P:Program}{md:Region.Mode}{l r:Tr}{pv v:Value}{w:World}{C S:World->Prop}
section
attribute [local go_sem ↓] Go.wp_at_zero Go.wp_at_succ
theorem ZRW{i d:Nat}{oi:Oper}{fuel:Nat}{listed:Array Bool}(b:ops[i]?=some oi)(hd:oi.dst=some d)
  (e:Region.noSelect ops=true) (f:Region.free md ops listed i=true) (g:(Region.ready md ops listed).contains i=true)
  (j:∀c a w,Q (.panic c) (a.put oi.dst v) w->Q (.panic c) a w) (k:YieldsIf P ops S oi v a) (l:S w)
  (h:wpAnyH P md ops Q S fuel (listed.setIfInBounds i true) { a with tmps:=a.tmps.setIfInBounds d v } w):wpAnyH P md ops Q S (fuel+1) listed a w:=
 wpAnyH_take b e f g j k l (by rw[hd];exact h)
theorem ZR5{S':World->Prop}(b:∀w,S w->S' w):∀ {fuel:Nat} {listed:Array Bool} {a:Act} {w:World},wpAnyH P md ops Q S fuel listed a w->wpAnyH P md ops Q S' fuel listed a w
 | 0,_,_,_,h=>h
 | _+1,_,_,_,h=>⟨h.1,fun i d=>wpOp_mono (fun _ _ c=>⟨b _ c.1,ZR5 b c.2⟩) (h.2 i d)⟩
theorem ZSW(s:wfT (.node x y nd l r))(O:wT (.node x y nd l r)<=100000)(b4:isNil l=false->PrC b pv n xs l)(b5:isNil r=false->PrC b pv n xs r)(hk:nd.jx=2):PrC b pv n xs (.node x y nd l r):=by
 intro i must w E P g7;obtain⟨g,cp,p,a,c,rfl,i0,hi,L,ha,hc,b6,b7,c0,c1,c2,c3,c4,c5,c6,c7⟩:=Rep.at E.own P;have b2:=E.cell;obtain⟨W,Q⟩:∃W,W=w.alloc (.cells #[Vi p.k,Vi p.n,Vi p.op,.string p.nm,.slice p.ca p.cn p.cc,.slice p.ba p.bn p.bc,Vi p.a,Vi p.b] 80):=⟨_,rfl⟩
 have t:BW w W:=by rw[Q];exact Zbal
 have i1:W.heap.size=w.heap.size+1:=by rw[Q,Go.Deep.nblk_alloc]
 have HW:Hid (W=w.alloc (.cells #[Vi p.k,Vi p.n,Vi p.op,.string p.nm,.slice p.ca p.cn p.cc,.slice p.ba p.bn p.bc,Vi p.a,Vi p.b] 80)):=Q;have R:Hid (PAt W w.heap.size p):=hid (by rw[Q];exact Go.Deep.blk_alloc_new _ _);have e8:Hid (RowAt W b (.slice (some ⟨g,0,none⟩) n cp) n xs):=E.below t;have HL:Hid (Rep W xs l a):=Rep.below t l a b6;have HR:Hid (Rep W xs r c):=Rep.below t r c b7;have HC:Hid (ZJq W 0 p nd.jy):=L.2.2.2.2.1.below t;have HN:Hid (ZJU W 0 p nd.by_):=L.2.2.2.2.2.below t;have e9:Hid (BW w W):=t;have T:Hid (wfT (.node x y nd l r)):=s;have U:=Zfy (.node x y nd l r) must s;have N:Hid (p.k=nd.jx/\p.n=nd.n/\p.op=nd.op/\bl p.nm=nd.name/\p.a=a/\p.b=c):=⟨L.1,L.2.1,L.2.2.1,L.2.2.2.1,ha,hc⟩
 have d8:ownW nd+wT l+wT r<=100000:=O;have f0:Hid (isNil l=false->PrC b (.slice (some ⟨g,0,none⟩) n cp) n xs l):=b4;have f1:Hid (isNil r=false->PrC b (.slice (some ⟨g,0,none⟩) n cp) n xs r):=b5;have b8:Hid (Zu (.node x y nd l r) must=ZeK (decide (Zz nd<must)) (Zbv nd (Zu l) (Zu r))):=rfl
 have f2:Hid ((Zbv nd (Zu l) (Zu r)).length<=100000):=hid (by
  have:=Zow s.2.2.2.2.2.1 (pl:=Zu l) (pr:=Zu r) (x:=wT l) (y:=wT r) (fun m=>Zfy l m s.2.2.2.2.2.2.2.2.2.2.1) (fun m=>Zfy r m s.2.2.2.2.2.2.2.2.2.2.2);omega)
 have f3:Hid ((Zu (.node x y nd l r) must).length<=100000):=hid (Yah U O);have i2:nd.jx<=6:=s.1;clear L E P Q t b6 b7 s b4 b5 ha hc U O;obtain⟨q0,q1,q2,q3,q4,q5,q6,q7⟩:=PAt.all R.out;go_enter func13,ntmps13
 go_upto_block 0 with fail
 rw[<-HW.out];clear c0 c1 c2 c3 c4 c5 c6 c7 b2 HW
 go_cut [8] from 9 to 107 (fun s8 wx=>∃rr:BA,s8=.string rr/\Hid (bl rr=Zbv nd (Zu l) (Zu r))/\Hid (BW W wx))
 case first=>
  have A:BW W W.drew:=(Yaf _ _).drew;have d9:Hid (RowAt W.drew b (.slice (some ⟨g,0,none⟩) n cp) n xs):=e8.below A;have f4:Hid (Rep W.drew xs l a):=Rep.below A l a HL.out;have f5:Hid (Rep W.drew xs r c):=Rep.below A r c HR.out;clear A;have b9:p.k=2:=by rw[N.1,hk];rfl
  have e0:nd.op<=4:=T.2.1;obtain⟨m,hm⟩:∃m:Nat,m=nd.n.toNat:=⟨_,rfl⟩
  have f6:Hid (Zbv nd (Zu l) (Zu r)=Z0.getD nd.op []++[40]++selS nd++[91]++decS m++[93,41]):=hid (by unfold Zbv;rw[if_neg Om,if_neg Om,if_pos hk,hm]);have V:p.n=(m:Int):=by rw[N.2.1,hm];have:=T.2.2.2.2.1;omega
  have c8:Hid (m<=1000000000):=hid (by have:=T.2.2.2.2.2.1;omega);have c9:Hid (nd.name.length+cw nd.jy<=200000):=hid (by unfold ownW at d8;omega);have A:BW W W.drew:=(Yaf _ _).drew;have f7:Hid (ZJq W.drew 0 p nd.jy):=HC.below A;have f8:Hid (PAt W.drew w.heap.size p):=R;have X:Hid (p.op=nd.op):=N.2.2.1;have f9:Hid (bl p.nm=nd.name):=N.2.2.2.1;rw[X.out]at q2;rw[V]at q1;have d0:Hid (p.n=(m:Int)):=V;rw[b9]at q0;have d1:Hid (p.k=2):=b9;clear hk hm V A;obtain⟨oo,Y⟩:∃oo:Nat,oo=nd.op:=⟨_,rfl⟩
  rw[<-Y]at q2 e0;have Z:Hid (oo=nd.op):=Y;clear Y;obtain⟨x1,d2⟩:∃x1:BA,x1=⟨(Z0.getD oo []).toArray⟩:=⟨_,rfl⟩
  obtain⟨r2,d3⟩:∃r2:BA,r2=⟨(selS nd).toArray⟩:=⟨_,rfl⟩
  obtain⟨r3,d4⟩:∃r3:BA,r3=⟨(decS m).toArray⟩:=⟨_,rfl⟩
  have a0:Hid (bl x1=Z0.getD oo []):=hid (by rw[d2,ZbF]);have a6:Hid (bl r2=selS nd):=hid (by rw[d3,ZbF]);have a7:Hid (bl r3=decS m):=hid (by rw[d4,ZbF]);have z1:x1.size<=5:=by rw[ZU a0.out];exact Zh5 Z0 Dc oo
  have z2:r2.size<=200002:=by rw[ZU a6.out];have:=Zr7 nd;have:=c9.out;omega
  have z3 : r3.size ≤ 10 := by rw [ZU a7.out]; exact ZhZ 9 _ (by have := c8.out; have : (10 : Nat) ^ 10 = 10000000000 := (by decide); omega)
  clear d2 d3 d4
  have e4 : Hid (∀ u, BW W u -> CP 30 #[.string ⟨#[116, 111, 116, 97, 108, 32, 112, 101, 97, 107, 32, 108, 111, 119, 32, 115, 105, 122, 101, 32, 114, 105, 115, 101]⟩, .int .u8 32] u fun e B => ∃ g1 cp1, e = .returned (.slice (some ⟨g1, 0, none⟩) 5 cp1) /\ g1 < B.heap.size /\ B.cell? ⟨g1, oo, none⟩ = some (.string x1) /\ BW W B) := hid (by
    intro u C;refine(ZKh _ 32 rfl Dc).mono ?_;rintro e w1 ⟨g1,n1,cp1,bs,rfl,g0,i3,F,a8,a9,M⟩;rw[ZKr]at a9;have b3:n1=5:=by rw[g0,<-Yak (f:=bl),a9.out];rfl
    have d5:oo<bs.length:=by omega
    have e1:=a8.out oo d5;rw[show bs[oo]=x1 from ZcW ((ZJ6 a9.out oo d5).trans a0.symm)]at e1;exact⟨g1,cp1,by rw[b3],F,e1,C.trans (M.mono C.size)⟩)
  have e5 : Hid (∀ u, BW W u -> CP 29 #[.agg #[Vi 2, Vi m, Vi oo, .string p.nm, .slice p.ca p.cn p.cc, .slice p.ba p.bn p.bc, Vi p.a, Vi p.b]] u fun e B => e = .returned (.string r2) /\ BW u B) := hid (by
    intro u C;have b0:=ZR7 u p nd f9.out (HC.below C) c9.out;rw[d1.out,d0.out,X.out,<-Z.out]at b0;refine b0.mono ?_;rintro e z ⟨q2,rfl,_,g2,q⟩;exact⟨by rw[ZcW (g2.trans a6.symm)],q⟩)
  have e6 : Hid (∀ u, CP 28 #[Vi m] u fun e B => e = .returned (.string r3) /\ BW u B) := hid (by
    intro u;refine(ZKV m u c8.out).mono ?_;rintro e w3 ⟨q3,rfl,_,g3,G⟩;exact⟨by rw[ZcW (g3.trans a7.symm)],G⟩)
  have H:Hid (∀u,BW W u->u.cell? ⟨w.heap.size,0,none⟩=some (Vi 2)/\u.cell? ⟨w.heap.size,1,none⟩=some (Vi m)/\u.cell? ⟨w.heap.size,2,none⟩=some (Vi oo)/\u.cell? ⟨w.heap.size,3,none⟩=some (.string p.nm)/\u.cell? ⟨w.heap.size,4,none⟩=some (.slice p.ca p.cn p.cc)/\u.cell? ⟨w.heap.size,5,none⟩=some (.slice p.ba p.bn p.bc)/\u.cell? ⟨w.heap.size,6,none⟩=some (Vi p.a)/\u.cell? ⟨w.heap.size,7,none⟩=some (Vi p.b)):=hid (by
   intro u C;obtain⟨k0,k1,k2,k3,k4,k5,k6,k7⟩:=PAt.all (PAt.kept R.out (C.block _ (PAt.lt R.out)));rw[d1.out]at k0;rw[d0.out]at k1;rw[X.out,<-Z.out]at k2;exact⟨k0,k1,k2,k3,k4,k5,k6,k7⟩)
  have d6:Hid (BW W W.drew):=hid ((Yaf _ _).drew);have g8:(oo:Int)<5:=by omega
  have g9:(0:Int)<=(oo:Int):=by omega
  have a1:∀W,(Op.stringOp .add x1 ⟨#[40]⟩).run prog W=.ok (.string (x1++⟨#[40]⟩)) W:=fun W=>run_string_add_sum W _ _ (by show x1.size+1<=_;omega);have y1:(x1++⟨#[40]⟩:BA).size=x1.size+1:=by rw[Yaz];rfl
  have y2:((x1++⟨#[40]⟩)++r2:BA).size=x1.size+1+r2.size:=by rw[Yaz,y1]
  have y3:(((x1++⟨#[40]⟩)++r2)++⟨#[91]⟩:BA).size=x1.size+1+r2.size+1:=by rw[Yaz,y2];rfl
  have y4:((((x1++⟨#[40]⟩)++r2)++⟨#[91]⟩)++r3:BA).size=x1.size+1+r2.size+1+r3.size:=by rw[Yaz,y3]
  have a2:∀W,(Op.stringOp .add (x1++⟨#[40]⟩) r2).run prog W=.ok (.string ((x1++⟨#[40]⟩)++r2)) W:=fun W=>run_string_add_sum W _ _ Om;have a3:∀W,(Op.stringOp .add ((x1++⟨#[40]⟩)++r2) ⟨#[91]⟩).run prog W=.ok (.string (((x1++⟨#[40]⟩)++r2)++⟨#[91]⟩)) W:=fun W=>run_string_add_sum W _ _ (by rw[y2];show _+1<=_;omega);have a4:∀W,(Op.stringOp .add (((x1++⟨#[40]⟩)++r2)++⟨#[91]⟩) r3).run prog W=.ok (.string ((((x1++⟨#[40]⟩)++r2)++⟨#[91]⟩)++r3)) W:=fun W=>run_string_add_sum W _ _ Om;have a5:∀W,(Op.stringOp .add ((((x1++⟨#[40]⟩)++r2)++⟨#[91]⟩)++r3) ⟨#[93,41]⟩).run prog W=.ok (.string (((((x1++⟨#[40]⟩)++r2)++⟨#[91]⟩)++r3)++⟨#[93,41]⟩)) W:=fun W=>run_string_add_sum W _ _ (by rw[y4];show _+2<=_;omega);clear y1 y2 y3 y4 z1 z2 z3 d9 f4 f5 f7 f8 f0 f1
  go_upto_region 9 with fail
  refine wp_region_held_drew (S:=fun u=>u.cell? ⟨w.heap.size,0,none⟩=some (Vi 2)/\u.cell? ⟨w.heap.size,1,none⟩=some (Vi m)/\u.cell? ⟨w.heap.size,2,none⟩=some (Vi oo)/\u.cell? ⟨w.heap.size,3,none⟩=some (.string p.nm)/\u.cell? ⟨w.heap.size,4,none⟩=some (.slice p.ca p.cn p.cc)/\u.cell? ⟨w.heap.size,5,none⟩=some (.slice p.ba p.bn p.bc)/\u.cell? ⟨w.heap.size,6,none⟩=some (Vi p.a)/\u.cell? ⟨w.heap.size,7,none⟩=some (Vi p.b)) Kr (H.out _ d6.out) (fun j=>?_);refine ZRW (i:=1) (d:=31) (v:=?v1_0) rfl rfl Kr Kr Kr (fun _ _ _ h=>h) (Or.inl ⟨by rfl,?hy1_0⟩) j ?rs1_0
  case hy1_0=>
   intro w hSw;go_simp
   try with_reducible rfl
  case rs1_0=>
  try simp only[Act.put,Zset]
  refine ZRW (i:=2) (d:=32) (v:=?v2_1) rfl rfl Kr Kr Kr (fun _ _ _ h=>h) (Or.inl ⟨by rfl,?hy2_1⟩) j ?rs2_1
  case hy2_1=>
   intro w hSw;go_simp
   try with_reducible rfl
  case rs2_1=>
  try simp only[Act.put,Zset]
  refine ZRW (i:=6) (d:=36) (v:=?v6_2) rfl rfl Kr Kr Kr (fun _ _ _ h=>h) (Or.inl ⟨by rfl,?hy6_2⟩) j ?rs6_2
  case hy6_2=>
   intro w hSw;go_simp
   try with_reducible rfl
  case rs6_2=>
  try simp only[Act.put,Zset]
  refine ZRW (i:=10) (d:=40) (v:=?v10_3) rfl rfl Kr Kr Kr (fun _ _ _ h=>h) (Or.inl ⟨by rfl,?hy10_3⟩) j ?rs10_3
  case hy10_3=>
   intro w hSw;go_simp
   try with_reducible rfl
  case rs10_3=>
  try simp only[Act.put,Zset]
  refine ZRW (i:=11) (d:=41) (v:=?v11_4) rfl rfl Kr Kr Kr (fun _ _ _ h=>h) (Or.inl ⟨by rfl,?hy11_4⟩) j ?rs11_4
  case hy11_4=>
   intro w hSw;go_simp
   try with_reducible rfl
  case rs11_4=>
  try simp only[Act.put,Zset]
  refine wpAnyH_ready (rs:=[0]) Kr (by simp) ?_;refine AllReadyH.cons (o:=_) rfl (fun K I=>?_) AllReadyH.nil;go_simp;refine(e4.out _ d6.out).mono ?_;rintro e w1 ⟨g1,cp1,rfl,F,e1,M⟩;have J:Hid (BW W w1):=M;clear M;go_simp;refine I.out _ _ (H.out _ J.out) (fun j=>?_);clear I K
  try simp only[Act.put,Zset]
  refine ZR5 (S:=fun u=>u.cell? ⟨g1,oo,none⟩=some (.string x1)/\u.cell? ⟨w.heap.size,0,none⟩=some (Vi 2)/\u.cell? ⟨w.heap.size,1,none⟩=some (Vi m)/\u.cell? ⟨w.heap.size,2,none⟩=some (Vi oo)/\u.cell? ⟨w.heap.size,3,none⟩=some (.string p.nm)/\u.cell? ⟨w.heap.size,4,none⟩=some (.slice p.ca p.cn p.cc)/\u.cell? ⟨w.heap.size,5,none⟩=some (.slice p.ba p.bn p.bc)/\u.cell? ⟨w.heap.size,6,none⟩=some (Vi p.a)/\u.cell? ⟨w.heap.size,7,none⟩=some (Vi p.b)) (fun _ h=>h.2) ?_;clear j;have j:w1.cell? ⟨g1,oo,none⟩=some (.string x1)/\_:=⟨e1,H.out _ J.out⟩
  refine ZRW (i:=3) (d:=33) (v:=?v3_5) rfl rfl Kr Kr Kr (fun _ _ _ h=>h) (Or.inl ⟨by rfl,?hy3_5⟩) j ?rs3_5
  case hy3_5=>
   intro w hSw;go_simp
   try with_reducible rfl
  case rs3_5=>
  try simp only[Act.put,Zset]
  refine ZRW (i:=4) (d:=34) (v:=?v4_6) rfl rfl Kr Kr Kr (fun _ _ _ h=>h) (Or.inl ⟨by rfl,?hy4_6⟩) j ?rs4_6
  case hy4_6=>
   intro w hSw;go_simp
   try with_reducible rfl
  case rs4_6=>
  try simp only[Act.put,Zset]
  refine ZRW (i:=5) (d:=35) (v:=?v5_7) rfl rfl Kr Kr Kr (fun _ _ _ h=>h) (Or.inl ⟨by rfl,?hy5_7⟩) j ?rs5_7
  case hy5_7=>
   intro w hSw;go_simp
   try with_reducible rfl
  case rs5_7=>
  try simp only[Act.put,Zset]
  refine wpAnyH_ready (rs:=[7]) Kr (by simp) ?_;refine AllReadyH.cons (o:=_) rfl (fun K I=>?_) AllReadyH.nil;go_simp;refine(e5.out _ J.out).mono ?_;rintro e z ⟨rfl,q⟩;have e2:z.cell? ⟨g1,oo,none⟩=some (.string x1):=(q.cell (p:=⟨g1,oo,none⟩) F).trans e1;have e7:g1<z.heap.size:=Yaw F q.size;have D:Hid (BW W z):=J.trans (q.mono J.size);clear q;go_simp;refine I.out _ _ ⟨e2,H.out _ D.out⟩ (fun j=>?_);clear I K
  try simp only[Act.put,Zset]
  refine ZRW (i:=8) (d:=38) (v:=?v8_8) rfl rfl Kr Kr Kr (fun _ _ _ h=>h) (Or.inl ⟨by rfl,?hy8_8⟩) j ?rs8_8
  case hy8_8=>
   intro w hSw;go_simp
   try with_reducible rfl
  case rs8_8=>
  try simp only[Act.put,Zset]
  refine ZRW (i:=9) (d:=39) (v:=?v9_9) rfl rfl Kr Kr Kr (fun _ _ _ h=>h) (Or.inl ⟨by rfl,?hy9_9⟩) j ?rs9_9
  case hy9_9=>
   intro w hSw;go_simp
   try with_reducible rfl
  case rs9_9=>
  try simp only[Act.put,Zset]
  refine wpAnyH_ready (rs:=[12]) Kr (by simp) ?_;refine AllReadyH.cons (o:=_) rfl (fun K I=>?_) AllReadyH.nil;go_simp;refine(e6.out _).mono ?_;rintro e w3 ⟨rfl,G⟩;have e3:w3.cell? ⟨g1,oo,none⟩=some (.string x1):=(G.cell (p:=⟨g1,oo,none⟩) e7).trans e2;have d7:Hid (BW W w3):=D.trans (G.mono D.size);clear G;go_simp;refine I.out _ _ ⟨e3,H.out _ d7.out⟩ (fun j=>?_);clear I K
  try simp only[Act.put,Zset]
  refine ZRW (i:=13) (d:=43) (v:=?v13_10) rfl rfl Kr Kr Kr (fun _ _ _ h=>h) (Or.inl ⟨by rfl,?hy13_10⟩) j ?rs13_10
  case hy13_10=>
   intro w hSw;go_simp
   try with_reducible rfl
  case rs13_10=>
  try simp only[Act.put,Zset]
  refine ZRW (i:=14) (d:=44) (v:=?v14_11) rfl rfl Kr Kr Kr (fun _ _ _ h=>h) (Or.inl ⟨by rfl,?hy14_11⟩) j ?rs14_11
  case hy14_11=>
   intro w hSw;go_simp
   try with_reducible rfl
  case rs14_11=>
  try simp only[Act.put,Zset]
  refine ZRW (i:=15) (d:=8) (v:=?v15_12) rfl rfl Kr Kr Kr (fun _ _ _ h=>h) (Or.inl ⟨by rfl,?hy15_12⟩) j ?rs15_12
  case hy15_12=>
   intro w hSw;go_simp
   try with_reducible rfl
  case rs15_12=>
  try simp only[Act.put,Zset]
  refine wpAnyH_done Kr ?_ _;go_wp2
  go_meet
  exact⟨_,rfl,hid (by rw[f6.out,<-Z.out,ZcV,ZcV,ZcV,ZcV,ZcV,a0.out,a6.out,a7.out];rfl),d7⟩
 case rest=>
 obtain⟨rr,rfl,b1,HB⟩:=hcut;have g4:=HB.size;have g5:Hid (PAt wc w.heap.size p):=PAt.kept R.out (HB.block _ Om);clear q0 q1 q2 q3 q4 q5 q6 q7;obtain⟨q0,q1,q2,q3,q4,q5,q6,q7⟩:=PAt.all g5.out
 go_wp2_with fail
 refine(ZR0 p nd N.1 N.2.2.1).mono ?_;rintro e z ⟨rfl,q⟩;have D:Hid (BW w z):=e9.trans ((HB.trans (q.mono g4)).mono Om);have g6:rr.size<=100000:=by rw[ZU b1.out];exact f2.out
 clear q;by_cases i4:(Zz nd:Int)<must
 ·have HD:Hid (Zu (.node x y nd l r) must=[40]++Zbv nd (Zu l) (Zu r)++[41]):=hid (by rw[b8.out,decide_eq_true (show Zz nd<must by omega)];rfl);have z1:(⟨#[40]⟩++rr:BA).size=1+rr.size:=by rw[Yaz];rfl
  have a1:∀W,(Op.stringOp .add ⟨#[40]⟩ rr).run prog W=.ok (.string (⟨#[40]⟩++rr)) W:=fun W=>run_string_add_sum W _ _ (by show 1+rr.size<=_;omega);have a2:∀W,(Op.stringOp .add (⟨#[40]⟩++rr) ⟨#[41]⟩).run prog W=.ok (.string ((⟨#[40]⟩++rr)++⟨#[41]⟩)) W:=fun W=>run_string_add_sum W _ _ (by rw[z1];show _+1<=_;omega);have HE:Hid (bl ((⟨#[40]⟩++rr)++⟨#[41]⟩)=Zu (.node x y nd l r) must):=hid (by rw[HD.out,ZcV,ZcV,b1.out];rfl);clear z1;go_wp2;go_ret;exact⟨_,rfl,by rw[ZU HE.out];exact f3.out,HE,D.out⟩
 ·have HD:Hid (Zu (.node x y nd l r) must=Zbv nd (Zu l) (Zu r)):=hid (by rw[b8.out,decide_eq_false (show ¬Zz nd<must by omega)];rfl);go_wp2;go_ret;exact⟨_,rfl,g6,by rw[HD.out];exact b1,D.out⟩
end
section
theorem ZSd : ns.length<=nw ns/\∀x∈ns,x.length<=nw ns:=by
 induction ns with
 | nil=>exact⟨Yac _,fun x h=>(by cases h)⟩
 | cons a l ih=>
  refine⟨by simp[nw];omega,?_⟩;intro x b;rcases Yau.1 b with rfl|h
  ·simp[nw];omega
  ·have:=ih.2 x h;simp[nw];omega
theorem ZSc{bs:List BA}(h:bs.map bl=ns)(d:nw ns<=100000):bs.length<=100001/\∀q∈bs,q.size<=100000:=by
 obtain⟨e,a⟩:=ZSd (ns:=ns);have b:(bs.map bl).length=ns.length:=by rw[h]
 rw[Yak]at b;refine⟨by omega,?_⟩;intro q c;have:=a (bl q) (by rw[<-h];exact Ybe.2 ⟨q,c,rfl⟩);rw[Zd]at this;omega
theorem ZSR(t:wfT (.node x y nd l r))(M:wT (.node x y nd l r)<=100000)(b0:isNil l=false->PrC b pv n xs l)(b1:isNil r=false->PrC b pv n xs r)(hk:nd.jx=5):PrC b pv n xs (.node x y nd l r):=by
 intro i must w E N i0;obtain⟨g,cp,p,a,c,rfl,i3,hi,I,ha,hc,b2,b3,c0,c1,c2,c3,c4,c5,c6,c7⟩:=Rep.at E.own N;have a8:=E.cell;obtain⟨W,O⟩:∃W,W=w.alloc (.cells #[Vi p.k,Vi p.n,Vi p.op,.string p.nm,.slice p.ca p.cn p.cc,.slice p.ba p.bn p.bc,Vi p.a,Vi p.b] 80):=⟨_,rfl⟩
 have A:BW w W:=by rw[O];exact Zbal
 have i4:W.heap.size=w.heap.size+1:=by rw[O,Go.Deep.nblk_alloc]
 have HW:Hid (W=w.alloc (.cells #[Vi p.k,Vi p.n,Vi p.op,.string p.nm,.slice p.ca p.cn p.cc,.slice p.ba p.bn p.bc,Vi p.a,Vi p.b] 80)):=O;have P:Hid (PAt W w.heap.size p):=hid (by rw[O];exact Go.Deep.blk_alloc_new _ _);have b4:Hid (RowAt W b (.slice (some ⟨g,0,none⟩) n cp) n xs):=E.below A;have HL:Hid (Rep W xs l a):=Rep.below A l a b2;have HR:Hid (Rep W xs r c):=Rep.below A r c b3;have HC:Hid (ZJq W 0 p nd.jy):=I.2.2.2.2.1.below A;have HN:Hid (ZJU W 0 p nd.by_):=I.2.2.2.2.2.below A;have e8:Hid (BW w W):=A;have Q:Hid (wfT (.node x y nd l r)):=t;have R:=Zfy (.node x y nd l r) must t;have T:Hid (p.k=nd.jx/\p.n=nd.n/\p.op=nd.op/\bl p.nm=nd.name/\p.a=a/\p.b=c):=⟨I.1,I.2.1,I.2.2.1,I.2.2.2.1,ha,hc⟩
 have e4:ownW nd+wT l+wT r<=100000:=M;have b5:Hid (isNil l=false->PrC b (.slice (some ⟨g,0,none⟩) n cp) n xs l):=b0;have e9:Hid (isNil r=false->PrC b (.slice (some ⟨g,0,none⟩) n cp) n xs r):=b1;have b6:Hid (Zu (.node x y nd l r) must=ZeK (decide (Zz nd<must)) (Zbv nd (Zu l) (Zu r))):=rfl
 have f0:Hid ((Zbv nd (Zu l) (Zu r)).length<=100000):=hid (by
  have:=Zow t.2.2.2.2.2.1 (pl:=Zu l) (pr:=Zu r) (x:=wT l) (y:=wT r) (fun m=>Zfy l m t.2.2.2.2.2.2.2.2.2.2.1) (fun m=>Zfy r m t.2.2.2.2.2.2.2.2.2.2.2);omega)
 have f1:Hid ((Zu (.node x y nd l r) must).length<=100000):=hid (Yah R M);have i5:nd.jx<=6:=t.1;clear I E N O A b2 b3 t b0 b1 ha hc R M;obtain⟨q0,q1,q2,q3,q4,q5,q6,q7⟩:=PAt.all P.out;go_enter func13,ntmps13
 go_upto_block 0 with fail
 rw[<-HW.out];clear c0 c1 c2 c3 c4 c5 c6 c7 a8 HW
 go_cut [8] from 9 to 107 (fun s8 wx=>∃rr:BA,s8=.string rr/\Hid (bl rr=Zbv nd (Zu l) (Zu r))/\Hid (BW W wx))
 case first=>
  have B:BW W W.drew:=(Yaf _ _).drew;have e5:Hid (RowAt W.drew b (.slice (some ⟨g,0,none⟩) n cp) n xs):=b4.below B;have f2:Hid (Rep W.drew xs l a):=Rep.below B l a HL.out;have f3:Hid (Rep W.drew xs r c):=Rep.below B r c HR.out;clear B;have i6:p.k=5:=by rw[T.1,hk];rfl
  have e6:nd.op<=3:=Q.2.2.2.1 hk;have f4:Hid (Zbv nd (Zu l) (Zu r)=ZW.getD nd.op []++[32,98,121,32,40]++ZRV nd.by_++[41,32,40]++Zu l 1++[41]):=hid (by unfold Zbv;rw[if_neg Om,if_neg Om,if_neg Om,if_neg Om,if_pos hk]);have b7:isNil l=false:=Q.2.2.2.2.2.2.1 Om;have f5:Hid (PrC b (.slice (some ⟨g,0,none⟩) n cp) n xs l):=b5.out b7;have B:BW W W.drew:=(Yaf _ _).drew;obtain⟨ns,U,b8,b9⟩:=ZJU.zero (HN.below B);have f6:Hid (W.drew.ownsRow 0 9 1 (.slice p.ba ns.length p.bc) ns.length (ns.map .string)):=b8;have c8:Hid (ns.map bl=nd.by_):=b9;have f7:Hid (p.bn=ns.length):=U;have c9:Hid (nw nd.by_<=100000):=hid (by unfold ownW at e4;omega);have d0:Hid (ns.length<=100001/\∀q∈ns,q.size<=100000):=hid (ZSc c8.out c9.out);have f8:Hid (PAt W.drew w.heap.size p):=P;have d1:Hid (p.op=nd.op):=T.2.2.1;have d2:Hid (p.a=a):=T.2.2.2.2.1;rw[d1.out]at q2;rw[U]at q5;rw[d2.out]at q6;clear hk B U b8 b9 b7 b5 e9;obtain⟨oo,V⟩:∃oo:Nat,oo=nd.op:=⟨_,rfl⟩
  rw[<-V]at q2 e6;have d3:Hid (oo=nd.op):=V;clear V;obtain⟨x1,d4⟩:∃x1:BA,x1=⟨(ZW.getD oo []).toArray⟩:=⟨_,rfl⟩
  obtain⟨r2,d5⟩:∃r2:BA,r2=⟨(ZRV nd.by_).toArray⟩:=⟨_,rfl⟩
  obtain⟨r3,d6⟩:∃r3:BA,r3=⟨(Zu l 1).toArray⟩:=⟨_,rfl⟩
  have X:Hid (bl x1=ZW.getD oo []):=hid (by rw[d4,ZbF]);have Y:Hid (bl r2=ZRV nd.by_):=hid (by rw[d5,ZbF]);have Z:Hid (bl r3=Zu l 1):=hid (by rw[d6,ZbF]);have z1:x1.size<=5:=by rw[ZU X.out];exact Zh5 ZW Dc oo
  have z2:r2.size<=100000:=by rw[ZU Y.out];exact Yah (ZeS _) c9.out
  have z3:r3.size<=100000:=by rw[ZU Z.out];have:=Zfy l 1 Q.2.2.2.2.2.2.2.2.2.2.1;omega
  clear d4 d5 d6
  have e7 : Hid (∀ u, BW W u -> CP 30 #[.string ⟨#[115, 117, 109, 32, 109, 97, 120, 32, 109, 105, 110, 32, 99, 111, 117, 110, 116]⟩, .int .u8 32] u fun e C => ∃ g1 cp1, e = .returned (.slice (some ⟨g1, 0, none⟩) 4 cp1) /\ g1 < C.heap.size /\ C.cell? ⟨g1, oo, none⟩ = some (.string x1) /\ BW W C) := hid (by
    intro u s;refine(ZKh _ 32 rfl Dc).mono ?_;rintro e w1 ⟨g1,n1,cp1,bs,rfl,f9,i7,J,a0,a6,L⟩;rw[ZKp]at a6;have a9:n1=4:=by rw[f9,<-Yak (f:=bl),a6.out];rfl
    have d7:oo<bs.length:=by omega
    have e1:=a0.out oo d7;rw[show bs[oo]=x1 from ZcW ((ZJ6 a6.out oo d7).trans X.symm)]at e1;exact⟨g1,cp1,by rw[a9],J,e1,s.trans (L.mono s.size)⟩)
  have g0 : Hid (∀ u, BW W u -> CP 31 #[.slice p.ba ns.length p.bc] u fun e C => e = .returned (.string r2) /\ C = u) := hid (by
    intro u s;refine(ZRL 0 ns u (Zn (show W.ownsRow 0 9 1 (.slice p.ba ns.length p.bc) ns.length (ns.map .string) from f6.out) s) d0.1 d0.2).mono ?_;rintro e z ⟨q2,rfl,_,g2,rfl⟩;have g3:bl q2=ZRV nd.by_:=by rw[g2.out,ZR6 _ _ (by rw[Yak];exact Yac _),Ya5 (by rw[Yak];exact Yac _),c8.out]
    exact⟨by rw[ZcW (g3.trans Y.symm)],rfl⟩)
  have g4 : Hid (∀ u, BW W u -> CP 13 #[Vp b, Vi a, Vi 1] u fun e C => e = .returned (.string r3) /\ BW u C) := hid (by
    intro u s;refine(f5.out a 1 u (b4.below s) (Rep.below s l a HL.out) Dc).mono ?_;rintro e w3 ⟨q3,rfl,_,g5,F⟩;exact⟨by rw[ZcW (g5.trans Z.symm)],F⟩)
  have G:Hid (∀u,BW W u->u.cell? ⟨w.heap.size,2,none⟩=some (Vi oo)/\u.cell? ⟨w.heap.size,5,none⟩=some (.slice p.ba ns.length p.bc)/\u.cell? ⟨w.heap.size,6,none⟩=some (Vi a)):=hid (by
   intro u s;obtain⟨_,_,k2,_,_,k5,k6,_⟩:=PAt.all (PAt.kept P.out (s.block _ (PAt.lt P.out)));rw[d1.out,<-d3.out]at k2;rw[f7.out]at k5;rw[d2.out]at k6;exact⟨k2,k5,k6⟩)
  have d8:Hid (BW W W.drew):=hid ((Yaf _ _).drew);have i1:(oo:Int)<4:=by omega
  have i2:(0:Int)<=(oo:Int):=by omega
  have a1:∀W,(Op.stringOp .add x1 ⟨#[32,98,121,32,40]⟩).run prog W=.ok (.string (x1++⟨#[32,98,121,32,40]⟩)) W:=fun W=>run_string_add_sum W _ _ (by show x1.size+5<=_;omega);have y1:(x1++⟨#[32,98,121,32,40]⟩:BA).size=x1.size+5:=by rw[Yaz];rfl
  have y2:((x1++⟨#[32,98,121,32,40]⟩)++r2:BA).size=x1.size+5+r2.size:=by rw[Yaz,y1]
  have y3:(((x1++⟨#[32,98,121,32,40]⟩)++r2)++⟨#[41,32,40]⟩:BA).size=x1.size+5+r2.size+3:=by rw[Yaz,y2];rfl
  have y4:((((x1++⟨#[32,98,121,32,40]⟩)++r2)++⟨#[41,32,40]⟩)++r3:BA).size=x1.size+5+r2.size+3+r3.size:=by rw[Yaz,y3]
  have a2:∀W,(Op.stringOp .add (x1++⟨#[32,98,121,32,40]⟩) r2).run prog W=.ok (.string ((x1++⟨#[32,98,121,32,40]⟩)++r2)) W:=fun W=>run_string_add_sum W _ _ Om;have a3:∀W,(Op.stringOp .add ((x1++⟨#[32,98,121,32,40]⟩)++r2) ⟨#[41,32,40]⟩).run prog W=.ok (.string (((x1++⟨#[32,98,121,32,40]⟩)++r2)++⟨#[41,32,40]⟩)) W:=fun W=>run_string_add_sum W _ _ (by rw[y2];show _+3<=_;omega);have a4:∀W,(Op.stringOp .add (((x1++⟨#[32,98,121,32,40]⟩)++r2)++⟨#[41,32,40]⟩) r3).run prog W=.ok (.string ((((x1++⟨#[32,98,121,32,40]⟩)++r2)++⟨#[41,32,40]⟩)++r3)) W:=fun W=>run_string_add_sum W _ _ Om;have a5:∀W,(Op.stringOp .add ((((x1++⟨#[32,98,121,32,40]⟩)++r2)++⟨#[41,32,40]⟩)++r3) ⟨#[41]⟩).run prog W=.ok (.string (((((x1++⟨#[32,98,121,32,40]⟩)++r2)++⟨#[41,32,40]⟩)++r3)++⟨#[41]⟩)) W:=fun W=>run_string_add_sum W _ _ (by rw[y4];show _+1<=_;omega);clear y1 y2 y3 y4 z1 z2 z3 e5 f2 f3 f8
  go_upto_region 13 with fail
  refine wp_region_held_drew (S:=fun u=>u.cell? ⟨w.heap.size,2,none⟩=some (Vi oo)/\u.cell? ⟨w.heap.size,5,none⟩=some (.slice p.ba ns.length p.bc)/\u.cell? ⟨w.heap.size,6,none⟩=some (Vi a)) Kr (G.out _ d8.out) (fun j=>?_);refine ZRW (i:=1) (d:=55) (v:=?v1_0) rfl rfl Kr Kr Kr (fun _ _ _ h=>h) (Or.inl ⟨by rfl,?hy1_0⟩) j ?rs1_0
  case hy1_0=>
   intro w hSw;go_simp
   try with_reducible rfl
  case rs1_0=>
  try simp only[Act.put,Zset]
  refine ZRW (i:=2) (d:=56) (v:=?v2_1) rfl rfl Kr Kr Kr (fun _ _ _ h=>h) (Or.inl ⟨by rfl,?hy2_1⟩) j ?rs2_1
  case hy2_1=>
   intro w hSw;go_simp
   try with_reducible rfl
  case rs2_1=>
  try simp only[Act.put,Zset]
  refine ZRW (i:=6) (d:=60) (v:=?v6_2) rfl rfl Kr Kr Kr (fun _ _ _ h=>h) (Or.inl ⟨by rfl,?hy6_2⟩) j ?rs6_2
  case hy6_2=>
   intro w hSw;go_simp
   try with_reducible rfl
  case rs6_2=>
  try simp only[Act.put,Zset]
  refine ZRW (i:=7) (d:=61) (v:=?v7_3) rfl rfl Kr Kr Kr (fun _ _ _ h=>h) (Or.inl ⟨by rfl,?hy7_3⟩) j ?rs7_3
  case hy7_3=>
   intro w hSw;go_simp
   try with_reducible rfl
  case rs7_3=>
  try simp only[Act.put,Zset]
  refine ZRW (i:=11) (d:=65) (v:=?v11_4) rfl rfl Kr Kr Kr (fun _ _ _ h=>h) (Or.inl ⟨by rfl,?hy11_4⟩) j ?rs11_4
  case hy11_4=>
   intro w hSw;go_simp
   try with_reducible rfl
  case rs11_4=>
  try simp only[Act.put,Zset]
  refine ZRW (i:=12) (d:=66) (v:=?v12_5) rfl rfl Kr Kr Kr (fun _ _ _ h=>h) (Or.inl ⟨by rfl,?hy12_5⟩) j ?rs12_5
  case hy12_5=>
   intro w hSw;go_simp
   try with_reducible rfl
  case rs12_5=>
  try simp only[Act.put,Zset]
  refine ZRW (i:=13) (d:=67) (v:=?v13_6) rfl rfl Kr Kr Kr (fun _ _ _ h=>h) (Or.inl ⟨by rfl,?hy13_6⟩) j ?rs13_6
  case hy13_6=>
   intro w hSw;go_simp
   try with_reducible rfl
  case rs13_6=>
  try simp only[Act.put,Zset]
  refine wpAnyH_ready (rs:=[0]) Kr (by simp) ?_;refine AllReadyH.cons (o:=_) rfl (fun K H=>?_) AllReadyH.nil;go_simp;refine(e7.out _ d8.out).mono ?_;rintro e w1 ⟨g1,cp1,rfl,J,e1,L⟩;have D:Hid (BW W w1):=L;clear L;go_simp;refine H.out _ _ (G.out _ D.out) (fun j=>?_);clear H K
  try simp only[Act.put,Zset]
  refine ZR5 (S:=fun u=>u.cell? ⟨g1,oo,none⟩=some (.string x1)/\u.cell? ⟨w.heap.size,2,none⟩=some (Vi oo)/\u.cell? ⟨w.heap.size,5,none⟩=some (.slice p.ba ns.length p.bc)/\u.cell? ⟨w.heap.size,6,none⟩=some (Vi a)) (fun _ h=>h.2) ?_;clear j;have j:w1.cell? ⟨g1,oo,none⟩=some (.string x1)/\_:=⟨e1,G.out _ D.out⟩
  refine ZRW (i:=3) (d:=57) (v:=?v3_7) rfl rfl Kr Kr Kr (fun _ _ _ h=>h) (Or.inl ⟨by rfl,?hy3_7⟩) j ?rs3_7
  case hy3_7=>
   intro w hSw;go_simp
   try with_reducible rfl
  case rs3_7=>
  try simp only[Act.put,Zset]
  refine ZRW (i:=4) (d:=58) (v:=?v4_8) rfl rfl Kr Kr Kr (fun _ _ _ h=>h) (Or.inl ⟨by rfl,?hy4_8⟩) j ?rs4_8
  case hy4_8=>
   intro w hSw;go_simp
   try with_reducible rfl
  case rs4_8=>
  try simp only[Act.put,Zset]
  refine ZRW (i:=5) (d:=59) (v:=?v5_9) rfl rfl Kr Kr Kr (fun _ _ _ h=>h) (Or.inl ⟨by rfl,?hy5_9⟩) j ?rs5_9
  case hy5_9=>
   intro w hSw;go_simp
   try with_reducible rfl
  case rs5_9=>
  try simp only[Act.put,Zset]
  refine wpAnyH_ready (rs:=[8]) Kr (by simp) ?_;refine AllReadyH.cons (o:=_) rfl (fun K H=>?_) AllReadyH.nil;go_simp;refine(g0.out _ D.out).mono ?_;rintro e z ⟨rfl,g6⟩;subst g6;go_simp;refine H.out _ _ ⟨e1,G.out _ D.out⟩ (fun j=>?_);clear H K
  try simp only[Act.put,Zset]
  refine ZRW (i:=9) (d:=63) (v:=?v9_10) rfl rfl Kr Kr Kr (fun _ _ _ h=>h) (Or.inl ⟨by rfl,?hy9_10⟩) j ?rs9_10
  case hy9_10=>
   intro w hSw;go_simp
   try with_reducible rfl
  case rs9_10=>
  try simp only[Act.put,Zset]
  refine ZRW (i:=10) (d:=64) (v:=?v10_11) rfl rfl Kr Kr Kr (fun _ _ _ h=>h) (Or.inl ⟨by rfl,?hy10_11⟩) j ?rs10_11
  case hy10_11=>
   intro w hSw;go_simp
   try with_reducible rfl
  case rs10_11=>
  try simp only[Act.put,Zset]
  refine wpAnyH_ready (rs:=[14]) Kr (by simp) ?_;refine AllReadyH.cons (o:=_) rfl (fun K H=>?_) AllReadyH.nil;go_simp;refine(g4.out _ D.out).mono ?_;rintro e w3 ⟨rfl,F⟩;have e3:=(F.cell (p:=⟨g1,oo,none⟩) J).trans e1;have d9:Hid (BW W w3):=D.trans (F.mono D.size);clear F;go_simp;refine H.out _ _ ⟨e3,G.out _ d9.out⟩ (fun j=>?_);clear H K
  try simp only[Act.put,Zset]
  refine ZRW (i:=15) (d:=69) (v:=?v15_12) rfl rfl Kr Kr Kr (fun _ _ _ h=>h) (Or.inl ⟨by rfl,?hy15_12⟩) j ?rs15_12
  case hy15_12=>
   intro w hSw;go_simp
   try with_reducible rfl
  case rs15_12=>
  try simp only[Act.put,Zset]
  refine ZRW (i:=16) (d:=70) (v:=?v16_13) rfl rfl Kr Kr Kr (fun _ _ _ h=>h) (Or.inl ⟨by rfl,?hy16_13⟩) j ?rs16_13
  case hy16_13=>
   intro w hSw;go_simp
   try with_reducible rfl
  case rs16_13=>
  try simp only[Act.put,Zset]
  refine ZRW (i:=17) (d:=8) (v:=?v17_14) rfl rfl Kr Kr Kr (fun _ _ _ h=>h) (Or.inl ⟨by rfl,?hy17_14⟩) j ?rs17_14
  case hy17_14=>
   intro w hSw;go_simp
   try with_reducible rfl
  case rs17_14=>
  try simp only[Act.put,Zset]
  refine wpAnyH_done Kr ?_ _;go_wp2
  go_meet
  exact⟨_,rfl,hid (by rw[f4.out,<-d3.out,ZcV,ZcV,ZcV,ZcV,ZcV,X.out,Y.out,Z.out];rfl),d9⟩
 case rest=>
 obtain⟨rr,rfl,a7,HB⟩:=hcut;have g7:=HB.size;have g8:Hid (PAt wc w.heap.size p):=PAt.kept P.out (HB.block _ Om);clear q0 q1 q2 q3 q4 q5 q6 q7;obtain⟨q0,q1,q2,q3,q4,q5,q6,q7⟩:=PAt.all g8.out
 go_wp2_with fail
 refine(ZR0 p nd T.1 T.2.2.1).mono ?_;rintro e z ⟨rfl,e0⟩;have e2:Hid (BW w z):=e8.trans ((HB.trans (e0.mono g7)).mono Om);have g9:rr.size<=100000:=by rw[ZU a7.out];exact f0.out
 clear e0;by_cases i8:(Zz nd:Int)<must
 ·have HD:Hid (Zu (.node x y nd l r) must=[40]++Zbv nd (Zu l) (Zu r)++[41]):=hid (by rw[b6.out,decide_eq_true (show Zz nd<must by omega)];rfl);have z1:(⟨#[40]⟩++rr:BA).size=1+rr.size:=by rw[Yaz];rfl
  have a1:∀W,(Op.stringOp .add ⟨#[40]⟩ rr).run prog W=.ok (.string (⟨#[40]⟩++rr)) W:=fun W=>run_string_add_sum W _ _ (by show 1+rr.size<=_;omega);have a2:∀W,(Op.stringOp .add (⟨#[40]⟩++rr) ⟨#[41]⟩).run prog W=.ok (.string ((⟨#[40]⟩++rr)++⟨#[41]⟩)) W:=fun W=>run_string_add_sum W _ _ (by rw[z1];show _+1<=_;omega);have HE:Hid (bl ((⟨#[40]⟩++rr)++⟨#[41]⟩)=Zu (.node x y nd l r) must):=hid (by rw[HD.out,ZcV,ZcV,a7.out];rfl);clear z1;go_wp2;go_ret;exact⟨_,rfl,by rw[ZU HE.out];exact f1.out,HE,e2.out⟩
 ·have HD:Hid (Zu (.node x y nd l r) must=Zbv nd (Zu l) (Zu r)):=hid (by rw[b6.out,decide_eq_false (show ¬Zz nd<must by omega)];rfl);go_wp2;go_ret;exact⟨_,rfl,g9,by rw[HD.out];exact a7,e2.out⟩
theorem ZSU(f:wfT (.node x y nd l r))(v:wT (.node x y nd l r)<=100000)(J:isNil l=false->PrC b pv n xs l)(K:isNil r=false->PrC b pv n xs r)(G:nd.jx=6):PrC b pv n xs (.node x y nd l r):=by
 intro i must w j A b8;obtain⟨g,cp,p,a,c,rfl,c8,hi,q,Y,Z,L,M,c0,c1,c2,c3,c4,c5,c6,c7⟩:=Rep.at j.own A;have H:=j.cell;obtain⟨W,B⟩:∃W,W=w.alloc (.cells #[Vi p.k,Vi p.n,Vi p.op,.string p.nm,.slice p.ca p.cn p.cc,.slice p.ba p.bn p.bc,Vi p.a,Vi p.b] 80):=⟨_,rfl⟩
 have h:BW w W:=by rw[B];exact Zbal
 have c9:W.heap.size=w.heap.size+1:=by rw[B,Go.Deep.nblk_alloc]
 have HW:Hid (W=w.alloc (.cells #[Vi p.k,Vi p.n,Vi p.op,.string p.nm,.slice p.ca p.cn p.cc,.slice p.ba p.bn p.bc,Vi p.a,Vi p.b] 80)):=B;have I:Hid (PAt W w.heap.size p):=hid (by rw[B];exact Go.Deep.blk_alloc_new _ _);have a0:Hid (RowAt W b (.slice (some ⟨g,0,none⟩) n cp) n xs):=j.below h;have HL:Hid (Rep W xs l a):=Rep.below h l a L;have HR:Hid (Rep W xs r c):=Rep.below h r c M;have HC:Hid (ZJq W 0 p nd.jy):=q.2.2.2.2.1.below h;have HN:Hid (ZJU W 0 p nd.by_):=q.2.2.2.2.2.below h;have a3:Hid (BW w W):=h;have N:Hid (wfT (.node x y nd l r)):=f;have C:=Zfy (.node x y nd l r) must f;have u:Hid (p.k=nd.jx/\p.n=nd.n/\p.op=nd.op/\bl p.nm=nd.name/\p.a=a/\p.b=c):=⟨q.1,q.2.1,q.2.2.1,q.2.2.2.1,Y,Z⟩
 have b9:ownW nd+wT l+wT r<=100000:=v;have O:Hid (isNil l=false->PrC b (.slice (some ⟨g,0,none⟩) n cp) n xs l):=J;have P:Hid (isNil r=false->PrC b (.slice (some ⟨g,0,none⟩) n cp) n xs r):=K;have Q:Hid (Zu (.node x y nd l r) must=ZeK (decide (Zz nd<must)) (Zbv nd (Zu l) (Zu r))):=rfl
 have a4:Hid ((Zbv nd (Zu l) (Zu r)).length<=100000):=hid (by
  have:=Zow f.2.2.2.2.2.1 (pl:=Zu l) (pr:=Zu r) (x:=wT l) (y:=wT r) (fun m=>Zfy l m f.2.2.2.2.2.2.2.2.2.2.1) (fun m=>Zfy r m f.2.2.2.2.2.2.2.2.2.2.2);omega)
 have a5:Hid ((Zu (.node x y nd l r) must).length<=100000):=hid (Yah C v);have d0:nd.jx<=6:=f.1;clear q j A B h L M f J K Y Z C v;obtain⟨q0,q1,q2,q3,q4,q5,q6,q7⟩:=PAt.all I.out;go_enter func13,ntmps13
 go_upto_block 0 with fail
 rw[<-HW.out];clear c0 c1 c2 c3 c4 c5 c6 c7 H HW
 go_cut [8] from 9 to 107 (fun s8 wx=>∃rr:BA,s8=.string rr/\Hid (bl rr=Zbv nd (Zu l) (Zu r))/\Hid (BW W wx))
 case first=>
  have s:BW W W.drew:=(Yaf _ _).drew;have D:Hid (RowAt W.drew b (.slice (some ⟨g,0,none⟩) n cp) n xs):=a0.below s;have a6:Hid (Rep W.drew xs l a):=Rep.below s l a HL.out;have a7:Hid (Rep W.drew xs r c):=Rep.below s r c HR.out;clear s;have d1:p.k=6:=by rw[u.1,G];rfl
  have a8:Hid (Zbv nd (Zu l) (Zu r)=Zu l 1++[32,111,114,32]++Zu r 2):=hid (by unfold Zbv;rw[if_neg Om,if_neg Om,if_neg Om,if_neg Om,if_neg Om,if_pos G]);have R:isNil l=false:=N.2.2.2.2.2.2.1 Om;have S:isNil r=false:=N.2.2.2.2.2.2.2.1 (Or.inr G);have a9:Hid (PrC b (.slice (some ⟨g,0,none⟩) n cp) n xs l):=O.out R;have b0:Hid (PrC b (.slice (some ⟨g,0,none⟩) n cp) n xs r):=P.out S;rw[u.2.2.2.2.1]at q6;rw[u.2.2.2.2.2]at q7;clear G R S O P
  go_upto_region 15 with fail
  go_region_with (first
    | (go_at_call_of 13 (Value.int IntKind.i64 1)
       refine(a9.out a 1 W.drew D.out a6.out Dc).mono ?_;rintro e E ⟨r1,rfl,d2,b1,d⟩;have b2:Hid (PAt E w.heap.size p):=PAt.kept I.out (d.block _ (PAt.lt I.out));have U:Hid (RowAt E b (.slice (some ⟨g,0,none⟩) n cp) n xs):=D.below d;have b3:Hid (Rep E xs r c):=Rep.below d r c a7.out;have T:Hid (BW W E):=⟨d.os,d.tape,d.output,d.size,d.block⟩
       have k7:=(PAt.all b2.out).2.2.2.2.2.2.2;rw[u.2.2.2.2.2]at k7;have a1:∀W,(Op.stringOp .add r1 ⟨#[32,111,114,32]⟩).run prog W=.ok (.string (r1++⟨#[32,111,114,32]⟩)) W:=fun W=>run_string_add_sum W _ _ (by show r1.size+4<=_;omega);clear d)
    | (go_at_call_of 13 (Value.int IntKind.i64 2)
       refine(b0.out c 2 E U.out b3.out Dc).mono ?_;rintro e z ⟨r2,rfl,d3,b4,o⟩;have t:Hid (BW W z):=T.trans (o.mono T.size);have a2:∀W,(Op.stringOp .add (r1++⟨#[32,111,114,32]⟩) r2).run prog W=.ok (.string ((r1++⟨#[32,111,114,32]⟩)++r2)) W:=fun W=>run_string_add_sum W _ _ (by rw[Yaz];show r1.size+4+r2.size<=_;omega);clear o))
  all_goals
   go_wp2
   go_meet
   exact⟨_,rfl,hid (by rw[a8.out,ZcV,ZcV,b1.out,b4.out];rfl),t⟩
 case rest=>
 obtain⟨rr,rfl,F,V⟩:=hcut;have b5:=V.size;have b6:Hid (PAt wc w.heap.size p):=PAt.kept I.out (V.block _ Om);clear q0 q1 q2 q3 q4 q5 q6 q7;obtain⟨q0,q1,q2,q3,q4,q5,q6,q7⟩:=PAt.all b6.out
 go_wp2_with fail
 refine(ZR0 p nd u.1 u.2.2.1).mono ?_;rintro e z ⟨rfl,o⟩;have t:Hid (BW w z):=a3.trans ((V.trans (o.mono b5)).mono Om);have b7:rr.size<=100000:=by rw[ZU F.out];exact a4.out
 clear o;by_cases d4:(Zz nd:Int)<must
 ·have X:Hid (Zu (.node x y nd l r) must=[40]++Zbv nd (Zu l) (Zu r)++[41]):=hid (by rw[Q.out,decide_eq_true (show Zz nd<must by omega)];rfl);have z1:(⟨#[40]⟩++rr:BA).size=1+rr.size:=by rw[Yaz];rfl
  have a1:∀W,(Op.stringOp .add ⟨#[40]⟩ rr).run prog W=.ok (.string (⟨#[40]⟩++rr)) W:=fun W=>run_string_add_sum W _ _ (by show 1+rr.size<=_;omega);have a2:∀W,(Op.stringOp .add (⟨#[40]⟩++rr) ⟨#[41]⟩).run prog W=.ok (.string ((⟨#[40]⟩++rr)++⟨#[41]⟩)) W:=fun W=>run_string_add_sum W _ _ (by rw[z1];show _+1<=_;omega);have HE:Hid (bl ((⟨#[40]⟩++rr)++⟨#[41]⟩)=Zu (.node x y nd l r) must):=hid (by rw[X.out,ZcV,ZcV,F.out];rfl);clear z1;go_wp2;go_ret;exact⟨_,rfl,by rw[ZU HE.out];exact a5.out,HE,t.out⟩
 ·have X:Hid (Zu (.node x y nd l r) must=Zbv nd (Zu l) (Zu r)):=hid (by rw[Q.out,decide_eq_false (show ¬Zz nd<must by omega)];rfl);go_wp2;go_ret;exact⟨_,rfl,b7,by rw[X.out];exact F,t.out⟩
theorem ZR2{Q:Act->Prop}{o:Oper}{rest:List Oper}(b:o.guard=none)(h:∀w,C w->o.quietAt P a C w v)(c:wpQuiet P ops C Q rest (a.put o.dst v)):wpQuiet P ops C Q (o::rest) a:=by
 refine wpQuiet_step fun K d=>?_;rw[if_pos (by simp[Region.wanted,b])];exact⟨v,h,d _ c⟩
theorem ZR3{id:Nat}{l:List Oper}(b:P.follows .mixedOrders=true)(c:Region.lexB .any l.toArray=true)(d:C { w with drawn:=w.drawn+1 })
  (h:wpQuiet P l.toArray C (fun a'=>∀u,C u->Q .normal a' u) l a):(Code.region id l.toArray true).wp P Q a w:=
 wp_region_quiet (C:=C) b c d (by simpa using h)
theorem ZSQ(s:wfT (.node x y nd l r))(O:wT (.node x y nd l r)<=100000)(a0:isNil l=false->PrC b pv n xs l)(a5:isNil r=false->PrC b pv n xs r)(P:nd.jx=4):PrC b pv n xs (.node x y nd l r):=by
 intro i must w B Q e0;obtain⟨g,cp,p,a,c,rfl,e4,hi,I,ha,hc,a6,A,c0,c1,c2,c3,c4,c5,c6,c7⟩:=Rep.at B.own Q;have Z:=B.cell;obtain⟨W,R⟩:∃W,W=w.alloc (.cells #[Vi p.k,Vi p.n,Vi p.op,.string p.nm,.slice p.ca p.cn p.cc,.slice p.ba p.bn p.bc,Vi p.a,Vi p.b] 80):=⟨_,rfl⟩
 have t:BW w W:=by rw[R];exact Zbal
 have b7:W.heap.size=w.heap.size+1:=by rw[R,Go.Deep.nblk_alloc]
 have HW:Hid (W=w.alloc (.cells #[Vi p.k,Vi p.n,Vi p.op,.string p.nm,.slice p.ca p.cn p.cc,.slice p.ba p.bn p.bc,Vi p.a,Vi p.b] 80)):=R;have HP:Hid (PAt W w.heap.size p):=hid (by rw[R];exact Go.Deep.blk_alloc_new _ _);have S:Hid (RowAt W b (.slice (some ⟨g,0,none⟩) n cp) n xs):=B.below t;have HL:Hid (Rep W xs l a):=Rep.below t l a a6;have HR:Hid (Rep W xs r c):=Rep.below t r c A;have HC:Hid (ZJq W 0 p nd.jy):=I.2.2.2.2.1.below t;have HN:Hid (ZJU W 0 p nd.by_):=I.2.2.2.2.2.below t;have b8:Hid (BW w W):=t;have D:Hid (wfT (.node x y nd l r)):=s;have T:=Zfy (.node x y nd l r) must s;have E:Hid (p.k=nd.jx/\p.n=nd.n/\p.op=nd.op/\bl p.nm=nd.name/\p.a=a/\p.b=c):=⟨I.1,I.2.1,I.2.2.1,I.2.2.2.1,ha,hc⟩
 have e1:ownW nd+wT l+wT r<=100000:=O;have a7:Hid (isNil l=false->PrC b (.slice (some ⟨g,0,none⟩) n cp) n xs l):=a0;have a8:Hid (isNil r=false->PrC b (.slice (some ⟨g,0,none⟩) n cp) n xs r):=a5;have a9:Hid (Zu (.node x y nd l r) must=ZeK (decide (Zz nd<must)) (Zbv nd (Zu l) (Zu r))):=rfl
 have b9:Hid ((Zbv nd (Zu l) (Zu r)).length<=100000):=hid (by
  have:=Zow s.2.2.2.2.2.1 (pl:=Zu l) (pr:=Zu r) (x:=wT l) (y:=wT r) (fun m=>Zfy l m s.2.2.2.2.2.2.2.2.2.2.1) (fun m=>Zfy r m s.2.2.2.2.2.2.2.2.2.2.2);omega)
 have c8:Hid ((Zu (.node x y nd l r) must).length<=100000):=hid (Yah T O);have e5:nd.jx<=6:=s.1;clear I B Q R t a6 A s a0 a5 ha hc T O;obtain⟨q0,q1,q2,q3,q4,q5,q6,q7⟩:=PAt.all HP.out;go_enter func13,ntmps13
 go_upto_block 0 with fail
 rw[<-HW.out];clear c0 c1 c2 c3 c4 c5 c6 c7 Z HW
 go_cut [8] from 9 to 107 (fun s8 wx=>∃rr:BA,s8=.string rr/\Hid (bl rr=Zbv nd (Zu l) (Zu r))/\Hid (BW W wx))
 case first=>
  have J:BW W W.drew:=(Yaf _ _).drew;have e2:Hid (RowAt W.drew b (.slice (some ⟨g,0,none⟩) n cp) n xs):=S.below J;have e6:Hid (Rep W.drew xs l a):=Rep.below J l a HL.out;have e7:Hid (Rep W.drew xs r c):=Rep.below J r c HR.out;clear J;have c9:p.k=4:=by rw[E.1,P];rfl
  have e3:nd.op<=3:=D.2.2.1 P;have F:Hid (Zbv nd (Zu l) (Zu r)=Zu l (Zz nd)++[32]++opS nd.op++[32]++Zu r (Zz nd+1)):=hid (by unfold Zbv;rw[if_neg Om,if_neg Om,if_neg Om,if_neg Om,if_neg Om,if_neg Om]);have b0:isNil l=false:=D.2.2.2.2.2.2.1 Om;have b1:isNil r=false:=D.2.2.2.2.2.2.2.1 (Or.inl P);have d0:Hid (PrC b (.slice (some ⟨g,0,none⟩) n cp) n xs l):=a7.out b0;have d1:Hid (PrC b (.slice (some ⟨g,0,none⟩) n cp) n xs r):=a8.out b1;have d3:=ZS3 nd;have G:Hid (Zz nd=if nd.op<2 then 2 else 3):=hid (by unfold Zz;rw[if_neg Om,if_pos P]);clear P b0 b1 a7 a8
  go_wp2_with fail
  rw[<-c9];refine(ZR0 p nd E.1 E.2.2.1).mono ?_;rintro e o ⟨rfl,b2⟩;have K:Hid (BW W o):=b2;clear q0 q1 q2 q3 q4 q5 q6 q7 b2;have h4:nd.op=0∨nd.op=1∨nd.op=2∨nd.op=3:=by omega
  have d4:Hid (p.op=nd.op):=E.2.2.1;obtain⟨tt,b3⟩:∃tt,tt=Zz nd:=⟨_,rfl⟩
  rw[<-b3]at d3 F G ⊢;clear b3;obtain⟨r1,b4⟩:∃r1:BA,r1=⟨(Zu l tt).toArray⟩:=⟨_,rfl⟩
  obtain⟨r2,b5⟩:∃r2:BA,r2=⟨(Zu r (tt+1)).toArray⟩:=⟨_,rfl⟩
  have d:Hid (bl r1=Zu l tt/\r1.size<=100000):=hid (by
   have e:bl r1=Zu l tt:=by rw[b4,ZbF]
   have:=Zfy l tt D.2.2.2.2.2.2.2.2.2.2.1;exact⟨e,by rw[ZU e];omega⟩)
  have q:Hid (bl r2=Zu r (tt+1)/\r2.size<=100000):=hid (by
   have e:bl r2=Zu r (tt+1):=by rw[b5,ZbF]
   have:=Zfy r (tt+1) D.2.2.2.2.2.2.2.2.2.2.2;exact⟨e,by rw[ZU e];omega⟩)
  have L : Hid (∀ (ti : Int) u, ti = tt -> BW W u -> CP 13 #[Vp b, Vi a, Vi ti] u fun e H => e = .returned (.string r1) /\ BW W H) := hid (by
    rintro ti u rfl h;refine(d0.out a tt u (S.below h) (Rep.below h l a HL.out) Om).mono ?_;rintro e H ⟨rr,rfl,_,A,hb⟩;exact⟨by rw[ZcW (A.trans d.1.symm)],h.trans (hb.mono h.size)⟩)
  have M : Hid (∀ (ti : Int) u, ti = (tt + 1 : Nat) -> BW W u -> CP 13 #[Vp b, Vi c, Vi ti] u fun e H => e = .returned (.string r2) /\ BW W H) := hid (by
    rintro ti u rfl h;refine(d1.out c (tt+1) u (S.below h) (Rep.below h r c HR.out) Om).mono ?_;rintro e H ⟨rr,rfl,_,A,hb⟩;exact⟨by rw[ZcW (A.trans q.1.symm)],h.trans (hb.mono h.size)⟩)
  have N:Hid (∀u,BW W u->u.cell? ⟨w.heap.size,2,none⟩=some (Vi nd.op)/\u.cell? ⟨w.heap.size,6,none⟩=some (Vi a)/\u.cell? ⟨w.heap.size,7,none⟩=some (Vi c)):=hid (by
   intro u h;obtain⟨_,_,k2,_,_,_,k6,k7⟩:=PAt.all (PAt.kept HP.out (h.block _ (PAt.lt HP.out)));exact⟨by rw[k2,d4.out],by rw[k6,E.2.2.2.2.1],by rw[k7,E.2.2.2.2.2]⟩)
  clear b4 b5 b7
  go_upto_region 18 with fail
  generalize nd.op=oo at *
  rcases h4 with rfl|rfl|rfl|rfl
  ·obtain rfl:tt=2:=G.out;have U:IntKind.i64.wrap 1=1:=rfl;have V:IntKind.i64.wrap 3=3:=rfl;have X:(⟨#[43,45,42,47]⟩:BA).extract 0 1=⟨#[43]⟩:=by decide
   have v:Hid (opS 0=[43]):=rfl;have a1:∀W,(Op.stringOp .add r1 ⟨#[32]⟩).run prog W=.ok (.string (r1++⟨#[32]⟩)) W:=fun W=>run_string_add_sum W _ _ (by show r1.size+1<=_;have:=d.2;omega);have a2:∀W,(Op.stringOp .add (r1++⟨#[32]⟩) ⟨#[43]⟩).run prog W=.ok (.string ((r1++⟨#[32]⟩)++⟨#[43]⟩)) W:=fun W=>run_string_add_sum W _ _ (by rw[Yaz];show r1.size+1+1<=_;have:=d.2;omega);have a3:∀W,(Op.stringOp .add ((r1++⟨#[32]⟩)++⟨#[43]⟩) ⟨#[32]⟩).run prog W=.ok (.string (((r1++⟨#[32]⟩)++⟨#[43]⟩)++⟨#[32]⟩)) W:=fun W=>run_string_add_sum W _ _ (by rw[Yaz,Yaz];show r1.size+1+1+1<=_;have:=d.2;omega);have a4:∀W,(Op.stringOp .add (((r1++⟨#[32]⟩)++⟨#[43]⟩)++⟨#[32]⟩) r2).run prog W=.ok (.string ((((r1++⟨#[32]⟩)++⟨#[43]⟩)++⟨#[32]⟩)++r2)) W:=fun W=>run_string_add_sum W _ _ (by rw[Yaz,Yaz,Yaz];show r1.size+1+1+1+r2.size<=_;have:=d.2;have:=q.2;omega);refine ZR3 (C:=fun u=>BW W u) Kr Kr K.drew ?_
   repeat
    (apply ZR2 rfl
     ·intro u f;obtain⟨d2,d6,d7⟩:=N.out u f;go_simp
      first
       | (go_at_call_of 13 (Vi (a:Int));exact L.out _ u (by first|rfl|omega) f)
       | (go_at_call_of 13 (Vi (c:Int));exact M.out _ u (by first|rfl|omega) f)
       | rfl
     try go_simp)
   refine wpQuiet_nil ?_;intro u f;have j:Hid (BW W u):=f;clear f;go_wp2
   go_meet
   exact⟨_,rfl,hid (by rw[F.out,v.out,ZcV,ZcV,ZcV,ZcV,d.1,q.1];rfl),j⟩
  ·obtain rfl:tt=2:=G.out;have U:IntKind.i64.wrap 2=2:=rfl;have V:IntKind.i64.wrap 3=3:=rfl;have X:(⟨#[43,45,42,47]⟩:BA).extract 1 2=⟨#[45]⟩:=by decide
   have v:Hid (opS 1=[45]):=rfl;have a1:∀W,(Op.stringOp .add r1 ⟨#[32]⟩).run prog W=.ok (.string (r1++⟨#[32]⟩)) W:=fun W=>run_string_add_sum W _ _ (by show r1.size+1<=_;have:=d.2;omega);have a2:∀W,(Op.stringOp .add (r1++⟨#[32]⟩) ⟨#[45]⟩).run prog W=.ok (.string ((r1++⟨#[32]⟩)++⟨#[45]⟩)) W:=fun W=>run_string_add_sum W _ _ (by rw[Yaz];show r1.size+1+1<=_;have:=d.2;omega);have a3:∀W,(Op.stringOp .add ((r1++⟨#[32]⟩)++⟨#[45]⟩) ⟨#[32]⟩).run prog W=.ok (.string (((r1++⟨#[32]⟩)++⟨#[45]⟩)++⟨#[32]⟩)) W:=fun W=>run_string_add_sum W _ _ (by rw[Yaz,Yaz];show r1.size+1+1+1<=_;have:=d.2;omega);have a4:∀W,(Op.stringOp .add (((r1++⟨#[32]⟩)++⟨#[45]⟩)++⟨#[32]⟩) r2).run prog W=.ok (.string ((((r1++⟨#[32]⟩)++⟨#[45]⟩)++⟨#[32]⟩)++r2)) W:=fun W=>run_string_add_sum W _ _ (by rw[Yaz,Yaz,Yaz];show r1.size+1+1+1+r2.size<=_;have:=d.2;have:=q.2;omega);refine ZR3 (C:=fun u=>BW W u) Kr Kr K.drew ?_
   repeat
    (apply ZR2 rfl
     ·intro u f;obtain⟨d2,d6,d7⟩:=N.out u f;go_simp
      first
       | (go_at_call_of 13 (Vi (a:Int));exact L.out _ u (by first|rfl|omega) f)
       | (go_at_call_of 13 (Vi (c:Int));exact M.out _ u (by first|rfl|omega) f)
       | rfl
     try go_simp)
   refine wpQuiet_nil ?_;intro u f;have j:Hid (BW W u):=f;clear f;go_wp2
   go_meet
   exact⟨_,rfl,hid (by rw[F.out,v.out,ZcV,ZcV,ZcV,ZcV,d.1,q.1];rfl),j⟩
  ·obtain rfl:tt=3:=G.out;have U:IntKind.i64.wrap 3=3:=rfl;have V:IntKind.i64.wrap 4=4:=rfl;have X:(⟨#[43,45,42,47]⟩:BA).extract 2 3=⟨#[42]⟩:=by decide
   have v:Hid (opS 2=[42]):=rfl;have a1:∀W,(Op.stringOp .add r1 ⟨#[32]⟩).run prog W=.ok (.string (r1++⟨#[32]⟩)) W:=fun W=>run_string_add_sum W _ _ (by show r1.size+1<=_;have:=d.2;omega);have a2:∀W,(Op.stringOp .add (r1++⟨#[32]⟩) ⟨#[42]⟩).run prog W=.ok (.string ((r1++⟨#[32]⟩)++⟨#[42]⟩)) W:=fun W=>run_string_add_sum W _ _ (by rw[Yaz];show r1.size+1+1<=_;have:=d.2;omega);have a3:∀W,(Op.stringOp .add ((r1++⟨#[32]⟩)++⟨#[42]⟩) ⟨#[32]⟩).run prog W=.ok (.string (((r1++⟨#[32]⟩)++⟨#[42]⟩)++⟨#[32]⟩)) W:=fun W=>run_string_add_sum W _ _ (by rw[Yaz,Yaz];show r1.size+1+1+1<=_;have:=d.2;omega);have a4:∀W,(Op.stringOp .add (((r1++⟨#[32]⟩)++⟨#[42]⟩)++⟨#[32]⟩) r2).run prog W=.ok (.string ((((r1++⟨#[32]⟩)++⟨#[42]⟩)++⟨#[32]⟩)++r2)) W:=fun W=>run_string_add_sum W _ _ (by rw[Yaz,Yaz,Yaz];show r1.size+1+1+1+r2.size<=_;have:=d.2;have:=q.2;omega);refine ZR3 (C:=fun u=>BW W u) Kr Kr K.drew ?_
   repeat
    (apply ZR2 rfl
     ·intro u f;obtain⟨d2,d6,d7⟩:=N.out u f;go_simp
      first
       | (go_at_call_of 13 (Vi (a:Int));exact L.out _ u (by first|rfl|omega) f)
       | (go_at_call_of 13 (Vi (c:Int));exact M.out _ u (by first|rfl|omega) f)
       | rfl
     try go_simp)
   refine wpQuiet_nil ?_;intro u f;have j:Hid (BW W u):=f;clear f;go_wp2
   go_meet
   exact⟨_,rfl,hid (by rw[F.out,v.out,ZcV,ZcV,ZcV,ZcV,d.1,q.1];rfl),j⟩
  ·obtain rfl:tt=3:=G.out;have U:IntKind.i64.wrap 4=4:=rfl;have V:IntKind.i64.wrap 4=4:=rfl;have X:(⟨#[43,45,42,47]⟩:BA).extract 3 4=⟨#[47]⟩:=by decide
   have v:Hid (opS 3=[47]):=rfl;have a1:∀W,(Op.stringOp .add r1 ⟨#[32]⟩).run prog W=.ok (.string (r1++⟨#[32]⟩)) W:=fun W=>run_string_add_sum W _ _ (by show r1.size+1<=_;have:=d.2;omega);have a2:∀W,(Op.stringOp .add (r1++⟨#[32]⟩) ⟨#[47]⟩).run prog W=.ok (.string ((r1++⟨#[32]⟩)++⟨#[47]⟩)) W:=fun W=>run_string_add_sum W _ _ (by rw[Yaz];show r1.size+1+1<=_;have:=d.2;omega);have a3:∀W,(Op.stringOp .add ((r1++⟨#[32]⟩)++⟨#[47]⟩) ⟨#[32]⟩).run prog W=.ok (.string (((r1++⟨#[32]⟩)++⟨#[47]⟩)++⟨#[32]⟩)) W:=fun W=>run_string_add_sum W _ _ (by rw[Yaz,Yaz];show r1.size+1+1+1<=_;have:=d.2;omega);have a4:∀W,(Op.stringOp .add (((r1++⟨#[32]⟩)++⟨#[47]⟩)++⟨#[32]⟩) r2).run prog W=.ok (.string ((((r1++⟨#[32]⟩)++⟨#[47]⟩)++⟨#[32]⟩)++r2)) W:=fun W=>run_string_add_sum W _ _ (by rw[Yaz,Yaz,Yaz];show r1.size+1+1+1+r2.size<=_;have:=d.2;have:=q.2;omega);refine ZR3 (C:=fun u=>BW W u) Kr Kr K.drew ?_
   repeat
    (apply ZR2 rfl
     ·intro u f;obtain⟨d2,d6,d7⟩:=N.out u f;go_simp
      first
       | (go_at_call_of 13 (Vi (a:Int));exact L.out _ u (by first|rfl|omega) f)
       | (go_at_call_of 13 (Vi (c:Int));exact M.out _ u (by first|rfl|omega) f)
       | rfl
     try go_simp)
   refine wpQuiet_nil ?_;intro u f;have j:Hid (BW W u):=f;clear f;go_wp2
   go_meet
   exact⟨_,rfl,hid (by rw[F.out,v.out,ZcV,ZcV,ZcV,ZcV,d.1,q.1];rfl),j⟩
 case rest=>
 obtain⟨rr,rfl,Y,HB⟩:=hcut;have d5:=HB.size;have d8:Hid (PAt wc w.heap.size p):=PAt.kept HP.out (HB.block _ Om);clear q0 q1 q2 q3 q4 q5 q6 q7;obtain⟨q0,q1,q2,q3,q4,q5,q6,q7⟩:=PAt.all d8.out
 go_wp2_with fail
 refine(ZR0 p nd E.1 E.2.2.1).mono ?_;rintro e z ⟨rfl,b6⟩;have j:Hid (BW w z):=b8.trans ((HB.trans (b6.mono d5)).mono Om);have d9:rr.size<=100000:=by rw[ZU Y.out];exact b9.out
 clear b6;by_cases e8:(Zz nd:Int)<must
 ·have HD:Hid (Zu (.node x y nd l r) must=[40]++Zbv nd (Zu l) (Zu r)++[41]):=hid (by rw[a9.out,decide_eq_true (show Zz nd<must by omega)];rfl);have z1:(⟨#[40]⟩++rr:BA).size=1+rr.size:=by rw[Yaz];rfl
  have a1:∀W,(Op.stringOp .add ⟨#[40]⟩ rr).run prog W=.ok (.string (⟨#[40]⟩++rr)) W:=fun W=>run_string_add_sum W _ _ (by show 1+rr.size<=_;omega);have a2:∀W,(Op.stringOp .add (⟨#[40]⟩++rr) ⟨#[41]⟩).run prog W=.ok (.string ((⟨#[40]⟩++rr)++⟨#[41]⟩)) W:=fun W=>run_string_add_sum W _ _ (by rw[z1];show _+1<=_;omega);have HE:Hid (bl ((⟨#[40]⟩++rr)++⟨#[41]⟩)=Zu (.node x y nd l r) must):=hid (by rw[HD.out,ZcV,ZcV,Y.out];rfl);clear z1;go_wp2;go_ret;exact⟨_,rfl,by rw[ZU HE.out];exact c8.out,HE,j.out⟩
 ·have HD:Hid (Zu (.node x y nd l r) must=Zbv nd (Zu l) (Zu r)):=hid (by rw[a9.out,decide_eq_false (show ¬Zz nd<must by omega)];rfl);go_wp2;go_ret;exact⟨_,rfl,d9,by rw[HD.out];exact Y,j.out⟩
theorem ZR4 : ∀t:Tr,wfT t->wT t<=100000->isNil t=false->PrC b pv n xs t
 | .nil,_,_,h=>by cases h
 | .node x y nd l r, a, c, _ => by
   have f:ownW nd+wT l+wT r<=100000:=c;have d:isNil l=false->PrC b pv n xs l:=fun h=>ZR4 l a.2.2.2.2.2.2.2.2.2.2.1 Om h;have e:isNil r=false->PrC b pv n xs r:=fun h=>ZR4 r a.2.2.2.2.2.2.2.2.2.2.2 Om h;have g:nd.jx<=6:=a.1;rcases(by omega:nd.jx=0∨nd.jx=1∨nd.jx=2∨nd.jx=3∨nd.jx=4∨nd.jx=5∨nd.jx=6)with h|h|h|h|h|h|h
   · exact ZST a c d e h
   · exact ZSV a c d e h
   · exact ZSW a c d e h
   · exact ZSS a c d e h
   · exact ZSQ a c d e h
   · exact ZSR a c d e h
   · exact ZSU a c d e h
theorem ZS1(s:BA)(q:s.size<=9223372036854775807) :
  CP 6 #[.string s] w fun e u=>∃(r:BA) (c p:Nat),e=.returned (.tuple #[.string r,Vi c,Vi p])/\Hid (Zey (bl s)=(bl r,c,p))/\BW w u:=by
 have B:Hid (CP 12 #[.string s] w _):=ZN9 s w q;go_enter func6,ntmps6
 go_wp2_with fail
 refine B.mono ?_;rintro e y ⟨⟨v,c,p,rfl,a⟩,C⟩;have g:Hid (BW w y):=C;clear C B;cases f:ZD (bl s)with
 | error x=>
  obtain⟨rfl,rfl,G,rfl⟩:=a.1 x f;have A:Hid (Zey (bl s)=([],x.1,x.2)):=hid (by unfold Zey;rw[f]);have I:((x.1:Int) != 0)=true:=by rw[bne_iff_ne];omega
  clear a f;go_wp2
  go_ret3
  exact⟨_,_,_,rfl,A,g.out⟩
 | ok t=>
  obtain⟨rfl,rfl,b,rfl,H,pv,n,xs,d,E,h,k,i,l,_⟩:=a.2 t f;have A:Hid (Zey (bl s)=(Zu t 1,0,0)):=hid (by unfold Zey;rw[f]);obtain⟨av,cp,rfl⟩:=Zl d.own;have j:=d.cell;have m:Hid (CP 13 #[Vp b,Vi n,Vi 1] y _):=ZR4 t k l i n 1 y d h Dc;clear a f d h k i l
  go_wp2_with (go_at_call 14;refine(ZS2 j E).mono ?_;rintro e u ⟨rfl,rfl⟩)
  refine m.mono ?_;rintro e z ⟨r,rfl,_,F,o⟩;have D:Hid (BW w z):=g.trans (o.mono g.size);clear o m;go_wp2
  go_ret3
  exact⟨r,0,0,rfl,hid (by rw[A.out,F.out]),D.out⟩
