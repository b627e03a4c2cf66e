/- Parts. -/
import Derived.Test.YtpbemaaghbbocaaGreatDoorE21
set_option linter.all false
set_option maxRecDepth 100000
set_option maxHeartbeats 16000000
namespace Go.Proofs.YtpbemaaghbbocaaGreatDoor
open Go.RowKit LS Go.Proofs.Tryz
variable {tm:Int}{ss:List SZ}{xs:List Value}{b n x y:Nat}{nd:Nd}{l r:Tr}{pv v:Value}
def SayC(b:Nat)(pv:Value)(n:Nat)(xs:List Value)(ss:List SZ)(tm:Int)(t:Tr):Prop:=∀(i:Nat) (w:World) (sv:Value),RowAt w b pv n xs->Rep w xs t i->StoV w sv ss->
  CP 29 #[Vp b,Vi i,sv,Vi tm] w fun e w'=>∃v,e=.returned v/\Hid (ValV w' v (sayT (ZJQ ss) tm t))/\BW w w'
theorem ValV.shape{w:World}{V:VV}(h:ValV w v V):∃(bb:Bool) (nn:Int) (ea:Option Addr) (en ec:Nat),v=.agg #[.bool bb,Vi nn,.slice ea en ec]/\en=(Zcm V).length:=by
 cases V with
 | inl n=>
  obtain⟨⟨ea,ec,rfl,_⟩,_⟩:=h;exact⟨true,n,ea,0,ec,rfl,rfl⟩
 | inr l=>
  obtain⟨ea,ec,zs,rfl,_,a⟩:=h;exact⟨false,0,ea,zs.length,ec,rfl,by rw[<-Yak (f:=fun z:Value×El=>z.2),a];rfl⟩
theorem ZoH:∀l:List (LB×LB×Bool),l.length<=cw l
 | []=>Yac _
 | c::l=>by have:=ZoH l;simp only[cw,Yaj];omega
theorem ZXb(h:Dst (ZJQ ss)/\ss.length<=1000)(tm:Int)(t:Tr):VOk 1000 (sayT (ZJQ ss) tm t):=(Zj8 h.1 tm t).mono (by unfold ZJQ;rw[Yak];exact h.2)
theorem ZXh(u : -1000000<=tm)(z:tm<=1000000)(A:wfT (.node x y nd l r))(B:wT (.node x y nd l r)<=100000)(s:winT (.node x y nd l r))(J:Dst (ZJQ ss))(K:ss.length<=1000)(C:Zf (.node x y nd l r)≠0)(D:isNil l=false->Zf l≠0->SayC b pv n xs ss tm l)(E:isNil r=false->Zf r≠0->SayC b pv n xs ss tm r)(I:nd.jx=0):SayC b pv n xs ss tm (.node x y nd l r):=by
 intro i w sv e t h;have Z:Hid (-1000000<=tm/\tm<=1000000):=⟨u,z⟩
 clear u z;obtain⟨sa,sc,rfl⟩:=Zl h.own;obtain⟨g,cp,p,a,c,rfl,a0,hi,f,L,M,F,G,c0,c1,c2,c3,c4,c5,c6,c7⟩:=Rep.at e.own t;have m:=e.cell;have a1:b<w.heap.size:=Yai _ _ m;obtain⟨W,o⟩:∃W,W=(w.alloc (.cells #[.bool false,Vi 0,S0] 76)).alloc (.cells #[Vi p.k,Vi p.n,Vi p.op,.string p.nm,.slice p.ca p.cn p.cc,.slice p.ba p.bn p.bc,Vi p.a,Vi p.b] 131):=⟨_,rfl⟩
 have d:BW w W:=by rw[o];exact Zbal.alloc (by simp) _
 have a2:W.heap.size=w.heap.size+1+1:=by rw[o,Go.Deep.nblk_alloc,Go.Deep.nblk_alloc]
 have N:Hid (W=(w.alloc (.cells #[.bool false,Vi 0,S0] 76)).alloc (.cells #[Vi p.k,Vi p.n,Vi p.op,.string p.nm,.slice p.ca p.cn p.cc,.slice p.ba p.bn p.bc,Vi p.a,Vi p.b] 131)):=o
 have X:Hid (PAt W (w.heap.size+1) p):=hid (by
  have:=Go.Deep.blk_alloc_new (w.alloc (.cells #[.bool false,Vi 0,S0] 76)) (.cells #[Vi p.k,Vi p.n,Vi p.op,.string p.nm,.slice p.ca p.cn p.cc,.slice p.ba p.bn p.bc,Vi p.a,Vi p.b] 131);rw[Yf7]at this;rw[o];exact this)
 have j:Hid (BAt W w.heap.size [.bool false,Vi 0,S0] 76):=hid (by
  have:BAt (w.alloc (.cells #[.bool false,Vi 0,S0] 76)) w.heap.size [.bool false,Vi 0,S0] 76:=Go.Deep.blk_alloc_new w _;rw[o];exact this.alloc _)
 have a3:Hid (RowAt W b (.slice (some ⟨g,0,none⟩) n cp) n xs):=e.below d;have HL:Hid (Rep W xs l a):=Rep.below d l a F;have HR:Hid (Rep W xs r c):=Rep.below d r c G;have HC:Hid (ZJq W 0 p nd.jq):=f.2.2.2.2.1.below d;have HN:Hid (ZJU W 0 p nd.by_):=f.2.2.2.2.2.below d;have a4:Hid (StoV W (.slice sa ss.length sc) ss):=h.below d;have O:Hid (BW w W):=d;have H:Hid (wfT (.node x y nd l r)):=A;have a5:Hid (winT (.node x y nd l r)):=s;have a6:Hid (Dst (ZJQ ss)/\ss.length<=1000):=⟨J,K⟩
 have a7:Hid (Zf (.node x y nd l r)≠0):=C;have P:Hid (p.k=nd.jx/\p.n=nd.n/\p.op=nd.op/\bl p.nm=nd.name/\p.a=a/\p.b=c):=⟨f.1,f.2.1,f.2.2.1,f.2.2.2.1,L,M⟩
 have a8:Hid (ownW nd+wT l+wT r<=100000):=B;have a9:Hid (isNil l=false->Zf l≠0->SayC b (.slice (some ⟨g,0,none⟩) n cp) n xs ss tm l):=D;have b0:Hid (isNil r=false->Zf r≠0->SayC b (.slice (some ⟨g,0,none⟩) n cp) n xs ss tm r):=E;have Y:Hid (nd.jx=0):=I;have Q:Hid (p.k=0):=hid (by rw[f.1,I];rfl);clear f e t o d F G A s J K C D E L M B I h;obtain⟨q0,q1,q2,q3,q4,q5,q6,q7⟩:=PAt.all X.out;have v0:=j.cell 0;have v1:=j.cell 1;have v2:=j.cell 2;have f0:=j.frozen 0;have f1:=j.frozen 1;have f2:=j.frozen 2;simp only[Zget]at v0 v1 v2;rw[Q.out]at q0;go_enter func29,ntmps29
 go_upto_region 2 with fail
 rw[<-N.out];clear c0 c1 c2 c3 c4 c5 c6 c7 m N;have R:Hid (sayT (ZJQ ss) tm (.node x y nd l r)=.inl p.n):=hid (by rw[P.2.1];unfold sayT;rw[if_pos Y.out]);have S:Hid (vOk p.n):=hid (by have h1:=H.2.2.2.2.1;have h2:=H.2.2.2.2.2.1;rw[P.2.1];unfold vOk;omega);have q:=hid (ZOa (x0:=.bool true) (x1:=Vi p.n) (x2:=S0) j.out O.out (V:=sayT (ZJQ ss) tm (.node x y nd l r)) (by rw[R.out];exact⟨⟨none,0,rfl,⟨Ybc _ _ _ _,by simp,by simp⟩⟩,S.out⟩));go_wp2;change bodyPost _ _ _ _ _ (set3 W w.heap.size (.bool true) (Vi p.n) S0);have s0:=q.1.cell 0;have s1:=q.1.cell 1;have s2:=q.1.cell 2;simp only[Zget]at s0 s1 s2;have T:=hid q.2.1;have U:=hid q.2.2;clear q;generalize set3 W w.heap.size (.bool true) (Vi p.n) S0=WX at *
 exact bodyPost_ret (v:=.agg #[.bool true,Vi p.n,S0]) (by simp[results,results29,go_sem,s0,s1,s2]) rfl ⟨.agg #[.bool true,Vi p.n,S0],rfl,T,U.out⟩
theorem ZXj(E : -1000000<=tm)(F:tm<=1000000)(G:wfT (.node x y nd l r))(H:wT (.node x y nd l r)<=100000)(A:winT (.node x y nd l r))(T:Dst (ZJQ ss))(U:ss.length<=1000)(I:Zf (.node x y nd l r)≠0)(J:isNil l=false->Zf l≠0->SayC b pv n xs ss tm l)(K:isNil r=false->Zf r≠0->SayC b pv n xs ss tm r)(R:nd.jx=1):SayC b pv n xs ss tm (.node x y nd l r):=by
 intro i w sv h B o;have L:Hid (-1000000<=tm/\tm<=1000000):=⟨E,F⟩
 clear E F;obtain⟨sa,sc,rfl⟩:=Zl o.own;obtain⟨g,cp,p,a,c,rfl,a8,hi,j,X,Y,M,N,c0,c1,c2,c3,c4,c5,c6,c7⟩:=Rep.at h.own B;have s:=h.cell;have a9:b<w.heap.size:=Yai _ _ s;obtain⟨W,t⟩:∃W,W=(w.alloc (.cells #[.bool false,Vi 0,S0] 76)).alloc (.cells #[Vi p.k,Vi p.n,Vi p.op,.string p.nm,.slice p.ca p.cn p.cc,.slice p.ba p.bn p.bc,Vi p.a,Vi p.b] 131):=⟨_,rfl⟩
 have d:BW w W:=by rw[t];exact Zbal.alloc (by simp) _
 have b0:W.heap.size=w.heap.size+1+1:=by rw[t,Go.Deep.nblk_alloc,Go.Deep.nblk_alloc]
 have Z:Hid (W=(w.alloc (.cells #[.bool false,Vi 0,S0] 76)).alloc (.cells #[Vi p.k,Vi p.n,Vi p.op,.string p.nm,.slice p.ca p.cn p.cc,.slice p.ba p.bn p.bc,Vi p.a,Vi p.b] 131)):=t
 have HP:Hid (PAt W (w.heap.size+1) p):=hid (by
  have:=Go.Deep.blk_alloc_new (w.alloc (.cells #[.bool false,Vi 0,S0] 76)) (.cells #[Vi p.k,Vi p.n,Vi p.op,.string p.nm,.slice p.ca p.cn p.cc,.slice p.ba p.bn p.bc,Vi p.a,Vi p.b] 131);rw[Yf7]at this;rw[t];exact this)
 have q:Hid (BAt W w.heap.size [.bool false,Vi 0,S0] 76):=hid (by
  have:BAt (w.alloc (.cells #[.bool false,Vi 0,S0] 76)) w.heap.size [.bool false,Vi 0,S0] 76:=Go.Deep.blk_alloc_new w _;rw[t];exact this.alloc _)
 have b1:Hid (RowAt W b (.slice (some ⟨g,0,none⟩) n cp) n xs):=h.below d;have HL:Hid (Rep W xs l a):=Rep.below d l a M;have HR:Hid (Rep W xs r c):=Rep.below d r c N;have HC:Hid (ZJq W 0 p nd.jq):=j.2.2.2.2.1.below d;have HN:Hid (ZJU W 0 p nd.by_):=j.2.2.2.2.2.below d;have a0:Hid (StoV W (.slice sa ss.length sc) ss):=o.below d;have O:Hid (BW w W):=d;have b2:Hid (wfT (.node x y nd l r)):=G;have b3:Hid (winT (.node x y nd l r)):=A;have b4:Hid (Dst (ZJQ ss)/\ss.length<=1000):=⟨T,U⟩
 have b5:Hid (Zf (.node x y nd l r)≠0):=I;have HF:Hid (p.k=nd.jx/\p.n=nd.n/\p.op=nd.op/\bl p.nm=nd.name/\p.a=a/\p.b=c):=⟨j.1,j.2.1,j.2.2.1,j.2.2.2.1,X,Y⟩
 have a1:Hid (ownW nd+wT l+wT r<=100000):=H;have b6:Hid (isNil l=false->Zf l≠0->SayC b (.slice (some ⟨g,0,none⟩) n cp) n xs ss tm l):=J;have b7:Hid (isNil r=false->Zf r≠0->SayC b (.slice (some ⟨g,0,none⟩) n cp) n xs ss tm r):=K;have HK:Hid (nd.jx=1):=R;have P:Hid (p.k=1):=hid (by rw[j.1,R];rfl);clear j h B t d M N G A T U I J K X Y H R o;obtain⟨q0,q1,q2,q3,q4,q5,q6,q7⟩:=PAt.all HP.out;have v0:=q.cell 0;have v1:=q.cell 1;have v2:=q.cell 2;have f0:=q.frozen 0;have f1:=q.frozen 1;have f2:=q.frozen 2;simp only[Zget]at v0 v1 v2;rw[P.out]at q0;go_enter func29,ntmps29
 go_upto_region 2 with fail
 rw[<-Z.out];clear c0 c1 c2 c3 c4 c5 c6 c7 s Z
 have a2:Hid (sayT (ZJQ ss) tm (.node x y nd l r)=.inr (Zc4 (ZJQ ss) nd none 10 tm)):=hid (by
  unfold sayT;have h0:=HK.out;rw[if_neg Om,if_pos h0])
 have Q : Hid (∀ S, S = W -> CP 54 #[.slice sa ss.length sc, .agg #[Vi 1, Vi p.n, Vi p.op, .string p.nm, .slice p.ca p.cn p.cc, .slice p.ba p.bn p.bc, Vi p.a, Vi p.b], Vi (-1), Vi 10, Vi tm] S fun e u => ∃ (ea : Option Addr) (en ec : Nat), e = .returned (.agg #[.bool false, Vi 0, .slice ea en ec]) /\ Hid (ValV u (.agg #[.bool false, Vi 0, .slice ea en ec]) (.inr (Zc4 (ZJQ ss) nd none 10 tm))) /\ BW W u) := hid (by
   intro S a3;rw[a3];have a4:nd.jq.length<=100000:=by have h1:=a1.out;have h2:=ZoH nd.jq;unfold ownW at h1;omega
   have hh:=ZOc W (.slice sa ss.length sc) ss p nd HF.2.2.2.1 HC.out a4 (none) (-1) (Or.inl ⟨rfl,rfl⟩) (10) tm Om Om L.1 L.2 a0.out;rw[P.out]at hh;refine hh.mono ?_;rintro e D ⟨vv,zs,rfl,C,HM,_,m⟩;obtain⟨ea,ec,rfl⟩:=Zl C.own;refine⟨ea,zs.length,ec,rfl,hid (ValV.of_els C.out ?_),m⟩;exact HM.out)
 clear v0 v1 v2 f0 f1 f2
 go_wp2_with fail
 refine(Q.out _ rfl).mono ?_;rintro e D ⟨ea,en,ec,rfl,C,m⟩;have f:=hid (q.below m);have a5:Hid (BW w D):=O.trans (m.mono O.size);have v0:=f.cell 0;have v1:=f.cell 1;have v2:=f.cell 2;have f0:=f.frozen 0;have f1:=f.frozen 1;have f2:=f.frozen 2;simp only[Zget]at v0 v1 v2;have z:=hid (ZOa (V:=sayT (ZJQ ss) tm (.node x y nd l r)) f.out a5.out (by rw[a2.out];exact C.out));clear m C Q q0 q1 q2 q3 q4 q5 q6 q7;go_wp2;change bodyPost _ _ _ _ _ (set3 D w.heap.size (.bool false) (Vi 0) (.slice ea en ec));have s0:=z.1.cell 0;have s1:=z.1.cell 1;have s2:=z.1.cell 2;simp only[Zget]at s0 s1 s2;have a6:=hid z.2.1;have a7:=hid z.2.2;clear z;generalize set3 D w.heap.size (.bool false) (Vi 0) (.slice ea en ec)=WX at *
 exact bodyPost_ret (v:=.agg #[.bool false,Vi 0,.slice ea en ec]) (by simp[results,results29,go_sem,s0,s1,s2]) rfl ⟨.agg #[.bool false,Vi 0,.slice ea en ec],rfl,a6,a7.out⟩
theorem ZXk(F : -1000000<=tm)(G:tm<=1000000)(H:wfT (.node x y nd l r))(I:wT (.node x y nd l r)<=100000)(A:winT (.node x y nd l r))(X:Dst (ZJQ ss))(Y:ss.length<=1000)(J:Zf (.node x y nd l r)≠0)(K:isNil l=false->Zf l≠0->SayC b pv n xs ss tm l)(L:isNil r=false->Zf r≠0->SayC b pv n xs ss tm r)(T:nd.jx=2):SayC b pv n xs ss tm (.node x y nd l r):=by
 intro i w sv h B o;have M:Hid (-1000000<=tm/\tm<=1000000):=⟨F,G⟩
 clear F G;obtain⟨sa,sc,rfl⟩:=Zl o.own;obtain⟨g,cp,p,a,c,rfl,a9,hi,j,Z,hc,N,O,c0,c1,c2,c3,c4,c5,c6,c7⟩:=Rep.at h.own B;have s:=h.cell;have b0:b<w.heap.size:=Yai _ _ s;obtain⟨W,t⟩:∃W,W=(w.alloc (.cells #[.bool false,Vi 0,S0] 76)).alloc (.cells #[Vi p.k,Vi p.n,Vi p.op,.string p.nm,.slice p.ca p.cn p.cc,.slice p.ba p.bn p.bc,Vi p.a,Vi p.b] 131):=⟨_,rfl⟩
 have d:BW w W:=by rw[t];exact Zbal.alloc (by simp) _
 have b1:W.heap.size=w.heap.size+1+1:=by rw[t,Go.Deep.nblk_alloc,Go.Deep.nblk_alloc]
 have HW:Hid (W=(w.alloc (.cells #[.bool false,Vi 0,S0] 76)).alloc (.cells #[Vi p.k,Vi p.n,Vi p.op,.string p.nm,.slice p.ca p.cn p.cc,.slice p.ba p.bn p.bc,Vi p.a,Vi p.b] 131)):=t
 have HP:Hid (PAt W (w.heap.size+1) p):=hid (by
  have:=Go.Deep.blk_alloc_new (w.alloc (.cells #[.bool false,Vi 0,S0] 76)) (.cells #[Vi p.k,Vi p.n,Vi p.op,.string p.nm,.slice p.ca p.cn p.cc,.slice p.ba p.bn p.bc,Vi p.a,Vi p.b] 131);rw[Yf7]at this;rw[t];exact this)
 have q:Hid (BAt W w.heap.size [.bool false,Vi 0,S0] 76):=hid (by
  have:BAt (w.alloc (.cells #[.bool false,Vi 0,S0] 76)) w.heap.size [.bool false,Vi 0,S0] 76:=Go.Deep.blk_alloc_new w _;rw[t];exact this.alloc _)
 have b2:Hid (RowAt W b (.slice (some ⟨g,0,none⟩) n cp) n xs):=h.below d;have HL:Hid (Rep W xs l a):=Rep.below d l a N;have HR:Hid (Rep W xs r c):=Rep.below d r c O;have HC:Hid (ZJq W 0 p nd.jq):=j.2.2.2.2.1.below d;have HN:Hid (ZJU W 0 p nd.by_):=j.2.2.2.2.2.below d;have a0:Hid (StoV W (.slice sa ss.length sc) ss):=o.below d;have P:Hid (BW w W):=d;have Q:Hid (wfT (.node x y nd l r)):=H;have a1:Hid (winT (.node x y nd l r)):=A;have b3:Hid (Dst (ZJQ ss)/\ss.length<=1000):=⟨X,Y⟩
 have b4:Hid (Zf (.node x y nd l r)≠0):=J;have D:Hid (p.k=nd.jx/\p.n=nd.n/\p.op=nd.op/\bl p.nm=nd.name/\p.a=a/\p.b=c):=⟨j.1,j.2.1,j.2.2.1,j.2.2.2.1,Z,hc⟩
 have a2:Hid (ownW nd+wT l+wT r<=100000):=I;have b5:Hid (isNil l=false->Zf l≠0->SayC b (.slice (some ⟨g,0,none⟩) n cp) n xs ss tm l):=K;have b6:Hid (isNil r=false->Zf r≠0->SayC b (.slice (some ⟨g,0,none⟩) n cp) n xs ss tm r):=L;have HK:Hid (nd.jx=2):=T;have R:Hid (p.k=2):=hid (by rw[j.1,T];rfl);clear j h B t d N O H A X Y J K L Z hc I T o;obtain⟨q0,q1,q2,q3,q4,q5,q6,q7⟩:=PAt.all HP.out;have v0:=q.cell 0;have v1:=q.cell 1;have v2:=q.cell 2;have f0:=q.frozen 0;have f1:=q.frozen 1;have f2:=q.frozen 2;simp only[Zget]at v0 v1 v2;rw[R.out]at q0;go_enter func29,ntmps29
 go_upto_region 2 with fail
 rw[<-HW.out];clear c0 c1 c2 c3 c4 c5 c6 c7 s HW
 have a3:Hid (sayT (ZJQ ss) tm (.node x y nd l r)=.inr (Zc4 (ZJQ ss) nd (some nd.op) nd.n tm)):=hid (by
  unfold sayT;have h0:=HK.out;rw[if_neg Om,if_neg Om,if_pos h0])
 have S : Hid (∀ U, U = W -> CP 54 #[.slice sa ss.length sc, .agg #[Vi 2, Vi p.n, Vi p.op, .string p.nm, .slice p.ca p.cn p.cc, .slice p.ba p.bn p.bc, Vi p.a, Vi p.b], Vi (p.op), Vi p.n, Vi tm] U fun e u => ∃ (ea : Option Addr) (en ec : Nat), e = .returned (.agg #[.bool false, Vi 0, .slice ea en ec]) /\ Hid (ValV u (.agg #[.bool false, Vi 0, .slice ea en ec]) (.inr (Zc4 (ZJQ ss) nd (some nd.op) nd.n tm))) /\ BW W u) := hid (by
   intro U a4;rw[a4];have a5:nd.jq.length<=100000:=by have h1:=a2.out;have h2:=ZoH nd.jq;unfold ownW at h1;omega
   have hh:=ZOc W (.slice sa ss.length sc) ss p nd D.2.2.2.1 HC.out a5 ((some nd.op)) (p.op) (Or.inr ⟨nd.op,Q.2.1,rfl,D.2.2.1⟩) (nd.n) tm (Q.2.2.2.2.1) ((a1.1 HK.out).2) M.1 M.2 a0.out;rw[R.out,<-D.2.1]at hh;refine hh.mono ?_;rintro e E ⟨vv,zs,rfl,C,HM,_,m⟩;obtain⟨ea,ec,rfl⟩:=Zl C.own;refine⟨ea,zs.length,ec,rfl,hid (ValV.of_els C.out ?_),m⟩;rw[HM.out,D.2.1])
 clear v0 v1 v2 f0 f1 f2
 go_wp2_with fail
 refine(S.out _ rfl).mono ?_;rintro e E ⟨ea,en,ec,rfl,C,m⟩;have f:=hid (q.below m);have a6:Hid (BW w E):=P.trans (m.mono P.size);have v0:=f.cell 0;have v1:=f.cell 1;have v2:=f.cell 2;have f0:=f.frozen 0;have f1:=f.frozen 1;have f2:=f.frozen 2;simp only[Zget]at v0 v1 v2;have z:=hid (ZOa (V:=sayT (ZJQ ss) tm (.node x y nd l r)) f.out a6.out (by rw[a3.out];exact C.out));clear m C S q0 q1 q2 q3 q4 q5 q6 q7;go_wp2;change bodyPost _ _ _ _ _ (set3 E w.heap.size (.bool false) (Vi 0) (.slice ea en ec));have s0:=z.1.cell 0;have s1:=z.1.cell 1;have s2:=z.1.cell 2;simp only[Zget]at s0 s1 s2;have a7:=hid z.2.1;have a8:=hid z.2.2;clear z;generalize set3 E w.heap.size (.bool false) (Vi 0) (.slice ea en ec)=WX at *
 exact bodyPost_ret (v:=.agg #[.bool false,Vi 0,.slice ea en ec]) (by simp[results,results29,go_sem,s0,s1,s2]) rfl ⟨.agg #[.bool false,Vi 0,.slice ea en ec],rfl,a7,a8.out⟩
theorem ZXg(L : -1000000<=tm)(M:tm<=1000000)(N:wfT (.node x y nd l r))(O:wT (.node x y nd l r)<=100000)(C:winT (.node x y nd l r))(hD:Dst (ZJQ ss))(hN:ss.length<=1000)(P:Zf (.node x y nd l r)≠0)(Q:isNil l=false->Zf l≠0->SayC b pv n xs ss tm l)(R:isNil r=false->Zf r≠0->SayC b pv n xs ss tm r)(hk:nd.jx=3):SayC b pv n xs ss tm (.node x y nd l r):=by
 intro i w sv h D o;have d0:Hid (-1000000<=tm/\tm<=1000000):=⟨L,M⟩
 clear L M;obtain⟨sa,sc,rfl⟩:=Zl o.own;obtain⟨g,cp,p,a,c,rfl,d1,hi,j,ha,hc,S,T,c0,c1,c2,c3,c4,c5,c6,c7⟩:=Rep.at h.own D;have t:=h.cell;have d2:b<w.heap.size:=Yai _ _ t;obtain⟨W,z⟩:∃W,W=(w.alloc (.cells #[.bool false,Vi 0,S0] 76)).alloc (.cells #[Vi p.k,Vi p.n,Vi p.op,.string p.nm,.slice p.ca p.cn p.cc,.slice p.ba p.bn p.bc,Vi p.a,Vi p.b] 131):=⟨_,rfl⟩
 have d:BW w W:=by rw[z];exact Zbal.alloc (by simp) _
 have d3:W.heap.size=w.heap.size+1+1:=by rw[z,Go.Deep.nblk_alloc,Go.Deep.nblk_alloc]
 have HW:Hid (W=(w.alloc (.cells #[.bool false,Vi 0,S0] 76)).alloc (.cells #[Vi p.k,Vi p.n,Vi p.op,.string p.nm,.slice p.ca p.cn p.cc,.slice p.ba p.bn p.bc,Vi p.a,Vi p.b] 131)):=z
 have HP:Hid (PAt W (w.heap.size+1) p):=hid (by
  have:=Go.Deep.blk_alloc_new (w.alloc (.cells #[.bool false,Vi 0,S0] 76)) (.cells #[Vi p.k,Vi p.n,Vi p.op,.string p.nm,.slice p.ca p.cn p.cc,.slice p.ba p.bn p.bc,Vi p.a,Vi p.b] 131);rw[Yf7]at this;rw[z];exact this)
 have q:Hid (BAt W w.heap.size [.bool false,Vi 0,S0] 76):=hid (by
  have:BAt (w.alloc (.cells #[.bool false,Vi 0,S0] 76)) w.heap.size [.bool false,Vi 0,S0] 76:=Go.Deep.blk_alloc_new w _;rw[z];exact this.alloc _)
 have a8:Hid (RowAt W b (.slice (some ⟨g,0,none⟩) n cp) n xs):=h.below d;have HL:Hid (Rep W xs l a):=Rep.below d l a S;have HR:Hid (Rep W xs r c):=Rep.below d r c T;have HC:Hid (ZJq W 0 p nd.jq):=j.2.2.2.2.1.below d;have HN:Hid (ZJU W 0 p nd.by_):=j.2.2.2.2.2.below d;have a9:Hid (StoV W (.slice sa ss.length sc) ss):=o.below d;have U:Hid (BW w W):=d;have b0:Hid (wfT (.node x y nd l r)):=N;have d4:Hid (winT (.node x y nd l r)):=C;have b1:Hid (Dst (ZJQ ss)/\ss.length<=1000):=⟨hD,hN⟩
 have b2:Hid (Zf (.node x y nd l r)≠0):=P;have HF:Hid (p.k=nd.jx/\p.n=nd.n/\p.op=nd.op/\bl p.nm=nd.name/\p.a=a/\p.b=c):=⟨j.1,j.2.1,j.2.2.1,j.2.2.2.1,ha,hc⟩
 have d5:Hid (ownW nd+wT l+wT r<=100000):=O;have b4:Hid (isNil l=false->Zf l≠0->SayC b (.slice (some ⟨g,0,none⟩) n cp) n xs ss tm l):=Q;have d6:Hid (isNil r=false->Zf r≠0->SayC b (.slice (some ⟨g,0,none⟩) n cp) n xs ss tm r):=R;have HK:Hid (nd.jx=3):=hk;have X:Hid (p.k=3):=hid (by rw[j.1,hk];rfl);clear j h D z d S T N C hD hN P Q R ha hc O hk o;obtain⟨q0,q1,q2,q3,q4,q5,q6,q7⟩:=PAt.all HP.out;have v0:=q.cell 0;have v1:=q.cell 1;have v2:=q.cell 2;have f0:=q.frozen 0;have f1:=q.frozen 1;have f2:=q.frozen 2;simp only[Zget]at v0 v1 v2;rw[X.out]at q0;go_enter func29,ntmps29
 go_upto_region 2 with fail
 rw[<-HW.out];clear c0 c1 c2 c3 c4 c5 c6 c7 t HW
 have b5:Hid (sayT (ZJQ ss) tm (.node x y nd l r)=negV (sayT (ZJQ ss) tm l)):=hid (by
  have E:=HK.out;rw[sayT,if_neg Om,if_neg Om,if_neg Om,if_pos E])
 have b6:Hid (Zf l≠0):=hid (by
  have E:=b2.out;have h1:=HK.out;unfold Zf at E;intro hl;rw[hl]at E;simp[h1]at E)
 have Y:Hid (SayC b (.slice (some ⟨g,0,none⟩) n cp) n xs ss tm l):=hid (b4.out (b0.2.2.2.2.2.2.1 (by have:=HK.out;omega)) b6.out);rw[HF.2.2.2.2.1]at q6
 go_wp2_with fail
 refine(Y.out a W (.slice sa ss.length sc) a8.out HL.out a9.out).mono ?_;rintro e A ⟨va,rfl,F,u⟩;obtain⟨bb,nn,ea,en,ec,rfl,Z⟩:=F.shape;have d7:=hid Z;have a3:=hid (q.below u);have G:Hid (PAt A (w.heap.size+1) p):=PAt.kept HP.out (u.block _ (PAt.lt HP.out));have H:Hid (BW W A):=u;clear u Z q0 q1 q2 q3 q4 q5 q6 q7 v0 v1 v2 f0 f1 f2 Y
 go_upto_region 10 with fail
 refine ZP fun s I=>?_;have J:Hid (BAt s A.heap.size [.bool bb,Vi nn,.slice ea en ec] 76):=hid (by rw[I];exact Go.Deep.blk_alloc_new A _);have m:BW A s:=by rw[I];exact Zbal
 have b7:=hid (a3.below m);have b8:Hid (PAt s (w.heap.size+1) p):=PAt.kept G.out (m.block _ (PAt.lt G.out));have a7:=hid (F.below m);have b9:Hid (BW W s):=H.trans (m.mono H.size);have K:Hid (BW w s):=U.trans (b9.mono U.size);clear I m a3 G F H;obtain⟨q0,q1,q2,q3,q4,q5,q6,q7⟩:=PAt.all b8.out;rw[X.out]at q0;have a0:=J.cell 0;have a1:=J.cell 1;have a2:=J.cell 2;simp only[Zget]at a0 a1 a2
 go_wp2_with fail
 refine(ZN8 a7.out (ZXb b1.out tm l)).mono ?_;rintro e w3 ⟨v3,rfl,a4,a5⟩;obtain⟨b3,n3,e3,m3,c3,rfl,h9⟩:=a4.shape;clear h9;have a6:Hid (BW s w3):=a5;clear a5 q0 q1 q2 q3 q4 q5 q6 q7 a0 a1 a2;have f:=hid (b7.below a6.out);have v0:=f.cell 0;have v1:=f.cell 1;have v2:=f.cell 2;have f0:=f.frozen 0;have f1:=f.frozen 1;have f2:=f.frozen 2;simp only[Zget]at v0 v1 v2;have B:=hid (ZOa (V:=sayT (ZJQ ss) tm (.node x y nd l r)) f.out (K.trans (a6.mono K.size)) (by rw[b5.out];exact a4.out));go_wp2;change bodyPost _ _ _ _ _ (set3 w3 w.heap.size (.bool b3) (Vi n3) (.slice e3 m3 c3));have s0:=B.1.cell 0;have s1:=B.1.cell 1;have s2:=B.1.cell 2;simp only[Zget]at s0 s1 s2;have c8:=hid B.2.1;have c9:=hid B.2.2;clear B;generalize set3 w3 w.heap.size (.bool b3) (Vi n3) (.slice e3 m3 c3)=WX at *
 exact bodyPost_ret (v:=.agg #[.bool b3,Vi n3,.slice e3 m3 c3]) (by simp[results,results29,go_sem,s0,s1,s2]) rfl ⟨.agg #[.bool b3,Vi n3,.slice e3 m3 c3],rfl,c8,c9.out⟩
theorem ZXf(T : -1000000<=tm)(U:tm<=1000000)(X:wfT (.node x y nd l r))(Y:wT (.node x y nd l r)<=100000)(L:winT (.node x y nd l r))(hD:Dst (ZJQ ss))(hN:ss.length<=1000)(Z:Zf (.node x y nd l r)≠0)(a3:isNil l=false->Zf l≠0->SayC b pv n xs ss tm l)(a4:isNil r=false->Zf r≠0->SayC b pv n xs ss tm r)(hk:nd.jx=5):SayC b pv n xs ss tm (.node x y nd l r):=by
 intro i w sv h M z;have e7:Hid (-1000000<=tm/\tm<=1000000):=⟨T,U⟩
 clear T U;obtain⟨sa,sc,rfl⟩:=Zl z.own;obtain⟨g,cp,p,a,c,rfl,e8,hi,o,ha,hc,a5,a6,c0,c1,c2,c3,c4,c5,c6,c7⟩:=Rep.at h.own M;have B:=h.cell;have e9:b<w.heap.size:=Yai _ _ B;obtain⟨W,G⟩:∃W,W=(w.alloc (.cells #[.bool false,Vi 0,S0] 76)).alloc (.cells #[Vi p.k,Vi p.n,Vi p.op,.string p.nm,.slice p.ca p.cn p.cc,.slice p.ba p.bn p.bc,Vi p.a,Vi p.b] 131):=⟨_,rfl⟩
 have d:BW w W:=by rw[G];exact Zbal.alloc (by simp) _
 have f3:W.heap.size=w.heap.size+1+1:=by rw[G,Go.Deep.nblk_alloc,Go.Deep.nblk_alloc]
 have HW:Hid (W=(w.alloc (.cells #[.bool false,Vi 0,S0] 76)).alloc (.cells #[Vi p.k,Vi p.n,Vi p.op,.string p.nm,.slice p.ca p.cn p.cc,.slice p.ba p.bn p.bc,Vi p.a,Vi p.b] 131)):=G
 have HP:Hid (PAt W (w.heap.size+1) p):=hid (by
  have:=Go.Deep.blk_alloc_new (w.alloc (.cells #[.bool false,Vi 0,S0] 76)) (.cells #[Vi p.k,Vi p.n,Vi p.op,.string p.nm,.slice p.ca p.cn p.cc,.slice p.ba p.bn p.bc,Vi p.a,Vi p.b] 131);rw[Yf7]at this;rw[G];exact this)
 have A:Hid (BAt W w.heap.size [.bool false,Vi 0,S0] 76):=hid (by
  have:BAt (w.alloc (.cells #[.bool false,Vi 0,S0] 76)) w.heap.size [.bool false,Vi 0,S0] 76:=Go.Deep.blk_alloc_new w _;rw[G];exact this.alloc _)
 have d2:Hid (RowAt W b (.slice (some ⟨g,0,none⟩) n cp) n xs):=h.below d;have HL:Hid (Rep W xs l a):=Rep.below d l a a5;have HR:Hid (Rep W xs r c):=Rep.below d r c a6;have HC:Hid (ZJq W 0 p nd.jq):=o.2.2.2.2.1.below d;have HN:Hid (ZJU W 0 p nd.by_):=o.2.2.2.2.2.below d;have d3:Hid (StoV W (.slice sa ss.length sc) ss):=z.below d;have a7:Hid (BW w W):=d;have C:Hid (wfT (.node x y nd l r)):=X;have f4:Hid (winT (.node x y nd l r)):=L;have d4:Hid (Dst (ZJQ ss)/\ss.length<=1000):=⟨hD,hN⟩
 have a8:Hid (Zf (.node x y nd l r)≠0):=Z;have HF:Hid (p.k=nd.jx/\p.n=nd.n/\p.op=nd.op/\bl p.nm=nd.name/\p.a=a/\p.b=c):=⟨o.1,o.2.1,o.2.2.1,o.2.2.2.1,ha,hc⟩
 have d5:Hid (ownW nd+wT l+wT r<=100000):=Y;have d6:Hid (isNil l=false->Zf l≠0->SayC b (.slice (some ⟨g,0,none⟩) n cp) n xs ss tm l):=a3;have f5:Hid (isNil r=false->Zf r≠0->SayC b (.slice (some ⟨g,0,none⟩) n cp) n xs ss tm r):=a4;have H:Hid (nd.jx=5):=hk;have a9:Hid (p.k=5):=hid (by rw[o.1,hk];rfl);clear o h M G d a5 a6 X L hD hN Z a3 a4 ha hc Y hk z;obtain⟨q0,q1,q2,q3,q4,q5,q6,q7⟩:=PAt.all HP.out;have v0:=A.cell 0;have v1:=A.cell 1;have v2:=A.cell 2;have f0:=A.frozen 0;have f1:=A.frozen 1;have f2:=A.frozen 2;simp only[Zget]at v0 v1 v2;rw[a9.out]at q0;go_enter func29,ntmps29
 go_upto_region 2 with fail
 rw[<-HW.out];clear c0 c1 c2 c3 c4 c5 c6 c7 B HW
 have d7:Hid (sayT (ZJQ ss) tm (.node x y nd l r)=.inr (Zcv nd.op nd.by_ (Zcm (sayT (ZJQ ss) tm l)))):=hid (by
  have q:=H.out;rw[sayT,if_neg Om,if_neg Om,if_neg Om,if_neg Om,if_pos q])
 have b0:Hid (Zf l≠0):=hid (by
  have q:=a8.out;have I:=H.out;unfold Zf at q;intro hl;rw[hl]at q;simp[I]at q)
 have b1:Hid (SayC b (.slice (some ⟨g,0,none⟩) n cp) n xs ss tm l):=hid (d6.out (C.2.2.2.2.2.2.1 (by have:=H.out;omega)) b0.out);rw[HF.2.2.2.2.1]at q6
 go_wp2_with fail
 refine(b1.out a W (.slice sa ss.length sc) d2.out HL.out d3.out).mono ?_;rintro e J ⟨va,rfl,N,D⟩;obtain⟨bb,nn,ea,en,ec,rfl,b2⟩:=N.shape;have f6:=hid b2;have b4:=hid (A.below D);have O:Hid (PAt J (w.heap.size+1) p):=PAt.kept HP.out (D.block _ (PAt.lt HP.out));have P:Hid (BW W J):=D;clear D b2 q0 q1 q2 q3 q4 q5 q6 q7 v0 v1 v2 f0 f1 f2 b1
 go_upto_region 10 with fail
 refine ZP fun j Q=>?_;have R:Hid (BAt j J.heap.size [.bool bb,Vi nn,.slice ea en ec] 76):=hid (by rw[Q];exact Go.Deep.blk_alloc_new J _);have s:BW J j:=by rw[Q];exact Zbal
 have d8:=hid (b4.below s);have d9:Hid (PAt j (w.heap.size+1) p):=PAt.kept O.out (s.block _ (PAt.lt O.out));have d1:=hid (N.below s);have b5:Hid (BW W j):=P.trans (s.mono P.size);have S:Hid (BW w j):=a7.trans (b5.mono a7.size);clear Q s b4 O N P;obtain⟨q0,q1,q2,q3,q4,q5,q6,q7⟩:=PAt.all d9.out;rw[a9.out]at q0;have a0:=R.cell 0;have a1:=R.cell 1;have a2:=R.cell 2;simp only[Zget]at a0 a1 a2
 have b6:Hid (∃lv,sayT (ZJQ ss) tm l=.inr lv):=hid (by
  have e0:Zf l=2:=by
   have q:=a8.out;have I:=H.out;unfold Zf at q;refine Yb6 fun hn=>?_;simp[I,hn]at q
  have h3:=Zj7 (ZJQ ss) tm l C.2.2.2.2.2.2.2.2.2.2.1 (C.2.2.2.2.2.2.1 (by have:=H.out;omega)) b0.out;rw[e0]at h3;cases hs:sayT (ZJQ ss) tm l with
  | inl m=>rw[hs]at h3;cases h3
  | inr lv=>exact⟨lv,rfl⟩)
 obtain⟨lv,E⟩:=b6.out;obtain⟨bs,b7,b8,F⟩:=HN.zero
 have b9 : Hid (∀ W', W' = j -> CP 56 #[Vi p.op, .slice p.ba p.bn p.bc, .agg #[.bool bb, Vi nn, .slice ea en ec]] W' fun e u => ∃ (b3 : Bool) (n3 : Int) (e3 : Option Addr) (m3 c3 : Nat), e = .returned (.agg #[.bool b3, Vi n3, .slice e3 m3 c3]) /\ Hid (ValV u (.agg #[.bool b3, Vi n3, .slice e3 m3 c3]) (.inr (Zcv nd.op nd.by_ (Zcm (sayT (ZJQ ss) tm l))))) /\ Hid (BW j u)) := hid (by
   intro W' e1;rw[e1,HF.2.2.1,b7,E];have e2:bs.length<=100000:=by have I:=d5.out;have h2:=Zmw nd.by_;rw[<-F,Yak]at h2;unfold ownW at I;rw[<-F]at I;omega
   have c8:=d1.out;rw[E]at c8;have c9:=ZXb d4.out tm l;rw[E]at c9;refine(ZN7 nd.op (C.2.2.2.1 H.out) (.slice p.ba bs.length p.bc) bs lv j ⟨Zn b8 b5.out,e2⟩ c8 c9.2).mono ?_;rintro e w3 ⟨v3,rfl,t,e4⟩;obtain⟨b3,n3,e3,m3,c3,rfl,_⟩:=t.shape;rw[F]at t;exact⟨b3,n3,e3,m3,c3,rfl,t,e4⟩)
 clear E b7 b8 F b6
 go_wp2_with fail
 refine(b9.out _ rfl).mono ?_;rintro e w3 ⟨b3,n3,e3,m3,c3,rfl,t,d0⟩;clear q0 q1 q2 q3 q4 q5 q6 q7 a0 a1 a2 b9;have f:=hid (d8.below d0.out);have v0:=f.cell 0;have v1:=f.cell 1;have v2:=f.cell 2;have f0:=f.frozen 0;have f1:=f.frozen 1;have f2:=f.frozen 2;simp only[Zget]at v0 v1 v2;have K:=hid (ZOa (V:=sayT (ZJQ ss) tm (.node x y nd l r)) f.out (S.trans (d0.mono S.size)) (by rw[d7.out];exact t.out));go_wp2;change bodyPost _ _ _ _ _ (set3 w3 w.heap.size (.bool b3) (Vi n3) (.slice e3 m3 c3));have s0:=K.1.cell 0;have s1:=K.1.cell 1;have s2:=K.1.cell 2;simp only[Zget]at s0 s1 s2;have e5:=hid K.2.1;have e6:=hid K.2.2;clear K;generalize set3 w3 w.heap.size (.bool b3) (Vi n3) (.slice e3 m3 c3)=WX at *
 exact bodyPost_ret (v:=.agg #[.bool b3,Vi n3,.slice e3 m3 c3]) (by simp[results,results29,go_sem,s0,s1,s2]) rfl ⟨.agg #[.bool b3,Vi n3,.slice e3 m3 c3],rfl,e5,e6.out⟩
theorem ZXi(U : -1000000<=tm)(X:tm<=1000000)(Y:wfT (.node x y nd l r))(Z:wT (.node x y nd l r)<=100000)(I:winT (.node x y nd l r))(hD:Dst (ZJQ ss))(hN:ss.length<=1000)(a3:Zf (.node x y nd l r)≠0)(a4:isNil l=false->Zf l≠0->SayC b pv n xs ss tm l)(a5:isNil r=false->Zf r≠0->SayC b pv n xs ss tm r)(hk:nd.jx=6):SayC b pv n xs ss tm (.node x y nd l r):=by
 intro i w sv o J A;have e0:Hid (-1000000<=tm/\tm<=1000000):=⟨U,X⟩
 clear U X;obtain⟨sa,sc,rfl⟩:=Zl A.own;obtain⟨g,cp,p,a,c,rfl,e1,hi,t,ha,hc,a6,a7,c0,c1,c2,c3,c4,c5,c6,c7⟩:=Rep.at o.own J;have C:=o.cell;have e2:b<w.heap.size:=Yai _ _ C;obtain⟨W,G⟩:∃W,W=(w.alloc (.cells #[.bool false,Vi 0,S0] 76)).alloc (.cells #[Vi p.k,Vi p.n,Vi p.op,.string p.nm,.slice p.ca p.cn p.cc,.slice p.ba p.bn p.bc,Vi p.a,Vi p.b] 131):=⟨_,rfl⟩
 have m:BW w W:=by rw[G];exact Zbal.alloc (by simp) _
 have e4:W.heap.size=w.heap.size+1+1:=by rw[G,Go.Deep.nblk_alloc,Go.Deep.nblk_alloc]
 have HW:Hid (W=(w.alloc (.cells #[.bool false,Vi 0,S0] 76)).alloc (.cells #[Vi p.k,Vi p.n,Vi p.op,.string p.nm,.slice p.ca p.cn p.cc,.slice p.ba p.bn p.bc,Vi p.a,Vi p.b] 131)):=G
 have HP:Hid (PAt W (w.heap.size+1) p):=hid (by
  have:=Go.Deep.blk_alloc_new (w.alloc (.cells #[.bool false,Vi 0,S0] 76)) (.cells #[Vi p.k,Vi p.n,Vi p.op,.string p.nm,.slice p.ca p.cn p.cc,.slice p.ba p.bn p.bc,Vi p.a,Vi p.b] 131);rw[Yf7]at this;rw[G];exact this)
 have B:Hid (BAt W w.heap.size [.bool false,Vi 0,S0] 76):=hid (by
  have:BAt (w.alloc (.cells #[.bool false,Vi 0,S0] 76)) w.heap.size [.bool false,Vi 0,S0] 76:=Go.Deep.blk_alloc_new w _;rw[G];exact this.alloc _)
 have a8:Hid (RowAt W b (.slice (some ⟨g,0,none⟩) n cp) n xs):=o.below m;have HL:Hid (Rep W xs l a):=Rep.below m l a a6;have HR:Hid (Rep W xs r c):=Rep.below m r c a7;have HC:Hid (ZJq W 0 p nd.jq):=t.2.2.2.2.1.below m;have HN:Hid (ZJU W 0 p nd.by_):=t.2.2.2.2.2.below m;have a9:Hid (StoV W (.slice sa ss.length sc) ss):=A.below m;have b0:Hid (BW w W):=m;have b1:Hid (wfT (.node x y nd l r)):=Y;have e5:Hid (winT (.node x y nd l r)):=I;have d2:Hid (Dst (ZJQ ss)/\ss.length<=1000):=⟨hD,hN⟩
 have b2:Hid (Zf (.node x y nd l r)≠0):=a3;have HF:Hid (p.k=nd.jx/\p.n=nd.n/\p.op=nd.op/\bl p.nm=nd.name/\p.a=a/\p.b=c):=⟨t.1,t.2.1,t.2.2.1,t.2.2.2.1,ha,hc⟩
 have e6:Hid (ownW nd+wT l+wT r<=100000):=Z;have d3:Hid (isNil l=false->Zf l≠0->SayC b (.slice (some ⟨g,0,none⟩) n cp) n xs ss tm l):=a4;have d4:Hid (isNil r=false->Zf r≠0->SayC b (.slice (some ⟨g,0,none⟩) n cp) n xs ss tm r):=a5;have K:Hid (nd.jx=6):=hk;have b4:Hid (p.k=6):=hid (by rw[t.1,hk];rfl);clear t o J G m a6 a7 Y I hD hN a3 a4 a5 ha hc Z hk A;obtain⟨q0,q1,q2,q3,q4,q5,q6,q7⟩:=PAt.all HP.out;have v0:=B.cell 0;have v1:=B.cell 1;have v2:=B.cell 2;have f0:=B.frozen 0;have f1:=B.frozen 1;have f2:=B.frozen 2;simp only[Zget]at v0 v1 v2;rw[b4.out]at q0;go_enter func29,ntmps29
 go_upto_region 2 with fail
 rw[<-HW.out];clear c0 c1 c2 c3 c4 c5 c6 c7 C HW
 have D:Hid (sayT (ZJQ ss) tm (.node x y nd l r)=(if (Zcm (sayT (ZJQ ss) tm l)).isEmpty then sayT (ZJQ ss) tm r else sayT (ZJQ ss) tm l)):=hid (by
  have q:=K.out;rw[sayT,if_neg Om,if_neg Om,if_neg Om,if_neg Om,if_neg Om,if_pos q])
 have d5:Hid (Zf l≠0):=hid (by
  have q:=b2.out;have h1:=K.out;unfold Zf at q;intro hl;rw[hl]at q;simp[h1]at q)
 have b5:Hid (SayC b (.slice (some ⟨g,0,none⟩) n cp) n xs ss tm l):=hid (d3.out (b1.2.2.2.2.2.2.1 (by have:=K.out;omega)) d5.out);rw[HF.2.2.2.2.1]at q6
 go_wp2_with fail
 refine(b5.out a W (.slice sa ss.length sc) a8.out HL.out a9.out).mono ?_;rintro e H ⟨va,rfl,L,E⟩;obtain⟨bb,nn,ea,en,ec,rfl,b6⟩:=L.shape;have M:=hid b6;have b7:=hid (B.below E);have N:Hid (PAt H (w.heap.size+1) p):=PAt.kept HP.out (E.block _ (PAt.lt HP.out));have O:Hid (BW W H):=E;clear E b6 q0 q1 q2 q3 q4 q5 q6 q7 v0 v1 v2 f0 f1 f2 b5
 go_upto_region 10 with fail
 refine ZP fun f P=>?_;have Q:Hid (BAt f H.heap.size [.bool bb,Vi nn,.slice ea en ec] 76):=hid (by rw[P];exact Go.Deep.blk_alloc_new H _);have u:BW H f:=by rw[P];exact Zbal
 have b8:=hid (b7.below u);have d6:Hid (PAt f (w.heap.size+1) p):=PAt.kept N.out (u.block _ (PAt.lt N.out));have d0:=hid (L.below u);have F:Hid (BW W f):=O.trans (u.mono O.size);have s:Hid (BW w f):=b0.trans (F.mono b0.size);clear P u b7 N L O;obtain⟨q0,q1,q2,q3,q4,q5,q6,q7⟩:=PAt.all d6.out;rw[b4.out]at q0;have a0:=Q.cell 0;have a1:=Q.cell 1;have a2:=Q.cell 2;simp only[Zget]at a0 a1 a2;have d1:Hid (en<=1000):=hid (by rw[M.out];exact ZoS (ZXb d2.out tm l));have d9:=d1.out;by_cases b9:0<en
 ·have R:Hid ((Zcm (sayT (ZJQ ss) tm l)).isEmpty=false):=hid (by
   rw[Ygn];intro h;rw[M.out,h]at b9;exact absurd b9 (Nat.lt_irrefl _))
  rw[R.out,if_neg Dc]at D;have z:Hid (BW f f):=hid (Yaf _ _);have d:=hid (b8.below z.out);have v0:=d.cell 0;have v1:=d.cell 1;have v2:=d.cell 2;have f0:=d.frozen 0;have f1:=d.frozen 1;have f2:=d.frozen 2;simp only[Zget]at v0 v1 v2;have j:=hid (ZOa (V:=sayT (ZJQ ss) tm (.node x y nd l r)) d.out (s.trans (z.mono s.size)) (by rw[D.out];exact d0.out));clear q1 q2 q3 q4 q5 q6 q7;go_wp2;change bodyPost _ _ _ _ _ (set3 f w.heap.size (.bool bb) (Vi nn) (.slice ea en ec));have s0:=j.1.cell 0;have s1:=j.1.cell 1;have s2:=j.1.cell 2;simp only[Zget]at s0 s1 s2;have S:=hid j.2.1;have T:=hid j.2.2;clear j;generalize set3 f w.heap.size (.bool bb) (Vi nn) (.slice ea en ec)=WX at *
  exact bodyPost_ret (v:=.agg #[.bool bb,Vi nn,.slice ea en ec]) (by simp[results,results29,go_sem,s0,s1,s2]) rfl ⟨.agg #[.bool bb,Vi nn,.slice ea en ec],rfl,S,T.out⟩
 ·obtain rfl:en=0:=by omega
  have R:Hid ((Zcm (sayT (ZJQ ss) tm l)).isEmpty=true):=hid (by rw[Ydl];exact Ya3 M.symm);rw[R.out,if_pos rfl]at D
  have d7:Hid (Zf r≠0):=hid (by
   have q:=b2.out;have h1:=K.out;unfold Zf at q;intro hr;rw[hr]at q;simp[h1]at q)
  have d8:Hid (SayC b (.slice (some ⟨g,0,none⟩) n cp) n xs ss tm r):=hid (d4.out (b1.2.2.2.2.2.2.2.1 (Or.inr K.out)) d7.out);rw[HF.2.2.2.2.2]at q7
  go_wp2_with fail
  refine(d8.out c f (.slice sa ss.length sc) (a8.below F.out) (Rep.below F.out r c HR.out) (a9.below F.out)).mono ?_;rintro e w3 ⟨v3,rfl,c8,c9⟩;obtain⟨b3,n3,e3,m3,c3,rfl,h9⟩:=c8.shape;clear h9;have z:Hid (BW f w3):=c9;clear c9 q0 q1 q2 q3 q4 q5 q6 q7 a0 a1 a2;have d:=hid (b8.below z.out);have v0:=d.cell 0;have v1:=d.cell 1;have v2:=d.cell 2;have f0:=d.frozen 0;have f1:=d.frozen 1;have f2:=d.frozen 2;simp only[Zget]at v0 v1 v2;have j:=hid (ZOa (V:=sayT (ZJQ ss) tm (.node x y nd l r)) d.out (s.trans (z.mono s.size)) (by rw[D.out];exact c8.out));go_wp2;change bodyPost _ _ _ _ _ (set3 w3 w.heap.size (.bool b3) (Vi n3) (.slice e3 m3 c3));have s0:=j.1.cell 0;have s1:=j.1.cell 1;have s2:=j.1.cell 2;simp only[Zget]at s0 s1 s2;have S:=hid j.2.1;have T:=hid j.2.2;clear j;generalize set3 w3 w.heap.size (.bool b3) (Vi n3) (.slice e3 m3 c3)=WX at *
  exact bodyPost_ret (v:=.agg #[.bool b3,Vi n3,.slice e3 m3 c3]) (by simp[results,results29,go_sem,s0,s1,s2]) rfl ⟨.agg #[.bool b3,Vi n3,.slice e3 m3 c3],rfl,S,T.out⟩
theorem ZXe(b1 : -1000000<=tm)(b2:tm<=1000000)(b5:wfT (.node x y nd l r))(b6:wT (.node x y nd l r)<=100000)(O:winT (.node x y nd l r))(hD:Dst (ZJQ ss))(hN:ss.length<=1000)(b7:Zf (.node x y nd l r)≠0)(b8:isNil l=false->Zf l≠0->SayC b pv n xs ss tm l)(b9:isNil r=false->Zf r≠0->SayC b pv n xs ss tm r)(hk:nd.jx=4):SayC b pv n xs ss tm (.node x y nd l r):=by
 intro i w sv z P E;have g0:Hid (-1000000<=tm/\tm<=1000000):=⟨b1,b2⟩
 clear b1 b2;obtain⟨sa,sc,rfl⟩:=Zl E.own;obtain⟨g,cp,p,a,c,rfl,g1,hi,A,ha,hc,c8,c9,c0,c1,c2,c3,c4,c5,c6,c7⟩:=Rep.at z.own P;have G:=z.cell;have g2:b<w.heap.size:=Yai _ _ G;obtain⟨W,J⟩:∃W,W=(w.alloc (.cells #[.bool false,Vi 0,S0] 76)).alloc (.cells #[Vi p.k,Vi p.n,Vi p.op,.string p.nm,.slice p.ca p.cn p.cc,.slice p.ba p.bn p.bc,Vi p.a,Vi p.b] 131):=⟨_,rfl⟩
 have m:BW w W:=by rw[J];exact Zbal.alloc (by simp) _
 have g3:W.heap.size=w.heap.size+1+1:=by rw[J,Go.Deep.nblk_alloc,Go.Deep.nblk_alloc]
 have HW:Hid (W=(w.alloc (.cells #[.bool false,Vi 0,S0] 76)).alloc (.cells #[Vi p.k,Vi p.n,Vi p.op,.string p.nm,.slice p.ca p.cn p.cc,.slice p.ba p.bn p.bc,Vi p.a,Vi p.b] 131)):=J
 have HP:Hid (PAt W (w.heap.size+1) p):=hid (by
  have:=Go.Deep.blk_alloc_new (w.alloc (.cells #[.bool false,Vi 0,S0] 76)) (.cells #[Vi p.k,Vi p.n,Vi p.op,.string p.nm,.slice p.ca p.cn p.cc,.slice p.ba p.bn p.bc,Vi p.a,Vi p.b] 131);rw[Yf7]at this;rw[J];exact this)
 have F:Hid (BAt W w.heap.size [.bool false,Vi 0,S0] 76):=hid (by
  have:BAt (w.alloc (.cells #[.bool false,Vi 0,S0] 76)) w.heap.size [.bool false,Vi 0,S0] 76:=Go.Deep.blk_alloc_new w _;rw[J];exact this.alloc _)
 have d0:Hid (RowAt W b (.slice (some ⟨g,0,none⟩) n cp) n xs):=z.below m;have HL:Hid (Rep W xs l a):=Rep.below m l a c8;have HR:Hid (Rep W xs r c):=Rep.below m r c c9;have HC:Hid (ZJq W 0 p nd.jq):=A.2.2.2.2.1.below m;have HN:Hid (ZJU W 0 p nd.by_):=A.2.2.2.2.2.below m;have d1:Hid (StoV W (.slice sa ss.length sc) ss):=E.below m;have d2:Hid (BW w W):=m;have Q:Hid (wfT (.node x y nd l r)):=b5;have g4:Hid (winT (.node x y nd l r)):=O;have d3:Hid (Dst (ZJQ ss)/\ss.length<=1000):=⟨hD,hN⟩
 have d4:Hid (Zf (.node x y nd l r)≠0):=b7;have HF:Hid (p.k=nd.jx/\p.n=nd.n/\p.op=nd.op/\bl p.nm=nd.name/\p.a=a/\p.b=c):=⟨A.1,A.2.1,A.2.2.1,A.2.2.2.1,ha,hc⟩
 have g5:Hid (ownW nd+wT l+wT r<=100000):=b6;have e5:Hid (isNil l=false->Zf l≠0->SayC b (.slice (some ⟨g,0,none⟩) n cp) n xs ss tm l):=b8;have e6:Hid (isNil r=false->Zf r≠0->SayC b (.slice (some ⟨g,0,none⟩) n cp) n xs ss tm r):=b9;have L:Hid (nd.jx=4):=hk;have d5:Hid (p.k=4):=hid (by rw[A.1,hk];rfl);clear A z P J m c8 c9 b5 O hD hN b7 b8 b9 ha hc b6 hk E;obtain⟨q0,q1,q2,q3,q4,q5,q6,q7⟩:=PAt.all HP.out;have v0:=F.cell 0;have v1:=F.cell 1;have v2:=F.cell 2;have f0:=F.frozen 0;have f1:=F.frozen 1;have f2:=F.frozen 2;simp only[Zget]at v0 v1 v2;rw[d5.out]at q0;go_enter func29,ntmps29
 go_upto_region 2 with fail
 rw[<-HW.out];clear c0 c1 c2 c3 c4 c5 c6 c7 G HW
 have e7:Hid (sayT (ZJQ ss) tm (.node x y nd l r)=Zdg nd.op (sayT (ZJQ ss) tm l) (sayT (ZJQ ss) tm r)):=hid (by
  have B:=L.out;rw[sayT,if_neg Om,if_neg Om,if_neg Om,if_neg Om,if_neg Om,if_neg Om])
 have e8:Hid (Zf l≠0):=hid (by
  have B:=d4.out;have h1:=L.out;unfold Zf at B;intro hl;rw[hl]at B;simp[h1]at B)
 have d6:Hid (SayC b (.slice (some ⟨g,0,none⟩) n cp) n xs ss tm l):=hid (e5.out (Q.2.2.2.2.2.2.1 (by have:=L.out;omega)) e8.out);rw[HF.2.2.2.2.1]at q6
 go_wp2_with fail
 refine(d6.out a W (.slice sa ss.length sc) d0.out HL.out d1.out).mono ?_;rintro e o ⟨va,rfl,R,H⟩;obtain⟨bb,nn,ea,en,ec,rfl,d7⟩:=R.shape;have g6:=hid d7;have d8:=hid (F.below H);have S:Hid (PAt o (w.heap.size+1) p):=PAt.kept HP.out (H.block _ (PAt.lt HP.out));have T:Hid (BW W o):=H;clear H d7 q0 q1 q2 q3 q4 q5 q6 q7 v0 v1 v2 f0 f1 f2 d6
 go_upto_region 10 with fail
 refine ZP fun j U=>?_;have I:Hid (BAt j o.heap.size [.bool bb,Vi nn,.slice ea en ec] 76):=hid (by rw[U];exact Go.Deep.blk_alloc_new o _);have C:BW o j:=by rw[U];exact Zbal
 have e9:=hid (d8.below C);have X:Hid (PAt j (w.heap.size+1) p):=PAt.kept S.out (C.block _ (PAt.lt S.out));have e2:=hid (R.below C);have Y:Hid (BW W j):=T.trans (C.mono T.size);have Z:Hid (BW w j):=d2.trans (Y.mono d2.size);clear U C d8 S R T;obtain⟨q0,q1,q2,q3,q4,q5,q6,q7⟩:=PAt.all X.out;rw[d5.out]at q0;have a0:=I.cell 0;have a1:=I.cell 1;have a2:=I.cell 2;simp only[Zget]at a0 a1 a2
 have f3:Hid (Zf r≠0):=hid (by
  have B:=d4.out;have h1:=L.out;unfold Zf at B;intro hr;rw[hr]at B;simp[h1]at B)
 have f4 : Hid (∀ f, f = j.drew -> CP 29 #[Vp b, Vi c, .slice sa ss.length sc, Vi tm] f fun e q => ∃ (b4 : Bool) (n4 : Int) (e4 : Option Addr) (m4 c4 : Nat), e = .returned (.agg #[.bool b4, Vi n4, .slice e4 m4 c4]) /\ Hid (ValV q (.agg #[.bool b4, Vi n4, .slice e4 m4 c4]) (sayT (ZJQ ss) tm r)) /\ Hid (BW j q)) := hid (by
   intro f f5;have a3:BW j f:=by rw[f5];exact(Yaf _ _).drew
   have a4:BW W f:=Y.trans (a3.mono Y.size);refine(e6.out (Q.2.2.2.2.2.2.2.1 (Or.inl L.out)) f3.out c f (.slice sa ss.length sc) (d0.below a4) (Rep.below a4 r c HR.out) (d1.below a4)).mono ?_;rintro e w3 ⟨v3,rfl,s,a5⟩;obtain⟨b3,n3,e3,m3,c3,rfl,_⟩:=s.shape;exact⟨b3,n3,e3,m3,c3,rfl,s,a3.trans (a5.mono a3.size)⟩)
 have f6 : Hid (∀ f u, BW j f -> ValV f u (sayT (ZJQ ss) tm r) -> CP 57 #[Vi p.op, .agg #[.bool bb, Vi nn, .slice ea en ec], u] f fun e q => ∃ (b4 : Bool) (n4 : Int) (e4 : Option Addr) (m4 c4 : Nat), e = .returned (.agg #[.bool b4, Vi n4, .slice e4 m4 c4]) /\ Hid (ValV q (.agg #[.bool b4, Vi n4, .slice e4 m4 c4]) (Zdg nd.op (sayT (ZJQ ss) tm l) (sayT (ZJQ ss) tm r))) /\ Hid (BW j q)) := hid (by
   intro f u M hu;rw[HF.2.2.1];refine(ZN5 nd.op (Q.2.2.1 L.out) u f (e2.below M) hu (ZXb d3.out tm l) (ZXb d3.out tm r)).mono ?_;rintro e w3 ⟨v3,rfl,s,a5⟩;obtain⟨b3,n3,e3,m3,c3,rfl,_⟩:=s.shape;exact⟨b3,n3,e3,m3,c3,rfl,s,M.trans (a5.mono M.size)⟩)
 rw[HF.2.2.2.2.2]at q7
 have a6 : Hid (∀ f, BW j f -> f.cell? ⟨w.heap.size + 1, 2, none⟩ = some (Vi p.op) /\ f.cell? ⟨w.heap.size + 1, 7, none⟩ = some (Vi c) /\ f.cell? ⟨o.heap.size, 0, none⟩ = some (.bool bb) /\ f.cell? ⟨o.heap.size, 1, none⟩ = some (Vi nn) /\ f.cell? ⟨o.heap.size, 2, none⟩ = some (.slice ea en ec)) := hid (fun f M => by
   have d9:=PAt.all (PAt.kept X.out (M.block _ (PAt.lt X.out)));have a7:=I.below M;have a0:=a7.cell 0;have a1:=a7.cell 1;have a2:=a7.cell 2;have k7:=d9.2.2.2.2.2.2.2;rw[HF.2.2.2.2.2]at k7;exact⟨d9.2.2.1,k7,a0,a1,a2⟩)
 have e0:=a6.out j.drew ((Yaf _ _).drew)
 go_upto_region 19 with fail
 clear q0 q1 q2 q3 q4 q5 q6 q7 a0 a1 a2;refine Zbn 10 (fun q=>q.cell? ⟨w.heap.size+1,2,none⟩=some (Vi p.op)/\q.cell? ⟨w.heap.size+1,7,none⟩=some (Vi c)/\q.cell? ⟨o.heap.size,0,none⟩=some (.bool bb)/\q.cell? ⟨o.heap.size,1,none⟩=some (Vi nn)/\q.cell? ⟨o.heap.size,2,none⟩=some (.slice ea en ec)) Kr (by exact e0) (fun d=>?_);clear e0;refine Za 0 d (h:=?_);refine Za 1 d (h:=?_);refine Za 2 d (h:=?_);refine Za 3 d (h:=?_);refine Za 4 d (h:=?_);refine Za 5 d (h:=?_);refine Za 6 d (h:=?_);refine Za 7 d (h:=?_);refine Z4 (i:=8) Kr rfl (fun K D=>?_);go_simp;refine(f4.out _ rfl).mono ?_;rintro e w4 ⟨b4,n4,e4,m4,c4,rfl,f7,e1⟩;have a8:=a6.out w4 e1.out;go_simp;refine D.out _ _ a8 (fun d=>?_);clear D K
 try simp only[Act.put,Zset]
 refine Z4 (i:=9) Kr rfl (fun K D=>?_);go_simp;refine(f6.out w4 _ e1.out f7.out).mono ?_;rintro e w3 ⟨b3,n3,e3,m3,c3,rfl,s,a9⟩;have b0:=a6.out w3 a9.out;go_simp;refine D.out _ _ b0 (fun d=>?_);clear D K
 try simp only[Act.put,Zset]
 refine Zbl Kr Kr rfl Kr (fun K D=>?_);have t:=hid (e9.below a9.out);have v0:=t.cell 0;have v1:=t.cell 1;have v2:=t.cell 2;have f0:=t.frozen 0;have f1:=t.frozen 1;have f2:=t.frozen 2;simp only[Zget]at v0 v1 v2;have N:=hid (ZOa (V:=sayT (ZJQ ss) tm (.node x y nd l r)) t.out (Z.trans (a9.mono Z.size)) (by rw[e7.out];exact s.out));go_simp;refine D.out _ _ ?_;clear D K;go_wp2;change bodyPost _ _ _ _ _ (set3 w3 w.heap.size (.bool b3) (Vi n3) (.slice e3 m3 c3));have s0:=N.1.cell 0;have s1:=N.1.cell 1;have s2:=N.1.cell 2;simp only[Zget]at s0 s1 s2;have f8:=hid N.2.1;have f9:=hid N.2.2;clear N;generalize set3 w3 w.heap.size (.bool b3) (Vi n3) (.slice e3 m3 c3)=WX at *
 exact bodyPost_ret (v:=.agg #[.bool b3,Vi n3,.slice e3 m3 c3]) (by simp[results,results29,go_sem,s0,s1,s2]) rfl ⟨.agg #[.bool b3,Vi n3,.slice e3 m3 c3],rfl,f8,f9.out⟩
theorem ZXc(e : -1000000<=tm)(f:tm<=1000000)(m:Dst (ZJQ ss))(o:ss.length<=1000):∀t:Tr,wfT t->wT t<=100000->winT t->isNil t=false->Zf t≠0->SayC b pv n xs ss tm t
 | .nil,_,_,_,h,_=>by cases h
 | .node x y a l r, d, g, c, _, i => by
   have q:ownW a+wT l+wT r<=100000:=g;have j:isNil l=false->Zf l≠0->SayC b pv n xs ss tm l:=fun h p=>ZXc e f m o l d.2.2.2.2.2.2.2.2.2.2.1 Om c.2.1 h p;have k:isNil r=false->Zf r≠0->SayC b pv n xs ss tm r:=fun h p=>ZXc e f m o r d.2.2.2.2.2.2.2.2.2.2.2 Om c.2.2 h p;have s:=d.1;rcases(by omega:a.jx=0∨a.jx=1∨a.jx=2∨a.jx=3∨a.jx=4∨a.jx=5∨a.jx=6)with h|h|h|h|h|h|h
   · exact ZXh e f d g c m o i j k h
   · exact ZXj e f d g c m o i j k h
   · exact ZXk e f d g c m o i j k h
   · exact ZXg e f d g c m o i j k h
   · exact ZXe e f d g c m o i j k h
   · exact ZXf e f d g c m o i j k h
   · exact ZXi e f d g c m o i j k h
theorem ZXd(q s:BA)(f l st:Int)(w:World)(f3:q.size<=9223372036854775807)(hs:s.size<=maxLen) :
  CP 16 #[.string q,.string s,.agg #[Vi f,Vi l,Vi st]] w fun e o=>∃(r:BA) (c p:Nat),e=.returned (.tuple #[.string r,Vi c,Vi p])/\Hid (ZdK (bl q) (bl s) f l st=(bl r,c,p))/\BW w o:=by
 have c6:Hid (∀W,CP 25 #[.string q] W _):=hid (fun W=>ZN9 q W f3);have c7:Hid (∀W,CP 26 #[.string s] W _):=hid (fun W=>ZN6 s W hs);go_enter func16,ntmps16
 go_wp2_with fail
 refine(c6.out _).mono ?_;rintro e y ⟨⟨v,c,p,rfl,D⟩,H⟩;have a3:Hid (BW w y):=hid (Zbal.trans (H.mono (by simp)));have c8:Hid (BAt y w.heap.size [Vi f,Vi l,Vi st] 46):=hid ((H.block _ (by simp)).trans (Go.Deep.blk_alloc_new w _));clear H;cases O:ZD (bl q)with
 | error x=>
  obtain⟨rfl,rfl,g2,rfl⟩:=D.1 x O;have P:Hid (ZdK (bl q) (bl s) f l st=([],x.1,x.2)):=hid (by unfold ZdK;rw[O]);have hc:((x.1:Int) != 0)=true:=by rw[bne_iff_ne];omega
  clear D O;go_wp2
  go_ret3
  exact⟨_,_,_,rfl,P,a3.out⟩
 | ok t=>
  obtain⟨rfl,rfl,b,rfl,f6,c9⟩:=D.2 t O;have d0:Hid (ZLp y b t):=c9;have d1:Hid (winT t/\Zf t≠0):=hid (ZBk O)
  have I:Hid (∀x,(if (Zbp (bl s)).1≠0 then ([],(Zbp (bl s)).1,(Zbp (bl s)).2)else match Zdr f l st with
   | none=>([],8,0)
   | some ts=>(Zcn (ts.map (Zeu (Ze6 (bl s)) t)),0,0))=x->ZdK (bl q) (bl s) f l st=x):=hid (fun x hx=>by unfold ZdK;rw[O];exact hx)
  clear D O c9 f6
  go_wp2_with fail
  refine(c7.out _).mono ?_;rintro e z ⟨sv,rfl,U,a4⟩;have V:Hid (BW w z):=hid (a3.trans (U.mono a3.size));have Q:Hid (BW y z):=hid U;have E:=hid (c8.below U);clear U c7 c6;generalize d2:Zbp (bl s)=lr at *
  obtain⟨lc,lp⟩:=lr;simp only at a4 I;by_cases hc:lc=0
  ·subst hc;obtain⟨d3,d4⟩:=a4.out rfl;obtain⟨ss,a5,a6,d5,f7⟩:=ZJT.sto (by rw[Zd];exact d4) d3;have d6:Hid (StoV z sv ss):=a5;have X:Hid (ZJQ ss=Ze6 (bl s)/\Dst (ZJQ ss)/\ss.length<=1000):=hid ⟨a6,by rw[a6];exact d5,by omega⟩;clear a4 d3 d4 a5 a6 d5 f7 d2;have x0:=E.cell 0;have x1:=E.cell 1;have x2:=E.cell 2;simp only[Zget]at x0 x1 x2
   go_wp2_with fail
   refine(ZOb f l st).mono ?_;rintro e F ⟨tv,okv,rfl,d7,Y⟩;have a7:Hid (BW w F):=hid (V.trans (Y.mono V.size));have a8:Hid (BW y F):=hid (Q.trans (Y.mono Q.size));have a9:=hid (d6.below Y);clear Y x0 x1 x2 c8 E d6 V Q;rcases d7.out with ⟨rfl,d8⟩|⟨rfl,ts,d9,g3,e0,R⟩
   ·have P:Hid (ZdK (bl q) (bl s) f l st=([],8,0)):=hid (I.out _ (by rw[if_neg (by simp),d8]));clear d8;go_wp2
    go_ret3
    exact⟨_,8,0,rfl,P,a7.out⟩
   ·have P:Hid (ZdK (bl q) (bl s) f l st=(Zcn (ts.map (Zeu (ZJQ ss) t)),0,0)):=hid (I.out _ (by rw[if_neg (by simp),d9,X.1]));obtain⟨ta,tc,rfl⟩:=Zl R;have b0:Hid (F.ownsRow 0 2 1 (.slice ta ts.length tc) ts.length (ts.map (.int .i64))):=R;have f8:Hid (∀t∈ts,-1000000<=t/\t<=1000000):=e0;obtain⟨pv,n,xs,S,hn,b1,e1,b2,e2,_⟩:=d0.out;have A:Hid (RowAt F b pv (n+1) xs/\Rep F xs t n/\wfT t/\isNil t=false/\wT t<=100000/\n+1<=301):=hid ⟨S.below a8.out,Rep.below a8.out t n b1,e1,b2,e2,hn⟩;obtain⟨pa,pc,rfl⟩:=Zl S.own;obtain⟨sa,sc,rfl⟩:=Zl a9.own;clear d9 e0 R S hn b1 e1 b2 e2 d7 I d0;go_wp2
    go_loopg [15,16] ts.length (fun gk v15 v16 wr=>∃(k:Nat) (r:BA),k<=ts.length/\gk=ts.length - k/\v16=Vi k/\v15=.string r/\r.size<=2000000000001*k/\Hid (bl r=Zcn ((ts.take k).map (Zeu (ZJQ ss) t)))/\Hid (BW F wr))
    case atStart=>exact⟨0,_,Yag _,rfl,rfl,rfl,Yac _,hid rfl,Yaf _ _⟩
    case round=>
     obtain⟨k,r,hk,g4,rfl,rfl,e5,HR,m⟩:=hrel;by_cases b5:k<ts.length
     ·obtain⟨g,cpx,hg⟩:=ZF b0.out Om;injection hg with hg1 _ hg2;subst hg1 hg2
      have e6 : Hid (∀ x : LB, x = Zeu (ZJQ ss) t ts[k] -> Zcn ((ts.take (k + 1)).map (Zeu (ZJQ ss) t)) = (if k = 0 then [] else Zcn ((ts.take k).map (Zeu (ZJQ ss) t)) ++ [10]) ++ x) := hid (fun x hx => by
        rw[List.take_succ_eq_append_getElem b5,Yaq,Yco,ZMM,<-hx]
        congr 1
        by_cases J:k=0
        · subst J;rfl
        · rw[if_neg J,if_neg]
          rw[Ydl];intro he;have:=congrArg List.length he;rw[Yak,Ya7,Ybq]at this;omega)
      have G:wr.cell? ⟨g,k,none⟩=some (Vi ts[k]):=Zi (Zn b0.out m.out) k _ (by rw[Ya2,List.getElem?_eq_getElem b5];rfl);have b6:Hid (-1000000<=ts[k]/\ts[k]<=1000000):=hid (f8.out _ (List.getElem_mem b5));have e7:=Z1 (Zn b0.out m.out);generalize ts[k]=tm at *
      obtain⟨ln,e8⟩:∃ln:BA,ln=⟨(Zeu (ZJQ ss) t tm).toArray⟩:=⟨_,rfl⟩
      have b7:Hid (bl ln=Zeu (ZJQ ss) t tm):=hid (by rw[e8,ZKQ]);clear e8
      have e9 : Hid (∀ j, j = wr.drew -> CP 30 #[Vp b] j fun e o => e = .returned (Vi n) /\ o = j) := hid (fun j b8 => by
        have:=(A.1.below m.out).cell;exact ZS2 (by rw[b8];exact this) A.2.2.2.2.2)
      have f0 : Hid (∀ j, j = wr.drew -> CP 29 #[Vp b, Vi n, .slice sa ss.length sc, Vi tm] j fun e o => ∃ (b4 : Bool) (n4 : Int) (e4 : Option Addr) (m4 c4 : Nat), e = .returned (.agg #[.bool b4, Vi n4, .slice e4 m4 c4]) /\ Hid (ValV o (.agg #[.bool b4, Vi n4, .slice e4 m4 c4]) (sayT (ZJQ ss) tm t)) /\ Hid (BW wr o)) := hid (fun j b8 => by
        have b9:BW wr j:=by rw[b8];exact(Yaf _ _).drew
        have L:BW F j:=m.trans (b9.mono m.size);refine(ZXc b6.1 b6.2 X.2.1 X.2.2 t A.2.2.1 A.2.2.2.2.1 d1.1 A.2.2.2.1 d1.2 n j (.slice sa ss.length sc) (A.1.below L) (Rep.below L t n A.2.1) (a9.below L)).mono ?_;rintro e w9 ⟨v9,rfl,f1,f4⟩;obtain⟨b3,n3,e3,m3,c3,rfl,_⟩:=f1.shape;exact⟨b3,n3,e3,m3,c3,rfl,f1,b9.trans (f4.mono b9.size)⟩)
      have f2 : Hid (∀ j u, BW wr j -> ValV j u (sayT (ZJQ ss) tm t) -> CP 28 #[Vi tm, u] j fun e o => e = .returned (.string ln) /\ ln.size <= 2000000000000 /\ Hid (BW wr o)) := hid (fun j u H hu => by
        refine(ZN4 tm (by have:=b6.out;unfold vOk;omega) u j hu (ZXb X.2 tm t)).mono ?_;rintro e w9 ⟨r9,rfl,f9,g0,L⟩;obtain rfl:r9=ln:=ZcW (f9.trans b7.symm);exact⟨rfl,g0,H.trans (L.mono H.size)⟩)
      have Z:Hid (∀j,BW wr j->j.cell? ⟨g,k,none⟩=some (Vi tm)):=hid (fun j H=>(H.cell (p:=⟨g,k,none⟩) e7).trans G);have a2:wr.drew.cell? ⟨g,k,none⟩=some (Vi tm):=G;have c0:Hid (r.size<=2000000000001*k):=e5;clear G e7 e5;by_cases J:k=0
      ·have c1:Hid (Zcn ((ts.take (k+1)).map (Zeu (ZJQ ss) t))=bl r++Zeu (ZJQ ss) t tm):=hid (by
        rw[e6.out _ rfl,if_pos J,HR.out,J];rfl)
       have f5:r.size<=2000000000001*k+1:=by have:=c0.out;omega
       subst J;generalize r=rr at *
       go_upto_region 16 with fail
       refine Zbn 16 (fun o=>o.cell? ⟨g,0,none⟩=some (Vi tm)) Kr (by exact a2) (fun a=>?_);clear a2;refine Za 0 a (h:=?_);refine Za 1 a (h:=?_);refine Za 2 a (h:=?_);refine Za 3 a (h:=?_);refine Za 4 a (h:=?_);refine Za 5 a (h:=?_);refine Za 6 a (h:=?_);refine Za 8 a (h:=?_);refine Za 9 a (h:=?_);refine Za 10 a (h:=?_);refine Za 11 a (h:=?_);refine Za 12 a (h:=?_);refine Z4 (i:=7) Kr rfl (fun K d=>?_);go_simp;refine(e9.out _ rfl).mono ?_;rintro e y ⟨rfl,rfl⟩;go_simp;refine d.out _ _ a (fun a=>?_);clear d K
       try simp only[Act.put,Zset]
       refine Z4 (i:=13) Kr rfl (fun K d=>?_);go_simp;refine(f0.out _ rfl).mono ?_;rintro e w5 ⟨b4,n4,e4,m4,c4,rfl,c2,M⟩;have B:=Z.out w5 M.out;go_simp;refine d.out _ _ B (fun a=>?_);clear d K
       try simp only[Act.put,Zset]
       refine Z4 (i:=14) Kr rfl (fun K d=>?_);go_simp;refine(f2.out w5 _ M.out c2.out).mono ?_;rintro e w6 ⟨rfl,g1,N⟩;have C:=Z.out w6 N.out;have a1:∀W,(Op.stringOp .add rr ln).run prog W=.ok (.string (rr++ln)) W:=fun W=>run_string_add_sum W _ _ Om;have T:(rr++ln:BA).size<=2000000000001*(0+1):=by rw[Yaz];omega
       have c5:Hid (bl (rr++ln)=Zcn ((ts.take (0+1)).map (Zeu (ZJQ ss) t))):=hid (by rw[c1.out,ZJI,b7.out]);go_simp;refine d.out _ _ C (fun a=>?_);clear d K
       try simp only[Act.put,Zset]
       refine Za 15 a (h:=?_);refine Zbl Kr Kr rfl Kr (fun K d=>?_);go_simp;refine d.out _ _ ?_;clear d K;go_wp2
       go_roundg (ts.length - (0+1))
       case measure=>omega
       case rel=>exact⟨0+1,_,by omega,rfl,by go_num,rfl,T,c5,hid (m.trans (N.mono m.size))⟩
      ·have h1:(0:Int)<k:=by omega
       have a0:∀W,(Op.stringOp .add r ⟨#[10]⟩).run prog W=.ok (.string (r++⟨#[10]⟩)) W:=fun W=>run_string_add_sum W _ _ (by have:=c0.out;show r.size+1<=_;omega)
       have c1:Hid (Zcn ((ts.take (k+1)).map (Zeu (ZJQ ss) t))=bl (r++⟨#[10]⟩)++Zeu (ZJQ ss) t tm):=hid (by
        rw[e6.out _ rfl,if_neg J,ZJI,HR.out];rfl)
       have f5:(r++⟨#[10]⟩:BA).size<=2000000000001*k+1:=by have:=c0.out;rw[Yaz];show r.size+1<=_;omega
       go_upto_region 16 with fail
       clear a0 h1 J;generalize r++⟨#[10]⟩=rr at *
       refine Zbn 16 (fun o=>o.cell? ⟨g,k,none⟩=some (Vi tm)) Kr (by exact a2) (fun a=>?_);clear a2;refine Za 0 a (h:=?_);refine Za 1 a (h:=?_);refine Za 2 a (h:=?_);refine Za 3 a (h:=?_);refine Za 4 a (h:=?_);refine Za 5 a (h:=?_);refine Za 6 a (h:=?_);refine Za 8 a (h:=?_);refine Za 9 a (h:=?_);refine Za 10 a (h:=?_);refine Za 11 a (h:=?_);refine Za 12 a (h:=?_);refine Z4 (i:=7) Kr rfl (fun K d=>?_);go_simp;refine(e9.out _ rfl).mono ?_;rintro e y ⟨rfl,rfl⟩;go_simp;refine d.out _ _ a (fun a=>?_);clear d K
       try simp only[Act.put,Zset]
       refine Z4 (i:=13) Kr rfl (fun K d=>?_);go_simp;refine(f0.out _ rfl).mono ?_;rintro e w5 ⟨b4,n4,e4,m4,c4,rfl,c2,M⟩;have B:=Z.out w5 M.out;go_simp;refine d.out _ _ B (fun a=>?_);clear d K
       try simp only[Act.put,Zset]
       refine Z4 (i:=14) Kr rfl (fun K d=>?_);go_simp;refine(f2.out w5 _ M.out c2.out).mono ?_;rintro e w6 ⟨rfl,g1,N⟩;have C:=Z.out w6 N.out;have a1:∀W,(Op.stringOp .add rr ln).run prog W=.ok (.string (rr++ln)) W:=fun W=>run_string_add_sum W _ _ Om;have T:(rr++ln:BA).size<=2000000000001*(k+1):=by rw[Yaz];omega
       have c5:Hid (bl (rr++ln)=Zcn ((ts.take (k+1)).map (Zeu (ZJQ ss) t))):=hid (by rw[c1.out,ZJI,b7.out]);go_simp;refine d.out _ _ C (fun a=>?_);clear d K
       try simp only[Act.put,Zset]
       refine Za 15 a (h:=?_);refine Zbl Kr Kr rfl Kr (fun K d=>?_);go_simp;refine d.out _ _ ?_;clear d K;go_wp2
       go_roundg (ts.length - (k+1))
       case measure=>omega
       case rel=>exact⟨k+1,_,by omega,rfl,by go_num,rfl,T,c5,hid (m.trans (N.mono m.size))⟩
     ·obtain rfl:k=ts.length:=by omega
      rw[Ya4]at HR;go_wp2
      go_ret3
      exact⟨r,0,0,rfl,hid (by rw[P.out,HR.out]),hid (a7.trans (m.mono a7.size))⟩
  ·have g5:((lc:Int) != 0)=true:=by rw[bne_iff_ne];omega
   have P:Hid (ZdK (bl q) (bl s) f l st=([],lc,lp)):=hid (I.out _ (by rw[if_pos hc]));clear hc d2;go_wp2
   go_ret3
   exact⟨_,lc,lp,rfl,P,V.out⟩
