/- Parts. -/
import Derived.Test.YtpbemaaghbbocaaGreatDoorH04
set_option linter.all false
set_option maxRecDepth 100000
set_option maxHeartbeats 16000000
namespace Go.Proofs.YtpbemaaghbbocaaGreatDoor
open Go.RowKit LS Go.Proofs.Tryz
theorem ZzN{p:PTok}{u:Tok}(h:Zdf p u)(d:Zdt u)(e:u.jx<=5){lv:Nat}(f:lv<=2){kd op:Nat}(c:LS.opAt lv u=some (kd,op)):∃j,opOf p=some j/\j<=4/\Zdb j=lv/\opNo (nd0 kd op)=j/\(kd=4∨kd=6)/\¬(u.jx=0∨u.jx=5):=by
 have m0:ZdF p ⟨#[111,114]⟩=isT wOr u:=Znz h d e (s:=⟨#[111,114]⟩) Dc Dc;have m1:ZY p ⟨#[43]⟩=isT [43] u:=ZdP h d e (s:=⟨#[43]⟩) Dc Dc;have m2:ZY p ⟨#[45]⟩=isT [45] u:=ZdP h d e (s:=⟨#[45]⟩) Dc Dc;have m3:ZY p ⟨#[42]⟩=isT [42] u:=ZdP h d e (s:=⟨#[42]⟩) Dc Dc;have m4:ZY p ⟨#[47]⟩=isT [47] u:=ZdP h d e (s:=⟨#[47]⟩) Dc Dc;unfold opOf;rw[m0,m1,m2,m3,m4];unfold LS.opAt at c;rcases(by omega:lv=0∨lv=1∨lv=2)with rfl|rfl|rfl
 ·by_cases a:isT wOr u=true
  ·rw[if_pos rfl,if_pos a]at c;injection c with c;injection c with h1 h2;subst h1 h2;rw[if_pos a];exact⟨0,rfl,by decide,rfl,rfl,Or.inr rfl,Zd3 a⟩
  ·rw[if_pos rfl,if_neg a]at c;cases c
 ·rw[if_neg Dc,if_pos rfl]at c;by_cases a:isT [43] u=true
  ·rw[if_pos a]at c;injection c with c;injection c with h1 h2;subst h1 h2;rw[ZeV a (u:=wOr) Dc,if_neg Dc,if_pos a];exact⟨1,rfl,by decide,rfl,rfl,Or.inl rfl,Zd3 a⟩
  ·rw[if_neg a]at c;by_cases b:isT [45] u=true
   ·rw[if_pos b]at c;injection c with c;injection c with h1 h2;subst h1 h2;rw[ZeV b (u:=wOr) Dc,if_neg Dc,if_neg a,if_pos b];exact⟨2,rfl,by decide,rfl,rfl,Or.inl rfl,Zd3 b⟩
   ·rw[if_neg b]at c;cases c
 ·rw[if_neg Dc,if_neg Dc]at c;by_cases a:isT [42] u=true
  ·rw[if_pos a]at c;injection c with c;injection c with h1 h2;subst h1 h2;rw[ZeV a (u:=wOr) Dc,if_neg Dc,ZeV a (u:=[43]) Dc,if_neg Dc,ZeV a (u:=[45]) Dc,if_neg Dc,if_pos a];exact⟨3,rfl,by decide,rfl,rfl,Or.inl rfl,Zd3 a⟩
  ·rw[if_neg a]at c;by_cases b:isT [47] u=true
   ·rw[if_pos b]at c;injection c with c;injection c with h1 h2;subst h1 h2;rw[ZeV b (u:=wOr) Dc,if_neg Dc,ZeV b (u:=[43]) Dc,if_neg Dc,ZeV b (u:=[45]) Dc,if_neg Dc,if_neg a,if_pos b];exact⟨4,rfl,by decide,rfl,rfl,Or.inl rfl,Zd3 b⟩
   ·rw[if_neg b]at c;cases c
theorem ZzL{p:PTok}{u:Tok}(h:Zdf p u)(a:Zdt u)(c:u.jx<=5){lv:Nat}(e:lv<=2)(d:LS.opAt lv u=none):opOf p=none∨∃j,opOf p=some j/\j<=4/\Zdb j≠lv:=by
 have m0:ZdF p ⟨#[111,114]⟩=isT wOr u:=Znz h a c (s:=⟨#[111,114]⟩) Dc Dc;have m1:ZY p ⟨#[43]⟩=isT [43] u:=ZdP h a c (s:=⟨#[43]⟩) Dc Dc;have m2:ZY p ⟨#[45]⟩=isT [45] u:=ZdP h a c (s:=⟨#[45]⟩) Dc Dc;have m3:ZY p ⟨#[42]⟩=isT [42] u:=ZdP h a c (s:=⟨#[42]⟩) Dc Dc;have m4:ZY p ⟨#[47]⟩=isT [47] u:=ZdP h a c (s:=⟨#[47]⟩) Dc Dc;unfold opOf;rw[m0,m1,m2,m3,m4];unfold LS.opAt at d;generalize isT wOr u=b0 at *
 generalize isT [43] u=b1 at *
 generalize isT [45] u=b2 at *
 generalize isT [42] u=b3 at *
 generalize isT [47] u=b4 at *
 rcases (by omega : lv = 0 ∨ lv = 1 ∨ lv = 2) with rfl | rfl | rfl <;> cases b0 <;> cases b1 <;> cases b2 <;> cases b3 <;> cases b4 <;> first
   | exact Or.inl rfl
   | exact Or.inr ⟨0,rfl,by decide,by decide⟩
   | exact Or.inr ⟨1,rfl,by decide,by decide⟩
   | exact Or.inr ⟨2,rfl,by decide,by decide⟩
   | exact Or.inr ⟨3,rfl,by decide,by decide⟩
   | exact Or.inr ⟨4,rfl,by decide,by decide⟩
   | cases d
theorem ZAd {n lv : Nat} {ts : List Tok} {deep : Nat} (h : lv ≠ 3) : Zs (n + 1) false lv .nil ts deep = bnd (Zs n false (lv + 1) .nil ts deep) fun a r => Zs n true lv a r deep := by
  show(if lv=3 then _ else _)=_;rw[if_neg h]
theorem ZAc {n : Nat} {ts : List Tok} {deep : Nat} : Zs (n + 1) false 3 .nil ts deep = Zb9 (fun lv ts d => Zs n false lv .nil ts d) ts deep := by
  show(if 3=3 then _ else _)=_;rw[if_pos rfl]
theorem ZAg{n lv:Nat}{a:Tr}{ts:List Tok}{deep:Nat}(h:LS.opAt lv (hd ts)=none):Zs (n+1) true lv a ts deep=.ok (a,ts):=by
 show(match LS.opAt lv (hd ts)with|none=>_|some p=>_)=_;rw[h]
theorem ZAe {n lv : Nat} {a : Tr} {ts : List Tok} {deep : Nat} {p : Nat × Nat} (h : LS.opAt lv (hd ts) = some p) : Zs (n + 1) true lv a ts deep = bnd (Zs n false (lv + 1) .nil ts.tail deep) fun b r => Zs n true lv (.node 0 0 (nd0 p.1 p.2) a b) r deep := by
  show(match LS.opAt lv (hd ts)with|none=>_|some p=>_)=_;rw[h]
def RP(lv n:Nat):Prop:=ZeO 32 (fun d=>[Vi lv,Vi (d+1:Nat)]) (fun ts d=>Zs n false lv .nil ts d) (fun ts=>10*ts.length+5<=n+lv)
def RF(n:Nat):Prop:=ZeO 65 (fun d=>[Vi (d+1:Nat)]) (fun ts d=>Zs n false 3 .nil ts d) (fun ts=>10*ts.length+2<=n)
theorem ZAh{n:Nat}(f:RF n):RP 3 n:=by
 intro w R k ts deep h hd a;have j:Hid (CP 65 #[Vp R.b,Vi (deep+1:Nat)] w _):=f w R k ts deep h hd (by show 10*ts.length+2<=n;have m:10*ts.length+5<=n+3:=a;omega);clear h hd a f;go_enter func32,ntmps32
 go_wp2_with fail
 refine j.mono ?_;rintro e y ⟨pv,v,rfl,c,d,g⟩;have i:Hid (Zhp pv):=c;have l:Hid (w.grownBy y (some R.b)):=g;clear c g;go_wp2;go_ret2;exact⟨_,_,rfl,i.out,d,l.out⟩
theorem ZAj{n lv:Nat}(Y:lv<=2)(hp:∀m,m<=n->RP (lv+1) m):RP lv (n+1):=by
 intro w R k ts deep h hd Z;have H:Hid (RK w R k ts):=h;have HD:Hid (deep<=20):=hd;have c3:10*ts.length+5<=n+1+lv:=Z;have c6:R.b<w.heap.size:=(Yae.1 h.rd.cells).1;have HC:Hid (∀m,m<=n->∀(w:World) (k:Nat) (ts:List Tok),RK w R k ts->10*ts.length+5<=m+(lv+1)->CP 32 #[Vp R.b,Vi ((lv:Int)+1),Vi ((deep:Int)+1)] w fun e o=>∃(pv v:Value),e=.returned (.tuple #[pv,v])/\Zhp pv/\Hid (Res R (fun o t=>Zh o t pv) o (Zs m false (lv+1) .nil ts deep) v)/\w.grownBy o (some R.b)):=hid (fun m hm w k ts h1 h2=>hp m hm w R k ts deep h1 hd h2);have h3:((lv:Int) == 3)=false:=by rw[beq_eq_false_iff_ne];omega
 obtain⟨PR,F⟩:∃PR,PR=Zs (n+1) false lv .nil ts deep:=⟨_,rfl⟩
 have G:Hid (PR=bnd (Zs n false (lv+1) .nil ts deep) fun a r=>Zs n true lv a r deep):=hid (by rw[F,ZAd Om]);show Calls _ _ _ _ (fun e o=>∃(pv v:Value),e=.returned (.tuple #[pv,v])/\Zhp pv/\Hid (Res R (fun o t=>Zh o t pv) o (Zs (n+1) false lv .nil ts deep) v)/\w.grownBy o (some R.b));rw[<-F];clear h hd Z hp F;go_enter func32,ntmps32
 go_wp2_with fail
 refine(HC.out n (Yac _) w k ts H.out Om).mono ?_;rintro e w1 ⟨pv,v,rfl,I,d,hg⟩;have J:Hid (w.grownBy w1 (some R.b)):=hg;clear hg;cases c:Zs n false (lv+1) .nil ts deep with
 | error er=>
  have K:=hid (d.err c);obtain⟨fa,rfl⟩:=K.shape;have L:Hid (PR=.error er):=hid (by rw[G.out,c];rfl);clear d c;go_wp2;go_ret2;exact⟨_,_,rfl,Or.inl rfl,by rw[L.out];exact K,J.out⟩
 | ok pr=>
  obtain⟨a0,r0⟩:=pr;obtain⟨rfl,⟨k1,a1⟩,hv⟩:=d.good c;have a2:Hid (RK w1 R k1 r0):=a1;have a3:Hid (Zh w1 a0 pv):=hv;have a4:Hid (Zs n true lv a0 r0 deep=PR):=hid (by rw[G.out,c];rfl);have c4:r0.length+1<=ts.length:=Zg1 n false (lv+1) .nil ts deep _ c;clear d c a1 hv G I;go_wp2
  go_loopg [8] r0.length (fun g v8 wr=>∃(a:Tr) (r:List Tok) (k2 m:Nat),g=r.length/\Hid (Zh wr a v8)/\Hid (RK wr R k2 r)/\Hid (10*r.length+5<=m/\m<=n/\Zs m true lv a r deep=PR)/\Hid (w.grownBy wr (some R.b)))
  case atStart=>exact⟨a0,r0,k1,n,rfl,a3,a2,⟨by omega,Yac _,a4.out⟩,J⟩
  case round=>
   obtain⟨a,r,k2,m,c7,HV,HK,M,HG⟩:=hrel;clear a3 a2 a4 J;obtain⟨m,rfl⟩:∃m',m=m'+1:=⟨m - 1,by have:=M.1;omega⟩
   obtain⟨ty,u,b5⟩:=Zh.shape HV.out;subst b5
   go_wp2_with fail
   refine(Zee HK.out).mono ?_;rintro e z ⟨⟨kd,at_,tx,tv⟩,rfl,ht,s⟩;have N:Hid (RK z R k2 r):=HK.below s;have a5:Hid (Zh z a (.iface ty u)):=HV.below s;have a6:Hid (w.grownBy z (some R.b)):=Zj HG.out (Zw s);have x:=hid N.wf.head;clear s HK HV HG
   go_wp2_with fail
   refine(ZzQ ⟨kd,at_,tx,tv⟩).mono ?_;rintro e w3 ⟨rfl,A⟩;have f:Hid (RK w3 R k2 r):=N.below A;have B:Hid (Zh w3 a (.iface ty u)):=a5.below A;have C:Hid (w.grownBy w3 (some R.b)):=Zj a6.out (Zw A);clear A N a5 a6;cases i:LS.opAt lv (LS.hd r)with
   | none=>
    have l:Hid (PR=.ok (a,r)):=hid (by rw[<-M.2.2,ZAg i]);rcases ZzL ht.out x.1 x.2.2 Y i with q|⟨j,q,O,b6⟩
    ·rw[q];clear i q;go_wp2;go_ret2;exact⟨_,_,rfl,Or.inr ⟨_,_,rfl⟩,by rw[l.out];exact⟨rfl,⟨_,f.out⟩,B.out⟩,C.out⟩
    ·rw[q];have b7:((Zdb j:Int) != lv)=true:=by rw[bne_iff_ne];omega
     rw[show(some j).getD 0=j from rfl,show(some j).isSome=true from rfl];clear i q
     go_wp2_with (go_at_call 67;refine(Zm0 j O).mono ?_;rintro e wq ⟨rfl,rfl⟩)
     go_ret2;exact⟨_,_,rfl,Or.inr ⟨_,_,rfl⟩,by rw[l.out];exact⟨rfl,⟨_,f.out⟩,B.out⟩,C.out⟩
   | some p=>
    obtain⟨j,q,O,b6,a7,P,D⟩:=ZzN ht.out x.1 x.2.2 Y i;have l:Hid ((bnd (Zs m false (lv+1) .nil r.tail deep) fun b r=>Zs m true lv (.node 0 0 (nd0 p.1 p.2) a b) r deep)=PR):=hid (by rw[<-M.2.2,ZAe i]);have a8:Hid (opNo (nd0 p.1 p.2)=j/\(p.1=4∨p.1=6)):=⟨a7,P⟩
    have b8:Hid (¬((LS.hd r).jx=0∨(LS.hd r).jx=5)):=D;have b7:((Zdb j:Int) != lv)=false:=by rw[bne_eq_false_iff_eq];omega
    rw[q,show(some j).getD 0=j from rfl,show(some j).isSome=true from rfl];obtain⟨rc0,rc1,rfz,rcx⟩:=f.rd.all;have c8:=f.lt;have c9:=f.len;have d0:=M.1;have d1:=M.2.1;clear i q a7 P D rcx
    go_upto_region 10 with (go_at_call 67;refine(Zm0 j O).mono ?_;rintro e wq ⟨rfl,rfl⟩)
    refine ZP fun V E=>?_;have Q:Hid (RK V R (k2+1) r.tail):=hid (by rw[E];exact f.step b8.out);have a9:Hid (w.grownBy V (some R.b)):=hid (by rw[E];exact ZA C.out (Or.inl rfl));have b0:Hid (Zh V a (.iface ty u)):=hid (by rw[E];exact B.read f.out (ZA (ZbM _ _) (Or.inl rfl)));have c5:=f.pos;have W:=Q.pos;rw[Yb4]at W;clear E rc0 rc1 rfz f C B
    go_wp2_with fail
    refine(HC.out m Om V (k2+1) r.tail Q.out (by rw[Yb4];omega)).mono ?_;rintro e S ⟨pv,v,rfl,I,d,T⟩;have b1:Hid (w.grownBy S (some R.b)):=Zj a9.out T;have b9:Hid (Zh S a (.iface ty u)):=b0.read Q.out T;clear T a9 b0;cases c:Zs m false (lv+1) .nil r.tail deep with
    | error er=>
     have K:=hid (d.err c);obtain⟨fa,rfl⟩:=K.shape;have L:Hid (PR=.error er):=hid (by rw[<-l.out,c];rfl);clear d c;go_wp2;go_ret2;exact⟨_,_,rfl,Or.inl rfl,by rw[L.out];exact K,b1.out⟩
    | ok pr=>
     obtain⟨b,y⟩:=pr;obtain⟨rfl,⟨k9,b2⟩,U⟩:=d.good c;have c0:Hid (RK S R k9 y):=b2;have c1:Hid (Zh S b pv):=U;have c2:Hid (Zs m true lv (.node 0 0 (nd0 p.1 p.2) a b) y deep=PR):=hid (by rw[<-l.out,c];rfl);have X:=Zg1 m false (lv+1) .nil r.tail deep _ c;simp only[Yb4,Yde,if_false]at X;obtain⟨ty2,u2,b3⟩:=Zh.shape U;subst b3;have b4:Hid (Zh S (.node 0 0 (nd0 p.1 p.2) a b) (.iface 149 (.agg #[Vi j,.iface ty u,.iface ty2 u2]))):=hid (Or.inr (Or.inr (Or.inr (Or.inr (Or.inr ⟨a8.2,_,_,by rw[a8.1],b9.out,c1.out⟩)))));clear d c b2 U I l;go_wp2
     go_roundg y.length
     case measure=>omega
     case rel=>exact⟨_,y,k9,m,rfl,b4,c0,⟨by omega,by omega,c2.out⟩,b1⟩
theorem ZnQ:∀n,(∀lv,lv<=3->∀m,m<=n->RP lv m)/\(∀m,m<=n->RF m)
 | 0 => by
   constructor
   · intro lv g m c w R k ts deep _ _ a
     exact absurd (show 10*ts.length+5<=m+lv from a) Om
   · intro m c w R k ts deep _ _ a
     exact absurd (show 10*ts.length+2<=m from a) Om
 | n + 1 => by
   obtain⟨f,i⟩:=ZnQ n
   have p:RF (n+1):=by
     intro w R k ts deep h hd a;have q:10*ts.length+2<=n+1:=a;show Calls _ _ _ _ (fun e u=>∃(pv v:Value),e=.returned (.tuple #[pv,v])/\Zhp pv/\Hid (Res R (fun u t=>Zh u t pv) u (Zs (n+1) false 3 .nil ts deep) v)/\w.grownBy u (some R.b));rw[ZAc];refine Zv2 (rec:=fun lv ts d=>Zs n false lv .nil ts d) (m:=ts.length) ?_ (Zug ?_) w R k ts deep h hd (Yac _)
     · intro w R k ts2 deep h hd j
       exact i n (Yac _) w R k ts2 deep h hd (by show 10*ts2.length+2<=n;have l:ts2.length<ts.length:=j;omega)
     · intro w R k ts2 deep h hd j
       exact f 0 Om n (Yac _) w R k ts2 deep h hd (by show 10*ts2.length+5<=n+0;have l:ts2.length<ts.length:=j;omega)
   constructor
   · intro lv g m c
     by_cases o:m<=n
     · exact f lv g m o
     · obtain rfl:m=n+1:=by omega
       by_cases l:lv=3
       · subst l;exact ZAh p
       · exact ZAj Om (fun m c=>f (lv+1) Om m c)
   · intro m c
     by_cases o:m<=n
     · exact i m o
     · obtain rfl:m=n+1:=by omega
       exact p
theorem ZhB(v:Value)(w:World):(Instr.typeAssert (.iface 152 v) 50 152 true).run prog w=.ok (.tuple #[v,.bool true]) w:=by kernel_rfl
theorem ZkO(v:Value)(w:World):(Instr.typeAssert (.iface 152 v) 50 154 true).run prog w=.ok (.tuple #[.agg #[.nilIface],.bool false]) w:=by kernel_rfl
theorem ZkP(v:Value)(w:World):(Instr.typeAssert (.iface 152 v) 50 149 true).run prog w=.ok (.tuple #[.agg #[Vi 0,.nilIface,.nilIface],.bool false]) w:=by kernel_rfl
theorem ZkN(v:Value)(w:World):(Instr.typeAssert (.iface 152 v) 50 156 true).run prog w=.ok (.tuple #[.agg #[.string ByteArray.empty,S0,.nilIface],.bool false]) w:=by kernel_rfl
theorem ZkQ(v:Value)(w:World):(Instr.typeAssert (.iface 152 v) 50 181 true).run prog w=.ok (.tuple #[.agg #[.string ByteArray.empty,.string ByteArray.empty,S0,Vi 0],.bool false]) w:=by kernel_rfl
theorem ZiT(v:Value)(w:World):(Instr.typeAssert (.iface 152 v) 50 179 true).run prog w=.ok (.tuple #[.agg #[.string ByteArray.empty,S0],.bool false]) w:=by kernel_rfl
theorem ZhA(v:Value)(w:World):(Instr.typeAssert (.iface 154 v) 50 152 true).run prog w=.ok (.tuple #[.agg #[Vi 0],.bool false]) w:=by kernel_rfl
theorem Zhz(v:Value)(w:World):(Instr.typeAssert (.iface 154 v) 50 154 true).run prog w=.ok (.tuple #[v,.bool true]) w:=by kernel_rfl
theorem ZkL(v:Value)(w:World):(Instr.typeAssert (.iface 154 v) 50 149 true).run prog w=.ok (.tuple #[.agg #[Vi 0,.nilIface,.nilIface],.bool false]) w:=by kernel_rfl
theorem ZkK(v:Value)(w:World):(Instr.typeAssert (.iface 154 v) 50 156 true).run prog w=.ok (.tuple #[.agg #[.string ByteArray.empty,S0,.nilIface],.bool false]) w:=by kernel_rfl
theorem ZkM(v:Value)(w:World):(Instr.typeAssert (.iface 154 v) 50 181 true).run prog w=.ok (.tuple #[.agg #[.string ByteArray.empty,.string ByteArray.empty,S0,Vi 0],.bool false]) w:=by kernel_rfl
theorem ZiS(v:Value)(w:World):(Instr.typeAssert (.iface 154 v) 50 179 true).run prog w=.ok (.tuple #[.agg #[.string ByteArray.empty,S0],.bool false]) w:=by kernel_rfl
theorem ZgB(v:Value)(w:World):(Instr.typeAssert (.iface 149 v) 50 152 true).run prog w=.ok (.tuple #[.agg #[Vi 0],.bool false]) w:=by kernel_rfl
theorem ZgA(v:Value)(w:World):(Instr.typeAssert (.iface 149 v) 50 154 true).run prog w=.ok (.tuple #[.agg #[.nilIface],.bool false]) w:=by kernel_rfl
theorem ZgC(v:Value)(w:World):(Instr.typeAssert (.iface 149 v) 50 149 true).run prog w=.ok (.tuple #[v,.bool true]) w:=by kernel_rfl
theorem ZkR(v:Value)(w:World):(Instr.typeAssert (.iface 149 v) 50 156 true).run prog w=.ok (.tuple #[.agg #[.string ByteArray.empty,S0,.nilIface],.bool false]) w:=by kernel_rfl
theorem ZkS(v:Value)(w:World):(Instr.typeAssert (.iface 149 v) 50 181 true).run prog w=.ok (.tuple #[.agg #[.string ByteArray.empty,.string ByteArray.empty,S0,Vi 0],.bool false]) w:=by kernel_rfl
theorem ZiU(v:Value)(w:World):(Instr.typeAssert (.iface 149 v) 50 179 true).run prog w=.ok (.tuple #[.agg #[.string ByteArray.empty,S0],.bool false]) w:=by kernel_rfl
theorem Zhx(v:Value)(w:World):(Instr.typeAssert (.iface 156 v) 50 152 true).run prog w=.ok (.tuple #[.agg #[Vi 0],.bool false]) w:=by kernel_rfl
theorem Zhw(v:Value)(w:World):(Instr.typeAssert (.iface 156 v) 50 154 true).run prog w=.ok (.tuple #[.agg #[.nilIface],.bool false]) w:=by kernel_rfl
theorem Zhy(v:Value)(w:World):(Instr.typeAssert (.iface 156 v) 50 149 true).run prog w=.ok (.tuple #[.agg #[Vi 0,.nilIface,.nilIface],.bool false]) w:=by kernel_rfl
theorem Zhv(v:Value)(w:World):(Instr.typeAssert (.iface 156 v) 50 156 true).run prog w=.ok (.tuple #[v,.bool true]) w:=by kernel_rfl
theorem ZkJ(v:Value)(w:World):(Instr.typeAssert (.iface 156 v) 50 181 true).run prog w=.ok (.tuple #[.agg #[.string ByteArray.empty,.string ByteArray.empty,S0,Vi 0],.bool false]) w:=by kernel_rfl
theorem ZiR(v:Value)(w:World):(Instr.typeAssert (.iface 156 v) 50 179 true).run prog w=.ok (.tuple #[.agg #[.string ByteArray.empty,S0],.bool false]) w:=by kernel_rfl
theorem ZhJ(v:Value)(w:World):(Instr.typeAssert (.iface 181 v) 50 152 true).run prog w=.ok (.tuple #[.agg #[Vi 0],.bool false]) w:=by kernel_rfl
theorem ZhI(v:Value)(w:World):(Instr.typeAssert (.iface 181 v) 50 154 true).run prog w=.ok (.tuple #[.agg #[.nilIface],.bool false]) w:=by kernel_rfl
theorem ZhK(v:Value)(w:World):(Instr.typeAssert (.iface 181 v) 50 149 true).run prog w=.ok (.tuple #[.agg #[Vi 0,.nilIface,.nilIface],.bool false]) w:=by kernel_rfl
theorem ZhH(v:Value)(w:World):(Instr.typeAssert (.iface 181 v) 50 156 true).run prog w=.ok (.tuple #[.agg #[.string ByteArray.empty,S0,.nilIface],.bool false]) w:=by kernel_rfl
theorem ZhL(v:Value)(w:World):(Instr.typeAssert (.iface 181 v) 50 181 true).run prog w=.ok (.tuple #[v,.bool true]) w:=by kernel_rfl
theorem ZiV(v:Value)(w:World):(Instr.typeAssert (.iface 181 v) 50 179 true).run prog w=.ok (.tuple #[.agg #[.string ByteArray.empty,S0],.bool false]) w:=by kernel_rfl
theorem ZhE(v:Value)(w:World):(Instr.typeAssert (.iface 179 v) 50 152 true).run prog w=.ok (.tuple #[.agg #[Vi 0],.bool false]) w:=by kernel_rfl
theorem ZhD(v:Value)(w:World):(Instr.typeAssert (.iface 179 v) 50 154 true).run prog w=.ok (.tuple #[.agg #[.nilIface],.bool false]) w:=by kernel_rfl
theorem ZhF(v:Value)(w:World):(Instr.typeAssert (.iface 179 v) 50 149 true).run prog w=.ok (.tuple #[.agg #[Vi 0,.nilIface,.nilIface],.bool false]) w:=by kernel_rfl
theorem ZhC(v:Value)(w:World):(Instr.typeAssert (.iface 179 v) 50 156 true).run prog w=.ok (.tuple #[.agg #[.string ByteArray.empty,S0,.nilIface],.bool false]) w:=by kernel_rfl
theorem ZhG(v:Value)(w:World):(Instr.typeAssert (.iface 179 v) 50 181 true).run prog w=.ok (.tuple #[.agg #[.string ByteArray.empty,.string ByteArray.empty,S0,Vi 0],.bool false]) w:=by kernel_rfl
theorem ZgD(v:Value)(w:World):(Instr.typeAssert (.iface 179 v) 50 179 true).run prog w=.ok (.tuple #[v,.bool true]) w:=by kernel_rfl
attribute [local go_sem] ZhB ZkO ZkP ZkN ZkQ ZiT ZhA Zhz ZkL ZkK ZkM ZiS ZgB ZgA ZgC ZkR ZkS ZiU Zhx Zhw Zhy Zhv ZkJ ZiR ZhJ ZhI ZhK ZhH ZhL ZiV ZhE ZhD ZhF ZhC ZhG ZgD
def KR(tp:Addr)(t:Tr)(kd:Int)(err:Value):Prop:=(Zf t=0/\err=.iface 389 (.pointer (some tp)))∨(Zf t=1/\kd=0/\err=.nilIface)∨(Zf t=2/\kd=1/\err=.nilIface)
def Zgy(w:World)(tp:Addr):Prop:=w.cell? ⟨3,0,none⟩=some (.iface 389 (.pointer (some tp)))
theorem Zgy.below{w w':World}{tp:Addr}(h:Zgy w tp)(a:BW w w'):Zgy w' tp:=(a.cell (p:=⟨_,0,none⟩) (Yai _ _ h)).trans h
def KC(t:Tr):Prop:=∀(w:World) (v:Value) (tp:Addr),Zh w t v->Zgy w tp->
 CP 35 #[v] w fun e w'=>∃(kd:Int) (err:Value),e=.returned (.tuple #[Vi kd,err])/\Hid (KR tp t kd err)/\BW w w'
theorem ZED{t:Tr}(h:KC t)(w:World){v:Value}(tp:Addr)(f:Zh w t v)(g:Zgy w tp) :
  CP 69 #[v] w fun e l=>∃err:Value,e=.returned err/\Hid ((Zf t=2/\err=.nilIface)∨(Zf t≠2/\err=.iface 389 (.pointer (some tp))))/\BW w l:=by
 have k:Hid (CP 35 #[v] w _):=h w v tp f g;have m:Hid (Zgy w tp):=g;obtain⟨ty,u,rfl⟩:=Zh.shape f;clear h f g;go_enter func69,ntmps69
 go_wp2_with fail
 refine k.mono ?_;rintro e y ⟨kd,err,rfl,d,i⟩;have j:Hid (BW w y):=i;have n:y.cell? ⟨3,0,none⟩=some (.iface 389 (.pointer (some tp))):=m.below i;clear i k;rcases d.out with ⟨a,rfl⟩|⟨a,rfl,rfl⟩|⟨a,rfl,rfl⟩
 ·have c:Hid (Zf t=0):=a;clear d a;go_wp2;go_ret;exact⟨_,rfl,Or.inr ⟨by rw[c.out];decide,rfl⟩,j.out⟩
 ·have c:Hid (Zf t=1):=a;clear d a;go_wp2;go_ret;exact⟨_,rfl,Or.inr ⟨by rw[c.out];decide,rfl⟩,j.out⟩
 ·have c:Hid (Zf t=2):=a;clear d a;go_wp2;go_ret;exact⟨_,rfl,Or.inl ⟨c.out,rfl⟩,j.out⟩
theorem Zxy{x y:Nat}{a:Nd}{l r:Tr}(h:a.jx=4∨a.jx=6):Zf (.node x y a l r)=if Zf l=0∨Zf r=0∨(a.jx=6/\Zf l+Zf r≠4)then 0 else if Zf l+Zf r=2 then 1 else 2:=by
 show(if a.jx=0 then _ else _)=_;rw[if_neg Om,if_neg Om,if_neg Om,if_neg Om]
theorem ZxB{x y:Nat}{a:Nd}{l r:Tr}(F:a.jx=4∨a.jx=6)(J:KC l)(K:KC r)(w:World){vl vr:Value}(tp:Addr)(q:Zh w l vl)(k:Zh w r vr)(E:Zgy w tp) :
  CP 70 #[.agg #[Vi (opNo a),vl,vr]] w fun e u=>∃(kd:Int) (err:Value),e=.returned (.tuple #[Vi kd,err])/\Hid (KR tp (.node x y a l r) kd err)/\BW w u:=by
 obtain⟨tyl,ul,rfl⟩:=Zh.shape q;obtain⟨tyr,ur,rfl⟩:=Zh.shape k;have s:=hid (Zxy (x:=x) (y:=y) (l:=l) (r:=r) F);have T:Hid (Zh w r (.iface tyr ur)):=k;have S:Hid (Zgy w tp):=E;obtain⟨o,p⟩:∃o,o=opNo a:=⟨_,rfl⟩
 have L:(a.jx=6/\((o:Int) == 0)=true)∨(a.jx=4/\((o:Int) == 0)=false):=by
  rcases F with h|h
  ·right
   refine⟨h,?_⟩;rw[beq_eq_false_iff_ne,p];unfold opNo;rw[if_neg Om];omega
  ·left
   refine⟨h,?_⟩;rw[p];unfold opNo;rw[if_pos h];rfl
 rw[<-p];have M:Hid (∀(W:World),BW w W->CP 35 #[.iface tyl ul] W fun e u=>∃(kd:Int) (err:Value),e=.returned (.tuple #[Vi kd,err])/\Hid (KR tp l kd err)/\BW W u):=hid (fun W t=>J W _ tp (q.below t) (E.below t));have N:Hid (∀(W:World),BW w W->CP 35 #[.iface tyr ur] W fun e u=>∃(kd:Int) (err:Value),e=.returned (.tuple #[Vi kd,err])/\Hid (KR tp r kd err)/\BW W u):=hid (fun W t=>K W _ tp (k.below t) (E.below t));clear q k E J K F p;go_enter func70,ntmps70
 go_upto_region 1 with fail
 refine ZP fun G v=>?_;have m:Hid (BW w G):=hid (by rw[v];exact Zbal);have g:Hid (BAt G w.heap.size [Vi o,.iface tyl ul,.iface tyr ur] 149):=hid (by rw[v];exact Go.Deep.blk_alloc_new _ _);clear v;have p0:=g.cell 0;have p1:=g.cell 1;have p2:=g.cell 2;simp only[Zget]at p0 p1 p2
 go_wp2_with fail
 refine(M.out G m.out).mono ?_;rintro e O ⟨kd,err,rfl,A,B⟩;have i:Hid (BW w O):=m.trans (B.mono m.size);have j:=hid (g.below B);clear B m g p0 p1 p2;have p0:=j.cell 0;have p1:=j.cell 1;have p2:=j.cell 2;simp only[Zget]at p0 p1 p2;rcases A.out with ⟨d,rfl⟩|⟨d,rfl,rfl⟩|⟨d,rfl,rfl⟩
 ·have H:Hid (Zf (.node x y a l r)=0):=hid (by rw[s.out,if_pos (Or.inl d)]);clear A d;go_wp2;go_ret2;exact⟨_,_,rfl,Or.inl ⟨H.out,rfl⟩,i.out⟩
 all_goals
  have P:=hid d;clear A d
  go_wp2_with fail
  refine(N.out O i.out).mono ?_;rintro e z ⟨kd2,err2,rfl,C,D⟩;have c:Hid (BW w z):=i.trans (D.mono i.size);have Q:=hid (j.below D);have U:z.cell? ⟨3,0,none⟩=some (.iface 389 (.pointer (some tp))):=S.below c.out;clear D i j p0 p1 p2;have p0:=Q.cell 0;simp only[Ycy]at p0;rcases C.out with ⟨f,rfl⟩|⟨f,rfl,rfl⟩|⟨f,rfl,rfl⟩
  ·have H:Hid (Zf (.node x y a l r)=0):=hid (by rw[s.out,if_pos (Or.inr (Or.inl f))]);clear C f;go_wp2;go_ret2;exact⟨_,_,rfl,Or.inl ⟨H.out,rfl⟩,c.out⟩
  all_goals
   have R:=hid f;clear C f;rcases L with ⟨I,p⟩|⟨I,p⟩
   all_goals
    have n:=hid (show Zf (.node x y a l r)=_ by rw[s.out,P.out,R.out,I]);clear I
    first
     | (go_wp2
        go_ret2;exact⟨_,_,rfl,by first|exact Or.inr (Or.inl ⟨by rw[n.out];rfl,rfl,rfl⟩)|exact Or.inr (Or.inr ⟨by rw[n.out];rfl,rfl,rfl⟩)|exact Or.inl ⟨by rw[n.out];rfl,rfl⟩,c.out⟩)
     | (go_wp2
        go_region
        all_goals
          go_wp2;go_ret2;exact⟨_,_,rfl,Or.inl ⟨by rw[n.out];rfl,rfl⟩,by exact⟨c.os,c.tape,c.output,c.size,c.block⟩⟩)
theorem Zl2:∀t:Tr,KC t
 | .nil=>fun _ _ _ h=>h.elim
 | .node x y a l r => by
   have f:=Zl2 l;have g:=Zl2 r;intro w v tp F k;rcases F with ⟨d,rfl⟩|⟨d,nm,la,ln,lc,rfl,_⟩|⟨d,G,nm,la,ln,lc,rfl,_⟩|⟨d,z,rfl,p⟩|⟨d,G,la,ln,lc,z,rfl,_,_,p⟩|⟨d,z1,z2,rfl,q,s⟩
   · have j:Hid (Zf (.node x y a l r)=1):=hid (by show(if a.jx=0 then _ else _)=_;rw[if_pos d])
     clear f g d k;go_enter func35,ntmps35;go_wp2;go_ret2;exact⟨_,_,rfl,Or.inr (Or.inl ⟨j.out,rfl,rfl⟩),belB⟩
   · have j:Hid (Zf (.node x y a l r)=2):=hid (by show(if a.jx=0 then _ else _)=_;rw[if_neg Om,if_pos (Or.inl d)])
     clear f g d k;go_enter func35,ntmps35;go_wp2;go_ret2;exact⟨_,_,rfl,Or.inr (Or.inr ⟨j.out,rfl,rfl⟩),belB⟩
   · have j:Hid (Zf (.node x y a l r)=2):=hid (by show(if a.jx=0 then _ else _)=_;rw[if_neg Om,if_pos (Or.inr d)])
     clear f g d k;go_enter func35,ntmps35;go_wp2;go_ret2;exact⟨_,_,rfl,Or.inr (Or.inr ⟨j.out,rfl,rfl⟩),belB⟩
   · have j:Hid (Zf (.node x y a l r)=Zf l):=hid (by show(if a.jx=0 then _ else _)=_;rw[if_neg Om,if_neg Om,if_pos d])
     obtain⟨ty,u,rfl⟩:=Zh.shape p;have A:Hid (∀W,BW w W->CP 35 #[.iface ty u] W fun e B=>∃(kd:Int) (err:Value),e=.returned (.tuple #[Vi kd,err])/\Hid (KR tp l kd err)/\BW W B):=hid (fun W c=>f W _ tp (p.below c) (k.below c));clear f g d k p;go_enter func35,ntmps35
     go_wp2_with fail
     refine Zm fun W c=>?_;have i:Hid (BW w W):=hid (by rw[c];exact belB);clear c;refine(A.out W i.out).mono ?_;rintro e C ⟨kd,err,rfl,m,n⟩;have o:Hid (BW w C):=i.trans (n.mono i.size);clear n;go_wp2;go_ret2;exact⟨_,_,rfl,by unfold KR;rw[j.out];exact m,o.out⟩
   · have j:Hid (Zf (.node x y a l r)=if Zf l=2 then 2 else 0):=hid (by show(if a.jx=0 then _ else _)=_;rw[if_neg Om,if_neg Om,if_neg Om,if_pos d])
     obtain⟨ty,u,rfl⟩:=Zh.shape p;have A:Hid (∀W,BW w W->CP 69 #[.iface ty u] W fun e B=>∃err:Value,e=.returned err/\Hid ((Zf l=2/\err=.nilIface)∨(Zf l≠2/\err=.iface 389 (.pointer (some tp))))/\BW W B):=hid (fun W c=>ZED f W tp (p.below c) (k.below c));clear f g d k p;go_enter func35,ntmps35
     go_wp2_with fail
     refine Zm fun W c=>?_;have i:Hid (BW w W):=hid (by rw[c];exact belB);clear c;refine(A.out W i.out).mono ?_;rintro e C ⟨err,rfl,m,n⟩;have o:Hid (BW w C):=i.trans (n.mono i.size);clear n;go_wp2;go_ret2;refine⟨_,_,rfl,?_,o.out⟩;rcases m.out with ⟨D,E⟩|⟨D,E⟩
     · exact Or.inr (Or.inr ⟨by rw[j.out,if_pos D],rfl,E⟩)
     · exact Or.inl ⟨by rw[j.out,if_neg D],E⟩
   · obtain⟨ty,u,rfl⟩:=Zh.shape q
     obtain⟨ty2,u2,rfl⟩:=Zh.shape s;have A:Hid (∀W,BW w W->CP 70 #[.agg #[Vi (opNo a),.iface ty u,.iface ty2 u2]] W fun e B=>∃(kd:Int) (err:Value),e=.returned (.tuple #[Vi kd,err])/\Hid (KR tp (.node x y a l r) kd err)/\BW W B):=hid (fun W c=>ZxB d f g W tp (q.below c) (s.below c) (k.below c));clear f g d k q s;go_enter func35,ntmps35
     go_wp2_with fail
     refine Zm fun W c=>?_;have i:Hid (BW w W):=hid (by rw[c];exact belB);clear c;refine(A.out W i.out).mono ?_;rintro e C ⟨kd,err,rfl,m,n⟩;have o:Hid (BW w C):=i.trans (n.mono i.size);clear n;go_wp2;go_ret2;exact⟨_,_,rfl,m,o.out⟩
end Go.Proofs.YtpbemaaghbbocaaGreatDoor
namespace Go.Proofs.YtpbemaaghbbocaaGreatDoor
open Go.RowKit LS Go.Proofs.Tryz
theorem Zj5{p:UInt8->Bool}(s:BA)(k:Nat)(h:k<s.size)(a:p s[k]=true):run p ((bl s).drop k)=run p ((bl s).drop (k+1))+1:=by
 rw[ZdW s k h,run,if_pos a]
theorem ZrY{p:UInt8->Bool}(s:BA)(k:Nat)(h:k<s.size)(a:p s[k]=false):run p ((bl s).drop k)=0:=by
 rw[ZdW s k h,run,if_neg (by rw[a];exact Ycv)]
theorem ZrU{p:UInt8->Bool}(s:BA)(k:Nat)(h:¬k<s.size):run p ((bl s).drop k)=0:=by
 rw[Yb8 (by rw[Zd];omega)];rfl
theorem ZBB(s:BA)(k:Nat)(w:World)(l:s.size<=6000)(h:k<=s.size) :
  CP 59 #[.string s,Vi k,.func (.func 58) #[] #[]] w fun e u=>e=.returned (Vi ((k+run ZC ((bl s).drop k):Nat):Int))/\u=w:=by
 obtain⟨E,d⟩:∃E,E=k+run ZC ((bl s).drop k):=⟨_,rfl⟩
 rw[<-d];have g:Hid (E=k+run ZC ((bl s).drop k)):=d;clear d;go_enter func59,ntmps59;go_wp2
 go_loop [1] (fun i=>∃j:Nat,j<=s.size/\i=Vi j/\Hid (E=j+run ZC ((bl s).drop j))) (fun i=>s.size - (intOf i).toNat)
 case atStart=>exact⟨k,h,rfl,g⟩
 case round=>
  obtain⟨j,m,rfl,f⟩:=hrel;clear g;by_cases a:j<s.size
  ·cases hd:ZC s[j]
   ·have c:Hid (E=j):=hid (by rw[f.out,ZrY s j a hd];rfl)
    go_wp2_with (go_at_call 58;refine(Zdk).mono ?_;rintro e u ⟨rfl,rfl⟩)
    go_ret;exact⟨by rw[c.out];rfl,rfl⟩
   ·have c:Hid (E=(j+1)+run ZC ((bl s).drop (j+1))):=hid (by rw[f.out,Zj5 s j a hd];omega)
    go_wp2_with (go_at_call 58;refine(Zdk).mono ?_;rintro e u ⟨rfl,rfl⟩)
    go_round
    case rel=>exact⟨j+1,by omega,by go_num,c⟩
    case measure=>simp[intOf];omega
  ·have c:Hid (E=j):=hid (by rw[f.out,ZrU s j a];rfl);go_wp2;go_ret;exact⟨by rw[c.out];rfl,rfl⟩
theorem ZBD(s:BA)(k:Nat)(w:World)(l:s.size<=6000)(h:k<=s.size) :
  CP 59 #[.string s,Vi k,.func (.func 61) #[] #[]] w fun e u=>e=.returned (Vi ((k+run Zp ((bl s).drop k):Nat):Int))/\u=w:=by
 obtain⟨E,d⟩:∃E,E=k+run Zp ((bl s).drop k):=⟨_,rfl⟩
 rw[<-d];have g:Hid (E=k+run Zp ((bl s).drop k)):=d;clear d;go_enter func59,ntmps59;go_wp2
 go_loop [1] (fun i=>∃j:Nat,j<=s.size/\i=Vi j/\Hid (E=j+run Zp ((bl s).drop j))) (fun i=>s.size - (intOf i).toNat)
 case atStart=>exact⟨k,h,rfl,g⟩
 case round=>
  obtain⟨j,m,rfl,f⟩:=hrel;clear g;by_cases a:j<s.size
  ·cases hd:Zp s[j]
   ·have c:Hid (E=j):=hid (by rw[f.out,ZrY s j a hd];rfl)
    go_wp2_with (go_at_call 61;refine(Zd2).mono ?_;rintro e u ⟨rfl,rfl⟩)
    go_ret;exact⟨by rw[c.out];rfl,rfl⟩
   ·have c:Hid (E=(j+1)+run Zp ((bl s).drop (j+1))):=hid (by rw[f.out,Zj5 s j a hd];omega)
    go_wp2_with (go_at_call 61;refine(Zd2).mono ?_;rintro e u ⟨rfl,rfl⟩)
    go_round
    case rel=>exact⟨j+1,by omega,by go_num,c⟩
    case measure=>simp[intOf];omega
  ·have c:Hid (E=j):=hid (by rw[f.out,ZrU s j a];rfl);go_wp2;go_ret;exact⟨by rw[c.out];rfl,rfl⟩
theorem St.tok{w:World}{b:Nat}{pv:Value}{s:BA}{deep:Nat}{ts:List Tok}(h:St w b pv s deep (.ok ((),ts))):∃q:QV,QAt w b q/\ZJB q=hd ts/\q.tx.size<=s.size+2/\q.e=0/\q.deep=deep/\ts.tail.length+1=ts.length/\((hd ts).jx=1->(ZQ 1000000000 (hd ts).txt).isSome=true):=by
 obtain⟨⟨q,d,i,j,f,g,k,a⟩,_⟩:=h;have:=Toks.txt_le (l:=bl s) (t:=ZJB q) (at_:=q.at_) (ts:=ts) a;have e:(ZJB q).txt=bl q.tx:=rfl;rw[e,Zd,Zd]at this;have c:=Toks.num (l:=bl s) (t:=ZJB q) (at_:=q.at_) (ts:=ts) a;rw[<-show LS.hd ts=ZJB q from a.hd]at c;exact⟨q,d,a.hd.symm,this,g,f,a.pos.symm,c⟩
theorem ZJq.grownQ{w w':World}{b:Nat}{pv:Value}{s:BA}{deep base:Nat}{r:Out Unit}{p:PV}{cs:List (LB×LB×Bool)}(h:ZJq w base p cs)(c:St w b pv s deep r)(f:w.grownBy w' (some b)):ZJq w' base p cs:=by
 obtain⟨qs,a,g⟩:=h;obtain⟨q,i,_⟩:=c.view;exact⟨qs,ZdA a (fun k d=>f.block k (a.lt k d).2 (fun e=>Zcx a i Dc (by rw[d,e]))),g⟩
def ZJH(w:World)(p:PV)(y:Out Unit):Prop:=∀t z,y=.ok ((),t)->selP t=.ok z->p=⟨1,0,0,p.nm,p.ca,p.cn,p.cc,none,0,0,0,0⟩/\z.1=⟨1,0,0,bl p.nm,z.1.jq,[]⟩/\ZJq w 0 p z.1.jq
theorem ZJH.grown{w w':World}{b:Nat}{pv:Value}{s:BA}{deep:Nat}{r y:Out Unit}{p:PV}(h:ZJH w p y)(a:St w b pv s deep r)(c:w.grownBy w' (some b)):ZJH w' p y:=
 fun t z e d=>let ⟨h1,h2,h3⟩:=h t z e d;⟨h1,h2,h3.grownQ a c⟩
def ErrC(f:FuncId):Prop:=∀(w:World) (b:Nat) (pv:Value) (e p deep:Nat),QErr w b pv e p deep->CP f #[Vp b] w fun r w'=>r=.returned (Vi 0)/\w'=w
theorem ZJn.of_ok{f:FuncId}{s:BA}{R:List Tok->Nat->Out Tr}{L:Nat}(g:ErrC f)
  (h:∀(w:World) (b:Nat) (pv:Value) (deep:Nat) (ts:List Tok) (n:Nat) (xs:List Value) (M:Nat),St w b pv s deep (.ok ((),ts))->w.ownsRow 0 131 8 pv n xs->M<=6000->n+ts.length<=M->ts.length<=L->deep<=20->
   CP f #[Vp b] w fun e u=>∃i:Int,e=.returned (Vi i)/\PartRes w b pv s deep xs M (R ts deep) i u):ZJn f s R L:=by
 intro w b pv deep r n xs M a c j d k l;cases r with
 | error x=>
  refine(g w b pv x.1 x.2 deep a).mono ?_;rintro e u ⟨rfl,rfl⟩;exact⟨0,rfl,PartRes.error a c d⟩
 | ok x=>exact h w b pv deep x.2 n xs M a c j d (k _ rfl) l
theorem St.pos{w:World}{b:Nat}{pv:Value}{s:BA}{deep:Nat}{ts:List Tok}(h:St w b pv s deep (.ok ((),ts))):0<ts.length:=by
 obtain⟨_,_,_,_,_,_,h,_⟩:=h.tok;omega
theorem ZJn.zero{f:FuncId}{s:BA}{R:List Tok->Nat->Out Tr}(a:ErrC f):ZJn f s R 0:=
 ZJn.of_ok a fun w b pv deep ts n xs M c _ _ _ d _=>absurd c.pos Om
theorem Rep.at{w:World}{pv:Value}{n:Nat}{xs:List Value}(d:w.ownsRow 0 131 8 pv n xs){x y:Nat}{nd:Nd}{l r:Tr}{i:Nat}(h:Rep w xs (.node x y nd l r) i) :
  ∃(g cp:Nat) (p:PV) (a c:Nat),pv=.slice (some ⟨g,0,none⟩) n cp/\g<w.heap.size/\i<n/\ZKf w nd p/\p.a=a/\p.b=c/\Rep w xs l a/\Rep w xs r c/\
   w.cell? ⟨g,i*8,none⟩=some (Vi p.k)/\w.cell? ⟨g,i*8+1,none⟩=some (Vi p.n)/\w.cell? ⟨g,i*8+2,none⟩=some (Vi p.op)/\w.cell? ⟨g,i*8+3,none⟩=some (.string p.nm)/\
   w.cell? ⟨g,i*8+4,none⟩=some (.slice p.ca p.cn p.cc)/\w.cell? ⟨g,i*8+5,none⟩=some (.slice p.ba p.bn p.bc)/\w.cell? ⟨g,i*8+6,none⟩=some (Vi p.a)/\w.cell? ⟨g,i*8+7,none⟩=some (Vi p.b):=by
 obtain⟨p,a,c,m,q,s,t,_,_,u,z⟩:=h;have f:=congrArg List.length m;rw[ZKR,Ya7,Ybv,d.1]at f;have A:i<n:=by omega
 obtain⟨g,cp,rfl⟩:=ZF d Om
 have e:∀j v,j<8->p.cells[j]?=some v->w.cell? ⟨g,i*8+j,none⟩=some v:=by
  intro j v B o;refine Zi d _ _ ?_;rw[<-m,List.getElem?_take,if_pos B,Ygv]at o;exact o
 exact⟨g,cp,p,a,c,rfl,Z1 d,A,q,s,t,u,z,e 0 _ Dc rfl,e 1 _ Dc rfl,e 2 _ Dc rfl,e 3 _ Dc rfl,e 4 _ Dc rfl,e 5 _ Dc rfl,e 6 _ Dc rfl,e 7 _ Dc rfl⟩
theorem ZJU.below{w w':World}{base:Nat}{p:PV}{ns:List (LB)}(h:ZJU w base p ns)(a:BW w w'):ZJU w' base p ns:=by
 obtain⟨bs,c,d⟩:=h;exact⟨bs,Zn c a,d⟩
theorem ZJq.below{w w':World}{base:Nat}{p:PV}{ns:List (LB×LB×Bool)}(h:ZJq w base p ns)(a:BW w w'):ZJq w' base p ns:=by
 obtain⟨bs,c,d⟩:=h;exact⟨bs,Zn c a,d⟩
theorem Rep.below{w w':World}{xs:List Value}(a:BW w w'):∀(t:Tr) (i:Nat),Rep w xs t i->Rep w' xs t i
 | .nil,_,_=>trivial
 | .node _ _ nd l r, i, h => by
   obtain⟨p,u,c,d,⟨g1,g2,g3,g4,g5,g6⟩,e,f,g,j,k,m⟩:=h;exact⟨p,u,c,d,⟨g1,g2,g3,g4,g5.below a,g6.below a⟩,e,f,g,j,Rep.below a l u k,Rep.below a r c m⟩
theorem Zid(t:Tr):Zf t<=2:=by
 cases t with
 | nil=>decide
 | node x y a l r=>
  unfold Zf;have c:=Zid l;split
  ·decide
  ·split
   ·decide
   ·split
    ·exact c
    ·split
     ·split <;> decide
     ·split
      ·decide
      ·split <;> decide
structure RowAt (w:World) (b:Nat) (pv:Value) (n:Nat) (xs:List Value):Prop where
 cell:w.cell? ⟨b,0,none⟩=some pv
 own:w.ownsRow 0 131 8 pv n xs
theorem RowAt.below{w w':World}{b:Nat}{pv:Value}{n:Nat}{xs:List Value}(h:RowAt w b pv n xs)(a:BW w w'):RowAt w' b pv n xs:=
 ⟨(a.cell (p:=⟨b,0,none⟩) (Yai _ _ h.cell)).trans h.cell,Zn h.own a⟩
theorem ZjC(l:LB)(a:l.length<=300):∀(n i:Nat),tw (ZN l n i)<=332*(ZN l n i).length
 | 0,_=>Yac _
 | n + 1, i => by
   have c:=Zyb l i;have d:=ZjC l a n (Zk l i).2;unfold ZN;split
   · simp[tw];omega
   · simp[tw];omega
theorem ZcV(a b:BA):bl (a++b)=bl a++bl b:=by simp[bl]
def dig(d:Nat):UInt8:=UInt8.ofNat (48+d)
def decS(n:Nat):LB:=if n<=9 then [dig n] else decS (n / 10)++[dig (n % 10)]
theorem Zh0{n:Nat}(h:n<=9):decS n=[dig n]:=by rw[decS,if_pos h]
theorem Zi6{n:Nat}(h:¬n<=9):decS n=decS (n / 10)++[dig (n % 10)]:=by rw[decS,if_neg h]
def opS(o:Nat):LB:=[[43],[45],[42],[47]].getD o []
def Zbv(a:Nd)(pl pr:Nat->LB):LB:=
 if a.jx=0 then decS a.n.toNat
 else if a.jx=1 then selS a
 else if a.jx=2 then Z0.getD a.op []++[40]++selS a++[91]++decS a.n.toNat++[93,41]
 else if a.jx=3 then [45]++pl 4
 else if a.jx=5 then ZW.getD a.op []++[32,98,121,32,40]++commas a.by_++[41,32,40]++pl 1++[41]
 else if a.jx=6 then pl 1++[32,111,114,32]++pr 2
 else pl (Zz a)++[32]++opS a.op++[32]++pr (Zz a+1)
def ZeK(b:Bool)(s:LB):LB:=if b then [40]++s++[41] else s
def Zu:Tr->Nat->LB
 | .nil,_=>[]
 | .node _ _ a l r,must=>ZeK (decide (Zz a<must)) (Zbv a (Zu l) (Zu r))
theorem ZhZ:∀(k n:Nat),n<10 ^ (k+1)->(decS n).length<=k+1
 | 0,n,h=>by rw[Zh0 (by simp at h;omega)];simp
 | k + 1, n, h => by
   by_cases a:n<=9
   · rw[Zh0 a];simp
   · rw[Zi6 a,Yab]
     have:=ZhZ k (n / 10) (by rw[Nat.pow_succ]at h;omega);simp;omega
theorem ZhX(a b:LB)(l:List (LB)):commas (a::b::l)=a++44::commas (b::l):=rfl
theorem ZeS:∀(l:List (LB)),(commas l).length<=nw l
 | []=>Yac _
 | [a]=>by simp[commas,nw]
 | a :: b :: l => by
   have:=ZeS (b::l);rw[ZhX,Yab,Yaj];simp only[nw]at *
   omega
theorem Zu8(c:LB×LB×Bool):(Z8 c).length<=c.1.length+c.2.1.length+4:=by
 unfold Z8;split <;> simp <;> omega
theorem Zmv:∀(l:List (LB×LB×Bool)),nw (l.map Z8)<=cw l
 | []=>Yac _
 | c :: l => by
   have:=Zmv l;have:=Zu8 c;simp only[Ybb,nw,cw];omega
theorem Zr7(a:Nd):(selS a).length<=a.name.length+cw a.jq+2:=by
 unfold selS;split
 ·omega
 ·have c:=ZeS (a.jq.map Z8);have d:=Zmv a.jq;simp only[Yab,Yaj,Ybq];omega
theorem Zh5(a:List (LB))(h:∀x∈a,x.length<=5)(i:Nat):(a.getD i []).length<=5:=by
 rw[Yaa];cases c:a[i]? with
 | none=>simp
 | some x=>exact h x (Ycq c)
theorem Zow{a:Nd}(h:a.n<=1000000000){pl pr:Nat->LB}{x y:Nat}(c:∀m,(pl m).length<=x)(d:∀m,(pr m).length<=y):(Zbv a pl pr).length+2<=ownW a+x+y:=by
 have e:a.n.toNat<=1000000000:=by omega
 have f:(10:Nat) ^ 10=10000000000:=by decide
 have hd:(decS a.n.toNat).length<=10:=ZhZ 9 _ Om;have i:=Zr7 a;have j:=ZeS a.by_;have k:=Zh5 Z0 Dc a.op;have l:=Zh5 ZW Dc a.op;have g:=Zh5 [[43],[45],[42],[47]] Dc a.op;have l1:=c 1;have l4:=c 4;have lt:=c (Zz a);have r2:=d 2;have rt:=d (Zz a+1);unfold Zbv ownW;split
 ·omega
 ·split
  ·omega
  ·split
   ·simp only[Yab,Yaj,Ybq];omega
   ·split
    ·simp only[Yab,Yaj,Ybq];omega
    ·split
     ·simp only[Yab,Yaj,Ybq];omega
     ·split
      ·simp only[Yab,Yaj,Ybq];omega
      ·unfold opS;simp only[Yab,Yaj,Ybq];omega
theorem ZEX(b:Bool)(s:LB):(ZeK b s).length<=s.length+2:=by
 unfold ZeK;split <;> simp <;> omega
theorem Zfy:∀(t:Tr) (m:Nat),wfT t->(Zu t m).length<=wT t
 | .nil,_,_=>Yac _
 | .node x y a l r, m, h => by
   have c:=Zfy l;have d:=Zfy r;have e:=Zow h.2.2.2.2.2.1 (pl:=Zu l) (pr:=Zu r) (x:=wT l) (y:=wT r) (fun m=>c m h.2.2.2.2.2.2.2.2.2.2.1) (fun m=>d m h.2.2.2.2.2.2.2.2.2.2.2);have f:=ZEX (decide (Zz a<m)) (Zbv a (Zu l) (Zu r));unfold Zu wT;omega
theorem Zlc(l:List (LB))(a:LB):commas (l++[a])=(if l.isEmpty then [] else commas l++[44])++a:=by
 induction l with
 | nil=>rfl
 | cons b l ih=>
  cases l with
  | nil=>simp[commas]
  | cons c l=>
   have e:commas (b::c::l++[a])=b++44::commas (c::l++[a]):=rfl;rw[e,ih];simp[commas]
def Zey(l:LB):LB×Nat×Nat:=match ZD l with
 | .error x=>([],x.1,x.2)
 | .ok t=>(Zu t 1,0,0)
end Go.Proofs.YtpbemaaghbbocaaGreatDoor
namespace Go.Proofs.YtpbemaaghbbocaaGreatDoor.LS
open Go Go.RowKit
abbrev Lab:=LB×LB
abbrev El:=List Lab×Int
structure Ser where
 name:LB
 labs:List Lab
 jz:List (Int×Int)
abbrev VV:=Int ⊕ List El
def lab1(p:Lab):LB:=p.1++[61]++p.2
def wrt(l:List Lab):LB:=Go.Proofs.YtpbemaaghbbocaaGreatDoor.LS.commas (l.map lab1)
def cutV(n:Int):Int:=if 1000000000<n then 1000000000 else if n < -1000000000 then -1000000000 else n
def Zcd:List El->El->List El
 | [],x=>[x]
 | y::l,x=>if Op.bytesLess (wrt x.1) (wrt y.1)then x::y::l else y::Zcd l x
def ZeI:List Lab->LB->LB
 | [],_=>[]
 | p::l,n=>if p.1=n then p.2 else ZeI l n
def ZfW(s:Ser)(c:LB×LB×Bool):Bool:=!((decide (ZeI s.labs c.1=c.2.1)) == c.2.2)
def Zc1(a:Nd)(s:Ser):Bool:=a.jq.all (ZfW s) && decide (a.name=s.name)
def Zb6(l:List (Int×Int))(n t:Int):List (Int×Int):=l.filter fun x=>decide (t - n<x.1) && decide (x.1<=t)
def maxL:Int->List Int->Int
 | m,[]=>m
 | m,x::l=>maxL (if m<x then x else m) l
def minL:Int->List Int->Int
 | m,[]=>m
 | m,x::l=>minL (if x<m then x else m) l
def ZfI(op:Nat)(l:List Int):Int:=
 if op=0 then l.sum else if op=1 then maxL (l.headD 0) l else if op=2 then minL (l.headD 0) l else if op=3 then (l.length:Int)else l.getLastD 0 - l.headD 0
def oneV(op:Option Nat)(l:List (Int×Int)):Int:=match op with
 | none=>(l.getLastD (0,0)).2
 | some o=>cutV (ZfI o (l.map (·.2)))
def Zc4(st:List Ser)(a:Nd)(op:Option Nat)(size t:Int):List El:=
 st.foldl (fun acc s=>if Zc1 a s && !(Zb6 s.jz size t).isEmpty then Zcd acc (s.labs,oneV op (Zb6 s.jz size t))else acc) []
def twoV(op:Nat)(a b:Int):Int:=if op=0 then cutV (a+b)else if op=1 then cutV (a - b)else if op=2 then cutV (a*b)else if b=0 then 0 else a.tdiv b
def Zdg(op:Nat):VV->VV->VV
 | .inl a,.inl b=>.inl (twoV op a b)
 | .inl a,.inr y=>.inr (y.map fun e=>(e.1,twoV op a e.2))
 | .inr x,.inl b=>.inr (x.map fun e=>(e.1,twoV op e.2 b))
 | .inr x,.inr y=>.inr (x.flatMap fun e=>(y.filter fun f=>decide (wrt e.1=wrt f.1)).map fun f=>(e.1,twoV op e.2 f.2))
def negV:VV->VV
 | .inl a=>.inl (-a)
 | .inr x=>.inr (x.map fun e=>(e.1,-e.2))
def ZB(l:List Lab)(by_:List (LB)):List Lab:=l.filter fun p=>by_.contains p.1
def ZcF(op:Nat)(by_:List (LB))(all:List El):List El->List El->List El
 | _,[]=>[]
 | pre,e::l=>(if pre.any (fun f=>decide (wrt (ZB f.1 by_)=wrt (ZB e.1 by_)))then [] else [(ZB e.1 by_,cutV (ZfI op ((all.filter fun f=>decide (wrt (ZB f.1 by_)=wrt (ZB e.1 by_))).map (·.2))))])++ZcF op by_ all (pre++[e]) l
def Zcv(op:Nat)(by_:List (LB))(l:List El):List El:=(ZcF op by_ l [] l).foldl Zcd []
def Zcm:VV->List El
 | .inl _=>[]
 | .inr l=>l
def sayT(st:List Ser)(t:Int):Tr->VV
 | .nil=>.inr []
 | .node _ _ a l r => if a.jx = 0 then .inl a.n else if a.jx = 1 then .inr (Zc4 st a none 10 t) else if a.jx = 2 then .inr (Zc4 st a (some a.op) a.n t)
   else if a.jx=3 then negV (sayT st t l)else if a.jx=5 then .inr (Zcv a.op a.by_ (Zcm (sayT st t l)))
   else if a.jx=6 then (if (Zcm (sayT st t l)).isEmpty then sayT st t r else sayT st t l)else Zdg a.op (sayT st t l) (sayT st t r)
def decI(n:Int):LB:=if n<0 then [45]++decS n.natAbs else decS n.toNat
def elS(e:El):LB:=[32,123]++wrt e.1++[125]++decI e.2
def Zel(t:Int):VV->LB
 | .inl n=>decI t++[32]++decI n
 | .inr l=>decI t++(l.map elS).flatten
end Go.Proofs.YtpbemaaghbbocaaGreatDoor.LS
namespace Go.Proofs.YtpbemaaghbbocaaGreatDoor
open Go.RowKit LS Go.Proofs.Tryz
def winT:Tr->Prop
 | .nil=>True
 | .node _ _ a l r=>(a.jx=2->1<=a.n/\a.n<=1000)/\winT l/\winT r
def InvW(rec:Nat->List Tok->Nat->Out Tr):Prop:=∀lv t d z,rec lv t d=.ok z->winT z.1
theorem Zl7{a:Nd}(h:a.jx=2->1<=a.n/\a.n<=1000):winT (Zbg a):=⟨h,trivial,trivial⟩
theorem ZEC{o:Nat}{ts:List Tok}{z:Tr×List Tok}(h:winP o ts=.ok z):winT z.1:=by
 unfold winP at h;obtain⟨_,t1,d,h⟩:=Ze h;obtain⟨p,t2,e,h⟩:=Ze h;obtain⟨_,t3,f,h⟩:=Ze h;obtain⟨m,t4,a,h⟩:=Ze h;obtain⟨_,t5,g,h⟩:=Ze h;obtain⟨_,t6,i,h⟩:=Ze h;injection h with h;subst h
 have a4:1<=m/\m<=1000:=by
  unfold Zc2 at a;split at a
  ·rename_i c;injection a with a;injection a with a h4';subst a;exact⟨c.2,(Zmr 1000 _).2⟩
  ·cases a
 exact Zl7 (fun _=>a4)
theorem Zs5{rec:Nat->List Tok->Nat->Out Tr}(c:InvW rec){ts:List Tok}{deep:Nat}{z:Tr×List Tok}(h:Zbu rec ts deep=.ok z):winT z.1:=by
 unfold Zbu at h;obtain⟨_,t1,e,h⟩:=Ze h;obtain⟨a,t2,d,h⟩:=Ze h;obtain⟨_,t3,f,h⟩:=Ze h;injection h with h;subst h;show winT a;exact c _ _ _ _ d
theorem ZEA{rec:Nat->List Tok->Nat->Out Tr}(c:InvW rec){g:Nat}{ts:List Tok}{deep:Nat}{z:Tr×List Tok}(h:Zcb rec g ts deep=.ok z):winT z.1:=by
 unfold Zcb at h;obtain⟨_,t1,e,h⟩:=Ze h;obtain⟨_,t2,f,h⟩:=Ze h;obtain⟨ns,t3,i,h⟩:=Ze h;obtain⟨a,t4,d,h⟩:=Ze h;injection h with h;subst h;exact⟨fun h=>absurd (show(5:Nat)=2 from h) Dc,Zs5 c d,trivial⟩
theorem ZEB{rec:Nat->List Tok->Nat->Out Tr}(c:InvW rec){ts:List Tok}{deep:Nat}{z:Tr×List Tok}(h:Zbw rec ts deep=.ok z):winT z.1:=by
 unfold Zbw at h;split at h
 ·injection h with h;subst h;exact Zl7 (fun h=>absurd (show(0:Nat)=2 from h) Dc)
 ·split at h
  ·obtain⟨a,t1,d,h⟩:=Ze h;injection h with h;subst h;exact⟨fun h=>absurd (show(3:Nat)=2 from h) Dc,c _ _ _ _ d,trivial⟩
  ·split at h
   ·exact Zs5 c h
   ·split at h
    ·exact ZEA c h
    ·split at h
     ·exact ZEC h
     ·obtain⟨p,t1,d,h⟩:=Ze h;injection h with h;subst h;obtain⟨a1,a2,a3,a4,a5⟩:=Zkq d;simp only at a2;exact Zl7 (fun h=>absurd (a2.symm.trans h) Dc)
theorem Zip:∀(n:Nat) (m:Bool) (lv:Nat) (a:Tr) (ts:List Tok) (deep:Nat) (z:Tr×List Tok),(m=true->winT a)->Zs n m lv a ts deep=.ok z->winT z.1
 | 0,_,_,_,_,_,_,_,h=>by cases h
 | n + 1, false, lv, a, ts, deep, z, _, h => by
   have g:InvW (fun lv t d=>Zs n false lv .nil t d):=fun lv t d z h=>Zip n false lv .nil t d z (fun h=>(by cases h)) h;unfold Zs at h;split at h
   · unfold Zb9 at h
     split at h
     · split at h
       · cases h
       · exact ZEB g h
     · cases h
   · obtain⟨b,t1,e,f⟩:=Ze h
     exact Zip n true lv b t1 deep z (fun _=>g _ _ _ _ e) f
 | n + 1, true, lv, a, ts, deep, z, i, h => by
   unfold Zs at h;split at h
   · injection h with h;subst h;exact i rfl
   · rename_i p c
     obtain⟨b,t1,e,f⟩:=Ze h;have l1:=Zip n false _ _ _ _ _ (fun h=>(by cases h)) e;refine Zip n true lv (.node 0 0 (nd0 p.1 p.2) a b) t1 deep z (fun _=>⟨fun k=>?_,i rfl,l1⟩) f;unfold LS.opAt at c
     exfalso
     have j:p.1=2:=k
     repeat (first|(split at c)|(injection c with c;subst c;exact absurd j Dc)|cases c)
theorem ZBk{l:LB}{t:Tr}(h:ZD l=.ok t):winT t/\Zf t≠0:=by
 unfold ZD at h;split at h
 ·cases h
 ·split at h
  ·cases h
  ·rename_i t' r a;split at h
   ·split at h
    ·cases h
    ·injection h with h;subst h;rename_i c;exact⟨(Zip _ false _ _ _ _ (t',r) (fun h=>(by cases h)) a:winT t'),c⟩
   ·cases h
def ZdN:VV->Bool
 | .inl _=>false
 | .inr _=>true
theorem ZtO(op:Nat)(a b:VV):ZdN (Zdg op a b)=(ZdN a || ZdN b):=by cases a <;> cases b <;> rfl
theorem Zj7(st:List Ser)(tm:Int):∀t:Tr,wfT t->isNil t=false->Zf t≠0->ZdN (sayT st tm t)=decide (Zf t=2)
 | .nil,_,h,_=>by cases h
 | .node x y a l r, w, _, c => by
   obtain⟨D,z,E,F,G,H,n,A,I,C,B,wr⟩:=w;have j:=Zj7 st tm l B;have o:=Zj7 st tm r wr;unfold Zf at c ⊢;unfold sayT;by_cases e:a.jx=0
   · rw[if_pos e,if_pos e];rfl
   rw[if_neg e]at c ⊢;rw[if_neg e];by_cases f:a.jx=1
   · rw[if_pos f,if_pos (Or.inl f)];rfl
   by_cases k:a.jx=2
   · rw[if_neg f,if_pos k,if_pos (Or.inr k)];rfl
   rw[if_neg (show ¬(a.jx=1∨a.jx=2) by omega)]at c ⊢;rw[if_neg f,if_neg k];by_cases g:a.jx=3
   · rw[if_pos g]at c ⊢
     rw[if_pos g,<-j (n Om) c];cases sayT st tm l <;> rfl
   rw[if_neg g]at c ⊢;rw[if_neg g];by_cases i:a.jx=5
   · rw[if_pos i]at c ⊢
     rw[if_pos i];by_cases p:Zf l=2
     · rw[if_pos p];rfl
     · rw[if_neg p]at c;exact absurd rfl c
   rw[if_neg i]at c ⊢;rw[if_neg i];have q:=A Om;have s:=n Om;by_cases d:Zf l=0∨Zf r=0∨(a.jx=6/\Zf l+Zf r≠4)
   · rw[if_pos d]at c;exact absurd rfl c
   rw[if_neg d]at c ⊢;have u:Zf l≠0:=fun h=>d (Or.inl h);have v:Zf r≠0:=fun h=>d (Or.inr (Or.inl h));have kl:=Zid l;have kr:=Zid r;have il:=j s u;have ir:=o q v;by_cases m:a.jx=6
   · have J:Zf l+Zf r=4:=by
       refine Yb6 fun h=>d (Or.inr (Or.inr ⟨m,h⟩))
     rw[if_pos m,if_neg (show ¬Zf l+Zf r=2 by omega)];split
     · rw[ir];simp;omega
     · rw[il];simp;omega
   · rw[if_neg m,ZtO,il,ir]
     split
     · simp;omega
     · simp;omega
theorem ZcL:∀x:LB,Op.bytesLess x x=false
 | []=>rfl
 | a :: x => by
   have h:¬a<a:=UInt8.lt_irrefl a;simp[Op.bytesLess,ZcL x,h]
theorem Zdv:∀x y z:LB,Op.bytesLess x y=true->Op.bytesLess y z=true->Op.bytesLess x z=true
 | x,y,[],_,h=>by cases y <;> simp[Op.bytesLess]at h
 | x,[],c::z,h,_=>by cases x <;> simp[Op.bytesLess]at h
 | [],b::y,c::z,_,_=>rfl
 | a :: x, b :: y, c :: z, e, d => by
   simp only[Op.bytesLess,Yct,decide_eq_true_eq,Yas,beq_iff_eq]at e d ⊢;rcases e with e|⟨rfl,e⟩
   · rcases d with d|⟨rfl,d⟩
     · exact Or.inl (UInt8.lt_trans e d)
     · exact Or.inl e
   · rcases d with d|⟨rfl,d⟩
     · exact Or.inl d
     · exact Or.inr ⟨rfl,Zdv x y z e d⟩
theorem Zdh:∀x y:LB,Op.bytesLess x y=false->Op.bytesLess y x=false->x=y
 | [],[],_,_=>rfl
 | [],b::y,h,_=>by simp[Op.bytesLess]at h
 | a::x,[],_,h=>by simp[Op.bytesLess]at h
 | a :: x, b :: y, c, d => by
   simp only[Op.bytesLess,Bool.or_eq_false_iff,decide_eq_false_iff_not,Bool.and_eq_false_iff,beq_eq_false_iff_ne]at c d
   have f:a=b:=by
     have k1:¬a.toNat<b.toNat:=fun h=>c.1 (Yfp.2 h);have k2:¬b.toNat<a.toNat:=fun h=>d.1 (Yfp.2 h);exact Ydf.1 Om
   subst f;have e:=Zdh x y (c.2.resolve_left (fun h=>h rfl)) (d.2.resolve_left (fun h=>h rfl));rw[e]
def lt1(a b:El):Prop:=Op.bytesLess (wrt a.1) (wrt b.1)=true
def Srt(l:List El):Prop:=l.Pairwise lt1
theorem ZmO(l:List El)(x z:El):z∈Zcd l x ↔ z=x∨z∈l:=by
 induction l with
 | nil=>simp[Zcd]
 | cons y l ih=>
  rw[Zcd];split
  ·simp
  ·rw[Yau,ih,Yau];constructor
   ·rintro(h|h|h)
    ·exact Or.inr (Or.inl h)
    ·exact Or.inl h
    ·exact Or.inr (Or.inr h)
   ·rintro(h|h|h)
    ·exact Or.inr (Or.inl h)
    ·exact Or.inl h
    ·exact Or.inr (Or.inr h)
theorem ZAJ(l:List El)(x:El):(Zcd l x).length=l.length+1:=by
 induction l with
 | nil=>rfl
 | cons y l ih=>
  rw[Zcd];split
  ·rfl
  ·rw[Yaj,ih,Yaj]
theorem ZAK(l:List El)(x:El)(h:Srt l)(d:∀y∈l,wrt y.1≠wrt x.1):Srt (Zcd l x):=by
 induction l with
 | nil=>exact List.pairwise_singleton _ _
 | cons y l ih=>
  obtain⟨e,f⟩:=Ybg.1 h;rw[Zcd];split
  ·rename_i c;refine Ybg.2 ⟨fun z a=>?_,h⟩;rcases Yau.1 a with rfl|a
   ·exact c
   ·exact Zdv _ _ _ c (e z a)
  ·rename_i c;refine Ybg.2 ⟨fun z a=>?_,ih f (fun y g=>d y (Yam _ g))⟩;rcases(ZmO l x z).1 a with rfl|a
   ·unfold lt1;cases i:Op.bytesLess (wrt y.1) (wrt z.1)with
    | true=>rfl
    | false=>exact absurd (Zdh _ _ i (Yce.2 c)) (d y (Yay ..))
   ·exact e z a
theorem Zh4 (L : List El) : ∀ acc : List El, Srt acc -> (L.Pairwise fun a b => wrt a.1 ≠ wrt b.1) -> (∀ y ∈ acc, ∀ x ∈ L, wrt y.1 ≠ wrt x.1) ->
    Srt (L.foldl Zcd acc)/\(L.foldl Zcd acc).length=acc.length+L.length/\∀z,z∈L.foldl Zcd acc ↔ z∈acc∨z∈L:=by
  induction L with
  | nil=>intro acc h _ _;exact⟨h,rfl,by simp⟩
  | cons x L ih=>
    intro acc h e hd;obtain⟨f,g⟩:=Ybg.1 e
    obtain ⟨k1, k2, k3⟩ := ih (Zcd acc x) (ZAK acc x h (fun y c => hd y c x (Yay ..))) g (fun y c z d => by
      rcases(ZmO acc x y).1 c with rfl|c
      · exact f z d
      · exact hd y c z (Yam _ d))
    refine⟨k1,by rw[Ybp,k2,ZAJ,Yaj];omega,fun z=>?_⟩;rw[Ybp,k3,ZmO,Yau];constructor
    · rintro((h|h)|h)
      · exact Or.inr (Or.inl h)
      · exact Or.inl h
      · exact Or.inr (Or.inr h)
    · rintro(h|h|h)
      · exact Or.inl (Or.inr h)
      · exact Or.inl (Or.inl h)
      · exact Or.inr h
def Dst(st:List Ser):Prop:=st.Pairwise fun s r=>¬(s.name=r.name/\wrt s.labs=wrt r.labs)
def ZeZ(st:List Ser)(a:Nd)(op:Option Nat)(size t:Int):List El:=(st.filter fun s=>Zc1 a s && !(Zb6 s.jz size t).isEmpty).map fun s=>(s.labs,oneV op (Zb6 s.jz size t))
theorem Zny(st:List Ser)(a:Nd)(op:Option Nat)(size t:Int):Zc4 st a op size t=(ZeZ st a op size t).foldl Zcd []:=by
 unfold Zc4 ZeZ;generalize([]:List El)=acc
 induction st generalizing acc with
 | nil=>rfl
 | cons s st ih=>
  rw[Ybp];by_cases h:(Zc1 a s && !(Zb6 s.jz size t).isEmpty)=true
  ·rw[if_pos h,Yda (by simpa using h),Ybb,Ybp];exact ih _
  ·rw[if_neg h,Ydb (by simpa using h)];exact ih _
theorem ZmN {st : List Ser} (h : Dst st) (a : Nd) (op : Option Nat) (size t : Int) : (ZeZ st a op size t).Pairwise fun x y => wrt x.1 ≠ wrt y.1 := by
  unfold ZeZ;rw[Ybx];refine Ycx ?_ (h.filter _);intro s r c d e f;have n1:=(Ycg.1 c).2;have n2:=(Ycg.1 d).2;simp only[Yas,Zc1,decide_eq_true_eq]at n1 n2;exact e ⟨n1.1.2.symm.trans n2.1.2,f⟩
def VOk(n:Nat):VV->Prop
 | .inl _=>True
 | .inr l=>Srt l/\l.length<=n
theorem Zkx{st:List Ser}(h:Dst st)(a:Nd){op:Option Nat}{size t:Int}:VOk st.length (.inr (Zc4 st a op size t)):=by
 rw[Zny];obtain⟨c,d,_⟩:=Zh4 (ZeZ st a op size t) [] List.Pairwise.nil (ZmN h a op size t) (by simp);refine⟨c,?_⟩;rw[d];unfold ZeZ;rw[Yak];have:=Ydj (fun s=>Zc1 a s && !(Zb6 s.jz size t).isEmpty) st;simpa using this
theorem Zmi{l:List El}(h:Srt l){f:El->El}(c:∀e,(f e).1=e.1):Srt (l.map f):=by
 unfold Srt;rw[Ybx];exact h.imp (fun {a b} d=>by unfold lt1 at *;rw[c,c];exact d)
theorem Zv5 {y : List El} (h : Srt y) (k : LB) : y.filter (fun f => decide (k = wrt f.1)) = (y.find? fun f => decide (k = wrt f.1)).toList := by
  induction y with
  | nil=>rfl
  | cons e y ih=>
    obtain⟨d,g⟩:=Ybg.1 h;by_cases a:k=wrt e.1
    · rw[Yda (by simpa using a),List.find?_cons_of_pos (by simpa using a)]
      have : y.filter (fun f => decide (k = wrt f.1)) = [] := by
        rw[Yc1];intro f i j;have c:=d f i;unfold lt1 at c;rw[<-a,of_decide_eq_true j,ZcL]at c;cases c
      rw[this];rfl
    · rw[Ydb (by simpa using a),List.find?_cons_of_neg (by simpa using a)]
      exact ih g
theorem Zwf {α β : Type} (f : α -> Option β) (l : List α) : l.flatMap (fun a => (f a).toList) = l.filterMap f := by
  induction l with
  | nil=>rfl
  | cons a l ih=>
    rw[List.flatMap_cons,ih,Yef];cases f a <;> rfl
def vvF(op:Nat)(y:List El)(e:El):Option El:=(y.find? fun f=>decide (wrt e.1=wrt f.1)).map fun f=>(e.1,twoV op e.2 f.2)
theorem ZnU(op:Nat)(x y:List El)(a:Srt y):Zdg op (.inr x) (.inr y)=.inr (x.filterMap (vvF op y)):=by
 have h : ∀ e : El, (y.filter fun f => decide (wrt e.1 = wrt f.1)).map (fun f => (e.1, twoV op e.2 f.2)) = (vvF op y e).toList := fun e => by
   rw[Zv5 a];unfold vvF;cases y.find? (fun f=>decide (wrt e.1=wrt f.1)) <;> rfl
 show Sum.inr (x.flatMap fun e=>(y.filter fun f=>decide (wrt e.1=wrt f.1)).map fun f=>(e.1,twoV op e.2 f.2))=_;rw[<-Zwf,funext h]
theorem ZEy(op:Nat)(x y:List El)(k:Srt x):Srt (x.filterMap (vvF op y)):=by
 unfold Srt;rw[List.pairwise_filterMap];refine k.imp ?_;intro a b h c e d hd;unfold vvF at e hd;cases i:y.find? (fun f=>decide (wrt a.1=wrt f.1))with
 | none=>rw[i]at e;cases e
 | some f=>
  cases j:y.find? (fun f=>decide (wrt b.1=wrt f.1))with
  | none=>rw[j]at hd;cases hd
  | some g=>
   rw[i]at e;rw[j]at hd;cases e;cases hd;exact h
theorem ZnT{op n:Nat}{a b:VV}(c:VOk n a)(d:VOk n b):VOk n (Zdg op a b):=by
 cases a with
 | inl a=>
  cases b with
  | inl b=>trivial
  | inr y=>exact⟨Zmi d.1 (fun _=>rfl),by rw[Yak];exact d.2⟩
 | inr x=>
  cases b with
  | inl b=>exact⟨Zmi c.1 (fun _=>rfl),by rw[Yak];exact c.2⟩
  | inr y=>
   rw[ZnU op x y d.1];exact⟨ZEy op x y c.1,Yah (List.length_filterMap_le _ _) c.2⟩
theorem Zrc{n:Nat}{a:VV}(c:VOk n a):VOk n (negV a):=by
 cases a with
 | inl a=>trivial
 | inr x=>exact⟨Zmi c.1 (fun _=>rfl),by rw[Yak];exact c.2⟩
theorem ZlD (op : Nat) (bs : List (LB)) (all : List El) : ∀ (l pre : List El), ((ZcF op bs all pre l).Pairwise fun x y => wrt x.1 ≠ wrt y.1) /\ (ZcF op bs all pre l).length <= l.length /\ ∀ x ∈ ZcF op bs all pre l, ∀ f ∈ pre, wrt (ZB f.1 bs) ≠ wrt x.1
  | [],pre=>⟨List.Pairwise.nil,Yac _,by simp[ZcF]⟩
  | e :: l, pre => by
    obtain⟨g,j,d⟩:=ZlD op bs all l (pre++[e]);rw[ZcF];split
    · refine⟨by simpa using g,by simp;omega,fun x a f c=>d x (by simpa using a) f (Yc7 _ c)⟩
    · rename_i h
      refine⟨?_,by simp;omega,?_⟩
      · rw[Yd6,Ybg]
        exact⟨fun x a=>d x a e (by simp),g⟩
      · intro x a f c
        rw[Yd6,Yau]at a;rcases a with rfl|a
        · intro i
          exact h (List.any_eq_true.2 ⟨f,c,by simpa using i⟩)
        · exact d x a f (Yc7 _ c)
theorem ZpK{op:Nat}{bs:List (LB)}{n:Nat}{l:List El}(h:l.length<=n):VOk n (.inr (Zcv op bs l)):=by
 obtain⟨a,c,_⟩:=ZlD op bs l l [];obtain⟨k1,k2,_⟩:=Zh4 (ZcF op bs l [] l) [] List.Pairwise.nil a (by simp);exact⟨k1,by show(List.foldl Zcd [] _).length<=n;rw[k2];simp;omega⟩
theorem ZoS{n:Nat}{v:VV}(h:VOk n v):(Zcm v).length<=n:=by
 cases v with
 | inl _=>exact Yag _
 | inr l=>exact h.2
theorem Zj8{st:List Ser}(h:Dst st)(tm:Int):∀t:Tr,VOk st.length (sayT st tm t)
 | .nil=>⟨List.Pairwise.nil,Yag _⟩
 | .node x y a l r => by
   have il:=Zj8 h tm l;have ir:=Zj8 h tm r;unfold sayT;split
   · trivial
   split
   · exact Zkx h a
   split
   · exact Zkx h a
   split
   · exact Zrc il
   split
   · exact ZpK (ZoS il)
   split
   · split
     · exact ir
     · exact il
   · exact ZnT il ir
end Go.Proofs.YtpbemaaghbbocaaGreatDoor
