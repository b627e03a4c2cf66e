/- Parts. -/
import Derived.Test.YtkodhpilkaihjaaGreatDoorV04
set_option linter.all false
set_option maxRecDepth 100000
set_option maxHeartbeats 16000000
namespace Go.Proofs.YtkodhpilkaihjaaGreatDoor
open Go.RowKit LS Go.Proofs.Tryz
def canB(s:BA):Bool:=!decide (wOr=bl s) && !decide (wBy=bl s) && !(idx (bl s) ZW).isSome && !(idx (bl s) Z0).isSome
theorem Zus(s:BA){w:World}:CP 238 #[.string s] w fun e u=>e=.returned (.bool (canB s))/\u=w:=Zur s w
theorem Zza{ts:List Tok}{s:BA}(c:bl s=(hd ts).txt)(b:canB s=true):ZdQ ts=ZH 2 ts:=by
 unfold ZdQ;by_cases a:Zgp (hd ts)=true
 ·rw[if_pos a]
  exfalso
  unfold canB at b;rw[c]at b;unfold Zgp at a;simp only[Yas,Ycr,decide_eq_false_iff_not]at b;simp only[Yct]at a;obtain⟨⟨⟨d,e⟩,f⟩,g⟩:=b;rcases a with ((a|a)|a)|a
  ·rw[f]at a;cases a
  ·rw[g]at a;cases a
  ·exact d (Zic a).symm
  ·exact e (Zic a).symm
 ·rw[if_neg a]
theorem Zzb{ts:List Tok}{s:BA}(e:bl s=(hd ts).txt)(b:canB s=false):ZdQ ts=.error (2,(hd ts).at_):=by
 unfold ZdQ;by_cases c:Zgp (hd ts)=true
 ·rw[if_pos c]
 ·rw[if_neg c];refine Zgb (fun f=>c ?_);unfold canB at b;rw[e]at b;unfold Zgp
  have d:∀a:LB,decide (a=(hd ts).txt)=isT a (hd ts):=by
   intro a;unfold isT;rw[f,Ybh,decide_eq_true_iff,Yas,beq_iff_eq];exact⟨fun h=>⟨rfl,h.symm⟩,fun h=>h.2.symm⟩
  rw[d,d]at b;generalize isT wOr (hd ts)=b1 at *
  generalize isT wBy (hd ts)=b2 at *
  generalize(idx (hd ts).txt ZW).isSome=b3 at *
  generalize(idx (hd ts).txt Z0).isSome=b4 at *
  cases b1 <;> cases b2 <;> cases b3 <;> cases b4 <;> first|rfl|cases b
def set2(w:World)(a:Nat)(x y:Value):World:=(w.setCell ⟨a,0,none⟩ x).setCell ⟨a,1,none⟩ y
theorem ZdS{w:World}{a:Nat}{p q x y:Value}{t:TypeId}(h:BAt w a [p,q] t):BAt (set2 w a x y) a [x,y] t:=by
 unfold BAt at h;unfold BAt set2;simp only[World.setCell,Ybn,h,if_true,Ybf];rfl
theorem ret2{P:Program}{fn:Func}{R:Ending->World->Prop}{a:Act}{v:World}{b:Nat}{p q x y r:Value}{t:TypeId}(c:∀W:World,W.cell? ⟨b,0,none⟩=some x->W.cell? ⟨b,1,none⟩=some y->(results fn a.tmps).run P W=.ok r W)(hd:a.defers=[])(d:BAt v b [p,q] t)(e:R (.returned r) (set2 v b x y)):bodyPost P fn R .ret a (set2 v b x y):=by
 have s:=ZdS d (x:=x) (y:=y);exact bodyPost_ret (c _ (s.cell 0) (s.cell 1)) hd e
theorem Zm7(w:World)(a:Nat)(x y:Value){b:Nat}(c:b≠a):(set2 w a x y).heap[b]?=w.heap[b]?:=by
 unfold set2;rw[Go.Deep.blk_setCell_other _ _ _ _ c,Go.Deep.blk_setCell_other _ _ _ _ c]
theorem Zgr{w0 w:World}{a b:Nat}(h:w0.grownBy w (some b))(c:w0.heap.size<=a)(x y:Value):w0.grownBy (set2 w a x y) (some b):=
 ZA (ZA h (Or.inr c) _) (Or.inr c) _
theorem Z9.set2{w:World}{R:RS}{e:Nat×Nat}{v:Value}(h:Z9 w R e v){a:Nat}{c:List Value}{t:TypeId}(d:BAt w a c t)(f:t≠119)(x y:Value):Z9 (set2 w a x y) R e v:=by
 refine h.grown (b:=a) ?_ d f;exact ZA (ZA (ZbM w (some a)) (Or.inl rfl) _) (Or.inl rfl) _
theorem Zbm.same{w w':World}{v:Value}{ns:List (LB)}(h:Zbm w v ns)(a:∀j,v.ownBlock=some j->w'.heap[j]?=w.heap[j]?):Zbm w' v ns:=by
 obtain⟨bs,b,c⟩:=h;exact⟨bs,ZdA b a,c⟩
theorem ZX.same{w w':World}{v:Value}{ns:List (LB×LB×Bool)}(h:ZX w v ns)(a:∀j,v.ownBlock=some j->w'.heap[j]?=w.heap[j]?):ZX w' v ns:=by
 obtain⟨bs,b,c⟩:=h;exact⟨bs,ZdA b a,c⟩
theorem ZX.kept{w w':World}{v:Value}{ns:List (LB×LB×Bool)}(h:ZX w v ns){b:Nat}(g:w.grownBy w' (some b)){c:Array Value}{t:TypeId}{fr:Nat×Nat}(i:w.heap[b]?=some (.cells c t fr))(k:t≠379):ZX w' v ns:=by
 obtain⟨bs,a,l⟩:=h;have d:=Zcx a i k;exact⟨bs,ZdA a (fun j f=>g.block j (a.lt j f).2 (fun e=>by injection e with e;subst e;exact d f.symm)),l⟩
theorem Zbm.kept{w w':World}{v:Value}{ns:List (LB)}(h:Zbm w v ns){b:Nat}(g:w.grownBy w' (some b)){c:Array Value}{t:TypeId}{fr:Nat×Nat}(i:w.heap[b]?=some (.cells c t fr))(k:t≠9):Zbm w' v ns:=by
 obtain⟨bs,a,l⟩:=h;have d:=Zcx a i k;exact⟨bs,ZdA a (fun j f=>g.block j (a.lt j f).2 (fun e=>by injection e with e;subst e;exact d f.symm)),l⟩
theorem ZX.set2{w:World}{v:Value}{ns:List (LB×LB×Bool)}(h:ZX w v ns){a:Nat}{c:List Value}{t:TypeId}(d:BAt w a c t)(e:t≠379)(x y:Value):ZX (set2 w a x y) v ns:=
 h.kept (b:=a) (ZA (ZA (ZbM w (some a)) (Or.inl rfl) _) (Or.inl rfl) _) d e
theorem Zsd{w:World}{R:RS}{k:Nat}{ts:List Tok}(h:RK w R k ts) :
  CP 191 #[Vp R.b] w fun e u=>∃(nm:BA) (la:Option Addr) (ln lc:Nat) (v:Value),e=.returned (.tuple #[.agg #[.string nm,.slice la ln lc],v])/\Hid (Res R (fun u nd=>bl nm=nd.name/\ZX u (.slice la ln lc) nd.jn) u (selP ts) v)/\w.grownBy u (some R.b):=by
 have H:Hid (RK w R k ts):=h;have a7:R.b<w.heap.size:=(Yae.1 h.rd.cells).1;clear h;go_enter func191,ntmps191
 go_wp2_with fail
 refine Zm fun W0 n=>?_;have B:Hid (RK W0 R k ts):=hid (by rw[n];exact H.below Zbal);have S:Hid (BAt W0 w.heap.size [.string ByteArray.empty,S0] 281):=hid (by rw[n];exact Go.Deep.blk_alloc_new _ _);have T:Hid (w.grownBy W0 (some R.b)):=hid (by rw[n];exact ZbR (ZbM _ _) _);clear n;refine(Zee B.out).mono ?_;rintro e w1 ⟨⟨kd,at_,tx,tv⟩,rfl,ht,o⟩;have C:=hid (S.below o);have D:Hid (w.grownBy w1 (some R.b)):=Zj T.out (Zw o);have E:Hid (RK w1 R k ts):=B.below o;clear o S T B;have U:Hid (bl tx=(hd ts).txt):=ht.2.2.1;have hf:∀W:World,(Instr.field 167 (.agg #[Vi kd,Vi at_,.string tx,Vi tv]) 2).run prog W=.ok (.string tx) W:=fun _=>rfl
 go_wp2_with fail
 refine(Zus tx).mono ?_;rintro e w1 ⟨rfl,rfl⟩;cases P:canB tx
 ·have F:Hid (selP ts=.error (2,(hd ts).at_)):=hid (by unfold selP;rw[Zzb U.out P];rfl);clear P
  go_wp2_with fail
  refine(Zfi E.out).mono ?_;rintro e wE ⟨v,rfl,Q,G⟩;obtain⟨fa,rfl⟩:=Q.shape;have g:=hid (C.below G);have a2:Hid (w.grownBy wE (some R.b)):=Zj D.out (Zw G);clear G;have f0:=g.frozen 0;have f1:=g.frozen 1;have c0:=g.cell 0;have c1:=g.cell 1;simp only[Zget]at c0 c1;go_wp2;exact ret2 (r:=.tuple #[.agg #[.string ⟨#[]⟩,S0],.iface 115 (Vp fa)]) (fun W s0 s1=>by simp[results,results191,go_sem,s0,s1]) rfl g.out ⟨_,_,_,_,_,rfl,by rw[F.out];exact(Q.set2 g.out Dc (.string ⟨#[]⟩) S0),Zgr a2.out (Yac _) (.string ⟨#[]⟩) S0⟩
 ·have V:Hid (ZdQ ts=ZH 2 ts):=Zza U.out P;clear P
  go_wp2_with fail
  refine(Zkk E.out).mono ?_;rintro e z ⟨x,v,rfl,a,hg⟩;have c:Hid (BAt z w.heap.size [.string ByteArray.empty,S0] 281):=C.grown hg (by simp;omega);have I:Hid (w.grownBy z (some R.b)):=Zj D.out hg;clear hg C D E;by_cases i:(hd ts).jj=2
  ·rw[Zfr i]at a;obtain⟨rfl,⟨k2,hk⟩,hx⟩:=a.out;have J:Hid (RK z R k2 ts.tail):=hk;have HX:Hid (bl x=(hd ts).txt):=hx;have X:Hid (ZdQ ts=.ok ((hd ts).txt,ts.tail)):=hid (by rw[V.out,Zfr i]);clear a hk hx i
   go_wp2_with fail
   refine(Zee J.out).mono ?_;rintro e w3 ⟨⟨kd3,at3,tx3,tv3⟩,rfl,Y,p⟩;have Z:=hid (c.below p);have a0:Hid (w.grownBy w3 (some R.b)):=Zj I.out (Zw p);have q:Hid (RK w3 R k2 ts.tail):=J.below p;clear p c I J
   go_wp2_with fail
   refine(Zf6 Y.out q.wf.head.1 q.wf.head.2.2 ⟨#[123]⟩ Dc Dc _).mono ?_;rintro e w4 ⟨rfl,t⟩;have d:=hid (Z.below t);have K:Hid (w.grownBy w4 (some R.b)):=Zj a0.out (Zw t);have A:Hid (RK w4 R k2 ts.tail):=q.below t;clear t Z a0 q Y;by_cases m:isT [123] (hd ts.tail)=true
   ·rw[show isT (bl ⟨#[123]⟩) (hd ts.tail)=true from m];obtain⟨PL,L⟩:∃PL,PL=bnd (Zq [123] ts.tail) fun _ r=>ZS ZV [125] (r.length+1) [] r:=⟨_,rfl⟩
    have M : Hid (selP ts = bnd PL fun cs r => .ok (⟨1, 0, 0, (hd ts).txt, cs, []⟩, r)) := hid (by
      unfold selP;rw[X.out];show(if isT [123] (hd ts.tail)=true then _ else _)=_;rw[if_pos m,L,ZdU m];have hl:ts.tail.length=ts.tail.tail.length+1:=by have:=A.pos;rw[Yb4 (l:=ts.tail)];omega
      rw[hl];rfl)
    have a3:Hid (PL=bnd (Zq [123] ts.tail) fun _ r=>ZS ZV [125] (r.length+1) [] r):=L;clear L m
    go_wp2_with fail
    refine(Zyy A.out ⟨#[123]⟩ ⟨#[125]⟩ Dc Dc).mono ?_;rintro e N ⟨la,ln,lc,v,rfl,a,O⟩;rw[show(bnd (Zq (bl ⟨#[123]⟩) ts.tail) fun _ r=>ZS ZV (bl ⟨#[125]⟩) (r.length+1) [] r)=PL from a3.symm]at a;have f:Hid (BAt N w.heap.size [.string ByteArray.empty,S0] 281):=d.grown O (by simp;omega);have a4:Hid (w.grownBy N (some R.b)):=Zj K.out O;clear O d K A;have f0:=f.frozen 0;have f1:=f.frozen 1;have c0:=f.cell 0;have c1:=f.cell 1;simp only[Zget]at c0 c1;go_wp2;change bodyPost _ _ _ _ _ (set2 N w.heap.size (.string x) (.slice la ln lc));have s:=ZdS f.out (x:=.string x) (y:=.slice la ln lc);have s0:=s.cell 0;have s1:=s.cell 1;simp only[Zget]at s0 s1;have a5:=hid (Zgr a4.out (Yac _) (.string x) (.slice la ln lc))
    have a6 : Hid (Res R (fun u nd => bl x = nd.name /\ ZX u (.slice la ln lc) nd.jn) (set2 N w.heap.size (.string x) (.slice la ln lc)) (selP ts) v) := hid (by
      rw[M.out];cases a1:PL with
      | error er=>rw[a1]at a;exact Z9.set2 a.out f.out Dc _ _
      | ok pr=>
        rw[a1]at a;obtain⟨h1,⟨kk,h2⟩,h3⟩:=a.out;exact⟨h1,⟨kk,RK.fresh H.out h2 (Yac _) (fun j hj=>Zm7 _ _ _ _ hj)⟩,HX.out,ZX.set2 h3 f.out Dc _ _⟩)
    clear a;generalize set2 N w.heap.size (.string x) (.slice la ln lc)=WX at *
    exact bodyPost_ret (v:=.tuple #[.agg #[.string x,.slice la ln lc],v]) (by simp[results,results191,go_sem,s0,s1]) rfl ⟨_,_,_,_,_,rfl,a6,a5.out⟩
   ·rw[show isT (bl ⟨#[123]⟩) (hd ts.tail)=false from Yce.2 m]
    have M:Hid (selP ts=.ok (⟨1,0,0,(hd ts).txt,[],[]⟩,ts.tail)):=hid (by
     unfold selP;rw[X.out];show(if isT [123] (hd ts.tail)=true then _ else _)=_;rw[if_neg m])
    clear m;have f0:=d.frozen 0;have f1:=d.frozen 1;have c0:=d.cell 0;have c1:=d.cell 1;simp only[Zget]at c0 c1;go_wp2;exact ret2 (r:=.tuple #[.agg #[.string x,S0],.nilIface]) (fun W s0 s1=>by simp[results,results191,go_sem,s0,s1]) rfl d.out ⟨_,_,_,_,_,rfl,by rw[M.out];exact⟨rfl,⟨_,RK.fresh H.out A.out (w':=set2 w4 w.heap.size (.string x) S0) (Yac _) (fun j hj=>Zm7 _ _ _ _ hj)⟩,HX.out,[],Ybc _ _ _ _,rfl⟩,Zgr K.out (Yac _) (.string x) S0⟩
  ·rw[Zgb i]at a;have F:Hid (selP ts=.error (2,(hd ts).at_)):=hid (by unfold selP;rw[V.out,Zgb i];rfl);obtain⟨fa,rfl⟩:=a.shape;have Q:Hid (Z9 z R (2,(hd ts).at_) _):=a.out;clear a i;have f0:=c.frozen 0;have f1:=c.frozen 1;have c0:=c.cell 0;have c1:=c.cell 1;simp only[Zget]at c0 c1;go_wp2;exact ret2 (r:=.tuple #[.agg #[.string x,S0],.iface 115 (Vp fa)]) (fun W s0 s1=>by simp[results,results191,go_sem,s0,s1]) rfl c.out ⟨_,_,_,_,_,rfl,by rw[F.out];exact(Q.set2 c.out Dc (.string x) S0),Zgr I.out (Yac _) (.string x) S0⟩
end Go.Proofs.YtkodhpilkaihjaaGreatDoor
namespace Go.Proofs.YtkodhpilkaihjaaGreatDoor.LS
open Go Go.RowKit
def back(l:LB):Nat:=l.foldl (fun n c=>256*n+c.toNat) 0
theorem ZnY(l:LB)(c:UInt8):back (l++[c])=256*back l+c.toNat:=by simp[back]
theorem ZtW(l:LB):back l.reverse<256 ^ l.length:=by
 induction l with
 | nil=>simp[back]
 | cons c l ih=>
  rw[Ybz,ZnY,Yaj,Yhc];have:=c.toNat_lt;omega
theorem ZtV(l:LB):back l<256 ^ l.length:=by
 have:=ZtW l.reverse
 rwa [Yg4,List.length_reverse]at this
theorem ZhM{l:LB}{n:Nat}(h:l.length<=n):back l<256 ^ n:=Yaw (ZtV l) (Nat.pow_le_pow_right Dc h)
def digL:Nat->Nat->LB
 | _,0=>[]
 | n,k+1=>digL (n / 256) k++[UInt8.ofNat (n % 256)]
theorem ZT1(k:Nat):∀n,(digL n k).length=k:=by
 induction k with
 | zero=>intro n;rfl
 | succ k ih=>intro n;simp[digL,ih]
theorem ZU0(k:Nat):∀n,digL n (k+1)=UInt8.ofNat (n / 256 ^ k % 256)::digL n k:=by
 induction k with
 | zero=>intro n;simp[digL]
 | succ k ih=>
  intro n;show digL (n / 256) (k+1)++[UInt8.ofNat (n % 256)]=_;rw[ih,Yhe,<-Nat.pow_succ'];rfl
theorem ZUN(k:Nat):∀n,n<256 ^ k->back (digL n k)=n:=by
 induction k with
 | zero=>intro n h;simp at h;subst h;rfl
 | succ k ih=>
  intro n h;show back (digL (n / 256) k++[UInt8.ofNat (n % 256)])=n;rw[ZnY,ih _ (by rw[Yhc]at h;omega),UInt8.toNat_ofNat_of_lt' (by show n % 256<256;omega)];omega
theorem ZUZ(l:LB):digL (back l.reverse) l.length=l.reverse:=by
 induction l with
 | nil=>rfl
 | cons c l ih=>
  rw[Ybz,ZnY,Yaj];show digL ((256*back l.reverse+c.toNat) / 256) l.length++[UInt8.ofNat ((256*back l.reverse+c.toNat) % 256)]=_;have a:=c.toNat_lt;rw[show(256*back l.reverse+c.toNat) / 256=back l.reverse by omega,show(256*back l.reverse+c.toNat) % 256=c.toNat by omega,ih];simp
theorem ZUY(l:LB):digL (back l) l.length=l:=by
 have:=ZUZ l.reverse
 rwa [Yg4,List.length_reverse]at this
def bitS(h:Nat):Nat:=if h % 2=1 then (h / 2) ^^^ 3988292384 else h / 2
def ZfS:Nat->Nat->Nat
 | 0,h=>h
 | k+1,h=>bitS (ZfS k h)
def Zk3(h:Nat)(c:UInt8):Nat:=ZfS 8 (h ^^^ c.toNat)
def sumL(l:LB):Nat:=l.foldl Zk3 4294967295
def sumQ(l:LB):Nat:=4294967295 - sumL l
theorem Zsz(l:LB)(c:UInt8):sumL (l++[c])=Zk3 (sumL l) c:=by simp[sumL]
theorem Zt5{h:Nat}(a:h<4294967296):bitS h<4294967296:=by
 unfold bitS;split
 ·exact Nat.xor_lt_two_pow (n:=32) (by show h / 2<4294967296;omega) Dc
 ·omega
theorem ZkX{h:Nat}(a:h<4294967296):∀k,ZfS k h<4294967296
 | 0=>a
 | k+1=>Zt5 (ZkX a k)
theorem Zty{h:Nat}(a:h<4294967296)(c:UInt8):h ^^^ c.toNat<4294967296:=Nat.xor_lt_two_pow (n:=32) a (by have:=c.toNat_lt;show c.toNat<4294967296;omega)
theorem Zum{h:Nat}(a:h<4294967296)(c:UInt8):Zk3 h c<4294967296:=ZkX (Zty a c) 8
theorem ZCY(l:LB):sumL l.reverse<4294967296:=by
 induction l with
 | nil=>decide
 | cons c l ih=>rw[Ybz,Zsz];exact Zum ih c
theorem ZCX(l:LB):sumL l<4294967296:=by
 have:=ZCY l.reverse
 rwa [Yg4]at this
theorem Znn(l:LB):sumQ l<4294967296:=by unfold sumQ;omega
def selQ(l:LB):Option Nd:=match ZD l with
 | .ok (.node _ _ a _ _)=>if a.jj=1/\selS a=l then some a else none
 | _=>none
def ZbA(t:LB):Option (Nd×Nat):=match seek 91 t with
 | none=>(selQ t).map fun a=>(a,0)
 | some p => if t.getLast? = some 93 then (match ZQ 1000 (t.drop (p + 1)).dropLast with
     | some n=>if n=0 then none else (selQ (t.take p)).map fun a=>(a,n)
     | none=>none)else none
def ZcG(t:LB):Option (List (LB)):=if t=[] then some [] else if (split 44 t).all Zx=true/\(split 44 t).Nodup then some (split 44 t)else none
structure CodeQ where
 jq:List Int
 jv:List (Nd×Nat)
 jk:List (List (LB))
 jz:List (Nat×Nat)
abbrev RdR (α:Type):=Except (Nat×Nat) (α×Nat)
def sub(l:LB)(p n:Nat):LB:=(l.drop p).take n
def Zcg(l:LB)(p n:Nat):RdR (LB):=if l.length<p+n then .error (9,l.length)else .ok (sub l p n,p+n)
def Zbr(l:LB)(p n:Nat):RdR Nat:=match Zcg l p n with
 | .error e=>.error e
 | .ok x=>.ok (back x.1,x.2)
def Zdp(v:Nat):Int:=if 2147483648<=v then (v:Int) - 4294967296 else v
def ZbW(l:LB)(p:Nat):RdR Int:=match Zbr l p 4 with
 | .error e=>.error e
 | .ok x=>if Zdp x.1 < -1000000000∨1000000000<Zdp x.1 then .error (9,p)else .ok (Zdp x.1,x.2)
def ZcH(l:LB)(p:Nat):RdR (LB):=match Zbr l p 2 with
 | .error e=>.error e
 | .ok x=>Zcg l x.2 x.1
def pickAt(l:LB)(p:Nat):RdR (Nd×Nat):=match ZcH l p with
 | .error e=>.error e
 | .ok x => match ZbA x.1 with
   | none=>.error (9,p)
   | some y=>.ok (y,x.2)
def groupAt(l:LB)(p:Nat):RdR (List (LB)):=match ZcH l p with
 | .error e=>.error e
 | .ok x => match ZcG x.1 with
   | none=>.error (9,p)
   | some y=>.ok (y,x.2)
def ZbN(l:LB)(p:Nat):RdR (Nat×Nat):=match Zbr l p 1 with
 | .error e=>.error e
 | .ok x => if 13 < x.1 then .error (9, p) else match Zbr l x.2 2 with
   | .error e=>.error e
   | .ok y=>.ok ((x.1,y.1),y.2)
def many{α:Type}(one:Nat->RdR α)(p:Nat):Nat->RdR (List α)
 | 0=>.ok ([],p)
 | k + 1 => match many one p k with
   | .error e=>.error e
   | .ok x => match one x.2 with
     | .error e=>.error e
     | .ok y=>.ok (x.1++[y.1],y.2)
theorem ZyU{α:Type}{one:Nat->RdR α}{p k:Nat}{e:Nat×Nat}(h:many one p k=.error e):∀n,k<=n->many one p n=.error e:=by
 intro n b
 induction n with
 | zero => obtain rfl : k = 0 := by omega
           exact h
 | succ n ih=>
  by_cases a:k=n+1
  ·subst a;exact h
  ·have:=ih Om;unfold many;rw[this]
theorem ZgS{α:Type}{one:Nat->RdR α}{p k:Nat}{xs:List α}{q:Nat}{e:Nat×Nat}(h:many one p k=.ok (xs,q))(a:one q=.error e):∀n,k<n->many one p n=.error e:=
 fun n b=>ZyU (k:=k+1) (by unfold many;rw[h];simp only;rw[a]) n b
theorem ZjI{α:Type}{one:Nat->RdR α}{p k:Nat}{xs:List α}{q r:Nat}{y:α}(h:many one p k=.ok (xs,q))(a:one q=.ok (y,r)):many one p (k+1)=.ok (xs++[y],r):=by
 unfold many;rw[h];simp only;rw[a]
theorem ZqR{α:Type}{one:Nat->RdR α}{p:Nat} : ∀ {k:Nat} {xs:List α} {q:Nat},many one p k=.ok (xs,q)->xs.length=k
 | 0,xs,q,h=>by injection h with h;injection h with h1 h2;subst h1;rfl
 | k + 1, xs, q, h => by
   unfold many at h;cases a:many one p k with
   | error e=>rw[a]at h;cases h
   | ok x=>
     rw[a]at h;simp only at h;cases b:one x.2 with
     | error e=>rw[b]at h;cases h
     | ok y=>
       rw[b]at h;injection h with h;injection h with h1 h2;subst h1;have:=ZqR (show many one p k=.ok (x.1,x.2) from a);simp[this]
def Zc8(l:LB):Except (Nat×Nat) (Nat×Nat×Nat×Nat):=
 if l.head?≠some 103 then .error (9,0)else if l.length<9 then .error (9,l.length)else .ok (back (sub l 1 2),back (sub l 3 2),back (sub l 5 2),back (sub l 7 2))
def Zb7(l:LB):Except (Nat×Nat) CodeQ:=match Zc8 l with
 | .error e=>.error e
 | .ok n => match many (ZbW l) 9 n.1 with
   | .error e=>.error e
   | .ok cs => match many (pickAt l) cs.2 n.2.1 with
     | .error e=>.error e
     | .ok ps => match many (groupAt l) ps.2 n.2.2.1 with
       | .error e=>.error e
       | .ok gs => match many (ZbN l) gs.2 n.2.2.2 with
         | .error e=>.error e
         | .ok is => if l.length < is.2 + 4 then .error (9, l.length) else if is.2 + 4 < l.length then .error (9, is.2 + 4) else
           if back (l.drop is.2)≠sumQ (l.take is.2)then .error (10,0)else .ok ⟨cs.1,ps.1,gs.1,is.1⟩
def Zy(c:CodeQ)(i:Nat)(x:Nat×Nat):Bool:=match x.1 with
 | 0=>decide (x.2<c.jq.length)
 | 1=>decide (x.2<c.jv.length)
 | 2=>decide (x.2<5)
 | 3=>decide (x.2<4)
 | 4=>decide (x.2=0)
 | 9=>decide (i<x.2/\x.2<=c.jz.length)
 | 10=>decide (i<x.2/\x.2<=c.jz.length)
 | 11=>decide (x.2=0)
 | 12=>decide (x.2<16)
 | 13=>decide (x.2<16)
 | _=>decide (x.2<c.jk.length)
def Zf4(op:Nat):Bool:=op == 12 || op == 13
def Zdd(l:List (Nat×Nat)):Nat:=l.foldl (fun n x=>if Zf4 x.1 then max n (x.2+1)else n) 0
theorem ZCq(l:List (Nat×Nat))(x:Nat×Nat):Zdd (l++[x])=if Zf4 x.1 then max (Zdd l) (x.2+1)else Zdd l:=by simp[Zdd]
structure Ah where
 kz:Bool
 kq:Bool
 jy:List Nat
 jx:List Nat
def ah0:Ah:=⟨false,false,[],List.replicate 16 0⟩
def ZE(k:Nat)(st sl:List Nat):Option (List Nat×List Nat):=if st.length=64 then none else some (k::st,sl)
def Zby(k:Nat):Bool:=k == 1 || k == 2
def Zb3(x:Nd×Nat):Nat:=if 0<x.2 then 3 else 2
def Zt(c:CodeQ)(x:Nat×Nat)(st sl:List Nat):Option (List Nat×List Nat):=match x.1 with
 | 0=>ZE 1 st sl
 | 1=>ZE ((c.jv[x.2]?.map Zb3).getD 0) st sl
 | 2 => match st with
   | k::r=>if k=3 then ZE 2 r sl else none
   | []=>none
 | 3 => match st with
   | y::k::r=>if Zby k && Zby y then ZE (max k y) r sl else none
   | _=>none
 | 4 => match st with
   | k::r=>if Zby k then ZE k r sl else none
   | []=>none
 | 9=>some (st,sl)
 | 11 => match st with
   | _::r=>some (r,sl)
   | []=>none
 | 12 => match st with
   | k::r=>some (r,sl.set x.2 k)
   | []=>none
 | 13=>if sl.getD x.2 0=0 then none else ZE (sl.getD x.2 0) st sl
 | _ => match st with
   | k::r=>if k=2 then ZE 2 r sl else none
   | []=>none
def both(a b:List Nat):List Nat:=List.zipWith (fun x y=>if x=y then x else 0) a b
def Zbi(a:Ah)(st sl:List Nat):Ah:=if a.kz then ⟨true,a.kq || decide (a.jy≠st),a.jy,both a.jx sl⟩else ⟨true,false,st,sl⟩
def ZcE(op:Nat):Bool:=op == 9 || op == 10
def goOn(x:Nat×Nat)(i:Nat)(st sl:List Nat)(l:List Ah):List Ah:=
 let l1:=if ZcE x.1 then l.set x.2 (Zbi (l.getD x.2 ah0) st sl)else l
 if x.1=9 then l1 else l1.set (i+1) (Zbi (l1.getD (i+1) ah0) st sl)
def Zfx(c:CodeQ)(i:Nat)(l:List Ah)(m:Nat):Except (Nat×Nat) (List Ah×Nat):=
 let a:=l.getD i ah0
 if a.kz then (if a.kq then .error (12,i)else match Zt c (c.jz.getD i (0,0)) a.jy a.jx with
  | none=>.error (12,i)
  | some s=>.ok (goOn (c.jz.getD i (0,0)) i s.1 s.2 l,max m s.1.length))else .ok (l,m)
def ZeY(n:Nat):List Ah:=⟨true,false,[],List.replicate 16 0⟩::List.replicate n ah0
def Zbx(c:CodeQ):Nat->Except (Nat×Nat) (List Ah×Nat)
 | 0=>.ok (ZeY c.jz.length,0)
 | i + 1 => match Zbx c i with
   | .error e=>.error e
   | .ok x=>Zfx c i x.1 x.2
def Zd1(a:Ah):Bool:=!a.kq && (decide (a.jy=[1]) || decide (a.jy=[2]))
def Zcp(c:CodeQ):Nat->Except (Nat×Nat) Unit
 | 0=>.ok ()
 | i + 1 => match Zcp c i with
   | .error e=>.error e
   | .ok _=>if Zy c i (c.jz.getD i (0,0))then .ok ()else .error (11,i)
def Zdj(c:CodeQ):Except (Nat×Nat) Nat:=match Zbx c c.jz.length with
 | .error e=>.error e
 | .ok x=>if Zd1 (x.1.getD c.jz.length ah0)then .ok x.2 else .error (12,c.jz.length)
def ZcT(c:CodeQ):Except (Nat×Nat) (Nat×Nat):=match Zcp c c.jz.length with
 | .error e=>.error e
 | .ok _ => match Zdj c with
   | .error e=>.error e
   | .ok m=>.ok (m,Zdd c.jz)
def ZcR(l:LB):Except (Nat×Nat) (CodeQ×Nat×Nat):=match Zb7 l with
 | .error e=>.error e
 | .ok c => match ZcT c with
   | .error e=>.error e
   | .ok x=>.ok (c,x)
theorem Zrx{c:CodeQ}{k:Nat}{e:Nat×Nat}(h:Zbx c k=.error e):∀n,k<=n->Zbx c n=.error e:=by
 intro n b
 induction n with
 | zero => obtain rfl : k = 0 := by omega
           exact h
 | succ n ih=>
  by_cases a:k=n+1
  ·subst a;exact h
  ·have:=ih Om;unfold Zbx;rw[this]
theorem ZBu{c:CodeQ}{k:Nat}{e:Nat×Nat}(h:Zcp c k=.error e):∀n,k<=n->Zcp c n=.error e:=by
 intro n b
 induction n with
 | zero => obtain rfl : k = 0 := by omega
           exact h
 | succ n ih=>
  by_cases a:k=n+1
  ·subst a;exact h
  ·have:=ih Om;unfold Zcp;rw[this]
theorem Zhh{l:LB}{p n:Nat}{x:LB×Nat}(h:Zcg l p n=.ok x):p+n<=l.length/\x.1=sub l p n/\x.2=p+n:=by
 unfold Zcg at h;split at h
 ·cases h
 ·injection h with h;subst h;exact⟨by omega,rfl,rfl⟩
theorem Zki{l:LB}{p n:Nat}(h:p+n<=l.length):(sub l p n).length=n:=by
 unfold sub;rw[Ya7,Ybv];omega
theorem Zev{l:LB}{p n:Nat}{x:Nat×Nat}(h:Zbr l p n=.ok x):p+n<=l.length/\x.1=back (sub l p n)/\x.2=p+n/\x.1<256 ^ n:=by
 unfold Zbr at h;cases a:Zcg l p n with
 | error e=>rw[a]at h;cases h
 | ok y=>
  rw[a]at h;injection h with h;subst h;obtain⟨b,c,d⟩:=Zhh a;refine⟨b,by rw[c],d,?_⟩;show back y.1<_;rw[c];exact ZhM (by rw[Zki b];exact Yac _)
theorem ZCf{v:Nat}(h:v<4294967296) : -2147483648<=Zdp v/\Zdp v<=2147483647:=by unfold Zdp;split <;> omega
theorem Zsy(s:BA)(p n:Nat):sub (bl s) p n=bl (s.extract p (p+n)):=by
 rw[Zfh,Yc8];unfold sub;congr 1;omega
end Go.Proofs.YtkodhpilkaihjaaGreatDoor.LS
namespace Go.Proofs.YtkodhpilkaihjaaGreatDoor
open Go.RowKit LS Go.Proofs.Tryz
theorem Zt6{h:Nat}(a:h % 2=1):bitS h=(h / 2) ^^^ 3988292384:=if_pos a
theorem Zt4{h:Nat}(a:¬h % 2=1):bitS h=h / 2:=if_neg a
theorem ZrR{k:IntKind}{a b:Int}(h:a=b):Ending.returned (.int k a)=.returned (.int k b):=by rw[h]
theorem ZE4{a:Nat}(b:a<4294967296)(c:UInt8):bits .xor .u32 (a:Int) ((c.toNat:Int) % 4294967296)=((a ^^^ c.toNat:Nat):Int):=by
 have d:=c.toNat_lt;rw[show((c.toNat:Int) % 4294967296)=(c.toNat:Int) by omega];exact u32_xor_nat a _ b Om
theorem ZE5{z:Nat}(a:z<4294967296):4294967295 ^^^ z=4294967295 - z:=by
 have h:(BitVec.allOnes 32 ^^^ BitVec.ofNat 32 z).toNat=(~~~ BitVec.ofNat 32 z).toNat:=by rw[BitVec.allOnes_xor]
 rw[BitVec.toNat_xor,BitVec.toNat_not,Yeo,Yd4 a]at h;exact h
theorem Zzq{z:Nat}(a:z<4294967296):bits .xor .u32 IntKind.u32.max (z:Int)=4294967295 - (z:Int):=by
 have:=u32_xor_nat 4294967295 z Dc a;rw[ZE5 a]at this;rw[show IntKind.u32.max=((4294967295:Nat):Int) from rfl,this];omega
theorem ZtI{z:Nat}(a:z<4294967296):bits .and .u32 (z:Int) 1=(z:Int) % 2:=by
 have:=u32_and_nat z 1 a Dc;rw[Nat.and_one_is_mod]at this;rw[show(1:Int)=((1:Nat):Int) from rfl,this];omega
theorem ZVV(s:BA){w:World}(q:s.size<=maxLen) :
  CP 30 #[.string s] w fun e u=>e=.returned (.int .u32 (sumQ (bl s)))/\u=w:=by
 unfold maxLen at q;go_enter func30,ntmps30;go_wp2
 go_loop [3,4] (fun h i=>∃k:Nat,k<=s.size/\i=Vi k/\h=.int .u32 (sumL ((bl s).take k))) (fun _ i=>s.size - (intOf i).toNat)
 case atStart=>exact⟨0,Yag _,rfl,rfl⟩
 case round=>
  obtain⟨k,A,rfl,rfl⟩:=hrel;have m:=ZCX ((bl s).take k);obtain⟨a,c⟩:∃a,sumL ((bl s).take k)=a:=⟨_,rfl⟩
  have b:Hid (sumL ((bl s).take k)=a):=c;rw[c]at m ⊢;clear c;by_cases o:k<s.size
  ·have r:=ZE4 m s[k];have f:Hid (sumL ((bl s).take (k+1))=ZfS 8 (a ^^^ s[k].toNat)):=hid (by rw[ZiB s k o,Zsz,b.out];rfl);have g:a ^^^ s[k].toNat<4294967296:=Zty m _;obtain⟨g0,l⟩:∃g0,a ^^^ s[k].toNat=g0:=⟨_,rfl⟩
   rw[l]at r f g;clear l b;go_wp2
   go_loop [3,5] (fun h i=>∃j:Nat,j<=8/\i=Vi j/\h=.int .u32 (ZfS j g0)) (fun _ i=>8 - (intOf i).toNat)
   case atStart=>exact⟨0,Yag _,rfl,rfl⟩
   case round=>
    obtain⟨j,B,rfl,rfl⟩:=hrel;by_cases x:j<8
    ·have C:=ZkX g j;have p:Hid (ZfS (j+1) g0=bitS (ZfS j g0)):=rfl;generalize ZfS j g0=z at *
     by_cases d:z % 2=1
     ·have y:bits .xor .u32 ((z:Int) / 2) 3988292384=((z / 2 ^^^ 3988292384:Nat):Int):=by
       have:=u32_xor_nat (z / 2) 3988292384 Om Om;simpa using this
      have t:((z:Int) % 2 == 1)=true:=by rw[beq_iff_eq];omega
      have n:=hid (Zt6 d);clear d;go_wp2
      go_round
      case rel=>exact⟨j+1,by omega,by go_num,by rw[p.out,n.out]⟩
      case measure=>simp[intOf];omega
     ·have t:((z:Int) % 2 == 1)=false:=by rw[beq_eq_false_iff_ne];omega
      have n:=hid (Zt4 d);clear d;go_wp2
      go_round
      case rel=>exact⟨j+1,by omega,by go_num,by rw[p.out,n.out];go_num⟩
      case measure=>simp[intOf];omega
    ·obtain rfl:j=8:=by omega
     go_wp2
     go_round
     case rel=>exact⟨k+1,by omega,by go_num,by rw[f.out]⟩
     case measure=>simp[intOf];omega
  ·have v:Hid (sumQ (bl s)=4294967295 - a):=hid (by
    unfold sumQ;rw[<-b.out,Ya5 (by rw[Zd];omega)])
   clear b;go_wp2;go_ret;exact⟨ZrR (by rw[v.out];omega),rfl⟩
theorem Zru(s:BA)(w:World)(q:s.size<=maxLen) :
  CP 77 #[.string s] w fun e u=>e=.returned (.int .u32 (sumQ (bl s)))/\u=w:=by
 unfold maxLen at q;go_enter func77,ntmps77;go_wp2
 go_loop [3,8] (fun h i=>∃k:Nat,k<=s.size/\i=Vi k/\h=.int .u32 (sumL ((bl s).take k))) (fun _ i=>s.size - (intOf i).toNat)
 case atStart=>exact⟨0,Yag _,rfl,rfl⟩
 case round=>
  obtain⟨k,C,rfl,rfl⟩:=hrel;have d:=ZCX ((bl s).take k);obtain⟨a,c⟩:∃a,sumL ((bl s).take k)=a:=⟨_,rfl⟩
  have b:Hid (sumL ((bl s).take k)=a):=c;rw[c]at d ⊢;clear c;by_cases o:k<s.size
  ·have r:=ZE4 d s[k];have g:Hid (sumL ((bl s).take (k+1))=ZfS 8 (a ^^^ s[k].toNat)):=hid (by rw[ZiB s k o,Zsz,b.out];rfl);have l:a ^^^ s[k].toNat<4294967296:=Zty d _;obtain⟨g0,m⟩:∃g0,a ^^^ s[k].toNat=g0:=⟨_,rfl⟩
   rw[m]at r g l;clear m b;go_wp2
   go_loop [3,17] (fun h i=>∃j:Nat,j<=8/\i=Vi j/\h=.int .u32 (ZfS j g0)) (fun _ i=>8 - (intOf i).toNat)
   case atStart=>exact⟨0,Yag _,rfl,rfl⟩
   case round=>
    obtain⟨j,D,rfl,rfl⟩:=hrel;by_cases A:j<8
    ·have t:=ZkX l j;have p:Hid (ZfS (j+1) g0=bitS (ZfS j g0)):=rfl;generalize ZfS j g0=z at *
     have v:=ZtI t;by_cases f:z % 2=1
     ·have B:bits .xor .u32 ((z:Int) / 2) 3988292384=((z / 2 ^^^ 3988292384:Nat):Int):=by
       have:=u32_xor_nat (z / 2) 3988292384 Om Om;simpa using this
      have x:((z:Int) % 2 == 1)=true:=by rw[beq_iff_eq];omega
      have n:=hid (Zt6 f);clear f;go_wp2
      go_round
      case rel=>exact⟨j+1,by omega,by go_num,by rw[p.out,n.out]⟩
      case measure=>simp[intOf];omega
     ·have x:((z:Int) % 2 == 1)=false:=by rw[beq_eq_false_iff_ne];omega
      have n:=hid (Zt4 f);clear f;go_wp2
      go_round
      case rel=>exact⟨j+1,by omega,by go_num,by rw[p.out,n.out];go_num⟩
      case measure=>simp[intOf];omega
    ·obtain rfl:j=8:=by omega
     go_wp2
     go_round
     case rel=>exact⟨k+1,by omega,by go_num,by rw[g.out]⟩
     case measure=>simp[intOf];omega
  ·have y:Hid (sumQ (bl s)=4294967295 - a):=hid (by
    unfold sumQ;rw[<-b.out,Ya5 (by rw[Zd];omega)])
   have E:=Zzq d;clear b;go_wp2;go_ret;exact⟨ZrR (by rw[y.out];omega),rfl⟩
theorem ZTO{s:BA}{w:World}(l:s.size<=6) :
  CP 49 #[.string s] w fun e u=>e=.returned (Vi (back (bl s)))/\u=w:=by
 go_enter func49,ntmps49;go_wp2
 go_loop [3,4] (fun h i=>∃k:Nat,k<=s.size/\i=Vi k/\h=Vi (back ((bl s).take k))) (fun _ i=>s.size - (intOf i).toNat)
 case atStart=>exact⟨0,Yag _,rfl,rfl⟩
 case round=>
  obtain⟨k,m,rfl,rfl⟩:=hrel;have g:back ((bl s).take k)<256 ^ 6:=ZhM (by rw[Ya7];omega);obtain⟨b,c⟩:∃b,back ((bl s).take k)=b:=⟨_,rfl⟩
  have a:Hid (back ((bl s).take k)=b):=c;rw[c]at g ⊢;clear c;by_cases d:k<s.size
  ·have f:Hid (back ((bl s).take (k+1))=256*b+s[k].toNat):=hid (by rw[ZiB s k d,ZnY,a.out]);have n:=s[k].toNat_lt;clear a;go_wp2
   go_round
   case rel=>exact⟨k+1,by omega,by go_num,by rw[f.out];go_num⟩
   case measure=>simp[intOf];omega
  ·have j:Hid (back (bl s)=b):=hid (by rw[<-a.out,Ya5 (by rw[Zd];omega)]);clear a;go_wp2;go_ret;exact⟨ZrR (by rw[j.out]),rfl⟩
theorem ZTF(a b:BA):bl (a++b)=bl a++bl b:=by
 simp[bl,ByteArray.data_append]
theorem ZUU(W:World)(d:Nat)(hd:d<256):(convert 41 9 (.slice (some ⟨W.heap.size,0,none⟩) 1 1)).run prog (W.alloc (.cells #[.int .u8 (d:Int)] 5))=.ok (.string ⟨#[UInt8.ofNat d]⟩) (W.alloc (.cells #[.int .u8 (d:Int)] 5)):=by
 refine run_convert_bytes_back _ _ _ 5 ⟨W.heap.size,0,none⟩ 1 [UInt8.ofNat d] underlying41 underlying5 underlying9 ?_;intro j a;obtain rfl:j=0:=by simp at a;omega
 rw[ZfO];have h:=Go.Deep.blk_alloc_new W (.cells #[.int .u8 (d:Int)] 5);simp only[World.cell?,h];simp;omega
theorem ZVU(n:Nat){w:World}(d:n<4294967296) :
  CP 29 #[Vi n,Vi 4] w fun e u=>∃r:BA,e=.returned (.string r)/\Hid (bl r=digL n 4)/\BW w u:=by
 go_enter func29,ntmps29;go_wp2
 go_loopw [0,5,6] (fun nv sv iv wr=>∃(k:Nat) (r:BA),k<=4/\iv=Vi k/\nv=Vi ((n / 256 ^ k:Nat):Int)/\sv=.string r/\Hid (bl r=digL n k)/\BW w wr) (fun _ _ iv _=>4 - (intOf iv).toNat)
 case atStart=>exact⟨0,⟨#[]⟩,Yag _,rfl,by simp,rfl,hid rfl,Yaf _ _⟩
 case round=>
  obtain⟨k,r,f,rfl,rfl,rfl,a,b⟩:=hrel;have j:=b.size;have g:Hid (n / 256 ^ (k+1)=n / 256 ^ k / 256):=hid (by rw[Yhe,<-Yhc]);have p:n / 256 ^ k<4294967296:=Nat.lt_of_le_of_lt (Nat.div_le_self _ _) d;have h:Hid (digL n (k+1)=UInt8.ofNat (n / 256 ^ k % 256)::digL n k):=hid (ZU0 k n);have l:r.size<=4:=by rw[ZU a.out,ZT1];exact f
  generalize n / 256 ^ k=m at *
  by_cases o:k<4
  ·have c:=ZUU wr (m % 256) Om;rw[show((m % 256:Nat):Int)=(m:Int) % 256 from by omega]at c;have i:Hid (bl (⟨#[UInt8.ofNat (m % 256)]⟩++r)=digL n (k+1)):=hid (by rw[ZTF,h.out,a.out];rfl);have e1:(⟨#[UInt8.ofNat (m % 256)]⟩:BA).size=1:=rfl;have a1:∀W,(Op.stringOp .add ⟨#[UInt8.ofNat (m % 256)]⟩ r).run prog W=.ok (.string (⟨#[UInt8.ofNat (m % 256)]⟩++r)) W:=fun W=>run_string_add_sum W _ _ Om;go_wp2
   go_roundw
   case rel=>exact⟨k+1,_,by omega,by go_num,by rw[g.out];go_num,rfl,i,belB⟩
   case measure=>simp[intOf];omega
  ·obtain rfl:k=4:=by omega
   go_wp2;go_ret;exact⟨r,rfl,a,b⟩
theorem ZUC{s:BA}(w:World)(f:s.size+4<=9223372036854775807) :
  CP 17 #[.string s] w fun e u=>∃r:BA,e=.returned (.string r)/\Hid (bl r=bl s++digL (sumQ (bl s)) 4)/\BW w u:=by
 have c:=Znn (bl s);go_enter func17,ntmps17
 go_wp2_with fail
 refine(ZVV s (by unfold maxLen;omega)).mono ?_;rintro e o ⟨rfl,rfl⟩
 go_wp2_with fail
 refine(ZVU (sumQ (bl s)) c).mono ?_;rintro e y ⟨r,rfl,a,d⟩;have b:r.size=4:=by rw[ZU a.out,ZT1]
 have a1:∀W,(Op.stringOp .add s r).run prog W=.ok (.string (s++r)) W:=fun W=>run_string_add_sum W _ _ Om;clear b;go_wp2;go_ret;exact⟨_,rfl,hid (by rw[ZTF,a.out]),d⟩
abbrev RdAt (w:World) (b:Nat) (s:BA) (p:Nat):Prop:=BAt w b [.string s,Vi p] 178
abbrev Zc5 (w:World) (ca:Addr):Prop:=w.cell? ⟨8,0,none⟩=some (.iface 491 (.pointer (some ca)))
def RdC{α:Type}(V:World->α->Value->Prop)(Z:Value->Prop)(w:World)(b:Nat)(s:BA)(ca:Addr)(r:RdR α)(v err:Value):Prop:=match r with
 | .ok x=>err=.nilIface/\V w x.1 v/\RdAt w b s x.2
 | .error x=>x.1=9/\ZM w err x.2 ca/\Z v/\∃p:Nat,RdAt w b s p
theorem RdC.ok{α:Type}{V:World->α->Value->Prop}{Z:Value->Prop}{w:World}{b:Nat}{s:BA}{ca:Addr}{r:RdR α}{v err:Value}(h:RdC V Z w b s ca r v err){x:α×Nat}(a:r=.ok x):err=.nilIface/\V w x.1 v/\RdAt w b s x.2:=by subst a;exact h
theorem RdC.err{α:Type}{V:World->α->Value->Prop}{Z:Value->Prop}{w:World}{b:Nat}{s:BA}{ca:Addr}{r:RdR α}{v err:Value}(h:RdC V Z w b s ca r v err){x:Nat×Nat}(a:r=.error x):x.1=9/\ZM w err x.2 ca/\Z v/\∃p:Nat,RdAt w b s p:=by subst a;exact h
theorem RdC.mkOk{α:Type}{V:World->α->Value->Prop}{Z:Value->Prop}{w:World}{b:Nat}{s:BA}{ca:Addr}{r:RdR α}{v err:Value}{x:α×Nat}(a:r=.ok x)(h:err=.nilIface/\V w x.1 v/\RdAt w b s x.2):RdC V Z w b s ca r v err:=by subst a;exact h
theorem RdC.kj{α:Type}{V:World->α->Value->Prop}{Z:Value->Prop}{w:World}{b:Nat}{s:BA}{ca:Addr}{r:RdR α}{v err:Value}{x:Nat×Nat}(a:r=.error x)(h:x.1=9/\ZM w err x.2 ca/\Z v/\∃p:Nat,RdAt w b s p):RdC V Z w b s ca r v err:=by subst a;exact h
theorem Zc5.grown{w w':World}{ca:Addr}{b:Nat}(h:Zc5 w ca)(a:w.grownBy w' (some b))(d:20<=b):Zc5 w' ca:=by
 have c:8<w.heap.size:=Yai _ _ h;have e:=a.block _ c (by intro e;injection e with e;have:8<20:= Dc;omega);unfold Zc5 at h ⊢;unfold World.cell? at h ⊢;simp only at h ⊢;rw[e];exact h
theorem Zc5.below{w w':World}{ca:Addr}(h:Zc5 w ca)(a:BW w w'):Zc5 w' ca:=
 (a.cell (p:=⟨_,0,none⟩) (Yai _ _ h)).trans h
theorem RdAt.step{w:World}{b:Nat}{s:BA}{p:Nat}(h:RdAt w b s p)(q:Nat):RdAt (w.setCell ⟨b,1,none⟩ (Vi (q:Int))) b s q:=by
 unfold RdAt BAt at h ⊢;simp only[World.setCell,Ybn,h,if_true,Ybf];rfl
theorem ZM.shape{w:World}{v:Value}{p:Int}{a:Addr}(h:ZM w v p a):∃fa:Nat,v=.iface 115 (Vp fa):=ZM.lt h
theorem ZfX{i:Int}(ca:Addr){w:World}(a:Zc5 w ca) :
  CP 76 #[Vi i] w fun e u=>∃v,e=.returned v/\Hid (ZM u v i ca)/\BW w u:=by
 have c:w.cell? ⟨8,0,none⟩=some (.iface 491 (.pointer (some ca))):=a;clear a;go_enter func76,ntmps76
 go_wp2_with fail
 refine(ZkT i w).mono ?_;rintro e u ⟨rfl,rfl⟩;have b:Hid (ZM (w.alloc (.cells #[.string ⟨#[98,121,116,101]⟩,Vi i,.iface 491 (.pointer (some ca))] 119)) (.iface 115 (Vp w.heap.size)) i ca):=hid ⟨_,rfl,Go.Deep.blk_alloc_new _ _⟩;go_wp2;go_ret;exact⟨_,rfl,b,Zbal⟩
def SVt(_:World)(a:LB)(v:Value):Prop:=∃t:BA,v=.string t/\bl t=a
def SZv(v:Value):Prop:=v=.string ⟨#[]⟩
theorem Zm1(s:BA)(p n b:Nat)(ca:Addr)(w:World)(d:RdAt w b s p)(l:Zc5 w ca)(t:p<=s.size)(m:s.size<=maxLen)(x:n<=70000) :
  CP 144 #[Vp b,Vi n] w fun e u=>∃v err,e=.returned (.tuple #[v,err])/\Hid (RdC SVt SZv u b s ca (Zcg (bl s) p n) v err)/\w.grownBy u (some b):=by
 unfold maxLen at m;have f:Hid (RdAt w b s p):=d;have o:Hid (Zc5 w ca):=l;have c:Hid (RdAt w.drew b s p):=hid (d.below ((Yaf _ _).drew));have c0:w.cell? ⟨b,0,none⟩=some (.string s):=f.cell 0;have c1:w.cell? ⟨b,1,none⟩=some (Vi p):=f.cell 1;have f1:w.frozen? ⟨b,1,none⟩=false:=f.frozen 1;clear d l;by_cases h:s.size<p+n
 ·have hd:(s.size:Int) - p<n:=by omega
  have g:Hid (Zcg (bl s) p n=.error (9,s.size)):=hid (by unfold Zcg;rw[if_pos (by rw[Zd];exact h),Zd]);clear h;go_enter func144,ntmps144;go_wp2
  go_region
  all_goals
   go_wp2_with fail
   refine(ZfX ca (o.below ((Yaf _ _).drew))).mono ?_;rintro e y ⟨v,rfl,i,a⟩;have q:=hid (ZM.shape i.out);have j:Hid (RdC SVt SZv y b s ca (Zcg (bl s) p n) (.string ⟨#[]⟩) v):=hid (RdC.kj g.out ⟨rfl,i.out,rfl,p,c.below a⟩);have k:Hid (w.grownBy y (some b)):=hid (Zw (((Yaf w.heap.size w).drew).trans a));obtain⟨fa,rfl⟩:=q.out;clear i a;go_wp2;go_ret2;exact⟨_,_,rfl,j,k.out⟩
 ·have hd:¬(s.size:Int) - p<n:=by omega
  have g:Hid (Zcg (bl s) p n=.ok (bl (s.extract p (p+n)),p+n)):=hid (by unfold Zcg;rw[if_neg (by rw[Zd];omega),Zsy]);have j:Hid (RdAt (w.drew.setCell ⟨b,1,none⟩ (Vi ((p+n:Nat):Int))) b s (p+n)):=hid (RdAt.step c.out _);have k:Hid (w.grownBy (w.drew.setCell ⟨b,1,none⟩ (Vi ((p+n:Nat):Int))) (some b)):=hid (ZA (Zdi (ZbM _ _)) (Or.inl rfl) _);have r:p+n<=s.size:=by omega
  go_enter func144,ntmps144;go_wp2
  go_region
  all_goals
   go_wp2
   go_region
   all_goals
    go_wp2;go_ret2;exact⟨_,_,rfl,hid (RdC.mkOk g.out ⟨rfl,⟨_,rfl,rfl⟩,j.below ((Yaf _ _).drew)⟩),Zdi k.out⟩
def NV(_:World)(a:Nat)(v:Value):Prop:=v=Vi a
def NZ(v:Value):Prop:=v=Vi 0
theorem ZzR{a c:Nat}(h:a<16777216)(d:c<256):bits .or .i64 ((a:Int)*256) (c:Int)=((256*a+c:Nat):Int):=by
 have e:(BitVec.ofInt 64 ((a:Int)*256)).toNat=a*256:=by
  rw[show((a:Int)*256)=((a*256:Nat):Int) by omega,BitVec.ofInt_natCast,Yeo];exact Yd4 Om
 have f:(BitVec.ofInt 64 (c:Int)).toNat=c:=by
  rw[BitVec.ofInt_natCast,Yeo];exact Yd4 Om
 have g:a*256 ||| c=256*a+c:=by
  have:=Nat.two_pow_add_eq_or_of_lt (i:=8) (b:=c) d a;rw[show(2:Nat) ^ 8=256 from rfl]at this;rw[Nat.mul_comm a 256];exact this.symm
 show IntKind.i64.wrap ((BitVec.ofInt 64 ((a:Int)*256) ||| BitVec.ofInt 64 (c:Int)).toNat:Int)=_;rw[BitVec.toNat_or,e,f,g,Ybo];omega
theorem Zis(s:BA)(p n b:Nat)(ca:Addr)(w:World)(z:RdAt w b s p)(h:Zc5 w ca)(I:p<=s.size)(A:s.size<=maxLen)(J:n<=4) :
  CP 75 #[Vp b,Vi n] w fun e u=>∃v err,e=.returned (.tuple #[v,err])/\Hid (RdC NV NZ u b s ca (Zbr (bl s) p n) v err)/\w.grownBy u (some b):=by
 have o:Hid (CP 144 #[Vp b,Vi n] w _):=hid (Zm1 s p n b ca w z h I A Om);clear z h A;go_enter func75,ntmps75
 go_wp2_with fail
 refine o.mono ?_;rintro e y ⟨v,err,rfl,j,B⟩;cases c:Zcg (bl s) p n with
 | error x=>
  obtain⟨C,q,rfl,D⟩:=j.err c;obtain⟨fa,rfl⟩:=ZM.shape q;have r:Hid (RdC NV NZ y b s ca (Zbr (bl s) p n) (Vi 0) (.iface 115 (Vp fa))):=hid (RdC.kj (x:=x) (by unfold Zbr;rw[c]) ⟨C,q,rfl,D⟩);clear j o c C q D;go_wp2
  go_loop [8,18] (fun v i=>v=Vi 0/\i=Vi 0) (fun _ _=>0)
  case atStart=>exact⟨rfl,rfl⟩
  case round=>
   obtain⟨rfl,rfl⟩:=hrel;go_wp2;go_ret2;exact⟨_,_,rfl,r,B⟩
 | ok x=>
  obtain⟨rfl,⟨t,rfl,f⟩,E⟩:=j.ok c;obtain⟨l,m,F⟩:=Zhh c;have M:t.size<=4:=by rw[ZU f,m,Zki l];exact J
  have r:Hid (RdC NV NZ y b s ca (Zbr (bl s) p n) (Vi (back (bl t))) .nilIface):=hid (RdC.mkOk (x:=(back x.1,x.2)) (by unfold Zbr;rw[c]) ⟨rfl,by rw[f];rfl,E⟩);clear j o c E f m F l;go_wp2
  go_loop [8,18] (fun v i=>∃k:Nat,k<=t.size/\i=Vi k/\v=Vi (back ((bl t).take k))) (fun _ i=>t.size - (intOf i).toNat)
  case atStart=>exact⟨0,Yag _,rfl,rfl⟩
  case round=>
   obtain⟨k,O,rfl,rfl⟩:=hrel;obtain⟨d,g⟩:∃d,back ((bl t).take k)=d:=⟨_,rfl⟩
   have a:Hid (back ((bl t).take k)=d):=g;rw[g];clear g;by_cases G:k<t.size
   ·have K:d<16777216:=by
     have:back ((bl t).take k)<256 ^ 3:=ZhM (by rw[Ya7];omega);rw[a.out]at this;exact this
    have h:=t[k].toNat_lt;have N:=ZzR K h;have H:Hid (back ((bl t).take (k+1))=256*d+t[k].toNat):=hid (by rw[ZiB t k G,ZnY,a.out]);clear a;go_wp2
    go_round
    case rel=>exact⟨k+1,by omega,by go_num,by rw[H.out];go_num⟩
    case measure=>simp[intOf];omega
   ·have L:Hid (back (bl t)=d):=hid (by rw[<-a.out,Ya5 (by rw[Zd];omega)]);clear a;go_wp2;go_ret2;exact⟨_,_,rfl,by rw[<-L.out];exact r,B⟩
def ZdI(l:LB):RdR Unit:=if l.head?≠some 103 then .error (9,0)else .ok ((),1)
theorem ZwT(s:BA)(h:0<s.size):(bl s).head?=some s[0]:=by
 rw[Yd1,List.getElem?_eq_getElem (by rw[Zd];exact h),ZgE s 0 h]
theorem ZA9(s:BA)(b:Nat){ca:Addr}(w:World)(D:RdAt w b s 0)(A:Zc5 w ca)(J:20<=b)(E:s.size<=maxLen) :
  CP 135 #[Vp b] w fun e u=>∃err,e=.returned err/\Hid (RdC (fun _ _ _=>True) (fun _=>True) u b s ca (ZdI (bl s)) .nilIface err)/\w.grownBy u (some b):=by
 have n:Hid (CP 144 #[Vp b,Vi (1:Nat)] w _):=hid (Zm1 s 0 1 b ca w D A (Yag _) E Om);have F:Hid (Zc5 w ca):=A;clear D A E;go_enter func135,ntmps135
 go_wp2_with fail
 refine n.mono ?_;rintro e y ⟨v,err,rfl,i,o⟩;cases a:Zcg (bl s) 0 1 with
 | error x=>
  obtain⟨K,p,rfl,G⟩:=i.err a;obtain⟨fa,rfl⟩:=ZM.shape p
  have B:s.size=0/\x=(9,0):=by
   unfold Zcg at a;rw[Zd]at a;split at a
   ·injection a with a;exact⟨by omega,by rw[<-a];congr 1;omega⟩
   ·cases a
  have j : Hid (RdC (fun _ _ _ => True) (fun _ => True) y b s ca (ZdI (bl s)) .nilIface (.iface 115 (Vp fa))) := hid (RdC.kj (x := (9, 0)) (by
    unfold ZdI;rw[if_pos];rw[Ya3 (l:=bl s) (by rw[Zd];exact B.1)];simp) ⟨rfl,by rw[B.2]at p;exact p,trivial,G⟩)
  clear i n a K p G B;go_wp2;go_ret;exact⟨_,rfl,j,o⟩
 | ok x=>
  obtain⟨rfl,⟨t,rfl,d⟩,q⟩:=i.ok a;obtain⟨f,g,k⟩:=Zhh a;rw[Zd]at f;have N:t.size=1:=by rw[ZU d,g,Zki (by rw[Zd];exact f)]
  have h:some t[0]=(bl s).head?:=by
   rw[<-ZwT t Om,d,g];unfold sub;rw[Ygr,List.head?_take,if_neg Dc]
  have r:Hid (RdAt y b s 1):=hid (by rw[k]at q;exact q);have H:Hid (Zc5 y ca):=hid (F.grown o J);by_cases c:t[0]=103
  ·have j:Hid (RdC (fun _ _ _=>True) (fun _=>True) y b s ca (ZdI (bl s)) .nilIface .nilIface):=hid (RdC.mkOk (x:=((),1)) (by unfold ZdI;rw[<-h,c];rfl) ⟨rfl,trivial,r.out⟩);have L:((t[0].toNat:Int) != 103)=false:=by rw[c];rfl
   clear i n a q d g k f h c;go_wp2;go_ret;exact⟨_,rfl,j,o⟩
  ·have L:((t[0].toNat:Int) != 103)=true:=by
    rw[bne_iff_ne];intro e;exact c (Ydf.1 (by show _=103;omega))
   have M:Hid (ZdI (bl s)=.error (9,0)):=hid (by
    unfold ZdI;rw[<-h,if_pos];intro e;injection e with e;exact c e)
   clear i n a q d g k f h c
   go_wp2_with fail
   refine(ZfX ca H.out).mono ?_;rintro e z ⟨v,rfl,C,m⟩;have j:Hid (RdC (fun _ _ _=>True) (fun _=>True) z b s ca (ZdI (bl s)) .nilIface v):=hid (RdC.kj M.out ⟨rfl,C.out,trivial,1,r.below m⟩);have I:Hid (w.grownBy z (some b)):=hid (ZeT o m);obtain⟨fa,rfl⟩:=ZM.shape C.out;clear C m;go_wp2;go_ret;exact⟨_,rfl,j,I.out⟩
def KV(_:World)(a:Int)(v:Value):Prop:=v=Vi a
theorem ZCg{v:Nat}(a:v<4294967296):wrap32 (v:Int)=Zdp v:=by
 unfold Zdp wrap32;split <;> omega
theorem ZBb(s:BA)(p b:Nat){ca:Addr}(w:World)(l:RdAt w b s p)(m:Zc5 w ca)(K:20<=b)(L:p<=s.size)(t:s.size<=maxLen) :
  CP 137 #[Vp b] w fun e u=>∃v err,e=.returned (.tuple #[v,err])/\Hid (RdC KV NZ u b s ca (ZbW (bl s) p) v err)/\w.grownBy u (some b):=by
 have A:Hid (CP 75 #[Vp b,Vi (4:Nat)] w _):=hid (Zis s p 4 b ca w l m L t Om);have B:Hid (Zc5 w ca):=m;have c1:w.cell? ⟨b,1,none⟩=some (Vi p):=l.cell 1;clear l m t;go_enter func137,ntmps137
 go_wp2_with fail
 refine A.mono ?_;rintro e y ⟨v,err,rfl,g,h⟩;clear c1 A;cases c:Zbr (bl s) p 4 with
 | error x=>
  obtain⟨C,n,rfl,D⟩:=g.err c;obtain⟨fa,rfl⟩:=ZM.shape n;have d:Hid (RdC KV NZ y b s ca (ZbW (bl s) p) (Vi 0) (.iface 115 (Vp fa))):=hid (RdC.kj (x:=x) (by unfold ZbW;rw[c]) ⟨C,n,rfl,D⟩);clear g c C n D;go_wp2;go_ret2;exact⟨_,_,rfl,d,h⟩
 | ok x=>
  obtain⟨x1,x2⟩:=x;obtain⟨rfl,rfl,o⟩:=g.ok c;have a:=(Zev c).2.2.2;simp only at o a;have k:=hid o;have a:x1<4294967296:=a;have M:=ZCg a;have N:=ZCf a;have i:Hid (ZbW (bl s) p=if Zdp x1 < -1000000000∨1000000000<Zdp x1 then .error (9,p)else .ok (Zdp x1,x2)):=hid (by unfold ZbW;rw[c]);have E:Hid (Zc5 y ca):=hid (B.grown h K);clear g c o;generalize Zdp x1=z at *
  by_cases j:z < -1000000000∨1000000000<z
  ·have q:Hid (ZbW (bl s) p=.error (9,p)):=hid (by rw[i.out,if_pos j]);have F:(decide (z < -1000000000) || decide (1000000000<z))=true:=by simpa using j
   clear i;by_cases G:z < -1000000000
   all_goals
    have H:wrap64 z=z:=by unfold wrap64;omega
    go_wp2_with fail
    refine(ZfX ca E.out).mono ?_;rintro e I ⟨v,rfl,r,f⟩;have d:Hid (RdC KV NZ I b s ca (ZbW (bl s) p) (Vi 0) v):=hid (RdC.kj q.out ⟨rfl,r.out,rfl,_,k.below f⟩);have J:Hid (w.grownBy I (some b)):=hid (ZeT h f);obtain⟨fa,rfl⟩:=ZM.shape r.out;clear r f;go_wp2;go_ret2;exact⟨_,_,rfl,d,J.out⟩
  ·have q:Hid (ZbW (bl s) p=.ok (z,x2)):=hid (by rw[i.out,if_neg j]);have F : -1000000000<=z:=by omega
   have G:z<=1000000000:=by omega
   have H:wrap64 z=z:=by unfold wrap64;omega
   have d:Hid (RdC KV NZ y b s ca (ZbW (bl s) p) (Vi z) .nilIface):=hid (RdC.mkOk q.out ⟨rfl,rfl,k.out⟩);clear i j;go_wp2;go_ret2;exact⟨_,_,rfl,d,h⟩
theorem RdC.kept{α:Type}{V:World->α->Value->Prop}{Z:Value->Prop}{w w':World}{b:Nat}{s:BA}{ca:Addr}{r:RdR α}{v err:Value}(h:RdC V Z w b s ca r v err){a:Nat}{c:List Value}{t:TypeId}(i:w.grownBy w' (some a))(d:BAt w a c t)(g:t≠178)(k:t≠119)(l:∀x,V w x v->V w' x v):RdC V Z w' b s ca r v err:=by
 have j : ∀ p, RdAt w b s p -> RdAt w' b s p := fun p f => f.grown i (fun e => by
   injection e with e;subst e;unfold RdAt at f;unfold BAt at f d;rw[f]at d;injection d with d;injection d with _ e2;exact g e2.symm)
 cases r with
 | ok x=>exact⟨h.1,l _ h.2.1,j _ h.2.2⟩
 | error x=>
  obtain⟨g,m,n,p,o⟩:=h;exact⟨g,m.grown i d k,n,p,j _ o⟩
theorem Zka(w:World)(a:Nat)(x y:Value):w.grownBy (set2 w a x y) (some a):=ZA (ZA (ZbM w (some a)) (Or.inl rfl) _) (Or.inl rfl) _
def IV(_:World)(a:Nat×Nat)(v:Value):Prop:=v=.agg #[Vi a.1,Vi a.2]
def IZ(v:Value):Prop:=∃x y:Int,v=.agg #[Vi x,Vi y]
theorem RdC.kw{α β:Type}{V:World->α->Value->Prop}{Z:Value->Prop}{V':World->β->Value->Prop}{Z':Value->Prop}{w:World}{b:Nat}{s:BA}{ca:Addr}{r:RdR α}{r':RdR β}{v v' err:Value}{x:Nat×Nat}(h:RdC V Z w b s ca r v err)(c:r=.error x)(a:r'=.error x)(d:Z' v'):RdC V' Z' w b s ca r' v' err:=by
 obtain⟨e,f,_,g⟩:=h.err c;exact RdC.kj a ⟨e,f,d,g⟩
theorem RdC.jm{α:Type}{V:World->α->Value->Prop}{Z:Value->Prop}{w:World}{b:Nat}{s:BA}{ca:Addr}{r:RdR α}{v err:Value}{x:Nat×Nat}(h:RdC V Z w b s ca r v err)(a:r=.error x):∃fa:Nat,err=.iface 115 (Vp fa):=ZM.shape (h.err a).2.1
theorem ZBy(s:BA)(p b:Nat){ca:Addr}(w:World)(E:RdAt w b s p)(U:Zc5 w ca)(hb:20<=b)(hp:p<=s.size)(V:s.size<=maxLen) :
  CP 143 #[Vp b] w fun e u=>∃v err,e=.returned (.tuple #[v,err])/\Hid (RdC IV IZ u b s ca (ZbN (bl s) p) v err)/\w.grownBy u (some b):=by
 have a3:=E.lt;have X:Hid (∀(p n:Nat) (w:World),RdAt w b s p->Zc5 w ca->p<=s.size->n<=4->CP 75 #[Vp b,Vi n] w _):=hid (fun p n w F P Q h4=>Zis s p n b ca w F P Q V h4);have Y:Hid (Zc5 w ca):=U;have Z:=hid E;have c1:w.cell? ⟨b,1,none⟩=some (Vi p):=E.cell 1;clear E U V;go_enter func143,ntmps143
 go_wp2_with fail
 refine Zm fun W R=>?_;have i:BW w W:=by rw[R];exact Zbal
 have H:Hid (BAt W w.heap.size [Vi 0,Vi 0] 184):=hid (by rw[R];exact Go.Deep.blk_alloc_new _ _);have I:Hid (w.grownBy W (some b)):=hid (Zw i);have l:=hid (Y.below i);have J:=hid (Z.below i);clear R i c1;refine(X.out p 1 W J.out l.out hp Om).mono ?_;rintro e m ⟨v,err,rfl,g,j⟩;have o:Hid (w.grownBy m (some b)):=hid (Zj I.out j);have d:=hid (H.grown j (by intro e;injection e with e;omega));have K:Hid (Zc5 m ca):=hid (l.grown j hb);clear j I H l J;cases f:Zbr (bl s) p 1 with
 | error x=>
  obtain⟨fa,rfl⟩:=g.jm f;have t:Hid (RdC IV IZ m b s ca (ZbN (bl s) p) (.agg #[Vi 0,Vi 0]) (.iface 115 (Vp fa))):=hid (g.kw f (by unfold ZbN;rw[f]) ⟨0,0,rfl⟩);obtain⟨_,_,rfl,_⟩:=g.err f;clear g f;have f0:=d.frozen 0;have f1:=d.frozen 1;have c0:=d.cell 0;have c1:=d.cell 1;simp only[Zget]at c0 c1;go_wp2;exact ret2 (r:=.tuple #[.agg #[Vi 0,Vi 0],.iface 115 (Vp fa)]) (fun W s0 s1=>by simp[results,results143,go_sem,s0,s1]) rfl d.out ⟨_,_,rfl,t.kept (Zka m w.heap.size (Vi 0) (Vi 0)) d.out Dc Dc (fun _ h=>h),Zgr o.out (Yac _) (Vi 0) (Vi 0)⟩
 | ok x=>
  obtain⟨op,q⟩:=x;obtain⟨rfl,rfl,S⟩:=g.ok f;have A:=(Zev f).2.2.2;have a0:q<=s.size:=by have:=Zev f;rw[Zd]at this;simp only at this;omega
  simp only at S A;have A:op<256:=A;have L:=hid S
  have G:Hid (ZbN (bl s) p=if 13<op then .error (9,p)else match Zbr (bl s) q 2 with
   | .error e=>.error e
   | .ok y=>.ok ((op,y.1),y.2)):=hid (by unfold ZbN;rw[f]<;>rfl)
  clear g f S;have f0:=d.frozen 0;have f1:=d.frozen 1;have c0:=d.cell 0;have c1:=d.cell 1;simp only[Zget]at c0 c1;by_cases M:13<op
  ·have B:Hid (ZbN (bl s) p=.error (9,p)):=hid (by rw[G.out,if_pos M]);have hd:(13:Int)<op:=by omega
   clear G
   go_wp2_with fail
   refine(ZfX ca K.out).mono ?_;rintro e z ⟨v,rfl,T,k⟩;have t:Hid (RdC IV IZ z b s ca (ZbN (bl s) p) (.agg #[Vi 0,Vi 0]) v):=hid (RdC.kj B.out ⟨rfl,T.out,⟨0,0,rfl⟩,_,L.below k⟩);have C:Hid (w.grownBy z (some b)):=hid (ZeT o.out k);have c:=hid (d.below k);obtain⟨fa,rfl⟩:=ZM.shape T.out;clear T k f0 f1 c0 c1;have f0:=c.frozen 0;have f1:=c.frozen 1;have c0:=c.cell 0;have c1:=c.cell 1;simp only[Zget]at c0 c1;go_wp2;exact ret2 (r:=.tuple #[.agg #[Vi 0,Vi 0],.iface 115 (Vp fa)]) (fun W s0 s1=>by simp[results,results143,go_sem,s0,s1]) rfl c.out ⟨_,_,rfl,t.kept (Zka z w.heap.size (Vi 0) (Vi 0)) c.out Dc Dc (fun _ h=>h),Zgr C.out (Yac _) (Vi 0) (Vi 0)⟩
  ·have hd:¬(13:Int)<op:=by omega
   have B:Hid (ZbN (bl s) p=match Zbr (bl s) q 2 with
    | .error e=>.error e
    | .ok y=>.ok ((op,y.1),y.2)):=hid (by rw[G.out,if_neg M])
   clear G
   go_wp2_with fail
   refine(X.out q 2 m L.out K.out a0 Om).mono ?_;rintro e z ⟨v,err,rfl,g,D⟩;have C:Hid (w.grownBy z (some b)):=hid (Zj o.out D);have c:=hid (d.grown D (by intro e;injection e with e;omega));clear D f0 f1 c0 c1;have f0:=c.frozen 0;have f1:=c.frozen 1;have c0:=c.cell 0;have c1:=c.cell 1;simp only[Zget]at c0 c1
   obtain⟨a,a1,a2,t⟩:∃a:Nat,v=Vi a/\(err=.nilIface∨∃fa:Nat,err=.iface 115 (Vp fa))/\Hid (RdC IV IZ z b s ca (ZbN (bl s) p) (.agg #[Vi op,Vi a]) err):=by
    cases f:Zbr (bl s) q 2 with
    | error x=>
     obtain⟨_,_,hz,_⟩:=g.err f;exact⟨0,hz,Or.inr (g.jm f),hid (g.kw f (by rw[B.out,f]) ⟨_,_,rfl⟩)⟩
    | ok x=>
     obtain⟨F,P,Q⟩:=g.ok f;exact⟨x.1,P,Or.inl F,hid (RdC.mkOk (x:=((op,x.1),x.2)) (by rw[B.out,f]) ⟨F,rfl,Q⟩)⟩
   subst a1;clear g B;rcases a2 with rfl|⟨fa,rfl⟩
   all_goals
    go_wp2;change bodyPost _ _ _ _ _ (set2 z w.heap.size (Vi op) (Vi a));have st:=ZdS c.out (x:=Vi op) (y:=Vi a);have s0:=st.cell 0;have s1:=st.cell 1;simp only[Zget]at s0 s1;have N:=hid (t.kept (Zka z w.heap.size (Vi op) (Vi a)) c.out Dc Dc (fun _ h=>h));have O:=hid (Zgr C.out (Yac _) (Vi op) (Vi a));generalize set2 z w.heap.size (Vi op) (Vi a)=WX at *
   ·exact bodyPost_ret (v:=.tuple #[.agg #[Vi op,Vi a],.nilIface]) (by simp[results,results143,go_sem,s0,s1]) rfl ⟨_,_,rfl,N,O.out⟩
   ·exact bodyPost_ret (v:=.tuple #[.agg #[Vi op,Vi a],.iface 115 (Vp fa)]) (by simp[results,results143,go_sem,s0,s1]) rfl ⟨_,_,rfl,N,O.out⟩
theorem ZrS(s:BA)(p b:Nat){ca:Addr}(w:World)(o:RdAt w b s p)(g:Zc5 w ca)(J:20<=b)(K:p<=s.size)(h:s.size<=maxLen) :
  CP 196 #[Vp b] w fun e u=>∃v err,e=.returned (.tuple #[v,err])/\Hid (RdC SVt SZv u b s ca (ZcH (bl s) p) v err)/\w.grownBy u (some b):=by
 have r:Hid (CP 75 #[Vp b,Vi (2:Nat)] w _):=hid (Zis s p 2 b ca w o g K h Om);have L:Hid (∀(p n:Nat) (w:World),RdAt w b s p->Zc5 w ca->p<=s.size->n<=70000->CP 144 #[Vp b,Vi n] w _):=hid (fun p n w i j A M=>Zm1 s p n b ca w i j A h M);have B:Hid (Zc5 w ca):=g;clear o g h;go_enter func196,ntmps196
 go_wp2_with fail
 refine r.mono ?_;rintro e y ⟨v,err,rfl,c,k⟩;clear r;cases a:Zbr (bl s) p 2 with
 | error x=>
  obtain⟨fa,rfl⟩:=c.jm a;have l:Hid (RdC SVt SZv y b s ca (ZcH (bl s) p) (.string ⟨#[]⟩) (.iface 115 (Vp fa))):=hid (c.kw a (by unfold ZcH;rw[a]) rfl);obtain⟨_,_,rfl,_⟩:=c.err a;clear c a;go_wp2;go_ret2;exact⟨_,_,rfl,l,k⟩
 | ok x=>
  obtain⟨n,q⟩:=x;obtain⟨rfl,rfl,m⟩:=c.ok a;have d:=(Zev a).2.2.2;have C:q<=s.size:=by have:=Zev a;rw[Zd]at this;simp only at this;omega
  simp only at m d;have d:n<65536:=d;have D:=hid m;have E:Hid (Zc5 y ca):=hid (B.grown k J);have F:Hid (ZcH (bl s) p=Zcg (bl s) q n):=hid (by unfold ZcH;rw[a]);clear c a m
  go_wp2_with fail
  refine(L.out q n y D.out E.out C Om).mono ?_;rintro e z ⟨v,err,rfl,c,f⟩;have G:Hid (w.grownBy z (some b)):=hid (Zj k f);have l:Hid (RdC SVt SZv z b s ca (ZcH (bl s) p) v err):=hid (by rw[F.out];exact c.out)
  obtain⟨⟨t,H⟩,I⟩:(∃t:BA,v=.string t)/\(err=.nilIface∨∃fa:Nat,err=.iface 115 (Vp fa)):=by
   cases a:Zcg (bl s) q n with
   | error x=>
    obtain⟨_,_,N,_⟩:=c.err a;exact⟨⟨_,N⟩,Or.inr (c.jm a)⟩
   | ok x=>
    obtain⟨i,⟨t,j,_⟩,A⟩:=c.ok a;exact⟨⟨t,j⟩,Or.inl i⟩
  subst H;clear f c F;rcases I with rfl|⟨fa,rfl⟩
  all_goals
   go_wp2;go_ret2;exact⟨_,_,rfl,l,G.out⟩
def ZdL:List (Nat×Nat)->List Value
 | []=>[]
 | x::l=>.int .i64 x.1::.int .i64 x.2::ZdL l
theorem Zwd(l m:List (Nat×Nat)):ZdL (l++m)=ZdL l++ZdL m:=by
 induction l with
 | nil=>rfl
 | cons a l ih=>simp[ZdL,ih]
theorem Zfm(l:List (Nat×Nat))(j:Nat)(a:j<l.length):(ZdL l)[j*2]?=some (Vi l[j].1)/\(ZdL l)[j*2+1]?=some (Vi l[j].2):=by
 induction l generalizing j with
 | nil=>simp at a
 | cons r l ih=>
  cases j with
  | zero=>exact⟨rfl,rfl⟩
  | succ j=>
   have h:=ih j (by simpa using a);rw[show(j+1)*2=j*2+1+1 by omega];simpa [ZdL] using h
def OneC{α:Type}(f:FuncId)(V:World->α->Value->Prop)(Z:Value->Prop)(w0:World)(b:Nat)(s:BA)(ca:Addr)(one:Nat->RdR α):Prop:=
 ∀(p:Nat) (w:World),BW w0 w->RdAt w b s p->p<=s.size->
  CP f #[Vp b] w fun e w'=>∃v err,e=.returned (.tuple #[v,err])/\Hid (RdC V Z w' b s ca (one p) v err)/\w.grownBy w' (some b)
theorem ZbV{w0 w w':World}{b:Nat}(h:BW w0 w)(a:w.grownBy w' (some b))(d:w0.heap.size<=b):BW w0 w':=
 h.trans ⟨a.os,a.tape,a.output,a.size,fun k c=>a.block k (Yaw c h.size) (by intro e;injection e with e;omega)⟩
def RowZ(v:Value):Prop:=v=S0
def Zef(w:World)(cs:List Int)(v:Value):Prop:=w.ownsRow 0 3 1 v cs.length (cs.map (.int .i64))
theorem Tryz.infoIntV:(Tryz.prog.info? 3).map (fun i=>(i.zero,i.size,i.bytes))=some (some (Vi 0),1,8):=by kernel_rfl
theorem Tryz.infoIns:(Tryz.prog.info? 184).map (fun i=>(i.zero,i.size,i.bytes))=some (some (.agg #[Vi 0,Vi 0]),2,16):=by kernel_rfl
theorem Zj3{w w':World}{b base:Nat}{e:TypeId}{sz:Nat}{v:Value}{n:Nat}{xs:List Value}(h:w.ownsRow base e sz v n xs)(a:w.grownBy w' (some b))(c:b<base):w'.ownsRow base e sz v n xs:=
 h.kept a (Or.inr (fun e=>by have:=(h.lt b e).1;omega))
theorem ZyS(s:BA)(p n b:Nat){ca:Addr}(w0 w:World)(K:BW w0 w)(L:w0.heap.size<=b)(G:RdAt w b s p)(hp:p<=s.size)(hn:n<=65535)(one:Nat->RdR Int)(M:OneC 137 KV NZ w0 b s ca one)(l:∀p x,one p=.ok x->p<=s.size->x.2<=s.size) :
  CP 136 #[Vp b,Vi n,.func (.func 137) #[] #[]] w fun e N=>∃v err,e=.returned (.tuple #[v,err])/\Hid (RdC Zef RowZ N b s ca (many one p n) v err)/\w.grownBy N (some b):=by
 have O:=G.lt;obtain⟨i0,hi,P,Q,R⟩:=info_parts Tryz.infoIntV;have H1:=hid M;have HQ:=hid l;have H0:=hid K;have HR:=hid G;have S:=hid L;clear G M l K L;go_enter func136,ntmps136;go_wp2
 go_loopw [8, 12] (fun v i wr => ∃ (k q : Nat) (xs : List Int), k <= n /\ i = Vi k /\ q <= s.size /\ Hid (many one p k = .ok (xs, q)) /\ Hid (RdAt wr b s q) /\ xs.length = k /\ wr.ownsRow w.heap.size 3 1 v xs.length (xs.map (.int .i64)) /\ Hid (w.grownBy wr (some b)))
   (fun _ i _=>n - (intOf i).toNat)
 case atStart=>exact⟨0,p,[],Yag _,rfl,hp,hid rfl,HR,rfl,Ybc _ _ _ _,hid (ZbM _ _)⟩
 case round=>
  obtain⟨k,q,xs,hk,rfl,l,t,m,D,c,A⟩:=hrel;have g:=hid D;clear D;by_cases T:k<n
  ·have a0:(k:Int)<n:=by omega
   obtain⟨av,cp,rfl⟩:=Zl c;have U:=hid c;clear c
   go_wp2_with fail
   refine(H1.out q wr (ZbV H0.out A.out S.out) m.out l).mono ?_;rintro e B ⟨v,err,rfl,j,o⟩;have r:Hid (w.grownBy B (some b)):=hid (Zj A.out o);have a:=Zj3 U.out o O;clear o U A m;cases d:one q with
   | error x=>
    obtain⟨fa,rfl⟩:=j.jm d;have H:Hid (RdC Zef RowZ B b s ca (many one p n) S0 (.iface 115 (Vp fa))):=hid (j.kw d (ZgS t.out d n T) rfl);have I:=(j.err d).2.2.1;obtain rfl:=I;clear j d a;go_wp2;go_ret2;exact⟨_,_,rfl,H,r.out⟩
   | ok x=>
    obtain⟨y,q2⟩:=x;obtain⟨rfl,hv,E⟩:=j.ok d;have V:=hid (ZjI t.out d);have F:=HQ.out q (y,q2) d l;have W:=hid E;simp only at F;have a1:w.heap.size<=B.heap.size:=r.size;obtain rfl:=hv;clear j d E t
    go_wp2_with (at_builtin;refine wpList_append_own _ rfl (.tmp 23) (.tmp 25) 53 rfl w.heap.size 3 i0 (Vi 0) 1 8 underlying53 hi P Q R rfl Dc _ _ _ rfl (a.alloc _) ⟨B.heap.size,0,none⟩ 1 1 [Vi y] rfl rfl ?c1 ?c2 ?c3 ?c4 ?c5 ?_)
    case c1=>exact ZcY rfl
    case c2=>intro u X;simp at X;rw[X];rfl
    case c3=>have:=g.out;unfold maxLen;omega
    case c4=>have:=g.out;omega
    case c5=>have:=g.out;simp;omega
    intro v' J h f _;have Y:Hid (w.grownBy J (some b)):=hid (Zfn (ZbR r.out _) f (fun z I=>(a.lt z I).1));have Z:Hid (RdAt J b s q2):=hid ((W.below Zbal).grown f (fun e=>by have:=(a.lt b e.symm).1;omega))
    have C:J.ownsRow w.heap.size 3 1 v' (xs++[y]).length ((xs++[y]).map (.int .i64)):=by
     rw[Yab,Yaq];exact h
    clear a f h;go_wp2
    go_roundw
    case rel=>exact⟨k+1,q2,xs++[y],by omega,by go_num,F,V,Z,by rw[Yab,g.out];rfl,C,Y⟩
    case measure=>simp[intOf];omega
  ·obtain rfl:k=n:=by omega
   obtain⟨av,cp,rfl⟩:=Zl c;have H:Hid (RdC Zef RowZ wr b s ca (many one p k) (.slice av xs.length cp) .nilIface):=hid (RdC.mkOk t.out ⟨rfl,Zgi c,m.out⟩);clear c;go_wp2;go_ret2;exact⟨_,_,rfl,H,A.out⟩
end Go.Proofs.YtkodhpilkaihjaaGreatDoor
