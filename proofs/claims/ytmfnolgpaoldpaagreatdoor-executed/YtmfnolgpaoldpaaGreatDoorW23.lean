/- Parts. -/
import Derived.Test.YtmfnolgpaoldpaaGreatDoorW19
import Derived.Test.YtmfnolgpaoldpaaGreatDoorW22
import Derived.Sort.OwnSorted
set_option linter.all false
set_option maxRecDepth 100000
set_option maxHeartbeats 16000000
namespace Go.Proofs.YtmfnolgpaoldpaaGreatDoor
open Go.RowKit LS Go.Proofs.Tryz
variable {s:BA}{ok:Bool}{fn:Func}{m:Int}{l t y:LB}{b p:Nat}{A:Nat->Addr}{x:Nat×Nat}{a k:Nd×Nat}{r:Option<|Nd×Nat}{q u v:Value}{w w' w0:World}
section
attribute [local go_sem] KX KW KY KU K0 KZ
theorem BC{t:Tr}(h:Z5 l=.ok t):V1 t/\isNil t=false/\wT t<=100000:=by
 unfold Z5 at h;by_cases d:300<l.length
 .rw[Ye d]at h;cases h
 .rw[Yd d]at h;have j:=Lc l (l.length+1) 0<|Yr _;have k:=KM l X (l.length+1) 0;cases a:Zh (10*(Z7 l (l.length+1) 0).length+5) false 0 .nil (Z7 l (l.length+1) 0) 0 with
  |error e=>rw[a]at h;cases h
  |ok z=>
   obtain⟨t',r⟩:=z;rw[a]at h;have c:=NA _ _ _ _ _ _ _ (λe=>by cases e) a;simp only at h;by_cases f:(hd r).jj=0
   .rw[Ye f]at h;by_cases g:Zq t'=0
    .rw[Ye g]at h;cases h
    .rw[Yd g]at h;cases h;refine⟨c.1,c.2.1,?_⟩;have i:=c.2.2;rw[Yd N]at i;simp only at i;omega
   .rw[Yd f]at h;cases h
theorem YC.sentsV(h:YC w A m):T9 w (A 0) (A 1) (A 2)<|A 3:=
 ⟨h.sent _ N,h.sent _ N,h.sent _ N,h.sent _ N⟩
theorem WU.jn{lg sy dp tp:Addr}{r:Except (Nat×Nat) Tr}{pv:Value}(c:r=.error x)(h:WU w lg sy dp tp r pv v):∃ty u,v=.iface ty u:=by
 subst c;rcases h with⟨_,rfl⟩|⟨_,rfl⟩|⟨_,a⟩|⟨_,a⟩
 .exact⟨_,_,C⟩
 .exact⟨_,_,C⟩
 .obtain⟨fa,rfl⟩:=ZF.shape a;exact⟨_,_,C⟩
 .obtain⟨fa,rfl⟩:=ZF.shape a;exact⟨_,_,C⟩
def Uo(w:World)(r:Option<|Nd×Nat)(v:Value)(ok:Bool):Prop:=match r with
 |some a=>ok=true/\SM w a v
 |none=>ok=false/\Oo v
theorem Uo.mkNone(a:r=none)(h:ok=false/\Oo v):Uo w r v ok:=by subst a;exact h
theorem Uo.mkSome(c:r=some a)(h:ok=true/\SM w a v):Uo w r v ok:=by subst c;exact h
theorem Br(h:Z5 l=.error x):Xg l=none:=by unfold Xg;rw[h]
theorem Bs{x y:Nat}{a:Nd}{p q:Tr}(h:Z5 l=.ok (.node x y a p q))(c:a.jj≠1):Xg l=none:=by
 unfold Xg;rw[h];simp only;rw[Yd λe=>c e.1]
theorem Bv{x y:Nat}{a:Nd}{p q:Tr}(h:Z5 l=.ok (.node x y a p q))(c:a.jj=1):Xg l=if Xl a=l then some a else none:=by
 unfold Xg;rw[h];simp only;by_cases e:Xl a=l
 .rw[Ye ⟨c,e⟩,Ye e]
 .rw[Yd λh=>e h.2,Yd e]
theorem Nb(w:World)(a:Nat)(x y z:Value):w.grownBy (set3 w a x y z)<|some a:=Zn (Zn (Zn (Z2 w<|some a) (Or.inl C) _) (Or.inl C) _) (Or.inl C) _
theorem G8{a:Nat}(h:BW w0 w)(c:w0.heap.size<=a)(x y z:Value):BW w0<|set3 w a x y z:=
 ((h.setCell (p:=⟨a,0,none⟩) c _).setCell (p:=⟨a,1,none⟩) c _).setCell (p:=⟨a,2,none⟩) c _
theorem fG(y:LB)(c:UInt8):Lib.hasSuffix y [c]=decide (y.getLast?=some c):=by
 rw[Ud,Qs];unfold Lib.hasSuffix;rw[List.isSuffixOf_iff_suffix];constructor
 .rintro⟨z,rfl⟩;simp
 .intro h;obtain⟨z,a⟩:=List.getLast?_eq_some_iff.1 h;exact⟨z,a.symm⟩
theorem mT (h:LS.cut 91 t=none):ZL t=(Xg t).map λa=>(a,0):=by
 have:LS.seek 91 t=none:=by
  unfold LS.cut at h;cases c:LS.seek 91 t with
  |none=>rfl
  |some i=>rw[c]at h;cases h
 unfold ZL;rw[this]
theorem mO{x:LB}(h:LS.cut 91 t=some (x,y)):ZL t=if Lib.hasSuffix y [93]=true then(match ZC 1000 y.dropLast with
 |some n=>if n=0 then none else(Xg x).map λa=>(a,n)
 |none=>none)else none:=by
 cases d:LS.seek 91 t with
 |none=>unfold LS.cut at h;rw[d]at h;cases h
 |some i=>
  unfold LS.cut at h;rw[d]at h;simp only[Wr]at h;injection h with h;injection h with h1 h2;have f:t.getLast?=some 93↔y.getLast?=some 93:=by
   obtain⟨a,b,rfl,rfl,_⟩:=Pr d;have g:y=b:=by
    rw[<-h2,List.drop_append];simp
   rw[g];cases b with
   |nil=>simp
   |cons c b=>rw[List.getLast?_append,List.getLast?_cons_cons];simp
  unfold ZL;rw[d];simp only;rw[h1,h2,fG];by_cases e:t.getLast?=some 93
  .rw[Ye e,Ye<|by simpa using f.1 e];cases ZC 1000 y.dropLast<;>rfl
  .rw[Yd e,Yd<|by simpa using λe'=>e<|f.2 e']
theorem yN{c:UInt8}(h:Lib.hasSuffix y [c]=true):Lib.trimSuffix y [c]=y.dropLast:=by
 unfold Lib.trimSuffix;rw[Ye h,Ej];rfl
theorem Ya.three{a:Nat}{x y z:Value}{t:TypeId}(h:Ya w a [x,y,z] t):(w.frozen? ⟨a,0,none⟩=false/\w.frozen? ⟨a,1,none⟩=false/\w.frozen? ⟨a,2,none⟩=false)/\w.cell? ⟨a,0,none⟩=some x/\w.cell? ⟨a,1,none⟩=some y/\w.cell? ⟨a,2,none⟩=some z:=⟨⟨h.frozen 0,h.frozen 1,h.frozen 2⟩,h.cell 0,h.cell 1,h.cell 2⟩
def IS(fn:Func)(a:Act)(b:Nat)(x y z:Value)(ok:Bool):Prop:=∀W:World,W.cell? ⟨b,0,none⟩=some x->W.cell? ⟨b,1,none⟩=some y->W.cell? ⟨b,2,none⟩=some z->(results fn a.tmps).run prog W=.ok (.tuple #[.agg #[x,y,z],.bool ok]) W
theorem A3{v:World}{x y z p:Value}{t:TypeId}{a:Act}(d:IS fn a w.heap.size x y z true)(hd:a.defers=[])(f:Ya v w.heap.size [p,q,u] t)(g:BW w v)(h:r=some k)(i:∀W,v.grownBy W (some w.heap.size)->SM W k (.agg #[x,y,z])):
 bodyPost prog fn (λe c=>∃v ok,e=.returned (.tuple #[v,.bool ok])/\Hid (Uo c r v ok)/\BW w c) .ret a<|set3 v w.heap.size x y z:=by
 obtain⟨_,s0,s1,s2⟩:=(P5 f (x:=x) (y:=y) (z:=z)).three;exact YQ (d _ s0 s1 s2) hd ⟨_,_,C,I<|Uo.mkSome h ⟨C,i _<|Nb _ _ _ _ _⟩,G8 g (Yj _) _ _ _⟩
theorem NJ{v:World}{p:Value}{t:TypeId}{a:Act}(d:IS fn a w.heap.size (.string ⟨#[]⟩) S0 (E 0) false)(hd:a.defers=[])(f:Ya v w.heap.size [p,q,u] t)(g:BW w v)(h:r=none):
 bodyPost prog fn (λe c=>∃v ok,e=.returned (.tuple #[v,.bool ok])/\Hid (Uo c r v ok)/\BW w c) .ret a<|set3 v w.heap.size (.string ⟨#[]⟩) S0<|E 0:=by
 obtain⟨_,s0,s1,s2⟩:=(P5 f (x:=.string ⟨#[]⟩) (y:=S0) (z:=E 0)).three;exact YQ (d _ s0 s1 s2) hd ⟨_,_,C,I<|Uo.mkNone h ⟨C,C⟩,G8 g (Yj _) _ _ _⟩
theorem A2{v:World}{p:Value}{t:TypeId}{a:Act}{o:Obj}(f:IS fn a w.heap.size (.string ⟨#[]⟩) S0 (E 0) false)(hd:a.defers=[])(g:Ya v w.heap.size [p,q,u] t)(h:BW w v)(i:r=none):
 bodyPost prog fn (λe c=>∃v ok,e=.returned (.tuple #[v,.bool ok])/\Hid (Uo c r v ok)/\BW w c) .ret a<|(set3 v w.heap.size (.string ⟨#[]⟩) S0<|E 0).alloc o:=by
 obtain⟨_,s0,s1,s2⟩:=((P5 g (x:=.string ⟨#[]⟩) (y:=S0) (z:=E 0)).below<|(Ym _ _).alloc (Yj _) o).three;have d:=G8 h (Yj _) (.string ⟨#[]⟩) S0<|E 0;exact YQ (f _ s0 s1 s2) hd ⟨_,_,C,I<|Uo.mkNone i ⟨C,C⟩,d.alloc d.size _⟩
theorem kT(s:BA)(A:Nat->Addr)(m:Int)(w:World)(hs:s.size<=70000)(hv:YC w A m)(ht:Vw w)(hB:20<=w.heap.size):
 CP 157 #[.string s] w λe w'=>∃v ok,e=.returned (.tuple #[v,.bool ok])/\Hid (Uo w' (ZL<|bl s) v ok)/\BW w w':=by
 have HV:=I hv;have HT:=I ht;have b4:=I hB;go_enter func157,ntmps157;go_wp2_with fail;refine Zv λW hW=>?_;have d1:BW w W:=by rw[hW];exact Yc
 have a1:=I d1;have b5:Hid<|Ya W w.heap.size [.string ⟨#[]⟩,S0,E 0] 231:=I<|by rw[hW];exact YO
 cases hcut:LS.cut 91 (bl s)with
 |none=>
  refine(Ex m W hs (HV.below a1.out).max hcut).mono ?_;rintro e P ⟨a,b,rfl,M,nd,a3⟩;have Q:BW W P:=by rw[a3];exact Ot _ _ _
  have B:Hid<|BW w P:=I<|a1.trans<|Q.mono a1.size;have k:=I<|b5.below Q;have h:Hid<|ZL (bl s)=(Xg<|bl a).map λz=>(z,0):=I<|by rw[mT hcut,M.1]
  have b6:a.size<=70000:=by rw[ZE M.1,Zb];exact hs
  clear Q a3 hcut M b5;go_wp2_with fail;have a4:=I<|(HV.below B.out).sentsV;refine(BV a P X a4.out).mono ?_;rintro e w2 ⟨pv,v,rfl,g,R⟩;have d:Hid<|BW w w2:=I<|B.trans<|R.mono B.size;have c:=I<|k.below R;have c5:=c.lt;clear R k B a4;have f:=c.three;cases p:Z5 (bl a)with
  |error x=>
   have j:Hid<|ZL (bl s)=none:=I<|by rw[h.out,Br p];rfl
   obtain⟨ty,u,rfl⟩:=WU.jn p g.out;clear g p h;go_wp2;exact NJ (λW s0 s1 s2=>by simp[results,results157,go_sem,s0,s1,s2]) C c.out d.out j.out
  |ok t=>
   rw[p]at g;obtain⟨rfl,a5⟩:=g.out;obtain⟨S,H,T⟩:=BC p;cases t with
   |nil=>cases H
   |node x y nd l r=>
    have U:=I a5;have a6:=I<|And.intro S T;rcases a5 with⟨q,rfl⟩|⟨q,nm,la,ln,lc,rfl,h1,h2⟩|⟨q,wd,nm,la,ln,lc,rfl,_⟩|⟨q,z,rfl,_⟩|⟨q,wd,la,ln,lc,z,rfl,_⟩|⟨q,z1,z2,rfl,_⟩;case inr.inl=>
     have J:=I<|Bv p q;have a7:=I q;have b9:=I h1;have a8:=I h2;clear g p S H T q h1 h2;go_wp2_with fail;refine Zv λW3 V=>?_;have D:BW w2 W3:=by rw[V];exact Yc
     have F:Hid<|BW w W3:=I<|d.trans<|D.mono d.size;have a9:=I<|c.below D;have b0:Hid<|Ya W3 w2.heap.size [.string nm,.slice la ln lc] 229:=I<|by rw[V];exact YO
     have Y:=I<|U.below D;have Z:=I<|a8.below D;clear V D U a8 f;refine(BU a6.1 a6.2 W3 Y.out (HT.low F.out b4.out)<|Xb b4.out F.size).mono ?_;rintro e w4 ⟨tx,rfl,b1,G⟩;have c0:Hid<|BW w w4:=I<|F.trans<|G.mono F.size;have K:=I<|a9.below G;have c1:=I<|b0.below G;have b3:=I<|Z.below G;have b2:Hid<|bl tx=Xl nd:=I<|by rw[b1.out,QF];unfold TD;rw[Yd<|by rw[a7.out];decide,Ye a7.out]
     clear G F a9 b0 Y Z b1;have d0:=c1.cell;have c:=K;have d:=c0;have f:=K.three;have d2:=K.lt;by_cases he:tx=a
     .subst he;have c2:(tx.toList !=tx.toList)=false:=Sm;have c3:Hid<|ZL (bl s)=some (nd,0):=I<|by rw[h.out,J.out,Ye b2.symm];rfl
      clear h J;go_wp2;exact A3 (λW s0 s1 s2=>by simp[results,results157,go_sem,s0,s1,s2]) C c.out d.out c3.out λW hg=>⟨⟨nm,la,ln,lc,nd,0⟩,C,C,b9.out,b3.kept hg K.out N⟩
     .have c2:(tx.toList==a.toList)=false:=by
       rw[YB,ZA,ZA];intro e;exact he<|LS.ZbH e
      have j:Hid<|ZL (bl s)=none:=I<|by rw[h.out,J.out,Yd<|by intro e;exact he<|LS.ZbH<|b2.trans e];rfl
      clear h J he;go_wp2;exact NJ (λW s0 s1 s2=>by simp[results,results157,go_sem,s0,s1,s2]) C c.out d.out j.out
    all_goals
     have j:Hid<|ZL (bl s)=none:=I<|by rw[h.out,Bs p X];rfl
     clear g p h S H T q U;go_wp2;exact A2 (λW s0 s1 s2=>by simp[results,results157,go_sem,s0,s1,s2]) C c.out d.out j.out
 |some xy=>
  obtain⟨x,y⟩:=xy;refine(Ew m W hs (HV.below a1.out).max hcut).mono ?_;rintro e P ⟨a,b,rfl,M,nd,a3⟩;have Q:BW W P:=by rw[a3];exact Ot _ _ _
  have B:Hid<|BW w P:=I<|a1.trans<|Q.mono a1.size;have k:=I<|b5.below Q;have b6:a.size<=70000/\b.size<=70000:=by
   have h9:=M.out;rw[LS.cut]at hcut;cases c6:LS.seek 91 (bl s)with
   |none=>rw[c6]at hcut;cases hcut
   |some i=>
    rw[c6]at hcut;simp only[Wr]at hcut;injection hcut with hcut;injection hcut with e1 e2;rw[ZE h9.1,ZE h9.2,<-e1,<-e2,Xw,Ur,Zb];omega
  have d3:=b6.2;have b6:=b6.1;have b7:=I<|mO hcut;clear Q a3 hcut b5;go_wp2_with fail;refine(strings_CutSuffix b ⟨#[93]⟩ P X).mono ?_;rintro e wq ⟨rfl,rfl⟩;have c7:Hid<|bl b=y:=I M.2;have d4:Hid<|bl a=x:=I M.1;rw[show b.data.toList=y from c7.out,show(⟨#[93]⟩:BA).data.toList=[93]from C];have d5:y.length<=70000:=by rw[<-c7.out,Zb];exact d3
  clear M;cases a2:Lib.hasSuffix y [93]with
  |false=>
   have j:Hid<|ZL (bl s)=none:=I<|by rw[b7.out,Yd<|by rw[a2];simp]
   have a0:Hid<|∀W',CP 188 #[.string ⟨(Lib.trimSuffix y [93]).toArray⟩,E (1000:Nat)] W' _:=I λW'=>FM ⟨(Lib.trimSuffix y [93]).toArray⟩ 1000 W' (by
    rw[<-Zb,Ta];unfold Lib.trimSuffix;rw[a2];simpa using d5) N N;generalize(⟨(Lib.trimSuffix y [93]).toArray⟩:BA)=dg at*;have c:=k;have d:=B;have c5:=k.lt;have f:=k.three;clear b7 a2;go_wp2_with fail;refine(a0.out _).mono ?_;rintro e c8 ⟨rfl,rfl⟩;have b8:∃(v:Int)(o:Bool),S9 1000 (bl dg)=.tuple #[E v,.bool o]:=⟨_,_,C⟩;obtain⟨nv,no,b8⟩:=b8;rw[b8];clear b8 a0;go_wp2;exact NJ (λW s0 s1 s2=>by simp[results,results157,go_sem,s0,s1,s2]) C c.out d.out j.out
  |true=>
   rw[yN a2];have L:Hid<|ZL (bl s)=match ZC 1000 y.dropLast with
    |some n=>if n=0 then none else(Xg x).map λa=>(a,n)
    |none=>none:=I<|by rw[b7.out,Ye a2]
   have a0:Hid<|∀W',CP 188 #[.string ⟨y.dropLast.toArray⟩,E (1000:Nat)] W' _:=I λW'=>FM ⟨y.dropLast.toArray⟩ 1000 W' (by
    rw[<-Zb,Ta,List.length_dropLast];omega) N N;have d6:=k.lt;clear b7 a2;go_wp2_with fail;refine(a0.out _).mono ?_;rintro e c8 ⟨rfl,rfl⟩;rw[Ta];cases O:ZC 1000 y.dropLast with
   |none=>
    rw[Nz O];have j:Hid<|ZL (bl s)=none:=I<|by rw[L.out,O]
    have c:=k;have d:=B;have f:=k.three;clear O L;go_wp2;exact NJ (λW s0 s1 s2=>by simp[results,results157,go_sem,s0,s1,s2]) C c.out d.out j.out
   |some n=>
    rw[Jt O];by_cases c4:n=0
    .subst c4;have j:Hid<|ZL (bl s)=none:=I<|by rw[L.out,O];rfl
     have c:=k;have d:=B;have f:=k.three;clear O L;go_wp2;exact NJ (λW s0 s1 s2=>by simp[results,results157,go_sem,s0,s1,s2]) C c.out d.out j.out
    .have d7:((n:Int)==0)=false:=by rw[YB];omega
     have h:Hid<|ZL (bl s)=(Xg<|bl a).map λz=>(z,n):=I<|by rw[L.out,O,d4.out];simp only;rw[Yd c4]
     clear O L c4 a0;obtain⟨P,c9⟩:∃P,P=c8:=⟨_,C⟩;subst c9;go_wp2_with fail;have a4:=I<|(HV.below B.out).sentsV;refine(BV a P X a4.out).mono ?_;rintro e w2 ⟨pv,v,rfl,g,R⟩;have d:Hid<|BW w w2:=I<|B.trans<|R.mono B.size;have c:=I<|k.below R;have c5:=c.lt;clear R k B a4;have f:=c.three;cases p:Z5 (bl a)with
     |error x=>
      have j:Hid<|ZL (bl s)=none:=I<|by rw[h.out,Br p];rfl
      obtain⟨ty,u,rfl⟩:=WU.jn p g.out;clear g p h;go_wp2;exact NJ (λW s0 s1 s2=>by simp[results,results157,go_sem,s0,s1,s2]) C c.out d.out j.out
     |ok t=>
      rw[p]at g;obtain⟨rfl,a5⟩:=g.out;obtain⟨S,H,T⟩:=BC p;cases t with
      |nil=>cases H
      |node x y nd l r=>
       have U:=I a5;have a6:=I<|And.intro S T;rcases a5 with⟨q,rfl⟩|⟨q,nm,la,ln,lc,rfl,h1,h2⟩|⟨q,wd,nm,la,ln,lc,rfl,_⟩|⟨q,z,rfl,_⟩|⟨q,wd,la,ln,lc,z,rfl,_⟩|⟨q,z1,z2,rfl,_⟩;case inr.inl=>
        have J:=I<|Bv p q;have a7:=I q;have b9:=I h1;have a8:=I h2;clear g p S H T q h1 h2;go_wp2_with fail;refine Zv λW3 V=>?_;have D:BW w2 W3:=by rw[V];exact Yc
        have F:Hid<|BW w W3:=I<|d.trans<|D.mono d.size;have a9:=I<|c.below D;have b0:Hid<|Ya W3 w2.heap.size [.string nm,.slice la ln lc] 229:=I<|by rw[V];exact YO
        have Y:=I<|U.below D;have Z:=I<|a8.below D;clear V D U a8 f;refine(BU a6.1 a6.2 W3 Y.out (HT.low F.out b4.out)<|Xb b4.out F.size).mono ?_;rintro e w4 ⟨tx,rfl,b1,G⟩;have c0:Hid<|BW w w4:=I<|F.trans<|G.mono F.size;have K:=I<|a9.below G;have c1:=I<|b0.below G;have b3:=I<|Z.below G;have b2:Hid<|bl tx=Xl nd:=I<|by rw[b1.out,QF];unfold TD;rw[Yd<|by rw[a7.out];decide,Ye a7.out]
        clear G F a9 b0 Y Z b1;have d0:=c1.cell;have c:=K;have d:=c0;have f:=K.three;have d2:=K.lt;by_cases he:tx=a
        .subst he;have c2:(tx.toList !=tx.toList)=false:=Sm;have c3:Hid<|ZL (bl s)=some (nd,n):=I<|by rw[h.out,J.out,Ye b2.symm];rfl
         clear h J;go_wp2;exact A3 (λW s0 s1 s2=>by simp[results,results157,go_sem,s0,s1,s2]) C c.out d.out c3.out λW hg=>⟨⟨nm,la,ln,lc,nd,n⟩,C,C,b9.out,b3.kept hg K.out N⟩
        .have c2:(tx.toList==a.toList)=false:=by
          rw[YB,ZA,ZA];intro e;exact he<|LS.ZbH e
         have j:Hid<|ZL (bl s)=none:=I<|by rw[h.out,J.out,Yd<|by intro e;exact he<|LS.ZbH<|b2.trans e];rfl
         clear h J he;go_wp2;exact NJ (λW s0 s1 s2=>by simp[results,results157,go_sem,s0,s1,s2]) C c.out d.out j.out
       all_goals
        have j:Hid<|ZL (bl s)=none:=I<|by rw[h.out,Bs p X];rfl
        clear g p h S H T q U;go_wp2;exact A2 (λW s0 s1 s2=>by simp[results,results157,go_sem,s0,s1,s2]) C c.out d.out j.out
end
section
theorem Ji{x:LB×Nat}(h:VA l p=.ok x):x.1.length<65536/\x.2<=l.length:=by
 unfold VA at h;cases a:Z8 l p 2 with
 |error e=>rw[a]at h;cases h
 |ok y=>
  rw[a]at h;simp only at h;obtain⟨d,f,g⟩:=Mb h;have c:=(LS.Zdd a).2.2.2;have c:y.1<65536:=c;exact⟨by rw[f,JR d];exact c,X⟩
theorem SM.ju(h:SM w a v){c:List Value}{t:TypeId}(d:Ya w b c t)(e:w.grownBy w'<|some b)(f:t≠374):SM w' a v:=by
 obtain⟨x,g,i,j⟩:=h;exact⟨x,g,i,j.ju d e f⟩
theorem SM.below(h:SM w a v)(c:BW w w'):SM w' a v:=by
 obtain⟨x,d,e,f⟩:=h;exact⟨x,d,e,f.below c⟩
structure Ground (w0:World)(A:Nat->Addr)(m:Int)(b:Nat):Prop where
 v:YC w0 A m
 t:Vw w0
 n:20<=w0.heap.size
 b:w0.heap.size<=b
theorem Ground.code(h:Ground w0 A m b)(a:BW w0 w):UQ w<|A 8:=(h.v.below a).sent _ N
theorem Ground.ng(h:Ground w0 A m b):20<=b:=Xb h.n h.b
theorem gO(s:BA)(b:Nat)(A:Nat->Addr)(m:Int)(T:Ground w0 A m b)(hs:s.size<=maxLen):
 T8 115 SM Oo w0 b s (A 8)<|pickAt<|bl s:=by
 intro p w h0 U hp;have c2:=U.lt;have a:=I T;have Z:Hid<|∀w,BW w0 w->YH w b s p->CP 156 #[Vp b] w _:=I λw h1 h2=>BL s p b w h2 (T.code h1) T.ng hp hs;have V:=I h0;have b1:=I U;have c1:w.cell? ⟨b,1,none⟩=some (E p):=U.cell 1;clear U h0 T hs;go_enter func115,ntmps115;go_wp2_with fail;refine Zv λW hW=>?_;have L:BW w W:=by rw[hW];exact Yc
 have a0:Hid<|Ya W w.heap.size [.string ⟨#[]⟩,S0,E 0] 231:=I<|by rw[hW];exact YO
 have M:Hid<|w.grownBy W<|some b:=I<|ZB L;have a1:Hid<|BW w0 W:=I<|Uz V.out M.out a.b;have a2:=I<|b1.below L;clear hW L c1;refine(Z.out W a1.out a2.out).mono ?_;rintro e J ⟨v,err,rfl,K,O⟩;have l:Hid<|w.grownBy J<|some b:=I<|Zi M.out O;have d:=I<|a0.grown O<|by intro e;injection e with e;omega
 have o:Hid<|BW w0 J:=I<|Uz V.out l.out a.b;clear O M a0 a1 a2 Z;cases j:VA (bl s) p with
 |error x=>
  obtain⟨fa,rfl⟩:=K.jn j;have P:Hid<|YF SM Oo J b s (A 8) (pickAt (bl s) p) (.agg #[.string ⟨#[]⟩,S0,E 0])<|.iface 92<|Vp fa:=I<|K.km j (by unfold pickAt;rw[j]) C;obtain⟨_,_,rfl,_⟩:=K.err j;clear K j;have f0:=d.frozen;have c0:=d.cell;go_wp2;exact Su (r:=.tuple #[.agg #[.string ⟨#[]⟩,S0,E 0],.iface 92<|Vp fa]) (λW s0 s1 s2=>by simp[results,results115,go_sem,s0,s1,s2]) C d.out ⟨_,_,C,P.kept (Nb J w.heap.size (.string ⟨#[]⟩) S0<|E 0) d.out N N λ_ h=>h.ju d.out (Nb J w.heap.size (.string ⟨#[]⟩) S0<|E 0) N,P6 l.out (Yj _) (.string ⟨#[]⟩) S0<|E 0⟩
 |ok x=>
  obtain⟨t,q⟩:=x;obtain⟨rfl,⟨tx,rfl,u⟩,hq⟩:=K.ok j;have b2:=(Ji j).1;simp only at hq b2 u;have b3:tx.size<=70000:=by rw[ZE u];omega
  have a3:=I hq;have B:Hid<|pickAt (bl s) p=match ZL (bl tx)with
   |none=>.error (9,p)
   |some y=>.ok (y,q):=I<|by unfold pickAt;rw[j,u];simp only;cases ZL t<;>rfl
  clear K j hq u;go_wp2_with fail;refine(kT tx A m J b3 (a.v.below o.out) (a.t.low o.out a.n)<|Xb a.n o.size).mono ?_;rintro e f ⟨v,ok,rfl,g,D⟩;have F:Hid<|w.grownBy f<|some b:=I<|Qz l.out D;have c:=I<|d.below D;have b4:Hid<|BW w0 f:=I<|Uz V.out F.out a.b;have Q:=I<|a3.below D;have c3:=c.lt;clear D d l o a3;cases i:ZL (bl tx)with
  |none=>
   rw[i]at g;obtain⟨rfl,rfl⟩:=g.out;have R:Hid<|pickAt (bl s) p=.error (9,p):=I<|by rw[B.out,i]
   clear g i B;go_wp2_with fail;refine Zv λW3 a4=>?_;have G:BW f W3:=by rw[a4];exact Yc
   have S:Hid<|w.grownBy W3<|some b:=I<|Qz F.out G;have a5:=I<|c.below G;have a6:Hid<|BW w0 W3:=I<|Uz V.out S.out a.b;have a7:=I<|Q.below G;clear a4 G F c b4 Q;refine(No _<|a.code a6.out).mono ?_;rintro e Y ⟨v,rfl,hv,H⟩;have P:Hid<|YF SM Oo Y b s (A 8) (pickAt (bl s) p) (.agg #[.string ⟨#[]⟩,S0,E 0]) v:=I<|YF.ku R.out ⟨C,hv.out,C,_,a7.below H⟩;have b5:Hid<|w.grownBy Y<|some b:=I<|Qz S.out H;have k:=I<|a5.below H;obtain⟨fa,rfl⟩:=ZF.shape hv.out;clear hv H a5 S a6 a7;have f0:=k.frozen;have c0:=k.cell;go_wp2;exact Su (r:=.tuple #[.agg #[.string ⟨#[]⟩,S0,E 0],.iface 92<|Vp fa]) (λW s0 s1 s2=>by simp[results,results115,go_sem,s0,s1,s2]) C k.out ⟨_,_,C,P.kept (Nb Y w.heap.size (.string ⟨#[]⟩) S0<|E 0) k.out N N λ_ h=>h.ju k.out (Nb Y w.heap.size (.string ⟨#[]⟩) S0<|E 0) N,P6 b5.out (Yj _) (.string ⟨#[]⟩) S0<|E 0⟩
  |some y=>
   rw[i]at g;obtain⟨rfl,a8⟩:=g.out;have a9:=I a8;obtain⟨z,rfl,b6,b7⟩:=a8;have R:Hid<|pickAt (bl s) p=.ok (y,q):=I<|by rw[B.out,i]
   have P:Hid<|YF SM Oo f b s (A 8) (pickAt (bl s) p) (.agg #[.string z.nm,.slice z.la z.ln z.lc,E z.n]) .nilIface:=I<|YF.mkOk R.out ⟨C,a9.out,Q.out⟩;clear g i B b6 b7 a9;have f0:=c.frozen;have c0:=c.cell;go_wp2;change bodyPost _ _ _ _ _<|(set3 f w.heap.size (.string z.nm) (.slice z.la z.ln z.lc)<|E z.n).alloc<|.cells #[.string z.nm,.slice z.la z.ln z.lc,E z.n] 231;have st:=(P5 c.out (x:=.string z.nm) (y:=.slice z.la z.ln z.lc) (z:=E z.n)).below<|(Ym _ _).alloc (Yj _)<|.cells #[.string z.nm,.slice z.la z.ln z.lc,E z.n] 231;have s0:=st.cell 0;have s1:=st.cell 1;have s2:=st.cell 2;simp only[Yf]at s0 s1 s2;have b0:=I<|P.kept (Nb f w.heap.size (.string z.nm) (.slice z.la z.ln z.lc)<|E z.n) c.out N N λ_ h=>h.ju c.out (Nb f w.heap.size (.string z.nm) (.slice z.la z.ln z.lc)<|E z.n) N;obtain⟨g1,g2,g3⟩:=b0.ok R.out;have b8:Hid<|YF SM Oo ((set3 f w.heap.size (.string z.nm) (.slice z.la z.ln z.lc)<|E z.n).alloc<|.cells #[.string z.nm,.slice z.la z.ln z.lc,E z.n] 231) b s (A 8) (pickAt (bl s) p) (.agg #[.string z.nm,.slice z.la z.ln z.lc,E z.n]) .nilIface:=I<|YF.mkOk R.out ⟨C,g2.below Yc,g3.below Yc⟩;have b9:=I<|Vh (P6 F.out (Yj _) (.string z.nm) (.slice z.la z.ln z.lc)<|E z.n)<|.cells #[.string z.nm,.slice z.la z.ln z.lc,E z.n] 231;clear g1 g2 g3 b0;generalize(set3 f w.heap.size (.string z.nm) (.slice z.la z.ln z.lc)<|E z.n).alloc (.cells #[.string z.nm,.slice z.la z.ln z.lc,E z.n] 231)=WX at*;exact YQ (v:=.tuple #[.agg #[.string z.nm,.slice z.la z.ln z.lc,E z.n],.nilIface]) (by simp[results,results115,go_sem,s0,s1,s2]) C ⟨_,_,C,b8,b9.out⟩
theorem KL(x y:LB):decide (x<=y)=!Op.bytesLess y x:=by
 rw[bytesLess_eq,Ud,Qs,MT,O4];exact Iff.rfl
theorem ew (ss:List<|LB):(ss.mergeSort λx y=>decide<|x<=y).Pairwise λa b=>Op.bytesLess b a=false:=by
 have h:=List.pairwise_mergeSort (le:=λ(x y)=>decide _) (by
  intro a b c d i;rw[KL,MT]at*;cases h:Op.bytesLess c a with
  |false=>rfl
  |true=>
   cases f:Op.bytesLess b c with
   |true=>rw[PU _ _ _ f h]at d;cases d
   |false=>
    have e:=Pe _ _ f i;rw[e,h]at d;cases d) (by
  intro a b;rw[KL,KL];cases h:Op.bytesLess b a with
  |false=>rfl
  |true=>
   cases f:Op.bytesLess a b with
   |false=>rfl
   |true=>have:=PU _ _ _ h f;rw[R6]at this;cases this) ss;refine h.imp λ{a b} g=>?_;rw[KL,MT]at g;exact g
theorem DZ(bs:List BA):TE bs=(bs.map bl).map encStr:=by
 unfold TE;rw[VD];refine J2 λb _=>?_;cases b with
 |mk d=>simp[encStr,bl]
theorem eA {l:List<|LB}(e:l.Pairwise λa b=>Op.bytesLess b a=false)(h:∀k,k+1<l.length->l[k]?≠l[k+1]?):l.Nodup:=by
 induction l with
 |nil=>exact Ii
 |cons a l ih=>
  rw[Rg]at e;rw[List.nodup_cons];refine⟨λf=>?_,ih e.2 λk g=>by have:=h _ (by simpa using g);simpa using this⟩;cases l with
  |nil=>cases f
  |cons c r=>
   have d:=h 0 Sm;simp only[Yf,SK]at d;rcases X0.1 f with rfl|f
   .exact d C
   .have i:=(Rg.1 e.2).1 a f;have j:=e.1 c Sm;exact d<|by rw[Pe _ _ i j]
theorem qD{ms:List<|LB}(g:t≠[])(a:ms.Perm<|split 44 t):VW t=if ms.all Zx=true/\ms.Nodup then some (split 44 t)else none:=by
 unfold VW;rw[Yd g];have d:(split 44 t).all Zx=true↔ms.all Zx=true:=by
  rw[Tt,Tt];exact⟨λh x c=>h x<|a.mem_iff.1 c,λh x c=>h x<|a.mem_iff.2 c⟩
 have f:=a.nodup_iff.symm;by_cases e:ms.all Zx=true/\ms.Nodup
 .rw[Ye e,Ye ⟨d.2 e.1,f.2 e.2⟩]
 .rw[Yd e,Yd λh=>e ⟨d.1 h.1,f.1 h.2⟩]
def Tn(w:World)(r:Option<|List<|LB)(v:Value)(ok:Bool):Prop:=match r with
 |some a=>ok=true/\Q8 w a v
 |none=>ok=false/\XW v
theorem Tn.mkNone{r:Option<|List<|LB}(a:r=none)(h:ok=false/\XW v):Tn w r v ok:=by subst a;exact h
theorem Tn.mkSome{r:Option<|List<|LB}{a:List<|LB}(c:r=some a)(h:ok=true/\Q8 w a v):Tn w r v ok:=by subst c;exact h
theorem kS(A:Nat->Addr)(m:Int)(hs:s.size<=70000)(hv:YC w A m):
 CP 158 #[.string s] w λe u=>∃v ok,e=.returned (.tuple #[v,.bool ok])/\Hid (Tn u (VW<|bl s) v ok)/\BW w u:=by
 have HM:=I hv.max;clear hv;by_cases h0:s.size=0
 .have o:s.toList.isEmpty=true:=DW X;have HQ:Hid<|VW _=some _:=I<|by unfold VW;rw[Ye<|Pn o]
  go_enter func158,ntmps158;go_wp2;go_ret2;exact⟨_,_,C,I<|Tn.mkSome HQ ⟨C,⟨none,0,0,[]⟩,C,C,[],Xm _ _ _ _,List.Pairwise.nil,λy=>Iff.rfl,Sm⟩,Ym _ _⟩
 .have o:s.toList.isEmpty=false:=Co X;have V:=OH o;have W:=I<|strings_Split s ⟨#[44]⟩ m w X HM<|Yj 1;have hd:(Lib.splitB ⟨#[44]⟩ 0 _ s).map bl=split _ _:=(Lib.splitB_data _ 0 (Lib.countB s ⟨#[44]⟩) s).trans<|ze _ _ (bl s)<|Yj _;have G:=Lib.splitB_all ⟨#[44]⟩ (Yj 1) 0 _ s C;go_enter func158,ntmps158;go_wp2_with fail;refine W.mono ?_;rintro e w1 ⟨rfl,p⟩;obtain⟨bs,Y⟩:∃bs,bs=Lib.splitB ⟨#[44]⟩ 0 (Lib.countB s ⟨#[44]⟩) s:=⟨_,C⟩;rw[<-Y]at hd G p;have a3:(split 44<|bl s).length<=s.size+1:=by have:=Qf 44<|bl s;rwa [Zb]at this
  have a4:bs.length=(split 44<|bl s).length:=by rw[<-hd,Yz]
  obtain⟨N,hN⟩:∃N,N=Lib.countB s ⟨#[44]⟩+1:=⟨_,C⟩;rw[<-hN]at G⊢;have b5:N<=70001:=X;have b6:1<=N:=X;obtain⟨ss,q⟩:∃ss,ss=bs.map bl:=⟨_,C⟩;have c:ss.length=N:=by rw[q,Yz,G]
  have Z:Below _ w _:=p▸Yc;have R:w1.heap[w.heap.size]?=some (.cells _ 9 _):=p▸YO;have a5:=(Xr.1 R).1;have H:bs.map _=ss.map _:=q▸DZ bs;have hH:=holds_of_block R<|by rw[H,c];exact Wm<|by rw[Yz,c];exact Yj _
  have hS:=slices_Sort_string _ 0 N _ _ hH a5 X;rw[c]at hS;have HS:=I hS;have J:=I Z;have HH:=I R;have K:Hid<|ss=split 44 (bl s):=by rwa [q]
  have L:=I G;have a6:=I V;clear hS hH R Z p Y hd G a3 a4 q H W V o HM hN;go_wp2_with(go_at_call 191;refine HS.mono ?_;rintro e z ⟨rfl,nn,os,f⟩;have a0:=I f;clear f);have f:=a0.out;clear a0;obtain⟨ms,r⟩:∃ms,ms=ss.mergeSort λx y=>decide<|x<=y:=⟨_,C⟩;have t:Hid _:=r▸List.mergeSort_perm _ _;have a7:Hid<|ms.Pairwise λa b=>Op.bytesLess b a=false:=r▸ew ss;have a8:ms.length=N:=by rw[t.length_eq,c]
  have B:z.ownsRow w.heap.size 9 1 (.slice (some ⟨w.heap.size,0,none⟩) N N) N<|ms.map encStr:=by
   have S:=ownsRow_sorted (n:=nn) (os:=os) (cap:=N) (t.length_eq) (Yj _) HH (c▸Yj _) (by unfold maxLen;omega)<|by simp[L.out]
   rw[c]at S;rw[f,<-r];exact S
  have M:Hid _:=f▸J.grown (grownBy_sorted _) J.size λj T=>by cases T;exact Yj _
  have O:Hid<|VW _=if ms.all _=true/\ms.Nodup then some _ else none:=I<|qD a6<|by rwa [<-K.out]
  have a9:Hid<|∀k (h:k<ms.length),ms[k].length<=70000:=I λk h=>by
   have d:=t.mem_iff.1<|List.getElem_mem h;rw[K]at d;have:=JN _ _ _ d;rw[Zb]at this;omega
  have a1:=I B;have b7:=I c;clear B f r HS HH J L c;go_wp2;go_loop [5,16] (λlv i=>∃(k:Nat)(last:BA),k<=N/\i=E k/\lv=.string last/\Hid (bl last=if k=0 then[]else ms.getD (k-1) [])/\Hid ((ms.take k).all Zx=true)/\Hid (∀j,j+1<k->ms[j]?≠ms[j+1]?)) (λ_ i=>N-(intOf i).toNat);case atStart=>exact⟨0,⟨#[]⟩,Yr _,C,C,I C,I C,I λj T=>X⟩
  case round=>
   obtain⟨k,last,hk,rfl,rfl,HL,HA,HD⟩:=hrel;by_cases b8:k<N
   .have g:k<ms.length:=X;have b9:(k:Int)<N:=X;obtain⟨x,hx⟩:∃x:BA,x=⟨ms[k].toArray⟩:=⟨_,C⟩;have F:Hid<|bl x=ms[k]:=I<|by rw[hx,Ta]
    have d0:z.cell? _=some (.string x):=Zc a1 k _<|by rw[hx,Vt,List.getElem?_eq_getElem g];rfl
    have P:x.size<=70000:=ZE F.out▸a9.out k g;clear hx;cases U:Zx (bl x)with
    |false=>
     have Q:Hid<|VW _=none:=I<|by
      rw[O,Yd];rintro⟨h,_⟩;have:=Tt.1 h _<|List.getElem_mem g;rw[<-F,U]at this;cases this
     go_wp2_with(go_at_call 130;refine(Jn x _ P).mono ?_;rintro e u ⟨rfl,rfl⟩);go_ret2;exact⟨_,_,C,I<|Tn.mkNone Q ⟨C,C⟩,M⟩
    |true=>
     by_cases o:x=last
     .subst o;have b0:(x.toList==x.toList)=true:=Sm;have a2:k≠0:=by
       intro e;subst e;have d:=HL.out;rw[Ye C]at d;rw[d]at U;exact absurd U Dc
      have Q:Hid<|VW _=none:=I<|by
       rw[O,Yd];rintro⟨_,h⟩;have d:=HL.out;rw[Yd a2,F,Y0,List.getElem?_eq_getElem X,Qu]at d;have:=(List.pairwise_iff_getElem.1 h) (k-1) k X g X;exact this d.symm
      clear a2;go_wp2_with(go_at_call 130;refine(Jn x _ P).mono ?_;rintro e u ⟨rfl,rfl⟩);go_ret2;exact⟨_,_,C,I<|Tn.mkNone Q ⟨C,C⟩,M⟩
     .have b0:(x.toList==last.toList)=false:=by
       rw[YB,ZA,ZA];intro e;exact o<|LS.ZbH e
      have b1:Hid<|(ms.take _).all _=true:=I<|by
       rw[List.take_succ_eq_append_getElem g,IA,HA,<-F];simp[U]
      have b2:Hid<|∀j,j+1<k+1->ms[j]?≠ms[j+1]?:=I (λj T=>by
       by_cases e:j+1=k
       .subst e;rw[List.getElem?_eq_getElem g,List.getElem?_eq_getElem X,<-F];intro e2;injection e2 with e2;have d:=HL.out;rw[Yd X,Y0,Ip,List.getElem?_eq_getElem X,Qu]at d;exact o<|LS.ZbH<|by rw[d,e2]
       .exact HD j X);have b3:Hid<|bl x=if k+1=0 then[]else ms.getD (k+1-1) []:=I<|by
       rw[Yd X,Ip,Y0,List.getElem?_eq_getElem _,Qu,F]
      clear o;go_wp2_with(go_at_call 130;refine(Jn x _ P).mono ?_;rintro e u ⟨rfl,rfl⟩);go_round;case rel=>exact⟨k+1,x,X,by go_num,C,b3,b1,b2⟩
      case measure=>simp[intOf];omega
   .obtain rfl:k=N:=X;have Q:Hid<|VW _=some _:=I<|by
     rw[O,Ye];refine⟨by have:=HA.out;rwa [Wm X]at this,eA a7 λj T=>HD j X⟩
    have D:(ms.map λl=>(⟨l.toArray⟩)).map bl=ms:=by
     rw[VD];conv=>rhs;rw[<-List.map_id ms]
     exact J2 λl _=>by simp[bl]
    have b4:Hid<|Q8 _ (split _ _)<|.slice (some _) k k:=I ⟨⟨some _,k,k,split _ _⟩,C,C,ms.map _,by
     have S:=U6 a1;rw[DZ,D,Yz,a8];exact S,by rwa [D],λy=>by rw[D,t.mem_iff,K],by rw[Yz];omega⟩;clear D;go_wp2;go_ret2;exact⟨_,.inr ⟨C,I<|Tn.mkSome Q ⟨C,b4⟩,M⟩⟩
theorem Q8.below{a:List<|LB}(h:Q8 w a v)(c:BW w w'):Q8 w' a v:=by
 obtain⟨x,d,e,f⟩:=h;exact⟨x,d,e,f.below c⟩
theorem gK(s:BA)(b:Nat)(A:Nat->Addr)(m:Int)(u:Ground w0 A m b)(Q:s.size<=maxLen):
 T8 117 Q8 XW w0 b s (A 8)<|groupAt<|bl s:=by
 intro p w K L Z;have f:=I u;have B:=I<|BL s p b w L (u.code K) u.ng Z Q;have R:=I K;have c1:w.cell? _=some _:=L.cell 1;clear L K u Q;go_enter func117,ntmps117;go_wp2_with fail;clear c1;refine B.mono ?_;rintro e w1 ⟨v,err,rfl,i,j⟩;have k:=I j;have D:=I<|Uz R j f.b;clear j B;cases d:VA (bl s) p with
 |error x=>
  obtain⟨fa,rfl⟩:=i.jn d;have l:Hid<|YF Q8 XW _ b s _ (groupAt _ p) _ _:=I<|i.km d (by unfold groupAt;rw[d]) C;obtain⟨_,_,rfl,_⟩:=i.err d;clear i d;go_wp2;go_ret2;exact⟨_,_,C,l,k⟩
 |ok x=>
  obtain⟨t,q⟩:=x;obtain⟨rfl,⟨tx,rfl,g⟩,M⟩:=i.ok d;have S:=(Ji d).1;simp only at M S g;have T:tx.size<=70000:=by rw[ZE g];omega
  have F:=I M;have h:Hid<|groupAt (bl s) p=match VW (bl tx)with
   |none=>.error (9,p)
   |some y=>.ok (y,q):=by unfold groupAt;rw[d,g];simp only;cases VW t<;>rfl
  clear i d M g;go_wp2_with fail;refine(kS A m T<|f.v.below D).mono ?_;rintro e w2 ⟨v,ok,rfl,a,n⟩;have o:=I<|Qz k n;have U:=I<|Uz R o f.b;have G:=I<|F.below n;clear n k D F;cases c:VW (bl tx)with
  |none=>
   rw[c]at a;obtain⟨rfl,rfl⟩:=a.out;have O:Hid<|groupAt _ p=.error _:=I<|by rw[h,c]
   clear a c h;go_wp2_with fail;refine(No _<|f.code U).mono ?_;rintro e w4 ⟨v,rfl,P,r⟩;have l:Hid<|YF Q8 XW _ b s _ _ _ v:=I<|YF.ku O ⟨C,P,C,_,G.below r⟩;have V:=I<|Qz o r;obtain⟨fa,rfl⟩:=ZF.shape P;clear P r;go_wp2;go_ret2;exact⟨_,_,C,l,V⟩
  |some y=>
   rw[c]at a;obtain⟨rfl,H⟩:=a.out;have J:=I H;obtain⟨z,rfl,W,Y⟩:=H;have O:Hid<|groupAt _ p=.ok _:=I<|by rw[h,c]
   have l:Hid<|YF _ XW _ b s (A 8) _ _ _:=I<|YF.mkOk O ⟨C,J,G⟩;clear a c h W Y J;go_wp2;go_ret2;exact⟨_,_,C,l,o⟩
theorem ke(a:Ground w0 A m b)(c:s.size<=maxLen):T8 113 KV NZ w0 b s (A 8)<|Vx<|bl s:=
 λp w d e f=>kR s p b w e (a.code d) a.ng f c
theorem kg(a:Ground w0 A m b)(c:s.size<=maxLen):T8 119 IV IZ w0 b s (A 8)<|WM<|bl s:=
 λp w d e f=>gL s p b w e (a.code d) a.ng f c
theorem GC{x:Int×Nat}(h:Vx l p=.ok x):x.2<=l.length:=by
 unfold Vx at h;cases a:Z8 l p 4 with
 |error e=>rw[a]at h;cases h
 |ok y=>
  rw[a]at h;simp only at h;split at h
  .cases h
  .injection h with h;subst h;have:=LS.Zdd a;omega
theorem I9{x:(Nat×Nat)×Nat}(h:WM l p=.ok x):x.2<=l.length/\x.1.1<=13/\x.1.2<65536:=by
 unfold WM at h;cases c:Z8 l p 1 with
 |error e=>rw[c]at h;cases h
 |ok y=>
  rw[c]at h;simp only at h;split at h
  .cases h
  .rename_i g;cases a:Z8 l y.2 2 with
   |error e=>rw[a]at h;cases h
   |ok z=>
    rw[a]at h;injection h with h;subst h;have d:=LS.Zdd a;have f:=d.2.2.2;exact⟨by show z.2<=_;omega,by show y.1<=13;omega,f⟩
theorem GT{x:(Nd×Nat)×Nat}(h:pickAt l p=.ok x):x.2<=l.length:=by
 unfold pickAt at h;cases a:VA l p with
 |error e=>rw[a]at h;cases h
 |ok y=>
  rw[a]at h;simp only at h;cases c:ZL y.1 with
  |none=>rw[c]at h;cases h
  |some z=>rw[c]at h;injection h with h;subst h;exact(Ji a).2
theorem H9{x:List (LB)×Nat}(h:groupAt l p=.ok x):x.2<=l.length:=by
 unfold groupAt at h;cases a:VA l p with
 |error e=>rw[a]at h;cases h
 |ok y=>
  rw[a]at h;simp only at h;cases c:VW y.1 with
  |none=>rw[c]at h;cases h
  |some z=>rw[c]at h;injection h with h;subst h;exact(Ji a).2
