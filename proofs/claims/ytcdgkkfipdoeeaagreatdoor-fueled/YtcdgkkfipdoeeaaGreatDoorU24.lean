/- Parts. -/
import Derived.Test.YtcdgkkfipdoeeaaGreatDoorU10
import Derived.Test.YtcdgkkfipdoeeaaGreatDoorU18
import Derived.Test.YtcdgkkfipdoeeaaGreatDoorU23
import Derived.Sort.OwnSorted
set_option linter.all false
set_option maxRecDepth 100000
set_option maxHeartbeats 16000000
namespace Go.Proofs.YtcdgkkfipdoeeaaGreatDoor
open Go.RowKit LS Go.Proofs.Tryz
variable {s:BA}{ok:Bool}{fn:Func}{m:Int}{l t y:LB}{b p:Nat}{A:Nat->Addr}{x:Nat×Nat}{a k:Nd×Nat}{r:Option (Nd×Nat)}{q u v:Value}{w w' w0:World}
section
attribute [local go_sem] ZiT ZiS ZiU ZiR ZiV ZgD
theorem ZrM{t:Tr}(h:ZD l=.ok t):wfT t/\isNil t=false/\wT t<=100000:=by
 unfold ZD at h;by_cases d:300<l.length
 ·rw[if_pos d]at h;cases h
 ·rw[if_neg d]at h;have j:=ZjB l (l.length+1) 0 (Yag _);have k:=ZjC l Om (l.length+1) 0;cases a:Zs (10*(ZN l (l.length+1) 0).length+5) false 0 .nil (ZN l (l.length+1) 0) 0 with
  | error e=>rw[a]at h;cases h
  | ok z=>
   obtain⟨t',r⟩:=z;rw[a]at h;have c:=Zfv _ _ _ _ _ _ _ (fun e=>by cases e) a;simp only at h;by_cases f:(hd r).jk=0
   ·rw[if_pos f]at h;by_cases g:Zf t'=0
    ·rw[if_pos g]at h;cases h
    ·rw[if_neg g]at h;cases h;refine⟨c.1,c.2.1,?_⟩;have i:=c.2.2;rw[if_neg Dc]at i;simp only at i;omega
   ·rw[if_neg f]at h;cases h
theorem Vars.sentsV(h:Vars w A m):Sents w (A 0) (A 1) (A 2) (A 3):=
 ⟨h.sent _ Dc,h.sent _ Dc,h.sent _ Dc,h.sent _ Dc⟩
theorem RdIs.kq{lg sy dp tp:Addr}{r:Except (Nat×Nat) Tr}{pv:Value}(c:r=.error x)(h:RdIs w lg sy dp tp r pv v):∃ty u,v=.iface ty u:=by
 subst c;rcases h with ⟨_,rfl⟩|⟨_,rfl⟩|⟨_,a⟩|⟨_,a⟩
 ·exact⟨_,_,rfl⟩
 ·exact⟨_,_,rfl⟩
 ·obtain⟨fa,rfl⟩:=ZM.shape a;exact⟨_,_,rfl⟩
 ·obtain⟨fa,rfl⟩:=ZM.shape a;exact⟨_,_,rfl⟩
def SelR(w:World)(r:Option (Nd×Nat))(v:Value)(ok:Bool):Prop:=match r with
 | some a=>ok=true/\ZdG w a v
 | none=>ok=false/\Zfc v
theorem SelR.mkNone(a:r=none)(h:ok=false/\Zfc v):SelR w r v ok:=by subst a;exact h
theorem SelR.mkSome(c:r=some a)(h:ok=true/\ZdG w a v):SelR w r v ok:=by subst c;exact h
theorem Zr4(h:ZD l=.error x):selQ l=none:=by unfold selQ;rw[h]
theorem Zr5{x y:Nat}{a:Nd}{p q:Tr}(h:ZD l=.ok (.node x y a p q))(c:a.jk≠1):selQ l=none:=by
 unfold selQ;rw[h];simp only;rw[if_neg (fun e=>c e.1)]
theorem Zr6{x y:Nat}{a:Nd}{p q:Tr}(h:ZD l=.ok (.node x y a p q))(c:a.jk=1):selQ l=if selS a=l then some a else none:=by
 unfold selQ;rw[h];simp only;by_cases e:selS a=l
 ·rw[if_pos ⟨c,e⟩,if_pos e]
 ·rw[if_neg (fun h=>e h.2),if_neg e]
theorem ZfC(w:World)(a:Nat)(x y z:Value):w.grownBy (set3 w a x y z) (some a):=ZA (ZA (ZA (ZbM w (some a)) (Or.inl rfl) _) (Or.inl rfl) _) (Or.inl rfl) _
theorem ZdC{a:Nat}(h:BW w0 w)(c:w0.heap.size<=a)(x y z:Value):BW w0 (set3 w a x y z):=
 ((h.setCell (p:=⟨a,0,none⟩) c _).setCell (p:=⟨a,1,none⟩) c _).setCell (p:=⟨a,2,none⟩) c _
theorem ZCW(y:LB)(c:UInt8):Lib.hasSuffix y [c]=decide (y.getLast?=some c):=by
 rw[Ybh,decide_eq_true_iff];unfold Lib.hasSuffix;rw[List.isSuffixOf_iff_suffix];constructor
 ·rintro⟨z,rfl⟩;simp
 ·intro h;obtain⟨z,a⟩:=List.getLast?_eq_some_iff.1 h;exact⟨z,a.symm⟩
theorem ZAH  (h : LS.cut 91 t = none) : ZbA t = (selQ t).map fun a => (a, 0) := by
  have:LS.seek 91 t=none:=by
    unfold LS.cut at h;cases c:LS.seek 91 t with
    | none=>rfl
    | some i=>rw[c]at h;cases h
  unfold ZbA;rw[this]
theorem ZAE{x:LB}(h:LS.cut 91 t=some (x,y)):ZbA t=if Lib.hasSuffix y [93]=true then (match ZQ 1000 y.dropLast with
   | some n=>if n=0 then none else (selQ x).map fun a=>(a,n)
   | none=>none)else none:=by
 cases d:LS.seek 91 t with
 | none=>unfold LS.cut at h;rw[d]at h;cases h
 | some i=>
  unfold LS.cut at h;rw[d]at h;simp only[Ybf]at h;injection h with h;injection h with h1 h2
  have f:t.getLast?=some 93 ↔ y.getLast?=some 93:=by
   obtain⟨a,b,rfl,rfl,_⟩:=Ziv d
   have g:y=b:=by
    rw[<-h2,List.drop_append];simp
   rw[g];cases b with
   | nil=>simp
   | cons c b=>rw[List.getLast?_append,List.getLast?_cons_cons];simp
  unfold ZbA;rw[d];simp only;rw[h1,h2,ZCW];by_cases e:t.getLast?=some 93
  ·rw[if_pos e,if_pos (by simpa using f.1 e)];cases ZQ 1000 y.dropLast <;> rfl
  ·rw[if_neg e,if_neg (by simpa using fun e'=>e (f.2 e'))]
theorem ZDh{c:UInt8}(h:Lib.hasSuffix y [c]=true):Lib.trimSuffix y [c]=y.dropLast:=by
 unfold Lib.trimSuffix;rw[if_pos h,List.dropLast_eq_take];rfl
theorem BAt.three{a:Nat}{x y z:Value}{t:TypeId}(h:BAt w a [x,y,z] t):(w.frozen? ⟨a,0,none⟩=false/\w.frozen? ⟨a,1,none⟩=false/\w.frozen? ⟨a,2,none⟩=false)/\w.cell? ⟨a,0,none⟩=some x/\w.cell? ⟨a,1,none⟩=some y/\w.cell? ⟨a,2,none⟩=some z:=⟨⟨h.frozen 0,h.frozen 1,h.frozen 2⟩,h.cell 0,h.cell 1,h.cell 2⟩
def ZGl(fn:Func)(a:Act)(b:Nat)(x y z:Value)(ok:Bool):Prop:=∀W:World,W.cell? ⟨b,0,none⟩=some x->W.cell? ⟨b,1,none⟩=some y->W.cell? ⟨b,2,none⟩=some z->(results fn a.tmps).run prog W=.ok (.tuple #[.agg #[x,y,z],.bool ok]) W
theorem ZGn{v:World}{x y z p:Value}{t:TypeId}{a:Act}(d:ZGl fn a w.heap.size x y z true)(hd:a.defers=[])(f:BAt v w.heap.size [p,q,u] t)(g:BW w v)(h:r=some k)(i:∀W,v.grownBy W (some w.heap.size)->ZdG W k (.agg #[x,y,z])) :
  bodyPost prog fn (fun e c=>∃v ok,e=.returned (.tuple #[v,.bool ok])/\Hid (SelR c r v ok)/\BW w c) .ret a (set3 v w.heap.size x y z):=by
 obtain⟨_,s0,s1,s2⟩:=(Zcr f (x:=x) (y:=y) (z:=z)).three;exact bodyPost_ret (d _ s0 s1 s2) hd ⟨_,_,rfl,hid (SelR.mkSome h ⟨rfl,i _ (ZfC _ _ _ _ _)⟩),ZdC g (Yac _) _ _ _⟩
theorem ZGk{v:World}{p:Value}{t:TypeId}{a:Act}(d:ZGl fn a w.heap.size (.string ⟨#[]⟩) S0 (Vi 0) false)(hd:a.defers=[])(f:BAt v w.heap.size [p,q,u] t)(g:BW w v)(h:r=none) :
  bodyPost prog fn (fun e c=>∃v ok,e=.returned (.tuple #[v,.bool ok])/\Hid (SelR c r v ok)/\BW w c) .ret a (set3 v w.heap.size (.string ⟨#[]⟩) S0 (Vi 0)):=by
 obtain⟨_,s0,s1,s2⟩:=(Zcr f (x:=.string ⟨#[]⟩) (y:=S0) (z:=Vi 0)).three;exact bodyPost_ret (d _ s0 s1 s2) hd ⟨_,_,rfl,hid (SelR.mkNone h ⟨rfl,rfl⟩),ZdC g (Yac _) _ _ _⟩
theorem ZGm{v:World}{p:Value}{t:TypeId}{a:Act}{o:Obj}(f:ZGl fn a w.heap.size (.string ⟨#[]⟩) S0 (Vi 0) false)(hd:a.defers=[])(g:BAt v w.heap.size [p,q,u] t)(h:BW w v)(i:r=none) :
  bodyPost prog fn (fun e c=>∃v ok,e=.returned (.tuple #[v,.bool ok])/\Hid (SelR c r v ok)/\BW w c) .ret a ((set3 v w.heap.size (.string ⟨#[]⟩) S0 (Vi 0)).alloc o):=by
 obtain⟨_,s0,s1,s2⟩:=((Zcr g (x:=.string ⟨#[]⟩) (y:=S0) (z:=Vi 0)).below ((Yaf _ _).alloc (Yac _) o)).three;have d:=ZdC h (Yac _) (.string ⟨#[]⟩) S0 (Vi 0);exact bodyPost_ret (f _ s0 s1 s2) hd ⟨_,_,rfl,hid (SelR.mkNone i ⟨rfl,rfl⟩),d.alloc d.size _⟩
theorem ZBd(s:BA)(A:Nat->Addr)(m:Int)(w:World)(hs:s.size<=70000)(hv:Vars w A m)(ht:ZR w)(hB:20<=w.heap.size) :
  CP 183 #[.string s] w fun e w'=>∃v ok,e=.returned (.tuple #[v,.bool ok])/\Hid (SelR w' (ZbA (bl s)) v ok)/\BW w w':=by
 have HV:=hid hv;have HT:=hid ht;have b1:=hid hB;go_enter func183,ntmps183
 go_wp2_with fail
 refine Zm fun W hW=>?_;have c8:BW w W:=by rw[hW];exact Zbal
 have X:=hid c8;have b2:Hid (BAt W w.heap.size [.string ⟨#[]⟩,S0,Vi 0] 156):=hid (by rw[hW];exact bnw);cases g:LS.cut 91 (bl s)with
 | none=>
  refine(ZoF m W hs (HV.below X.out).max g).mono ?_;rintro e M ⟨a,b,rfl,K,nd,a0⟩;have N:BW W M:=by rw[a0];exact ZiX _ _ _
  have C:Hid (BW w M):=hid (X.trans (N.mono X.size));have p:=hid (b2.below N);have j:Hid (ZbA (bl s)=(selQ (bl a)).map fun z=>(z,0)):=hid (by rw[ZAH g,K.1]);have b3:a.size<=70000:=by rw[ZU K.1,Zd];exact hs
  clear N a0 g K b2
  go_wp2_with fail
  have a1:=hid ((HV.below C.out).sentsV);refine(Ziu a M Om a1.out).mono ?_;rintro e Z ⟨pv,v,rfl,h,O⟩;have d:Hid (BW w Z):=hid (C.trans (O.mono C.size));have c:=hid (p.below O);have c3:=c.lt;clear O p C a1;have f:=c.three;cases q:ZD (bl a)with
  | error x=>
   have k:Hid (ZbA (bl s)=none):=hid (by rw[j.out,Zr4 q];rfl);obtain⟨ty,u,rfl⟩:=RdIs.kq q h.out;clear h q j;go_wp2;exact ZGk (fun W s0 s1 s2=>by simp[results,results183,go_sem,s0,s1,s2]) rfl c.out d.out k.out
  | ok t=>
   rw[q]at h;obtain⟨rfl,a2⟩:=h.out;obtain⟨P,G,Q⟩:=ZrM q;cases t with
   | nil=>cases G
   | node x y nd l r=>
    have R:=hid a2;have a3:=hid (And.intro P Q);rcases a2 with ⟨B,rfl⟩|⟨B,nm,la,ln,lc,rfl,h1,h2⟩|⟨B,wd,nm,la,ln,lc,rfl,_⟩|⟨B,z,rfl,_⟩|⟨B,wd,la,ln,lc,z,rfl,_⟩|⟨B,z1,z2,rfl,_⟩
    case inr.inl=>
     have H:=hid (Zr6 q B);have a4:=hid B;have b6:=hid h1;have a5:=hid h2;clear h q P G Q B h1 h2
     go_wp2_with fail
     refine Zm fun W3 S=>?_;have D:BW Z W3:=by rw[S];exact Zbal
     have E:Hid (BW w W3):=hid (d.trans (D.mono d.size));have a6:=hid (c.below D);have a7:Hid (BAt W3 Z.heap.size [.string nm,.slice la ln lc] 148):=hid (by rw[S];exact bnw);have T:=hid (R.below D);have U:=hid (a5.below D);clear S D R a5 f;refine(Zj6 a3.1 a3.2 W3 T.out (HT.low E.out b1.out) (Yah b1.out E.size)).mono ?_;rintro e w4 ⟨tx,rfl,a8,F⟩;have b7:Hid (BW w w4):=hid (E.trans (F.mono E.size));have I:=hid (a6.below F);have b8:=hid (a7.below F);have b0:=hid (U.below F);have a9:Hid (bl tx=selS nd):=hid (by rw[a8.out,Zd7];unfold Zbv;rw[if_neg (by rw[a4.out];decide),if_pos a4.out]);clear F E a6 a7 T U a8;have d0:=b8.cell;have c:=I;have d:=b7;have f:=I.three;have c9:=I.lt;by_cases he:tx=a
     ·subst he;have b9:(tx.toList != tx.toList)=false:=by simp
      have c1:Hid (ZbA (bl s)=some (nd,0)):=hid (by rw[j.out,H.out,if_pos a9.symm];rfl);clear j H;go_wp2;exact ZGn (fun W s0 s1 s2=>by simp[results,results183,go_sem,s0,s1,s2]) rfl c.out d.out c1.out (fun W hg=>⟨⟨nm,la,ln,lc,nd,0⟩,rfl,rfl,b6.out,b0.kept hg I.out Dc⟩)
     ·have b9:(tx.toList == a.toList)=false:=by
       rw[beq_eq_false_iff_ne,Zbt,Zbt];intro e;exact he (ZcW e)
      have k:Hid (ZbA (bl s)=none):=hid (by rw[j.out,H.out,if_neg (by intro e;exact he (ZcW (a9.trans e)))];rfl);clear j H he;go_wp2;exact ZGk (fun W s0 s1 s2=>by simp[results,results183,go_sem,s0,s1,s2]) rfl c.out d.out k.out
    all_goals
     have k:Hid (ZbA (bl s)=none):=hid (by rw[j.out,Zr5 q Om];rfl);clear h q j P G Q B R;go_wp2;exact ZGm (fun W s0 s1 s2=>by simp[results,results183,go_sem,s0,s1,s2]) rfl c.out d.out k.out
 | some xy=>
  obtain⟨x,y⟩:=xy;refine(ZoD m W hs (HV.below X.out).max g).mono ?_;rintro e M ⟨a,b,rfl,K,nd,a0⟩;have N:BW W M:=by rw[a0];exact ZiX _ _ _
  have C:Hid (BW w M):=hid (X.trans (N.mono X.size));have p:=hid (b2.below N)
  have b3:a.size<=70000/\b.size<=70000:=by
   have h9:=K.out;rw[LS.cut]at g;cases c4:LS.seek 91 (bl s)with
   | none=>rw[c4]at g;cases g
   | some i=>
    rw[c4]at g;simp only[Ybf]at g;injection g with g;injection g with e1 e2;rw[ZU h9.1,ZU h9.2,<-e1,<-e2,Ya7,Ybv,Zd];omega
  have d1:=b3.2;have b3:=b3.1;have b4:=hid (ZAE g);clear N a0 g b2
  go_wp2_with fail
  refine(strings_CutSuffix b ⟨#[93]⟩ M Om).mono ?_;rintro e wq ⟨rfl,rfl⟩;have c5:Hid (bl b=y):=hid K.2;have d2:Hid (bl a=x):=hid K.1;rw[show b.data.toList=y from c5.out,show(⟨#[93]⟩:BA).data.toList=[93] from rfl];have d3:y.length<=70000:=by rw[<-c5.out,Zd];exact d1
  clear K;cases Y:Lib.hasSuffix y [93]with
  | false=>
   have k:Hid (ZbA (bl s)=none):=hid (by rw[b4.out,if_neg (by rw[Y];simp)])
   have V : Hid (∀ W', CP 46 #[.string ⟨(Lib.trimSuffix y [93]).toArray⟩, Vi (1000 : Nat)] W' _) := hid (fun W' => Znx ⟨(Lib.trimSuffix y [93]).toArray⟩ 1000 W' (by
     rw[<-Zd,ZbF];unfold Lib.trimSuffix;rw[Y];simpa using d3) Dc Dc)
   generalize(⟨(Lib.trimSuffix y [93]).toArray⟩:BA)=dg at *
   have c:=p;have d:=C;have c3:=p.lt;have f:=p.three;clear b4 Y
   go_wp2_with fail
   refine(V.out _).mono ?_;rintro e c6 ⟨rfl,rfl⟩;have b5:∃(v:Int) (o:Bool),numT 1000 (bl dg)=.tuple #[Vi v,.bool o]:=⟨_,_,rfl⟩
   obtain⟨nv,no,b5⟩:=b5;rw[b5];clear b5 V;go_wp2;exact ZGk (fun W s0 s1 s2=>by simp[results,results183,go_sem,s0,s1,s2]) rfl c.out d.out k.out
  | true=>
   rw[ZDh Y]
   have J:Hid (ZbA (bl s)=match ZQ 1000 y.dropLast with
    | some n=>if n=0 then none else (selQ x).map fun a=>(a,n)
    | none=>none):=hid (by rw[b4.out,if_pos Y])
   have V : Hid (∀ W', CP 46 #[.string ⟨y.dropLast.toArray⟩, Vi (1000 : Nat)] W' _) := hid (fun W' => Znx ⟨y.dropLast.toArray⟩ 1000 W' (by
     rw[<-Zd,ZbF,List.length_dropLast];omega) Dc Dc)
   have d4:=p.lt;clear b4 Y
   go_wp2_with fail
   refine(V.out _).mono ?_;rintro e c6 ⟨rfl,rfl⟩;rw[ZbF];cases L:ZQ 1000 y.dropLast with
   | none=>
    rw[Zgg L];have k:Hid (ZbA (bl s)=none):=hid (by rw[J.out,L]);have c:=p;have d:=C;have f:=p.three;clear L J;go_wp2;exact ZGk (fun W s0 s1 s2=>by simp[results,results183,go_sem,s0,s1,s2]) rfl c.out d.out k.out
   | some n=>
    rw[ZjO L];by_cases c2:n=0
    ·subst c2;have k:Hid (ZbA (bl s)=none):=hid (by rw[J.out,L];rfl);have c:=p;have d:=C;have f:=p.three;clear L J;go_wp2;exact ZGk (fun W s0 s1 s2=>by simp[results,results183,go_sem,s0,s1,s2]) rfl c.out d.out k.out
    ·have d5:((n:Int) == 0)=false:=by rw[beq_eq_false_iff_ne];omega
     have j:Hid (ZbA (bl s)=(selQ (bl a)).map fun z=>(z,n)):=hid (by rw[J.out,L,d2.out];simp only;rw[if_neg c2]);clear L J c2 V;obtain⟨M,c7⟩:∃M,M=c6:=⟨_,rfl⟩
     subst c7
     go_wp2_with fail
     have a1:=hid ((HV.below C.out).sentsV);refine(Ziu a M Om a1.out).mono ?_;rintro e Z ⟨pv,v,rfl,h,O⟩;have d:Hid (BW w Z):=hid (C.trans (O.mono C.size));have c:=hid (p.below O);have c3:=c.lt;clear O p C a1;have f:=c.three;cases q:ZD (bl a)with
     | error x=>
      have k:Hid (ZbA (bl s)=none):=hid (by rw[j.out,Zr4 q];rfl);obtain⟨ty,u,rfl⟩:=RdIs.kq q h.out;clear h q j;go_wp2;exact ZGk (fun W s0 s1 s2=>by simp[results,results183,go_sem,s0,s1,s2]) rfl c.out d.out k.out
     | ok t=>
      rw[q]at h;obtain⟨rfl,a2⟩:=h.out;obtain⟨P,G,Q⟩:=ZrM q;cases t with
      | nil=>cases G
      | node x y nd l r=>
       have R:=hid a2;have a3:=hid (And.intro P Q);rcases a2 with ⟨B,rfl⟩|⟨B,nm,la,ln,lc,rfl,h1,h2⟩|⟨B,wd,nm,la,ln,lc,rfl,_⟩|⟨B,z,rfl,_⟩|⟨B,wd,la,ln,lc,z,rfl,_⟩|⟨B,z1,z2,rfl,_⟩
       case inr.inl=>
        have H:=hid (Zr6 q B);have a4:=hid B;have b6:=hid h1;have a5:=hid h2;clear h q P G Q B h1 h2
        go_wp2_with fail
        refine Zm fun W3 S=>?_;have D:BW Z W3:=by rw[S];exact Zbal
        have E:Hid (BW w W3):=hid (d.trans (D.mono d.size));have a6:=hid (c.below D);have a7:Hid (BAt W3 Z.heap.size [.string nm,.slice la ln lc] 148):=hid (by rw[S];exact bnw);have T:=hid (R.below D);have U:=hid (a5.below D);clear S D R a5 f;refine(Zj6 a3.1 a3.2 W3 T.out (HT.low E.out b1.out) (Yah b1.out E.size)).mono ?_;rintro e w4 ⟨tx,rfl,a8,F⟩;have b7:Hid (BW w w4):=hid (E.trans (F.mono E.size));have I:=hid (a6.below F);have b8:=hid (a7.below F);have b0:=hid (U.below F);have a9:Hid (bl tx=selS nd):=hid (by rw[a8.out,Zd7];unfold Zbv;rw[if_neg (by rw[a4.out];decide),if_pos a4.out]);clear F E a6 a7 T U a8;have d0:=b8.cell;have c:=I;have d:=b7;have f:=I.three;have c9:=I.lt;by_cases he:tx=a
        ·subst he;have b9:(tx.toList != tx.toList)=false:=by simp
         have c1:Hid (ZbA (bl s)=some (nd,n)):=hid (by rw[j.out,H.out,if_pos a9.symm];rfl);clear j H;go_wp2;exact ZGn (fun W s0 s1 s2=>by simp[results,results183,go_sem,s0,s1,s2]) rfl c.out d.out c1.out (fun W hg=>⟨⟨nm,la,ln,lc,nd,n⟩,rfl,rfl,b6.out,b0.kept hg I.out Dc⟩)
        ·have b9:(tx.toList == a.toList)=false:=by
          rw[beq_eq_false_iff_ne,Zbt,Zbt];intro e;exact he (ZcW e)
         have k:Hid (ZbA (bl s)=none):=hid (by rw[j.out,H.out,if_neg (by intro e;exact he (ZcW (a9.trans e)))];rfl);clear j H he;go_wp2;exact ZGk (fun W s0 s1 s2=>by simp[results,results183,go_sem,s0,s1,s2]) rfl c.out d.out k.out
       all_goals
        have k:Hid (ZbA (bl s)=none):=hid (by rw[j.out,Zr5 q Om];rfl);clear h q j P G Q B R;go_wp2;exact ZGm (fun W s0 s1 s2=>by simp[results,results183,go_sem,s0,s1,s2]) rfl c.out d.out k.out
end
section
theorem Zkl{x:LB×Nat}(h:ZcH l p=.ok x):x.1.length<65536/\x.2<=l.length:=by
 unfold ZcH at h;cases a:Zbr l p 2 with
 | error e=>rw[a]at h;cases h
 | ok y=>
  rw[a]at h;simp only at h;obtain⟨d,f,g⟩:=Zhh h;have c:=(Zev a).2.2.2;have c:y.1<65536:=c;exact⟨by rw[f,Zki d];exact c,by omega⟩
theorem ZdG.jm(h:ZdG w a v){c:List Value}{t:TypeId}(d:BAt w b c t)(e:w.grownBy w' (some b))(f:t≠224):ZdG w' a v:=by
 obtain⟨x,g,i,j⟩:=h;exact⟨x,g,i,j.jm d e f⟩
theorem ZdG.below(h:ZdG w a v)(c:BW w w'):ZdG w' a v:=by
 obtain⟨x,d,e,f⟩:=h;exact⟨x,d,e,f.below c⟩
structure Ground (w0:World) (A:Nat->Addr) (m:Int) (b:Nat):Prop where
 v:Vars w0 A m
 t:ZR w0
 n:20<=w0.heap.size
 b:w0.heap.size<=b
theorem Ground.code(h:Ground w0 A m b)(a:BW w0 w):Zc5 w (A 8):=(h.v.below a).sent _ Dc
theorem Ground.ng(h:Ground w0 A m b):20<=b:=Yah h.n h.b
theorem ZBz(s:BA)(b:Nat)(A:Nat->Addr)(m:Int)(P:Ground w0 A m b)(hs:s.size<=maxLen) :
  OneC 136 ZdG Zfc w0 b s (A 8) (Zb4 (bl s)):=by
 intro p w h0 Q hp;have b5:=Q.lt;have a:=hid P;have T:Hid (∀w,BW w0 w->RdAt w b s p->CP 182 #[Vp b] w _):=hid (fun w h1 h2=>ZrS s p b w h2 (P.code h1) P.ng hp hs);have R:=hid h0;have a6:=hid Q;have c1:w.cell? ⟨b,1,none⟩=some (Vi p):=Q.cell 1;clear Q h0 P hs;go_enter func136,ntmps136
 go_wp2_with fail
 refine Zm fun W hW=>?_;have I:BW w W:=by rw[hW];exact Zbal
 have U:Hid (BAt W w.heap.size [.string ⟨#[]⟩,S0,Vi 0] 156):=hid (by rw[hW];exact bnw);have J:Hid (w.grownBy W (some b)):=hid (Zw I);have V:Hid (BW w0 W):=hid (ZbV R.out J.out a.b);have X:=hid (a6.below I);clear hW I c1;refine(T.out W V.out X.out).mono ?_;rintro e G ⟨v,err,rfl,H,K⟩;have l:Hid (w.grownBy G (some b)):=hid (Zj J.out K);have d:=hid (U.grown K (by intro e;injection e with e;omega));have o:Hid (BW w0 G):=hid (ZbV R.out l.out a.b);clear K J U V X T;cases j:ZcH (bl s) p with
 | error x=>
  obtain⟨fa,rfl⟩:=H.kq j;have L:Hid (RdC ZdG Zfc G b s (A 8) (Zb4 (bl s) p) (.agg #[.string ⟨#[]⟩,S0,Vi 0]) (.iface 81 (Vp fa))):=hid (H.qj j (by unfold Zb4;rw[j]) rfl);obtain⟨_,_,rfl,_⟩:=H.err j;clear H j;have f0:=d.frozen;have c0:=d.cell;go_wp2;exact ret3 (r:=.tuple #[.agg #[.string ⟨#[]⟩,S0,Vi 0],.iface 81 (Vp fa)]) (fun W s0 s1 s2=>by simp[results,results136,go_sem,s0,s1,s2]) rfl d.out ⟨_,_,rfl,L.kept (ZfC G w.heap.size (.string ⟨#[]⟩) S0 (Vi 0)) d.out Dc Dc (fun _ h=>h.jm d.out (ZfC G w.heap.size (.string ⟨#[]⟩) S0 (Vi 0)) Dc),Ze4 l.out (Yac _) (.string ⟨#[]⟩) S0 (Vi 0)⟩
 | ok x=>
  obtain⟨t,q⟩:=x;obtain⟨rfl,⟨tx,rfl,u⟩,hq⟩:=H.ok j;have a7:=(Zkl j).1;simp only at hq a7 u;have a8:tx.size<=70000:=by rw[ZU u];omega
  have Y:=hid hq
  have B:Hid (Zb4 (bl s) p=match ZbA (bl tx)with
   | none=>.error (9,p)
   | some y=>.ok (y,q)):=hid (by unfold Zb4;rw[j,u];simp only;cases ZbA t <;> rfl)
  clear H j hq u
  go_wp2_with fail
  refine(ZBd tx A m G a8 (a.v.below o.out) (a.t.low o.out a.n) (Yah a.n o.size)).mono ?_;rintro e f ⟨v,ok,rfl,g,C⟩;have D:Hid (w.grownBy f (some b)):=hid (ZeT l.out C);have c:=hid (d.below C);have a9:Hid (BW w0 f):=hid (ZbV R.out D.out a.b);have M:=hid (Y.below C);have b6:=c.lt;clear C d l o Y;cases i:ZbA (bl tx)with
  | none=>
   rw[i]at g;obtain⟨rfl,rfl⟩:=g.out;have N:Hid (Zb4 (bl s) p=.error (9,p)):=hid (by rw[B.out,i]);clear g i B
   go_wp2_with fail
   refine Zm fun W3 Z=>?_;have E:BW f W3:=by rw[Z];exact Zbal
   have O:Hid (w.grownBy W3 (some b)):=hid (ZeT D.out E);have a0:=hid (c.below E);have a1:Hid (BW w0 W3):=hid (ZbV R.out O.out a.b);have a2:=hid (M.below E);clear Z E D c a9 M;refine(ZfX _ (a.code a1.out)).mono ?_;rintro e S ⟨v,rfl,hv,F⟩;have L:Hid (RdC ZdG Zfc S b s (A 8) (Zb4 (bl s) p) (.agg #[.string ⟨#[]⟩,S0,Vi 0]) v):=hid (RdC.qq N.out ⟨rfl,hv.out,rfl,_,a2.below F⟩);have b0:Hid (w.grownBy S (some b)):=hid (ZeT O.out F);have k:=hid (a0.below F);obtain⟨fa,rfl⟩:=ZM.shape hv.out;clear hv F a0 O a1 a2;have f0:=k.frozen;have c0:=k.cell;go_wp2;exact ret3 (r:=.tuple #[.agg #[.string ⟨#[]⟩,S0,Vi 0],.iface 81 (Vp fa)]) (fun W s0 s1 s2=>by simp[results,results136,go_sem,s0,s1,s2]) rfl k.out ⟨_,_,rfl,L.kept (ZfC S w.heap.size (.string ⟨#[]⟩) S0 (Vi 0)) k.out Dc Dc (fun _ h=>h.jm k.out (ZfC S w.heap.size (.string ⟨#[]⟩) S0 (Vi 0)) Dc),Ze4 b0.out (Yac _) (.string ⟨#[]⟩) S0 (Vi 0)⟩
  | some y=>
   rw[i]at g;obtain⟨rfl,a3⟩:=g.out;have a4:=hid a3;obtain⟨z,rfl,b1,b2⟩:=a3;have N:Hid (Zb4 (bl s) p=.ok (y,q)):=hid (by rw[B.out,i]);have L:Hid (RdC ZdG Zfc f b s (A 8) (Zb4 (bl s) p) (.agg #[.string z.nm,.slice z.la z.ln z.lc,Vi z.n]) .nilIface):=hid (RdC.mkOk N.out ⟨rfl,a4.out,M.out⟩);clear g i B b1 b2 a4;have f0:=c.frozen;have c0:=c.cell;go_wp2;change bodyPost _ _ _ _ _ ((set3 f w.heap.size (.string z.nm) (.slice z.la z.ln z.lc) (Vi z.n)).alloc (.cells #[.string z.nm,.slice z.la z.ln z.lc,Vi z.n] 156));have st:=(Zcr c.out (x:=.string z.nm) (y:=.slice z.la z.ln z.lc) (z:=Vi z.n)).below ((Yaf _ _).alloc (Yac _) (.cells #[.string z.nm,.slice z.la z.ln z.lc,Vi z.n] 156));have s0:=st.cell 0;have s1:=st.cell 1;have s2:=st.cell 2;simp only[Zget]at s0 s1 s2;have a5:=hid (L.kept (ZfC f w.heap.size (.string z.nm) (.slice z.la z.ln z.lc) (Vi z.n)) c.out Dc Dc (fun _ h=>h.jm c.out (ZfC f w.heap.size (.string z.nm) (.slice z.la z.ln z.lc) (Vi z.n)) Dc));obtain⟨g1,g2,g3⟩:=a5.ok N.out;have b3:Hid (RdC ZdG Zfc ((set3 f w.heap.size (.string z.nm) (.slice z.la z.ln z.lc) (Vi z.n)).alloc (.cells #[.string z.nm,.slice z.la z.ln z.lc,Vi z.n] 156)) b s (A 8) (Zb4 (bl s) p) (.agg #[.string z.nm,.slice z.la z.ln z.lc,Vi z.n]) .nilIface):=hid (RdC.mkOk N.out ⟨rfl,g2.below Zbal,g3.below Zbal⟩);have b4:=hid (ZbR (Ze4 D.out (Yac _) (.string z.nm) (.slice z.la z.ln z.lc) (Vi z.n)) (.cells #[.string z.nm,.slice z.la z.ln z.lc,Vi z.n] 156));clear g1 g2 g3 a5;generalize(set3 f w.heap.size (.string z.nm) (.slice z.la z.ln z.lc) (Vi z.n)).alloc (.cells #[.string z.nm,.slice z.la z.ln z.lc,Vi z.n] 156)=WX at *
   exact bodyPost_ret (v:=.tuple #[.agg #[.string z.nm,.slice z.la z.ln z.lc,Vi z.n],.nilIface]) (by simp[results,results136,go_sem,s0,s1,s2]) rfl ⟨_,_,rfl,b3,b4.out⟩
theorem Zjy(x y:LB):decide (x<=y)=!Op.bytesLess y x:=by
 rw[bytesLess_eq,Ybh,decide_eq_true_iff,Ycr,decide_eq_false_iff_not];exact Yez
theorem ZCy (ss : List (LB)) : (ss.mergeSort fun x y => decide (x <= y)).Pairwise fun a b => Op.bytesLess b a = false := by
  have h := Yfa (le := fun (x y) => decide _) (by
    intro a b c d i;rw[Zjy,Ycr]at *
    cases h:Op.bytesLess c a with
    | false=>rfl
    | true=>
      cases f:Op.bytesLess b c with
      | true=>rw[Zdv _ _ _ f h]at d;cases d
      | false=>
        have e:=Zdh _ _ f i;rw[e,h]at d;cases d) (by
    intro a b;rw[Zjy,Zjy];cases h:Op.bytesLess b a with
    | false=>rfl
    | true=>
      cases f:Op.bytesLess a b with
      | false=>rfl
      | true=>have:=Zdv _ _ _ h f;rw[ZcL]at this;cases this) ss
  refine h.imp (fun {a b} g=>?_);rw[Zjy,Ycr]at g;exact g
theorem ZoW(bs:List BA):Zbc bs=(bs.map bl).map encStr:=by
 unfold Zbc;rw[Yb1];refine Ycb (fun b _=>?_);cases b with
 | mk d=>simp[encStr,bl]
theorem ZCz {l : List (LB)} (e : l.Pairwise fun a b => Op.bytesLess b a = false) (h : ∀ k, k + 1 < l.length -> l[k]? ≠ l[k + 1]?) : l.Nodup := by
  induction l with
  | nil=>exact Yfq
  | cons a l ih=>
    rw[Ybg]at e;rw[List.nodup_cons];refine⟨fun f=>?_,ih e.2 (fun k g=>by have:=h _ (by simpa using g);simpa using this)⟩;cases l with
    | nil=>cases f
    | cons c r=>
      have d:=h 0 (by simp);simp only[Zget,Ycf]at d;rcases Yau.1 f with rfl|f
      · exact d rfl
      · have i:=(Ybg.1 e.2).1 a f
        have j:=e.1 c (by simp);exact d (by rw[Zdh _ _ i j])
theorem ZwD{ms:List (LB)}(g:t≠[])(a:ms.Perm (split 44 t)):ZcG t=if ms.all Zx=true/\ms.Nodup then some (split 44 t)else none:=by
 unfold ZcG;rw[if_neg g]
 have d:(split 44 t).all Zx=true ↔ ms.all Zx=true:=by
  rw[Ybu,Ybu];exact⟨fun h x c=>h x (a.mem_iff.1 c),fun h x c=>h x (a.mem_iff.2 c)⟩
 have f:=a.nodup_iff.symm;by_cases e:ms.all Zx=true/\ms.Nodup
 ·rw[if_pos e,if_pos ⟨d.2 e.1,f.2 e.2⟩]
 ·rw[if_neg e,if_neg (fun h=>e ⟨d.1 h.1,f.1 h.2⟩)]
def GrpR(w:World)(r:Option (List (LB)))(v:Value)(ok:Bool):Prop:=match r with
 | some a=>ok=true/\ZfM w a v
 | none=>ok=false/\RowZ v
theorem GrpR.mkNone{r:Option (List (LB))}(a:r=none)(h:ok=false/\RowZ v):GrpR w r v ok:=by subst a;exact h
theorem GrpR.mkSome{r:Option (List (LB))}{a:List (LB)}(c:r=some a)(h:ok=true/\ZfM w a v):GrpR w r v ok:=by subst c;exact h
theorem ZBc(A:Nat->Addr)(m:Int)(hs:s.size<=70000)(hv:Vars w A m) :
  CP 184 #[.string s] w fun e u=>∃v ok,e=.returned (.tuple #[v,.bool ok])/\Hid (GrpR u (ZcG (bl s)) v ok)/\BW w u:=by
 have HM:=hid hv.max;clear hv;by_cases h0:s.size=0
 ·have o:s.toList.isEmpty=true:=ZoT Om;have HQ:Hid (ZcG _=some _):=hid (by unfold ZcG;rw[if_pos (ZgW o)]);go_enter func184,ntmps184;go_wp2;go_ret2;exact⟨_,_,rfl,hid (GrpR.mkSome HQ ⟨rfl,⟨none,0,0,[]⟩,rfl,rfl,[],Ybc _ _ _ _,List.Pairwise.nil,fun y=>Yez,by simp⟩),Yaf _ _⟩
 ·have o:s.toList.isEmpty=false:=Zrh Om;have S:=Zij o;have T:=hid (strings_Split s ⟨#[44]⟩ m w Om HM (Yac 1));have hd:(Lib.splitB ⟨#[44]⟩ 0 _ s).map bl=split _ _:=(Lib.splitB_data _ 0 (Lib.countB s ⟨#[44]⟩) s).trans (Zsq _ _ (bl s) (Yac _));have E:=Lib.splitB_all ⟨#[44]⟩ (Yac 1) 0 _ s rfl;go_enter func184,ntmps184
  go_wp2_with fail
  refine T.mono ?_;rintro e w1 ⟨rfl,p⟩;obtain⟨bs,U⟩:∃bs,bs=Lib.splitB ⟨#[44]⟩ 0 (Lib.countB s ⟨#[44]⟩) s:=⟨_,rfl⟩
  rw[<-U]at hd E p;have Z:(split 44 (bl s)).length<=s.size+1:=by have:=Zhd 44 (bl s);rwa [Zd]at this
  have a0:bs.length=(split 44 (bl s)).length:=by rw[<-hd,Yak]
  obtain⟨N,hN⟩:∃N,N=Lib.countB s ⟨#[44]⟩+1:=⟨_,rfl⟩
  rw[<-hN]at E ⊢;have b1:N<=70001:=by omega
  have b2:1<=N:=by omega
  obtain⟨ss,q⟩:∃ss,ss=bs.map bl:=⟨_,rfl⟩
  have c:ss.length=N:=by rw[q,Yak,E]
  have V:Below _ w _:=p▸Zbal;have O:w1.heap[w.heap.size]?=some (.cells _ 9 _):=p▸bnw;have a1:=(Yae.1 O).1;have F:bs.map _=ss.map _:=q▸ZoW bs;have hH:=holds_of_block O (by rw[F,c];exact Ya5 (by rw[Yak,c];exact Yac _));have hS:=slices_Sort_string _ 0 N _ _ hH a1 Om;rw[c]at hS;have HS:=hid hS;have G:=hid V;have HH:=hid O;have H:Hid (ss=split 44 (bl s)):=by rwa [q]
  have I:=hid E;have a2:=hid S;clear hS hH O V p U hd E Z a0 q F T S o HM hN
  go_wp2_with (go_at_call 203;refine HS.mono ?_;rintro e z ⟨rfl,nn,os,f⟩;have W:=hid f;clear f)
  have f:=W.out;clear W;obtain⟨ms,r⟩:∃ms,ms=ss.mergeSort (fun x y=>decide (x<=y)):=⟨_,rfl⟩
  have t:Hid _:=r▸List.mergeSort_perm _ _;have a3:Hid (ms.Pairwise fun a b=>Op.bytesLess b a=false):=r▸ZCy ss;have a4:ms.length=N:=by rw[t.length_eq,c]
  have B:z.ownsRow w.heap.size 9 1 (.slice (some ⟨w.heap.size,0,none⟩) N N) N (ms.map encStr):=by
   have P:=ownsRow_sorted (n:=nn) (os:=os) (cap:=N) (t.length_eq) (Yac _) HH (c▸Yac _) (by unfold maxLen;omega) (by simp[I.out]);rw[c]at P;rw[f,<-r];exact P
  have J:Hid _:=f▸G.grown (grownBy_sorted _) G.size (fun j Q=>by cases Q;exact Yac _);have K:Hid (ZcG _=if ms.all _=true/\ms.Nodup then some _ else none):=hid (ZwD a2 (by rwa [<-H.out]))
  have a5 : Hid (∀ k (h : k < ms.length), ms[k].length <= 70000) := hid (fun k h => by
    have d:=t.mem_iff.1 (List.getElem_mem h);rw[H]at d;have:=Zne _ _ _ d;rw[Zd]at this;omega)
  have X:=hid B;have b3:=hid c;clear B f r HS HH G I c;go_wp2
  go_loop [5,16] (fun lv i=>∃(k:Nat) (last:BA),k<=N/\i=Vi k/\lv=.string last/\Hid (bl last=if k=0 then [] else ms.getD (k - 1) [])/\Hid ((ms.take k).all Zx=true)/\Hid (∀j,j+1<k->ms[j]?≠ms[j+1]?)) (fun _ i=>N - (intOf i).toNat)
  case atStart=>exact⟨0,⟨#[]⟩,Yag _,rfl,rfl,hid rfl,hid rfl,hid (fun j Q=>by omega)⟩
  case round=>
   obtain⟨k,last,hk,rfl,rfl,HL,HA,HD⟩:=hrel;by_cases b4:k<N
   ·have g:k<ms.length:=by omega
    have b5:(k:Int)<N:=by omega
    obtain⟨x,hx⟩:∃x:BA,x=⟨ms[k].toArray⟩:=⟨_,rfl⟩
    have D:Hid (bl x=ms[k]):=hid (by rw[hx,ZbF]);have d0:z.cell? _=some (.string x):=Zi X k _ (by rw[hx,Ya2,List.getElem?_eq_getElem g];rfl);have L:x.size<=70000:=ZU D.out▸a5.out k g;clear hx;cases R:Zx (bl x)with
    | false=>
     have M:Hid (ZcG _=none):=hid (by
      rw[K,if_neg];rintro⟨h,_⟩;have:=Ybu.1 h _ (List.getElem_mem g);rw[<-D,R]at this;cases this)
     go_wp2_with (go_at_call 48;refine(Zkt x _ L).mono ?_;rintro e u ⟨rfl,rfl⟩)
     go_ret2;exact⟨_,_,rfl,hid (GrpR.mkNone M ⟨rfl,rfl⟩),J⟩
    | true=>
     by_cases o:x=last
     ·subst o;have a6:(x.toList == x.toList)=true:=by simp
      have Y:k≠0:=by
       intro e;subst e;have d:=HL.out;rw[if_pos rfl]at d;rw[d]at R;exact absurd R Dc
      have M:Hid (ZcG _=none):=hid (by
       rw[K,if_neg];rintro⟨_,h⟩;have d:=HL.out;rw[if_neg Y,D,Yaa,List.getElem?_eq_getElem Om,Ya6]at d;have:=(List.pairwise_iff_getElem.1 h) (k - 1) k Om g Om;exact this d.symm)
      clear Y
      go_wp2_with (go_at_call 48;refine(Zkt x _ L).mono ?_;rintro e u ⟨rfl,rfl⟩)
      go_ret2;exact⟨_,_,rfl,hid (GrpR.mkNone M ⟨rfl,rfl⟩),J⟩
     ·have a6:(x.toList == last.toList)=false:=by
       rw[beq_eq_false_iff_ne,Zbt,Zbt];intro e;exact o (ZcW e)
      have a7:Hid ((ms.take _).all _=true):=hid (by
       rw[List.take_succ_eq_append_getElem g,List.all_append,HA,<-D];simp[R])
      have a8 : Hid (∀ j, j + 1 < k + 1 -> ms[j]? ≠ ms[j + 1]?) := hid (fun j Q => by
        by_cases e:j+1=k
        · subst e
          rw[List.getElem?_eq_getElem g,List.getElem?_eq_getElem Om,<-D];intro e2;injection e2 with e2;have d:=HL.out;rw[if_neg Om,Yaa,Yen,List.getElem?_eq_getElem Om,Ya6]at d;exact o (ZcW (by rw[d,e2]))
        · exact HD j Om)
      have a9:Hid (bl x=if k+1=0 then [] else ms.getD (k+1 - 1) []):=hid (by
       rw[if_neg Om,Yen,Yaa,List.getElem?_eq_getElem _,Ya6,D])
      clear o
      go_wp2_with (go_at_call 48;refine(Zkt x _ L).mono ?_;rintro e u ⟨rfl,rfl⟩)
      go_round
      case rel=>exact⟨k+1,x,by omega,by go_num,rfl,a9,a7,a8⟩
      case measure=>simp[intOf];omega
   ·obtain rfl:k=N:=by omega
    have M:Hid (ZcG _=some _):=hid (by
     rw[K,if_pos];refine⟨by have:=HA.out;rwa [Ya5 Om]at this,ZCz a3 (fun j Q=>HD j Om)⟩)
    have C : (ms.map (fun l => (⟨l.toArray⟩))).map bl = ms := by
      rw[Yb1]
      conv=>rhs;rw[<-List.map_id ms]
      exact Ycb (fun l _=>by simp[bl])
    have b0:Hid (ZfM _ (split _ _) (.slice (some _) k k)):=hid ⟨⟨some _,k,k,split _ _⟩,rfl,rfl,ms.map _,by
     have P:=Zgi X;rw[ZoW,C,Yak,a4];exact P,by rwa [C],fun y=>by rw[C,t.mem_iff,H],by rw[Yak];omega⟩
    clear C;go_wp2;go_ret2;exact⟨_,.inr ⟨rfl,hid (GrpR.mkSome M ⟨rfl,b0⟩),J⟩⟩
theorem ZBx(s:BA)(b:Nat)(A:Nat->Addr)(m:Int)(u:Ground w0 A m b)(M:s.size<=maxLen) :
  OneC 138 ZfM RowZ w0 b s (A 8) (ZbX (bl s)):=by
 intro p w H I U;have f:=hid u;have B:=hid (ZrS s p b w I (u.code H) u.ng U M);have N:=hid H;have c1:w.cell? _=some _:=I.cell 1;clear I H u M;go_enter func138,ntmps138
 go_wp2_with fail
 clear c1;refine B.mono ?_;rintro e V ⟨v,err,rfl,i,j⟩;have k:=hid j;have C:=hid (ZbV N j f.b);clear j B;cases d:ZcH (bl s) p with
 | error x=>
  obtain⟨fa,rfl⟩:=i.kq d;have l:Hid (RdC ZfM RowZ _ b s _ (ZbX _ p) _ _):=hid (i.qj d (by unfold ZbX;rw[d]) rfl);obtain⟨_,_,rfl,_⟩:=i.err d;clear i d;go_wp2;go_ret2;exact⟨_,_,rfl,l,k⟩
 | ok x=>
  obtain⟨t,q⟩:=x;obtain⟨rfl,⟨tx,rfl,g⟩,J⟩:=i.ok d;have O:=(Zkl d).1;simp only at J O g;have P:tx.size<=70000:=by rw[ZU g];omega
  have D:=hid J
  have h:Hid (ZbX (bl s) p=match ZcG (bl tx)with
   | none=>.error (9,p)
   | some y=>.ok (y,q)):=by unfold ZbX;rw[d,g];simp only;cases ZcG t <;> rfl
  clear i d J g
  go_wp2_with fail
  refine(ZBc A m P (f.v.below C)).mono ?_;rintro e W ⟨v,ok,rfl,a,n⟩;have o:=hid (ZeT k n);have Q:=hid (ZbV N o f.b);have E:=hid (D.below n);clear n k C D;cases c:ZcG (bl tx)with
  | none=>
   rw[c]at a;obtain⟨rfl,rfl⟩:=a.out;have K:Hid (ZbX _ p=.error _):=hid (by rw[h,c]);clear a c h
   go_wp2_with fail
   refine(ZfX _ (f.code Q)).mono ?_;rintro e X ⟨v,rfl,L,r⟩;have l:Hid (RdC ZfM RowZ _ b s _ _ _ v):=hid (RdC.qq K ⟨rfl,L,rfl,_,E.below r⟩);have R:=hid (ZeT o r);obtain⟨fa,rfl⟩:=ZM.shape L;clear L r;go_wp2;go_ret2;exact⟨_,_,rfl,l,R⟩
  | some y=>
   rw[c]at a;obtain⟨rfl,F⟩:=a.out;have G:=hid F;obtain⟨z,rfl,S,T⟩:=F;have K:Hid (ZbX _ p=.ok _):=hid (by rw[h,c]);have l:Hid (RdC _ RowZ _ b s (A 8) _ _ _):=hid (RdC.mkOk K ⟨rfl,G,E⟩);clear a c h S T G;go_wp2;go_ret2;exact⟨_,_,rfl,l,o⟩
theorem ZzE(a:Ground w0 A m b)(c:s.size<=maxLen):OneC 134 KV NZ w0 b s (A 8) (ZbW (bl s)):=
 fun p w d e f=>ZBb s p b w e (a.code d) a.ng f c
theorem ZzF(a:Ground w0 A m b)(c:s.size<=maxLen):OneC 140 IV IZ w0 b s (A 8) (ZbN (bl s)):=
 fun p w d e f=>ZBy s p b w e (a.code d) a.ng f c
theorem Zle{x:Int×Nat}(h:ZbW l p=.ok x):x.2<=l.length:=by
 unfold ZbW at h;cases a:Zbr l p 4 with
 | error e=>rw[a]at h;cases h
 | ok y=>
  rw[a]at h;simp only at h;split at h
  ·cases h
  ·injection h with h;subst h;have:=Zev a;omega
theorem ZlQ{x:(Nat×Nat)×Nat}(h:ZbN l p=.ok x):x.2<=l.length/\x.1.1<=13/\x.1.2<65536:=by
 unfold ZbN at h;cases c:Zbr l p 1 with
 | error e=>rw[c]at h;cases h
 | ok y=>
  rw[c]at h;simp only at h;split at h
  ·cases h
  ·rename_i g;cases a:Zbr l y.2 2 with
   | error e=>rw[a]at h;cases h
   | ok z=>
    rw[a]at h;injection h with h;subst h;have d:=Zev a;have f:=d.2.2.2;exact⟨by show z.2<=_;omega,by show y.1<=13;omega,f⟩
theorem ZmL{x:(Nd×Nat)×Nat}(h:Zb4 l p=.ok x):x.2<=l.length:=by
 unfold Zb4 at h;cases a:ZcH l p with
 | error e=>rw[a]at h;cases h
 | ok y=>
  rw[a]at h;simp only at h;cases c:ZbA y.1 with
  | none=>rw[c]at h;cases h
  | some z=>rw[c]at h;injection h with h;subst h;exact(Zkl a).2
theorem ZlE{x:List (LB)×Nat}(h:ZbX l p=.ok x):x.2<=l.length:=by
 unfold ZbX at h;cases a:ZcH l p with
 | error e=>rw[a]at h;cases h
 | ok y=>
  rw[a]at h;simp only at h;cases c:ZcG y.1 with
  | none=>rw[c]at h;cases h
  | some z=>rw[c]at h;injection h with h;subst h;exact(Zkl a).2
