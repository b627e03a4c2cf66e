/- Parts. -/
import Derived.Test.YtkodhpilkaihjaaGreatDoorV15
import Derived.Test.YtkodhpilkaihjaaGreatDoorV17
import Derived.Sort.OwnSorted
set_option linter.all false
set_option maxRecDepth 100000
set_option maxHeartbeats 16000000
namespace Go.Proofs.YtkodhpilkaihjaaGreatDoor
open Go.RowKit LS Go.Proofs.Tryz
variable {s:BA}{ok:Bool}{fn:Func}{m:Int}{l t y:LB}{b p:Nat}{A:Nat->Addr}{x:Nat×Nat}{a k:Nd×Nat}{r:Option (Nd×Nat)}{q u v:Value}{w w' w0:World}
section
attribute [local go_sem] ZiT ZiS ZiU ZiR ZiV ZgD
theorem ZrM{t:Tr}(h:ZD l=.ok t):wfT t/\isNil t=false/\wT t<=100000:=by
 unfold ZD at h;by_cases c:300<l.length
 ·rw[if_pos c]at h;cases h
 ·rw[if_neg c]at h;have i:=ZjB l (l.length+1) 0 (Yag _);have j:=ZjC l Om (l.length+1) 0;cases a:Zs (10*(ZN l (l.length+1) 0).length+5) false 0 .nil (ZN l (l.length+1) 0) 0 with
  | error e=>rw[a]at h;cases h
  | ok z=>
   obtain⟨t',r⟩:=z;rw[a]at h;have b:=Zfv _ _ _ _ _ _ _ (fun e=>by cases e) a;simp only at h;by_cases d:(hd r).jj=0
   ·rw[if_pos d]at h;by_cases f:Zf t'=0
    ·rw[if_pos f]at h;cases h
    ·rw[if_neg f]at h;injection h with h;subst h;refine⟨b.1,b.2.1,?_⟩;have g:=b.2.2;rw[if_neg Dc]at g;simp only at g;omega
   ·rw[if_neg d]at h;cases h
theorem Vars.sentsV(h:Vars w A m):Sents w (A 0) (A 1) (A 2) (A 3):=
 ⟨h.sent _ Dc,h.sent _ Dc,h.sent _ Dc,h.sent _ Dc⟩
theorem RdIs.jm{lg sy dp tp:Addr}{r:Except (Nat×Nat) Tr}{pv:Value}(b:r=.error x)(h:RdIs w lg sy dp tp r pv v):∃ty u,v=.iface ty u:=by
 subst b;rcases h with ⟨_,rfl⟩|⟨_,rfl⟩|⟨_,a⟩|⟨_,a⟩
 ·exact⟨_,_,rfl⟩
 ·exact⟨_,_,rfl⟩
 ·obtain⟨fa,rfl⟩:=ZM.shape a;exact⟨_,_,rfl⟩
 ·obtain⟨fa,rfl⟩:=ZM.shape a;exact⟨_,_,rfl⟩
def SelR(w:World)(r:Option (Nd×Nat))(v:Value)(ok:Bool):Prop:=match r with
 | some a=>ok=true/\ZdG w a v
 | none=>ok=false/\Zfc v
theorem SelR.mkNone(a:r=none)(h:ok=false/\Zfc v):SelR w r v ok:=by subst a;exact h
theorem SelR.mkSome(b:r=some a)(h:ok=true/\ZdG w a v):SelR w r v ok:=by subst b;exact h
theorem Zr4(h:ZD l=.error x):selQ l=none:=by unfold selQ;rw[h]
theorem Zr5{x y:Nat}{a:Nd}{p q:Tr}(h:ZD l=.ok (.node x y a p q))(b:a.jj≠1):selQ l=none:=by
 unfold selQ;rw[h];simp only;rw[if_neg (fun e=>b e.1)]
theorem Zr6{x y:Nat}{a:Nd}{p q:Tr}(h:ZD l=.ok (.node x y a p q))(b:a.jj=1):selQ l=if selS a=l then some a else none:=by
 unfold selQ;rw[h];simp only;by_cases e:selS a=l
 ·rw[if_pos ⟨b,e⟩,if_pos e]
 ·rw[if_neg (fun h=>e h.2),if_neg e]
theorem ZfC(w:World)(a:Nat)(x y z:Value):w.grownBy (set3 w a x y z) (some a):=ZA (ZA (ZA (ZbM w (some a)) (Or.inl rfl) _) (Or.inl rfl) _) (Or.inl rfl) _
theorem ZdC{a:Nat}(h:BW w0 w)(b:w0.heap.size<=a)(x y z:Value):BW w0 (set3 w a x y z):=
 ((h.setCell (p:=⟨a,0,none⟩) b _).setCell (p:=⟨a,1,none⟩) b _).setCell (p:=⟨a,2,none⟩) b _
theorem ZCW(y:LB)(c:UInt8):Lib.hasSuffix y [c]=decide (y.getLast?=some c):=by
 rw[Ybh,decide_eq_true_iff];unfold Lib.hasSuffix;rw[List.isSuffixOf_iff_suffix];constructor
 ·rintro⟨z,rfl⟩;simp
 ·intro h;obtain⟨z,a⟩:=List.getLast?_eq_some_iff.1 h;exact⟨z,a.symm⟩
theorem ZAH  (h : LS.cut 91 t = none) : ZbA t = (selQ t).map fun a => (a, 0) := by
  have:LS.seek 91 t=none:=by
    unfold LS.cut at h;cases b:LS.seek 91 t with
    | none=>rfl
    | some i=>rw[b]at h;cases h
  unfold ZbA;rw[this]
theorem ZAE{x:LB}(h:LS.cut 91 t=some (x,y)):ZbA t=if Lib.hasSuffix y [93]=true then (match ZQ 1000 y.dropLast with
   | some n=>if n=0 then none else (selQ x).map fun a=>(a,n)
   | none=>none)else none:=by
 cases d:LS.seek 91 t with
 | none=>unfold LS.cut at h;rw[d]at h;cases h
 | some i=>
  unfold LS.cut at h;rw[d]at h;simp only[Ybf]at h;injection h with h;injection h with h1 h2
  have f:t.getLast?=some 93 ↔ y.getLast?=some 93:=by
   obtain⟨a,b,rfl,rfl,_⟩:=Ziv d
   have g:y=b:=by
    rw[<-h2,List.drop_append];simp
   rw[g];cases b with
   | nil=>simp
   | cons c b=>rw[List.getLast?_append,List.getLast?_cons_cons];simp
  unfold ZbA;rw[d];simp only;rw[h1,h2,ZCW];by_cases e:t.getLast?=some 93
  ·rw[if_pos e,if_pos (by simpa using f.1 e)];cases ZQ 1000 y.dropLast <;> rfl
  ·rw[if_neg e,if_neg (by simpa using fun e'=>e (f.2 e'))]
theorem ZDh{c:UInt8}(h:Lib.hasSuffix y [c]=true):Lib.trimSuffix y [c]=y.dropLast:=by
 unfold Lib.trimSuffix;rw[if_pos h,Yhg];rfl
theorem BAt.three{a:Nat}{x y z:Value}{t:TypeId}(h:BAt w a [x,y,z] t):(w.frozen? ⟨a,0,none⟩=false/\w.frozen? ⟨a,1,none⟩=false/\w.frozen? ⟨a,2,none⟩=false)/\w.cell? ⟨a,0,none⟩=some x/\w.cell? ⟨a,1,none⟩=some y/\w.cell? ⟨a,2,none⟩=some z:=⟨⟨h.frozen 0,h.frozen 1,h.frozen 2⟩,h.cell 0,h.cell 1,h.cell 2⟩
def ZGl(fn:Func)(a:Act)(b:Nat)(x y z:Value)(ok:Bool):Prop:=∀W:World,W.cell? ⟨b,0,none⟩=some x->W.cell? ⟨b,1,none⟩=some y->W.cell? ⟨b,2,none⟩=some z->(results fn a.tmps).run prog W=.ok (.tuple #[.agg #[x,y,z],.bool ok]) W
theorem ZGn{v:World}{x y z p:Value}{t:TypeId}{a:Act}(c:ZGl fn a w.heap.size x y z true)(hd:a.defers=[])(d:BAt v w.heap.size [p,q,u] t)(f:BW w v)(g:r=some k)(h:∀W,v.grownBy W (some w.heap.size)->ZdG W k (.agg #[x,y,z])) :
  bodyPost prog fn (fun e b=>∃v ok,e=.returned (.tuple #[v,.bool ok])/\Hid (SelR b r v ok)/\BW w b) .ret a (set3 v w.heap.size x y z):=by
 obtain⟨_,s0,s1,s2⟩:=(Zcr d (x:=x) (y:=y) (z:=z)).three;exact bodyPost_ret (c _ s0 s1 s2) hd ⟨_,_,rfl,hid (SelR.mkSome g ⟨rfl,h _ (ZfC _ _ _ _ _)⟩),ZdC f (Yac _) _ _ _⟩
theorem ZGk{v:World}{p:Value}{t:TypeId}{a:Act}(c:ZGl fn a w.heap.size (.string ⟨#[]⟩) S0 (Vi 0) false)(hd:a.defers=[])(d:BAt v w.heap.size [p,q,u] t)(f:BW w v)(g:r=none) :
  bodyPost prog fn (fun e b=>∃v ok,e=.returned (.tuple #[v,.bool ok])/\Hid (SelR b r v ok)/\BW w b) .ret a (set3 v w.heap.size (.string ⟨#[]⟩) S0 (Vi 0)):=by
 obtain⟨_,s0,s1,s2⟩:=(Zcr d (x:=.string ⟨#[]⟩) (y:=S0) (z:=Vi 0)).three;exact bodyPost_ret (c _ s0 s1 s2) hd ⟨_,_,rfl,hid (SelR.mkNone g ⟨rfl,rfl⟩),ZdC f (Yac _) _ _ _⟩
theorem ZGm{v:World}{p:Value}{t:TypeId}{a:Act}{o:Obj}(d:ZGl fn a w.heap.size (.string ⟨#[]⟩) S0 (Vi 0) false)(hd:a.defers=[])(f:BAt v w.heap.size [p,q,u] t)(g:BW w v)(h:r=none) :
  bodyPost prog fn (fun e b=>∃v ok,e=.returned (.tuple #[v,.bool ok])/\Hid (SelR b r v ok)/\BW w b) .ret a ((set3 v w.heap.size (.string ⟨#[]⟩) S0 (Vi 0)).alloc o):=by
 obtain⟨_,s0,s1,s2⟩:=((Zcr f (x:=.string ⟨#[]⟩) (y:=S0) (z:=Vi 0)).below ((Yaf _ _).alloc (Yac _) o)).three;have c:=ZdC g (Yac _) (.string ⟨#[]⟩) S0 (Vi 0);exact bodyPost_ret (d _ s0 s1 s2) hd ⟨_,_,rfl,hid (SelR.mkNone h ⟨rfl,rfl⟩),c.alloc c.size _⟩
theorem ZBd(s:BA)(A:Nat->Addr)(m:Int)(w:World)(hs:s.size<=70000)(hv:Vars w A m)(ht:ZR w)(hB:20<=w.heap.size) :
  CP 197 #[.string s] w fun e w'=>∃v ok,e=.returned (.tuple #[v,.bool ok])/\Hid (SelR w' (ZbA (bl s)) v ok)/\BW w w':=by
 have HV:=hid hv;have HT:=hid ht;have b2:=hid hB;clear hv ht hB;go_enter func197,ntmps197
 go_wp2_with fail
 refine Zm fun W hW=>?_;have c2:BW w W:=by rw[hW];exact Zbal
 have V:=hid c2;have b3:Hid (BAt W w.heap.size [.string ⟨#[]⟩,S0,Vi 0] 294):=hid (by rw[hW];exact Go.Deep.blk_alloc_new _ _);clear hW c2;cases hcut:LS.cut 91 (bl s)with
 | none=>
  refine(ZoF m W hs (HV.below V.out).max hcut).mono ?_;rintro e L ⟨a,b,rfl,J,nd,a0⟩;have M:BW W L:=by rw[a0];exact ZiX _ _ _
  have B:Hid (BW w L):=hid (V.trans (M.mono V.size));have k:=hid (b3.below M);have h:Hid (ZbA (bl s)=(selQ (bl a)).map fun z=>(z,0)):=hid (by rw[ZAH hcut,J.1]);have b4:a.size<=70000:=by rw[ZU J.1,Zd];exact hs
  clear M a0 hcut J b3
  go_wp2_with fail
  have a1:=hid ((HV.below B.out).sentsV);refine(Ziu a L Om a1.out).mono ?_;rintro e Y ⟨pv,v,rfl,g,N⟩;have d:Hid (BW w Y):=hid (B.trans (N.mono B.size));have c:=hid (k.below N);have c3:=c.lt;clear N k B a1;have f:=c.three;cases p:ZD (bl a)with
  | error x=>
   have j:Hid (ZbA (bl s)=none):=hid (by rw[h.out,Zr4 p];rfl);obtain⟨ty,u,rfl⟩:=RdIs.jm p g.out;clear g p h;go_wp2;exact ZGk (fun W s0 s1 s2=>by simp[results,results197,go_sem,s0,s1,s2]) rfl c.out d.out j.out
  | ok t=>
   rw[p]at g;obtain⟨rfl,a2⟩:=g.out;obtain⟨O,F,P⟩:=ZrM p;cases t with
   | nil=>cases F
   | node x y nd l r=>
    have Q:=hid a2;have a3:=hid (And.intro O P);rcases a2 with ⟨q,rfl⟩|⟨q,nm,la,ln,lc,rfl,h1,h2⟩|⟨q,wd,nm,la,ln,lc,rfl,_⟩|⟨q,z,rfl,_⟩|⟨q,wd,la,ln,lc,z,rfl,_⟩|⟨q,z1,z2,rfl,_⟩
    case inr.inl=>
     have G:=hid (Zr6 p q);have a4:=hid q;have b7:=hid h1;have a5:=hid h2;clear g p O F P q h1 h2
     go_wp2_with fail
     refine Zm fun Z R=>?_;have C:BW Y Z:=by rw[R];exact Zbal
     have D:Hid (BW w Z):=hid (d.trans (C.mono d.size));have a6:=hid (c.below C);have a7:Hid (BAt Z Y.heap.size [.string nm,.slice la ln lc] 281):=hid (by rw[R];exact Go.Deep.blk_alloc_new _ _);have S:=hid (Q.below C);have T:=hid (a5.below C);clear R C Q a5 f;refine(Zj6 a3.1 a3.2 Z S.out (HT.low D.out b2.out) (Yah b2.out D.size)).mono ?_;rintro e w4 ⟨tx,rfl,a8,E⟩;have b8:Hid (BW w w4):=hid (D.trans (E.mono D.size));have H:=hid (a6.below E);have a9:=hid (a7.below E);have b1:=hid (T.below E);have b0:Hid (bl tx=selS nd):=hid (by rw[a8.out,Zd7];unfold Zbv;rw[if_neg (by rw[a4.out];decide),if_pos a4.out]);clear E D a6 a7 S T a8;have d0:=a9.cell 0;have d1:=a9.cell 1;simp only[Zget]at d0 d1;have c:=H;have d:=b8;have f:=H.three;have c8:=H.lt;by_cases he:tx=a
     ·subst he;have b9:(tx.toList != tx.toList)=false:=by simp
      have c0:Hid (ZbA (bl s)=some (nd,0)):=hid (by rw[h.out,G.out,if_pos b0.symm];rfl);clear h G;go_wp2;exact ZGn (fun W s0 s1 s2=>by simp[results,results197,go_sem,s0,s1,s2]) rfl c.out d.out c0.out (fun W hg=>⟨⟨nm,la,ln,lc,nd,0⟩,rfl,rfl,b7.out,b1.kept hg H.out Dc⟩)
     ·have b9:(tx.toList == a.toList)=false:=by
       rw[beq_eq_false_iff_ne,Zbt,Zbt];intro e;exact he (ZcW e)
      have j:Hid (ZbA (bl s)=none):=hid (by rw[h.out,G.out,if_neg (by intro e;exact he (ZcW (b0.trans e)))];rfl);clear h G he;go_wp2;exact ZGk (fun W s0 s1 s2=>by simp[results,results197,go_sem,s0,s1,s2]) rfl c.out d.out j.out
    all_goals
     have j:Hid (ZbA (bl s)=none):=hid (by rw[h.out,Zr5 p Om];rfl);clear g p h O F P q Q;go_wp2;exact ZGm (fun W s0 s1 s2=>by simp[results,results197,go_sem,s0,s1,s2]) rfl c.out d.out j.out
 | some xy=>
  obtain⟨x,y⟩:=xy;refine(ZoD m W hs (HV.below V.out).max hcut).mono ?_;rintro e L ⟨a,b,rfl,J,nd,a0⟩;have M:BW W L:=by rw[a0];exact ZiX _ _ _
  have B:Hid (BW w L):=hid (V.trans (M.mono V.size));have k:=hid (b3.below M)
  have b4:a.size<=70000/\b.size<=70000:=by
   have h9:=J.out;rw[LS.cut]at hcut;cases c4:LS.seek 91 (bl s)with
   | none=>rw[c4]at hcut;cases hcut
   | some i=>
    rw[c4]at hcut;simp only[Ybf]at hcut;injection hcut with hcut;injection hcut with e1 e2;rw[ZU h9.1,ZU h9.2,<-e1,<-e2,Ya7,Ybv,Zd];omega
  have c9:=b4.2;have b4:=b4.1;have b5:=hid (ZAE hcut);clear M a0 hcut b3
  go_wp2_with fail
  refine(strings_CutSuffix b ⟨#[93]⟩ L Om).mono ?_;rintro e wq ⟨rfl,rfl⟩;have c5:Hid (bl b=y):=hid J.2;have d2:Hid (bl a=x):=hid J.1;rw[show b.data.toList=y from c5.out,show(⟨#[93]⟩:BA).data.toList=[93] from rfl];have d3:y.length<=70000:=by rw[<-c5.out,Zd];exact c9
  clear J;cases X:Lib.hasSuffix y [93]with
  | false=>
   have j:Hid (ZbA (bl s)=none):=hid (by rw[b5.out,if_neg (by rw[X];simp)])
   have U : Hid (∀ W', CP 118 #[.string ⟨(Lib.trimSuffix y [93]).toArray⟩, Vi (1000 : Nat)] W' _) := hid (fun W' => Znx ⟨(Lib.trimSuffix y [93]).toArray⟩ 1000 W' (by
     rw[<-Zd,ZbF];unfold Lib.trimSuffix;rw[X];simpa using d3) Dc Dc)
   generalize(⟨(Lib.trimSuffix y [93]).toArray⟩:BA)=dg at *
   have c:=k;have d:=B;have c3:=k.lt;have f:=k.three;clear b5 X
   go_wp2_with fail
   refine(U.out _).mono ?_;rintro e c6 ⟨rfl,rfl⟩;have b6:∃(v:Int) (o:Bool),numT 1000 (bl dg)=.tuple #[Vi v,.bool o]:=⟨_,_,rfl⟩
   obtain⟨nv,no,b6⟩:=b6;rw[b6];clear b6 U;go_wp2;exact ZGk (fun W s0 s1 s2=>by simp[results,results197,go_sem,s0,s1,s2]) rfl c.out d.out j.out
  | true=>
   rw[ZDh X]
   have I:Hid (ZbA (bl s)=match ZQ 1000 y.dropLast with
    | some n=>if n=0 then none else (selQ x).map fun a=>(a,n)
    | none=>none):=hid (by rw[b5.out,if_pos X])
   have U : Hid (∀ W', CP 118 #[.string ⟨y.dropLast.toArray⟩, Vi (1000 : Nat)] W' _) := hid (fun W' => Znx ⟨y.dropLast.toArray⟩ 1000 W' (by
     rw[<-Zd,ZbF,List.length_dropLast];omega) Dc Dc)
   have d4:=k.lt;clear b5 X
   go_wp2_with fail
   refine(U.out _).mono ?_;rintro e c6 ⟨rfl,rfl⟩;rw[ZbF];cases K:ZQ 1000 y.dropLast with
   | none=>
    rw[Zgg K];have j:Hid (ZbA (bl s)=none):=hid (by rw[I.out,K]);have c:=k;have d:=B;have f:=k.three;clear K I;go_wp2;exact ZGk (fun W s0 s1 s2=>by simp[results,results197,go_sem,s0,s1,s2]) rfl c.out d.out j.out
   | some n=>
    rw[ZjO K];by_cases c1:n=0
    ·subst c1;have j:Hid (ZbA (bl s)=none):=hid (by rw[I.out,K];rfl);have c:=k;have d:=B;have f:=k.three;clear K I;go_wp2;exact ZGk (fun W s0 s1 s2=>by simp[results,results197,go_sem,s0,s1,s2]) rfl c.out d.out j.out
    ·have d5:((n:Int) == 0)=false:=by rw[beq_eq_false_iff_ne];omega
     have h:Hid (ZbA (bl s)=(selQ (bl a)).map fun z=>(z,n)):=hid (by rw[I.out,K,d2.out];simp only;rw[if_neg c1]);clear K I c1 U;obtain⟨L,c7⟩:∃L,L=c6:=⟨_,rfl⟩
     subst c7
     go_wp2_with fail
     have a1:=hid ((HV.below B.out).sentsV);refine(Ziu a L Om a1.out).mono ?_;rintro e Y ⟨pv,v,rfl,g,N⟩;have d:Hid (BW w Y):=hid (B.trans (N.mono B.size));have c:=hid (k.below N);have c3:=c.lt;clear N k B a1;have f:=c.three;cases p:ZD (bl a)with
     | error x=>
      have j:Hid (ZbA (bl s)=none):=hid (by rw[h.out,Zr4 p];rfl);obtain⟨ty,u,rfl⟩:=RdIs.jm p g.out;clear g p h;go_wp2;exact ZGk (fun W s0 s1 s2=>by simp[results,results197,go_sem,s0,s1,s2]) rfl c.out d.out j.out
     | ok t=>
      rw[p]at g;obtain⟨rfl,a2⟩:=g.out;obtain⟨O,F,P⟩:=ZrM p;cases t with
      | nil=>cases F
      | node x y nd l r=>
       have Q:=hid a2;have a3:=hid (And.intro O P);rcases a2 with ⟨q,rfl⟩|⟨q,nm,la,ln,lc,rfl,h1,h2⟩|⟨q,wd,nm,la,ln,lc,rfl,_⟩|⟨q,z,rfl,_⟩|⟨q,wd,la,ln,lc,z,rfl,_⟩|⟨q,z1,z2,rfl,_⟩
       case inr.inl=>
        have G:=hid (Zr6 p q);have a4:=hid q;have b7:=hid h1;have a5:=hid h2;clear g p O F P q h1 h2
        go_wp2_with fail
        refine Zm fun Z R=>?_;have C:BW Y Z:=by rw[R];exact Zbal
        have D:Hid (BW w Z):=hid (d.trans (C.mono d.size));have a6:=hid (c.below C);have a7:Hid (BAt Z Y.heap.size [.string nm,.slice la ln lc] 281):=hid (by rw[R];exact Go.Deep.blk_alloc_new _ _);have S:=hid (Q.below C);have T:=hid (a5.below C);clear R C Q a5 f;refine(Zj6 a3.1 a3.2 Z S.out (HT.low D.out b2.out) (Yah b2.out D.size)).mono ?_;rintro e w4 ⟨tx,rfl,a8,E⟩;have b8:Hid (BW w w4):=hid (D.trans (E.mono D.size));have H:=hid (a6.below E);have a9:=hid (a7.below E);have b1:=hid (T.below E);have b0:Hid (bl tx=selS nd):=hid (by rw[a8.out,Zd7];unfold Zbv;rw[if_neg (by rw[a4.out];decide),if_pos a4.out]);clear E D a6 a7 S T a8;have d0:=a9.cell 0;have d1:=a9.cell 1;simp only[Zget]at d0 d1;have c:=H;have d:=b8;have f:=H.three;have c8:=H.lt;by_cases he:tx=a
        ·subst he;have b9:(tx.toList != tx.toList)=false:=by simp
         have c0:Hid (ZbA (bl s)=some (nd,n)):=hid (by rw[h.out,G.out,if_pos b0.symm];rfl);clear h G;go_wp2;exact ZGn (fun W s0 s1 s2=>by simp[results,results197,go_sem,s0,s1,s2]) rfl c.out d.out c0.out (fun W hg=>⟨⟨nm,la,ln,lc,nd,n⟩,rfl,rfl,b7.out,b1.kept hg H.out Dc⟩)
        ·have b9:(tx.toList == a.toList)=false:=by
          rw[beq_eq_false_iff_ne,Zbt,Zbt];intro e;exact he (ZcW e)
         have j:Hid (ZbA (bl s)=none):=hid (by rw[h.out,G.out,if_neg (by intro e;exact he (ZcW (b0.trans e)))];rfl);clear h G he;go_wp2;exact ZGk (fun W s0 s1 s2=>by simp[results,results197,go_sem,s0,s1,s2]) rfl c.out d.out j.out
       all_goals
        have j:Hid (ZbA (bl s)=none):=hid (by rw[h.out,Zr5 p Om];rfl);clear g p h O F P q Q;go_wp2;exact ZGm (fun W s0 s1 s2=>by simp[results,results197,go_sem,s0,s1,s2]) rfl c.out d.out j.out
end
section
theorem Zkl{x:LB×Nat}(h:ZcH l p=.ok x):x.1.length<65536/\x.2<=l.length:=by
 unfold ZcH at h;cases a:Zbr l p 2 with
 | error e=>rw[a]at h;cases h
 | ok y=>
  rw[a]at h;simp only at h;obtain⟨c,d,f⟩:=Zhh h;have b:=(Zev a).2.2.2;have b:y.1<65536:=b;exact⟨by rw[d,Zki c];exact b,by omega⟩
theorem ZdG.jw(h:ZdG w a v){c:List Value}{t:TypeId}(d:BAt w b c t)(e:w.grownBy w' (some b))(f:t≠379):ZdG w' a v:=by
 obtain⟨x,g,i,j⟩:=h;exact⟨x,g,i,j.jw d e f⟩
theorem ZdG.below(h:ZdG w a v)(b:BW w w'):ZdG w' a v:=by
 obtain⟨x,c,d,e⟩:=h;exact⟨x,c,d,e.below b⟩
structure Ground (w0:World) (A:Nat->Addr) (m:Int) (b:Nat):Prop where
 v:Vars w0 A m
 t:ZR w0
 n:20<=w0.heap.size
 b:w0.heap.size<=b
theorem Ground.code(h:Ground w0 A m b)(a:BW w0 w):Zc5 w (A 8):=(h.v.below a).sent _ Dc
theorem Ground.ng(h:Ground w0 A m b):20<=b:=Yah h.n h.b
theorem ZBz(s:BA)(b:Nat)(A:Nat->Addr)(m:Int)(w0:World)(P:Ground w0 A m b)(hs:s.size<=maxLen) :
  OneC 139 ZdG Zfc w0 b s (A 8) (pickAt (bl s)):=by
 intro p w h0 Q hp;have b5:=Q.lt;have d:=hid P;have T:Hid (∀w,BW w0 w->RdAt w b s p->CP 196 #[Vp b] w _):=hid (fun w h1 h2=>ZrS s p b w h2 (P.code h1) P.ng hp hs);have R:=hid h0;have a6:=hid Q;have c1:w.cell? ⟨b,1,none⟩=some (Vi p):=Q.cell 1;clear Q h0 P hs;go_enter func139,ntmps139
 go_wp2_with fail
 refine Zm fun W hW=>?_;have I:BW w W:=by rw[hW];exact Zbal
 have U:Hid (BAt W w.heap.size [.string ⟨#[]⟩,S0,Vi 0] 294):=hid (by rw[hW];exact Go.Deep.blk_alloc_new _ _);have J:Hid (w.grownBy W (some b)):=hid (Zw I);have V:Hid (BW w0 W):=hid (ZbV R.out J.out d.b);have X:=hid (a6.below I);clear hW I c1;refine(T.out W V.out X.out).mono ?_;rintro e G ⟨v,err,rfl,H,K⟩;have l:Hid (w.grownBy G (some b)):=hid (Zj J.out K);have c:=hid (U.grown K (by intro e;injection e with e;omega));have o:Hid (BW w0 G):=hid (ZbV R.out l.out d.b);clear K J U V X T;cases k:ZcH (bl s) p with
 | error x=>
  obtain⟨fa,rfl⟩:=H.jm k;have L:Hid (RdC ZdG Zfc G b s (A 8) (pickAt (bl s) p) (.agg #[.string ⟨#[]⟩,S0,Vi 0]) (.iface 115 (Vp fa))):=hid (H.kw k (by unfold pickAt;rw[k]) rfl);obtain⟨_,_,rfl,_⟩:=H.err k;clear H k;have f0:=c.frozen 0;have f1:=c.frozen 1;have f2:=c.frozen 2;have c0:=c.cell 0;have c1:=c.cell 1;have c2:=c.cell 2;simp only[Zget]at c0 c1 c2;go_wp2;exact ret3 (r:=.tuple #[.agg #[.string ⟨#[]⟩,S0,Vi 0],.iface 115 (Vp fa)]) (fun W s0 s1 s2=>by simp[results,results139,go_sem,s0,s1,s2]) rfl c.out ⟨_,_,rfl,L.kept (ZfC G w.heap.size (.string ⟨#[]⟩) S0 (Vi 0)) c.out Dc Dc (fun _ h=>h.jw c.out (ZfC G w.heap.size (.string ⟨#[]⟩) S0 (Vi 0)) Dc),Ze4 l.out (Yac _) (.string ⟨#[]⟩) S0 (Vi 0)⟩
 | ok x=>
  obtain⟨t,q⟩:=x;obtain⟨rfl,⟨tx,rfl,u⟩,hq⟩:=H.ok k;have a7:=(Zkl k).1;simp only at hq a7 u;have a8:tx.size<=70000:=by rw[ZU u];omega
  have Y:=hid hq
  have B:Hid (pickAt (bl s) p=match ZbA (bl tx)with
   | none=>.error (9,p)
   | some y=>.ok (y,q)):=hid (by unfold pickAt;rw[k,u];simp only;cases ZbA t <;> rfl)
  clear H k hq u
  go_wp2_with fail
  refine(ZBd tx A m G a8 (d.v.below o.out) (d.t.low o.out d.n) (Yah d.n o.size)).mono ?_;rintro e g ⟨v,ok,rfl,i,C⟩;have D:Hid (w.grownBy g (some b)):=hid (ZeT l.out C);have a:=hid (c.below C);have a9:Hid (BW w0 g):=hid (ZbV R.out D.out d.b);have M:=hid (Y.below C);have b6:=a.lt;clear C c l o Y;cases j:ZbA (bl tx)with
  | none=>
   rw[j]at i;obtain⟨rfl,rfl⟩:=i.out;have N:Hid (pickAt (bl s) p=.error (9,p)):=hid (by rw[B.out,j]);clear i j B
   go_wp2_with fail
   refine Zm fun W3 Z=>?_;have E:BW g W3:=by rw[Z];exact Zbal
   have O:Hid (w.grownBy W3 (some b)):=hid (ZeT D.out E);have a0:=hid (a.below E);have a1:Hid (BW w0 W3):=hid (ZbV R.out O.out d.b);have a2:=hid (M.below E);clear Z E D a a9 M;refine(ZfX _ (d.code a1.out)).mono ?_;rintro e S ⟨v,rfl,hv,F⟩;have L:Hid (RdC ZdG Zfc S b s (A 8) (pickAt (bl s) p) (.agg #[.string ⟨#[]⟩,S0,Vi 0]) v):=hid (RdC.kj N.out ⟨rfl,hv.out,rfl,_,a2.below F⟩);have b0:Hid (w.grownBy S (some b)):=hid (ZeT O.out F);have f:=hid (a0.below F);obtain⟨fa,rfl⟩:=ZM.shape hv.out;clear hv F a0 O a1 a2;have f0:=f.frozen 0;have f1:=f.frozen 1;have f2:=f.frozen 2;have c0:=f.cell 0;have c1:=f.cell 1;have c2:=f.cell 2;simp only[Zget]at c0 c1 c2;go_wp2;exact ret3 (r:=.tuple #[.agg #[.string ⟨#[]⟩,S0,Vi 0],.iface 115 (Vp fa)]) (fun W s0 s1 s2=>by simp[results,results139,go_sem,s0,s1,s2]) rfl f.out ⟨_,_,rfl,L.kept (ZfC S w.heap.size (.string ⟨#[]⟩) S0 (Vi 0)) f.out Dc Dc (fun _ h=>h.jw f.out (ZfC S w.heap.size (.string ⟨#[]⟩) S0 (Vi 0)) Dc),Ze4 b0.out (Yac _) (.string ⟨#[]⟩) S0 (Vi 0)⟩
  | some y=>
   rw[j]at i;obtain⟨rfl,a3⟩:=i.out;have a4:=hid a3;obtain⟨z,rfl,b1,b2⟩:=a3;have N:Hid (pickAt (bl s) p=.ok (y,q)):=hid (by rw[B.out,j]);have L:Hid (RdC ZdG Zfc g b s (A 8) (pickAt (bl s) p) (.agg #[.string z.nm,.slice z.la z.ln z.lc,Vi z.n]) .nilIface):=hid (RdC.mkOk N.out ⟨rfl,a4.out,M.out⟩);clear i j B b1 b2 a4;have f0:=a.frozen 0;have f1:=a.frozen 1;have f2:=a.frozen 2;have c0:=a.cell 0;have c1:=a.cell 1;have c2:=a.cell 2;simp only[Zget]at c0 c1 c2;go_wp2;change bodyPost _ _ _ _ _ ((set3 g w.heap.size (.string z.nm) (.slice z.la z.ln z.lc) (Vi z.n)).alloc (.cells #[.string z.nm,.slice z.la z.ln z.lc,Vi z.n] 294));have st:=(Zcr a.out (x:=.string z.nm) (y:=.slice z.la z.ln z.lc) (z:=Vi z.n)).below ((Yaf _ _).alloc (Yac _) (.cells #[.string z.nm,.slice z.la z.ln z.lc,Vi z.n] 294));have s0:=st.cell 0;have s1:=st.cell 1;have s2:=st.cell 2;simp only[Zget]at s0 s1 s2;have a5:=hid (L.kept (ZfC g w.heap.size (.string z.nm) (.slice z.la z.ln z.lc) (Vi z.n)) a.out Dc Dc (fun _ h=>h.jw a.out (ZfC g w.heap.size (.string z.nm) (.slice z.la z.ln z.lc) (Vi z.n)) Dc));obtain⟨g1,g2,g3⟩:=a5.ok N.out;have b3:Hid (RdC ZdG Zfc ((set3 g w.heap.size (.string z.nm) (.slice z.la z.ln z.lc) (Vi z.n)).alloc (.cells #[.string z.nm,.slice z.la z.ln z.lc,Vi z.n] 294)) b s (A 8) (pickAt (bl s) p) (.agg #[.string z.nm,.slice z.la z.ln z.lc,Vi z.n]) .nilIface):=hid (RdC.mkOk N.out ⟨rfl,g2.below Zbal,g3.below Zbal⟩);have b4:=hid (ZbR (Ze4 D.out (Yac _) (.string z.nm) (.slice z.la z.ln z.lc) (Vi z.n)) (.cells #[.string z.nm,.slice z.la z.ln z.lc,Vi z.n] 294));clear g1 g2 g3 a5;generalize(set3 g w.heap.size (.string z.nm) (.slice z.la z.ln z.lc) (Vi z.n)).alloc (.cells #[.string z.nm,.slice z.la z.ln z.lc,Vi z.n] 294)=WX at *
   exact bodyPost_ret (v:=.tuple #[.agg #[.string z.nm,.slice z.la z.ln z.lc,Vi z.n],.nilIface]) (by simp[results,results139,go_sem,s0,s1,s2]) rfl ⟨_,_,rfl,b3,b4.out⟩
theorem Zjy(x y:LB):decide (x<=y)=!Op.bytesLess y x:=by
 rw[bytesLess_eq,Ybh,decide_eq_true_iff,Ycr,decide_eq_false_iff_not];exact Iff.rfl
theorem ZCy (ss : List (LB)) : (ss.mergeSort fun x y => decide (x <= y)).Pairwise fun a b => Op.bytesLess b a = false := by
  have h := List.pairwise_mergeSort (le := fun (x y : LB) => decide (x <= y)) (by
    intro a b c d i;rw[Zjy,Ycr]at *
    cases h:Op.bytesLess c a with
    | false=>rfl
    | true=>
      cases f:Op.bytesLess b c with
      | true=>rw[Zdv _ _ _ f h]at d;cases d
      | false=>
        have e:=Zdh _ _ f i;rw[e,h]at d;cases d) (by
    intro a b;rw[Zjy,Zjy];cases h:Op.bytesLess b a with
    | false=>rfl
    | true=>
      cases f:Op.bytesLess a b with
      | false=>rfl
      | true=>have:=Zdv _ _ _ h f;rw[ZcL]at this;cases this) ss
  refine h.imp (fun {a b} g=>?_);rw[Zjy,Ycr]at g;exact g
theorem ZoW(bs:List BA):Zbc bs=(bs.map bl).map encStr:=by
 unfold Zbc;rw[Yb1];refine List.map_congr_left (fun b _=>?_);cases b with
 | mk d=>simp[encStr,bl]
theorem ZCz {l : List (LB)} (e : l.Pairwise fun a b => Op.bytesLess b a = false) (h : ∀ k, k + 1 < l.length -> l[k]? ≠ l[k + 1]?) : l.Nodup := by
  induction l with
  | nil=>exact List.nodup_nil
  | cons a l ih=>
    rw[Ybg]at e;rw[List.nodup_cons];refine⟨fun f=>?_,ih e.2 (fun k g=>by have:=h (k+1) (by simpa using g);simpa using this)⟩;cases l with
    | nil=>cases f
    | cons c r=>
      have d:=h 0 (by simp);simp only[Zget,Ycf]at d;rcases Yau.1 f with rfl|f
      · exact d rfl
      · have i:=(Ybg.1 e.2).1 a f
        have j:=e.1 c (by simp);exact d (by rw[Zdh _ _ i j])
theorem ZwD{ms:List (LB)}(f:t≠[])(a:ms.Perm (split 44 t)):ZcG t=if ms.all Zx=true/\ms.Nodup then some (split 44 t)else none:=by
 unfold ZcG;rw[if_neg f]
 have c:(split 44 t).all Zx=true ↔ ms.all Zx=true:=by
  rw[Ybu,Ybu];exact⟨fun h x b=>h x (a.mem_iff.1 b),fun h x b=>h x (a.mem_iff.2 b)⟩
 have d:(split 44 t).Nodup ↔ ms.Nodup:=a.nodup_iff.symm;by_cases e:ms.all Zx=true/\ms.Nodup
 ·rw[if_pos e,if_pos ⟨c.2 e.1,d.2 e.2⟩]
 ·rw[if_neg e,if_neg (fun h=>e ⟨c.1 h.1,d.1 h.2⟩)]
def GrpR(w:World)(r:Option (List (LB)))(v:Value)(ok:Bool):Prop:=match r with
 | some a=>ok=true/\ZfM w a v
 | none=>ok=false/\RowZ v
theorem GrpR.mkNone{r:Option (List (LB))}(a:r=none)(h:ok=false/\RowZ v):GrpR w r v ok:=by subst a;exact h
theorem GrpR.mkSome{r:Option (List (LB))}{a:List (LB)}(b:r=some a)(h:ok=true/\ZfM w a v):GrpR w r v ok:=by subst b;exact h
theorem ZBc(s:BA)(A:Nat->Addr)(m:Int)(w:World)(hs:s.size<=70000)(hv:Vars w A m) :
  CP 198 #[.string s] w fun e u=>∃v ok,e=.returned (.tuple #[v,.bool ok])/\Hid (GrpR u (ZcG (bl s)) v ok)/\BW w u:=by
 have HM:=hid hv.max;clear hv;by_cases h0:s.size=0
 ·have o:s.toList.isEmpty=true:=ZoT Om;have HQ:Hid (ZcG (bl s)=some []):=hid (by unfold ZcG;rw[if_pos (ZgW o)]);go_enter func198,ntmps198;go_wp2;go_ret2;exact⟨_,_,rfl,hid (GrpR.mkSome HQ.out ⟨rfl,⟨none,0,0,[]⟩,rfl,rfl,[],Ybc _ _ _ _,List.Pairwise.nil,fun y=>Iff.rfl,by simp⟩),Yaf _ _⟩
 ·have o:s.toList.isEmpty=false:=Zrh Om;have T:=Zij o;have U:Hid (CP 42 #[.string s,.string ⟨#[44]⟩] w _):=hid (strings_Split s ⟨#[44]⟩ m w Om HM.out (Yac 1));have hd:(Lib.splitB ⟨#[44]⟩ 0 (Lib.countB s ⟨#[44]⟩) s).map bl=split 44 (bl s):=(Lib.splitB_data ⟨#[44]⟩ 0 (Lib.countB s ⟨#[44]⟩) s).trans (Zsq 44 _ (bl s) (Yac _));have E:(Lib.splitB ⟨#[44]⟩ 0 (Lib.countB s ⟨#[44]⟩) s).length=Lib.countB s ⟨#[44]⟩+1:=Lib.splitB_all ⟨#[44]⟩ (Yac 1) 0 _ s rfl;go_enter func198,ntmps198
  go_wp2_with fail
  refine U.mono ?_;rintro e F ⟨rfl,q⟩;obtain⟨bs,V⟩:∃bs,bs=Lib.splitB ⟨#[44]⟩ 0 (Lib.countB s ⟨#[44]⟩) s:=⟨_,rfl⟩
  rw[<-V]at hd E q;have a1:(split 44 (bl s)).length<=s.size+1:=by have:=Zhd 44 (bl s);rwa [Zd]at this
  have a2:bs.length=(split 44 (bl s)).length:=by rw[<-hd,Yak]
  obtain⟨N,hN⟩:∃N,N=Lib.countB s ⟨#[44]⟩+1:=⟨_,rfl⟩
  rw[<-hN]at E ⊢;have b2:N<=70001:=by omega
  have b3:1<=N:=by omega
  obtain⟨ss,r⟩:∃ss,ss=bs.map bl:=⟨_,rfl⟩
  have c:ss.length=N:=by rw[r,Yak,E]
  have W:BW w F:=by rw[q];exact Zbal
  have P:F.heap[w.heap.size]?=some (.cells (bs.map Value.string).toArray 9 (0,0)):=by rw[q];exact Go.Deep.blk_alloc_new _ _
  have a3:w.heap.size<F.heap.size:=(Yae.1 P).1;have G:bs.map Value.string=ss.map encStr:=by rw[r];exact ZoW bs
  have hH:Sort.Holds encStr F w.heap.size 0 ss.toArray:=holds_of_block P (by rw[G,c];exact Ya5 (by rw[Yak,c];exact Yac _));have hS:=slices_Sort_string w.heap.size 0 N ss F hH a3 Om;rw[c]at hS;have HS:=hid hS;have H:=hid W;have HH:=hid P;have I:Hid (ss=split 44 (bl s)):=hid (by rw[r];exact hd);have J:Hid (bs.length=N):=hid E;have a4:=hid T;clear hS hH P W q V hd E a1 a2 r G U T o HM hN
  go_wp2_with (go_at_call 217;refine HS.mono ?_;rintro e z ⟨rfl,nn,os,g⟩;have X:=hid g;clear g)
  have g:=X.out;clear X;obtain⟨ms,t⟩:∃ms,ms=ss.mergeSort (fun x y=>decide (x<=y)):=⟨_,rfl⟩
  have p:Hid (ms.Perm ss):=hid (by rw[t];exact List.mergeSort_perm _ _);have Y:Hid (ms.Pairwise fun a b=>Op.bytesLess b a=false):=hid (by rw[t];exact ZCy ss);have a5:ms.length=N:=by rw[p.length_eq,c]
  have B:z.ownsRow w.heap.size 9 1 (.slice (some ⟨w.heap.size,0,none⟩) N N) N (ms.map encStr):=by
   have Q:=ownsRow_sorted (n:=nn) (os:=os) (cap:=N) (p.length_eq) (Yac _) HH.out (by rw[c];exact Yac _) (by unfold maxLen;omega) (by simp[J.out]);rw[c]at Q;rw[g,<-t];exact Q
  have K:Hid (BW w z):=hid (by rw[g];exact H.grown (grownBy_sorted _) H.size (fun j R=>by cases R;exact Yac _));have L:Hid (ZcG (bl s)=if ms.all Zx=true/\ms.Nodup then some (split 44 (bl s))else none):=hid (ZwD a4.out (by rw[<-I.out];exact p.out))
  have a6 : Hid (∀ k (h : k < ms.length), ms[k].length <= 70000) := hid (fun k h => by
    have d:=p.mem_iff.1 (List.getElem_mem h);rw[I.out]at d;have:=Zne 44 (bl s) _ d;rw[Zd]at this;omega)
  have Z:=hid B;have b4:=hid c;clear B g t HS HH H J c;go_wp2
  go_loop [5,16] (fun lv i=>∃(k:Nat) (last:BA),k<=N/\i=Vi k/\lv=.string last/\Hid (bl last=if k=0 then [] else ms.getD (k - 1) [])/\Hid ((ms.take k).all Zx=true)/\Hid (∀j,j+1<k->ms[j]?≠ms[j+1]?)) (fun _ i=>N - (intOf i).toNat)
  case atStart=>exact⟨0,⟨#[]⟩,Yag _,rfl,rfl,hid rfl,hid rfl,hid (fun j R=>by omega)⟩
  case round=>
   obtain⟨k,last,hk,rfl,rfl,HL,HA,HD⟩:=hrel;by_cases b5:k<N
   ·have f:k<ms.length:=by omega
    have b6:(k:Int)<N:=by omega
    obtain⟨x,hx⟩:∃x:BA,x=⟨ms[k].toArray⟩:=⟨_,rfl⟩
    have D:Hid (bl x=ms[k]):=hid (by rw[hx,ZbF]);have d0:z.cell? ⟨w.heap.size,k,none⟩=some (.string x):=Zi Z.out k _ (by rw[hx,Ya2,List.getElem?_eq_getElem f];rfl);have M:x.size<=70000:=by rw[ZU D.out];exact a6.out k f
    clear hx;cases S:Zx (bl x)with
    | false=>
     have O:Hid (ZcG (bl s)=none):=hid (by
      rw[L.out,if_neg];rintro⟨h,_⟩;have:=Ybu.1 h ms[k] (List.getElem_mem f);rw[<-D.out,S]at this;cases this)
     go_wp2_with (go_at_call 120;refine(Zkt x _ M).mono ?_;rintro e u ⟨rfl,rfl⟩)
     go_ret2;exact⟨_,_,rfl,hid (GrpR.mkNone O.out ⟨rfl,rfl⟩),K.out⟩
    | true=>
     by_cases o:x=last
     ·subst o;have a7:(x.toList == x.toList)=true:=by simp
      have a0:k≠0:=by
       intro e;subst e;have d:=HL.out;rw[if_pos rfl]at d;rw[d]at S;exact absurd S Dc
      have O:Hid (ZcG (bl s)=none):=hid (by
       rw[L.out,if_neg];rintro⟨_,h⟩;have d:=HL.out;rw[if_neg a0,D.out,Yaa,List.getElem?_eq_getElem Om,Ya6]at d;have:=(List.pairwise_iff_getElem.1 h) (k - 1) k Om f Om;exact this d.symm)
      clear a0
      go_wp2_with (go_at_call 120;refine(Zkt x _ M).mono ?_;rintro e u ⟨rfl,rfl⟩)
      go_ret2;exact⟨_,_,rfl,hid (GrpR.mkNone O.out ⟨rfl,rfl⟩),K.out⟩
     ·have a7:(x.toList == last.toList)=false:=by
       rw[beq_eq_false_iff_ne,Zbt,Zbt];intro e;exact o (ZcW e)
      have a8:Hid ((ms.take (k+1)).all Zx=true):=hid (by
       rw[List.take_succ_eq_append_getElem f,Yfc,HA.out,<-D.out];simp[S])
      have a9 : Hid (∀ j, j + 1 < k + 1 -> ms[j]? ≠ ms[j + 1]?) := hid (fun j R => by
        by_cases e:j+1=k
        · subst e
          rw[List.getElem?_eq_getElem f,List.getElem?_eq_getElem Om,<-D.out];intro e2;injection e2 with e2;have d:=HL.out;rw[if_neg Om,Yaa,Yen,List.getElem?_eq_getElem Om,Ya6]at d;exact o (ZcW (by rw[d,e2]))
        · exact HD.out j Om)
      have b0:Hid (bl x=if k+1=0 then [] else ms.getD (k+1 - 1) []):=hid (by
       rw[if_neg Om,Yen,Yaa,List.getElem?_eq_getElem f,Ya6,D.out])
      clear o
      go_wp2_with (go_at_call 120;refine(Zkt x _ M).mono ?_;rintro e u ⟨rfl,rfl⟩)
      go_round
      case rel=>exact⟨k+1,x,by omega,by go_num,rfl,b0,a8,a9⟩
      case measure=>simp[intOf];omega
   ·obtain rfl:k=N:=by omega
    have O:Hid (ZcG (bl s)=some (split 44 (bl s))):=hid (by
     rw[L.out,if_pos];refine⟨by have:=HA.out;rwa [Ya5 Om]at this,ZCz Y.out (fun j R=>HD.out j Om)⟩)
    have C : (ms.map (fun l => (⟨l.toArray⟩ : BA))).map bl = ms := by
      rw[Yb1]
      conv=>rhs;rw[<-List.map_id ms]
      exact List.map_congr_left (fun l _=>by simp[bl])
    have b1 : Hid (ZfM z (split 44 (bl s)) (.slice (some ⟨w.heap.size, 0, none⟩) k k)) := hid ⟨⟨some ⟨w.heap.size, 0, none⟩, k, k, split 44 (bl s)⟩, rfl, rfl, ms.map (fun l => ⟨l.toArray⟩), by
      have Q:=Zgi Z.out;rw[ZoW,C,Yak,a5];exact Q,by rw[C];exact Y.out,fun y=>by rw[C,p.mem_iff,I.out],by rw[Yak];omega⟩
    clear C;go_wp2;go_ret2;exact⟨_,Or.inr ⟨rfl,hid (GrpR.mkSome O.out ⟨rfl,b1.out⟩),K.out⟩⟩
theorem ZfM.below{a:List (LB)}(h:ZfM w a v)(b:BW w w'):ZfM w' a v:=by
 obtain⟨x,c,d,e⟩:=h;exact⟨x,c,d,e.below b⟩
theorem ZBx(s:BA)(b:Nat)(A:Nat->Addr)(m:Int)(w0:World)(u:Ground w0 A m b)(O:s.size<=maxLen) :
  OneC 141 ZfM RowZ w0 b s (A 8) (groupAt (bl s)):=by
 intro p w H I X;have f:=hid u;have B:Hid (CP 196 #[Vp b] w _):=hid (ZrS s p b w I (u.code H) u.ng X O);have P:=hid H;have c1:w.cell? ⟨b,1,none⟩=some (Vi p):=I.cell 1;clear I H u O;go_enter func141,ntmps141
 go_wp2_with fail
 clear c1;refine B.mono ?_;rintro e J ⟨v,err,rfl,i,j⟩;have k:=hid j;have C:Hid (BW w0 J):=hid (ZbV P.out j f.b);clear j B;cases d:ZcH (bl s) p with
 | error x=>
  obtain⟨fa,rfl⟩:=i.jm d;have l:Hid (RdC ZfM RowZ J b s (A 8) (groupAt (bl s) p) S0 (.iface 115 (Vp fa))):=hid (i.kw d (by unfold groupAt;rw[d]) rfl);obtain⟨_,_,rfl,_⟩:=i.err d;clear i d;go_wp2;go_ret2;exact⟨_,_,rfl,l,k.out⟩
 | ok x=>
  obtain⟨t,q⟩:=x;obtain⟨rfl,⟨tx,rfl,g⟩,K⟩:=i.ok d;have Q:=(Zkl d).1;simp only at K Q g;have R:tx.size<=70000:=by rw[ZU g];omega
  have D:=hid K
  have h:Hid (groupAt (bl s) p=match ZcG (bl tx)with
   | none=>.error (9,p)
   | some y=>.ok (y,q)):=hid (by unfold groupAt;rw[d,g];simp only;cases ZcG t <;> rfl)
  clear i d K g
  go_wp2_with fail
  refine(ZBc tx A m J R (f.v.below C.out)).mono ?_;rintro e L ⟨v,ok,rfl,a,n⟩;have o:Hid (w.grownBy L (some b)):=hid (ZeT k.out n);have S:Hid (BW w0 L):=hid (ZbV P.out o.out f.b);have E:=hid (D.below n);clear n k C D;cases c:ZcG (bl tx)with
  | none=>
   rw[c]at a;obtain⟨rfl,rfl⟩:=a.out;have M:Hid (groupAt (bl s) p=.error (9,p)):=hid (by rw[h.out,c]);clear a c h
   go_wp2_with fail
   refine(ZfX _ (f.code S.out)).mono ?_;rintro e T ⟨v,rfl,N,r⟩;have l:Hid (RdC ZfM RowZ T b s (A 8) (groupAt (bl s) p) S0 v):=hid (RdC.kj M.out ⟨rfl,N.out,rfl,_,E.below r⟩);have U:Hid (w.grownBy T (some b)):=hid (ZeT o.out r);obtain⟨fa,rfl⟩:=ZM.shape N.out;clear N r;go_wp2;go_ret2;exact⟨_,_,rfl,l,U.out⟩
  | some y=>
   rw[c]at a;obtain⟨rfl,F⟩:=a.out;have G:=hid F;obtain⟨z,rfl,V,W⟩:=F;have M:Hid (groupAt (bl s) p=.ok (y,q)):=hid (by rw[h.out,c]);have l:Hid (RdC ZfM RowZ L b s (A 8) (groupAt (bl s) p) (.slice z.la z.ln z.lc) .nilIface):=hid (RdC.mkOk M.out ⟨rfl,G.out,E.out⟩);clear a c h V W G;go_wp2;go_ret2;exact⟨_,_,rfl,l,o.out⟩
theorem ZzE(a:Ground w0 A m b)(c:s.size<=maxLen):OneC 137 KV NZ w0 b s (A 8) (ZbW (bl s)):=
 fun p w d e f=>ZBb s p b w e (a.code d) a.ng f c
theorem ZzF(a:Ground w0 A m b)(c:s.size<=maxLen):OneC 143 IV IZ w0 b s (A 8) (ZbN (bl s)):=
 fun p w d e f=>ZBy s p b w e (a.code d) a.ng f c
theorem Zle{x:Int×Nat}(h:ZbW l p=.ok x):x.2<=l.length:=by
 unfold ZbW at h;cases a:Zbr l p 4 with
 | error e=>rw[a]at h;cases h
 | ok y=>
  rw[a]at h;simp only at h;split at h
  ·cases h
  ·injection h with h;subst h;have:=Zev a;omega
theorem ZlQ{x:(Nat×Nat)×Nat}(h:ZbN l p=.ok x):x.2<=l.length/\x.1.1<=13/\x.1.2<65536:=by
 unfold ZbN at h;cases b:Zbr l p 1 with
 | error e=>rw[b]at h;cases h
 | ok y=>
  rw[b]at h;simp only at h;split at h
  ·cases h
  ·rename_i f;cases a:Zbr l y.2 2 with
   | error e=>rw[a]at h;cases h
   | ok z=>
    rw[a]at h;injection h with h;subst h;have c:=Zev a;have d:z.1<256 ^ 2:=c.2.2.2;exact⟨by show z.2<=_;omega,by show y.1<=13;omega,d⟩
theorem ZmL{x:(Nd×Nat)×Nat}(h:pickAt l p=.ok x):x.2<=l.length:=by
 unfold pickAt at h;cases a:ZcH l p with
 | error e=>rw[a]at h;cases h
 | ok y=>
  rw[a]at h;simp only at h;cases b:ZbA y.1 with
  | none=>rw[b]at h;cases h
  | some z=>rw[b]at h;injection h with h;subst h;exact(Zkl a).2
theorem ZlE{x:List (LB)×Nat}(h:groupAt l p=.ok x):x.2<=l.length:=by
 unfold groupAt at h;cases a:ZcH l p with
 | error e=>rw[a]at h;cases h
 | ok y=>
  rw[a]at h;simp only at h;cases b:ZcG y.1 with
  | none=>rw[b]at h;cases h
  | some z=>rw[b]at h;injection h with h;subst h;exact(Zkl a).2
