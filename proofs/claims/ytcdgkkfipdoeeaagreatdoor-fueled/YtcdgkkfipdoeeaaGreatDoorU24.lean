/- Parts. -/
import Derived.Test.YtcdgkkfipdoeeaaGreatDoorU10
import Derived.Test.YtcdgkkfipdoeeaaGreatDoorU18
import Derived.Test.YtcdgkkfipdoeeaaGreatDoorU23
import Derived.Sort.OwnSorted
set_option linter.all false
set_option maxRecDepth 100000
set_option maxHeartbeats 16000000
namespace Go.Proofs.YtcdgkkfipdoeeaaGreatDoor
open Go.RowKit LS Go.Proofs.Tryz
variable {s:BA}{ok:Bool}{m:Int}{l t y:LB}{b p:Nat}{A:Nat->Addr}{x:Nat×Nat}{a:Nd×Nat}{r:Option (List (LB))}{v:Value}{w w' w0:World}
section
attribute [local go_sem] ZiT ZiS ZiU ZiR ZiV ZgD
theorem ZrM{t:Tr}(h:ZD l=.ok t):wfT t/\isNil t=false/\wT t<=100000:=by
 unfold ZD at h;by_cases d:300<l.length
 ·rw[if_pos d]at h;cases h
 ·rw[if_neg d]at h;have j:=ZjB l (l.length+1) 0 (Nat.zero_le _);have k:=ZjC l Om (l.length+1) 0;cases a:Zs (10*(ZN l (l.length+1) 0).length+5) false 0 .nil (ZN l (l.length+1) 0) 0 with
  | error e=>rw[a]at h;cases h
  | ok z=>
   obtain⟨t',r⟩:=z;rw[a]at h;have c:=Zfv _ _ _ _ _ _ _ (fun e=>by cases e) a;simp only at h;by_cases f:(hd r).jk=0
   ·rw[if_pos f]at h;by_cases g:Zf t'=0
    ·rw[if_pos g]at h;cases h
    ·rw[if_neg g]at h;injection h with h;subst h;refine⟨c.1,c.2.1,?_⟩;have i:=c.2.2;rw[if_neg Dc]at i;simp only at i;omega
   ·rw[if_neg f]at h;cases h
theorem Vars.sentsV(h:Vars w A m):Sents w (A 0) (A 1) (A 2) (A 3):=
 ⟨h.sent _ Dc,h.sent _ Dc,h.sent _ Dc,h.sent _ Dc⟩
theorem RdIs.kq{lg sy dp tp:Addr}{r:Except (Nat×Nat) Tr}{pv:Value}(c:r=.error x)(h:RdIs w lg sy dp tp r pv v):∃ty u,v=.iface ty u:=by
 subst c;rcases h with ⟨_,rfl⟩|⟨_,rfl⟩|⟨_,a⟩|⟨_,a⟩
 ·exact⟨_,_,rfl⟩
 ·exact⟨_,_,rfl⟩
 ·obtain⟨fa,rfl⟩:=ZM.shape a;exact⟨_,_,rfl⟩
 ·obtain⟨fa,rfl⟩:=ZM.shape a;exact⟨_,_,rfl⟩
def SelR(w:World)(r:Option (Nd×Nat))(v:Value)(ok:Bool):Prop:=match r with
 | some a=>ok=true/\ZdG w a v
 | none=>ok=false/\Zfc v
theorem SelR.mkNone{r:Option (Nd×Nat)}(a:r=none)(h:ok=false/\Zfc v):SelR w r v ok:=by subst a;exact h
theorem SelR.mkSome{r:Option (Nd×Nat)}(c:r=some a)(h:ok=true/\ZdG w a v):SelR w r v ok:=by subst c;exact h
theorem Zr4(h:ZD l=.error x):selQ l=none:=by unfold selQ;rw[h]
theorem Zr5{x y:Nat}{a:Nd}{p q:Tr}(h:ZD l=.ok (.node x y a p q))(c:a.jk≠1):selQ l=none:=by
 unfold selQ;rw[h];simp only;rw[if_neg (fun e=>c e.1)]
theorem Zr6{x y:Nat}{a:Nd}{p q:Tr}(h:ZD l=.ok (.node x y a p q))(c:a.jk=1):selQ l=if selS a=l then some a else none:=by
 unfold selQ;rw[h];simp only;by_cases e:selS a=l
 ·rw[if_pos ⟨c,e⟩,if_pos e]
 ·rw[if_neg (fun h=>e h.2),if_neg e]
theorem ZfC(w:World)(a:Nat)(x y z:Value):w.grownBy (set3 w a x y z) (some a):=ZA (ZA (ZA (ZbM w (some a)) (.inl rfl) _) (.inl rfl) _) (.inl rfl) _
theorem ZdC{a:Nat}(h:BW w0 w)(c:w0.heap.size<=a)(x y z:Value):BW w0 (set3 w a x y z):=
 ((h.setCell c _).setCell c _).setCell c _
theorem ZCW(y:LB)(c:UInt8):Lib.hasSuffix y [c]=decide (y.getLast?=some c):=by
 rw[Bool.eq_iff_iff,decide_eq_true_iff];unfold Lib.hasSuffix;rw[List.isSuffixOf_iff_suffix];constructor
 ·rintro⟨z,rfl⟩;simp
 ·intro h;obtain⟨z,a⟩:=List.getLast?_eq_some_iff.1 h;exact⟨z,a.symm⟩
theorem ZAH  (h : LS.cut 91 t = none) : ZbA t = (selQ t).map fun a => (a, 0) := by
  have:LS.seek 91 t=none:=by
    unfold LS.cut at h;cases c:LS.seek 91 t with
    | none=>rfl
    | some i=>rw[c]at h;cases h
  unfold ZbA;rw[this]
theorem ZAE{x:LB}(h:LS.cut 91 t=some (x,y)):ZbA t=if Lib.hasSuffix y [93]=true then (match ZQ 1000 y.dropLast with
   | some n=>if n=0 then none else (selQ x).map fun a=>(a,n)
   | none=>none)else none:=by
 cases d:LS.seek 91 t with
 | none=>unfold LS.cut at h;rw[d]at h;cases h
 | some i=>
  unfold LS.cut at h;rw[d]at h;simp only[Option.map_some]at h;injection h with h;injection h with h1 h2
  have f:t.getLast?=some 93 ↔ y.getLast?=some 93:=by
   obtain⟨a,b,rfl,rfl,_⟩:=Ziv d
   have g:y=b:=by
    rw[<-h2,List.drop_append];simp
   rw[g];cases b with
   | nil=>simp
   | cons c b=>rw[List.getLast?_append,List.getLast?_cons_cons];simp
  unfold ZbA;rw[d];simp only;rw[h1,h2,ZCW];by_cases e:t.getLast?=some 93
  ·rw[if_pos e,if_pos (by simpa using f.1 e)];cases ZQ 1000 y.dropLast <;> rfl
  ·rw[if_neg e,if_neg (by simpa using fun e'=>e (f.2 e'))]
theorem ZDh{c:UInt8}(h:Lib.hasSuffix y [c]=true):Lib.trimSuffix y [c]=y.dropLast:=by
 unfold Lib.trimSuffix;rw[if_pos h,List.dropLast_eq_take];rfl
theorem ZBd(s:BA)(A:Nat->Addr)(m:Int)(w:World)(hs:s.size<=70000)(hv:Vars w A m)(ht:ZR w)(hB:20<=w.heap.size) :
  CP 183 #[.string s] w fun e w'=>∃v ok,e=.returned (.tuple #[v,.bool ok])/\Hid (SelR w' (ZbA (bl s)) v ok)/\BW w w':=by
 have HV:=hid hv;have HT:=hid ht;have b2:=hid hB;clear hv ht hB;go_enter func183,ntmps183
 go_wp2_with fail
 refine Zm fun W hW=>?_;have c6:Below _ w W:=hW▸Zbal;have X:=hid c6;have b3:Hid (BAt W _ [.string _,.slice _ 0 0,.int _ 0] 156):=hW▸Go.Deep.blk_alloc_new _ _;clear hW c6;cases h:LS.cut 91 (bl s)with
 | none=>
  refine(ZoF m W hs (HV.below X).max h).mono ?_;rintro e w1 ⟨a,b,rfl,K,nd,a0⟩;have N:BW W _:=a0▸ZiX _ _ _;have D:=hid (X.trans (N.mono X.size));have d:=hid (b3.below N);have p:Hid (ZbA _=(selQ (bl a)).map _):=hid (by rw[ZAH h,K.1]);have b4:a.size<=70000:=by rwa [ZU K.1,Zd]
  clear N a0 h K b3
  go_wp2_with fail
  have a1:=hid ((HV.below D).sentsV);refine(Ziu a _ Om a1).mono ?_;rintro e Z ⟨pv,v,rfl,k,O⟩;have f:=hid (D.trans (O.mono D.size));have c:=hid (d.below O);have c7:=c.lt;clear O d D a1;have f0:=c.frozen 0;have f1:=c.frozen 1;have f2:=c.frozen 2;have c0:=c.cell 0;have c1:=c.cell 1;have c2:=c.cell 2;simp only[Zget]at c0 c1 c2;cases B:ZD (bl a)with
  | error x=>
   have q:Hid (ZbA (bl s)=none):=by rw[p,Zr4 B];rfl
   obtain⟨ty,u,rfl⟩:=RdIs.kq B k.out;clear k B p;go_wp2;change bodyPost _ _ _ _ _ (set3 Z w.heap.size (.string ⟨#[]⟩) S0 (Vi 0));have st:=Zcr c (x:=(.string ⟨#[]⟩)) (y:=S0) (z:=(Vi 0));have s0:=st.cell 0;have s1:=st.cell 1;have s2:=st.cell 2;simp only[Zget]at s0 s1 s2;have g:=hid (ZdC f (Nat.le_refl _) (.string ⟨#[]⟩) S0 (Vi 0));generalize set3 Z w.heap.size (.string ⟨#[]⟩) S0 (Vi 0)=WX at *
   exact bodyPost_ret (by simp[results,results183,go_sem,s0,s1,s2]) rfl ⟨_,_,rfl,hid (SelR.mkNone q ⟨rfl,rfl⟩),g⟩
  | ok t=>
   rw[B]at k;obtain⟨rfl,a2⟩:=k.out;obtain⟨P,H,Q⟩:=ZrM B;cases t with
   | nil=>cases H
   | node x y nd l r=>
    have R:=hid a2;have a3:=hid (And.intro P Q);rcases a2 with ⟨C,rfl⟩|⟨C,nm,la,ln,lc,rfl,h1,h2⟩|⟨C,wd,nm,la,ln,lc,rfl,_⟩|⟨C,z,rfl,_⟩|⟨C,wd,la,ln,lc,z,rfl,_⟩|⟨C,z1,z2,rfl,_⟩
    case inr.inl=>
     have I:=hid (Zr6 B C);have a4:=hid C;have b7:=hid h1;have a5:=hid h2;clear k B P H Q C h1 h2
     go_wp2_with fail
     refine Zm fun W3 S=>?_;have E:Below _ _ _:=S▸Zbal;have F:=hid (f.trans (E.mono f.size));have a6:=hid (c.below E);have a7:Hid (BAt _ _ _ 148):=S▸Go.Deep.blk_alloc_new _ _;have T:=hid (R.below E);have U:=hid (a5.below E);clear S E R a5 c0 c1 c2 f0 f1 f2;refine(Zj6 a3.1 a3.2 _ _ T (HT.low F b2) (Nat.le_trans b2 F.size)).mono ?_;rintro e w4 ⟨tx,rfl,a8,G⟩;have b8:=hid (F.trans (G.mono F.size));have j:=hid (a6.below G);have a9:=hid (a7.below G);have b1:=hid (U.below G);have b0:Hid (bl _=selS _):=hid (by rw[a8,Zd7];unfold Zbv;rw[if_neg (by rw[a4];decide),if_pos a4.out]);clear G F a6 a7 T U a8;have d0:=a9.cell 0;have d1:=a9.cell 1;simp only[Zget]at d0 d1;have c:=j;have f:=b8;have f0:=j.frozen 0;have f1:=j.frozen 1;have f2:=j.frozen 2;have c0:=j.cell 0;have c1:=j.cell 1;have c2:=j.cell 2;simp only[Zget]at c0 c1 c2;have d3:=j.lt;by_cases he:tx=a
     ·subst he;have b9:(tx.toList != tx.toList)=false:=by simp
      have c3:Hid (ZbA (bl s)=some (nd,0)):=by rw[p,I,if_pos b0.symm];rfl
      clear p I;go_wp2;change bodyPost _ _ _ _ _ (set3 w4 w.heap.size (.string nm) (.slice la ln lc) (Vi (0:Nat)));have st:=Zcr c (x:=(.string nm)) (y:=(.slice la ln lc)) (z:=(Vi (0:Nat)));have s0:=st.cell 0;have s1:=st.cell 1;have s2:=st.cell 2;simp only[Zget]at s0 s1 s2;have g:=hid (ZdC f (Nat.le_refl _) (.string nm) (.slice la ln lc) (Vi (0:Nat)));have c4:=hid (b1.kept (ZfC _ _ (.string nm) (.slice la ln lc) (Vi (0:Nat))) j Dc);generalize set3 w4 w.heap.size (.string nm) (.slice la ln lc) (Vi (0:Nat))=WX at *
      exact bodyPost_ret (by simp[results,results183,go_sem,s0,s1,s2]) rfl ⟨_,_,rfl,hid (SelR.mkSome c3 ⟨rfl,⟨nm,la,ln,lc,nd,0⟩,rfl,rfl,b7,c4⟩),g⟩
     ·have b9:(tx.toList == a.toList)=false:=by
       rw[beq_eq_false_iff_ne,Zbt,Zbt];intro e;exact he (ZcW e)
      have q:Hid (ZbA (bl s)=none):=by rw[p,I,if_neg (by intro e;exact he (ZcW (b0.trans e)))];rfl
      clear p I he;go_wp2;change bodyPost _ _ _ _ _ (set3 w4 w.heap.size (.string ⟨#[]⟩) S0 (Vi 0));have st:=Zcr c (x:=(.string ⟨#[]⟩)) (y:=S0) (z:=(Vi 0));have s0:=st.cell 0;have s1:=st.cell 1;have s2:=st.cell 2;simp only[Zget]at s0 s1 s2;have g:=hid (ZdC f (Nat.le_refl _) (.string ⟨#[]⟩) S0 (Vi 0));generalize set3 w4 w.heap.size (.string ⟨#[]⟩) S0 (Vi 0)=WX at *
      exact bodyPost_ret (by simp[results,results183,go_sem,s0,s1,s2]) rfl ⟨_,_,rfl,hid (SelR.mkNone q ⟨rfl,rfl⟩),g⟩
    all_goals
     have q:Hid (ZbA (bl s)=none):=by rw[p,Zr5 B Om];rfl
     clear k B p P H Q C R;go_wp2;change bodyPost _ _ _ _ _ ((set3 Z w.heap.size (.string ⟨#[]⟩) S0 (Vi 0)).alloc (.cells #[.string ByteArray.empty,S0] 148));have st:=(Zcr c (x:=(.string ⟨#[]⟩)) (y:=S0) (z:=(Vi 0))).below ((Below.refl _ _).alloc (Nat.le_refl _) (.cells #[.string ByteArray.empty,S0] 148));have s0:=st.cell 0;have s1:=st.cell 1;have s2:=st.cell 2;simp only[Zget]at s0 s1 s2;have g:=hid ((ZdC f (Nat.le_refl _) _ _ _).alloc (ZdC f (Nat.le_refl _) (.string ⟨#[]⟩) S0 (Vi 0)).size (.cells #[.string ByteArray.empty,S0] 148));generalize(set3 Z w.heap.size (.string ⟨#[]⟩) S0 (Vi 0)).alloc (.cells #[.string ByteArray.empty,S0] 148)=WX at *
     exact bodyPost_ret (by simp[results,results183,go_sem,s0,s1,s2]) rfl ⟨_,_,rfl,hid (SelR.mkNone q ⟨rfl,rfl⟩),g⟩
 | some xy=>
  obtain⟨x,y⟩:=xy;refine(ZoD m W hs (HV.below X).max h).mono ?_;rintro e w1 ⟨a,b,rfl,K,nd,a0⟩;have N:BW W _:=a0▸ZiX _ _ _;have D:=hid (X.trans (N.mono X.size));have d:=hid (b3.below N)
  have b4:a.size<=70000/\b.size<=70000:=by
   have h9:=K.out;rw[LS.cut]at h;cases c8:LS.seek 91 (bl s)with
   | none=>rw[c8]at h;cases h
   | some i=>
    rw[c8]at h;simp only[Option.map_some]at h;injection h with h;injection h with e1 e2;rw[ZU h9.1,ZU h9.2,<-e1,<-e2,List.length_take,List.length_drop,Zd];omega
  have d6:=b4.2;have b4:=b4.1;have b5:=hid (ZAE h);clear N a0 h b3
  go_wp2_with fail
  refine(strings_CutSuffix b _ _ Om).mono ?_;rintro e wq ⟨rfl,rfl⟩;have c9:=hid K.2;have d4:=hid K.1;rw[show b.data.toList=y from c9,show(⟨#[93]⟩:BA).data.toList=[93] from rfl];have d5:y.length<=70000:=by rwa [<-c9.out,Zd]
  clear K;cases Y:Lib.hasSuffix y [93]with
  | false=>
   have q:Hid (ZbA _=none):=hid (by rw[b5,if_neg (by rw[Y];simp)])
   have V := hid (fun W' => Znx ⟨(Lib.trimSuffix y _).toArray⟩ 1000 W' (by
     rw[<-Zd,ZbF];unfold Lib.trimSuffix;rw[Y];simpa using d5) Dc Dc)
   generalize(⟨(Lib.trimSuffix y [93]).toArray⟩:BA)=dg at *
   have c:=d;have f:=D;have c7:=d.lt;have f0:=d.frozen 0;have f1:=d.frozen 1;have f2:=d.frozen 2;have c0:=d.cell 0;have c1:=d.cell 1;have c2:=d.cell 2;simp only[Zget]at c0 c1 c2;clear b5 Y
   go_wp2_with fail
   refine(V _).mono ?_;rintro e L ⟨rfl,rfl⟩;have b6:∃(v:Int) (o:Bool),numT 1000 (bl dg)=.tuple #[.int _ v,.bool o]:=⟨_,_,rfl⟩
   obtain⟨nv,no,b6⟩:=b6;rw[b6];clear b6 V;go_wp2;change bodyPost _ _ _ _ _ (set3 L w.heap.size (.string ⟨#[]⟩) S0 (Vi 0));have st:=Zcr c (x:=(.string ⟨#[]⟩)) (y:=S0) (z:=(Vi 0));have s0:=st.cell 0;have s1:=st.cell 1;have s2:=st.cell 2;simp only[Zget]at s0 s1 s2;have g:=hid (ZdC f (Nat.le_refl _) (.string ⟨#[]⟩) S0 (Vi 0));generalize set3 L w.heap.size (.string ⟨#[]⟩) S0 (Vi 0)=WX at *
   exact bodyPost_ret (by simp[results,results183,go_sem,s0,s1,s2]) rfl ⟨_,_,rfl,hid (SelR.mkNone q ⟨rfl,rfl⟩),g⟩
  | true=>
   rw[ZDh Y]
   have J:Hid (ZbA _=match ZQ _ _ with
    | some n=>if n=0 then none else (selQ x).map _
    | none=>none):=hid (by rw[b5,if_pos Y])
   have V := hid (fun W' => Znx ⟨y.dropLast.toArray⟩ 1000 W' (by
     rw[<-Zd,ZbF,List.length_dropLast];omega) Dc Dc)
   have d7:=d.lt;clear b5 Y
   go_wp2_with fail
   refine(V _).mono ?_;rintro e L ⟨rfl,rfl⟩;rw[ZbF];cases M:ZQ 1000 y.dropLast with
   | none=>
    rw[Zgg M];have q:Hid (ZbA _=none):=hid (by rw[J,M]);have c:=d;have f:=D;have f0:=d.frozen 0;have f1:=d.frozen 1;have f2:=d.frozen 2;have c0:=d.cell 0;have c1:=d.cell 1;have c2:=d.cell 2;simp only[Zget]at c0 c1 c2;clear M J;go_wp2;change bodyPost _ _ _ _ _ (set3 L w.heap.size (.string ⟨#[]⟩) S0 (Vi 0));have st:=Zcr c (x:=(.string ⟨#[]⟩)) (y:=S0) (z:=(Vi 0));have s0:=st.cell 0;have s1:=st.cell 1;have s2:=st.cell 2;simp only[Zget]at s0 s1 s2;have g:=hid (ZdC f (Nat.le_refl _) (.string ⟨#[]⟩) S0 (Vi 0));generalize set3 L w.heap.size (.string ⟨#[]⟩) S0 (Vi 0)=WX at *
    exact bodyPost_ret (by simp[results,results183,go_sem,s0,s1,s2]) rfl ⟨_,_,rfl,hid (SelR.mkNone q ⟨rfl,rfl⟩),g⟩
   | some n=>
    rw[ZjO M];by_cases c5:n=0
    ·subst c5;have q:Hid (ZbA (bl s)=none):=by rw[J,M];rfl
     have c:=d;have f:=D;have f0:=d.frozen 0;have f1:=d.frozen 1;have f2:=d.frozen 2;have c0:=d.cell 0;have c1:=d.cell 1;have c2:=d.cell 2;simp only[Zget]at c0 c1 c2;clear M J;go_wp2;change bodyPost _ _ _ _ _ (set3 L w.heap.size (.string ⟨#[]⟩) S0 (Vi 0));have st:=Zcr c (x:=(.string ⟨#[]⟩)) (y:=S0) (z:=(Vi 0));have s0:=st.cell 0;have s1:=st.cell 1;have s2:=st.cell 2;simp only[Zget]at s0 s1 s2;have g:=hid (ZdC f (Nat.le_refl _) (.string ⟨#[]⟩) S0 (Vi 0));generalize set3 L w.heap.size (.string ⟨#[]⟩) S0 (Vi 0)=WX at *
     exact bodyPost_ret (by simp[results,results183,go_sem,s0,s1,s2]) rfl ⟨_,_,rfl,hid (SelR.mkNone q ⟨rfl,rfl⟩),g⟩
    ·have d8:((n:Int) == 0)=false:=by rw[beq_eq_false_iff_ne];omega
     have p:Hid (ZbA _=(selQ (bl a)).map _):=hid (by rw[J,M,d4];simp only;rw[if_neg c5]);clear M J c5 V;obtain⟨w1,d2⟩:∃w1,w1=L:=⟨_,rfl⟩
     subst d2
     go_wp2_with fail
     have a1:=hid ((HV.below D).sentsV);refine(Ziu a _ Om a1).mono ?_;rintro e Z ⟨pv,v,rfl,k,O⟩;have f:=hid (D.trans (O.mono D.size));have c:=hid (d.below O);have c7:=c.lt;clear O d D a1;have f0:=c.frozen 0;have f1:=c.frozen 1;have f2:=c.frozen 2;have c0:=c.cell 0;have c1:=c.cell 1;have c2:=c.cell 2;simp only[Zget]at c0 c1 c2;cases B:ZD (bl a)with
     | error x=>
      have q:Hid (ZbA (bl s)=none):=by rw[p,Zr4 B];rfl
      obtain⟨ty,u,rfl⟩:=RdIs.kq B k.out;clear k B p;go_wp2;change bodyPost _ _ _ _ _ (set3 Z w.heap.size (.string ⟨#[]⟩) S0 (Vi 0));have st:=Zcr c (x:=(.string ⟨#[]⟩)) (y:=S0) (z:=(Vi 0));have s0:=st.cell 0;have s1:=st.cell 1;have s2:=st.cell 2;simp only[Zget]at s0 s1 s2;have g:=hid (ZdC f (Nat.le_refl _) (.string ⟨#[]⟩) S0 (Vi 0));generalize set3 Z w.heap.size (.string ⟨#[]⟩) S0 (Vi 0)=WX at *
      exact bodyPost_ret (by simp[results,results183,go_sem,s0,s1,s2]) rfl ⟨_,_,rfl,hid (SelR.mkNone q ⟨rfl,rfl⟩),g⟩
     | ok t=>
      rw[B]at k;obtain⟨rfl,a2⟩:=k.out;obtain⟨P,H,Q⟩:=ZrM B;cases t with
      | nil=>cases H
      | node x y nd l r=>
       have R:=hid a2;have a3:=hid (And.intro P Q);rcases a2 with ⟨C,rfl⟩|⟨C,nm,la,ln,lc,rfl,h1,h2⟩|⟨C,wd,nm,la,ln,lc,rfl,_⟩|⟨C,z,rfl,_⟩|⟨C,wd,la,ln,lc,z,rfl,_⟩|⟨C,z1,z2,rfl,_⟩
       case inr.inl=>
        have I:=hid (Zr6 B C);have a4:=hid C;have b7:=hid h1;have a5:=hid h2;clear k B P H Q C h1 h2
        go_wp2_with fail
        refine Zm fun W3 S=>?_;have E:Below _ _ _:=S▸Zbal;have F:=hid (f.trans (E.mono f.size));have a6:=hid (c.below E);have a7:Hid (BAt _ _ _ 148):=S▸Go.Deep.blk_alloc_new _ _;have T:=hid (R.below E);have U:=hid (a5.below E);clear S E R a5 c0 c1 c2 f0 f1 f2;refine(Zj6 a3.1 a3.2 _ _ T (HT.low F b2) (Nat.le_trans b2 F.size)).mono ?_;rintro e w4 ⟨tx,rfl,a8,G⟩;have b8:=hid (F.trans (G.mono F.size));have j:=hid (a6.below G);have a9:=hid (a7.below G);have b1:=hid (U.below G);have b0:Hid (bl _=selS _):=hid (by rw[a8,Zd7];unfold Zbv;rw[if_neg (by rw[a4];decide),if_pos a4.out]);clear G F a6 a7 T U a8;have d0:=a9.cell 0;have d1:=a9.cell 1;simp only[Zget]at d0 d1;have c:=j;have f:=b8;have f0:=j.frozen 0;have f1:=j.frozen 1;have f2:=j.frozen 2;have c0:=j.cell 0;have c1:=j.cell 1;have c2:=j.cell 2;simp only[Zget]at c0 c1 c2;have d3:=j.lt;by_cases he:tx=a
        ·subst he;have b9:(tx.toList != tx.toList)=false:=by simp
         have c3:Hid (ZbA (bl s)=some (nd,n)):=by rw[p,I,if_pos b0.symm];rfl
         clear p I;go_wp2;change bodyPost _ _ _ _ _ (set3 w4 w.heap.size (.string nm) (.slice la ln lc) (Vi (n:Nat)));have st:=Zcr c (x:=(.string nm)) (y:=(.slice la ln lc)) (z:=(Vi (n)));have s0:=st.cell 0;have s1:=st.cell 1;have s2:=st.cell 2;simp only[Zget]at s0 s1 s2;have g:=hid (ZdC f (Nat.le_refl _) (.string nm) (.slice la ln lc) (Vi (n)));have c4:=hid (b1.kept (ZfC _ _ (.string nm) (.slice la ln lc) (Vi (n))) j Dc);generalize set3 w4 w.heap.size (.string nm) (.slice la ln lc) (Vi (n:Nat))=WX at *
         exact bodyPost_ret (by simp[results,results183,go_sem,s0,s1,s2]) rfl ⟨_,_,rfl,hid (SelR.mkSome c3 ⟨rfl,⟨nm,la,ln,lc,nd,n⟩,rfl,rfl,b7,c4⟩),g⟩
        ·have b9:(tx.toList == a.toList)=false:=by
          rw[beq_eq_false_iff_ne,Zbt,Zbt];intro e;exact he (ZcW e)
         have q:Hid (ZbA (bl s)=none):=by rw[p,I,if_neg (by intro e;exact he (ZcW (b0.trans e)))];rfl
         clear p I he;go_wp2;change bodyPost _ _ _ _ _ (set3 w4 w.heap.size (.string ⟨#[]⟩) S0 (Vi 0));have st:=Zcr c (x:=(.string ⟨#[]⟩)) (y:=S0) (z:=(Vi 0));have s0:=st.cell 0;have s1:=st.cell 1;have s2:=st.cell 2;simp only[Zget]at s0 s1 s2;have g:=hid (ZdC f (Nat.le_refl _) (.string ⟨#[]⟩) S0 (Vi 0));generalize set3 w4 w.heap.size (.string ⟨#[]⟩) S0 (Vi 0)=WX at *
         exact bodyPost_ret (by simp[results,results183,go_sem,s0,s1,s2]) rfl ⟨_,_,rfl,hid (SelR.mkNone q ⟨rfl,rfl⟩),g⟩
       all_goals
        have q:Hid (ZbA (bl s)=none):=by rw[p,Zr5 B Om];rfl
        clear k B p P H Q C R;go_wp2;change bodyPost _ _ _ _ _ ((set3 Z w.heap.size (.string ⟨#[]⟩) S0 (Vi 0)).alloc (.cells #[.string ByteArray.empty,S0] 148));have st:=(Zcr c (x:=(.string ⟨#[]⟩)) (y:=S0) (z:=(Vi 0))).below ((Below.refl _ _).alloc (Nat.le_refl _) (.cells #[.string ByteArray.empty,S0] 148));have s0:=st.cell 0;have s1:=st.cell 1;have s2:=st.cell 2;simp only[Zget]at s0 s1 s2;have g:=hid ((ZdC f (Nat.le_refl _) _ _ _).alloc (ZdC f (Nat.le_refl _) (.string ⟨#[]⟩) S0 (Vi 0)).size (.cells #[.string ByteArray.empty,S0] 148));generalize(set3 Z w.heap.size (.string ⟨#[]⟩) S0 (Vi 0)).alloc (.cells #[.string ByteArray.empty,S0] 148)=WX at *
        exact bodyPost_ret (by simp[results,results183,go_sem,s0,s1,s2]) rfl ⟨_,_,rfl,hid (SelR.mkNone q.out ⟨rfl,rfl⟩),g⟩
end
section
theorem Zkl{x:LB×Nat}(h:ZcH l p=.ok x):x.1.length<65536/\x.2<=l.length:=by
 unfold ZcH at h;cases a:Zbr l p 2 with
 | error e=>rw[a]at h;cases h
 | ok y=>
  rw[a]at h;simp only at h;obtain⟨d,f,g⟩:=Zhh h;have c:=(Zev a).2.2.2;have c:y.1<65536:=c;exact⟨by rwa [f,Zki d],by omega⟩
theorem ZdG.jm(h:ZdG w a v){c:List Value}{t:TypeId}(d:BAt w b c t)(e:w.grownBy w' (some b))(f:t≠224):ZdG w' a v:=by
 obtain⟨x,g,i,j⟩:=h;exact⟨x,g,i,j.jm d e f⟩
theorem ZdG.below(h:ZdG w a v)(c:BW w w'):ZdG w' a v:=by
 obtain⟨x,d,e,f⟩:=h;exact⟨x,d,e,f.below c⟩
structure Ground (w0:World) (A:Nat->Addr) (m:Int) (b:Nat):Prop where
 v:Vars w0 A m
 t:ZR w0
 n:20<=w0.heap.size
 b:w0.heap.size<=b
theorem Ground.code(h:Ground w0 A m b)(a:BW w0 w):Zc5 w (A 8):=(h.v.below a).sent _ Dc
theorem Ground.ng(h:Ground w0 A m b):20<=b:=Nat.le_trans h.n h.b
theorem ZBz(s:BA)(b:Nat)(A:Nat->Addr)(m:Int)(w0:World)(O:Ground w0 A m b)(hs:s.size<=maxLen) :
  OneC 136 ZdG Zfc w0 b s (A 8) (Zb4 (bl s)):=by
 intro p w h0 P hp;have b1:=P.lt;have d:=hid O;have R:=hid (fun w h1 h2=>ZrS s p b _ w h2 (O.code h1) O.ng hp hs);have Q:=hid h0;have a4:=hid P;have c1:w.cell? _=some _:=P.cell 1;clear P h0 O hs;go_enter func136,ntmps136
 go_wp2_with fail
 refine Zm fun W hW=>?_;have H:Below _ w W:=hW▸Zbal;have S:Hid (BAt W _ [.string _,.slice _ 0 0,.int _ 0] 156):=hW▸Go.Deep.blk_alloc_new _ _;have I:Hid (w.grownBy W (some b)):=hid (Zw H);have T:=hid (ZbV Q I d.b);have U:=hid (a4.below H);clear hW H c1;refine(R W T U).mono ?_;rintro e w1 ⟨v,err,rfl,G,J⟩;have o:=hid (Zj I J);have c:=hid (S.grown J (by intro e;injection e with e;omega));have r:=hid (ZbV Q o d.b);clear J I S T U R;cases j:ZcH (bl s) p with
 | error x=>
  obtain⟨fa,rfl⟩:=G.kq j;have K:Hid (RdC ZdG Zfc _ b s _ (Zb4 _ p) _ _):=hid (G.qj j (by unfold Zb4;rw[j]) rfl);obtain⟨_,_,rfl,_⟩:=G.err j;clear G j;have f0:=c.frozen 0;have f1:=c.frozen 1;have f2:=c.frozen 2;have c0:=c.cell 0;have c1:=c.cell 1;have c2:=c.cell 2;simp only[Zget]at c0 c1 c2;go_wp2;change bodyPost _ _ _ _ _ (set3 w1 w.heap.size (.string ⟨#[]⟩) S0 (Vi 0));have st:=Zcr c (x:=.string ⟨#[]⟩) (y:=S0) (z:=Vi 0);have s0:=st.cell 0;have s1:=st.cell 1;have s2:=st.cell 2;simp only[Zget]at s0 s1 s2;have k:=hid (K.kept (ZfC _ _ _ _ _) c Dc Dc (fun _ h=>h.jm c (ZfC _ _ (.string ⟨#[]⟩) S0 (Vi 0)) Dc));have l:=hid (Ze4 o (Nat.le_refl _) (.string ⟨#[]⟩) S0 (Vi 0));generalize set3 w1 w.heap.size (.string ⟨#[]⟩) S0 (Vi 0)=WX at *
  exact bodyPost_ret (by simp[results,results136,go_sem,s0,s1,s2]) rfl ⟨_,_,rfl,k,l⟩
 | ok x=>
  obtain⟨t,q⟩:=x;obtain⟨rfl,⟨tx,rfl,u⟩,hq⟩:=G.ok j;have a5:=(Zkl j).1;simp only at hq a5 u;have a6:tx.size<=70000:=by rw[ZU u];omega
  have V:=hid hq
  have B:Hid (Zb4 (bl s) p=match ZbA (bl tx)with
   | none=>.error (9,p)
   | some y=>.ok (y,q)):=by unfold Zb4;rw[j,u];simp only;cases ZbA t <;> rfl
  clear G j hq u
  go_wp2_with fail
  refine(ZBd _ A m _ a6 (d.v.below r) (d.t.low r d.n) (Nat.le_trans d.n r.size)).mono ?_;rintro e w2 ⟨v,ok,rfl,g,C⟩;have D:=hid (ZeT o C);have a:=hid (c.below C);have a7:=hid (ZbV Q D d.b);have L:=hid (V.below C);have b2:=a.lt;clear C c o r V;cases i:ZbA (bl tx)with
  | none=>
   rw[i]at g;obtain⟨rfl,rfl⟩:=g.out;have M:Hid (Zb4 _ p=.error _):=hid (by rw[B,i]);clear g i B
   go_wp2_with fail
   refine Zm fun W3 X=>?_;have E:Below _ _ _:=X▸Zbal;have N:=hid (ZeT D E);have Y:=hid (a.below E);have Z:=hid (ZbV Q N d.b);have a0:=hid (L.below E);clear X E D a a7 L;refine(ZfX _ _ _ (d.code Z)).mono ?_;rintro e w4 ⟨v,rfl,hv,F⟩;have K:Hid (RdC ZdG Zfc _ b s _ _ _ v):=hid (RdC.qq M ⟨rfl,hv,rfl,_,a0.below F⟩);have a8:=hid (ZeT N F);have f:=hid (Y.below F);obtain⟨fa,rfl⟩:=ZM.shape hv;clear hv F Y N Z a0;have f0:=f.frozen 0;have f1:=f.frozen 1;have f2:=f.frozen 2;have c0:=f.cell 0;have c1:=f.cell 1;have c2:=f.cell 2;simp only[Zget]at c0 c1 c2;go_wp2;change bodyPost _ _ _ _ _ (set3 w4 w.heap.size (.string ⟨#[]⟩) S0 (Vi 0));have st:=Zcr f (x:=.string ⟨#[]⟩) (y:=S0) (z:=Vi 0);have s0:=st.cell 0;have s1:=st.cell 1;have s2:=st.cell 2;simp only[Zget]at s0 s1 s2;have k:=hid (K.kept (ZfC _ _ _ _ _) f Dc Dc (fun _ h=>h.jm f (ZfC _ _ (.string ⟨#[]⟩) S0 (Vi 0)) Dc));have l:=hid (Ze4 a8 (Nat.le_refl _) (.string ⟨#[]⟩) S0 (Vi 0));generalize set3 w4 w.heap.size (.string ⟨#[]⟩) S0 (Vi 0)=WX at *
   exact bodyPost_ret (by simp[results,results136,go_sem,s0,s1,s2]) rfl ⟨_,_,rfl,k,l⟩
  | some y=>
   rw[i]at g;obtain⟨rfl,a1⟩:=g.out;have a2:=hid a1;obtain⟨z,rfl,a9,b0⟩:=a1;have M:Hid (Zb4 _ p=.ok _):=hid (by rw[B,i]);have K:Hid (RdC _ Zfc _ b s (A 8) _ _ _):=hid (RdC.mkOk M ⟨rfl,a2,L⟩);clear g i B a9 b0 a2;have f0:=a.frozen 0;have f1:=a.frozen 1;have f2:=a.frozen 2;have c0:=a.cell 0;have c1:=a.cell 1;have c2:=a.cell 2;simp only[Zget]at c0 c1 c2;go_wp2;change bodyPost _ _ _ _ _ ((set3 w2 w.heap.size (.string z.nm) (.slice z.la z.ln z.lc) (Vi z.n)).alloc (.cells #[.string z.nm,.slice z.la z.ln z.lc,Vi z.n] 156));have st:=(Zcr a (x:=.string z.nm) (y:=.slice z.la z.ln z.lc) (z:=Vi z.n)).below ((Below.refl _ _).alloc (Nat.le_refl _) (.cells #[.string z.nm,.slice z.la z.ln z.lc,Vi z.n] 156));have s0:=st.cell 0;have s1:=st.cell 1;have s2:=st.cell 2;simp only[Zget]at s0 s1 s2;have a3:=hid (K.kept (ZfC _ _ (.string z.nm) _ _) a Dc Dc (fun _ h=>h.jm a (ZfC _ _ _ (.slice z.la z.ln z.lc) (Vi z.n)) Dc));obtain⟨g1,g2,g3⟩:=a3.ok M;have k:Hid (RdC _ Zfc ((set3 _ _ _ _ _).alloc (.cells #[.string z.nm,.slice z.la z.ln z.lc,Vi z.n] 156)) b s (A 8) _ _ _):=hid (RdC.mkOk M ⟨rfl,g2.below Zbal,g3.below Zbal⟩);have l:=hid (ZbR (Ze4 D (Nat.le_refl _) (.string z.nm) (.slice z.la z.ln z.lc) (Vi z.n)) (.cells #[.string z.nm,.slice z.la z.ln z.lc,Vi z.n] 156));clear g1 g2 g3 a3;generalize(set3 w2 w.heap.size (.string z.nm) (.slice z.la z.ln z.lc) (Vi z.n)).alloc (.cells #[.string z.nm,.slice z.la z.ln z.lc,Vi z.n] 156)=WX at *
   exact bodyPost_ret (by simp[results,results136,go_sem,s0,s1,s2]) rfl ⟨_,_,rfl,k,l⟩
theorem Zjy(x y:LB):decide (x<=y)=!Op.bytesLess y x:=by
 rw[bytesLess_eq,Bool.eq_iff_iff,decide_eq_true_iff,Bool.not_eq_true',decide_eq_false_iff_not];exact Iff.rfl
theorem ZCy (ss : List (LB)) : (ss.mergeSort fun x y => decide (x <= y)).Pairwise fun a b => Op.bytesLess b a = false := by
  have h := List.pairwise_mergeSort (le := fun (x y) => decide _) (by
    intro a b c d i;rw[Zjy,Bool.not_eq_true']at *
    cases h:Op.bytesLess c a with
    | false=>rfl
    | true=>
      cases f:Op.bytesLess b c with
      | true=>rw[Zdv _ _ _ f h]at d;cases d
      | false=>
        have e:=Zdh _ _ f i;rw[e,h]at d;cases d) (by
    intro a b;rw[Zjy,Zjy];cases h:Op.bytesLess b a with
    | false=>rfl
    | true=>
      cases f:Op.bytesLess a b with
      | false=>rfl
      | true=>have:=Zdv _ _ _ h f;rw[ZcL]at this;cases this) ss
  refine h.imp (fun {a b} g=>?_);rw[Zjy,Bool.not_eq_true']at g;exact g
theorem ZoW(bs:List BA):Zbc bs=(bs.map bl).map encStr:=by
 unfold Zbc;rw[List.map_map];refine List.map_congr_left (fun b _=>?_);cases b with
 | mk d=>simp[encStr,bl]
theorem ZCz {l : List (LB)} (e : l.Pairwise fun a b => Op.bytesLess b a = false) (h : ∀ k, k + 1 < l.length -> l[k]? ≠ l[k + 1]?) : l.Nodup := by
  induction l with
  | nil=>exact List.nodup_nil
  | cons a l ih=>
    rw[List.pairwise_cons]at e;rw[List.nodup_cons];refine⟨fun f=>?_,ih e.2 (fun k g=>by have:=h _ (by simpa using g);simpa using this)⟩;cases l with
    | nil=>cases f
    | cons c r=>
      have d:=h 0 (by simp);simp only[Zget,Nat.zero_add]at d;rcases List.mem_cons.1 f with rfl|f
      · exact d rfl
      · have i:=(List.pairwise_cons.1 e.2).1 a f
        have j:=e.1 c (by simp);exact d (by rw[Zdh _ _ i j])
theorem ZwD{ms:List (LB)}(g:t≠[])(a:ms.Perm (split 44 t)):ZcG t=if ms.all Zx=true/\ms.Nodup then some (split 44 t)else none:=by
 unfold ZcG;rw[if_neg g]
 have d:(split 44 t).all Zx=true ↔ ms.all Zx=true:=by
  rw[List.all_eq_true,List.all_eq_true];exact⟨fun h x c=>h x (a.mem_iff.1 c),fun h x c=>h x (a.mem_iff.2 c)⟩
 have f:=a.nodup_iff.symm;by_cases e:ms.all Zx=true/\ms.Nodup
 ·rw[if_pos e,if_pos ⟨d.2 e.1,f.2 e.2⟩]
 ·rw[if_neg e,if_neg (fun h=>e ⟨d.1 h.1,f.1 h.2⟩)]
def GrpR(w:World)(r:Option (List (LB)))(v:Value)(ok:Bool):Prop:=match r with
 | some a=>ok=true/\ZfM w a v
 | none=>ok=false/\RowZ v
theorem GrpR.mkNone(a:r=none)(h:ok=false/\RowZ v):GrpR w r v ok:=by subst a;exact h
theorem GrpR.mkSome{a:List (LB)}(c:r=some a)(h:ok=true/\ZfM w a v):GrpR w r v ok:=by subst c;exact h
theorem ZBc(s:BA)(A:Nat->Addr)(m:Int)(w:World)(hs:s.size<=70000)(hv:Vars w A m) :
  CP 184 #[.string s] w fun e u=>∃v ok,e=.returned (.tuple #[v,.bool ok])/\Hid (GrpR u (ZcG (bl s)) v ok)/\BW w u:=by
 have HM:=hid hv.max;clear hv;by_cases h0:s.size=0
 ·have o:s.toList.isEmpty=true:=ZoT Om;have HQ:Hid (ZcG _=some _):=hid (by unfold ZcG;rw[if_pos (ZgW o)]);go_enter func184,ntmps184;go_wp2;go_ret2;exact⟨_,_,rfl,hid (GrpR.mkSome HQ ⟨rfl,⟨none,0,0,[]⟩,rfl,rfl,[],World.ownsRow_nil _ _ _ _,List.Pairwise.nil,fun y=>Iff.rfl,by simp⟩),Below.refl _ _⟩
 ·have o:s.toList.isEmpty=false:=Zrh Om;have S:=Zij o;have T:=hid (strings_Split s ⟨#[44]⟩ m w Om HM (Nat.le_refl 1));have hd:(Lib.splitB ⟨#[44]⟩ 0 _ s).map bl=split _ _:=(Lib.splitB_data _ 0 (Lib.countB s ⟨#[44]⟩) s).trans (Zsq _ _ (bl s) (Nat.le_refl _));have E:=Lib.splitB_all ⟨#[44]⟩ (Nat.le_refl 1) 0 _ s rfl;go_enter func184,ntmps184
  go_wp2_with fail
  refine T.mono ?_;rintro e w1 ⟨rfl,p⟩;obtain⟨bs,U⟩:∃bs,bs=Lib.splitB ⟨#[44]⟩ 0 (Lib.countB s ⟨#[44]⟩) s:=⟨_,rfl⟩
  rw[<-U]at hd E p;have Z:(split 44 (bl s)).length<=s.size+1:=by have:=Zhd 44 (bl s);rwa [Zd]at this
  have a0:bs.length=(split 44 (bl s)).length:=by rw[<-hd,List.length_map]
  obtain⟨N,hN⟩:∃N,N=Lib.countB s ⟨#[44]⟩+1:=⟨_,rfl⟩
  rw[<-hN]at E ⊢;have b1:N<=70001:=by omega
  have b2:1<=N:=by omega
  obtain⟨ss,q⟩:∃ss,ss=bs.map bl:=⟨_,rfl⟩
  have c:ss.length=N:=by rw[q,List.length_map,E]
  have V:Below _ w _:=p▸Zbal;have O:w1.heap[w.heap.size]?=some (.cells _ 9 _):=p▸Go.Deep.blk_alloc_new _ _;have a1:=(Array.getElem?_eq_some_iff.1 O).1;have F:bs.map _=ss.map _:=q▸ZoW bs;have hH:=holds_of_block O (by rw[F,c];exact List.take_of_length_le (by rw[List.length_map,c];exact Nat.le_refl _));have hS:=slices_Sort_string _ 0 N _ _ hH a1 Om;rw[c]at hS;have HS:=hid hS;have G:=hid V;have HH:=hid O;have H:Hid (ss=split 44 (bl s)):=by rwa [q]
  have I:=hid E;have a2:=hid S;clear hS hH O V p U hd E Z a0 q F T S o HM hN
  go_wp2_with (go_at_call 203;refine HS.mono ?_;rintro e z ⟨rfl,nn,os,f⟩;have W:=hid f;clear f)
  have f:=W.out;clear W;obtain⟨ms,r⟩:∃ms,ms=ss.mergeSort (fun x y=>decide (x<=y)):=⟨_,rfl⟩
  have t:Hid _:=r▸List.mergeSort_perm _ _;have a3:Hid (ms.Pairwise fun a b=>Op.bytesLess b a=false):=r▸ZCy ss;have a4:ms.length=N:=by rw[t.length_eq,c]
  have B:z.ownsRow w.heap.size 9 1 (.slice (some ⟨w.heap.size,0,none⟩) N N) N (ms.map encStr):=by
   have P:=ownsRow_sorted (n:=nn) (os:=os) (cap:=N) (t.length_eq) (Nat.le_refl _) HH (c▸Nat.le_refl _) (by unfold maxLen;omega) (by simp[I.out]);rw[c]at P;rw[f,<-r];exact P
  have J:Hid _:=f▸G.grown (grownBy_sorted _) G.size (fun j Q=>by cases Q;exact Nat.le_refl _);have K:Hid (ZcG _=if ms.all _=true/\ms.Nodup then some _ else none):=hid (ZwD a2 (by rwa [<-H.out]))
  have a5 : Hid (∀ k (h : k < ms.length), ms[k].length <= 70000) := hid (fun k h => by
    have d:=t.mem_iff.1 (List.getElem_mem h);rw[H]at d;have:=Zne _ _ _ d;rw[Zd]at this;omega)
  have X:=hid B;have b3:=hid c;clear B f r HS HH G I c;go_wp2
  go_loop [5,16] (fun lv i=>∃(k:Nat) (last:BA),k<=N/\i=Vi k/\lv=.string last/\Hid (bl last=if k=0 then [] else ms.getD (k - 1) [])/\Hid ((ms.take k).all Zx=true)/\Hid (∀j,j+1<k->ms[j]?≠ms[j+1]?)) (fun _ i=>N - (intOf i).toNat)
  case atStart=>exact⟨0,⟨#[]⟩,Nat.zero_le _,rfl,rfl,hid rfl,hid rfl,hid (fun j Q=>by omega)⟩
  case round=>
   obtain⟨k,last,hk,rfl,rfl,HL,HA,HD⟩:=hrel;by_cases b4:k<N
   ·have g:k<ms.length:=by omega
    have b5:(k:Int)<N:=by omega
    obtain⟨x,hx⟩:∃x:BA,x=⟨ms[k].toArray⟩:=⟨_,rfl⟩
    have D:Hid (bl x=ms[k]):=hid (by rw[hx,ZbF]);have d0:z.cell? _=some (.string x):=Zi X k _ (by rw[hx,List.getElem?_map,List.getElem?_eq_getElem g];rfl);have L:x.size<=70000:=ZU D.out▸a5.out k g;clear hx;cases R:Zx (bl x)with
    | false=>
     have M:Hid (ZcG _=none):=hid (by
      rw[K,if_neg];rintro⟨h,_⟩;have:=List.all_eq_true.1 h _ (List.getElem_mem g);rw[<-D,R]at this;cases this)
     go_wp2_with (go_at_call 48;refine(Zkt x _ L).mono ?_;rintro e u ⟨rfl,rfl⟩)
     go_ret2;exact⟨_,_,rfl,hid (GrpR.mkNone M ⟨rfl,rfl⟩),J⟩
    | true=>
     by_cases o:x=last
     ·subst o;have a6:(x.toList == x.toList)=true:=by simp
      have Y:k≠0:=by
       intro e;subst e;have d:=HL.out;rw[if_pos rfl]at d;rw[d]at R;exact absurd R Dc
      have M:Hid (ZcG _=none):=hid (by
       rw[K,if_neg];rintro⟨_,h⟩;have d:=HL.out;rw[if_neg Y,D,List.getD_eq_getElem?_getD,List.getElem?_eq_getElem Om,Option.getD_some]at d;have:=(List.pairwise_iff_getElem.1 h) (k - 1) k Om g Om;exact this d.symm)
      clear Y
      go_wp2_with (go_at_call 48;refine(Zkt x _ L).mono ?_;rintro e u ⟨rfl,rfl⟩)
      go_ret2;exact⟨_,_,rfl,hid (GrpR.mkNone M ⟨rfl,rfl⟩),J⟩
     ·have a6:(x.toList == last.toList)=false:=by
       rw[beq_eq_false_iff_ne,Zbt,Zbt];intro e;exact o (ZcW e)
      have a7:Hid ((ms.take _).all _=true):=hid (by
       rw[List.take_succ_eq_append_getElem g,List.all_append,HA,<-D];simp[R])
      have a8 : Hid (∀ j, j + 1 < k + 1 -> ms[j]? ≠ ms[j + 1]?) := hid (fun j Q => by
        by_cases e:j+1=k
        · subst e
          rw[List.getElem?_eq_getElem g,List.getElem?_eq_getElem Om,<-D];intro e2;injection e2 with e2;have d:=HL.out;rw[if_neg Om,List.getD_eq_getElem?_getD,Nat.add_sub_cancel,List.getElem?_eq_getElem Om,Option.getD_some]at d;exact o (ZcW (by rw[d,e2]))
        · exact HD j Om)
      have a9:Hid (bl x=if k+1=0 then [] else ms.getD (k+1 - 1) []):=hid (by
       rw[if_neg Om,Nat.add_sub_cancel,List.getD_eq_getElem?_getD,List.getElem?_eq_getElem _,Option.getD_some,D])
      clear o
      go_wp2_with (go_at_call 48;refine(Zkt x _ L).mono ?_;rintro e u ⟨rfl,rfl⟩)
      go_round
      case rel=>exact⟨k+1,x,by omega,by go_num,rfl,a9,a7,a8⟩
      case measure=>simp[intOf];omega
   ·obtain rfl:k=N:=by omega
    have M:Hid (ZcG _=some _):=hid (by
     rw[K,if_pos];refine⟨by have:=HA.out;rwa [List.take_of_length_le Om]at this,ZCz a3 (fun j Q=>HD j Om)⟩)
    have C : (ms.map (fun l => (⟨l.toArray⟩))).map bl = ms := by
      rw[List.map_map]
      conv=>rhs;rw[<-List.map_id ms]
      exact List.map_congr_left (fun l _=>by simp[bl])
    have b0:Hid (ZfM _ (split _ _) (.slice (some _) k k)):=hid ⟨⟨some _,k,k,split _ _⟩,rfl,rfl,ms.map _,by
     have P:=Zgi X;rw[ZoW,C,List.length_map,a4];exact P,by rwa [C],fun y=>by rw[C,t.mem_iff,H],by rw[List.length_map];omega⟩
    clear C;go_wp2;go_ret2;exact⟨_,.inr ⟨rfl,hid (GrpR.mkSome M ⟨rfl,b0⟩),J⟩⟩
theorem ZBx(s:BA)(b:Nat)(A:Nat->Addr)(m:Int)(w0:World)(u:Ground w0 A m b)(M:s.size<=maxLen) :
  OneC 138 ZfM RowZ w0 b s (A 8) (ZbX (bl s)):=by
 intro p w H I U;have f:=hid u;have B:=hid (ZrS s p b _ w I (u.code H) u.ng U M);have N:=hid H;have c1:w.cell? _=some _:=I.cell 1;clear I H u M;go_enter func138,ntmps138
 go_wp2_with fail
 clear c1;refine B.mono ?_;rintro e V ⟨v,err,rfl,i,j⟩;have k:=hid j;have C:=hid (ZbV N j f.b);clear j B;cases d:ZcH (bl s) p with
 | error x=>
  obtain⟨fa,rfl⟩:=i.kq d;have l:Hid (RdC ZfM RowZ _ b s _ (ZbX _ p) _ _):=hid (i.qj d (by unfold ZbX;rw[d]) rfl);obtain⟨_,_,rfl,_⟩:=i.err d;clear i d;go_wp2;go_ret2;exact⟨_,_,rfl,l,k⟩
 | ok x=>
  obtain⟨t,q⟩:=x;obtain⟨rfl,⟨tx,rfl,g⟩,J⟩:=i.ok d;have O:=(Zkl d).1;simp only at J O g;have P:tx.size<=70000:=by rw[ZU g];omega
  have D:=hid J
  have h:Hid (ZbX (bl s) p=match ZcG (bl tx)with
   | none=>.error (9,p)
   | some y=>.ok (y,q)):=by unfold ZbX;rw[d,g];simp only;cases ZcG t <;> rfl
  clear i d J g
  go_wp2_with fail
  refine(ZBc _ A m _ P (f.v.below C)).mono ?_;rintro e W ⟨v,ok,rfl,a,n⟩;have o:=hid (ZeT k n);have Q:=hid (ZbV N o f.b);have E:=hid (D.below n);clear n k C D;cases c:ZcG (bl tx)with
  | none=>
   rw[c]at a;obtain⟨rfl,rfl⟩:=a.out;have K:Hid (ZbX _ p=.error _):=hid (by rw[h,c]);clear a c h
   go_wp2_with fail
   refine(ZfX _ _ _ (f.code Q)).mono ?_;rintro e X ⟨v,rfl,L,r⟩;have l:Hid (RdC ZfM RowZ _ b s _ _ _ v):=hid (RdC.qq K ⟨rfl,L,rfl,_,E.below r⟩);have R:=hid (ZeT o r);obtain⟨fa,rfl⟩:=ZM.shape L;clear L r;go_wp2;go_ret2;exact⟨_,_,rfl,l,R⟩
  | some y=>
   rw[c]at a;obtain⟨rfl,F⟩:=a.out;have G:=hid F;obtain⟨z,rfl,S,T⟩:=F;have K:Hid (ZbX _ p=.ok _):=hid (by rw[h,c]);have l:Hid (RdC _ RowZ _ b s (A 8) _ _ _):=hid (RdC.mkOk K ⟨rfl,G,E⟩);clear a c h S T G;go_wp2;go_ret2;exact⟨_,_,rfl,l,o⟩
theorem ZzE(a:Ground w0 A m b)(c:s.size<=maxLen):OneC 134 KV NZ w0 b s (A 8) (ZbW (bl s)):=
 fun p w d e f=>ZBb s p b _ w e (a.code d) a.ng f c
theorem ZzF(a:Ground w0 A m b)(c:s.size<=maxLen):OneC 140 IV IZ w0 b s (A 8) (ZbN (bl s)):=
 fun p w d e f=>ZBy s p b _ w e (a.code d) a.ng f c
theorem Zle{x:Int×Nat}(h:ZbW l p=.ok x):x.2<=l.length:=by
 unfold ZbW at h;cases a:Zbr l p 4 with
 | error e=>rw[a]at h;cases h
 | ok y=>
  rw[a]at h;simp only at h;split at h
  ·cases h
  ·injection h with h;subst h;have:=Zev a;omega
theorem ZlQ{x:(Nat×Nat)×Nat}(h:ZbN l p=.ok x):x.2<=l.length/\x.1.1<=13/\x.1.2<65536:=by
 unfold ZbN at h;cases c:Zbr l p 1 with
 | error e=>rw[c]at h;cases h
 | ok y=>
  rw[c]at h;simp only at h;split at h
  ·cases h
  ·rename_i g;cases a:Zbr l y.2 2 with
   | error e=>rw[a]at h;cases h
   | ok z=>
    rw[a]at h;injection h with h;subst h;have d:=Zev a;have f:=d.2.2.2;exact⟨by show z.2<=_;omega,by show y.1<=13;omega,f⟩
theorem ZmL{x:(Nd×Nat)×Nat}(h:Zb4 l p=.ok x):x.2<=l.length:=by
 unfold Zb4 at h;cases a:ZcH l p with
 | error e=>rw[a]at h;cases h
 | ok y=>
  rw[a]at h;simp only at h;cases c:ZbA y.1 with
  | none=>rw[c]at h;cases h
  | some z=>rw[c]at h;injection h with h;subst h;exact(Zkl a).2
theorem ZlE{x:List (LB)×Nat}(h:ZbX l p=.ok x):x.2<=l.length:=by
 unfold ZbX at h;cases a:ZcH l p with
 | error e=>rw[a]at h;cases h
 | ok y=>
  rw[a]at h;simp only at h;cases c:ZcG y.1 with
  | none=>rw[c]at h;cases h
  | some z=>rw[c]at h;injection h with h;subst h;exact(Zkl a).2
