/- Parts. -/
import Derived.Test.YtcdgkkfipdoeeaaGreatDoorU07
import Derived.Deep.DrawnRows
set_option linter.all false
set_option maxRecDepth 100000
set_option maxHeartbeats 16000000
namespace Go.Proofs.YtcdgkkfipdoeeaaGreatDoor
open Go.RowKit LS Go.Proofs.Tryz
variable {r ts:List Tok}{d deep h k lv m n z:Nat}{rec:Nat->List Tok->Nat->Out Tr}{p:PTok}{R:RS}{t u:Tok}{a:Tr}{w:World}
section
theorem Zt6(a:h % 2=1):bitS h=(h / 2) ^^^ 3988292384:=if_pos a
theorem Zt4(a:¬h % 2=1):bitS h=h / 2:=if_neg a
theorem ZrR{k:IntKind}{a b:Int}(h:a=b):Ending.returned (.int k a)=.returned (.int k b):=by rw[h]
theorem ZE4{a:Nat}(d:a<4294967296)(c:UInt8):bits .xor .u32 (a:Int) ((c.toNat:Int) % 4294967296)=((a ^^^ c.toNat:Nat):Int):=by
 have e:=c.toNat_lt;rw[show((c.toNat:Int) % 4294967296)=(c.toNat) by omega];exact u32_xor_nat _ _ d Om
theorem ZE5(a:z<4294967296):4294967295 ^^^ z=4294967295 - z:=by
 have h:(BitVec.allOnes _ ^^^ BitVec.ofNat 32 z).toNat=(~~~ BitVec.ofNat 32 z).toNat:=by rw[BitVec.allOnes_xor]
 rw[BitVec.toNat_xor,BitVec.toNat_not,Yeo,Yd4 a]at h;exact h
theorem Zzq(a:z<4294967296):bits .xor .u32 IntKind.u32.max (z:Int)=4294967295 - (z:Int):=by
 have:=u32_xor_nat 4294967295 z Dc a;rw[ZE5 a]at this;rw[show IntKind.u32.max=((4294967295:Nat)) from rfl,this];omega
theorem ZtI(a:z<4294967296):bits .and .u32 (z:Int) 1=(z:Int) % 2:=by
 have:=u32_and_nat z 1 a Dc;rw[Nat.and_one_is_mod]at this;rw[show(1)=((1:Nat):Int) from rfl,this];omega
theorem Zru(s:BA)(w:World)(r:s.size<=maxLen) :
  CP 73 #[.string s] w fun e u=>e=.returned (.int .u32 (sumQ (bl s)))/\u=w:=by
 unfold maxLen at r;go_enter func73,ntmps73;go_wp2
 go_loop [3,8] (fun h i=>∃k:Nat,k<=s.size/\i=Vi k/\h=.int .u32 (sumL ((bl s).take k))) (fun _ i=>s.size - (intOf i).toNat)
 case atStart=>exact⟨0,Yag _,rfl,rfl⟩
 case round=>
  obtain⟨k,E,rfl,rfl⟩:=hrel;have c:=ZCX ((bl s).take k);obtain⟨a,d⟩:∃a,sumL ((bl s).take k)=a:=⟨_,rfl⟩
  have f:=hid d;rw[d]at c ⊢;by_cases n:k<s.size
  ·have t:=ZE4 c s[k];have g:Hid (sumL ((bl s).take (k+1))=ZfS 8 (a ^^^ s[k].toNat)):=by rw[ZiB s k n,Zsz,f];rfl
   have l:a ^^^ s[k].toNat<4294967296:=Zty c _;obtain⟨g0,o⟩:∃g0,a ^^^ s[k].toNat=g0:=⟨_,rfl⟩
   rw[o]at t g l;go_wp2
   go_loop [3,17] (fun h i=>∃j:Nat,j<=8/\i=Vi j/\h=.int .u32 (ZfS j g0)) (fun _ i=>8 - (intOf i).toNat)
   case atStart=>exact⟨0,Yag _,rfl,rfl⟩
   case round=>
    obtain⟨j,F,rfl,rfl⟩:=hrel;by_cases C:j<8
    ·have v:=ZkX l j;have p:Hid (ZfS (j+1) g0=bitS _):=rfl;generalize ZfS j g0=z at *
     have x:=ZtI v;by_cases q:z % 2=1
     ·have D:bits .xor .u32 ((z) / 2) 3988292384=((z / 2 ^^^ 3988292384:Nat)):=by
       have:=u32_xor_nat (z / 2) 3988292384 Om Om;simpa using this
      have A:((z:Int) % 2 == 1)=true:=by rw[beq_iff_eq];omega
      have m:=hid (Zt6 q);go_wp2
      go_round
      case rel=>exact⟨j+1,by omega,by go_num,by rw[p,m]⟩
      case measure=>simp[intOf];omega
     ·have A:((z:Int) % 2 == 1)=false:=by rw[beq_eq_false_iff_ne];omega
      have m:=hid (Zt4 q);go_wp2
      go_round
      case rel=>exact⟨j+1,by omega,by go_num,by rw[p,m];go_num⟩
      case measure=>simp[intOf];omega
    ·obtain rfl:j=8:=by omega
     go_wp2
     go_round
     case rel=>exact⟨k+1,by omega,by go_num,by rw[g]⟩
     case measure=>simp[intOf];omega
  ·have B:Hid (sumQ _=4294967295 - a):=hid (by
    unfold sumQ;rw[<-f,Ya5 (by rw[Zd];omega)])
   have G:=Zzq c;go_wp2;go_ret;exact⟨ZrR (by rw[B];omega),rfl⟩
attribute [local go_sem ↓] Go.wp_at_zero Go.wp_at_succ
theorem ZCi(l:LB):(1<=numI 1000 l ↔ 1<=numV l/\numV l<=1000)/\(1<=numI 1000 l->numI 1000 l=numV l):=by
 unfold numI numV ZQ;by_cases c:l.length<1∨(l.head?=some 48/\1<l.length)∨l.all ZC=false
 ·rw[if_pos (by rcases c with h|h|h;exact .inl h;exact .inr (.inl h);exact .inr (.inr (.inl h)))];rw[if_pos (by rcases c with h|h|h;exact .inl h;exact .inr (.inl h);exact .inr (.inr (.inl h)))];simp
 ·have e:∀most,most<val l->(l.length<1∨(l.head?=some 48/\1<l.length)∨l.all ZC=false∨most<val l):=fun _ h=>.inr (.inr (.inr h))
  have d:∀most,¬most<val l->¬(l.length<1∨(l.head?=some 48/\1<l.length)∨l.all ZC=false∨most<val l):=by
   rintro most h (a|a|a|a)
   ·exact c (.inl a)
   ·exact c (.inr (.inl a))
   ·exact c (.inr (.inr a))
   ·exact h a
  by_cases a:1000<val l
  ·rw[if_pos (e _ a)];by_cases f:1000000000<val l
   ·rw[if_pos (e _ f)];simp
   ·rw[if_neg (d _ f)];simp only[Ya6];constructor
    ·constructor
     ·intro h;omega
     ·intro h;omega
    ·intro h;omega
  ·rw[if_neg (d _ a),if_neg (d _ Om)];simp only[Ya6];constructor
   ·constructor
    ·intro h;omega
    ·intro h;omega
   ·intro _;trivial
def lenP(ts:List Tok):Out Int:=bnd (Zq [91] ts) fun _ r=>bnd (Zc2 r) fun n r=>bnd (Zq [93] r) fun _ r=>.ok (n,r)
theorem Zs8 (o : Nat) (ts : List Tok) : winP o ts = bnd (Zq [40] ts) fun _ r => bnd (selP r) fun p r => bnd (lenP r) fun n r => bnd (Zq [41] r) fun _ r => .ok (Zbg ⟨2, o, n, p.name, p.ku, []⟩, r) := by
  unfold winP lenP;cases a:Zq [40] ts with
  | error e=>rfl
  | ok p1=>
    obtain⟨a1,r1⟩:=p1;simp only[bnd];cases c:selP r1 with
    | error e=>rfl
    | ok p2=>
      obtain⟨a2,r2⟩:=p2;simp only;cases d:Zq [91] r2 with
      | error e=>rfl
      | ok p3=>
        obtain⟨a3,r3⟩:=p3;simp only;cases f:Zc2 r3 with
        | error e=>rfl
        | ok p4=>
          obtain⟨a4,r4⟩:=p4;simp only;cases g:Zq [93] r4 with
          | error e=>rfl
          | ok p5=>rfl
theorem Ze7(s:LB)(ts:List Tok):(isT s (hd ts)=true/\Zq s ts=.ok ((),ts.tail))∨(¬isT s (hd ts)=true/\Zq s ts=.error (2,(hd ts).at_)):=by
 by_cases h:isT s (hd ts)=true
 ·exact .inl ⟨h,ZdU h⟩
 ·exact .inr ⟨h,Ze8 h⟩
theorem ZEJ(h:RK w R k ts) :
  CP 170 #[Vp R.b] w fun e u=>∃(n:Int) (v:Value),e=.returned (.tuple #[Vi n,v])/\Hid (Res R (fun _ m=>n=m) u (lenP ts) v)/\w.grownBy u (some R.b):=by
 have H:=hid h;have a0:=(Yae.1 h.rd.cells).1;go_enter func170,ntmps170
 go_wp2_with fail
 refine(ZdT H _ Dc Dc).mono ?_;rintro e w1 ⟨v,rfl,f,hg⟩;have L:=hid hg;rcases Ze7 [91] ts with ⟨s,c⟩|⟨s,c⟩
 ·obtain⟨rfl,⟨k1,d⟩,_⟩:=f.good c;have M:=hid d;have A:Hid (lenP ts=bnd (Zc2 ts.tail) fun n r=>bnd (Zq [93] r) fun _ r=>.ok (n,r)):=by unfold lenP;rw[c];rfl
  go_wp2_with fail
  refine(Zee M).mono ?_;rintro e z ⟨⟨kd,at_,tx,tv⟩,rfl,B,N⟩;have C:=hid (Zj L (Zw N));have O:=hid (M.below N)
  go_upto_region 5 with fail
  refine ZP fun W6 D=>?_;have E:Below _ _ _:=D▸Zbal;have F:Hid (BAt _ _ [.int _ _,.int _ _,.string _,.int _ _] 74):=D▸bnw;have o:=hid (Zj C (Zw E));have g:=hid (O.below E);have a1:R.b<z.heap.size:=by have:=C.size;omega
  clear D E O C;have t0:=F.cell;have i:=ZCi (hd ts.tail).txt;by_cases d:(hd ts.tail).jk=1
  ·have P:kd=0:=by have:=B.1;rw[d]at this;exact this
   subst P;have p:(tv)=numV _:=B.2.2.2 d;by_cases t:1<=numI 1000 (hd ts.tail).txt
   ·have x:=i.1.1 t;rw[<-p]at x;have Q:=x.1;have G:=x.2;have U:Hid (Zc2 _=.ok _):=hid (by unfold Zc2;rw[if_pos ⟨d,t⟩,i.2 t,<-p]);have HD:Hid (¬((hd ts.tail).jk=0∨(hd ts.tail).jk=5)):=hid Om;obtain⟨rc0,rc1,rfz,rcx⟩:=g.rd.all;have a2:=g.lt;have a3:=g.len;clear t i p x d B
    go_upto_region 8 with fail
    refine ZP fun W8 q=>?_;have V:Hid _:=q▸g.step HD.out;have W:Hid _:=q▸ZA o.out (Or.inl rfl) _;have X:Hid (BAt _ _ _ _):=q▸F.other (by show z.heap.size≠R.b;omega) _;clear q rc0 rc1 rfz rcx t0 F g o;have e3:=X.cell 3;simp only[Zget]at e3;have S:=hid (V.below ((Yaf _ _).drew));have T:=hid (Zj W (Zw ((Yaf _ _).drew)))
    go_region_held3 (fun u => u.cell? ⟨z.heap.size, 3, none⟩ = some (Vi tv)) (first | exact e9 | exact e3 | go_keep) (first
      | (go_at_call 166
         refine(ZdT S.out ⟨#[93]⟩ Dc Dc).mono ?_;rintro e Y ⟨v,rfl,f,I⟩;have e9:Y.cell? ⟨z.heap.size,3,none⟩=some (Vi tv):=(Ycc (a:=⟨z.heap.size,3,none⟩) (I.block _ (Yai _ _ e3) (by simp;omega))).trans e3;have Z:Hid (w.grownBy Y (some R.b)):=Zj T.out I;clear I))
    all_goals
     go_wp2;go_ret2;refine⟨_,_,rfl,?_,Z⟩;rw[A,U];show Hid (Res R _ _ (bnd (Zq [93] ts.tail.tail) _) _);rcases Ze7 [93] ts.tail.tail with ⟨_,c⟩|⟨_,c⟩
     ·obtain⟨s,h2,_⟩:=f.good c;rw[c];exact⟨s,h2,rfl⟩
     ·have:=f.err c;rw[c];exact this
   ·have j:Hid (lenP ts=.error (2,(hd ts.tail).at_)):=by rw[A];unfold Zc2;rw[if_neg (fun h=>t h.2)];rfl
    have x:(tv:Int)<1∨1000<(tv:Int):=by
     rw[p];by_cases s:1<=numV (hd ts.tail).txt/\numV (hd ts.tail).txt<=1000
     ·exact absurd (i.1.2 s) t
     ·omega
    by_cases Q:(tv:Int)<1
    all_goals
     have G:¬(tv:Int)<1->1000<(tv:Int):=by omega
     clear x
     try have a4:=G Q
     clear G
     go_wp2_with fail
     refine(Zfi g).mono ?_;rintro e wE ⟨v,rfl,J,l⟩;obtain⟨fa,rfl⟩:=J.shape;have K:=hid (Zj o (Zw l));clear l;go_wp2;go_ret2;exact⟨_,_,rfl,by rwa [j.out],K⟩
  ·have P:((kd:Int) != 0)=true:=by
    rw[bne_iff_ne];intro e;exact d ((Ze0 g.wf.head.2.2).2.2.2.1.1 (by have:=B.1;simp only at this;omega))
   have j:Hid (lenP ts=.error (2,(hd ts.tail).at_)):=by rw[A];unfold Zc2;rw[if_neg (fun h=>d h.1)];rfl
   clear i B d
   go_wp2_with fail
   refine(Zfi g).mono ?_;rintro e wE ⟨v,rfl,J,l⟩;obtain⟨fa,rfl⟩:=J.shape;have K:=hid (Zj o (Zw l));clear l;go_wp2;go_ret2;exact⟨_,_,rfl,by rwa [j.out],K⟩
 ·have j:Hid (lenP ts=.error (2,(hd ts).at_)):=by unfold lenP;rw[c];rfl
  have J:=hid (f.err c);obtain⟨fa,rfl⟩:=J.shape;clear f c s;go_wp2;go_ret2;exact⟨_,_,rfl,by rwa [j.out],L⟩
end
section
attribute [local go_sem ↓] Go.wp_at_zero Go.wp_at_succ
theorem ZEK(h:RK w R k ts){J:BA}(o:Nat)(N:bl J=Z0.getD o []) :
  CP 107 #[Vp R.b,.string J] w fun e u=>∃(pv v:Value),e=.returned (.tuple #[pv,v])/\Zhp pv/\Hid (Res R (fun u t=>Zh u t pv) u (winP o ts) v)/\w.grownBy u (some R.b):=by
 have H:=hid h;have O:=hid N;have a8:=(Yae.1 h.rd.cells).1;go_enter func107,ntmps107
 go_wp2_with fail
 refine(ZdT H _ Dc Dc).mono ?_;rintro e w1 ⟨v,rfl,c,hg⟩;have B:=hid hg;rcases Ze7 [40] ts with ⟨K,d⟩|⟨K,d⟩
 ·obtain⟨rfl,⟨k1,P⟩,_⟩:=c.good d;have Q:=hid P;have C:Hid (winP o ts=bnd (selP ts.tail) fun p r=>bnd (lenP r) fun n r=>bnd (Zq [41] r) fun _ r=>.ok (Zbg ⟨2,o,n,p.name,p.ku,[]⟩,r)):=by rw[Zs8,d];rfl
  go_wp2_with fail
  refine(Zsd Q).mono ?_;rintro e z ⟨nm,la,ln,lc,v,rfl,c,S⟩;have m:=hid (Zj B S);have a9:R.b<z.heap.size:=by have:=m.size;omega
  cases i:selP ts.tail with
  | error er=>
   have l:=hid (c.err i);obtain⟨fa,rfl⟩:=l.shape;have f:Hid (winP o ts=.error er):=by rw[C,i];rfl
   go_wp2;go_ret2;exact⟨_,_,rfl,.inl rfl,f.out▸l.below Zbal,ZbR m _⟩
  | ok pr=>
   obtain⟨nd,r2⟩:=pr;obtain⟨rfl,⟨k2,T⟩,U,V⟩:=c.good i;have D:Hid (winP o ts=bnd (lenP r2) fun n r=>bnd (Zq [41] r) fun _ r=>.ok (Zbg ⟨2,o,n,nd.name,nd.ku,[]⟩,r)):=by rw[C,i];rfl
   have W:=hid U;have X:=hid V;have Y:=hid T
   go_wp2_with fail
   refine Zm fun W3 E=>?_;have q:Below _ _ _:=E▸Zbal;have Z:Hid (BAt _ _ _ 148):=E▸bnw;have a0:=hid (Zj m (Zw q));have F:=hid (Y.below q);have a1:=hid (X.below q);refine(ZEJ F).mono ?_;rintro e w4 ⟨n,v,rfl,c,s⟩;have G:=hid (Zj a0 s);have a2:=hid (a1.read F s);have I:=hid (Z.grown s (by simp;omega));cases j:lenP r2 with
   | error er=>
    have l:=hid (c.err j);obtain⟨fa,rfl⟩:=l.shape;have f:Hid (winP o ts=.error er):=by rw[D,j];rfl
    go_wp2;go_ret2;exact⟨_,_,rfl,.inl rfl,by rwa [f.out],G⟩
   | ok pr=>
    obtain⟨n',r4⟩:=pr;obtain⟨rfl,⟨k4,a3⟩,hn⟩:=c.good j;subst hn;have a4:Hid (winP o ts=bnd (Zq [41] r4) fun _ r=>.ok (Zbg ⟨2,o,n,nd.name,nd.ku,[]⟩,r)):=by rw[D,j];rfl
    have a5:=hid a3;have e0:=I.cell 0;have e1:=I.cell 1;simp only[Zget]at e0 e1;have x:=hid (a5.below ((Yaf _ _).drew));have L:=hid (Zj G (Zw ((Yaf _ _).drew)));have M:=hid (a2.below ((Yaf _ _).drew))
    go_upto_region 10 with fail
    go_region_held3 (fun u => u.cell? ⟨z.heap.size, 0, none⟩ = some (.string nm) /\ u.cell? ⟨z.heap.size, 1, none⟩ = some (.slice la ln lc)) (first | exact ⟨e90, e91⟩ | exact ⟨e0, e1⟩ | go_keep) (first
      | (go_at_call 166
         refine(ZdT x.out ⟨#[41]⟩ Dc Dc).mono ?_;rintro e A ⟨v,rfl,c,g⟩;have e90:A.cell? ⟨z.heap.size,0,none⟩=some (.string nm):=(Ycc (a:=⟨z.heap.size,0,none⟩) (g.block _ (Yai _ _ e0) (by simp;omega))).trans e0;have e91:A.cell? ⟨z.heap.size,1,none⟩=some (.slice la ln lc):=(Ycc (a:=⟨z.heap.size,1,none⟩) (g.block _ (Yai _ _ e1) (by simp;omega))).trans e1;have a6:Hid (w.grownBy A (some R.b)):=Zj L.out g;have a7:Hid (ZX A (.slice la ln lc) nd.ku):=M.read x.out g;clear g))
    all_goals
     go_wp2;go_ret2;refine⟨_,_,rfl,.inr ⟨_,_,rfl⟩,?_,a6⟩;rw[a4];rcases Ze7 [41] r4 with ⟨_,d⟩|⟨_,d⟩
     ·obtain⟨K,h2,_⟩:=c.good d;rw[d];exact⟨K,h2,.inr (.inr (.inl ⟨rfl,J,nm,la,ln,lc,rfl,O,W,a7⟩))⟩
     ·have:=c.err d;rw[d];exact this
 ·have f:Hid (winP o ts=.error (2,(hd ts).at_)):=by rw[Zs8,d];rfl
  have l:=hid (c.err d);obtain⟨fa,rfl⟩:=l.shape;go_wp2;go_ret2;exact⟨_,_,rfl,.inl rfl,by rwa [f.out],B⟩
end
section
def ZeO(f:FuncId)(args:Nat->List Value)(P:List Tok->Nat->Out Tr)(ok:List Tok->Prop):Prop:=∀(w:World) (R:RS) (k:Nat) (ts:List Tok) (deep:Nat),RK w R k ts->deep<=20->ok ts->
 CP f ⟨Vp R.b::args deep⟩ w fun e w'=>∃(pv v:Value),e=.returned (.tuple #[pv,v])/\Zhp pv/\Hid (Res R (fun w' t=>Zh w' t pv) w' (P ts deep) v)/\w.grownBy w' (some R.b)
theorem Zug {rec : Nat -> List Tok -> Nat -> Out Tr}  (L : ZeO 28 (fun d => [Vi 0, Vi (d + 1 : Nat)]) (rec 0) (fun ts => ts.length < m)) :
    ZeO 103 (fun d=>[Vi (d+1:Nat)]) (Zbu rec) (fun ts=>ts.length<=m):=by
  intro w R k ts deep h hd u;have H:=hid h;have M:=hid hd;have N:=hid u;go_enter func103,ntmps103
  go_wp2_with fail
  refine(ZdT H _ Dc Dc).mono ?_;rintro e Q ⟨v,rfl,c,O⟩;have j:=hid O;rcases Ze7 [40] ts with ⟨q,f⟩|⟨q,f⟩
  · obtain⟨rfl,⟨k1,x⟩,_⟩:=c.good f
    have A:=hid x;have l:Hid (Zbu rec ts deep=bnd (rec 0 ts.tail deep) fun a r=>bnd (Zq [41] r) fun _ r=>.ok (a,r)):=by unfold Zbu;rw[f];rfl
    go_wp2_with fail
    refine(L _ R _ _ _ A M (by show ts.tail.length<m;have:=H.pos;have:=N.out;rw[Yb4];omega)).mono ?_;rintro e z ⟨pv,v,rfl,B,c,C⟩;have n:=hid (Zj j C);cases g:rec 0 ts.tail deep with
    | error er=>
      have s:=hid (c.err g);obtain⟨fa,rfl⟩:=s.shape;have i:Hid (Zbu rec ts deep=.error er):=by rw[l,g];rfl
      go_wp2;go_ret2;exact⟨_,_,rfl,.inl rfl,by rwa [i.out],n⟩
    | ok pr=>
      obtain⟨t,r2⟩:=pr;obtain⟨rfl,⟨k2,D⟩,E⟩:=c.good g;have F:Hid (Zbu rec ts deep=bnd (Zq [41] r2) fun _ r=>.ok (t,r)):=by rw[l,g];rfl
      have o:=hid D;have G:=hid E
      go_wp2_with fail
      refine(ZdT o _ Dc Dc).mono ?_;rintro e S ⟨v,rfl,c,p⟩;have I:=hid (Zj n p);have J:=hid (G.read o p);have K:=hid B;go_wp2;go_ret2;refine⟨_,_,rfl,K,?_,I⟩;rw[F];rcases Ze7 [41] r2 with ⟨_,f⟩|⟨_,f⟩
      · obtain⟨q,P,_⟩:=c.good f
        rw[f];exact⟨q,P,J⟩
      · have:=c.err f
        rw[f];exact this
  · have i:Hid (Zbu rec ts deep=.error (2,(LS.hd ts).at_)):=by unfold Zbu;rw[f];rfl
    have s:=hid (c.err f);obtain⟨fa,rfl⟩:=s.shape;go_wp2;go_ret2;exact⟨_,_,rfl,.inl rfl,by rwa [i.out],j⟩
theorem ZpI (rec : Nat -> List Tok -> Nat -> Out Tr) (g : Nat) (ts : List Tok) (deep : Nat) : Zcb rec g ts deep = bnd (Zq wBy ts) fun _ r => bnd (bnd (Zq [40] r) fun _ r => ZS (ZH 2) [41] (r.length + 1) [] r) fun ns r => bnd (Zbu rec r deep) fun a r => .ok (.node 0 0 ⟨5, g, 0, [], [], ns⟩ a .nil, r) := by
  unfold Zcb;cases c:Zq wBy ts with
  | error e=>rfl
  | ok p1=>
    obtain⟨a1,r1⟩:=p1;simp only[bnd];cases d:Zq [40] r1 with
    | error e=>rfl
    | ok p2=>rfl
theorem Zyz  {ns : List (LB)}  (h : (bnd (Zq [40] ts) fun _ r => ZS (ZH 2) [41] (r.length + 1) [] r) = .ok (ns, r)) : r.length <= ts.length := by
  have l:∀(n:Nat) (acc:List _) (ts:List _) (z:List _×List _),ZS (ZH 2) [41] n acc ts=.ok z->z.2.length<=ts.length:=by
    intro n
    induction n with
    | zero=>intro acc ts z h;cases h
    | succ n ih=>
      intro acc ts z h;by_cases j:isT [41] (hd ts)=true
      · rw[Zma j]at h;cases h;simp
      · have f:=Yce.2 j
        by_cases k:acc=[]
        · subst k
          rw[Zmb f]at h;cases d:ZH 2 ts with
          | error e=>rw[d]at h;cases h
          | ok p=>
            obtain⟨a,r⟩:=p;rw[d]at h;have g:=ih _ _ _ h;have i:=Zjt d;subst i;simp at g;omega
        · rw[Zmd f k]at h
          rcases Ze7 [44] ts with ⟨_,c⟩|⟨_,c⟩
          · rw[c]at h
            simp only[bnd]at h;cases d:ZH 2 ts.tail with
            | error e=>rw[d]at h;cases h
            | ok p=>
              obtain⟨a,r⟩:=p;rw[d]at h;have g:=ih _ _ _ h;have i:=Zjt d;subst i;simp at g;omega
          · rw[c]at h;cases h
  rcases Ze7 [40] ts with ⟨_,c⟩|⟨_,c⟩
  · rw[c]at h
    have:=l _ _ _ _ h;simp at this;omega
  · rw[c]at h;cases h
theorem ZwJ {rec : Nat -> List Tok -> Nat -> Out Tr}  (S : ZeO 103 (fun d => [Vi (d + 1 : Nat)]) (Zbu rec) (fun ts => ts.length <= m)) {x:BA} (g : Nat) (C : bl x = ZW.getD g []) :
    ZeO 105 (fun d=>[.string x,Vi (d+1:Nat)]) (Zcb rec g) (fun ts=>ts.length<=m):=by
  intro w R k ts deep h hd D;have H:=hid h;have E:=hid C;have T:=hid hd;have U:=hid D;go_enter func105,ntmps105
  go_wp2_with fail
  refine(ZC8 H Dc Dc).mono ?_;rintro e Y ⟨v,rfl,c,V⟩;have l:=hid V;rcases Ze7 wBy ts with ⟨A,f⟩|⟨A,f⟩
  · obtain⟨rfl,⟨k1,F⟩,_⟩:=c.good f
    have G:=hid F;have n:Hid (Zcb rec g ts deep=bnd (bnd (Zq [40] ts.tail) fun _ r=>ZS (ZH 2) [41] (r.length+1) [] r) fun ns r=>bnd (Zbu rec r deep) fun a r=>.ok (.node 0 0 ⟨5,g,0,[],[],ns⟩ a .nil,r)):=by rw[ZpI,f];rfl
    go_wp2_with fail
    refine(ZyA G Dc Dc).mono ?_;rintro e z ⟨la,ln,lc,v,rfl,c,I⟩;have o:=hid (Zj l I);cases i:(bnd (Zq [40] ts.tail) fun _ r=>ZS (ZH 2) [41] (r.length+1) [] r)with
    | error er=>
      have B:=hid (c.err i);obtain⟨fa,rfl⟩:=B.shape;have j:Hid (Zcb rec g ts deep=.error er):=by rw[n,i];rfl
      go_wp2;go_ret2;exact⟨_,_,rfl,.inl rfl,by rwa [j.out],o⟩
    | ok pr=>
      obtain⟨ns,r2⟩:=pr;obtain⟨rfl,⟨k2,J⟩,K⟩:=c.good i;have L:Hid (Zcb rec g ts deep=bnd (Zbu rec r2 deep) fun a r=>.ok (.node 0 0 ⟨5,g,0,[],[],ns⟩ a .nil,r)):=by rw[n,i];rfl
      have p:=hid J;have M:=hid K;have N:Hid (r2.length<=m):=hid (by have:=Zyz i;have:=U.out;rw[Yb4]at *;omega)
      go_wp2_with fail
      refine(S _ R _ _ _ p T N).mono ?_;rintro e Z ⟨pv,v,rfl,O,c,q⟩;have P:=hid (Zj o q);have Q:=hid (M.read p q);rcases O with rfl|⟨ty,u,rfl⟩
      all_goals
        go_wp2;go_ret2;refine⟨_,_,rfl,.inr ⟨_,_,rfl⟩,?_,P⟩;rw[L];cases s:Zbu rec r2 deep with
        | error er=>exact c.err s
        | ok pr=>
          obtain⟨t,r3⟩:=pr;obtain⟨A,W,X⟩:=c.good s;exact⟨A,W,.inr (.inr (.inr (.inr (.inl ⟨rfl,x,la,ln,lc,_,rfl,E,Q,X⟩))))⟩
  · have j:Hid (Zcb rec g ts deep=.error (2,(LS.hd ts).at_)):=by rw[ZpI,f];rfl
    have B:=hid (c.err f);obtain⟨fa,rfl⟩:=B.shape;go_wp2;go_ret2;exact⟨_,_,rfl,.inl rfl,by rwa [j.out],l⟩
theorem ZlM{w:LB} : ∀ {l:List (LB)} {g:Nat},idx w l=some g->l.getD g []=w
 | [],_,h=>by cases h
 | x :: l, g, h => by
   unfold idx at h;by_cases a:x=w
   · rw[if_pos a]at h
     cases h;exact a
   · rw[if_neg a]at h
     cases c:idx w l with
     | none=>rw[c]at h;cases h
     | some j=>
       rw[c]at h;cases h;exact ZlM (l:=l) c
theorem Zt2(h:Zdf p t)(f:Zdt t)(d:t.jk<=5):ZhO p=ZdD t:=by
 have m1:=ZdP h f d (s:=⟨#[45]⟩) Dc Dc;have m2:=ZdP h f d (s:=⟨#[40]⟩) Dc Dc;have g:p.tx.toList=t.txt:=by rw[Zbt];exact h.2.2.1
 unfold ZhO ZdD;have a:=Ze0 d;have c:=h.1;by_cases k1:t.jk=1
 ·have e:((p.kd:Int) == 0)=true:=by rw[c,a.2.2.2.1.2 k1];rfl
  rw[e,k1];simp
 ·have e:((p.kd:Int) == 0)=false:=by
   rw[beq_eq_false_iff_ne];intro e;exact k1 (a.2.2.2.1.1 Om)
  rw[e,beq_eq_false_iff_ne.2 k1];by_cases k2:t.jk=2
  ·have e2:((p.kd:Int) == 1)=true:=by rw[c,a.2.1.2 k2];rfl
   have z1:isT [45] t=false:=by rw[<-show ZY p _=isT [45] t from m1];unfold ZY;rw[c,a.2.1.2 k2];rfl
   have z2:isT [40] t=false:=by rw[<-show ZY p _=isT [40] t from m2];unfold ZY;rw[c,a.2.1.2 k2];rfl
   rw[e2,z1,z2,k2,g];unfold isT;rw[k2];simp[wOr,wBy]
  ·have e2:((p.kd:Int) == 1)=false:=by
    rw[beq_eq_false_iff_ne];intro e;exact k2 (a.2.1.1 Om)
   rw[e2,beq_eq_false_iff_ne.2 k2,show ZY p _=isT [45] t from m1,show ZY p _=isT [40] t from m2];simp
theorem Zw6(h:(hd ts).jk=1):Zbw rec ts d=.ok (Zbg ⟨0,0,numV (hd ts).txt,[],[],[]⟩,ts.tail):=if_pos h
theorem Zw5 {rec : Nat -> List Tok -> Nat -> Out Tr}   (h : ¬ (hd ts).jk = 1) (c : isT [45] (hd ts) = true) : Zbw rec ts d = bnd (rec 3 ts.tail d) fun a r => .ok (.node 0 0 (nd0 3 0) a .nil, r) := by
  unfold Zbw;rw[if_neg h,if_pos c]
theorem Zxa(h:¬(hd ts).jk=1)(a:¬isT [45] (hd ts)=true)(c:isT [40] (hd ts)=true):Zbw rec ts d=Zbu rec ts d:=by
 unfold Zbw;rw[if_neg h,if_neg a,if_pos c]
theorem Zw3{g:Nat}(h:¬(hd ts).jk=1)(a:¬isT [45] (hd ts)=true)(c:¬isT [40] (hd ts)=true)(e:idx (hd ts).txt ZW=some g):Zbw rec ts d=Zcb rec g ts.tail d:=by
 unfold Zbw;rw[if_neg h,if_neg a,if_neg c,e]
theorem Zw9{o:Nat}(h:¬(hd ts).jk=1)(a:¬isT [45] (hd ts)=true)(c:¬isT [40] (hd ts)=true)(e:idx (hd ts).txt ZW=none)(f:idx (hd ts).txt Z0=some o):Zbw rec ts d=winP o ts.tail:=by
 unfold Zbw;rw[if_neg h,if_neg a,if_neg c,e];simp only;rw[f]
theorem Zw8 {rec : Nat -> List Tok -> Nat -> Out Tr}   (h : ¬ (hd ts).jk = 1) (a : ¬ isT [45] (hd ts) = true) (c : ¬ isT [40] (hd ts) = true) (e : idx (hd ts).txt ZW = none) (f : idx (hd ts).txt Z0 = none) : Zbw rec ts d = bnd (selP ts) fun p r => .ok (Zbg p, r) := by
  unfold Zbw;rw[if_neg h,if_neg a,if_neg c,e];simp only;rw[f]
theorem ZCJ(h:ZdD t=true):¬(t.jk=0∨t.jk=5):=by
 rintro(a|a)
 all_goals
  unfold ZdD isT at h;rw[a]at h;simp at h
theorem Zv2
  (b6:ZeO 51 (fun d=>[Vi (d+1:Nat)]) (rec 3) (fun ts=>ts.length<m))
  (a9:ZeO 103 (fun d=>[Vi (d+1:Nat)]) (Zbu rec) (fun ts=>ts.length<=m)) :
  ZeO 51 (fun d=>[Vi (d+1:Nat)]) (Zb9 rec) (fun ts=>ts.length<=m):=by
 intro w R k ts deep h b7 b8;have H:=hid h;have HD:=hid b7;have HM:=hid b8;have c4:=(Yae.1 h.rd.cells).1;go_enter func51,ntmps51
 go_wp2_with fail
 refine(Zee H).mono ?_;rintro e w1 ⟨⟨kd,at_,tx,tv⟩,rfl,I,b0⟩;have a0:Hid (w.grownBy _ (some R.b)):=Zw b0;have b1:=hid (H.below b0)
 go_upto_region 2 with fail
 refine ZP fun W2 a1=>?_;have a2:Below _ _ _:=a1▸Zbal;have J:Hid (BAt _ _ [.int _ _,.int _ _,.string _,.int _ _] 74):=a1▸bnw;have b9:=hid (Zj a0 (Zw a2));have b2:=hid (b1.below a2);have c5:R.b<w1.heap.size:=by have:=a0.size;omega
 have q:=hid b2.wf.head;clear a1 a2 a0 b1;have t0:=J.cell 0;have t1:=J.cell 1;have t2:=J.cell 2;have t3:=J.cell 3;simp only[Zget]at t0 t1 t2 t3
 go_wp2_with fail
 refine(Zt1 ⟨kd,at_,tx,tv⟩ W2).mono ?_;rintro e w3 ⟨rfl,a3⟩;rw[Zt2 I q.1 q.2.2];have n:=hid (J.below a3);have K:=hid (Zj b9 (Zw a3));have p:=hid (b2.below a3);cases L:ZdD (LS.hd ts)
 ·have a4:Hid (Zb9 rec _ deep=.error _):=hid (by unfold Zb9;rw[if_neg (by rw[L];decide)])
  go_wp2_with fail
  refine(Zfi p).mono ?_;rintro e wE ⟨v,rfl,HE,c1⟩;obtain⟨fa,rfl⟩:=HE.shape;have a5:=hid (Zj K (Zw c1));go_wp2;go_ret2;exact⟨_,_,rfl,.inl rfl,by rwa [a4.out],a5⟩
 ·have U:=hid (ZCJ L);by_cases G:deep=20
  ·have a4:Hid (Zb9 rec _ _=.error _):=hid (by unfold Zb9;rw[if_pos L,if_pos G]);subst G;have t1:=n.cell;have c6:=p.dp
   go_wp2_with fail
   refine(ZkT _ _).mono ?_;rintro e wE ⟨rfl,a6⟩;have HE:Hid (Z9 wE R (3,(LS.hd _).at_) _):=hid (.inr ⟨rfl,w3.heap.size,rfl,by rw[a6];refine bnw.trans ?_;rw[show(at_:Int)=((LS.hd _).at_) from congrArg _ I.2.1]⟩);have a5:Hid _:=a6▸ZbR K.out _;clear a6;go_wp2;go_ret2;exact⟨_,_,rfl,.inl rfl,by rwa [a4.out],a5⟩
  ·have c3:deep<=19:=by omega
   have C:Hid (Zb9 _ _ _=Zbw rec _ _):=hid (by unfold Zb9;rw[if_pos L,if_neg G]);obtain⟨rc0,rc1,rfz,rcx⟩:=p.rd.all;have c7:=p.lt;have c8:=p.len;clear rcx L G;have t0:=n.cell 0;have t1:=n.cell 1;have t2:=n.cell 2;have t3:=n.cell 3;simp only[Zget]at t0 t1 t2 t3;by_cases r:(LS.hd ts).jk=1
   ·have b3:kd=0:=by have:=I.1;rw[r]at this;exact this
    subst b3;have c2:Hid ((tv)=numV _):=I.2.2.2 r;have f:Hid (Zb9 _ _ _=.ok _):=hid (by rw[C,Zw6 r]);clear r
    go_upto_region 8 with fail
    refine ZP fun W8 a=>?_;have s:Hid _:=a▸p.step U.out;have x:Hid _:=a▸ZA K.out (Or.inl rfl) _;have M:Hid (BAt _ _ _ _):=a▸n.other (by show w1.heap.size≠R.b;omega) _;clear a rc0 rc1 rfz t0 t1 t2 t3;have t3:=M.cell;go_wp2;go_ret2;exact⟨_,_,rfl,.inr ⟨_,_,rfl⟩,f.out▸⟨rfl,⟨_,s.out⟩,Or.inl ⟨rfl,by rw[<-c2.out];rfl⟩⟩,x⟩
   ·have b3:((kd:Int) == 0)=false:=by
     rw[beq_eq_false_iff_ne];intro e;exact r ((Ze0 q.2.2).2.2.2.1.1 (by have:=I.1;simp only at this;omega))
    have z:=hid r;clear r
    go_wp2_with fail
    refine(Zf6 I.out q.1 q.2.2 _ Dc Dc w3).mono ?_;rintro e w4 ⟨rfl,V⟩;have A:=hid (n.below V);have W:=hid (Zj K (Zw V));have N:=hid (p.below V);clear V n K p t0 t1 t2 t3 rc0 rc1 rfz;obtain⟨rc0,rc1,rfz,rcx⟩:=N.rd.all;have t0:=A.cell 0;have t1:=A.cell 1;have t2:=A.cell 2;have t3:=A.cell 3;simp only[Zget]at t0 t1 t2 t3;clear rcx;by_cases D:isT [45] (LS.hd ts)=true
    ·rw[show isT (bl ⟨#[45]⟩) _=true from D];have f:Hid (Zb9 _ _ _=bnd _ _):=hid (by rw[C,Zw5 z D]);clear D
     go_upto_region 11 with fail
     refine ZP fun W8 a=>?_;have s:Hid _:=a▸N.step U.out;have x:Hid _:=a▸ZA W.out (Or.inl rfl) _;clear a rc0 rc1 rfz t0 t1 t2 t3 N W A
     go_wp2_with fail
     refine(b6 _ R _ _ _ s Om (by show ts.tail.length<m;have:=H.pos;have:=HM.out;rw[Yb4];omega)).mono ?_;rintro e w9 ⟨pv,v,rfl,j,i,c⟩;have l:=hid (Zj x c);clear c;rcases j with rfl|⟨ty,u,rfl⟩
     all_goals
      go_wp2;go_ret2;refine⟨_,_,rfl,.inr ⟨_,_,rfl⟩,?_,l⟩;rw[f];cases b4:rec 3 ts.tail (deep+1)with
      | error er=>exact i.err b4
      | ok pr=>
       obtain⟨t,r3⟩:=pr;obtain⟨h1,h2,h3⟩:=i.good b4;exact⟨h1,h2,.inr (.inr (.inr (.inl ⟨rfl,_,rfl,h3⟩)))⟩
    ·rw[show isT (bl ⟨#[45]⟩) _=false from Yce.2 D];have X:=hid D;clear D
     go_wp2_with fail
     refine(Zf6 I.out q.1 q.2.2 _ Dc Dc w4).mono ?_;rintro e w5 ⟨rfl,Y⟩;have O:=hid (A.below Y);have E:=hid (Zj W (Zw Y));have B:=hid (N.below Y);clear Y A W N t0 t1 t2 t3 rc0 rc1 rfz;obtain⟨rc0,rc1,rfz,rcx⟩:=B.rd.all;have t2:=O.cell 2;simp only[Zget]at t2;clear rcx;by_cases F:isT [40] (LS.hd ts)=true
     ·rw[show isT (bl ⟨#[40]⟩) _=true from F];have f:Hid (Zb9 _ _ _=Zbu _ _ _):=hid (by rw[C,Zxa z X F]);clear F
      go_wp2_with fail
      refine(a9 _ R k _ _ B Om HM).mono ?_;rintro e w9 ⟨pv,v,rfl,j,i,c⟩;have l:=hid (Zj E c);have P:=hid j;clear c j;go_wp2;go_ret2;exact⟨_,_,rfl,P,by rwa [f.out],l⟩
     ·rw[show isT (bl ⟨#[40]⟩) _=false from Yce.2 F];have T:=hid F;have Z:Hid (bl tx=(LS.hd _).txt):=I.2.2.1;clear F
      go_wp2_with fail
      refine(ZpX _ _).mono ?_;rintro e wq ⟨rfl,rfl⟩;rw[Z];cases Q:idx (LS.hd ts).txt ZW with
      | some g=>
       have f:Hid (Zb9 _ _ _=Zcb _ g _ _):=hid (by rw[C,Zw3 z X T Q]);have a7:Hid (bl _=ZW.getD g _):=hid (by rw[ZlM Q,Z]);rw[show(some g).isSome=true from rfl];clear Q
       go_upto_region 17 with fail
       refine ZP fun W8 a=>?_;have s:Hid _:=a▸B.step U.out;have x:Hid _:=a▸ZA E.out (Or.inl rfl) _;have M:Hid (BAt _ _ _ _):=a▸O.other (by show w1.heap.size≠R.b;omega) _;clear a rc0 rc1 rfz t2 B E O;have t2:=M.cell
       go_wp2_with fail
       refine(ZwJ a9 g a7 _ R _ _ _ s Om (by show ts.tail.length<=m;have:=HM.out;rw[Yb4];omega)).mono ?_;rintro e w9 ⟨pv,v,rfl,j,i,c⟩;have l:=hid (Zj x c);have P:=hid j;clear c j;go_wp2;go_ret2;exact⟨_,_,rfl,P,by rwa [f.out],l⟩
      | none=>
       rw[show(none).isSome=false from rfl];have b5:=hid Q;clear Q
       go_wp2_with fail
       refine(ZpZ _ _).mono ?_;rintro e wq ⟨rfl,rfl⟩;rw[Z];cases S:idx (LS.hd ts).txt Z0 with
       | some o=>
        have f:Hid (Zb9 _ _ _=winP o _):=hid (by rw[C,Zw9 z X T b5 S]);have a7:Hid (bl _=Z0.getD o _):=hid (by rw[ZlM S,Z]);rw[show(some o).isSome=true from rfl];clear S
        go_upto_region 20 with fail
        refine ZP fun W8 a=>?_;have s:Hid _:=a▸B.step U.out;have x:Hid _:=a▸ZA E.out (Or.inl rfl) _;have M:Hid (BAt _ _ _ _):=a▸O.other (by show w1.heap.size≠R.b;omega) _;clear a rc0 rc1 rfz t2 B E O;have t2:=M.cell
        go_wp2_with fail
        refine(ZEK s o a7).mono ?_;rintro e w9 ⟨pv,v,rfl,j,i,c⟩;have l:=hid (Zj x c);have P:=hid j;clear c j;go_wp2;go_ret2;exact⟨_,_,rfl,P,by rwa [f.out],l⟩
       | none=>
        rw[show(none).isSome=false from rfl];have f:Hid (Zb9 _ _ _=bnd _ _):=hid (by rw[C,Zw8 z X T b5 S]);clear S
        go_wp2_with fail
        refine(Zsd B).mono ?_;rintro e w9 ⟨nm,la,ln,lc,v,rfl,i,c⟩;have l:=hid (Zj E c);clear c;go_wp2;go_ret2;refine⟨_,_,rfl,.inr ⟨_,_,rfl⟩,?_,l⟩;rw[f];cases a8:selP ts with
        | error er=>exact i.err a8
        | ok pr=>
         obtain⟨nd,r3⟩:=pr;obtain⟨h1,h2,h3,h4⟩:=i.good a8;exact⟨h1,h2,.inr (.inl ⟨(Zkq a8).2.1,nm,la,ln,lc,rfl,h3,h4⟩)⟩
theorem ZzN(h:Zdf p u)(d:Zdt u)(e:u.jk<=5)(f:lv<=2){kd op:Nat}(c:LS.opAt lv u=some (kd,op)):∃j,opOf p=some j/\j<=4/\Zdb j=lv/\opNo (nd0 kd op)=j/\(kd=4∨kd=6)/\¬(u.jk=0∨u.jk=5):=by
 have m0:ZdF p ⟨#[111,114]⟩=isT wOr u:=Znz h d e Dc Dc;have m1:ZY p ⟨#[43]⟩=isT [43] u:=ZdP h d e Dc Dc;have m2:ZY p ⟨#[45]⟩=isT [45] u:=ZdP h d e Dc Dc;have m3:ZY p ⟨#[42]⟩=isT [42] u:=ZdP h d e Dc Dc;have m4:ZY p ⟨#[47]⟩=isT [47] u:=ZdP h d e Dc Dc;unfold opOf;rw[m0,m1,m2,m3,m4];unfold LS.opAt at c;rcases(by omega:lv=0∨lv=1∨lv=2)with rfl|rfl|rfl
 ·by_cases a:isT wOr u=true
  ·rw[if_pos rfl,if_pos a]at c;injection c with c;injection c with h1 h2;subst h1 h2;rw[if_pos a];exact⟨0,rfl,by decide,rfl,rfl,.inr rfl,Zd3 a⟩
  ·rw[if_pos rfl,if_neg a]at c;cases c
 ·rw[if_neg Dc,if_pos rfl]at c;by_cases a:isT [43] u=true
  ·rw[if_pos a]at c;injection c with c;injection c with h1 h2;subst h1 h2;rw[ZeV a Dc,if_neg Dc,if_pos a];exact⟨1,rfl,by decide,rfl,rfl,.inl rfl,Zd3 a⟩
  ·rw[if_neg a]at c;by_cases b:isT [45] u=true
   ·rw[if_pos b]at c;injection c with c;injection c with h1 h2;subst h1 h2;rw[ZeV b Dc,if_neg Dc,if_neg a,if_pos b];exact⟨2,rfl,by decide,rfl,rfl,.inl rfl,Zd3 b⟩
   ·rw[if_neg b]at c;cases c
 ·rw[if_neg Dc,if_neg Dc]at c;by_cases a:isT [42] u=true
  ·rw[if_pos a]at c;injection c with c;injection c with h1 h2;subst h1 h2;rw[ZeV a Dc,if_neg Dc,ZeV a Dc,if_neg Dc,ZeV a Dc,if_neg Dc,if_pos a];exact⟨3,rfl,by decide,rfl,rfl,.inl rfl,Zd3 a⟩
  ·rw[if_neg a]at c;by_cases b:isT [47] u=true
   ·rw[if_pos b]at c;injection c with c;injection c with h1 h2;subst h1 h2;rw[ZeV b Dc,if_neg Dc,ZeV b Dc,if_neg Dc,ZeV b Dc,if_neg Dc,if_neg a,if_pos b];exact⟨4,rfl,by decide,rfl,rfl,.inl rfl,Zd3 b⟩
   ·rw[if_neg b]at c;cases c
theorem ZzL(h:Zdf p u)(a:Zdt u)(c:u.jk<=5)(e:lv<=2)(d:LS.opAt lv u=none):opOf p=none∨∃j,opOf p=some j/\j<=4/\Zdb j≠lv:=by
 have m0:ZdF p ⟨#[111,114]⟩=isT wOr u:=Znz h a c Dc Dc;have m1:ZY p ⟨#[43]⟩=isT [43] u:=ZdP h a c Dc Dc;have m2:ZY p ⟨#[45]⟩=isT [45] u:=ZdP h a c Dc Dc;have m3:ZY p ⟨#[42]⟩=isT [42] u:=ZdP h a c Dc Dc;have m4:ZY p ⟨#[47]⟩=isT [47] u:=ZdP h a c Dc Dc;unfold opOf;rw[m0,m1,m2,m3,m4];unfold LS.opAt at d;generalize isT wOr u=b0 at *
 generalize isT [43] u=b1 at *
 generalize isT [45] u=b2 at *
 generalize isT [42] u=b3 at *
 generalize isT [47] u=b4 at *
 rcases (by omega : lv = 0 ∨ lv = 1 ∨ lv = 2) with rfl | rfl | rfl <;> cases b0 <;> cases b1 <;> cases b2 <;> cases b3 <;> cases b4 <;> first
   | exact Or.inl rfl
   | exact Or.inr ⟨0,rfl,by decide,by decide⟩
   | exact Or.inr ⟨1,rfl,by decide,by decide⟩
   | exact Or.inr ⟨2,rfl,by decide,by decide⟩
   | exact Or.inr ⟨3,rfl,by decide,by decide⟩
   | exact Or.inr ⟨4,rfl,by decide,by decide⟩
   | cases d
theorem ZAd    (h : lv ≠ 3) : Zs (n + 1) false lv .nil ts deep = bnd (Zs n false (lv + 1) .nil ts deep) fun a r => Zs n true lv a r deep := by
  show(if lv=3 then _ else _)=_;rw[if_neg h]
theorem ZAc    : Zs (n + 1) false 3 .nil ts deep = Zb9 (fun lv ts d => Zs n false lv .nil ts d) ts deep := by
  show(if 3=3 then _ else _)=_;rw[if_pos rfl]
theorem ZAg(h:LS.opAt lv (hd ts)=none):Zs (n+1) true lv a ts deep=.ok (a,ts):=by
 show(match LS.opAt lv (hd ts)with|none=>_|some p=>_)=_;rw[h]
theorem ZAe     {p : Nat × Nat} (h : LS.opAt lv (hd ts) = some p) : Zs (n + 1) true lv a ts deep = bnd (Zs n false (lv + 1) .nil ts.tail deep) fun b r => Zs n true lv (.node 0 0 (nd0 p.1 p.2) a b) r deep := by
  show(match LS.opAt lv (hd ts)with|none=>_|some p=>_)=_;rw[h]
def RP(lv n:Nat):Prop:=ZeO 28 (fun d=>[Vi lv,Vi (d+1:Nat)]) (fun ts d=>Zs n false lv .nil ts d) (fun ts=>10*ts.length+5<=n+lv)
def RF(n:Nat):Prop:=ZeO 51 (fun d=>[Vi (d+1:Nat)]) (fun ts d=>Zs n false 3 .nil ts d) (fun ts=>10*ts.length+2<=n)
theorem ZAh(g:RF n):RP 3 n:=by
 intro w R k ts deep h hd c;have i:Hid (Calls _ _ #[.pointer _,.int _ _] w _):=g w R k _ _ h hd (by show 10*ts.length+2<=n;have m:=c;omega);go_enter func28,ntmps28
 go_wp2_with fail
 refine i.mono ?_;rintro e o ⟨pv,v,rfl,d,a,j⟩;have f:=hid d;have l:=hid j;go_wp2;go_ret2;exact⟨_,_,rfl,f,a,l⟩
theorem ZAj(N:lv<=2)(hp:∀m,m<=n->RP (lv+1) m):RP lv (n+1):=by
 intro w R k ts deep h hd a2;have H:=hid h;have HD:=hid hd;have c2:=a2;have c5:=(Yae.1 h.rd.cells).1;have HC:Hid (∀m,m<=n->∀(w:World) (k:Nat) (ts:List _),RK w R k _->10*ts.length+5<=m+(lv+1)->Calls _ _ #[.pointer _,.int _ ((lv)+1),.int _ ((deep)+1)] w fun e C=>∃(pv v:Value),e=.returned _/\Zhp _/\Hid (Res R _ _ (Zs m _ _ _ _ _) v)/\w.grownBy _ _):=hid (fun m hm w k ts h1 h2=>hp m hm w R k ts _ h1 hd h2);have h3:((lv:Int) == 3)=false:=by rw[beq_eq_false_iff_ne];omega
 obtain⟨PR,O⟩:∃PR,PR=Zs (n+1) false lv .nil ts deep:=⟨_,rfl⟩
 have P:Hid (PR=bnd _ _):=hid (by rw[O,ZAd Om]);show Calls _ _ _ _ (fun e C=>∃(pv v:Value),e=.returned (.tuple #[pv,v])/\Zhp pv/\Hid (Res R (fun C t=>Zh C t pv) C (Zs (n+1) false lv .nil ts deep) v)/\w.grownBy C (some R.b));rw[<-O];go_enter func28,ntmps28
 go_wp2_with fail
 refine(HC n (Yac _) w k _ H Om).mono ?_;rintro e w1 ⟨pv,v,rfl,a3,f,hg⟩;have Q:=hid hg;cases c:Zs n false (lv+1) .nil ts deep with
 | error er=>
  have Y:=hid (f.err c);obtain⟨fa,rfl⟩:=Y.shape;have D:Hid (PR=.error er):=by rw[P,c];rfl
  go_wp2;go_ret2;exact⟨_,_,rfl,.inl rfl,by rwa [D.out],Q⟩
 | ok pr=>
  obtain⟨a0,r0⟩:=pr;obtain⟨rfl,⟨k1,a4⟩,hv⟩:=f.good c;have a5:=hid a4;have a6:=hid hv;have a7:Hid (Zs n true lv a0 r0 deep=PR):=by rw[P,c];rfl
  have c3:r0.length+1<=ts.length:=Zg1 n _ _ _ _ _ _ c;go_wp2
  go_loopg [8] r0.length (fun g v8 wr=>∃(a:Tr) (r:List Tok) (k2 m:Nat),g=r.length/\Hid (Zh wr a v8)/\Hid (RK wr R k2 r)/\Hid (10*r.length+5<=m/\m<=n/\Zs m true lv a r deep=PR)/\Hid (w.grownBy wr (some R.b)))
  case atStart=>exact⟨a0,r0,k1,n,rfl,a6,a5,⟨by omega,Yac _,a7⟩,Q⟩
  case round=>
   obtain⟨a,r,k2,m,c6,HV,HK,E,HG⟩:=hrel;obtain⟨m,rfl⟩:∃m',m=m'+1:=⟨m - 1,by have:=E.1;omega⟩
   obtain⟨ty,u,a8⟩:=Zh.shape HV;subst a8
   go_wp2_with fail
   refine(Zee HK).mono ?_;rintro e z ⟨⟨kd,at_,tx,tv⟩,rfl,ht,F⟩;have S:=hid (HK.below F);have a9:=hid (HV.below F);have b0:=hid (Zj HG (Zw F));have o:=hid S.wf.head
   go_wp2_with fail
   refine(ZzQ ⟨kd,at_,tx,tv⟩).mono ?_;rintro e w3 ⟨rfl,G⟩;have d:=hid (S.below G);have q:=hid (a9.below G);have s:=hid (Zj b0 (Zw G));cases i:LS.opAt lv (LS.hd r)with
   | none=>
    have l:Hid (PR=.ok _):=hid (by rw[<-E.2.2,ZAg i]);rcases ZzL ht.out o.1 o.2.2 N i with B|⟨j,B,I,b1⟩
    ·rw[B];go_wp2;go_ret2;exact⟨_,_,rfl,.inr ⟨_,_,rfl⟩,l.out▸⟨rfl,⟨_,d.out⟩,q.out⟩,s⟩
    ·rw[B];have b2:((Zdb j:Int) != lv)=true:=by rw[bne_iff_ne];omega
     rw[show(some j).getD 0=j from rfl,show(some j).isSome=true from rfl]
     go_wp2_with (go_at_call 53;refine cret (Zm0 j I) ?_)
     go_ret2;exact⟨_,_,rfl,.inr ⟨_,_,rfl⟩,l.out▸⟨rfl,⟨_,d.out⟩,q.out⟩,s⟩
   | some p=>
    obtain⟨j,B,I,b1,T,J,x⟩:=ZzN ht.out o.1 o.2.2 N i;have l:Hid ((bnd _ _)=PR):=hid (by rw[<-E.2.2,ZAe i]);have U:Hid (opNo _=j/\(p.1=4∨p.1=6)):=⟨T,J⟩
    have b3:=hid x;have b2:((Zdb j:Int) != lv)=false:=by rw[bne_eq_false_iff_eq];omega
    rw[B,show(some j).getD 0=j from rfl,show(some j).isSome=true from rfl];obtain⟨rc0,rc1,rfz,rcx⟩:=d.rd.all;have c7:=d.lt;have c8:=d.len;have c9:=E.1;have d0:=E.2.1;clear i B T J x rcx
    go_upto_region 10 with (go_at_call 53;refine cret (Zm0 j I) ?_)
    refine ZP fun W8 A=>?_;have K:Hid _:=A▸d.step b3.out;have b4:Hid _:=A▸ZA s.out (Or.inl rfl) _;have b5:Hid (Zh W8 a (.iface ty u)):=A▸q.read d.out (ZA (ZbM _ _) (Or.inl rfl) _);have c4:=d.pos;have L:=K.pos;rw[Yb4]at L;clear A rc0 rc1 rfz d s q
    go_wp2_with fail
    refine(HC m Om _ _ _ K (by rw[Yb4];omega)).mono ?_;rintro e w9 ⟨pv,v,rfl,a3,f,V⟩;have W:=hid (Zj b4 V);have b6:=hid (b5.read K V);cases c:Zs m false (lv+1) .nil r.tail deep with
    | error er=>
     have Y:=hid (f.err c);obtain⟨fa,rfl⟩:=Y.shape;have D:Hid (PR=.error er):=by rw[<-l,c];rfl
     go_wp2;go_ret2;exact⟨_,_,rfl,.inl rfl,by rwa [D.out],W⟩
    | ok pr=>
     obtain⟨b,y⟩:=pr;obtain⟨rfl,⟨k9,b7⟩,X⟩:=f.good c;have b8:=hid b7;have b9:=hid X;have c1:Hid (Zs m true lv (.node 0 0 (nd0 p.1 p.2) a b) y deep=PR):=by rw[<-l,c];rfl
     have M:=Zg1 m _ _ _ _ _ _ c;simp only[Yb4,Yde,if_false]at M;obtain⟨ty2,u2,Z⟩:=Zh.shape X;subst Z;have a1:Hid (Zh _ (.node 0 0 _ a b) _):=hid (.inr (.inr (.inr (.inr (.inr ⟨U.2,_,_,by rw[U.1],b6,b9⟩)))));go_wp2
     go_roundg y.length
     case measure=>omega
     case rel=>exact⟨_,y,k9,m,rfl,a1,b8,⟨by omega,by omega,c1⟩,W⟩
theorem ZnQ:∀n,(∀lv,lv<=3->∀m,m<=n->RP lv m)/\(∀m,m<=n->RF m)
 | 0 => by
   constructor
   · intro lv f m c w R k ts deep _ _ a
     exact absurd (a) Om
   · intro m c w R k ts deep _ _ a
     exact absurd (a) Om
 | n + 1 => by
   obtain⟨d,g⟩:=ZnQ n
   have o:RF (n+1):=by
     intro w R k ts deep h hd a;have p:=a;show Calls _ _ _ _ (fun e u=>∃(pv v:Value),e=.returned (.tuple #[pv,v])/\Zhp pv/\Hid (Res R (fun u t=>Zh u t pv) u (Zs (n+1) false 3 .nil ts deep) v)/\w.grownBy u (some R.b));rw[ZAc];refine Zv2 ?_ (Zug ?_) w R k _ _ h hd (Yac _)
     · intro w R k ts2 deep h hd i
       exact g n (Yac _) w R k _ _ h hd (by show 10*ts2.length+2<=n;have j:=i;omega)
     · intro w R k ts2 deep h hd i
       exact d 0 Om n (Yac _) w R k _ _ h hd (by show 10*ts2.length+5<=n+0;have j:=i;omega)
   constructor
   · intro lv f m c
     by_cases l:m<=n
     · exact d _ f m l
     · obtain rfl:m=n+1:=by omega
       by_cases j:lv=3
       · subst j;exact ZAh o
       · exact ZAj Om (fun m c=>d _ Om m c)
   · intro m c
     by_cases l:m<=n
     · exact g m l
     · obtain rfl:m=n+1:=by omega
       exact o
