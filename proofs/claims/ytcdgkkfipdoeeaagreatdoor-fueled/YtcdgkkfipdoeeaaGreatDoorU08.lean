/- Parts. -/
import Derived.Test.YtcdgkkfipdoeeaaGreatDoorU07
import Derived.Deep.DrawnRows
set_option linter.all false
set_option maxRecDepth 100000
set_option maxHeartbeats 16000000
namespace Go.Proofs.YtcdgkkfipdoeeaaGreatDoor
open Go.RowKit LS Go.Proofs.Tryz
variable {r ts:List Tok}{d deep h k lv m n z:Nat}{rec:Nat->List Tok->Nat->Out Tr}{p:PTok}{R:RS}{t u:Tok}{a:Tr}{w:World}
section
theorem Zt6(a:h % 2=1):bitS h=(h / 2) ^^^ 3988292384:=if_pos a
theorem Zt4(a:¬h % 2=1):bitS h=h / 2:=if_neg a
theorem ZrR{k:IntKind}{a b:Int}(h:a=b):Ending.returned (.int k a)=.returned (.int k b):=by rw[h]
theorem ZE4{a:Nat}(d:a<4294967296)(c:UInt8):bits .xor .u32 (a:Int) ((c.toNat:Int) % 4294967296)=((a ^^^ c.toNat:Nat):Int):=by
 have e:=c.toNat_lt;rw[show((c.toNat:Int) % 4294967296)=(c.toNat) by omega];exact u32_xor_nat _ _ d Om
theorem ZE5(a:z<4294967296):4294967295 ^^^ z=4294967295 - z:=by
 have h:(BitVec.allOnes _ ^^^ BitVec.ofNat 32 z).toNat=(~~~ BitVec.ofNat 32 z).toNat:=by rw[BitVec.allOnes_xor]
 rw[BitVec.toNat_xor,BitVec.toNat_not,BitVec.toNat_ofNat,Nat.mod_eq_of_lt a]at h;exact h
theorem Zzq(a:z<4294967296):bits .xor .u32 IntKind.u32.max (z:Int)=4294967295 - (z:Int):=by
 have:=u32_xor_nat 4294967295 z Dc a;rw[ZE5 a]at this;rw[show IntKind.u32.max=((4294967295:Nat)) from rfl,this];omega
theorem ZtI(a:z<4294967296):bits .and .u32 (z:Int) 1=(z:Int) % 2:=by
 have:=u32_and_nat z 1 a Dc;rw[Nat.and_one_is_mod]at this;rw[show(1)=((1:Nat):Int) from rfl,this];omega
theorem Zru(s:BA)(w:World)(r:s.size<=maxLen) :
  CP 73 #[.string s] w fun e u=>e=.returned (.int .u32 (sumQ (bl s)))/\u=w:=by
 unfold maxLen at r;go_enter func73,ntmps73;go_wp2
 go_loop [3,8] (fun h i=>∃k:Nat,k<=s.size/\i=Vi k/\h=.int .u32 (sumL ((bl s).take k))) (fun _ i=>s.size - (intOf i).toNat)
 case atStart=>exact⟨0,Nat.zero_le _,rfl,rfl⟩
 case round=>
  obtain⟨k,E,rfl,rfl⟩:=hrel;have f:=ZCX ((bl s).take k);obtain⟨c,d⟩:∃c,sumL ((bl s).take k)=c:=⟨_,rfl⟩
  have a:=hid d;rw[d]at f ⊢;clear d;by_cases p:k<s.size
  ·have t:=ZE4 f s[k];have l:Hid (sumL ((bl s).take (k+1))=ZfS 8 (c ^^^ s[k].toNat)):=by rw[ZiB s k p,Zsz,a];rfl
   have m:c ^^^ s[k].toNat<4294967296:=Zty f _;obtain⟨g0,n⟩:∃g0,c ^^^ s[k].toNat=g0:=⟨_,rfl⟩
   rw[n]at t l m;clear n a;go_wp2
   go_loop [3,17] (fun h i=>∃j:Nat,j<=8/\i=Vi j/\h=.int .u32 (ZfS j g0)) (fun _ i=>8 - (intOf i).toNat)
   case atStart=>exact⟨0,Nat.zero_le _,rfl,rfl⟩
   case round=>
    obtain⟨j,F,rfl,rfl⟩:=hrel;by_cases C:j<8
    ·have v:=ZkX m j;have q:Hid (ZfS (j+1) g0=bitS _):=rfl;generalize ZfS j g0=z at *
     have x:=ZtI v;by_cases g:z % 2=1
     ·have D:bits .xor .u32 ((z) / 2) 3988292384=((z / 2 ^^^ 3988292384:Nat)):=by
       have:=u32_xor_nat (z / 2) 3988292384 Om Om;simpa using this
      have A:((z:Int) % 2 == 1)=true:=by rw[beq_iff_eq];omega
      have o:=hid (Zt6 g);clear g;go_wp2
      go_round
      case rel=>exact⟨j+1,by omega,by go_num,by rw[q,o]⟩
      case measure=>simp[intOf];omega
     ·have A:((z:Int) % 2 == 1)=false:=by rw[beq_eq_false_iff_ne];omega
      have o:=hid (Zt4 g);clear g;go_wp2
      go_round
      case rel=>exact⟨j+1,by omega,by go_num,by rw[q,o];go_num⟩
      case measure=>simp[intOf];omega
    ·obtain rfl:j=8:=by omega
     go_wp2
     go_round
     case rel=>exact⟨k+1,by omega,by go_num,by rw[l]⟩
     case measure=>simp[intOf];omega
  ·have B:Hid (sumQ _=4294967295 - c):=hid (by
    unfold sumQ;rw[<-a,List.take_of_length_le (by rw[Zd];omega)])
   have G:=Zzq f;clear a;go_wp2;go_ret;exact⟨ZrR (by rw[B];omega),rfl⟩
attribute [local go_sem ↓] Go.wp_at_zero Go.wp_at_succ
theorem ZCi(l:LB):(1<=numI 1000 l ↔ 1<=numV l/\numV l<=1000)/\(1<=numI 1000 l->numI 1000 l=numV l):=by
 unfold numI numV ZQ;by_cases c:l.length<1∨(l.head?=some 48/\1<l.length)∨l.all ZC=false
 ·rw[if_pos (by rcases c with h|h|h;exact .inl h;exact .inr (.inl h);exact .inr (.inr (.inl h)))];rw[if_pos (by rcases c with h|h|h;exact .inl h;exact .inr (.inl h);exact .inr (.inr (.inl h)))];simp
 ·have e:∀most,most<val l->(l.length<1∨(l.head?=some 48/\1<l.length)∨l.all ZC=false∨most<val l):=fun _ h=>.inr (.inr (.inr h))
  have d:∀most,¬most<val l->¬(l.length<1∨(l.head?=some 48/\1<l.length)∨l.all ZC=false∨most<val l):=by
   rintro most h (a|a|a|a)
   ·exact c (.inl a)
   ·exact c (.inr (.inl a))
   ·exact c (.inr (.inr a))
   ·exact h a
  by_cases a:1000<val l
  ·rw[if_pos (e _ a)];by_cases f:1000000000<val l
   ·rw[if_pos (e _ f)];simp
   ·rw[if_neg (d _ f)];simp only[Option.getD_some];constructor
    ·constructor
     ·intro h;omega
     ·intro h;omega
    ·intro h;omega
  ·rw[if_neg (d _ a),if_neg (d _ Om)];simp only[Option.getD_some];constructor
   ·constructor
    ·intro h;omega
    ·intro h;omega
   ·intro _;trivial
def lenP(ts:List Tok):Out Int:=bnd (Zq [91] ts) fun _ r=>bnd (Zc2 r) fun n r=>bnd (Zq [93] r) fun _ r=>.ok (n,r)
theorem Zs8 (o : Nat) (ts : List Tok) : winP o ts = bnd (Zq [40] ts) fun _ r => bnd (selP r) fun p r => bnd (lenP r) fun n r => bnd (Zq [41] r) fun _ r => .ok (Zbg ⟨2, o, n, p.name, p.ku, []⟩, r) := by
  unfold winP lenP;cases a:Zq [40] ts with
  | error e=>rfl
  | ok p1=>
    obtain⟨a1,r1⟩:=p1;simp only[bnd];cases c:selP r1 with
    | error e=>rfl
    | ok p2=>
      obtain⟨a2,r2⟩:=p2;simp only;cases d:Zq [91] r2 with
      | error e=>rfl
      | ok p3=>
        obtain⟨a3,r3⟩:=p3;simp only;cases f:Zc2 r3 with
        | error e=>rfl
        | ok p4=>
          obtain⟨a4,r4⟩:=p4;simp only;cases g:Zq [93] r4 with
          | error e=>rfl
          | ok p5=>rfl
theorem Ze7(s:LB)(ts:List Tok):(isT s (hd ts)=true/\Zq s ts=.ok ((),ts.tail))∨(¬isT s (hd ts)=true/\Zq s ts=.error (2,(hd ts).at_)):=by
 by_cases h:isT s (hd ts)=true
 ·exact .inl ⟨h,ZdU h⟩
 ·exact .inr ⟨h,Ze8 h⟩
theorem ZEJ(h:RK w R k ts) :
  CP 170 #[Vp R.b] w fun e u=>∃(n:Int) (v:Value),e=.returned (.tuple #[Vi n,v])/\Hid (Res R (fun _ m=>n=m) u (lenP ts) v)/\w.grownBy u (some R.b):=by
 have H:=hid h;have a1:=(Array.getElem?_eq_some_iff.1 h.rd.cells).1;clear h;go_enter func170,ntmps170
 go_wp2_with fail
 refine(ZdT H _ Dc Dc).mono ?_;rintro e w1 ⟨v,rfl,f,U⟩;have C:=hid U;clear U;rcases Ze7 [91] ts with ⟨p,c⟩|⟨p,c⟩
 ·obtain⟨rfl,⟨k1,d⟩,_⟩:=f.good c;have D:=hid d;have E:Hid (lenP ts=bnd (Zc2 ts.tail) fun n r=>bnd (Zq [93] r) fun _ r=>.ok (n,r)):=by unfold lenP;rw[c];rfl
  clear f d p c
  go_wp2_with fail
  refine(Zee D).mono ?_;rintro e z ⟨⟨kd,at_,tx,tv⟩,rfl,A,F⟩;have G:=hid (Zj C (Zw F));have O:=hid (D.below F);clear F C D
  go_upto_region 5 with fail
  refine ZP fun W6 I=>?_;have J:Below _ _ _:=I▸Zbal;have s:Hid (BAt _ _ [.int _ _,.int _ _,.string _,.int _ _] 74):=I▸Go.Deep.blk_alloc_new _ _;have t:=hid (Zj G (Zw J));have g:=hid (O.below J);have a2:R.b<z.heap.size:=by have:=G.size;omega
  clear I J O G;have t0:=s.cell 0;have t3:=s.cell 3;simp only[Zget]at t0 t3;have i:=ZCi (hd ts.tail).txt;by_cases d:(hd ts.tail).jk=1
  ·have P:kd=0:=by have:=A.1;rw[d]at this;exact this
   subst P;have j:(tv)=numV _:=A.2.2.2 d;by_cases q:1<=numI 1000 (hd ts.tail).txt
   ·have B:=i.1.1 q;rw[<-j]at B;have Q:=B.1;have K:=B.2;have V:Hid (Zc2 _=.ok _):=hid (by unfold Zc2;rw[if_pos ⟨d,q⟩,i.2 q,<-j]);have HD:Hid (¬((hd ts.tail).jk=0∨(hd ts.tail).jk=5)):=hid Om;obtain⟨rc0,rc1,rfz,rcx⟩:=g.rd.all;have a3:=g.lt;have a4:=g.len;clear q i j B d A
    go_upto_region 8 with fail
    refine ZP fun W8 x=>?_;have W:Hid _:=x▸g.step HD.out;have X:Hid _:=x▸ZA t.out (Or.inl rfl) _;have Y:Hid (BAt _ _ _ _):=x▸s.other (by show z.heap.size≠R.b;omega) _;clear x rc0 rc1 rfz rcx t0 t3 s g t;have e3:=Y.cell 3;simp only[Zget]at e3;have S:=hid (W.below ((Below.refl _ _).drew));have T:=hid (Zj X (Zw ((Below.refl _ _).drew)))
    go_region_held3 (fun u => u.cell? ⟨z.heap.size, 3, none⟩ = some (Vi tv)) (first | exact e9 | exact e3 | go_keep) (first
      | (go_at_call 166
         refine(ZdT S.out ⟨#[93]⟩ Dc Dc).mono ?_;rintro e Z ⟨v,rfl,f,L⟩;have e9:Z.cell? ⟨z.heap.size,3,none⟩=some (Vi tv):=(World.cell?_of_block (a:=⟨z.heap.size,3,none⟩) (L.block _ (World.block_lt_of_cell? _ _ e3) (by simp;omega))).trans e3;have a0:Hid (w.grownBy Z (some R.b)):=Zj T.out L;clear L))
    all_goals
     go_wp2;go_ret2;refine⟨_,_,rfl,?_,a0⟩;rw[E,V];show Hid (Res R _ _ (bnd (Zq [93] ts.tail.tail) _) _);rcases Ze7 [93] ts.tail.tail with ⟨_,c⟩|⟨_,c⟩
     ·obtain⟨p,h2,_⟩:=f.good c;rw[c];exact⟨p,h2,rfl⟩
     ·have:=f.err c;rw[c];exact this
   ·have l:Hid (lenP ts=.error (2,(hd ts.tail).at_)):=by rw[E];unfold Zc2;rw[if_neg (fun h=>q h.2)];rfl
    have B:(tv:Int)<1∨1000<(tv:Int):=by
     rw[j];by_cases p:1<=numV (hd ts.tail).txt/\numV (hd ts.tail).txt<=1000
     ·exact absurd (i.1.2 p) q
     ·omega
    clear q i j d A;by_cases Q:(tv:Int)<1
    all_goals
     have K:¬(tv:Int)<1->1000<(tv:Int):=by omega
     clear B
     try have a5:=K Q
     clear K
     go_wp2_with fail
     refine(Zfi g).mono ?_;rintro e wE ⟨v,rfl,M,o⟩;obtain⟨fa,rfl⟩:=M.shape;have N:=hid (Zj t (Zw o));clear o;go_wp2;go_ret2;exact⟨_,_,rfl,by rwa [l.out],N⟩
  ·have P:((kd:Int) != 0)=true:=by
    rw[bne_iff_ne];intro e;exact d ((Ze0 g.wf.head.2.2).2.2.2.1.1 (by have:=A.1;simp only at this;omega))
   have l:Hid (lenP ts=.error (2,(hd ts.tail).at_)):=by rw[E];unfold Zc2;rw[if_neg (fun h=>d h.1)];rfl
   clear i A d
   go_wp2_with fail
   refine(Zfi g).mono ?_;rintro e wE ⟨v,rfl,M,o⟩;obtain⟨fa,rfl⟩:=M.shape;have N:=hid (Zj t (Zw o));clear o;go_wp2;go_ret2;exact⟨_,_,rfl,by rwa [l.out],N⟩
 ·have l:Hid (lenP ts=.error (2,(hd ts).at_)):=by unfold lenP;rw[c];rfl
  have M:=hid (f.err c);obtain⟨fa,rfl⟩:=M.shape;clear f c p;go_wp2;go_ret2;exact⟨_,_,rfl,by rwa [l.out],C⟩
end
section
attribute [local go_sem ↓] Go.wp_at_zero Go.wp_at_succ
theorem ZEK(h:RK w R k ts)(Y:BA)(o:Nat)(I:bl Y=Z0.getD o []) :
  CP 107 #[Vp R.b,.string Y] w fun e u=>∃(pv v:Value),e=.returned (.tuple #[pv,v])/\Zhp pv/\Hid (Res R (fun u t=>Zh u t pv) u (winP o ts) v)/\w.grownBy u (some R.b):=by
 have H:=hid h;have a1:=hid I;have a8:=(Array.getElem?_eq_some_iff.1 h.rd.cells).1;clear h I;go_enter func107,ntmps107
 go_wp2_with fail
 refine(ZdT H _ Dc Dc).mono ?_;rintro e w1 ⟨v,rfl,c,hg⟩;have x:=hid hg;clear hg;rcases Ze7 [40] ts with ⟨A,d⟩|⟨A,d⟩
 ·obtain⟨rfl,⟨k1,J⟩,_⟩:=c.good d;have K:=hid J;have B:Hid (winP o ts=bnd (selP ts.tail) fun p r=>bnd (lenP r) fun n r=>bnd (Zq [41] r) fun _ r=>.ok (Zbg ⟨2,o,n,p.name,p.ku,[]⟩,r)):=by rw[Zs8,d];rfl
  clear c J A d
  go_wp2_with fail
  refine(Zsd K).mono ?_;rintro e z ⟨nm,la,ln,lc,v,rfl,c,L⟩;have l:=hid (Zj x L);have a9:R.b<z.heap.size:=by have:=l.size;omega
  clear L x K;cases f:selP ts.tail with
  | error er=>
   have s:=hid (c.err f);obtain⟨fa,rfl⟩:=s.shape;have i:Hid (winP o ts=.error er):=by rw[B,f];rfl
   clear c f;go_wp2;go_ret2;exact⟨_,_,rfl,.inl rfl,i.out▸s.below Zbal,ZbR l _⟩
  | ok pr=>
   obtain⟨nd,r2⟩:=pr;obtain⟨rfl,⟨k2,M⟩,N,O⟩:=c.good f;have C:Hid (winP o ts=bnd (lenP r2) fun n r=>bnd (Zq [41] r) fun _ r=>.ok (Zbg ⟨2,o,n,nd.name,nd.ku,[]⟩,r)):=by rw[B,f];rfl
   have a2:=hid N;have P:=hid O;have Q:=hid M;clear c f M N O B
   go_wp2_with fail
   refine Zm fun W3 D=>?_;have m:Below _ _ _:=D▸Zbal;have S:Hid (BAt _ _ _ 148):=D▸Go.Deep.blk_alloc_new _ _;have T:=hid (Zj l (Zw m));have E:=hid (Q.below m);have U:=hid (P.below m);clear D m l Q P;refine(ZEJ E).mono ?_;rintro e w4 ⟨n,v,rfl,c,q⟩;have V:=hid (Zj T q);have a3:=hid (U.read E q);have W:=hid (S.grown q (by simp;omega));clear q T U S E;cases g:lenP r2 with
   | error er=>
    have s:=hid (c.err g);obtain⟨fa,rfl⟩:=s.shape;have i:Hid (winP o ts=.error er):=by rw[C,g];rfl
    clear c g;go_wp2;go_ret2;exact⟨_,_,rfl,.inl rfl,by rwa [i.out],V⟩
   | ok pr=>
    obtain⟨n',r4⟩:=pr;obtain⟨rfl,⟨k4,X⟩,hn⟩:=c.good g;subst hn;have a4:Hid (winP o ts=bnd (Zq [41] r4) fun _ r=>.ok (Zbg ⟨2,o,n,nd.name,nd.ku,[]⟩,r)):=by rw[C,g];rfl
    have a5:=hid X;clear c g X C;have e0:=W.cell 0;have e1:=W.cell 1;simp only[Zget]at e0 e1;have F:=hid (a5.below ((Below.refl _ _).drew));have Z:=hid (Zj V (Zw ((Below.refl _ _).drew)));have a0:=hid (a3.below ((Below.refl _ _).drew))
    go_upto_region 10 with fail
    go_region_held3 (fun u => u.cell? ⟨z.heap.size, 0, none⟩ = some (.string nm) /\ u.cell? ⟨z.heap.size, 1, none⟩ = some (.slice la ln lc)) (first | exact ⟨e90, e91⟩ | exact ⟨e0, e1⟩ | go_keep) (first
      | (go_at_call 166
         refine(ZdT F.out ⟨#[41]⟩ Dc Dc).mono ?_;rintro e G ⟨v,rfl,c,j⟩;have e90:G.cell? ⟨z.heap.size,0,none⟩=some (.string nm):=(World.cell?_of_block (a:=⟨z.heap.size,0,none⟩) (j.block _ (World.block_lt_of_cell? _ _ e0) (by simp;omega))).trans e0;have e91:G.cell? ⟨z.heap.size,1,none⟩=some (.slice la ln lc):=(World.cell?_of_block (a:=⟨z.heap.size,1,none⟩) (j.block _ (World.block_lt_of_cell? _ _ e1) (by simp;omega))).trans e1;have a6:Hid (w.grownBy G (some R.b)):=Zj Z.out j;have a7:Hid (ZX G (.slice la ln lc) nd.ku):=a0.read F.out j;clear j))
    all_goals
     go_wp2;go_ret2;refine⟨_,_,rfl,.inr ⟨_,_,rfl⟩,?_,a6⟩;rw[a4];rcases Ze7 [41] r4 with ⟨_,d⟩|⟨_,d⟩
     ·obtain⟨A,h2,_⟩:=c.good d;rw[d];exact⟨A,h2,.inr (.inr (.inl ⟨rfl,Y,nm,la,ln,lc,rfl,a1,a2,a7⟩))⟩
     ·have:=c.err d;rw[d];exact this
 ·have i:Hid (winP o ts=.error (2,(hd ts).at_)):=by rw[Zs8,d];rfl
  have s:=hid (c.err d);obtain⟨fa,rfl⟩:=s.shape;clear c d A;go_wp2;go_ret2;exact⟨_,_,rfl,.inl rfl,by rwa [i.out],x⟩
end
section
def ZeO(f:FuncId)(args:Nat->List Value)(P:List Tok->Nat->Out Tr)(ok:List Tok->Prop):Prop:=∀(w:World) (R:RS) (k:Nat) (ts:List Tok) (deep:Nat),RK w R k ts->deep<=20->ok ts->
 CP f ⟨Vp R.b::args deep⟩ w fun e w'=>∃(pv v:Value),e=.returned (.tuple #[pv,v])/\Zhp pv/\Hid (Res R (fun w' t=>Zh w' t pv) w' (P ts deep) v)/\w.grownBy w' (some R.b)
theorem Zug {rec : Nat -> List Tok -> Nat -> Out Tr}  (M : ZeO 28 (fun d => [Vi 0, Vi (d + 1 : Nat)]) (rec 0) (fun ts => ts.length < m)) :
    ZeO 103 (fun d=>[Vi (d+1:Nat)]) (Zbu rec) (fun ts=>ts.length<=m):=by
  intro w R k ts deep h hd q;have H:=hid h;have N:=hid hd;have O:=hid q;clear h hd q;go_enter func103,ntmps103
  go_wp2_with fail
  refine(ZdT H _ Dc Dc).mono ?_;rintro e Q ⟨v,rfl,c,G⟩;have i:=hid G;clear G;rcases Ze7 [40] ts with ⟨j,f⟩|⟨j,f⟩
  · obtain⟨rfl,⟨k1,s⟩,_⟩:=c.good f
    have u:=hid s;have l:Hid (Zbu rec ts deep=bnd (rec 0 ts.tail deep) fun a r=>bnd (Zq [41] r) fun _ r=>.ok (a,r)):=by unfold Zbu;rw[f];rfl
    clear c s j f
    go_wp2_with fail
    refine(M _ R _ _ _ u N (by show ts.tail.length<m;have:=H.pos;have:=O.out;rw[List.length_tail];omega)).mono ?_;rintro e z ⟨pv,v,rfl,x,c,A⟩;have n:=hid (Zj i A);clear A i u;cases g:rec 0 ts.tail deep with
    | error er=>
      have F:=hid (c.err g);obtain⟨fa,rfl⟩:=F.shape;have o:Hid (Zbu rec ts deep=.error er):=by rw[l,g];rfl
      clear c g;go_wp2;go_ret2;exact⟨_,_,rfl,.inl rfl,by rwa [o.out],n⟩
    | ok pr=>
      obtain⟨t,r2⟩:=pr;obtain⟨rfl,⟨k2,B⟩,C⟩:=c.good g;have I:Hid (Zbu rec ts deep=bnd (Zq [41] r2) fun _ r=>.ok (t,r)):=by rw[l,g];rfl
      have D:=hid B;have E:=hid C;clear c g B C l
      go_wp2_with fail
      refine(ZdT D _ Dc Dc).mono ?_;rintro e S ⟨v,rfl,c,p⟩;have J:=hid (Zj n p);have K:=hid (E.read D p);have L:=hid x;clear p n E x;go_wp2;go_ret2;refine⟨_,_,rfl,L,?_,J⟩;rw[I];rcases Ze7 [41] r2 with ⟨_,f⟩|⟨_,f⟩
      · obtain⟨j,P,_⟩:=c.good f
        rw[f];exact⟨j,P,K⟩
      · have:=c.err f
        rw[f];exact this
  · have o:Hid (Zbu rec ts deep=.error (2,(LS.hd ts).at_)):=by unfold Zbu;rw[f];rfl
    have F:=hid (c.err f);obtain⟨fa,rfl⟩:=F.shape;clear c f j;go_wp2;go_ret2;exact⟨_,_,rfl,.inl rfl,by rwa [o.out],i⟩
theorem ZpI (rec : Nat -> List Tok -> Nat -> Out Tr) (g : Nat) (ts : List Tok) (deep : Nat) : Zcb rec g ts deep = bnd (Zq wBy ts) fun _ r => bnd (bnd (Zq [40] r) fun _ r => ZS (ZH 2) [41] (r.length + 1) [] r) fun ns r => bnd (Zbu rec r deep) fun a r => .ok (.node 0 0 ⟨5, g, 0, [], [], ns⟩ a .nil, r) := by
  unfold Zcb;cases c:Zq wBy ts with
  | error e=>rfl
  | ok p1=>
    obtain⟨a1,r1⟩:=p1;simp only[bnd];cases d:Zq [40] r1 with
    | error e=>rfl
    | ok p2=>rfl
theorem Zyz  {ns : List (LB)}  (h : (bnd (Zq [40] ts) fun _ r => ZS (ZH 2) [41] (r.length + 1) [] r) = .ok (ns, r)) : r.length <= ts.length := by
  have l:∀(n:Nat) (acc:List _) (ts:List _) (z:List _×List _),ZS (ZH 2) [41] n acc ts=.ok z->z.2.length<=ts.length:=by
    intro n
    induction n with
    | zero=>intro acc ts z h;cases h
    | succ n ih=>
      intro acc ts z h;by_cases j:isT [41] (hd ts)=true
      · rw[Zma j]at h;cases h;simp
      · have f:=Bool.eq_false_iff.2 j
        by_cases k:acc=[]
        · subst k
          rw[Zmb f]at h;cases d:ZH 2 ts with
          | error e=>rw[d]at h;cases h
          | ok p=>
            obtain⟨a,r⟩:=p;rw[d]at h;have g:=ih _ _ _ h;have i:=Zjt d;subst i;simp at g;omega
        · rw[Zmd f k]at h
          rcases Ze7 [44] ts with ⟨_,c⟩|⟨_,c⟩
          · rw[c]at h
            simp only[bnd]at h;cases d:ZH 2 ts.tail with
            | error e=>rw[d]at h;cases h
            | ok p=>
              obtain⟨a,r⟩:=p;rw[d]at h;have g:=ih _ _ _ h;have i:=Zjt d;subst i;simp at g;omega
          · rw[c]at h;cases h
  rcases Ze7 [40] ts with ⟨_,c⟩|⟨_,c⟩
  · rw[c]at h
    have:=l _ _ _ _ h;simp at this;omega
  · rw[c]at h;cases h
theorem ZwJ {rec : Nat -> List Tok -> Nat -> Out Tr}  (T : ZeO 103 (fun d => [Vi (d + 1 : Nat)]) (Zbu rec) (fun ts => ts.length <= m)) (J : BA) (g : Nat) (s : bl J = ZW.getD g []) :
    ZeO 105 (fun d=>[.string J,Vi (d+1:Nat)]) (Zcb rec g) (fun ts=>ts.length<=m):=by
  intro w R k ts deep h hd x;have H:=hid h;have L:=hid s;have U:=hid hd;have V:=hid x;clear h hd x s;go_enter func105,ntmps105
  go_wp2_with fail
  refine(ZC8 H _ Dc Dc).mono ?_;rintro e Y ⟨v,rfl,c,M⟩;have j:=hid M;clear M;rcases Ze7 wBy ts with ⟨l,f⟩|⟨l,f⟩
  · obtain⟨rfl,⟨k1,A⟩,_⟩:=c.good f
    have B:=hid A;have n:Hid (Zcb rec g ts deep=bnd (bnd (Zq [40] ts.tail) fun _ r=>ZS (ZH 2) [41] (r.length+1) [] r) fun ns r=>bnd (Zbu rec r deep) fun a r=>.ok (.node 0 0 ⟨5,g,0,[],[],ns⟩ a .nil,r)):=by rw[ZpI,f];rfl
    clear c A l f
    go_wp2_with fail
    refine(ZyA B _ _ Dc Dc).mono ?_;rintro e z ⟨la,ln,lc,v,rfl,c,C⟩;have o:=hid (Zj j C);clear C j B;cases i:(bnd (Zq [40] ts.tail) fun _ r=>ZS (ZH 2) [41] (r.length+1) [] r)with
    | error er=>
      have K:=hid (c.err i);obtain⟨fa,rfl⟩:=K.shape;have p:Hid (Zcb rec g ts deep=.error er):=by rw[n,i];rfl
      clear c i;go_wp2;go_ret2;exact⟨_,_,rfl,.inl rfl,by rwa [p.out],o⟩
    | ok pr=>
      obtain⟨ns,r2⟩:=pr;obtain⟨rfl,⟨k2,D⟩,E⟩:=c.good i;have N:Hid (Zcb rec g ts deep=bnd (Zbu rec r2 deep) fun a r=>.ok (.node 0 0 ⟨5,g,0,[],[],ns⟩ a .nil,r)):=by rw[n,i];rfl
      have F:=hid D;have G:=hid E;have O:Hid (r2.length<=m):=hid (by have:=Zyz i;have:=V.out;rw[List.length_tail]at *;omega);clear c i D E n
      go_wp2_with fail
      refine(T _ R _ _ _ F U O).mono ?_;rintro e Z ⟨pv,v,rfl,P,c,q⟩;have Q:=hid (Zj o q);have S:=hid (G.read F q);clear q o G;rcases P with rfl|⟨ty,u,rfl⟩
      all_goals
        go_wp2;go_ret2;refine⟨_,_,rfl,.inr ⟨_,_,rfl⟩,?_,Q⟩;rw[N];cases I:Zbu rec r2 deep with
        | error er=>exact c.err I
        | ok pr=>
          obtain⟨t,r3⟩:=pr;obtain⟨l,W,X⟩:=c.good I;exact⟨l,W,.inr (.inr (.inr (.inr (.inl ⟨rfl,J,la,ln,lc,_,rfl,L,S,X⟩))))⟩
  · have p:Hid (Zcb rec g ts deep=.error (2,(LS.hd ts).at_)):=by rw[ZpI,f];rfl
    have K:=hid (c.err f);obtain⟨fa,rfl⟩:=K.shape;clear c f l;go_wp2;go_ret2;exact⟨_,_,rfl,.inl rfl,by rwa [p.out],j⟩
theorem ZlM{w:LB} : ∀ {l:List (LB)} {g:Nat},idx w l=some g->l.getD g []=w
 | [],_,h=>by cases h
 | x :: l, g, h => by
   unfold idx at h;by_cases a:x=w
   · rw[if_pos a]at h
     injection h with h;subst h;exact a
   · rw[if_neg a]at h
     cases c:idx w l with
     | none=>rw[c]at h;cases h
     | some j=>
       rw[c]at h;injection h with h;subst h;exact ZlM (l:=l) c
theorem Zt2(h:Zdf p t)(f:Zdt t)(d:t.jk<=5):ZhO p=ZdD t:=by
 have m1:=ZdP h f d (s:=⟨#[45]⟩) Dc Dc;have m2:=ZdP h f d (s:=⟨#[40]⟩) Dc Dc;have g:p.tx.toList=t.txt:=by rw[Zbt];exact h.2.2.1
 unfold ZhO ZdD;have a:=Ze0 d;have c:=h.1;by_cases k1:t.jk=1
 ·have e:((p.kd:Int) == 0)=true:=by rw[c,a.2.2.2.1.2 k1];rfl
  rw[e,k1];simp
 ·have e:((p.kd:Int) == 0)=false:=by
   rw[beq_eq_false_iff_ne];intro e;exact k1 (a.2.2.2.1.1 Om)
  rw[e,beq_eq_false_iff_ne.2 k1];by_cases k2:t.jk=2
  ·have e2:((p.kd:Int) == 1)=true:=by rw[c,a.2.1.2 k2];rfl
   have z1:isT [45] t=false:=by rw[<-show ZY p _=isT [45] t from m1];unfold ZY;rw[c,a.2.1.2 k2];rfl
   have z2:isT [40] t=false:=by rw[<-show ZY p _=isT [40] t from m2];unfold ZY;rw[c,a.2.1.2 k2];rfl
   rw[e2,z1,z2,k2,g];unfold isT;rw[k2];simp[wOr,wBy]
  ·have e2:((p.kd:Int) == 1)=false:=by
    rw[beq_eq_false_iff_ne];intro e;exact k2 (a.2.1.1 Om)
   rw[e2,beq_eq_false_iff_ne.2 k2,show ZY p _=isT [45] t from m1,show ZY p _=isT [40] t from m2];simp
theorem Zw6(h:(hd ts).jk=1):Zbw rec ts d=.ok (Zbg ⟨0,0,numV (hd ts).txt,[],[],[]⟩,ts.tail):=if_pos h
theorem Zw5 {rec : Nat -> List Tok -> Nat -> Out Tr}   (h : ¬ (hd ts).jk = 1) (c : isT [45] (hd ts) = true) : Zbw rec ts d = bnd (rec 3 ts.tail d) fun a r => .ok (.node 0 0 (nd0 3 0) a .nil, r) := by
  unfold Zbw;rw[if_neg h,if_pos c]
theorem Zxa(h:¬(hd ts).jk=1)(a:¬isT [45] (hd ts)=true)(c:isT [40] (hd ts)=true):Zbw rec ts d=Zbu rec ts d:=by
 unfold Zbw;rw[if_neg h,if_neg a,if_pos c]
theorem Zw3{g:Nat}(h:¬(hd ts).jk=1)(a:¬isT [45] (hd ts)=true)(c:¬isT [40] (hd ts)=true)(e:idx (hd ts).txt ZW=some g):Zbw rec ts d=Zcb rec g ts.tail d:=by
 unfold Zbw;rw[if_neg h,if_neg a,if_neg c,e]
theorem Zw9{o:Nat}(h:¬(hd ts).jk=1)(a:¬isT [45] (hd ts)=true)(c:¬isT [40] (hd ts)=true)(e:idx (hd ts).txt ZW=none)(f:idx (hd ts).txt Z0=some o):Zbw rec ts d=winP o ts.tail:=by
 unfold Zbw;rw[if_neg h,if_neg a,if_neg c,e];simp only;rw[f]
theorem Zw8 {rec : Nat -> List Tok -> Nat -> Out Tr}   (h : ¬ (hd ts).jk = 1) (a : ¬ isT [45] (hd ts) = true) (c : ¬ isT [40] (hd ts) = true) (e : idx (hd ts).txt ZW = none) (f : idx (hd ts).txt Z0 = none) : Zbw rec ts d = bnd (selP ts) fun p r => .ok (Zbg p, r) := by
  unfold Zbw;rw[if_neg h,if_neg a,if_neg c,e];simp only;rw[f]
theorem ZCJ(h:ZdD t=true):¬(t.jk=0∨t.jk=5):=by
 rintro(a|a)
 all_goals
  unfold ZdD isT at h;rw[a]at h;simp at h
theorem Zv2
  (b9:ZeO 51 (fun d=>[Vi (d+1:Nat)]) (rec 3) (fun ts=>ts.length<m))
  (b1:ZeO 103 (fun d=>[Vi (d+1:Nat)]) (Zbu rec) (fun ts=>ts.length<=m)) :
  ZeO 51 (fun d=>[Vi (d+1:Nat)]) (Zb9 rec) (fun ts=>ts.length<=m):=by
 intro w R k ts deep h c1 b2;have H:=hid h;have HD:=hid c1;have HM:=hid b2;have c4:=(Array.getElem?_eq_some_iff.1 h.rd.cells).1;clear h b2;go_enter func51,ntmps51
 go_wp2_with fail
 refine(Zee H).mono ?_;rintro e w1 ⟨⟨kd,at_,tx,tv⟩,rfl,K,a1⟩;have a2:Hid (w.grownBy _ (some R.b)):=Zw a1;have b3:=hid (H.below a1);clear a1
 go_upto_region 2 with fail
 refine ZP fun W2 a3=>?_;have a4:Below _ _ _:=a3▸Zbal;have D:Hid (BAt _ _ [.int _ _,.int _ _,.string _,.int _ _] 74):=a3▸Go.Deep.blk_alloc_new _ _;have b4:=hid (Zj a2 (Zw a4));have a5:=hid (b3.below a4);have c5:R.b<w1.heap.size:=by have:=a2.size;omega
 have q:=hid a5.wf.head;clear a3 a4 a2 b3;have t0:=D.cell 0;have t1:=D.cell 1;have t2:=D.cell 2;have t3:=D.cell 3;simp only[Zget]at t0 t1 t2 t3
 go_wp2_with fail
 refine(Zt1 ⟨kd,at_,tx,tv⟩ W2).mono ?_;rintro e w3 ⟨rfl,U⟩;rw[Zt2 K q.1 q.2.2];have n:=hid (D.below U);have L:=hid (Zj b4 (Zw U));have p:=hid (a5.below U);clear U D b4 a5 t0 t1 t2 t3;cases r:ZdD (LS.hd ts)
 ·have a6:Hid (Zb9 rec _ deep=.error _):=hid (by unfold Zb9;rw[if_neg (by rw[r];decide)]);clear r
  go_wp2_with fail
  refine(Zfi p).mono ?_;rintro e wE ⟨v,rfl,HE,b5⟩;obtain⟨fa,rfl⟩:=HE.shape;have a7:=hid (Zj L (Zw b5));clear b5;go_wp2;go_ret2;exact⟨_,_,rfl,.inl rfl,by rwa [a6.out],a7⟩
 ·have V:=hid (ZCJ r);by_cases J:deep=20
  ·have a6:Hid (Zb9 rec _ _=.error _):=hid (by unfold Zb9;rw[if_pos r,if_pos J]);subst J;have t1:=n.cell 1;simp only[Zget]at t1;have c6:=p.dp;clear r
   go_wp2_with fail
   refine(ZkT _ _ _).mono ?_;rintro e wE ⟨rfl,a8⟩;have HE:Hid (Z9 wE R (3,(LS.hd _).at_) _):=hid (.inr ⟨rfl,w3.heap.size,rfl,by rw[a8];refine(Go.Deep.blk_alloc_new _ _).trans ?_;rw[show(at_:Int)=((LS.hd _).at_) from congrArg _ K.2.1]⟩);have a7:Hid _:=a8▸ZbR L.out _;clear a8;go_wp2;go_ret2;exact⟨_,_,rfl,.inl rfl,by rwa [a6.out],a7⟩
  ·have c3:deep<=19:=by omega
   have E:Hid (Zb9 _ _ _=Zbw rec _ _):=hid (by unfold Zb9;rw[if_pos r,if_neg J]);obtain⟨rc0,rc1,rfz,rcx⟩:=p.rd.all;have c7:=p.lt;have c8:=p.len;clear rcx r J;have t0:=n.cell 0;have t1:=n.cell 1;have t2:=n.cell 2;have t3:=n.cell 3;simp only[Zget]at t0 t1 t2 t3;by_cases s:(LS.hd ts).jk=1
   ·have b6:kd=0:=by have:=K.1;rw[s]at this;exact this
    subst b6;have c2:Hid ((tv)=numV _):=K.2.2.2 s;have f:Hid (Zb9 _ _ _=.ok _):=hid (by rw[E,Zw6 s]);clear s
    go_upto_region 8 with fail
    refine ZP fun W8 a=>?_;have x:Hid _:=a▸p.step V.out;have z:Hid _:=a▸ZA L.out (Or.inl rfl) _;have M:Hid (BAt _ _ _ _):=a▸n.other (by show w1.heap.size≠R.b;omega) _;clear a rc0 rc1 rfz t0 t1 t2 t3;have t3:=M.cell 3;simp only[Zget]at t3;go_wp2;go_ret2;exact⟨_,_,rfl,.inr ⟨_,_,rfl⟩,f.out▸⟨rfl,⟨_,x.out⟩,Or.inl ⟨rfl,by rw[<-c2.out];rfl⟩⟩,z⟩
   ·have b6:((kd:Int) == 0)=false:=by
     rw[beq_eq_false_iff_ne];intro e;exact s ((Ze0 q.2.2).2.2.2.1.1 (by have:=K.1;simp only at this;omega))
    have A:=hid s;clear s
    go_wp2_with fail
    refine(Zf6 K.out q.1 q.2.2 _ Dc Dc w3).mono ?_;rintro e w4 ⟨rfl,W⟩;have B:=hid (n.below W);have X:=hid (Zj L (Zw W));have N:=hid (p.below W);clear W n L p t0 t1 t2 t3 rc0 rc1 rfz;obtain⟨rc0,rc1,rfz,rcx⟩:=N.rd.all;have t0:=B.cell 0;have t1:=B.cell 1;have t2:=B.cell 2;have t3:=B.cell 3;simp only[Zget]at t0 t1 t2 t3;clear rcx;by_cases F:isT [45] (LS.hd ts)=true
    ·rw[show isT (bl ⟨#[45]⟩) _=true from F];have f:Hid (Zb9 _ _ _=bnd _ _):=hid (by rw[E,Zw5 A F]);clear F
     go_upto_region 11 with fail
     refine ZP fun W8 a=>?_;have x:Hid _:=a▸N.step V.out;have z:Hid _:=a▸ZA X.out (Or.inl rfl) _;clear a rc0 rc1 rfz t0 t1 t2 t3 N X B
     go_wp2_with fail
     refine(b9 _ R _ _ _ x Om (by show ts.tail.length<m;have:=H.pos;have:=HM.out;rw[List.length_tail];omega)).mono ?_;rintro e w9 ⟨pv,v,rfl,j,i,c⟩;have l:=hid (Zj z c);clear c;rcases j with rfl|⟨ty,u,rfl⟩
     all_goals
      go_wp2;go_ret2;refine⟨_,_,rfl,.inr ⟨_,_,rfl⟩,?_,l⟩;rw[f];cases b7:rec 3 ts.tail (deep+1)with
      | error er=>exact i.err b7
      | ok pr=>
       obtain⟨t,r3⟩:=pr;obtain⟨h1,h2,h3⟩:=i.good b7;exact⟨h1,h2,.inr (.inr (.inr (.inl ⟨rfl,_,rfl,h3⟩)))⟩
    ·rw[show isT (bl ⟨#[45]⟩) _=false from Bool.eq_false_iff.2 F];have Y:=hid F;clear F
     go_wp2_with fail
     refine(Zf6 K.out q.1 q.2.2 _ Dc Dc w4).mono ?_;rintro e w5 ⟨rfl,Z⟩;have O:=hid (B.below Z);have G:=hid (Zj X (Zw Z));have C:=hid (N.below Z);clear Z B X N t0 t1 t2 t3 rc0 rc1 rfz;obtain⟨rc0,rc1,rfz,rcx⟩:=C.rd.all;have t2:=O.cell 2;simp only[Zget]at t2;clear rcx;by_cases I:isT [40] (LS.hd ts)=true
     ·rw[show isT (bl ⟨#[40]⟩) _=true from I];have f:Hid (Zb9 _ _ _=Zbu _ _ _):=hid (by rw[E,Zxa A Y I]);clear I
      go_wp2_with fail
      refine(b1 _ R k _ _ C Om HM).mono ?_;rintro e w9 ⟨pv,v,rfl,j,i,c⟩;have l:=hid (Zj G c);have P:=hid j;clear c j;go_wp2;go_ret2;exact⟨_,_,rfl,P,by rwa [f.out],l⟩
     ·rw[show isT (bl ⟨#[40]⟩) _=false from Bool.eq_false_iff.2 I];have T:=hid I;have a0:Hid (bl tx=(LS.hd _).txt):=K.2.2.1;clear I
      go_wp2_with fail
      refine(ZpX _ _).mono ?_;rintro e wq ⟨rfl,rfl⟩;rw[a0];cases Q:idx (LS.hd ts).txt ZW with
      | some g=>
       have f:Hid (Zb9 _ _ _=Zcb _ g _ _):=hid (by rw[E,Zw3 A Y T Q]);have a9:Hid (bl _=ZW.getD g _):=hid (by rw[ZlM Q,a0]);rw[show(some g).isSome=true from rfl];clear Q
       go_upto_region 17 with fail
       refine ZP fun W8 a=>?_;have x:Hid _:=a▸C.step V.out;have z:Hid _:=a▸ZA G.out (Or.inl rfl) _;have M:Hid (BAt _ _ _ _):=a▸O.other (by show w1.heap.size≠R.b;omega) _;clear a rc0 rc1 rfz t2 C G O;have t2:=M.cell 2;simp only[Zget]at t2
       go_wp2_with fail
       refine(ZwJ b1 _ g a9 _ R _ _ _ x Om (by show ts.tail.length<=m;have:=HM.out;rw[List.length_tail];omega)).mono ?_;rintro e w9 ⟨pv,v,rfl,j,i,c⟩;have l:=hid (Zj z c);have P:=hid j;clear c j;go_wp2;go_ret2;exact⟨_,_,rfl,P,by rwa [f.out],l⟩
      | none=>
       rw[show(none).isSome=false from rfl];have b8:=hid Q;clear Q
       go_wp2_with fail
       refine(ZpZ _ _).mono ?_;rintro e wq ⟨rfl,rfl⟩;rw[a0];cases S:idx (LS.hd ts).txt Z0 with
       | some o=>
        have f:Hid (Zb9 _ _ _=winP o _):=hid (by rw[E,Zw9 A Y T b8 S]);have a9:Hid (bl _=Z0.getD o _):=hid (by rw[ZlM S,a0]);rw[show(some o).isSome=true from rfl];clear S
        go_upto_region 20 with fail
        refine ZP fun W8 a=>?_;have x:Hid _:=a▸C.step V.out;have z:Hid _:=a▸ZA G.out (Or.inl rfl) _;have M:Hid (BAt _ _ _ _):=a▸O.other (by show w1.heap.size≠R.b;omega) _;clear a rc0 rc1 rfz t2 C G O;have t2:=M.cell 2;simp only[Zget]at t2
        go_wp2_with fail
        refine(ZEK x _ o a9).mono ?_;rintro e w9 ⟨pv,v,rfl,j,i,c⟩;have l:=hid (Zj z c);have P:=hid j;clear c j;go_wp2;go_ret2;exact⟨_,_,rfl,P,by rwa [f.out],l⟩
       | none=>
        rw[show(none).isSome=false from rfl];have f:Hid (Zb9 _ _ _=bnd _ _):=hid (by rw[E,Zw8 A Y T b8 S]);clear S
        go_wp2_with fail
        refine(Zsd C).mono ?_;rintro e w9 ⟨nm,la,ln,lc,v,rfl,i,c⟩;have l:=hid (Zj G c);clear c;go_wp2;go_ret2;refine⟨_,_,rfl,.inr ⟨_,_,rfl⟩,?_,l⟩;rw[f];cases b0:selP ts with
        | error er=>exact i.err b0
        | ok pr=>
         obtain⟨nd,r3⟩:=pr;obtain⟨h1,h2,h3,h4⟩:=i.good b0;exact⟨h1,h2,.inr (.inl ⟨(Zkq b0).2.1,nm,la,ln,lc,rfl,h3,h4⟩)⟩
theorem ZzN(h:Zdf p u)(d:Zdt u)(e:u.jk<=5)(f:lv<=2){kd op:Nat}(c:LS.opAt lv u=some (kd,op)):∃j,opOf p=some j/\j<=4/\Zdb j=lv/\opNo (nd0 kd op)=j/\(kd=4∨kd=6)/\¬(u.jk=0∨u.jk=5):=by
 have m0:ZdF p ⟨#[111,114]⟩=isT wOr u:=Znz h d e Dc Dc;have m1:ZY p ⟨#[43]⟩=isT [43] u:=ZdP h d e Dc Dc;have m2:ZY p ⟨#[45]⟩=isT [45] u:=ZdP h d e Dc Dc;have m3:ZY p ⟨#[42]⟩=isT [42] u:=ZdP h d e Dc Dc;have m4:ZY p ⟨#[47]⟩=isT [47] u:=ZdP h d e Dc Dc;unfold opOf;rw[m0,m1,m2,m3,m4];unfold LS.opAt at c;rcases(by omega:lv=0∨lv=1∨lv=2)with rfl|rfl|rfl
 ·by_cases a:isT wOr u=true
  ·rw[if_pos rfl,if_pos a]at c;injection c with c;injection c with h1 h2;subst h1 h2;rw[if_pos a];exact⟨0,rfl,by decide,rfl,rfl,.inr rfl,Zd3 a⟩
  ·rw[if_pos rfl,if_neg a]at c;cases c
 ·rw[if_neg Dc,if_pos rfl]at c;by_cases a:isT [43] u=true
  ·rw[if_pos a]at c;injection c with c;injection c with h1 h2;subst h1 h2;rw[ZeV a Dc,if_neg Dc,if_pos a];exact⟨1,rfl,by decide,rfl,rfl,.inl rfl,Zd3 a⟩
  ·rw[if_neg a]at c;by_cases b:isT [45] u=true
   ·rw[if_pos b]at c;injection c with c;injection c with h1 h2;subst h1 h2;rw[ZeV b Dc,if_neg Dc,if_neg a,if_pos b];exact⟨2,rfl,by decide,rfl,rfl,.inl rfl,Zd3 b⟩
   ·rw[if_neg b]at c;cases c
 ·rw[if_neg Dc,if_neg Dc]at c;by_cases a:isT [42] u=true
  ·rw[if_pos a]at c;injection c with c;injection c with h1 h2;subst h1 h2;rw[ZeV a Dc,if_neg Dc,ZeV a Dc,if_neg Dc,ZeV a Dc,if_neg Dc,if_pos a];exact⟨3,rfl,by decide,rfl,rfl,.inl rfl,Zd3 a⟩
  ·rw[if_neg a]at c;by_cases b:isT [47] u=true
   ·rw[if_pos b]at c;injection c with c;injection c with h1 h2;subst h1 h2;rw[ZeV b Dc,if_neg Dc,ZeV b Dc,if_neg Dc,ZeV b Dc,if_neg Dc,if_neg a,if_pos b];exact⟨4,rfl,by decide,rfl,rfl,.inl rfl,Zd3 b⟩
   ·rw[if_neg b]at c;cases c
theorem ZzL(h:Zdf p u)(a:Zdt u)(c:u.jk<=5)(e:lv<=2)(d:LS.opAt lv u=none):opOf p=none∨∃j,opOf p=some j/\j<=4/\Zdb j≠lv:=by
 have m0:ZdF p ⟨#[111,114]⟩=isT wOr u:=Znz h a c Dc Dc;have m1:ZY p ⟨#[43]⟩=isT [43] u:=ZdP h a c Dc Dc;have m2:ZY p ⟨#[45]⟩=isT [45] u:=ZdP h a c Dc Dc;have m3:ZY p ⟨#[42]⟩=isT [42] u:=ZdP h a c Dc Dc;have m4:ZY p ⟨#[47]⟩=isT [47] u:=ZdP h a c Dc Dc;unfold opOf;rw[m0,m1,m2,m3,m4];unfold LS.opAt at d;generalize isT wOr u=b0 at *
 generalize isT [43] u=b1 at *
 generalize isT [45] u=b2 at *
 generalize isT [42] u=b3 at *
 generalize isT [47] u=b4 at *
 rcases (by omega : lv = 0 ∨ lv = 1 ∨ lv = 2) with rfl | rfl | rfl <;> cases b0 <;> cases b1 <;> cases b2 <;> cases b3 <;> cases b4 <;> first
   | exact Or.inl rfl
   | exact Or.inr ⟨0,rfl,by decide,by decide⟩
   | exact Or.inr ⟨1,rfl,by decide,by decide⟩
   | exact Or.inr ⟨2,rfl,by decide,by decide⟩
   | exact Or.inr ⟨3,rfl,by decide,by decide⟩
   | exact Or.inr ⟨4,rfl,by decide,by decide⟩
   | cases d
theorem ZAd    (h : lv ≠ 3) : Zs (n + 1) false lv .nil ts deep = bnd (Zs n false (lv + 1) .nil ts deep) fun a r => Zs n true lv a r deep := by
  show(if lv=3 then _ else _)=_;rw[if_neg h]
theorem ZAc    : Zs (n + 1) false 3 .nil ts deep = Zb9 (fun lv ts d => Zs n false lv .nil ts d) ts deep := by
  show(if 3=3 then _ else _)=_;rw[if_pos rfl]
theorem ZAg(h:LS.opAt lv (hd ts)=none):Zs (n+1) true lv a ts deep=.ok (a,ts):=by
 show(match LS.opAt lv (hd ts)with|none=>_|some p=>_)=_;rw[h]
theorem ZAe     {p : Nat × Nat} (h : LS.opAt lv (hd ts) = some p) : Zs (n + 1) true lv a ts deep = bnd (Zs n false (lv + 1) .nil ts.tail deep) fun b r => Zs n true lv (.node 0 0 (nd0 p.1 p.2) a b) r deep := by
  show(match LS.opAt lv (hd ts)with|none=>_|some p=>_)=_;rw[h]
def RP(lv n:Nat):Prop:=ZeO 28 (fun d=>[Vi lv,Vi (d+1:Nat)]) (fun ts d=>Zs n false lv .nil ts d) (fun ts=>10*ts.length+5<=n+lv)
def RF(n:Nat):Prop:=ZeO 51 (fun d=>[Vi (d+1:Nat)]) (fun ts d=>Zs n false 3 .nil ts d) (fun ts=>10*ts.length+2<=n)
theorem ZAh(f:RF n):RP 3 n:=by
 intro w R k ts deep h hd a;have j:Hid (Calls _ _ #[.pointer _,.int _ _] w _):=f w R k _ _ h hd (by show 10*ts.length+2<=n;have m:=a;omega);clear h hd a f;go_enter func28,ntmps28
 go_wp2_with fail
 refine j.mono ?_;rintro e o ⟨pv,v,rfl,c,d,g⟩;have i:=hid c;have l:=hid g;clear c g;go_wp2;go_ret2;exact⟨_,_,rfl,i,d,l⟩
theorem ZAj(V:lv<=2)(hp:∀m,m<=n->RP (lv+1) m):RP lv (n+1):=by
 intro w R k ts deep h hd W;have H:=hid h;have HD:=hid hd;have c1:=W;have c4:=(Array.getElem?_eq_some_iff.1 h.rd.cells).1;have HC:Hid (∀m,m<=n->∀(w:World) (k:Nat) (ts:List _),RK w R k _->10*ts.length+5<=m+(lv+1)->Calls _ _ #[.pointer _,.int _ ((lv)+1),.int _ ((deep)+1)] w fun e E=>∃(pv v:Value),e=.returned _/\Zhp _/\Hid (Res R _ _ (Zs m _ _ _ _ _) v)/\w.grownBy _ _):=hid (fun m hm w k ts h1 h2=>hp m hm w R k ts _ h1 hd h2);have h3:((lv:Int) == 3)=false:=by rw[beq_eq_false_iff_ne];omega
 obtain⟨PR,F⟩:∃PR,PR=Zs (n+1) false lv .nil ts deep:=⟨_,rfl⟩
 have G:Hid (PR=bnd _ _):=hid (by rw[F,ZAd Om]);show Calls _ _ _ _ (fun e E=>∃(pv v:Value),e=.returned (.tuple #[pv,v])/\Zhp pv/\Hid (Res R (fun E t=>Zh E t pv) E (Zs (n+1) false lv .nil ts deep) v)/\w.grownBy E (some R.b));rw[<-F];clear h hd W hp F;go_enter func28,ntmps28
 go_wp2_with fail
 refine(HC n (Nat.le_refl _) w k _ H Om).mono ?_;rintro e w1 ⟨pv,v,rfl,I,d,hg⟩;have J:=hid hg;clear hg;cases c:Zs n false (lv+1) .nil ts deep with
 | error er=>
  have HE:=hid (d.err c);obtain⟨fa,rfl⟩:=HE.shape;have K:Hid (PR=.error er):=by rw[G,c];rfl
  clear d c;go_wp2;go_ret2;exact⟨_,_,rfl,.inl rfl,by rwa [K.out],J⟩
 | ok pr=>
  obtain⟨a0,r0⟩:=pr;obtain⟨rfl,⟨k1,X⟩,hv⟩:=d.good c;have Y:=hid X;have Z:=hid hv;have a1:Hid (Zs n true lv a0 r0 deep=PR):=by rw[G,c];rfl
  have c2:r0.length+1<=ts.length:=Zg1 n _ _ _ _ _ _ c;clear d c X hv G I;go_wp2
  go_loopg [8] r0.length (fun g v8 wr=>∃(a:Tr) (r:List Tok) (k2 m:Nat),g=r.length/\Hid (Zh wr a v8)/\Hid (RK wr R k2 r)/\Hid (10*r.length+5<=m/\m<=n/\Zs m true lv a r deep=PR)/\Hid (w.grownBy wr (some R.b)))
  case atStart=>exact⟨a0,r0,k1,n,rfl,Z,Y,⟨by omega,Nat.le_refl _,a1⟩,J⟩
  case round=>
   obtain⟨a,r,k2,m,c5,HV,HK,L,HG⟩:=hrel;clear Z Y a1 J;obtain⟨m,rfl⟩:∃m',m=m'+1:=⟨m - 1,by have:=L.1;omega⟩
   obtain⟨ty,u,b2⟩:=Zh.shape HV;subst b2
   go_wp2_with fail
   refine(Zee HK).mono ?_;rintro e z ⟨⟨kd,at_,tx,tv⟩,rfl,ht,q⟩;have M:=hid (HK.below q);have a2:=hid (HV.below q);have a3:=hid (Zj HG (Zw q));have s:=hid M.wf.head;clear q HK HV HG
   go_wp2_with fail
   refine(ZzQ ⟨kd,at_,tx,tv⟩ _).mono ?_;rintro e w3 ⟨rfl,x⟩;have f:=hid (M.below x);have A:=hid (a2.below x);have B:=hid (Zj a3 (Zw x));clear x M a2 a3;cases i:LS.opAt lv (LS.hd r)with
   | none=>
    have l:Hid (PR=.ok _):=hid (by rw[<-L.2.2,ZAg i]);rcases ZzL ht.out s.1 s.2.2 V i with o|⟨j,o,N,b3⟩
    ·rw[o];clear i o;go_wp2;go_ret2;exact⟨_,_,rfl,.inr ⟨_,_,rfl⟩,l.out▸⟨rfl,⟨_,f.out⟩,A.out⟩,B⟩
    ·rw[o];have b4:((Zdb j:Int) != lv)=true:=by rw[bne_iff_ne];omega
     rw[show(some j).getD 0=j from rfl,show(some j).isSome=true from rfl];clear i o
     go_wp2_with (go_at_call 53;refine(Zm0 j N _).mono ?_;rintro e wq ⟨rfl,rfl⟩)
     go_ret2;exact⟨_,_,rfl,.inr ⟨_,_,rfl⟩,l.out▸⟨rfl,⟨_,f.out⟩,A.out⟩,B⟩
   | some p=>
    obtain⟨j,o,N,b3,a4,O,C⟩:=ZzN ht.out s.1 s.2.2 V i;have l:Hid ((bnd _ _)=PR):=hid (by rw[<-L.2.2,ZAe i]);have a5:Hid (opNo _=j/\(p.1=4∨p.1=6)):=⟨a4,O⟩
    have b5:=hid C;have b4:((Zdb j:Int) != lv)=false:=by rw[bne_eq_false_iff_eq];omega
    rw[o,show(some j).getD 0=j from rfl,show(some j).isSome=true from rfl];obtain⟨rc0,rc1,rfz,rcx⟩:=f.rd.all;have c6:=f.lt;have c7:=f.len;have c8:=L.1;have c9:=L.2.1;clear i o a4 O C rcx
    go_upto_region 10 with (go_at_call 53;refine(Zm0 j N _).mono ?_;rintro e wq ⟨rfl,rfl⟩)
    refine ZP fun W8 D=>?_;have P:Hid _:=D▸f.step b5.out;have a6:Hid _:=D▸ZA B.out (Or.inl rfl) _;have a7:Hid (Zh W8 a (.iface ty u)):=D▸A.read f.out (ZA (ZbM _ _) (Or.inl rfl) _);have c3:=f.pos;have T:=P.pos;rw[List.length_tail]at T;clear D rc0 rc1 rfz f B A
    go_wp2_with fail
    refine(HC m Om _ _ _ P (by rw[List.length_tail];omega)).mono ?_;rintro e w9 ⟨pv,v,rfl,I,d,Q⟩;have a8:=hid (Zj a6 Q);have b6:=hid (a7.read P Q);clear Q a6 a7;cases c:Zs m false (lv+1) .nil r.tail deep with
    | error er=>
     have HE:=hid (d.err c);obtain⟨fa,rfl⟩:=HE.shape;have K:Hid (PR=.error er):=by rw[<-l,c];rfl
     clear d c;go_wp2;go_ret2;exact⟨_,_,rfl,.inl rfl,by rwa [K.out],a8⟩
    | ok pr=>
     obtain⟨b,y⟩:=pr;obtain⟨rfl,⟨k9,a9⟩,S⟩:=d.good c;have b7:=hid a9;have b8:=hid S;have b9:Hid (Zs m true lv (.node 0 0 (nd0 p.1 p.2) a b) y deep=PR):=by rw[<-l,c];rfl
     have U:=Zg1 m _ _ _ _ _ _ c;simp only[List.length_tail,Bool.false_eq_true,if_false]at U;obtain⟨ty2,u2,b0⟩:=Zh.shape S;subst b0;have b1:Hid (Zh _ (.node 0 0 _ a b) _):=hid (.inr (.inr (.inr (.inr (.inr ⟨a5.2,_,_,by rw[a5.1],b6,b8⟩)))));clear d c a9 S I l;go_wp2
     go_roundg y.length
     case measure=>omega
     case rel=>exact⟨_,y,k9,m,rfl,b1,b7,⟨by omega,by omega,b9⟩,a8⟩
theorem ZnQ:∀n,(∀lv,lv<=3->∀m,m<=n->RP lv m)/\(∀m,m<=n->RF m)
 | 0 => by
   constructor
   · intro lv f m c w R k ts deep _ _ a
     exact absurd (a) Om
   · intro m c w R k ts deep _ _ a
     exact absurd (a) Om
 | n + 1 => by
   obtain⟨d,g⟩:=ZnQ n
   have o:RF (n+1):=by
     intro w R k ts deep h hd a;have p:=a;show Calls _ _ _ _ (fun e u=>∃(pv v:Value),e=.returned (.tuple #[pv,v])/\Zhp pv/\Hid (Res R (fun u t=>Zh u t pv) u (Zs (n+1) false 3 .nil ts deep) v)/\w.grownBy u (some R.b));rw[ZAc];refine Zv2 ?_ (Zug ?_) w R k _ _ h hd (Nat.le_refl _)
     · intro w R k ts2 deep h hd i
       exact g n (Nat.le_refl _) w R k _ _ h hd (by show 10*ts2.length+2<=n;have j:=i;omega)
     · intro w R k ts2 deep h hd i
       exact d 0 Om n (Nat.le_refl _) w R k _ _ h hd (by show 10*ts2.length+5<=n+0;have j:=i;omega)
   constructor
   · intro lv f m c
     by_cases l:m<=n
     · exact d _ f m l
     · obtain rfl:m=n+1:=by omega
       by_cases j:lv=3
       · subst j;exact ZAh o
       · exact ZAj Om (fun m c=>d _ Om m c)
   · intro m c
     by_cases l:m<=n
     · exact g m l
     · obtain rfl:m=n+1:=by omega
       exact o
