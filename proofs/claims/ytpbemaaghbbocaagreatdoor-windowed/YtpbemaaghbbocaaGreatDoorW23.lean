/- Parts. -/
import Derived.Test.YtpbemaaghbbocaaGreatDoorW22
import Derived.Test.YtpbemaaghbbocaaGreatDoorW16
set_option linter.all false
set_option maxRecDepth 100000
set_option maxHeartbeats 16000000
namespace Go.Proofs.YtpbemaaghbbocaaGreatDoor
open Go.RowKit LS Go.Proofs.Tryz
variable {x:Int}{l m:List Int}{B:Nat}{sk sn v':Value}{w w':World}
def ZOZ(wr:World)(B:Nat)(sn sk:Value)(l m:List Int):Prop:=wr.ownsRow B 3 1 sn l.length (l.map (.int .i64))/\wr.ownsRow B 3 1 sk m.length (m.map (.int .i64))/\(sn.ownBlock=none∨sn.ownBlock≠sk.ownBlock)
theorem ZOZ.below{wr:World}(h:ZOZ wr B sn sk l m)(a:BW wr w'):ZOZ w' B sn sk l m:=⟨Zn h.1 a,Zn h.2.1 a,h.2.2⟩
theorem ZOZ.left(h:ZOZ w B sn sk l m)(e:w'.ownsRow B 3 1 v' (l.length+1) (l.map (.int .i64)++[Vi x]))(f:w.grownBy w' sn.ownBlock)(c:v'.ownBlock=sn.ownBlock∨v'.ownBlock=some w.heap.size):ZOZ w' B v' sk (l++[x]) m:=by
 obtain⟨j,d,a⟩:=h;refine⟨by rw[Yaq,Yab];exact e,d.kept f ?_,?_⟩
 ·cases g:sk.ownBlock with
  | none=>exact Or.inl rfl
  | some k=>
   rcases a with a|a
   ·rw[a];exact Or.inr (by simp)
   ·rw[g]at a;exact Or.inr (Ycp a)
 ·rcases c with c|c
  ·rw[c];exact a
  ·right
   rw[c];intro i;have:=(d.lt _ i.symm).2;omega
theorem ZOZ.right(h:ZOZ w B sn sk l m)(f:w'.ownsRow B 3 1 v' (m.length+1) (m.map (.int .i64)++[Vi x]))(g:w.grownBy w' sk.ownBlock)(a:v'.ownBlock=sk.ownBlock∨v'.ownBlock=some w.heap.size):ZOZ w' B sn v' l (m++[x]):=by
 obtain⟨c,j,d⟩:=h;refine⟨c.kept g d,by rw[Yaq,Yab];exact f,?_⟩;rcases a with a|a
 ·rw[a];exact d
 ·rw[a];cases i:sn.ownBlock with
  | none=>exact Or.inl rfl
  | some k=>
   have:=(c.lt _ i).2;refine Or.inr ?_;intro e;injection e with e;omega
def ZO5:List BA:=[⟨#[116,111,116,97,108,40,120,91]⟩,⟨#[112,101,97,107,40,120,91]⟩,⟨#[108,111,119,40,120,91]⟩,⟨#[115,105,122,101,40,120,91]⟩,⟨#[114,105,115,101,40,120,91]⟩]
theorem ZPO{j:Nat}(h:j<5):∃x:BA,(ZO5.map Value.string)[j]?=some (.string x)/\bl x=Z0.getD j []++[40,120,91]/\x.size<=8:=by
 obtain rfl|rfl|rfl|rfl|rfl:j=0∨j=1∨j=2∨j=3∨j=4:=by omega
 all_goals exact⟨_,rfl,rfl,by decide⟩
theorem ZPq(a:Addr)(i:Nat):(a.add i).block=a.block:=by unfold Addr.add;split <;> rfl
theorem ZPP(a:Addr)(i:Nat):(a.add (i*2)).add 1=a.add (i*2+1):=by
 unfold Addr.add;by_cases h:i*2=0
 ·rw[if_pos h,if_neg Dc,if_neg Om,h]
 ·rw[if_neg h,if_neg Dc,if_neg Om];simp[Yfu]
theorem ZO0{P:Program}(x y:BA)(h:x.size+y.size<=9000000000000):∀W,(Op.stringOp .add x y).run P W=.ok (.string (x++y)) W:=fun W=>run_string_add_sum W _ _ Om
theorem ZQh(ao:Option Addr)(n cap:Nat)(c1 c2:Int)(Rd:Nat->Int×Int)(A:Nat->Addr)(m:Int)(w:World)(hv:Vars w A m)(ht:ZR w)(hB:20<=w.heap.size)(hn:n<=maxLen)(g1 : -9223372036854775808<=c1/\c1<=9223372036854775807)(g2 : -9223372036854775808<=c2/\c2<=9223372036854775807)
  (ha:(ao=none/\n=0/\cap=0)∨∃a:Addr,ao=some a/\(0<n->a.block<w.heap.size)/\∀i,i<n->w.cell? (a.add (i*2))=some (Vi (Rd i).1)/\w.cell? (a.add (i*2+1))=some (Vi (Rd i).2))
  (j3:∀i,i<n->(-9223372036854775808<=(Rd i).1/\(Rd i).1<=9223372036854775807)/\(-9223372036854775808<=(Rd i).2/\(Rd i).2<=9223372036854775807)) :
  Cq 6 #[.slice ao n cap,Vi c1,Vi c2] w fun e w'=>e=.returned (.bool true)/\BW w w':=by
 have HE:Hid (∀(q s:BA) (t:Int) W,q.size<=9223372036854775807->s.size<=maxLen->BW w W->Cq 10 #[.string q,.string s,.agg #[Vi t,Vi t,Vi 1]] W _):=hid (fun q s t W hq hs hb=>Zpy q s t t 1 A m W (hv.below hb) (ht.low hb hB) (Yah hB hb.size) hq hs)
 have HC : Hid (∀ i, i < n -> ∃ a : Addr, ao = some a /\ ∀ W, BW w W -> W.cell? (a.add (i * 2)) = some (Vi (Rd i).1) /\ W.cell? (a.add (i * 2 + 1)) = some (Vi (Rd i).2)) := hid (fun i hi => by
   rcases ha with ⟨_,rfl,_⟩|⟨a,rfl,h1,I⟩
   · omega
   · refine⟨a,rfl,fun W hb=>?_⟩
     rw[<-(I i hi).1,<-(I i hi).2];exact⟨Ycc (by rw[ZPq];exact hb.block a.block (h1 Om)),Ycc (by rw[ZPq];exact hb.block a.block (h1 Om))⟩)
 have g3:=hid j3;clear hv ht hB ha j3;obtain⟨i0,hi,f7,f8,f9⟩:=info_parts Tryz.infoInt;obtain⟨g,hg⟩:∃g:Nat,Zd6 c1 1000=g:=⟨(Zd6 c1 1000).toNat,by have:=ZmM c1 1000 Dc;omega⟩
 have m7:g<1000:=by have:=ZmM c1 1000 Dc;omega
 obtain⟨t,j4⟩:∃t:Nat,Zd6 c2 2000=t:=⟨(Zd6 c2 2000).toNat,by have:=ZmM c2 2000 Dc;omega⟩
 have m8:t<2000:=by have:=ZmM c2 2000 Dc;omega
 have j5:Hid (Cq 12 #[Vi c1,Vi 1000] w fun e w'=>e=.returned (Vi (g:Int))/\w=w'):=hid ((ZAC c1 1000 g1.1 g1.2 Dc Dc w).mono (fun e w' ⟨h1,I⟩=>⟨by rw[h1,hg],I.symm⟩));have j6:Hid (Cq 12 #[Vi c2,Vi 2000] w fun e w'=>e=.returned (Vi (t:Int))/\w=w'):=hid ((ZAC c2 2000 g2.1 g2.2 Dc Dc w).mono (fun e w' ⟨h1,I⟩=>⟨by rw[h1,j4],I.symm⟩));have g0:Hid (∀(c k:Int) W,-9223372036854775808<=c->c<=9223372036854775807->1<=k->k<=9223372036854775807->Cq 12 #[Vi c,Vi k] W fun e w'=>e=.returned (Vi (Zd6 c k))/\W=w'):=hid (fun c k W h1 I h3 h4=>(ZAC c k h1 I h3 h4 W).mono (fun e w' ⟨h5,h6⟩=>⟨h5,h6.symm⟩));clear g1 g2 hg j4;go_enter func6,ntmps6
 go_wp2_with fail
 refine j5.mono ?_;rintro e w1 ⟨rfl,rfl⟩
 go_wp2_with fail
 refine j6.mono ?_;rintro e z ⟨rfl,rfl⟩;clear j5 j6
 go_wp2_with fail
 go_loopg [9,10,11,12,13] n (fun gk s9 s10 s11 s12 s13 wr=>∃(i:Nat) (L:BA),i<=n/\i<=100/\gk=n - i/\s9=.string L/\s10=Vi (tmS Rd i)/\s13=Vi i/\Hid (bl L=linS (RKs Rd i))/\Hid (ZOZ wr w.heap.size s11 s12 (ZOX Rd i ((g:Int)+1) t) (ZOX Rd i 10 t))/\Hid (BW w wr))
 case atStart=>exact⟨0,⟨#[120,123,125]⟩,Yag _,Yag _,rfl,rfl,rfl,rfl,hid rfl,hid ⟨Ybc _ _ _ _,Ybc _ _ _ _,Or.inl rfl⟩,hid (Yaf _ _)⟩
 case round=>
  obtain⟨i,L,m9,B,n0,rfl,rfl,rfl,HL,HN,HB⟩:=hrel;have j7:L.size<=3+18*i:=by rw[<-Zd,HL.out];exact ZO6 Rd i B
  have k8:=ZPf Rd i;obtain⟨l6,l7⟩:=k8;by_cases b1:i<n/\i<100
  ·obtain⟨g4,k5⟩:=b1;obtain⟨a,rfl,g5⟩:=HC.out i g4;have g5:=g5 wr HB.out;obtain⟨ca,cb⟩:=g5;rw[<-ZPP]at cb;have cb:wr.cell? ⟨(a.add (i*2)).block,(a.add (i*2)).off+1,none⟩=some (Vi (Rd i).2):=cb;obtain⟨⟨r1,r2⟩,r3,r4⟩:=g3.out i g4;have k9:=ZPg Rd i;have l0:=ZPe Rd i;have l5:(i:Int)<n:=by omega
   have l1:=ZmM (Rd i).1 20 Dc;obtain⟨l8,l9⟩:=l1;have l2:=ZmM (Rd i).2 2000001 Dc;obtain⟨m0,m1⟩:=l2;have m2:(20:Int)*(i:Int)<=2000:=by omega
   have e32:(⟨#[32]⟩:BA).size=1:=rfl;have e58:(⟨#[58]⟩:BA).size=1:=rfl
   go_wp2_with fail
   refine(g0.out (Rd i).1 20 _ r1 r2 Dc Dc).mono ?_;rintro e w3 ⟨rfl,rfl⟩
   go_wp2_with fail
   refine(g0.out (Rd i).2 2000001 _ r3 r4 Dc Dc).mono ?_;rintro e w3 ⟨rfl,rfl⟩;obtain⟨v,d7⟩:∃v:Int,v=Zd6 (Rd i).2 2000001 - 1000000:=⟨_,rfl⟩
   obtain⟨tm,Z⟩:∃x:Int,x=tmS Rd (i+1):=⟨_,rfl⟩
   have et:tmS Rd i+1+Zd6 (Rd i).1 20=tm:=Z.symm;have ev:Zd6 (Rd i).2 2000001 - 1000000=v:=d7.symm;have n1 : -1000000<=v:=by omega
   have n2:v<=1000000:=by omega
   have m3:0<=tm:=by omega
   have m4:tm<=2000:=by omega
   have l3:Hid ((t:Int) - ((g:Int)+1)<tm->tm<=t->ZOX Rd (i+1) ((g:Int)+1) t=ZOX Rd i ((g:Int)+1) t++[v]):=hid (fun h1 I=>by rw[d7];exact ZPD (by rw[<-Z];exact h1) (by rw[<-Z];exact I));have j8:Hid (¬((t:Int) - ((g:Int)+1)<tm/\tm<=t)->ZOX Rd (i+1) ((g:Int)+1) t=ZOX Rd i ((g:Int)+1) t):=hid (fun h=>ZPE (by rw[<-Z];exact h));have j9:Hid ((t:Int) - 10<tm->tm<=t->ZOX Rd (i+1) 10 t=ZOX Rd i 10 t++[v]):=hid (fun h1 I=>by rw[d7];exact ZPD (by rw[<-Z];exact h1) (by rw[<-Z];exact I));have g6:Hid (¬((t:Int) - 10<tm/\tm<=t)->ZOX Rd (i+1) 10 t=ZOX Rd i 10 t):=hid (fun h=>ZPE (by rw[<-Z];exact h));have k0:Hid (linS (RKs Rd (i+1))=linS (RKs Rd i)++[32]++decI tm++[58]++decI v):=hid (by rw[ZPA,Z,d7]);have d8:tmS Rd (i+1)=tm:=Z.symm;clear Z d7 k9 l0
   go_wp2_with fail
   refine(ZO3 tm wr Om Om).mono ?_;rintro e w4 ⟨q1,rfl,n3,k1,g7⟩;have g8:Hid (BW w w4):=hid (HB.trans (g7.mono HB.size));have k2:=hid (HN.below g7);clear g7 HN ca cb
   go_wp2_with fail
   refine(ZO3 v w4 Om Om).mono ?_;rintro e w5 ⟨q2,rfl,n4,k3,g9⟩;have b2:Hid (BW w w5):=hid (g8.trans (g9.mono g8.size));have a5:=hid (k2.below g9);clear g9 k2 g8;have HF:Hid (bl (L++⟨#[32]⟩++q1++⟨#[58]⟩++q2)=linS (RKs Rd (i+1))):=hid (by rw[ZcV,ZcV,ZcV,ZcV,HL.out,k1.out,k3.out,k0.out];rfl);have n5:=ZO4 (Rd:=Rd) (k:=i) (n:=(g:Int)+1) (t:=t);have n6:=ZO4 (Rd:=Rd) (k:=i) (n:=10) (t:=t);have m5:=b2.size;clear k1 k3 k0 HL;by_cases d9:tm<=(t:Int)
   ·by_cases Y:(t:Int) - ((g:Int)+1)<tm
    ·have enr:=l3.out Y d9;have d5:(ZOX Rd i ((g:Int)+1) t).length+1<=101:=by omega
     by_cases K:(t:Int) - 10<tm
     ·have els:=j9.out K d9
      go_wp2_with (at_builtin;refine wpList_append_own_at _ rfl (.tmp 76) (.tmp 78) 38 rfl w.heap.size 3 i0 (Vi 0) 1 8 underlying38 hi f7 f8 f9 rfl Dc _ _ _ rfl (a5.1.alloc _) ⟨w5.heap.size,0,none⟩ 1 1 [Vi v] rfl rfl (ZcY rfl) ?c2 ?c3 ?c4 ?c5 ?_)
      case c2=>first|exact rfl|(intro u hu;simp at hu;subst hu;rfl)
      case c3=>unfold maxLen;omega
      case c4=>omega
      case c5=>first|omega|(simp;omega)
      intro v' w6 b3 a4 _ b9;have e0:=hid (ZOZ.left (a5.below Zbal) b3 a4 (by simpa using b9));have d6:Hid (BW w w6):=hid (ZJO (b2.alloc b2.size _) a4 (fun q hq=>(a5.1.lt q hq).1));have k6:=d6.size;clear b3 a4 b9
      go_wp2_with (at_builtin;refine wpList_append_own_at _ rfl (.tmp 89) (.tmp 91) 38 rfl w.heap.size 3 i0 (Vi 0) 1 8 underlying38 hi f7 f8 f9 rfl Dc _ _ _ rfl (e0.2.1.alloc _) ⟨w6.heap.size,0,none⟩ 1 1 [Vi v] rfl rfl (ZcY rfl) ?c2 ?c3 ?c4 ?c5 ?_)
      case c2=>first|exact rfl|(intro u hu;simp at hu;subst hu;rfl)
      case c3=>unfold maxLen;omega
      case c4=>omega
      case c5=>first|omega|(simp;omega)
      intro v2 w7 b4 O _ b5;have i1:=hid (ZOZ.right (e0.below Zbal) b4 O (by simpa using b5));have D:Hid (BW w w7):=hid (ZJO (d6.alloc d6.size _) O (fun q hq=>(e0.2.1.lt q hq).1));clear b4 O b5;go_wp2
      go_roundg (n - (i+1))
      case measure=>omega
      case rel=>exact⟨i+1,_,by omega,by omega,rfl,rfl,congrArg (Value.int .i64) d8.symm,by go_num,HF,hid (by rw[enr,els];exact i1.out),D⟩
     ·have els:=g6.out (fun h=>K h.1)
      go_wp2_with (at_builtin;refine wpList_append_own_at _ rfl (.tmp 76) (.tmp 78) 38 rfl w.heap.size 3 i0 (Vi 0) 1 8 underlying38 hi f7 f8 f9 rfl Dc _ _ _ rfl (a5.1.alloc _) ⟨w5.heap.size,0,none⟩ 1 1 [Vi v] rfl rfl (ZcY rfl) ?c2 ?c3 ?c4 ?c5 ?_)
      case c2=>first|exact rfl|(intro u hu;simp at hu;subst hu;rfl)
      case c3=>unfold maxLen;omega
      case c4=>omega
      case c5=>first|omega|(simp;omega)
      intro v' w6 b3 a4 _ b9;have e0:=hid (ZOZ.left (a5.below Zbal) b3 a4 (by simpa using b9));have d6:Hid (BW w w6):=hid (ZJO (b2.alloc b2.size _) a4 (fun q hq=>(a5.1.lt q hq).1));have k6:=d6.size;clear b3 a4 b9;go_wp2
      go_roundg (n - (i+1))
      case measure=>omega
      case rel=>exact⟨i+1,_,by omega,by omega,rfl,rfl,congrArg (Value.int .i64) d8.symm,by go_num,HF,hid (by rw[enr,els];exact e0.out),d6⟩
    ·have enr:=j8.out (fun h=>Y h.1);by_cases K:(t:Int) - 10<tm
     ·have els:=j9.out K d9
      go_wp2_with (at_builtin;refine wpList_append_own_at _ rfl (.tmp 89) (.tmp 91) 38 rfl w.heap.size 3 i0 (Vi 0) 1 8 underlying38 hi f7 f8 f9 rfl Dc _ _ _ rfl (a5.2.1.alloc _) ⟨w5.heap.size,0,none⟩ 1 1 [Vi v] rfl rfl (ZcY rfl) ?c2 ?c3 ?c4 ?c5 ?_)
      case c2=>first|exact rfl|(intro u hu;simp at hu;subst hu;rfl)
      case c3=>unfold maxLen;omega
      case c4=>omega
      case c5=>first|omega|(simp;omega)
      intro v2 w7 b4 O _ b5;have i1:=hid (ZOZ.right (a5.below Zbal) b4 O (by simpa using b5));have D:Hid (BW w w7):=hid (ZJO (b2.alloc b2.size _) O (fun q hq=>(a5.2.1.lt q hq).1));clear b4 O b5;go_wp2
      go_roundg (n - (i+1))
      case measure=>omega
      case rel=>exact⟨i+1,_,by omega,by omega,rfl,rfl,congrArg (Value.int .i64) d8.symm,by go_num,HF,hid (by rw[enr,els];exact i1.out),D⟩
     ·have els:=g6.out (fun h=>K h.1);go_wp2
      go_roundg (n - (i+1))
      case measure=>omega
      case rel=>exact⟨i+1,_,by omega,by omega,rfl,rfl,congrArg (Value.int .i64) d8.symm,by go_num,HF,hid (by rw[enr,els];exact a5.out),b2⟩
   ·have enr:=j8.out (fun h=>d9 h.2);have els:=g6.out (fun h=>d9 h.2);go_wp2
    go_roundg (n - (i+1))
    case measure=>omega
    case rel=>exact⟨i+1,_,by omega,by omega,rfl,rfl,congrArg (Value.int .i64) d8.symm,by go_num,HF,hid (by rw[enr,els];exact a5.out),b2⟩
  ·have k4:=HN.out;by_cases k5:(i:Int)<n
   ·have m6:¬(i:Int)<100:=by omega
    clear b1 HC g3 g0;obtain⟨near,Y⟩:∃l,l=ZOX Rd i ((g:Int)+1) t:=⟨_,rfl⟩
    obtain⟨last,K⟩:∃l,l=ZOX Rd i 10 t:=⟨_,rfl⟩
    have e2:Hid (∀x∈near,mil x):=hid (by rw[Y];exact ZPa);have e4:Hid (∀x∈last,mil x):=hid (by rw[K];exact ZPa);have d5:near.length<=100:=by rw[Y];exact Yah ZO4 B
    have i2:last.length<=100:=by rw[K];exact Yah ZO4 B
    have e5 : Hid (∀ (j : Nat) (q r : BA) (c p : Nat), j < 5 -> bl q = Z0.getD j [] ++ [40, 120, 91] ++ decI ((g : Int) + 1) ++ [93, 41] -> ZdK (bl q) (bl L) t t 1 = (bl r, c, p) -> bl r = ZOY t near (ZfI j near) /\ c = 0) := hid (fun j q r c p hj hq he => by
      have e1:bl q=winQ j (g+1):=by rw[hq,ZPi Om,show((g:Int)+1).toNat=g+1 by omega];rfl
      rw[e1,HL.out,ZPx (ZO9 Rd i B) (by have:=ZO6 Rd i B;omega) (by rw[ZO8];omega) Om Om hj Om Om,ZPL Rd i j t B]at he;injection he with h1 I;injection I with I _;rw[Y];exact⟨h1.symm,I.symm⟩)
    have e6 : Hid (∀ (r : BA) (c p : Nat), ZdK [120] (bl L) t t 1 = (bl r, c, p) -> bl r = ZOY t last (last.getLastD 0) /\ c = 0) := hid (fun r c p he => by
      rw[HL.out,ZPy (ZO9 Rd i B) (by have:=ZO6 Rd i B;omega) (by rw[ZO8];omega) Om Om,ZPK Rd i t]at he;injection he with h1 I;injection I with I _;rw[K];exact⟨h1.symm,I.symm⟩)
    have b6:Hid (ZOZ wr w.heap.size u11 u12 near last):=hid (by rw[Y,K];exact HN.out);clear Y K HN HL;obtain⟨av,cp,i3⟩:=Zl b6.1;obtain⟨av2,cp2,i4⟩:=Zl b6.2.1;subst i3 i4
    go_wp2_with fail
    refine ZP fun W hW=>?_;have c0:Hid (BAt W wr.heap.size (ZO5.map Value.string) 9):=hid (by rw[hW];exact BAt.alloc (Go.Deep.blk_alloc_new _ _) _)
    have c6:Hid (BAt W (wr.heap.size+1) [Vi t,Vi t,Vi 1] 23):=hid (by
     rw[hW];have:=Go.Deep.blk_alloc_new (wr.alloc (.cells ⟨ZO5.map Value.string⟩ 9)) (.cells #[Vi t,Vi t,Vi 1] 23);rw[Go.Deep.nblk_alloc]at this;exact this)
    have c7:BW wr W:=by rw[hW];exact Zbal.alloc (by simp) _
    have c8:Hid (BW w W):=hid (HB.trans (c7.mono HB.size));have e7:=hid (b6.below c7);clear hW c7 b6 HB k4;have f3:w.heap.size<=W.heap.size:=c8.size;obtain⟨B1,e8⟩:∃B1,B1=wr.heap.size:=⟨_,rfl⟩
    rw[<-e8]at c0 c6 ⊢;clear e8;have e9:L.size<=maxLen:=Yah j7 (by unfold maxLen;omega);have i5:Hid (∀X:World,Cq 14 #[Vi ((g:Int)+1)] X _):=hid (fun X=>ZO3 ((g:Int)+1) X Om Om);have f0:Hid (∀X:World,Cq 14 #[Vi (t:Int)] X _):=hid (fun X=>ZO3 (t:Int) X Om Om)
    go_loopg [17] 5 (fun gk s17 wx=>∃j:Nat,j<=5/\gk=5 - j/\s17=Vi j/\Hid (BAt wx B1 (ZO5.map Value.string) 9)/\Hid (BAt wx (B1+1) [Vi t,Vi t,Vi 1] 23)/\Hid (ZOZ wx w.heap.size (.slice av near.length cp) (.slice av2 last.length cp2) near last)/\Hid (BW w wx))
    case atStart=>exact⟨0,Yag _,rfl,rfl,c0,c6,e7,c8⟩
    case round=>
     clear c0 c6 e7 c8 f3;obtain⟨j,hj,k7,rfl,M,C,N,o⟩:=hrel;have x0:=C.cell 0;have x1:=C.cell 1;have x2:=C.cell 2;simp only[Zget]at x0 x1 x2;by_cases b1:j<5
     ·obtain⟨x,hx,f1,i6⟩:=ZPO b1;have cw:wr.cell? ⟨B1,j,none⟩=some (.string x):=(M.cell j).trans hx;have f2:=hid f1;have l4:(j:Int)<5:=by omega
      have b7:Hid (∀X:World,BW wr X->X.cell? ⟨B1,j,none⟩=some (.string x)/\X.cell? ⟨B1+1,0,none⟩=some (Vi t)/\X.cell? ⟨B1+1,1,none⟩=some (Vi t)/\X.cell? ⟨B1+1,2,none⟩=some (Vi 1)):=hid (fun X hb=>⟨((M.below hb).cell j).trans hx,(C.below hb).cell 0,(C.below hb).cell 1,(C.below hb).cell 2⟩);have e93:(⟨#[93,41]⟩:BA).size=2:=rfl;clear hx f1
      go_upto_region 22 with fail
      go_cut [18,19,20] from 97 to 136 (fun s18 s19 s20 wx=>∃(r:BA) (c p:Nat),s18=.string r/\s19=Vi c/\s20=Vi p/\Hid (bl r=ZOY t near (ZfI j near)/\c=0)/\Hid (BW wr wx))
      case first=>
       go_region_held3 (fun w' => w'.cell? ⟨B1, j, none⟩ = some (.string x) /\ w'.cell? ⟨B1 + 1, 0, none⟩ = some (Vi t) /\ w'.cell? ⟨B1 + 1, 1, none⟩ = some (Vi t) /\ w'.cell? ⟨B1 + 1, 2, none⟩ = some (Vi 1)) (first | exact ⟨cw, x0, x1, x2⟩ | exact b7.out _ a0.out | exact b7.out _ D.out | go_keep) (first
         | (go_at_call 14
            refine(i5.out _).mono ?_;rintro e w7 ⟨q,rfl,hq,HQ,a3⟩;have D:Hid (BW wr w7):=hid ⟨a3.os,a3.tape,a3.output,a3.size,a3.block⟩;obtain⟨y,y0,y1,y2⟩:=b7.out w7 D.out;have a1:=ZO0 (P:=prog) x q Om;have a2:=ZO0 (P:=prog) (x++q) ⟨#[93,41]⟩ (by simp only[Yaz];omega);have f4:(x++q++⟨#[93,41]⟩:BA).size<=9223372036854775807:=by simp only[Yaz];omega
            have i7:Hid (bl (x++q++⟨#[93,41]⟩)=Z0.getD j []++[40,120,91]++decI ((g:Int)+1)++[93,41]):=hid (by rw[ZcV,ZcV,f2.out,HQ.out];rfl);clear a3)
         | (go_at_call 10
            refine(HE.out _ L t _ f4 e9 (o.trans (((⟨D.os,D.tape,D.output,D.size,D.block⟩:BW wr _)).mono o.size))).mono ?_;rintro e w8 ⟨r,c,p,rfl,b8,H⟩;have a0:Hid (BW wr w8):=hid (D.trans ((⟨H.os,H.tape,H.output,H.size,H.block⟩:BW w7 w8).mono D.size));have i8:=hid (e5.out j _ r c p b1 i7.out b8.out);clear H))
       all_goals
        go_wp2_with fail
        go_meet
        exact⟨_,_,_,rfl,rfl,rfl,i8,a0⟩
      case rest=>
      obtain⟨r,c,p,rfl,rfl,rfl,HR,c9⟩:=hcut;obtain⟨a6,d0⟩:=HR.out;subst d0;have F:=hid a6;clear HR a6 cw x0 x1 x2 b7 e93 f2 i6
      go_wp2_with fail
      refine(f0.out wc).mono ?_;rintro e Q ⟨d,rfl,hd,HD,a7⟩;have f:Hid (BW wr Q):=hid (c9.trans (a7.mono c9.size));clear a7 c9;have e3:(⟨#[32,123,125]⟩:BA).size=3:=rfl;by_cases E:0<near.length
      ·have i9:(0:Int)<near.length:=by omega
       have HW:Hid (ZOY t near (ZfI j near)=decI t++[32,123,125]++decI (ZfI j near)):=hid (by
        unfold ZOY;rw[if_neg (by cases hh:near with|nil=>rw[hh]at E;exact absurd E Dc|cons a b=>simp),Yan])
       have a1:=ZO0 (P:=prog) d ⟨#[32,123,125]⟩ Om
       go_wp2_with fail
       refine(ZPc j Om near Q (Zgi (Zn N.1 f.out)) d5 e2.out E).mono ?_;rintro e R ⟨rfl,nd,S⟩;have T:BW Q R:=by rw[S];exact ZhQ (Yaf _ _) _
       have G:Hid (BW wr R):=hid (f.trans (T.mono f.size));have etk:ZO1 j near=ZfI j near:=by unfold ZO1;rw[if_neg Om]
       rw[etk];have a8:=(ZPo e2.out d5 j).2;obtain⟨f5,f6⟩:=a8;clear T S f etk
       go_wp2_with fail
       refine(ZO3 (ZfI j near) R Om Om).mono ?_;rintro e a9 ⟨d2,rfl,j0,b0,U⟩;have J:Hid (BW wr a9):=hid (G.trans (U.mono G.size));have a2:=ZO0 (P:=prog) (d++⟨#[32,123,125]⟩) d2 (by simp only[Yaz];omega);obtain rfl:r=d++⟨#[32,123,125]⟩++d2:=ZcW (by rw[F.out,HW.out,ZcV,ZcV,HD.out,b0.out];rfl);have d1:=hid (M.below J.out);have d3:=hid (C.below J.out);have d4:=hid (N.below J.out);have V:Hid (BW w a9):=hid (o.trans (J.mono o.size));clear U G HD b0 HW F M C N o;go_wp2
       go_roundg (5 - (j+1))
       case measure=>omega
       case rel=>exact⟨j+1,by omega,rfl,by go_num,d1,d3,d4,V⟩
      ·have j1:¬((0:Int)<near.length):=by omega
       obtain rfl:r=d:=ZcW (by
        rw[F.out,HD.out];unfold ZOY;rw[if_pos (by cases hh:near with|nil=>rfl|cons a b=>rw[hh]at E;simp at E),Yca])
       have d1:=hid (M.below f.out);have d3:=hid (C.below f.out);have d4:=hid (N.below f.out);have V:Hid (BW w Q):=hid (o.trans (f.mono o.size));clear HD F M C N o f;go_wp2
       go_roundg (5 - (j+1))
       case measure=>omega
       case rel=>exact⟨j+1,by omega,rfl,by go_num,d1,d3,d4,V⟩
     ·obtain rfl:j=5:=by omega
      have e3:(⟨#[32,123,125]⟩:BA).size=3:=rfl
      go_wp2_with fail
      refine(HE.out ⟨#[120]⟩ L t wr Dc e9 o.out).mono ?_;rintro e w8 ⟨r,c,p,rfl,b8,H⟩;have j2:=e6.out r c p (show ZdK [120] (bl L) t t 1=(bl r,c,p) from by have h:=b8.out;rw[show bl (⟨#[120]⟩:BA)=[120] from rfl]at h;exact h);obtain⟨a6,d0⟩:=j2;subst d0;have F:=hid a6;have a0:Hid (BW wr w8):=hid H;clear a6 b8 H x0 x1 x2 HE e6 e5
      go_wp2_with fail
      refine(f0.out w8).mono ?_;rintro e Q ⟨d,rfl,hd,HD,a7⟩;have f:Hid (BW wr Q):=hid (a0.trans (a7.mono a0.size));clear a7 a0;by_cases E:0<last.length
      ·have i9:(0:Int)<last.length:=by omega
       have HW:Hid (ZOY t last (last.getLastD 0)=decI t++[32,123,125]++decI (last.getLastD 0)):=hid (by
        unfold ZOY;rw[if_neg (by cases hh:last with|nil=>rw[hh]at E;exact absurd E Dc|cons a b=>simp),Yan])
       have a1:=ZO0 (P:=prog) d ⟨#[32,123,125]⟩ Om
       go_wp2_with fail
       obtain⟨y,hy⟩:∃y,y=last.getLastD 0:=⟨_,rfl⟩
       rw[<-hy]at HW F;refine(ZPc 5 Om last Q (Zgi (Zn N.2.1 f.out)) i2 e4.out E).mono ?_;rintro e R ⟨rfl,nd,S⟩;have T:BW Q R:=by rw[S];exact ZhQ (Yaf _ _) _
       have G:Hid (BW wr R):=hid (f.trans (T.mono f.size));have etk:ZO1 5 last=y:=by unfold ZO1;rw[if_pos rfl,hy]
       rw[etk];have a8:=(ZPk e4.out).2;rw[<-hy]at a8;unfold mil at a8;obtain⟨f5,f6⟩:=a8;clear T S f etk hy
       go_wp2_with fail
       refine(ZO3 y R Om Om).mono ?_;rintro e a9 ⟨d2,rfl,j0,b0,U⟩;have J:Hid (BW wr a9):=hid (G.trans (U.mono G.size));have a2:=ZO0 (P:=prog) (d++⟨#[32,123,125]⟩) d2 (by simp only[Yaz];omega);obtain rfl:r=d++⟨#[32,123,125]⟩++d2:=ZcW (by rw[F.out,HW.out,ZcV,ZcV,HD.out,b0.out];rfl);have V:Hid (BW w a9):=hid (o.trans (J.mono o.size));clear U G HD b0 HW F M C N o;go_wp2;go_ret;exact⟨by simp,V.out⟩
      ·have j1:¬((0:Int)<last.length):=by omega
       obtain rfl:r=d:=ZcW (by
        rw[F.out,HD.out];unfold ZOY;rw[if_pos (by cases hh:last with|nil=>rfl|cons a b=>rw[hh]at E;simp at E),Yca])
       have V:Hid (BW w Q):=hid (o.trans (f.mono o.size));clear HD F M C N o f;go_wp2;go_ret;exact⟨by simp,V.out⟩
   ·clear b1 HC g3 g0;obtain⟨near,Y⟩:∃l,l=ZOX Rd i ((g:Int)+1) t:=⟨_,rfl⟩
    obtain⟨last,K⟩:∃l,l=ZOX Rd i 10 t:=⟨_,rfl⟩
    have e2:Hid (∀x∈near,mil x):=hid (by rw[Y];exact ZPa);have e4:Hid (∀x∈last,mil x):=hid (by rw[K];exact ZPa);have d5:near.length<=100:=by rw[Y];exact Yah ZO4 B
    have i2:last.length<=100:=by rw[K];exact Yah ZO4 B
    have e5 : Hid (∀ (j : Nat) (q r : BA) (c p : Nat), j < 5 -> bl q = Z0.getD j [] ++ [40, 120, 91] ++ decI ((g : Int) + 1) ++ [93, 41] -> ZdK (bl q) (bl L) t t 1 = (bl r, c, p) -> bl r = ZOY t near (ZfI j near) /\ c = 0) := hid (fun j q r c p hj hq he => by
      have e1:bl q=winQ j (g+1):=by rw[hq,ZPi Om,show((g:Int)+1).toNat=g+1 by omega];rfl
      rw[e1,HL.out,ZPx (ZO9 Rd i B) (by have:=ZO6 Rd i B;omega) (by rw[ZO8];omega) Om Om hj Om Om,ZPL Rd i j t B]at he;injection he with h1 I;injection I with I _;rw[Y];exact⟨h1.symm,I.symm⟩)
    have e6 : Hid (∀ (r : BA) (c p : Nat), ZdK [120] (bl L) t t 1 = (bl r, c, p) -> bl r = ZOY t last (last.getLastD 0) /\ c = 0) := hid (fun r c p he => by
      rw[HL.out,ZPy (ZO9 Rd i B) (by have:=ZO6 Rd i B;omega) (by rw[ZO8];omega) Om Om,ZPK Rd i t]at he;injection he with h1 I;injection I with I _;rw[K];exact⟨h1.symm,I.symm⟩)
    have b6:Hid (ZOZ wr w.heap.size u11 u12 near last):=hid (by rw[Y,K];exact HN.out);clear Y K HN HL;obtain⟨av,cp,i3⟩:=Zl b6.1;obtain⟨av2,cp2,i4⟩:=Zl b6.2.1;subst i3 i4
    go_wp2_with fail
    refine ZP fun W hW=>?_;have c0:Hid (BAt W wr.heap.size (ZO5.map Value.string) 9):=hid (by rw[hW];exact BAt.alloc (Go.Deep.blk_alloc_new _ _) _)
    have c6:Hid (BAt W (wr.heap.size+1) [Vi t,Vi t,Vi 1] 23):=hid (by
     rw[hW];have:=Go.Deep.blk_alloc_new (wr.alloc (.cells ⟨ZO5.map Value.string⟩ 9)) (.cells #[Vi t,Vi t,Vi 1] 23);rw[Go.Deep.nblk_alloc]at this;exact this)
    have c7:BW wr W:=by rw[hW];exact Zbal.alloc (by simp) _
    have c8:Hid (BW w W):=hid (HB.trans (c7.mono HB.size));have e7:=hid (b6.below c7);clear hW c7 b6 HB k4;have f3:w.heap.size<=W.heap.size:=c8.size;obtain⟨B1,e8⟩:∃B1,B1=wr.heap.size:=⟨_,rfl⟩
    rw[<-e8]at c0 c6 ⊢;clear e8;have e9:L.size<=maxLen:=Yah j7 (by unfold maxLen;omega);have i5:Hid (∀X:World,Cq 14 #[Vi ((g:Int)+1)] X _):=hid (fun X=>ZO3 ((g:Int)+1) X Om Om);have f0:Hid (∀X:World,Cq 14 #[Vi (t:Int)] X _):=hid (fun X=>ZO3 (t:Int) X Om Om)
    go_loopg [17] 5 (fun gk s17 wx=>∃j:Nat,j<=5/\gk=5 - j/\s17=Vi j/\Hid (BAt wx B1 (ZO5.map Value.string) 9)/\Hid (BAt wx (B1+1) [Vi t,Vi t,Vi 1] 23)/\Hid (ZOZ wx w.heap.size (.slice av near.length cp) (.slice av2 last.length cp2) near last)/\Hid (BW w wx))
    case atStart=>exact⟨0,Yag _,rfl,rfl,c0,c6,e7,c8⟩
    case round=>
     clear c0 c6 e7 c8 f3;obtain⟨j,hj,k7,rfl,M,C,N,o⟩:=hrel;have x0:=C.cell 0;have x1:=C.cell 1;have x2:=C.cell 2;simp only[Zget]at x0 x1 x2;by_cases b1:j<5
     ·obtain⟨x,hx,f1,i6⟩:=ZPO b1;have cw:wr.cell? ⟨B1,j,none⟩=some (.string x):=(M.cell j).trans hx;have f2:=hid f1;have l4:(j:Int)<5:=by omega
      have b7:Hid (∀X:World,BW wr X->X.cell? ⟨B1,j,none⟩=some (.string x)/\X.cell? ⟨B1+1,0,none⟩=some (Vi t)/\X.cell? ⟨B1+1,1,none⟩=some (Vi t)/\X.cell? ⟨B1+1,2,none⟩=some (Vi 1)):=hid (fun X hb=>⟨((M.below hb).cell j).trans hx,(C.below hb).cell 0,(C.below hb).cell 1,(C.below hb).cell 2⟩);have e93:(⟨#[93,41]⟩:BA).size=2:=rfl;clear hx f1
      go_upto_region 22 with fail
      go_cut [18,19,20] from 97 to 136 (fun s18 s19 s20 wx=>∃(r:BA) (c p:Nat),s18=.string r/\s19=Vi c/\s20=Vi p/\Hid (bl r=ZOY t near (ZfI j near)/\c=0)/\Hid (BW wr wx))
      case first=>
       go_region_held3 (fun w' => w'.cell? ⟨B1, j, none⟩ = some (.string x) /\ w'.cell? ⟨B1 + 1, 0, none⟩ = some (Vi t) /\ w'.cell? ⟨B1 + 1, 1, none⟩ = some (Vi t) /\ w'.cell? ⟨B1 + 1, 2, none⟩ = some (Vi 1)) (first | exact ⟨cw, x0, x1, x2⟩ | exact b7.out _ a0.out | exact b7.out _ D.out | go_keep) (first
         | (go_at_call 14
            refine(i5.out _).mono ?_;rintro e w7 ⟨q,rfl,hq,HQ,a3⟩;have D:Hid (BW wr w7):=hid ⟨a3.os,a3.tape,a3.output,a3.size,a3.block⟩;obtain⟨y,y0,y1,y2⟩:=b7.out w7 D.out;have a1:=ZO0 (P:=prog) x q Om;have a2:=ZO0 (P:=prog) (x++q) ⟨#[93,41]⟩ (by simp only[Yaz];omega);have f4:(x++q++⟨#[93,41]⟩:BA).size<=9223372036854775807:=by simp only[Yaz];omega
            have i7:Hid (bl (x++q++⟨#[93,41]⟩)=Z0.getD j []++[40,120,91]++decI ((g:Int)+1)++[93,41]):=hid (by rw[ZcV,ZcV,f2.out,HQ.out];rfl);clear a3)
         | (go_at_call 10
            refine(HE.out _ L t _ f4 e9 (o.trans (((⟨D.os,D.tape,D.output,D.size,D.block⟩:BW wr _)).mono o.size))).mono ?_;rintro e w8 ⟨r,c,p,rfl,b8,H⟩;have a0:Hid (BW wr w8):=hid (D.trans ((⟨H.os,H.tape,H.output,H.size,H.block⟩:BW w7 w8).mono D.size));have i8:=hid (e5.out j _ r c p b1 i7.out b8.out);clear H))
       all_goals
        go_wp2_with fail
        go_meet
        exact⟨_,_,_,rfl,rfl,rfl,i8,a0⟩
      case rest=>
      obtain⟨r,c,p,rfl,rfl,rfl,HR,c9⟩:=hcut;obtain⟨a6,d0⟩:=HR.out;subst d0;have F:=hid a6;clear HR a6 cw x0 x1 x2 b7 e93 f2 i6
      go_wp2_with fail
      refine(f0.out wc).mono ?_;rintro e Q ⟨d,rfl,hd,HD,a7⟩;have f:Hid (BW wr Q):=hid (c9.trans (a7.mono c9.size));clear a7 c9;have e3:(⟨#[32,123,125]⟩:BA).size=3:=rfl;by_cases E:0<near.length
      ·have i9:(0:Int)<near.length:=by omega
       have HW:Hid (ZOY t near (ZfI j near)=decI t++[32,123,125]++decI (ZfI j near)):=hid (by
        unfold ZOY;rw[if_neg (by cases hh:near with|nil=>rw[hh]at E;exact absurd E Dc|cons a b=>simp),Yan])
       have a1:=ZO0 (P:=prog) d ⟨#[32,123,125]⟩ Om
       go_wp2_with fail
       refine(ZPc j Om near Q (Zgi (Zn N.1 f.out)) d5 e2.out E).mono ?_;rintro e R ⟨rfl,nd,S⟩;have T:BW Q R:=by rw[S];exact ZhQ (Yaf _ _) _
       have G:Hid (BW wr R):=hid (f.trans (T.mono f.size));have etk:ZO1 j near=ZfI j near:=by unfold ZO1;rw[if_neg Om]
       rw[etk];have a8:=(ZPo e2.out d5 j).2;obtain⟨f5,f6⟩:=a8;clear T S f etk
       go_wp2_with fail
       refine(ZO3 (ZfI j near) R Om Om).mono ?_;rintro e a9 ⟨d2,rfl,j0,b0,U⟩;have J:Hid (BW wr a9):=hid (G.trans (U.mono G.size));have a2:=ZO0 (P:=prog) (d++⟨#[32,123,125]⟩) d2 (by simp only[Yaz];omega);obtain rfl:r=d++⟨#[32,123,125]⟩++d2:=ZcW (by rw[F.out,HW.out,ZcV,ZcV,HD.out,b0.out];rfl);have d1:=hid (M.below J.out);have d3:=hid (C.below J.out);have d4:=hid (N.below J.out);have V:Hid (BW w a9):=hid (o.trans (J.mono o.size));clear U G HD b0 HW F M C N o;go_wp2
       go_roundg (5 - (j+1))
       case measure=>omega
       case rel=>exact⟨j+1,by omega,rfl,by go_num,d1,d3,d4,V⟩
      ·have j1:¬((0:Int)<near.length):=by omega
       obtain rfl:r=d:=ZcW (by
        rw[F.out,HD.out];unfold ZOY;rw[if_pos (by cases hh:near with|nil=>rfl|cons a b=>rw[hh]at E;simp at E),Yca])
       have d1:=hid (M.below f.out);have d3:=hid (C.below f.out);have d4:=hid (N.below f.out);have V:Hid (BW w Q):=hid (o.trans (f.mono o.size));clear HD F M C N o f;go_wp2
       go_roundg (5 - (j+1))
       case measure=>omega
       case rel=>exact⟨j+1,by omega,rfl,by go_num,d1,d3,d4,V⟩
     ·obtain rfl:j=5:=by omega
      have e3:(⟨#[32,123,125]⟩:BA).size=3:=rfl
      go_wp2_with fail
      refine(HE.out ⟨#[120]⟩ L t wr Dc e9 o.out).mono ?_;rintro e w8 ⟨r,c,p,rfl,b8,H⟩;have j2:=e6.out r c p (show ZdK [120] (bl L) t t 1=(bl r,c,p) from by have h:=b8.out;rw[show bl (⟨#[120]⟩:BA)=[120] from rfl]at h;exact h);obtain⟨a6,d0⟩:=j2;subst d0;have F:=hid a6;have a0:Hid (BW wr w8):=hid H;clear a6 b8 H x0 x1 x2 HE e6 e5
      go_wp2_with fail
      refine(f0.out w8).mono ?_;rintro e Q ⟨d,rfl,hd,HD,a7⟩;have f:Hid (BW wr Q):=hid (a0.trans (a7.mono a0.size));clear a7 a0;by_cases E:0<last.length
      ·have i9:(0:Int)<last.length:=by omega
       have HW:Hid (ZOY t last (last.getLastD 0)=decI t++[32,123,125]++decI (last.getLastD 0)):=hid (by
        unfold ZOY;rw[if_neg (by cases hh:last with|nil=>rw[hh]at E;exact absurd E Dc|cons a b=>simp),Yan])
       have a1:=ZO0 (P:=prog) d ⟨#[32,123,125]⟩ Om
       go_wp2_with fail
       obtain⟨y,hy⟩:∃y,y=last.getLastD 0:=⟨_,rfl⟩
       rw[<-hy]at HW F;refine(ZPc 5 Om last Q (Zgi (Zn N.2.1 f.out)) i2 e4.out E).mono ?_;rintro e R ⟨rfl,nd,S⟩;have T:BW Q R:=by rw[S];exact ZhQ (Yaf _ _) _
       have G:Hid (BW wr R):=hid (f.trans (T.mono f.size));have etk:ZO1 5 last=y:=by unfold ZO1;rw[if_pos rfl,hy]
       rw[etk];have a8:=(ZPk e4.out).2;rw[<-hy]at a8;unfold mil at a8;obtain⟨f5,f6⟩:=a8;clear T S f etk hy
       go_wp2_with fail
       refine(ZO3 y R Om Om).mono ?_;rintro e a9 ⟨d2,rfl,j0,b0,U⟩;have J:Hid (BW wr a9):=hid (G.trans (U.mono G.size));have a2:=ZO0 (P:=prog) (d++⟨#[32,123,125]⟩) d2 (by simp only[Yaz];omega);obtain rfl:r=d++⟨#[32,123,125]⟩++d2:=ZcW (by rw[F.out,HW.out,ZcV,ZcV,HD.out,b0.out];rfl);have V:Hid (BW w a9):=hid (o.trans (J.mono o.size));clear U G HD b0 HW F M C N o;go_wp2;go_ret;exact⟨by simp,V.out⟩
      ·have j1:¬((0:Int)<last.length):=by omega
       obtain rfl:r=d:=ZcW (by
        rw[F.out,HD.out];unfold ZOY;rw[if_pos (by cases hh:last with|nil=>rfl|cons a b=>rw[hh]at E;simp at E),Yca])
       have V:Hid (BW w Q):=hid (o.trans (f.mono o.size));clear HD F M C N o f;go_wp2;go_ret;exact⟨by simp,V.out⟩
