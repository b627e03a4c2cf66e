/- Parts. -/
import Derived.Test.YtcdgkkfipdoeeaaGreatDoorO21
import Derived.Test.YtcdgkkfipdoeeaaGreatDoorO19
set_option linter.all false
set_option maxRecDepth 100000
set_option maxHeartbeats 16000000
namespace Go.Proofs.YtcdgkkfipdoeeaaGreatDoor
open Go.RowKit LS Go.Proofs.Tryz
section
variable {w0 w w' w1 w2:World} {v:Value} {l:LB}
structure CodeOk (q:CodeQ):Prop where
 c:q.jj.length<=1000000
 s:q.ju.length<=400000
 g:q.jw.length<=400000
 i:q.jq.length<=1000000
 sw:∀y∈q.ju,SelW y
 gw:∀x∈q.jw,nw x<=100000
theorem WrS.new(w:World)(b:UInt8):WrS w (w.alloc (.cells #[u8V b] 5)) (.slice (some ⟨w.heap.size,0,none⟩) 1 1) [b]:=⟨World.ownsRow_lit w _ 1 (Yac _) (by unfold maxLen;omega) rfl,Zbal⟩
theorem Zh3{α:Type}(f:α->LB)(l:List α)(k:Nat)(h:k<l.length):(l.take (k+1)).flatMap f=(l.take k).flatMap f++f l[k]:=by
 rw[List.take_succ_eq_append_getElem h,Yds];simp
theorem ZcK.at:∀ {a:List SelC} {b:List (Nd×Nat)},ZcK w a b->∀(k:Nat) (c:k<a.length) (d:k<b.length),Zeg w a[k] b[k]
 | [],[],_,_,c,_=>absurd c (Ya1 _)
 | _::_,_::_,h,0,_,_=>h.1
 | _::_,_::_,h,k+1,c,d=>ZcK.at h.2 k _ _
theorem ZbK.at:∀ {a:List RowC} {b:List (List (LB))},ZbK w a b->∀(k:Nat) (c:k<a.length) (d:k<b.length),Zbm w (rowV a[k]) b[k]
 | [],[],_,_,c,_=>absurd c (Ya1 _)
 | _::_,_::_,h,0,_,_=>h.1
 | _::_,_::_,h,k+1,c,d=>ZbK.at h.2 k _ _
theorem Zvu{n:Nat}(h:n<=1000000):((n:Int) % 4294967296).toNat=n:=by omega
theorem ZjA(l:LB)(n k:Nat):(l++digL n k).length=l.length+k:=by rw[Yab,ZbG]
theorem Zil{B n c:Nat}{e:TypeId}{sz:Nat}{a:Option Addr}{xs:List Value}(h:w.ownsRow B e sz (.slice a n c) n xs)(d:0<n):∃b,a=some ⟨b,0,none⟩:=by
 obtain⟨b,c',e⟩:=ZF h d;injection e with e _ _;exact⟨b,e⟩
theorem WrS.conv{a:Option Addr}{n c:Nat}(h:WrS w0 w (.slice a n c) l)(d:0<n):n=l.length/\(convert 87 9 (.slice a n c)).run prog w=.ok (.string ⟨l.toArray⟩) w:=by
 obtain⟨a2,c2,e⟩:=h.shape;injection e with _ e2 _;subst e2;obtain⟨b,rfl⟩:=Zil h.row d;refine⟨rfl,run_convert_bytes_back _ _ _ 5 _ c l underlying87 underlying5 underlying9 ?_⟩;intro j g;have f:w.cell? _=some (.int _ _):=Zi h.row j _ (by rw[Ya2,List.getElem?_eq_getElem g];rfl);by_cases d:j=0
 ·subst d;exact f
 ·simpa [Addr.add,d] using f
theorem Zvw(n:Nat):digL ((n:Int) % 4294967296).toNat 2=digL n 2:=by
 rw[show((n:Int) % 4294967296).toNat=n % 4294967296 by omega];simp only[digL,Ycu,Yby];rw[show n % 4294967296 / 256 % 256=n / 256 % 256 by omega,show n % 4294967296 % 256=n % 256 by omega]
theorem ZzJ(n:Nat):u8V (UInt8.ofNat n)=.int .u8 ((n:Int) % 256):=by
 show Value.int .u8 ((UInt8.ofNat n).toNat:Int)=_;rw[UInt8.toNat_ofNat']
 congr 1
theorem Zw2(a b c d:Nat)(k:Nat)(e:k<4)(W:World):(Instr.index 153 (.agg #[Vi a,Vi b,Vi c,Vi d]) (Vi k)).run prog W=.ok (Vi (([a,b,c,d].getD k 0:Nat):Int)) W:=by
 rcases(by omega:k=0∨k=1∨k=2∨k=3)with rfl|rfl|rfl|rfl <;> simp[Instr.index,run_underlying _,asIntOf,go_sem]
theorem ZEE{B:Nat}{w:World}{cv sv rv iv:Value}{sl:List SelC}{rl:List RowC}{q:CodeQ}(h:CodeW B w cv sv rv iv sl rl q)(ho:CodeOk q)(ht:ZR w)(hB:20<=w.heap.size) :
  CP 36 #[.agg #[cv,sv,rv,iv]] w fun e w'=>∃r:BA,e=.returned (.string r)/\Hid (bl r=ZbJ q)/\BW w w':=by
 obtain⟨ca,cc,rfl⟩:=Zl h.cons;obtain⟨sa,sc,rfl⟩:=Zl h.sel;obtain⟨ra,rc,rfl⟩:=Zl h.grp;obtain⟨ia,ic,rfl⟩:=Zl h.jq;have HO:=hid ho;have hc:=ho.c;have hs:=ho.s;have hg:=ho.g;have hi:=ho.i;obtain⟨nc,Y⟩:∃nc,nc=q.jj.length:=⟨_,rfl⟩
 obtain⟨ns,Z⟩:∃ns,ns=q.ju.length:=⟨_,rfl⟩
 obtain⟨ng,a0⟩:∃ng,ng=q.jw.length:=⟨_,rfl⟩
 obtain⟨ni,a1⟩:∃ni,ni=q.jq.length:=⟨_,rfl⟩
 have a2:=hid Y;have a3:=hid Z;have a4:=hid a0;have b3:=hid a1;have HW:Hid (CodeW B w (.slice ca nc cc) (.slice sa ns sc) (.slice ra ng rc) (.slice ia ni ic) sl rl q):=by rwa [Y,Z,a0,a1]
 have HT:=hid ht;have c4:=hid hB;rw[<-Y]at hc ⊢;rw[<-Z]at hs ⊢;rw[<-a0]at hg ⊢;rw[<-a1]at hi ⊢;clear h ho Y Z a0 a1 ht hB;go_enter func36,ntmps36
 go_upto_region 1 with fail
 refine ZP fun O b4=>?_;have c6:BW w O:=b4▸belB;have b5:Hid (BAt _ _ _ 59):=b4▸(show BAt _ _ _ _ from bnw);have a6:=hid c6;obtain⟨qb,c8⟩:∃qb,qb=w.heap.size:=⟨_,rfl⟩
 rw[<-c8]at b5 ⊢;clear b4 c6 c8
 go_upto_region 2 with fail
 refine ZP fun W1 c9=>?_;have H1:Hid (WrS _ _ (.slice (some _) 1 1) _):=c9▸WrS.new O 103;generalize Value.slice (some ⟨O.heap.size,0,none⟩) 1 1=t0 at *
 clear c9
 have P : Hid (∀ {W : World} {v : Value} {l : List _}, WrS _ W v l -> W.cell? _ = some _ /\ W.cell? _ = some _ /\ W.cell? _ = some _ /\ W.cell? _ = some _) := hid (fun h => by
   have hx:=b5.below h.bel;exact⟨hx.cell 0,hx.cell 1,hx.cell 2,hx.cell 3⟩)
 have Q:Hid (∀ {W:World} {v:Value} {l:List _},WrS _ W v l->qb<W.heap.size):=hid (fun h=>(b5.below h.bel).lt);obtain⟨x0,x1,x2,x3⟩:=P H1;have C:=Q H1;go_wp2
 go_loopw [3,28] (fun tv iv wr=>∃(k:Nat) (cur:LB),k<=4/\iv=Vi k/\Hid (WrS O wr tv cur)/\Hid (cur=[103]++([nc,ns,ng,ni].take k).flatMap (fun n=>digL n 2))/\Hid (cur.length=1+2*k)) (fun _ iv _=>4 - (intOf iv).toNat)
 case atStart=>exact⟨0,[103],by omega,rfl,H1,hid rfl,hid rfl⟩
 case round=>
  obtain⟨k,cur,hk,rfl,R,t,p⟩:=hrel;by_cases H:k<4
  ·have i3:=Zw2 nc ns ng ni k H;have L:Hid (([nc,ns,ng,ni].take (k+1)).flatMap (fun n=>digL n 2)=([nc,ns,ng,ni].take k).flatMap (fun n=>digL n 2)++digL ([nc,ns,ng,ni].getD k 0) 2):=by rw[Zh3 _ [nc,ns,ng,ni] k H];rcases(by omega:k=0∨k=1∨k=2∨k=3)with rfl|rfl|rfl|rfl <;> rfl
   have hx:[nc,ns,ng,ni].getD k 0<=1000000:=by rcases(by omega:k=0∨k=1∨k=2∨k=3)with rfl|rfl|rfl|rfl <;> simp <;> omega
   generalize[nc,ns,ng,ni].getD k 0=x at *
   go_wp2_with fail
   refine(Zhu R _ 2 Dc (by have:=p.out;omega)).mono ?_;rintro e w2 ⟨v2,rfl,H2,_⟩;rw[Zvu hx]at H2;go_wp2
   go_roundw
   case rel=>exact⟨k+1,_,by omega,by go_num,H2,hid (by rw[t,L,Yan]),hid (by rw[ZjA,p];omega)⟩
   case measure=>simp[intOf];omega
  ·have d0:Hid (k=4):=hid Om;have e7:Hid (cur=[103]++digL nc 2++digL ns 2++digL ng 2++digL ni 2):=hid (by rw[t,d0];simp);have d1:Hid (cur.length=9):=hid (by rw[p,d0]);clear t p H1 x0 x1 x2 x3 C;generalize u3=t1 at *
   obtain⟨x0,x1,x2,x3⟩:=P R;have C:=Q R
   have S : Hid (∀ {W : World} {v : Value} {l : List _}, WrS _ W v l -> CodeW B W _ _ _ _ _ _ q /\ ZR W /\ 20 <= W.heap.size) := hid (fun h => by
     have hb:=a6.trans (h.bel.mono a6.size);exact⟨HW.below hb,HT.low hb c4,Yah c4 hb.size⟩)
   go_wp2
   go_loopw [3,38] (fun tv iv wr=>∃(k:Nat) (cu:LB),k<=nc/\iv=Vi k/\Hid (WrS O wr tv cu)/\Hid (cu=cur++(q.jj.take k).flatMap Zb0)/\Hid (cu.length<=9+4*k)) (fun _ iv _=>nc - (intOf iv).toNat)
   case atStart=>exact⟨0,cur,Yag _,rfl,R,hid (by simp),hid (Ydh d1.out)⟩
   case round=>
    obtain⟨k,cu,hk,rfl,D,t,p⟩:=hrel;by_cases H:k<nc
    ·have f:k<q.jj.length:=by rw[<-a2.out];exact H
     have a:=(S.out D.out).1.cons;rw[<-a2.out]at a;obtain⟨cb,e8⟩:=Zil a Om;subst e8;have i1:=Zi a k _ (by rw[Ya2,List.getElem?_eq_getElem f];rfl);have L:=hid (Zh3 Zb0 _ k f);have b6:(k:Int)<nc:=by omega
     generalize q.jj[k]=z at *
     clear a
     go_wp2_with fail
     refine(Zhu D z 4 Dc (by have:=p.out;omega)).mono ?_;rintro e w2 ⟨v2,rfl,H2,_⟩;go_wp2
     go_roundw
     case rel=>exact⟨k+1,_,by omega,by go_num,H2,hid (by rw[t,L,Yan];rfl),hid (by rw[ZjA];have:=p.out;omega)⟩
     case measure=>simp[intOf];omega
    ·obtain rfl:k=nc:=by omega
     have e9:Hid (cu=cur++q.jj.flatMap _):=hid (by rw[t,a2,Ya4]);have d2:Hid (cu.length<=4000009):=hid (by have:=p.out;omega);clear t p x0 x1 x2 x3 C R d1;generalize u3=t2 at *
     obtain⟨x0,x1,x2,x3⟩:=P D;have C:=Q D;go_wp2
     go_loopw [3,49] (fun tv iv wr=>∃(k:Nat) (ct:LB),k<=ns/\iv=Vi k/\Hid (WrS O wr tv ct)/\Hid (ct=cu++(q.ju.take k).flatMap (fun x=>ZO (ZI x)))/\Hid (ct.length<=4000009+200002*k)) (fun _ iv _=>ns - (intOf iv).toNat)
     case atStart=>exact⟨0,cu,Yag _,rfl,D,hid (by simp),d2⟩
     case round=>
      obtain⟨k,ct,hk,rfl,E,t,p⟩:=hrel;by_cases H:k<ns
      ·have f:k<q.ju.length:=by rwa [<-a3.out]
       have A:=(S.out E.out)
       have T:k<sl.length:=by rw[A.1.sok.len];exact f
       have a:=A.1.sel;rw[<-a3.out]at a;obtain⟨sb,f0⟩:=Zil a Om;subst f0;have a8:=fun j hj=>ZgL ZfB 3 (fun _=>rfl) _ k j T hj;have y0:=Zi a (k*3) _ (a8 0 Dc);have y1:=Zi a _ _ (a8 1 Dc);have y2:=Zi a _ _ (a8 2 Dc);have U:=Z1 a;have b7:=hid (A.1.sok.at k T f);have i4:=hid A.2;have f1:=hid (HO.sw _ (List.getElem_mem f));have L:=hid (Zh3 (fun x=>ZO (ZI x)) _ k f);have b6:(k:Int)<ns:=by omega
       generalize q.ju[k]=y at *
       generalize sl[k]=s at *
       clear a a8 A
       go_wp2_with fail
       refine Zm fun W hW=>?_;have M:BW wr W:=hW▸belB;have N:=hid (E.below M);have e5:Hid (Zeg W s y):=hid ⟨b7.1,b7.2.1.below M,b7.2.2⟩;have b8:=hid (S N).2;clear hW M y0 y1 y2 U;refine(Zr8 W s y e5 f1 b8.1 b8.2).mono ?_;rintro e w2 ⟨r,rfl,HR,d3,V⟩;have b9:=hid (N.below V);clear V
       go_wp2_with fail
       refine(ZnS b9 r (by have:=d3.out;omega) (by have:=p.out;omega)).mono ?_;rintro e w3 ⟨v3,rfl,H3⟩;rw[HR]at H3;go_wp2
       go_roundw
       case rel => exact ⟨k + 1, _, by omega, by go_num, H3, hid (by rw [t, L, Yan]), hid (by
         have h1:(ZO (ZI y)).length<=200002:=by
           unfold ZO;rw[Yab,ZbG,<-HR,Zd];have:=d3.out;omega
         rw[Yab];have:=p.out;omega)⟩
       case measure=>simp[intOf];omega
      ·obtain rfl:k=ns:=by omega
       have f2:Hid (ct=cu++q.ju.flatMap _):=hid (by rw[t,a3,Ya4]);have d4:Hid (ct.length<=90000000000):=hid (by have:=p.out;omega);clear t p x0 x1 x2 x3 C D d2;generalize u3=t3 at *
       obtain⟨x0,x1,x2,x3⟩:=P E;have C:=Q E;go_wp2
       go_loopw [3,61] (fun tv iv wr=>∃(k:Nat) (cg:LB),k<=ng/\iv=Vi k/\Hid (WrS O wr tv cg)/\Hid (cg=ct++(q.jw.take k).flatMap (fun x=>ZO (commas x)))/\Hid (cg.length<=90000000000+100002*k)) (fun _ iv _=>ng - (intOf iv).toNat)
       case atStart=>exact⟨0,ct,Yag _,rfl,E,hid (by simp),d4⟩
       case round=>
        obtain⟨k,cg,hk,rfl,F,t,p⟩:=hrel;by_cases H:k<ng
        ·have f:k<q.jw.length:=by rwa [<-a4.out]
         have A:=(S F).1;have T:k<rl.length:=by rw[A.gok.len];exact f
         have a:=A.grp;rw[<-a4.out]at a;obtain⟨rb,f3⟩:=Zil a Om;subst f3;have y0:wr.cell? _=some (.slice _ _ _):=Zi a k _ (by rw[Ya2,List.getElem?_eq_getElem T];rfl);have U:=Z1 a;have f4:Hid (Zbm _ (.slice _ _ _) _):=hid (A.gok.at k T f);have d5:=hid (HO.gw _ (List.getElem_mem f));have L:=hid (Zh3 (fun x=>ZO (commas x)) _ k f);have b6:(k:Int)<ng:=by omega
         generalize q.jw[k]=y at *
         generalize rl[k]=s at *
         clear a A
         go_wp2_with fail
         refine(ZlV _ _ _ y f4 (by have:=d5.out;omega)).mono ?_;rintro e w2 ⟨r,rfl,HR,V⟩;have i5:r.size<=100000:=ZU HR.out▸Yah (ZeS _) d5.out;have b9:=hid (F.below V);clear V y0 U
         go_wp2_with fail
         refine(ZnS b9 r Om (by have:=p.out;omega)).mono ?_;rintro e w3 ⟨v3,rfl,H3⟩;have d6:Hid ((ZO (bl r)).length<=100002):=hid (by unfold ZO;rw[Yab,ZbG,Zd];omega);rw[HR]at H3 d6;go_wp2
         go_roundw
         case rel=>exact⟨k+1,_,by omega,by go_num,H3,hid (by rw[t,L,Yan]),hid (by rw[Yab];have:=p.out;have:=d6.out;omega)⟩
         case measure=>simp[intOf];omega
        ·obtain rfl:k=ng:=by omega
         have f5:Hid (cg=ct++q.jw.flatMap _):=hid (by rw[t,a4,Ya4]);have c1:Hid (cg.length<=140000000000):=hid (by have:=p.out;omega);clear t p x0 x1 x2 x3 C E d4;generalize u3=t4 at *
         obtain⟨x0,x1,x2,x3⟩:=P F;have C:=Q F;go_wp2
         go_loopw [3,73] (fun tv iv wr=>∃(k:Nat) (ci:LB),k<=ni/\iv=Vi k/\Hid (WrS O wr tv ci)/\Hid (ci=cg++(q.jq.take k).flatMap (fun x=>UInt8.ofNat x.1::digL x.2 2))/\Hid (ci.length=cg.length+3*k)) (fun _ iv _=>ni - (intOf iv).toNat)
         case atStart=>exact⟨0,cg,Yag _,rfl,F,hid (by simp),hid rfl⟩
         case round=>
          obtain⟨k,ci,hk,rfl,G,t,p⟩:=hrel;by_cases H:k<ni
          ·have f:k<q.jq.length:=by rwa [<-b3.out]
           have a:=(S.out G.out).1.jq;rw[<-b3.out]at a;obtain⟨ib,f6⟩:=Zil a Om;subst f6;obtain⟨y0,y1⟩:=ZmA a f;rw[Yaa,List.getElem?_eq_getElem f,Ya6]at y0 y1;have U:=Z1 a;have L:=hid (Zh3 (fun x:Nat×Nat=>UInt8.ofNat x.1::digL x.2 2) _ k f);have b6:(k:Int)<ni:=by omega
           generalize q.jq[k]=y at *
           obtain⟨op,arg⟩:=y;simp only at y0 y1 L;clear a
           go_upto_region 25 with fail
           refine ZP fun W hW=>?_;have M:BW wr W:=hW▸belB;have X:Hid (BAt W _ _ 159):=hW▸(show BAt _ _ _ _ from bnw);have N:=hid ((G.below M).below (Yaf _ _).drew);obtain⟨tb,d7⟩:∃tb,tb=wr.heap.size:=⟨_,rfl⟩
           rw[<-d7]at X ⊢;clear hW M y0 y1 U d7;refine Zbn 9 (fun w'=>w'.cell? _=some _/\w'.cell? _=some _) Kr ⟨X.cell 0,X.cell 1⟩ (fun d=>?_);refine Za 0 d (h:=?_);refine Za 1 d (h:=?_);refine Za 2 d (h:=?_);refine Za 3 d (h:=?_);refine Za 6 d (h:=?_);refine Za 7 d (h:=?_);have d8:Hid (BAt W.drew _ _ _):=X;generalize W.drew=W2 at *
           clear X;have a:=N.row;have i6:=N.bel.size;obtain⟨m,hm⟩:∃m,m=ci.length:=⟨_,rfl⟩
           have HM:=hid hm;rw[<-hm]at a;have i7:m<=150000000000:=by rw[hm];have:=p.out;have:=c1.out;omega
           have f7 : Hid (∀ e, u3.ownBlock = some e -> tb ≠ e) := hid (fun e he h => by
             obtain⟨_,_,h4⟩:=Zcw a he;subst h;exact absurd (Zc7 d8 h4) Dc)
           have HA:Hid (∀o,(W2.alloc o).ownsRow _ 5 1 _ m _):=hid (fun o=>a.alloc _);have a9:Hid (∀o,BAt (W2.alloc o) _ _ _):=hid (fun o=>d8.below Zbal);clear a hm;obtain⟨i0,f8,f9,g1,g2⟩:=info_parts ZiY;refine Z4 (i:=4) Kr rfl (fun K I=>?_);go_simp;refine I _ _ ⟨(a9 _).cell 0,(a9 _).cell 1⟩ (fun d=>?_);clear I K
           try simp only[Act.put,Zset]
           refine Z4 (i:=5) Kr rfl (fun K I=>?_);refine ZfF rfl _ _ _ rfl _ 5 _ _ 1 1 underlying87 f8 f9 g1 g2 rfl Dc _ m _ (by simp[Act.eval]) (HA _) _ 1 1 [.int _ ((op) % 256)] (by simp[Act.eval]) rfl (cell_one_new _ _ _) ?h3 ?h4 ?h5 ?h6 ?_
           case h3=>intro u hu;rw[Yap]at hu;subst hu;rfl
           case h4=>unfold maxLen;omega
           case h5=>omega
           case h6=>simp;omega
           intro v1 w4 b0 J _;have d9:=(a9 _).grown J (fun e=>f7 _ e.symm rfl);have c2:=hid d9
           have g3:Hid (WrS _ _ _ (ci++[UInt8.ofNat _])):=hid (N.grow Zbal (by
            rw[Yab,Yaq,<-HM];show w4.ownsRow _ _ _ _ (m+1) (_++[u8V (UInt8.ofNat op)]);rw[ZzJ];exact b0) J)
           have e6:Hid ((ci++[UInt8.ofNat op]).length<=150000000001):=hid (by rw[Yab,<-HM];simp;omega);clear b0 J d9 a9 HA;refine I _ _ ⟨c2.cell 0,c2.cell 1⟩ (fun d=>?_);clear I K
           try simp only[Act.put]
           refine Z4 (i:=8) Kr rfl (fun K I=>?_);go_simp;refine(Zhu g3 _ 2 Dc (by have:=e6.out;omega)).mono ?_;rintro e w5 ⟨v5,rfl,H5,g4⟩;rw[Zvw]at H5
           have e0:Hid (w5.cell? ⟨tb,0,none⟩=some (Vi op)/\w5.cell? ⟨tb,1,none⟩=some (Vi arg)):=by
            have:=g4.bat c2 Dc;exact⟨this.cell 0,this.cell 1⟩
           go_simp;refine I _ _ e0 (fun d=>?_);clear I K
           try simp only[Act.put]
           refine Zbl Kr Kr rfl Kr (fun K I=>?_);go_simp;refine I _ _ ?_;clear I K d e0;go_wp2
           go_roundw
           case rel=>exact⟨k+1,_,by omega,by go_num,H5,hid (by rw[t,L];simp),hid (by rw[ZjA,Yab,p];simp;omega)⟩
           case measure=>simp[intOf];omega
          ·obtain rfl:k=ni:=by omega
           have b1:Hid (ci=Z2 q):=hid (by
            unfold Z2;rw[t,f5,f2,e9,e7,b3,Ya4,a2,a3,a4])
           have b2:Hid (0<ci.length/\ci.length<=150000000000):=hid (by
            have h1:=p.out;have h2:=c1.out;have h3:0<ci.length:=by rw[b1];unfold Z2;simp
            omega)
           clear t p x0 x1 x2 x3 C F c1;generalize u3=t5 at *
           obtain⟨a5,c5,h5⟩:=G.shape;subst h5;obtain⟨n5,c3⟩:∃n5,n5=ci.length:=⟨_,rfl⟩
           rw[<-c3]at G b2 ⊢;obtain⟨g5,i8⟩:=G.conv b2.1
           have e1:(ByteArray.mk ci.toArray).size<=maxLen:=by
            show ci.toArray.size<=maxLen;rw[Yb5];have:=b2.out;unfold maxLen;omega
           have g6:=hid e1;have g7:=hid c3;clear g5 c3 e1
           go_wp2_with fail
           refine(Zru _ _ g6).mono ?_;rintro e w6 ⟨rfl,rfl⟩;have e2:Hid (sumQ (bl ⟨ci.toArray⟩)=sumQ _):=hid (by rw[ZbF,b1]);have hq:=Znn (bl ⟨ci.toArray⟩);rw[e2]at hq ⊢;obtain⟨z,hz⟩:∃z,z=sumQ (Z2 q):=⟨_,rfl⟩
           have HZ:=hid hz;rw[<-hz]at hq ⊢;clear hz e2
           go_wp2_with fail
           refine(Zhu G _ 4 Dc (by have h1:=b2.out;rw[g7]at h1;omega)).mono ?_;rintro e w7 ⟨v7,rfl,H7,_⟩;rw[show((z:Int) % 4294967296).toNat=z by omega]at H7;obtain⟨a7,c7,h7⟩:=H7.shape;subst h7;have e3:0<(ci++digL z 4).length:=by rw[ZjA];omega
           obtain⟨n7,e4⟩:∃n7,n7=(ci++digL z 4).length:=⟨_,rfl⟩
           rw[<-e4]at H7 e3 ⊢;have i2:=(H7.conv e3).2;clear e4;have g8:Hid (bl ⟨(ci++digL z 4).toArray⟩=ZbJ q):=hid (by rw[ZbF];unfold ZbJ;rw[<-b1,HZ,b1]);have g9:=hid (a6.trans (H7.bel.mono a6.size));go_wp2;go_ret;exact⟨_,rfl,g8,g9⟩
end
end Go.Proofs.YtcdgkkfipdoeeaaGreatDoor
namespace Go.Proofs.YtcdgkkfipdoeeaaGreatDoor
open Go.RowKit LS Go.Proofs.Tryz
section
variable {g:Gq}
def ZdH(g:Gq):Prop:=(∀y∈g.kw,SelW y)/\∀x∈g.qx,nw x<=100000
theorem ZfH(h:ZdH g){z:Nq}:ZdH (addQ z g).2:=by unfold addQ;split <;> exact h
theorem ZC3(h:ZdH g){n:Nat}:ZdH (negQ n g).2:=by unfold negQ;split <;> exact ZfH h
theorem ZC4(h:ZdH g){o x y:Nat}:ZdH (Zbs o x y g).2:=by unfold Zbs;split <;> exact ZfH h
theorem ZsE(h:ZdH g){y:Nd×Nat}(d:SelW y):ZdH (ZJ y g).2:=by
 unfold ZJ;split
 ·exact ZfH h
 ·refine ZfH (g:={ g with kw:=g.kw++[y] }) ⟨fun z c=>?_,h.2⟩;rcases Yar.1 c with a|a
  ·exact h.1 z a
  simp_all
theorem ZC2(h:ZdH g){ns:List (LB)}(c:nw ns<=100000):ZdH (Zbd ns g).2:=by
 unfold Zbd;split
 ·exact h
 ·refine⟨h.1,fun z d=>?_⟩;rcases Yar.1 d with a|a
  ·exact h.2 z a
  ·rw[Yap]at a;rw[a];exact Yah (ZhV _) c
theorem Zkj:∀(t:Tr) (g:Gq),wfT t->wT t<=100000->ZdH g->ZdH (Zb t g).2
 | .nil,_,_,_,h=>h
 | .node x y a l r, g, d, j, h => by
   have f:=fun k e=>ZkV j k e;have o:wT (.node x y a l r)=ownW a+wT l+wT r:=rfl;have m:nw a.by_<=100000:=by have p:ownW a=24+a.name.length+cw _+nw _:=rfl;omega
   have e:a.n.toNat<=1000000000:=by have:=d.2.2.2.2.2.1;omega
   have c:=fun g h=>Zkj l g d.2.2.2.2.2.2.2.2.2.2.1 Om h;have i:=fun g h=>Zkj r g d.2.2.2.2.2.2.2.2.2.2.2 Om h;unfold Zb;split
   · exact ZfH h
   · split
     · exact ZsE h (f 0 Om)
     · split
       · exact ZfH (ZsE h (f _ e))
       · split
         · exact ZC3 (c _ h)
         · split
           · exact ZfH (ZC2 (c _ h) m)
           · simp only
             split
             · exact ZfH (i _ (c _ h))
             · exact ZC4 (i _ (c _ h))
theorem ZuR{t:Tr}{fl:Nat}(d:wfT t)(f:wT t<=100000)(a:Sml (Zv (Zb t (g0 fl)).2 (Zb t (g0 fl)).1)):CodeOk (LS.codeOf t fl):=by
 have e:=(Zew t (g0 fl) d).1;have hT:=Zkj t (g0 fl) d f ⟨fun y c=>(by cases c),fun y c=>(by cases c)⟩;have e1:(g0 fl).kw.length=0:=rfl;have e2:(g0 fl).qx.length=0:=rfl;refine⟨a.2,?_,?_,?_,hT.1,hT.2⟩
 ·have:=e.s1;show(Zb t (g0 fl)).2.kw.length<=_;omega
 ·have:=e.r1;show(Zb t (g0 fl)).2.qx.length<=_;omega
 ·show(if 4<=fl then Zch _ else _).length<=_;split
  ·rw[show(Zch _).length=_ from(ZiE _ _ (Zi2 _ _)).2];exact a.1
  ·exact a.1
end
end Go.Proofs.YtcdgkkfipdoeeaaGreatDoor
namespace Go.Proofs.YtcdgkkfipdoeeaaGreatDoor
open Go.RowKit LS Go.Proofs.Tryz
def Zho(w:World)(A:Nat->Addr)(q:LB)(fl:Int)(r:BA)(v:Value):Prop:=match ZD q with
 | .error x=>r=⟨#[]⟩/\((x=(1,0)/\v=.iface 432 (.pointer (some (A 0))))∨(x=(4,0)/\v=.iface 432 (.pointer (some (A 3))))∨(x.1=2/\ZM w v x.2 (A 1))∨(x.1=3/\ZM w v x.2 (A 2)))
 | .ok t=>(0<=fl/\fl<=7->v=.nilIface/\bl r=ZbJ (LS.codeOf t fl.toNat))/\(fl<0∨7<fl->r=⟨#[]⟩/\v=.iface 432 (.pointer (some (A 10))))
def ZkB(q:LB):Prop:=∀t k,ZD q=.ok t->k<=7->Sml (Zv (Zb t (g0 k)).2 (Zb t (g0 k)).1)
theorem ZuO(s:BA)(fl:Int)(A:Nat->Addr)(m:Int)(w:World)(H:Vars w A m)(K:ZR w)(L:20<=w.heap.size)(I:s.size<=9223372036854775807)(q:ZkB (bl s)) :
  CP 21 #[.string s,Vi fl] w fun e M=>∃(r:BA) (v:Value),e=.returned (.tuple #[.string r,v])/\Hid (Zho M A (bl s) fl r v)/\BW w M:=by
 have N:=hid (Ziu s w I H.sents);have HV:=hid H;have HT:=hid K;have B:=hid L;have O:=hid q;clear H K L q;go_enter func21,ntmps21
 go_wp2_with fail
 refine N.mono ?_;rintro e w1 ⟨pv,v,rfl,a,d⟩;have i:=hid d;have P:=hid (HV.below d);have C:=hid (HT.low d B);have f:=hid (Yah B d.size);clear d N;cases c:ZD (bl s)with
 | ok t=>
  rw[c]at a;obtain⟨rfl,j⟩:=a.out;obtain⟨l,g,n⟩:=Ze2 c;have p:=hid c;obtain⟨ty,u,Q⟩:=Zh.shape j;subst Q;by_cases R:0<=fl/\fl<=7
  ·obtain⟨k,hk⟩:∃k:Nat,fl=k:=⟨fl.toNat,by omega⟩
   subst hk;have D:k<=7:=by omega
   have S:=hid (O t k c D);have T:=hid (ZuR l n S);have U:=hid (ZA2 t k D j l g n C f S);have h0:¬(k:Int)<0:=by omega
   have h7:¬(7:Int)<k:=by omega
   clear a c j l g n R
   go_wp2_with fail
   refine U.mono ?_;rintro e z ⟨cv,sv,rv,iv,sl,rl,rfl,V,o⟩;have E:=hid (i.trans (o.mono i.size));have F:=hid (ZEE V T (C.low o f) (Yah f o.size));clear o U
   go_wp2_with fail
   refine F.mono ?_;rintro e w3 ⟨r,rfl,W,G⟩;have X:=hid (E.trans (G.mono E.size));clear G F;go_wp2;go_ret2;refine⟨r,.nilIface,rfl,hid ?_,X⟩;unfold Zho;rw[p];exact⟨fun _=>⟨rfl,W⟩,fun h=>by omega⟩
  ·have vR:=P.sent 10 Dc;clear a c j l g n;by_cases h0:fl<0
   all_goals
    try have h7:7<fl:=by omega
    go_wp2
    all_goals
     go_region
     all_goals
      go_wp2;go_ret2;refine⟨⟨#[]⟩,_,rfl,hid ?_,i.drew⟩;unfold Zho;rw[p];exact⟨fun h=>absurd h R,fun _=>⟨rfl,rfl⟩⟩
 | error x=>
  rw[c]at a;have p:=hid c
  have Y:∃ty u,v=.iface ty u:=by
   rcases a.out with ⟨_,h⟩|⟨_,h⟩|⟨_,h⟩|⟨_,h⟩
   ·exact⟨_,_,h⟩
   ·exact⟨_,_,h⟩
   ·obtain⟨fa,J,_⟩:=h.cells;exact⟨_,_,J⟩
   ·obtain⟨fa,J,_⟩:=h.cells;exact⟨_,_,J⟩
  obtain⟨ty,u,Z⟩:=Y;subst Z;clear c;go_wp2;go_ret2;refine⟨⟨#[]⟩,_,rfl,hid ?_,i⟩;unfold Zho;rw[p];exact⟨rfl,a⟩
theorem Zwo(s:BA){fl:Int}(A:Nat->Addr)(m:Int)(w:World)(G:Vars w A m)(I:ZR w)(J:20<=w.heap.size)(H:s.size<=9223372036854775807)(F:ZkB (bl s)) :
  CP 8 #[.string s,Vi fl] w fun e u=>∃(r:BA) (c p:Nat),e=.returned (.tuple #[.string r,Vi c,Vi p])/\Hid (ZcM (bl s) fl=(bl r,c,p))/\BW w u:=by
 have K:=hid (ZuO s fl A m w G I J H F);have M:=hid G;clear G I J F;go_enter func8,ntmps8
 go_wp2_with fail
 refine K.mono ?_;rintro e O ⟨r,v,rfl,o,q⟩;have d:=hid q;have f:=hid (M.below q);clear q K;have h:=o.out;clear o;unfold Zho at h;cases i:ZD (bl s)with
 | ok t=>
  rw[i]at h;simp only at h;by_cases N:0<=fl/\fl<=7
  ·obtain⟨rfl,L⟩:=h.1 N;have j:Hid (ZcM _ fl=(bl r,0,0)):=hid (by unfold ZcM;rw[i];simp only;rw[if_neg Om,L]);clear i h L
   go_wp2_with fail
   refine(Zik A m _ f).mono ?_;rintro e B ⟨rfl,rfl⟩
   go_wp2_with fail
   refine(Ziq _).mono ?_;rintro e z ⟨rfl,a⟩;have g:=hid (d.trans (a.mono d.size));clear a;go_wp2
   go_ret3
   exact⟨r,0,0,rfl,j,g⟩
  ·obtain⟨rfl,rfl⟩:=h.2 Om;have j:Hid (ZcM _ fl=([],11,0)):=hid (by unfold ZcM;rw[i];simp only;rw[if_pos Om]);clear i h
   go_wp2_with fail
   refine(Zzy A m f).mono ?_;rintro e B ⟨rfl,rfl⟩
   go_wp2_with fail
   refine(Zdm A m _ f).mono ?_;rintro e z ⟨rfl,a⟩;have g:=hid (d.trans (a.mono d.size));clear a;go_wp2
   go_ret3
   exact⟨⟨#[]⟩,11,0,rfl,j,g⟩
 | error x=>
  rw[i]at h;simp only at h;obtain⟨rfl,h⟩:=h;have j:Hid (ZcM _ fl=([],x.1,x.2)):=hid (by unfold ZcM;rw[i]);clear i;rcases h with ⟨rfl,rfl⟩|⟨rfl,rfl⟩|⟨C,n⟩|⟨C,n⟩
  ·go_wp2_with fail
   refine(ZjQ A m _ f).mono ?_;rintro e B ⟨rfl,rfl⟩
   go_wp2_with fail
   refine(Zdm A m _ f).mono ?_;rintro e z ⟨rfl,a⟩;have g:=hid (d.trans (a.mono d.size));clear a;go_wp2
   go_ret3
   exact⟨⟨#[]⟩,1,0,rfl,j,g⟩
  ·go_wp2_with fail
   refine(Zmu A m f).mono ?_;rintro e B ⟨rfl,rfl⟩
   go_wp2_with fail
   refine(Zdm A m _ f).mono ?_;rintro e z ⟨rfl,a⟩;have g:=hid (d.trans (a.mono d.size));clear a;go_wp2
   go_ret3
   exact⟨⟨#[]⟩,4,0,rfl,j,g⟩
  ·obtain⟨x1,x2⟩:=x;simp only at C n;subst C;obtain⟨fa,rfl,k,l⟩:=n.cells;clear n;have D:=hid k;have E:=hid l;clear k l
   go_wp2_with fail
   refine(Zmt A m f _ E).mono ?_;rintro e B ⟨rfl,rfl⟩
   go_wp2_with fail
   refine(ZdB A m _ _ _ f D).mono ?_;rintro e z ⟨rfl,a⟩;have g:=hid (d.trans (a.mono d.size));clear a;go_wp2
   go_ret3
   exact⟨⟨#[]⟩,2,x2,rfl,j,g⟩
  ·obtain⟨x1,x2⟩:=x;simp only at C n;subst C;obtain⟨fa,rfl,k,l⟩:=n.cells;clear n;have D:=hid k;have E:=hid l;clear k l
   go_wp2_with fail
   refine(Zms A m f _ E).mono ?_;rintro e B ⟨rfl,rfl⟩
   go_wp2_with fail
   refine(ZdB A m _ _ _ f D).mono ?_;rintro e z ⟨rfl,a⟩;have g:=hid (d.trans (a.mono d.size));clear a;go_wp2
   go_ret3
   exact⟨⟨#[]⟩,3,x2,rfl,j,g⟩
section
variable {jx nodes':List Nq} {g g' g1:Gq} {z:Nq} {i j k n x y:Nat}
theorem ZlK{z:Nq} : ∀ {l:List Nq} {i:Nat},idxN z l=some i->l.getD i nq0=z
 | [],_,h=>by cases h
 | y :: l, i, h => by
   unfold idxN at h;split at h
   · injection h with h;subst h;assumption
   · rw[Ybk]at h
     obtain⟨j,a,d⟩:=h;subst d;rw[Yee];exact ZlK a
theorem Zg3(h:jx <+: nodes')(a:n<jx.length):nodes'.getD n nq0=jx.getD n nq0:=by
 obtain⟨t,rfl⟩:=h;rw[Yaa,Yaa,Ybr a]
theorem Zlg(a:NOk jx)(h:jx <+: nodes'):∀(f n:Nat),n<jx.length->Zcl nodes' f n=Zcl jx f n
 | 0,_,_=>rfl
 | f + 1, n, d => by
   unfold Zcl;rw[Zg3 h d,Ycb (fun t e=>Zlg a h f t (by have:=Zcf a n t e;omega))]
structure PB (g g':Gq) (i k:Nat):Prop where
 ok:NOk g'.jx
 pre:g.jx <+: g'.jx
 lt:i<g'.jx.length
 co:Zcl g'.jx (i+1) i<=k
theorem PB.mono(h:PB g g' i k)(a:k<=j):PB g g' i j:=⟨h.ok,h.pre,h.lt,Yah h.co a⟩
theorem PB.after(h:PB g1 g' i k)(a:g.jx <+: g1.jx):PB g g' i k:=⟨h.ok,a.trans h.pre,h.lt,h.co⟩
theorem NOk.app (a : NOk jx) (e : NOne jx.length z) : NOk (jx ++ [z]) := fun i d => by
  rw[List.getElem_append];split
  · rename_i h;exact a i h
  · rename_i h
    have:i=jx.length:=by rw[Yab]at d;simp at d;omega
    simp_all
theorem Zfe (a : NOk g.jx) (l : NOne g.jx.length z) : PB g (addQ z g).2 (addQ z g).1 (4 + ((Zg z).map (fun t => Zcl g.jx (t + 1) t)).sum) := by
  by_cases h:g.share=true/\∃i,idxN z g.jx=some i
  · obtain⟨e,i,f⟩:=h
    rw[Zhq e f];exact⟨a,Ya8 _,ZlL f,by rw[Zi3 a,ZlK f];omega⟩
  · have e : g.share = true -> idxN z _ = none := fun e => by
      cases p:idxN z g.jx with
      | none=>rfl
      | some i=>simp_all
    rw[Zgz e];have d:=a.app l;have m:g.jx <+: g.jx++[z]:=Ydd _ _;refine⟨d,m,by simp,?_⟩;show Zcl (g.jx++[z]) (g.jx.length+1) g.jx.length<=_;rw[Zi3 d,show(g.jx++[z]).getD _ _=z by simp,Ycb (fun t o=>Zlg a m _ t (l.low t o))];omega
theorem Zlf(a:NOk g.jx){v:Int}(d:vOk v):PB g (Zdw v g).2 (Zdw v g).1 4:=Zfe a (Zrp d)
theorem Zqk(a:NOk g.jx){v:Int}(d:n<g.jx.length)(h:Zco n g=some v):vOk v:=by
 rw[Zie h];exact a.vok d
theorem Zzh(a:NOk g.jx)(d:n<g.jx.length):PB g (negQ n g).2 (negQ n g).1 (4+Zcl g.jx (n+1) n):=by
 unfold negQ;split
 ·rename_i v e;have:=Zqk a d e;exact(Zlf a ⟨by have:=this.2;omega,by have:=this.1;omega⟩).mono Om
 ·have h:=Zfe (z:=⟨4,0,some n,none⟩) a (ZgY Dc d Dc Dc)
  assumption
theorem ZAb(a:NOk g.jx)(d:x<g.jx.length)(e:y<g.jx.length){o:Nat}(l:o<=4):PB g (Zbs o x y g).2 (Zbs o x y g).1 (4+(Zcl g.jx (x+1) x+Zcl g.jx (y+1) y)):=by
 unfold Zbs;split
 ·rename_i u v f m;exact(Zlf a (Zhj o u v (Zqk a d f))).mono Om
 ·have h:=Zfe (z:=⟨3,o,some x,some y⟩) a (ZjR Dc d e Om Om)
  assumption
theorem ZrD(a:NOk g.jx)(f:g.kw.length<=1000000)(q:Nd×Nat):PB g (ZJ q g).2 (ZJ q g).1 4:=by
 unfold ZJ;split
 ·rename_i i e;have d:=Zjh e;rw[Yak]at d;exact Zfe a (ZjS Dc Om Om)
 ·have h:=Zfe (g:={ g with kw:=g.kw++[q] }) (z:=⟨1,(g.kw.length),none,none⟩) a (ZjS Dc Om Om);exact⟨h.ok,h.pre,h.lt,h.co⟩
theorem ZjU:∀(t:Tr) (g:Gq),wfT t->isNil t=false->NOk g.jx->g.kw.length+wT t<=400000->g.qx.length+wT t<=400000->PB g (Zb t g).2 (Zb t g).1 (wT t / 3)
 | .nil,_,_,h,_,_,_=>by cases h
 | .node px py a l r, g, o, _, d, C, hg => by
   have J:=o;obtain⟨O,D,P,E,Q,F,G,H,S,K,s,I⟩:=o;have M:=Zmz a;have u:wT (.node px py a l r)=ownW a+wT l+wT r:=rfl;rw[u]at C hg ⊢;have v:=ZjU l;have w:=ZjU r;unfold Zb;split
   · exact(Zlf d ⟨by omega,F⟩).mono Om
   · rename_i k0
     split
     · exact(ZrD d Om _).mono Om
     · rename_i k1
       split
       · have p:=ZrD d Om (Zba a,a.n.toNat)
         have q:=Zfe (z:=⟨2,a.op,some _,none⟩) p.ok (ZgY Dc p.lt Om Om);have q':=q.after p.pre;have pc:=p.co;simp only[Zg,Ybb,Ydg,Yd2,Ye0]at q';exact q'.mono Om
       · rename_i k2
         have A:=G Om;have L:=v g s A d Om Om;have Lc:=L.co;have Ls:=(Zew l g s).1;split
         · exact((Zzh L.ok L.lt).after L.pre).mono Om
         · rename_i k3
           split
           · rename_i k5
             have f:=Zje a.by_ (Zb l g).2;have gn:=f.2.2;have gi:=f.2.1;have Lr:=Ls.r1;have N:=E k5;have q:=Zfe (z:=⟨5+a.op,(Zbd a.by_ (Zb l g).2).1,some _,none⟩) (gn▸L.ok) (ZgY Om (gn▸L.lt) Om Om);have q':=q.after (gn▸L.pre);simp only[Zg,Ybb,Ydg,Yd2,Ye0,gn]at q';exact q'.mono Om
           · rename_i k5
             have B:=H Om;have R:=w _ I B L.ok (by have:=Ls.s1;omega) (by have:=Ls.r1;omega);have Rc:=R.co;have m:=Yaw L.lt R.pre.length_le;have T:=Zlg L.ok R.pre ((Zb l g).1+1) _ L.lt;have e:=L.pre.trans R.pre;simp only;split
             · have q:=(Zfe (z:=⟨10,0,some _,some _⟩) R.ok (ZjR Dc m R.lt Dc Dc)).after e
               simp only[Zg,Ybb,Ydg,Yd2,Ye0]at q;exact q.mono Om
             · exact((ZAb R.ok m R.lt D).after e).mono Om
def CI(c:Cq):Prop:=c.jj.length<=c.jq.length
variable {W:Nat->Cq->Cq} {c:Cq}
theorem ZfU(h:CI c)(op arg:Nat):CI (Zc op arg c):=by unfold CI at *;simp[Zc];omega
theorem Zod(h:CI c)(n s:Nat):CI (ZZ n s c):=ZfU h _ s
theorem ZhU(e:∀z c,CI c->CI (W z c))(h:CI c):CI (putQ jx W n c):=by
 cases a:ZK n c.jy with
 | some s=>
  rw[Zd8 a];split
  ·exact ZfU h _ s
  ·exact ZfU h _ s
 | none=>
  rw[ZdR a];have d:=e n (decL n c) h;split
  ·exact d
  ·split
   ·exact ZfU (Zod d _ _) _ _
   omega
theorem Zob(a:∀z c,CI c->CI (W z c)):∀(k:Nat) (c:Cq),CI c->CI (ZG jx W n k c)
 | 0,c,h=>h
 | k + 1, c, h => by
   unfold ZG;split
   · rename_i z s _ _
     exact Zob a k _ (Zod (a z { c with jy:=c.jy.set s _ } h) z s)
   omega
theorem ZuB(a:∀z c,CI c->CI (W z c))(h:CI c):CI (Zbo jx W x y c):=by
 have d:=ZhU (jx:=jx) (n:=y) a (ZfU (ZfU (ZhU (jx:=jx) (n:=x) a (Zob (jx:=jx) (n:=y) a (y+2) c h)) 10 0) 11 0);unfold Zbo CI;simp only[Yat];exact d
theorem Zoc (a : ∀ z c, CI c -> CI (W z c)) : ∀ (ts : List Nat) (c : Cq), CI c -> CI (ts.foldl (fun c t => putQ jx W t c) c)
  | [],c,h=>h
  | t::ts,c,h=>by rw[Ybp];exact Zoc a _ _ (ZhU a h)
theorem Zk5:∀(f n:Nat) (c:Cq),CI c->CI (Zr jx f n c)
 | 0,n,c,h=>h
 | f + 1, n, c, h => by
   have a:=fun z c=>Zk5 f z c;unfold Zr;simp only;split
   · exact ZuB a h
   · have d:=Zoc (jx:=jx) a (Zg (jx.getD n nq0)) c h
     generalize(Zg (jx.getD n nq0)).foldl (fun c t=>putQ jx (Zr jx f) t c) c=e at *
     unfold ZbD;split
     · unfold CI at *;simp[Zc];omega
     · exact ZfU d _ _
theorem Zol{t:Tr}(a:wfT t)(d:isNil t=false)(f:wT t<=100000)(fl:Nat):(Zv (Zb t (g0 fl)).2 (Zb t (g0 fl)).1).jq.length<=wT t / 3:=by
 have h:=ZjU t (g0 fl) a d (fun i e=>absurd e (Ya1 _)) (by show 0+wT t<=_;omega) (by show 0+wT t<=_;omega);exact Yah (ZuU h.ok h.lt) h.co
theorem ZuT{t:Tr}(a:wfT t)(d:isNil t=false)(e:wT t<=100000)(fl:Nat):Sml (Zv (Zb t (g0 fl)).2 (Zb t (g0 fl)).1):=by
 have h:=Zol a d e fl;have f:CI (Zv (Zb t (g0 fl)).2 (Zb t (g0 fl)).1):=ZhU (fun z c h=>Zk5 _ z c h) (Yac _);unfold CI at f;constructor<;>omega
end
end Go.Proofs.YtcdgkkfipdoeeaaGreatDoor
namespace Go.Proofs.YtcdgkkfipdoeeaaGreatDoor
open Go.RowKit LS Go.Proofs.Tryz
theorem ZCs {q:LB} : ZkB q := fun t k h _ => by
  obtain⟨c,a,d⟩:=Ze2 h;exact ZuT c a d k
theorem Zu2(s:BA)(fl:Int)(A:Nat->Addr)(m:Int)(w:World)(d:Vars w A m)(f:ZR w)(g:20<=w.heap.size)(a:s.size<=9223372036854775807) :
  CP 8 #[.string s,Vi fl] w fun e u=>∃(r:BA) (c p:Nat),e=.returned (.tuple #[.string r,Vi c,Vi p])/\Hid (ZcM (bl s) fl=(bl r,c,p))/\BW w u:=Zwo s A m w d f g a (ZCs)
section
variable {jx:List Nq} {W:Nat->Cq->Cq} {c d e:Cq} {n m x y:Nat} {l:List (Nat×Nat)}
abbrev opOk (n:Nat):Prop:=n≠9/\n<=13
structure Fwd (c d:Cq):Prop where
 pre:Pre c d
 fw:∀i,c.jq.length<=i->i<d.jq.length->opOk (d.jq.getD i (0,0)).1/\((d.jq.getD i (0,0)).1=10->i<(d.jq.getD i (0,0)).2)
theorem Zex(h:Pre c d){i:Nat}(a:i<c.jq.length):d.jq.getD i (0,0)=c.jq.getD i (0,0):=by
 obtain⟨t,f⟩:=h;rw[Yaa,Yaa,<-f,Ybr a]
theorem Fwd.refl(c:Cq):Fwd c c:=⟨Pre.refl c,fun i f a=>absurd a Om⟩
theorem Fwd.trans (h : Fwd c d) (q : Fwd d e) : Fwd c e := ⟨h.pre.trans q.pre, fun i f g => by
  rcases Yav i d.jq.length with a|a
  · rw[Zex q.pre a];exact h.fw i f a
  · exact q.fw i a g⟩
theorem Fwd.emit (c : Cq) {op : Nat} (arg : Nat) (h : opOk op /\ op ≠ 10) : Fwd c (Zc op arg c) := ⟨Zb8 op arg c, fun i f a => by
  have:i=c.jq.length:=by simp[Zc]at a;omega
  subst this;have e:(Zc op arg c).jq.getD c.jq.length (0,0)=(op,arg):=by simp[Zc]
  simp_all;omega⟩
theorem Fwd.keep(c:Cq)(n s:Nat):Fwd c (ZZ n s c):=by
 have:=Fwd.emit c (op:=12) s Dc;exact⟨this.pre,this.fw⟩
theorem Zjc(a:∀c,Fwd c (W n c))(c:Cq):Fwd c (putQ jx W n c):=by
 cases f:ZK n c.jy with
 | some s=>
  rw[Zd8 f];have h:=Fwd.emit (decL n c) (op:=13) s Dc;split
  ·exact⟨h.pre,h.fw⟩
  ·exact⟨h.pre,h.fw⟩
 | none=>
  rw[ZdR f];have g:Fwd c _:=⟨(a (decL n c)).pre,(a (decL n c)).fw⟩
  split
  ·exact g
  ·split
   ·exact g.trans ((Fwd.keep _ _ _).trans (Fwd.emit _ _ Dc))
   omega
theorem Zpt(a:∀z c,Fwd c (W z c)):∀(k:Nat) (c:Cq),Fwd c (ZG jx W n k c)
 | 0,c=>Fwd.refl _
 | k + 1, c => by
   unfold ZG;split
   · rename_i z s _ _
     have h:=a z { c with jy:=c.jy.set s (some (-1)) };exact((⟨h.pre,h.fw⟩:Fwd c _).trans (Fwd.keep _ z s)).trans (Zpt a k _)
   · exact Fwd.refl _
theorem Zwn(a:∀z c,Fwd c (W z c)):Fwd c (Zbo jx W x y c):=by
 have k:=ZoR (jx:=jx) (c:=c) (x:=x) (y:=y) (fun z c=>(a z c).pre);refine⟨k,fun i o f=>?_⟩;unfold Zbo at f ⊢;simp only at f ⊢;have f1:=(Zpt (jx:=jx) (n:=y) a (y+2) c).trans (Zjc (jx:=jx) (n:=x) (a x) _);generalize putQ jx W x (ZG jx W y (y+2) c)=c2 at *
 have f2:=Zjc (jx:=jx) (n:=y) (a y) (Zc 11 0 (Zc 10 0 c2));have p:(Zc 11 0 (Zc 10 0 c2)).jq.length=c2.jq.length+2:=by simp[Zc]
 have r:(Zc 11 0 (Zc 10 0 c2)).jq.getD (c2.jq.length+1) (0,0)=(11,0):=by simp[Zc]
 have j:Pre c2 (Zc 11 0 (Zc 10 0 c2)):=(Zb8 10 0 c2).trans (Zb8 11 0 _);generalize Zc 11 0 (Zc 10 0 c2)=c3 at *
 generalize putQ jx W y c3=d at *
 have q:=f2.pre.length_le;rw[Yat]at f
 have hg : ∀ i, (d.jq.set c2.jq.length (10, d.jq.length)).getD i (0, 0) = if i = c2.jq.length then (10, d.jq.length) else d.jq.getD i (0, 0) := fun i => by
   rw[Yaa,Ya0];by_cases e:i=c2.jq.length
   · subst e;rw[if_pos rfl,if_pos rfl,if_pos Om];rfl
   split<;>simp_all
 rw[hg];by_cases e:i=c2.jq.length
 ·simp_all;omega
 ·rw[if_neg e];rcases Yav i c3.jq.length with g|g
  ·rw[Zex f2.pre g];rcases Yav i c2.jq.length with h|h
   ·rw[Zex j h];exact f1.fw i o h
   ·obtain rfl:i=c2.jq.length+1:=by omega
    simp_all;omega
  ·exact f2.fw i g f
theorem Zpu (a : ∀ z c, Fwd c (W z c)) : ∀ (ts : List Nat) (c : Cq), Fwd c (ts.foldl (fun c t => putQ jx W t c) c)
  | [],c=>Fwd.refl _
  | t::ts,c=>by rw[Ybp];exact(Zjc (a t) c).trans (Zpu a _ _)
theorem Zpv(g:∀n,opOk (jx.getD n nq0).op):∀(f n:Nat) (c:Cq),Fwd c (Zr jx f n c)
 | 0,n,c=>Fwd.refl _
 | f + 1, n, c => by
   have h:=fun z c=>Zpv g f z c;by_cases a:(jx.getD n nq0).op=10
   · unfold Zr;simp only;rw[if_pos a];exact Zwn h
   · rw[Zgu a]
     refine(Zpu (jx:=jx) h (Zg (jx.getD n nq0)) c).trans ?_;generalize(Zg (jx.getD n nq0)).foldl (fun c t=>putQ jx (Zr jx f) t c) c=e at *
     unfold ZbD;split
     · have:=Fwd.emit { e with jj:=e.jj++[(jx.getD n nq0).arg] } (op:=0) e.jj.length Dc
       exact⟨this.pre,this.fw⟩
     · exact Fwd.emit e _ ⟨g n,a⟩
def Led(l:List (Nat×Nat))(i:Nat):Prop:=∀j,i<=j->j<l.length->(l.getD j (0,0)).1=10->(l.getD j (0,0)).2<l.length->(l.getD (l.getD j (0,0)).2 (0,0)).1≠10
def FwL(l:List (Nat×Nat)):Prop:=∀j,j<l.length->(l.getD j (0,0)).1=10->j<(l.getD j (0,0)).2
theorem ZxU(g:FwL l){i:Nat}(w:i<l.length)(h:Led l (i+1)):FwL (ZL l i)/\Led (ZL l i) i/\(ZL l i).length=l.length/\∀j,((ZL l i).getD j (0,0)).1=(l.getD j (0,0)).1:=by
 unfold ZL;split
 ·rename_i q;obtain⟨z,r,s⟩:=q;have f1:=g i w z;have f2:=g _ r s;have B:=h _ f1 r s;generalize C:(l.getD i (0,0)).2=u at *
  generalize D:(l.getD u (0,0)).2=v at *
  have hg : ∀ j, (l.set i (10, v)).getD j (0, 0) = if j = i then (10, v) else l.getD j (0, 0) := fun j => by
    rw[Yaa,Ya0];by_cases e:j=i
    · simp_all
    split<;>simp_all
  have k : ∀ j, ((l.set i (10, v)).getD j (0, 0)).1 = (l.getD j (0, 0)).1 := fun j => by
    rw[hg];split<;>simp_all
  refine⟨fun j o a=>?_,fun j o a p f=>?_,Yat ..,k⟩
  ·rw[hg];rw[k]at a;rw[Yat]at o;split
   ·omega
   ·exact g j o a
  ·rw[k]at p;rw[Yat]at a f;rw[k,hg];rw[hg]at f;split
   ·simp_all
   ·rename_i e;rw[if_neg e]at f;exact h j Om a p f
 ·rename_i q;refine⟨g,fun j o a p f A=>?_,rfl,fun _=>rfl⟩;rcases Yav i j with t|t
  ·exact h j t a p f A
  ·obtain rfl:j=i:=by omega
   omega
theorem ZqA:∀(k:Nat) (l:List (Nat×Nat)),k<=l.length->FwL l->Led l k->Led (ZcI k l) 0/\(ZcI k l).length=l.length/\∀j,((ZcI k l).getD j (0,0)).1=(l.getD j (0,0)).1
 | 0,l,_,_,h=>⟨h,rfl,fun _=>rfl⟩
 | k + 1, l, p, a, h => by
   obtain⟨f,g,i,o⟩:=ZxU a Om h;obtain⟨q1,q2,q3⟩:=ZqA k (ZL l k) Om f g;exact⟨q1,q2.trans i,fun j=>(q3 j).trans (o j)⟩
theorem ZsI(a:FwL l):Led (Zch l) 0/\(Zch l).length=l.length/\∀j,((Zch l).getD j (0,0)).1=(l.getD j (0,0)).1:=ZqA _ l (Yac _) a (fun j g f=>absurd f Om)
end
end Go.Proofs.YtcdgkkfipdoeeaaGreatDoor
namespace Go.Proofs.YtcdgkkfipdoeeaaGreatDoor
open Go.RowKit LS Go.Proofs.Tryz
section
variable {st:List Ser} {tm:Int} {jx:List Nq} {K:Nat->Cq->Cq} {c d e:Cq} {C:CodeQ} {ev:Nat->LS.Cl} {n x y i j a b:Nat} {m m1 m2:MQ}
def PrC(c d:Cq):Prop:=c.jj <+: d.jj
theorem Ze1(g:∀c,PrC c (K n c))(c:Cq):PrC c (putQ jx K n c):=by
 cases f:ZK n c.jy with
 | some s=>
  rw[Zd8 f];split <;> exact Ya8 _
 | none=>
  rw[ZdR f];have h:=g (decL n c);split
  ·exact h
  ·split
   ·exact h
   ·exact h
theorem ZjX(f:∀z c,PrC c (K z c)):∀(k:Nat) (c:Cq),PrC c (ZG jx K n k c)
 | 0,_=>Ya8 _
 | k + 1, c => by
   unfold ZG;split
   · rename_i z s _ _
     exact(show PrC c (ZZ z s _) from f z { c with jy:=c.jy.set s _ }).trans (ZjX f k _)
   · exact Ya8 _
theorem ZmS (f : ∀ z c, PrC c (K z c)) : ∀ (ts : List Nat) (c : Cq), PrC c (ts.foldl (fun c t => putQ jx K t c) c)
  | [],_=>Ya8 _
  | t::ts,c=>by rw[Ybp];exact(Ze1 (f t) c).trans (ZmS f _ _)
theorem ZmT:∀(f n:Nat) (c:Cq),PrC c (Zr jx f n c)
 | 0,_,_=>Ya8 _
 | f + 1, n, c => by
   have g:=fun z c=>ZmT f z c;unfold Zr;simp only;split
   · unfold Zbo
     exact((ZjX g _ c).trans (Ze1 (g _) _)).trans (Ze1 (c:=Zc _ 0 (Zc _ 0 _)) (g _))
   · have h:=ZmS (jx:=jx) g (Zg (jx.getD n nq0)) c
     refine h.trans ?_;unfold ZbD;split
     · exact Ydd _ _
     · exact Ya8 _
def Goes(st:List Ser)(tm:Int)(C:CodeQ)(i:Nat)(m:MQ)(j:Nat)(m':MQ):Prop:=∃k,∀f,runE st tm C (f+k) i m=runE st tm C f j m'
theorem Goes.refl(i:Nat)(m:MQ):Goes st tm C i m i m:=⟨0,fun _=>rfl⟩
theorem Goes.trans{k:Nat}(h:Goes st tm C i m j m1)(q:Goes st tm C j m1 k m2):Goes st tm C i m k m2:=by
 obtain⟨a,h⟩:=h;obtain⟨b,q⟩:=q;exact⟨b+a,fun f=>by rw[<-Yfu,h,q]⟩
theorem Goes.one(f:i<C.jq.length):Goes st tm C i m (Zbj i (C.jq.getD i (0,0)) m) (doE st tm C (C.jq.getD i (0,0)) m):=⟨1,fun _=>Zj4 _ _ _ _ _ f⟩
structure Sgm (C:CodeQ) (d:Cq) (a:Nat):Prop where
 co:d.jj <+: C.jj
 le:d.jq.length<=C.jq.length
 at_:∀i,a<=i->i<d.jq.length->C.jq.getD i (0,0)=d.jq.getD i (0,0)
theorem Sgm.part(h:Sgm C d a)(f:Pre c d)(k:PrC c d):Sgm C c a:=⟨Ydr k h.co,Yah f.length_le h.le,fun i l g=>by rw[h.at_ i l (Yaw g f.length_le),Zex f g]⟩
theorem Sgm.from(h:Sgm C d a)(g:a<=b):Sgm C d b:=⟨h.co,h.le,fun i k f=>h.at_ i Om f⟩
theorem Sgm.emit{op arg:Nat}(h:Sgm C (Zc op arg c) a)(f:a<=c.jq.length):c.jq.length<C.jq.length/\C.jq.getD c.jq.length (0,0)=(op,arg):=by
 have g:(Zc op arg c).jq.length=c.jq.length+1:=by simp[Zc]
 refine⟨by have:=h.le;omega,?_⟩;rw[h.at_ _ f Om];simp[Zc]
structure Fit (ev:Nat->LS.Cl) (c:Cq) (m:MQ):Prop where
 sl:∀s (n:Nat),c.jy.getD s none=some (n:Int)->m.jy.getD s none=some (ev n)
 l1:c.jy.length=16
 l2:m.jy.length=16
theorem Fit.same(h:Fit ev c m)(g:d.jy=c.jy)(f:m1.jy=m.jy):Fit ev d m1:=⟨fun s n k=>by rw[f];exact h.sl s n (by simp_all),by rw[g];exact h.l1,by rw[f];exact h.l2⟩
theorem ZpB(l:List (Option LS.Cl))(s j:Nat)(v:Option LS.Cl):(l.set s v).getD j none=if j=s/\s<l.length then v else l.getD j none:=by
 rw[Yaa,Ya0];by_cases h:s=j
 ·subst h;by_cases f:s<l.length
  ·simp[f]
  ·simp[f]
 simp_all;omega
def Puts(st:List Ser)(tm:Int)(C:CodeQ)(ev:Nat->LS.Cl)(c d:Cq)(m:MQ)(v:LS.Cl):Prop:=∃sl,Goes st tm C c.jq.length m d.jq.length ⟨v::m.jz,sl⟩/\Fit ev d ⟨v::m.jz,sl⟩
def WP(st:List Ser)(tm:Int)(C:CodeQ)(ev:Nat->LS.Cl)(K:Nat->Cq->Cq)(n:Nat):Prop:=∀c m,Fit ev c m->Sgm C (K n c) c.jq.length->Puts st tm C ev c (K n c) m (ev n)
theorem ZvD(C:CodeQ)(s:Nat)(v:LS.Cl)(S:List LS.Cl)(sl:List (Option LS.Cl)):doE st tm C (12,s) ⟨v::S,sl⟩=⟨S,sl.set s (some v)⟩:=rfl
theorem ZoO(C:CodeQ)(s:Nat){S:List LS.Cl}{sl:List (Option LS.Cl)}{v:LS.Cl}(h:sl.getD s none=some v):doE st tm C (13,s) ⟨S,sl⟩=⟨v::S,sl⟩:=by
 show(match sl.getD s none with|some y=>(⟨y::S,sl⟩:MQ)|none=>⟨S,sl⟩)=_;rw[h]
theorem ZgV{i:Nat}{op:Nat}{arg:Nat}{m:MQ}(g:op≠9)(f:op≠10):Zbj i (op,arg) m=i+1:=by
 unfold Zbj
 simp_all
theorem ZdX{op arg:Nat}{c:Cq}:(Zc op arg c).jq.length=c.jq.length+1:=by simp[Zc]
theorem Zqh{s:Nat}{v:LS.Cl}{S:List LS.Cl}{sl:List (Option LS.Cl)}(g:Fit ev c ⟨v::S,sl⟩)(w:v=ev n)(z:s<16)(hg:Sgm C (ZZ n s c) a)(o:a<=c.jq.length):∃sl',Goes st tm C c.jq.length ⟨v::S,sl⟩ (ZZ n s c).jq.length ⟨S,sl'⟩/\Fit ev (ZZ n s c) ⟨S,sl'⟩/\sl'.getD s none=some v:=by
 have h:Sgm C (Zc _ s c) a:=⟨hg.co,hg.le,hg.at_⟩
 obtain⟨p,r⟩:=h.emit o;have l:=Goes.one (st:=st) (tm:=tm) (m:=⟨v::S,sl⟩) p;rw[r,ZvD,ZgV Dc Dc]at l;have u:sl.length=16:=g.l2;refine⟨sl.set s _,by show Goes _ _ _ _ _ (Zc 12 s c).jq.length _;rw[ZdX];exact l,⟨fun s' k t=>?_,?_,?_⟩,?_⟩
 ·have f:(c.jy.set s _).getD _ _=some _:=t;rw[Zc0]at f;show(sl.set s (some v)).getD s' none=_;rw[ZpB];by_cases es:s'=s
  ·rw[if_pos ⟨es,by simp_all⟩]at f;injection f with f;have:k=n:=by omega
   simp_all
  ·rw[if_neg (fun q=>es q.1)]at f ⊢;exact g.sl _ k f
 ·show(c.jy.set s _).length=16;rw[Yat];exact g.l1
 ·simp_all
 simp_all
theorem Zj2(p:WP st tm C ev K n)(A:∀c,Pre c (K n c))(f:Fit ev c m)(hg:Sgm C (putQ jx K n c) c.jq.length):Puts st tm C ev c (putQ jx K n c) m (ev n):=by
 cases q:ZK n c.jy with
 | some s=>
  obtain⟨H,B⟩:=Zha q;have D:=f.sl s n B;rw[Zd8 q]at hg ⊢
  have t:Sgm C (Zc 13 s (decL n c)) c.jq.length:=by
   split at hg
   ·exact⟨hg.co,hg.le,hg.at_⟩
   ·exact hg
  obtain⟨g1,g2⟩:=t.emit (Yac _);have o:=Goes.one (st:=st) (tm:=tm) (m:=m) g1;have E:doE st tm C _ m=⟨ev n::m.jz,m.jy⟩:=ZoO C s D;rw[g2,E,ZgV Dc Dc]at o;have u:Goes st tm C c.jq.length m (Zc 13 s (decL n c)).jq.length ⟨ev n::m.jz,m.jy⟩:=by rwa [ZdX]
  split
  ·refine⟨m.jy,u,⟨fun s' k F=>?_,by show(c.jy.set s none).length=16;rw[Yat];exact f.l1,f.l2⟩⟩;have g:(c.jy.set s _).getD _ _=some _:=F;rw[Zc0]at g;split at g
   ·cases g
   ·exact f.sl _ k g
  ·exact⟨m.jy,u,⟨f.sl,f.l1,f.l2⟩⟩
 | none=>
  rw[ZdR q]at hg ⊢;have h:Fit _ (decL n c) m:=f.same rfl rfl;have v:=A (decL n c);have w:c.jq.length<=(K n _).jq.length:=v.length_le;split at hg
  ·rename_i r;rw[if_pos r];exact p _ m h hg
  ·rename_i r;rw[if_neg r];cases l:ZbQ (K n (decL n c)).jy with
   | none=>
    rw[l]at hg;exact p _ m h hg
   | some s=>
    rw[l]at hg;simp only at hg ⊢;have f1:=(ZdZ l).1;have gk:=hg.part (Zb8 _ _ _) (Ya8 _);have gw:=gk.part (Zfq _ _ _) (Ya8 _);obtain⟨sl,G,z⟩:=p (decL n c) m h gw;obtain⟨sl',k1,k2,k3⟩:=Zqh z rfl f1 gk w;obtain⟨g1,g2⟩:=hg.emit (by have:(ZZ n s (K n (decL n c))).jq.length=(K n (decL n c)).jq.length+1:=ZdX;omega);have o:=Goes.one (st:=st) (tm:=tm) (m:=⟨m.jz,sl'⟩) g1;rw[g2,ZoO C s k3,ZgV Dc Dc]at o;exact⟨sl',by rw[ZdX];exact(Goes.trans G k1).trans o,k2.same rfl rfl⟩
theorem Zpq (f : ∀ z c, Pre c (K z c)) (g : ∀ z c, PrC c (K z c)) : ∀ (ts : List Nat) (c : Cq) (m : MQ), (∀ t ∈ ts, WP st tm C ev K t) -> Fit ev c m -> Sgm C (ts.foldl (fun c t => putQ jx K t c) c) c.jq.length -> ∃ sl, Goes st tm C c.jq.length m (ts.foldl (fun c t => putQ jx K t c) c).jq.length ⟨(ts.map ev).reverse ++ m.jz, sl⟩ /\ Fit ev (ts.foldl (fun c t => putQ jx K t c) c) ⟨(ts.map ev).reverse ++ m.jz, sl⟩
  | [],c,m,_,h,_=>⟨m.jy,Goes.refl _ _,h⟩
  | t :: ts, c, m, k, h, hg => by
    rw[Ybp]at hg ⊢;have l:=Zd9 (jx:=jx) (f t) c;have r:=Ze1 (jx:=jx) (g t) c;obtain⟨sl,o,p⟩:=Zj2 (jx:=jx) (k t (Yay ..)) (f t) h (hg.part (Zja f ts _) (ZmS g ts _));obtain⟨sl2,q1,q2⟩:=Zpq f g ts _ _ (fun z q=>k z (Yam _ q)) p (hg.from l.length_le);have e:(ts.map ev).reverse++ev t::m.jz=((t::ts).map ev).reverse++m.jz:=by simp
    simp only at q1 q2;rw[e]at q1 q2;exact⟨sl2,o.trans q1,q2⟩
theorem ZnO(l:NOk jx)(p:∀z c,Pre c (K z c))(r:∀z c,PrC c (K z c))(t:∀z,z<=y->z<jx.length->WP st tm C ev K z):∀(k:Nat) (c:Cq) (m:MQ),Fit ev c m->Sgm C (ZG jx K y k c) c.jq.length->∃sl,Goes st tm C c.jq.length m (ZG jx K y k c).jq.length ⟨m.jz,sl⟩/\Fit ev (ZG jx K y k c) ⟨m.jz,sl⟩
 | 0,c,m,f,_=>⟨m.jy,Goes.refl _ _,f⟩
 | k + 1, c, m, f, hg => by
   cases q:ZbY jx y c with
   | none=>rw[Zff (.inl q)];exact⟨m.jy,Goes.refl _ _,f⟩
   | some x=>
     cases g:ZbQ c.jy with
     | none=>rw[Zff (.inr g)];exact⟨m.jy,Goes.refl _ _,f⟩
     | some s=>
       rw[ZiP q g]at hg ⊢;obtain⟨f1,f2⟩:=ZdZ g;obtain⟨u,v⟩:=Zg9 l q
       have w : Fit ev { c with jy := c.jy.set s (some (-1)) } m := ⟨fun s' k B => by
         have h:(c.jy.set s (some (-1))).getD s' none=some (k:Int):=B;rw[Zc0]at h;split at h
         · simp_all
         · exact f.sl s' k h,by show(c.jy.set s _).length=16;rw[Yat];exact f.l1,f.l2⟩
       have A:=p x { c with jy:=c.jy.set s (some (-1)) };have o:c.jq.length<=(K x _).jq.length:=A.length_le;have gk:=hg.part (ZfP p k _) (ZjX r k _);have gw:=gk.part (Zfq _ _ _) (Ya8 _);obtain⟨sl,D,E⟩:=t x u v _ m w gw;obtain⟨sl',k1,k2,_⟩:=Zqh E rfl f1 gk o;obtain⟨sl2,q1,q2⟩:=ZnO l p r t k _ _ k2 (hg.from (Yah o (Zfq _ _ _).length_le));exact⟨sl2,(Goes.trans D k1).trans q1,q2⟩
theorem ZvK(D:NOk jx)(r:∀z c,Pre c (K z c))(B:∀z c,PrC c (K z c))(J:WP st tm C ev K a)(E:∀z,z<=b->z<jx.length->WP st tm C ev K z)(L:b<jx.length)(M:ev n=if (Zcm (LS.valOf (ev a))).isEmpty then ev b else ev a)(t:Fit ev c m)(hg:Sgm C (Zbo jx K a b c) c.jq.length):Puts st tm C ev c (Zbo jx K a b c) m (ev n):=by
 have p1:=ZfP (jx:=jx) (n:=b) r (b+2) c;have p2:=Zd9 (jx:=jx) (r a) (ZG jx K b (b+2) c);have r2:=Ze1 (jx:=jx) (B a) (ZG jx K b (b+2) c);unfold Zbo at hg ⊢;simp only at hg ⊢;have A:=ZnO D r B E (b+2) c m t;generalize ZG jx K b (b+2) c=c1 at *
 have P1:=fun m t hg=>Zj2 (jx:=jx) (c:=c1) (m:=m) J (r a) t hg;generalize putQ jx K a c1=c2 at *
 have p3:=Zd9 (jx:=jx) (r b) (Zc 11 0 (Zc 10 0 c2));have r3:=Ze1 (jx:=jx) (B b) (Zc 11 0 (Zc 10 0 c2));have P2:=fun m t hg=>Zj2 (jx:=jx) (c:=Zc 11 0 (Zc 10 0 c2)) (m:=m) (E b (Yac _) L) (r b) t hg;have el:(Zc 11 0 (Zc 10 0 c2)).jq.length=c2.jq.length+2:=by simp[Zc]
 have e11:(Zc 11 0 (Zc 10 0 c2)).jq.getD (c2.jq.length+1) (0,0)=(11,0):=by simp[Zc]
 have pc2:=(Zb8 10 0 c2).trans (Zb8 11 0 _);have es:(Zc 11 0 (Zc 10 0 _)).jy=c2.jy:=rfl;have r3':PrC c2 _:=r3;generalize Zc 11 0 (Zc 10 0 c2)=c3 at *
 generalize putQ jx K b c3=d at *
 have l3:=p3.length_le;have l2:=p2.length_le;have l1:=p1.length_le;have F:d.jq.length<=C.jq.length:=by have:=hg.le;simp only[Yat]at this;exact this
 have o : ∀ i, c.jq.length <= i -> i < d.jq.length -> C.jq.getD i _ = if i = c2.jq.length then (10, d.jq.length) else d.jq.getD i _ := fun i l g => by
   rw[hg.at_ i l (by simp only[Yat];exact g)];show(d.jq.set c2.jq.length (10,d.jq.length)).getD i (0,0)=_;rw[Yaa,Ya0];by_cases e:i=c2.jq.length
   · subst e;rw[if_pos rfl,if_pos rfl,if_pos g];rfl
   · rw[if_neg (fun h=>e h.symm),if_neg e,Yaa]
 have gd:Sgm C d c3.jq.length:=⟨hg.co,F,fun i l g=>by rw[o i Om g,if_neg Om]⟩
 have g2:Sgm C c2 c.jq.length:=⟨Ydr r3' hg.co,by omega,fun i l g=>by rw[o i l Om,if_neg Om,Zex p3 Om,Zex pc2 g]⟩
 obtain⟨sl1,a1,a2⟩:=A (g2.part p2 r2);obtain⟨sl2,b1,b2⟩:=P1 _ a2 (g2.from l1);have v:c2.jq.length<C.jq.length:=by omega
 have G:=o c2.jq.length Om Om;rw[if_pos rfl]at G;have s1:=Goes.one (st:=st) (tm:=tm) (m:=⟨ev a::m.jz,sl2⟩) v;rw[G]at s1;have H:doE st tm C (10,d.jq.length) _=⟨ev a::m.jz,sl2⟩:=rfl;rw[H]at s1
 have p : ∀ (sl : List _) (S : List _), sl.length = 16 -> (∀ s (k : Nat), (c2.jy.getD s _ = some _ /\ d.jy.getD s _ = some _) -> sl.getD s _ = some _) -> Fit ev { d with jy := Zce _ _, jq := d.jq.set c2.jq.length (10, d.jq.length) } ⟨S, sl⟩ := fun sl S I h => ⟨fun s k N => (by
   have f:(Zce _ _).getD s _=some _:=N;rcases Yav s 16 with l|l
   · rw[Zkg l]at f
     split at f
     · rename_i e;exact h s k ⟨by rwa [<-e],f⟩
     · cases f
   · rw[Yaa,Ya9 (by simp[Zce];exact l)]at f;cases f),by simp[Zce],I⟩
 unfold Puts;simp only[Yat];rw[M];by_cases q:(Zcm (LS.valOf (ev a))).isEmpty=true
 ·rw[if_pos q]
  have u:Zbj c2.jq.length (10,d.jq.length) ⟨ev a::m.jz,sl2⟩=c2.jq.length+1:=by
   unfold Zbj
   rw [if_neg (by show ¬ (10 : Nat) = 9; decide), if_neg (fun h => by
     have g:(!(Zcm _).isEmpty)=true:=h.2;rw[q]at g;cases g)]
  rw[u]at s1;have w:=o (c2.jq.length+1) Om Om;rw[if_neg Om,Zex p3 Om,e11]at w;have s2:=Goes.one (st:=st) (tm:=tm) (C:=C) (i:=c2.jq.length+1) (m:=⟨ev a::m.jz,sl2⟩) Om;rw[w,ZgV Dc Dc,show doE _ _ C _ _=⟨m.jz,sl2⟩ from rfl,show c2.jq.length+1+1=c3.jq.length by omega]at s2;obtain⟨sl3,d1,d2⟩:=P2 ⟨m.jz,sl2⟩ (b2.same es rfl) gd;exact⟨sl3,((a1.trans b1).trans (s1.trans s2)).trans d1,p _ _ d2.l2 (fun s k h=>d2.sl s k h.2)⟩
 ·rw[if_neg q]
  have u:Zbj c2.jq.length (10,d.jq.length) ⟨ev a::m.jz,sl2⟩=d.jq.length:=by
   unfold Zbj;rw[if_neg (by show ¬(10:Nat)=9;decide),if_pos ⟨rfl,by show(!(Zcm (LS.valOf (ev a))).isEmpty)=true;simpa using q⟩]
  rw[u]at s1;exact⟨sl2,(a1.trans b1).trans s1,p _ _ b2.l2 (fun s k h=>b2.sl s k h.1)⟩
structure EvOk (st:List Ser) (tm:Int) (C:CodeQ) (ev:Nat->LS.Cl) (jx:List Nq):Prop where
 con:∀n,(jx.getD n nq0).op=0->Zg (jx.getD n nq0)=[]/\ev n=.inl (.inl (jx.getD n nq0).arg)
 or:∀n a b,(jx.getD n nq0).op=10->(jx.getD n nq0).fs=some a->(jx.getD n nq0).sn=some b->ev n=if (Zcm (LS.valOf (ev a))).isEmpty then ev b else ev a
 oth:∀n,n<jx.length->(jx.getD n nq0).op≠0->(jx.getD n nq0).op≠10->(jx.getD n nq0).op≠9/\∀S sl,doE st tm C ((jx.getD n nq0).op,(jx.getD n nq0).arg.toNat) ⟨((Zg (jx.getD n nq0)).map ev).reverse++S,sl⟩=⟨ev n::S,sl⟩
theorem Ztj(k:NOk jx)(l:EvOk st tm C ev jx):∀(f n:Nat),n<f->n<jx.length->WP st tm C ev (Zr jx f) n
 | 0,_,h,_=>absurd h (Ya1 _)
 | f + 1, n, S, v => by
   intro c m w hg;have o:=Zcf k n;have IH:∀z,z<n->WP _ _ C _ _ z:=fun z L=>Ztj k l f z Om Om;have A:∀z c,Pre c (Zr jx f z c):=fun z c=>Zhm f z c;have D:∀z c,PrC c (Zr jx f z c):=fun z c=>ZmT f z c;by_cases g:(jx.getD n nq0).op=10
   · have E:jx.getD n nq0=jx[n]:=by simp[v]
     obtain⟨a,b,q,r⟩:=(k n v).or (by simp_all);rw[<-E]at q r;have F:Zg (jx.getD n nq0)=[a,b]:=by unfold Zg;rw[q,r]
     rw[F]at o;have G:=o a (by simp);have Q:=o b (by simp);rw[Zky g q r]at hg ⊢;exact ZvK k A D (IH a G) (fun z L _=>IH z Om) Om (l.or n a b g q r) w hg
   · rw[Zgu g]at hg ⊢
     have M:=Zpq (jx:=jx) A D _ c m (fun t B=>IH t (o t B)) w;have H:=Zja (jx:=jx) A (Zg (jx.getD n nq0)) c;by_cases s:(jx.getD n nq0).op=0
     · obtain⟨t0,t1⟩:=l.con n s
       rw[t0]at hg ⊢;unfold ZbD at hg ⊢;rw[if_pos s]at hg ⊢;simp only[List.foldl_nil]at hg ⊢;obtain⟨g1,g2⟩:=hg.emit (Yac _);have u:=Goes.one (st:=st) (tm:=tm) (m:=m) g1
       have I:C.jj.getD c.jj.length 0=(jx.getD n nq0).arg:=by
         obtain⟨t,B⟩:=hg.co;rw[<-B];show((c.jj++[(jx.getD n nq0).arg])++t).getD c.jj.length 0=_;simp
       have p:doE st tm C (0,c.jj.length) m=⟨ev n::m.jz,m.jy⟩:=by
         show(⟨.inl (.inl (C.jj.getD c.jj.length 0))::m.jz,m.jy⟩:MQ)=_;rw[I,t1]
       have g2':C.jq.getD c.jq.length _=(0,c.jj.length):=g2
       have R:Goes st tm C c.jq.length m (c.jq.length+1) ⟨ev n::m.jz,m.jy⟩:=by
         have J:Goes _ _ C c.jq.length m (Zbj c.jq.length (C.jq.getD c.jq.length _) m) (doE _ _ C (C.jq.getD c.jq.length _) m):=u;rw[g2',p,ZgV Dc Dc]at J;exact J
       exact⟨m.jy,by rw[ZdX];omega,w.same rfl rfl⟩
     · unfold ZbD at hg ⊢
       rw[if_neg s]at hg ⊢;generalize(Zg (jx.getD n nq0)).foldl (fun c t=>putQ jx (Zr jx f) t c) c=e at *
       obtain⟨sl,N,O⟩:=M (hg.part (Zb8 _ _ _) (Ya8 _));obtain⟨P,p⟩:=l.oth n v s g;obtain⟨g1,g2⟩:=hg.emit H.length_le;have u:=Goes.one (st:=st) (tm:=tm) (m:=⟨((Zg (jx.getD n nq0)).map ev).reverse++m.jz,sl⟩) g1;rw[g2,p,ZgV P g]at u;exact⟨sl,by rw[ZdX];exact N.trans u,O.same rfl rfl⟩
theorem ZuX{g:Gq}{r:Nat}(l:NOk g.jx)(q:r<g.jx.length)(f:C.jq=(Zv g r).jq)(o:C.jj=(Zv g r).jj)(p:EvOk st tm C ev g.jx):∃sl,Goes st tm C 0 mq0 C.jq.length ⟨[ev r],sl⟩:=by
 have hg:Sgm C (putQ g.jx (Zr g.jx (r+1)) r (c0 g)) (c0 g).jq.length:=⟨o▸Ya8 _,f▸Yac _,fun i _ _=>by rw[f];rfl⟩
 have t : Fit ev (c0 g) mq0 := ⟨fun s n h => (by
   have k:(List.replicate _ _).getD s _=some _:=h;rw[Yaa,Ybs]at k;split at k <;> cases k),by rfl,by rfl⟩
 obtain⟨sl,u,_⟩:=Zj2 (Ztj l p (r+1) r (Ybd _) q) (fun c=>Zhm _ _ c) t hg;refine⟨sl,?_⟩;rw[f];exact u
end
end Go.Proofs.YtcdgkkfipdoeeaaGreatDoor
namespace Go.Proofs.YtcdgkkfipdoeeaaGreatDoor
open Go.RowKit LS Go.Proofs.Tryz
section
variable {st:List Ser} {tm:Int} {C:CodeQ} {l:List (Nat×Nat)}
def finE(st:List Ser)(tm:Int)(C:CodeQ):Nat->Nat->MQ->MQ
 | 0,_,m=>m
 | k+1,i,m=>if C.jq.length<=i then m else finE st tm C k (Zbj i (C.jq.getD i (0,0)) m) (doE st tm C (C.jq.getD i (0,0)) m)
def FwC(C:CodeQ):Prop:=∀i m,i<C.jq.length->i<Zbj i (C.jq.getD i (0,0)) m
theorem Zit(c:FwC C):∀(k i:Nat) (m:MQ) (f:Nat),C.jq.length<=k+i->k<=f->∃r,runE st tm C f i m=some (r,finE st tm C k i m)
 | 0,i,m,f,h,_=>⟨f,Zg5 Om⟩
 | k + 1, i, m, f, h, d => by
   unfold finE;by_cases a:C.jq.length<=i
   · rw[if_pos a];exact⟨f,Zg5 a⟩
   · rw[if_neg a]
     obtain⟨f,rfl⟩:∃j,f=j+1:=⟨f - 1,by omega⟩
     rw[Zj4 _ _ _ _ _ Om];have:=c i m Om;exact Zit c k _ _ f Om Om
theorem Zv6(a:FwC C){k k' i:Nat}{m:MQ}(h:C.jq.length<=k+i)(c:C.jq.length<=k'+i):finE st tm C k i m=finE st tm C k' i m:=by
 obtain⟨r,d⟩:=Zit (st:=st) (tm:=tm) a k i m (k+k') h Om;obtain⟨r',e⟩:=Zit (st:=st) (tm:=tm) a k' i m (k+k') c Om
 simp_all
theorem Zjb (h : FwL C.jq) (c : ∀ j, (C.jq.getD j (0, 0)).1 ≠ 9) : FwC C := fun i m d => by
  unfold Zbj;rw[if_neg (c i)];split
  · rename_i a;exact h i d a.1
  · omega
theorem ZvC(st:List Ser)(tm:Int)(C:CodeQ)(l:List (Nat×Nat))(x:Nat×Nat)(m:MQ):doE st tm { C with jq:=l } x m=doE st tm C x m:=rfl
theorem Zpf(h:FwL C.jq)(c:∀j,(C.jq.getD j (0,0)).1≠9)(i0:Nat):∀(k i:Nat) (m:MQ),C.jq.length<=k+i->finE st tm { C with jq:=ZL C.jq i0 } k i m=finE st tm C k i m
 | 0,_,_,_=>rfl
 | k + 1, i, m, d => by
   by_cases a:(C.jq.getD i0 (0,0)).1=10/\(C.jq.getD i0 (0,0)).2<C.jq.length/\(C.jq.getD (C.jq.getD i0 (0,0)).2 (0,0)).1=10
   · have e:ZL C.jq i0=C.jq.set i0 (10,(C.jq.getD (C.jq.getD i0 (0,0)).2 (0,0)).2):=by unfold ZL;rw[if_pos a]
     have IH:=fun i m d=>Zpf h c i0 k i m d;rw[e]at IH ⊢;unfold finE;simp only[Yat,ZvC]at IH ⊢;by_cases f:C.jq.length<=i
     · simp_all
     · rw[if_neg f,if_neg f]
       have g:=Zjb h c;have n:=g i m Om
       have hg:(C.jq.set i0 (10,(C.jq.getD (C.jq.getD i0 (0,0)).2 (0,0)).2)).getD i (0,0)=if i=i0 then (10,(C.jq.getD (C.jq.getD i0 (0,0)).2 (0,0)).2)else C.jq.getD i (0,0):=by
         rw[Yaa,Ya0];by_cases e:i=i0
         · simp_all
         · split<;>simp_all
       rw[hg];by_cases ei:i=i0
       · subst ei
         rw[if_pos rfl];obtain⟨c1,c2,c3⟩:=a;have f1:=h i Om c1;have f2:=h _ c2 c3;generalize p:C.jq.getD i (0,0)=x at *
         obtain⟨op,u⟩:=x;simp only at c1 c2 c3 f1 f2 n hg IH ⊢;subst c1;generalize o:C.jq.getD u (0,0)=y at *
         obtain⟨op2,v⟩:=y;simp only at c3 f2 IH ⊢;subst c3;have d1:∀z,doE st tm C (10,z) m=m:=fun z=>rfl;rw[d1,d1];by_cases q:ZiG m=true
         · have n1 : ∀ j z, Zbj j (10, z) m = z := fun j z => by
             unfold Zbj
             simp_all
           rw[n1,n1,IH v m Om];obtain⟨k,rfl⟩:∃j,k=j+1:=⟨k - 1,by omega⟩
           conv=>rhs;unfold finE
           rw[if_neg Om,o,d1,n1];exact Zv6 g Om Om
         · have n1 : ∀ j z, Zbj j (10, z) m = j + 1 := fun j z => by
             unfold Zbj
             simp_all
           rw[n1,n1,IH _ m Om]
       · rw[if_neg ei]
         exact IH _ _ Om
   · have e:ZL C.jq i0=C.jq:=by unfold ZL;rw[if_neg a]
     rw[e]
theorem Zpw(h:FwL l)(i0:Nat)(d:i0<l.length):FwL (ZL l i0)/\(ZL l i0).length=l.length/\∀j,((ZL l i0).getD j (0,0)).1=(l.getD j (0,0)).1:=by
 unfold ZL;split
 ·rename_i f;obtain⟨g,i,k⟩:=f;have f1:=h i0 d g;have f2:=h _ i k;generalize(l.getD (l.getD i0 (0,0)).2 (0,0)).2=v at *
  have hg : ∀ j, (l.set i0 (10, v)).getD j (0, 0) = if j = i0 then (10, v) else l.getD j (0, 0) := fun j => by
    rw[Yaa,Ya0];by_cases e:j=i0
    · simp_all
    split<;>simp_all
  refine⟨fun j c a=>?_,Yat ..,fun j=>?_⟩
  ·rw[hg]at a ⊢;rw[Yat]at c;split
   ·omega
   ·rename_i e;rw[if_neg e]at a;exact h j c a
  ·rw[hg];split<;>simp_all
 simp_all
theorem Zpg:∀(k:Nat) (C:CodeQ),k<=C.jq.length->FwL C.jq->(∀j,(C.jq.getD j (0,0)).1≠9)->∀f i m,C.jq.length<=f+i->finE st tm { C with jq:=ZcI k C.jq } f i m=finE st tm C f i m
 | 0,_,_,_,_,_,_,_,_=>rfl
 | k + 1, C, d, h, a, f, i, m, c => by
   obtain⟨q1,q2,q3⟩:=Zpw h k Om;have:=Zpg k { C with jq:=ZL _ k } (by simp_all;omega) q1 (fun j=>by simp_all) f i m (by simp_all);exact this.trans (Zpf h a k f i m c)
theorem Zpx:∀(k:Nat) (l:List (Nat×Nat)),k<=l.length->FwL l->FwL (ZcI k l)
 | 0,_,_,h=>h
 | k + 1, l, a, h => by
   obtain⟨q1,q2,_⟩:=Zpw h k Om;exact Zpx k _ Om q1
theorem ZuV{g:Gq}{r fl:Nat}{ev:Nat->LS.Cl}(o:NOk g.jx)(v:r<g.jx.length)(h:FwL (Zv g r).jq)(i:∀j,((Zv g r).jq.getD j (0,0)).1≠9)(a:C.jq=if 4<=fl then Zch (Zv g r).jq else (Zv g r).jq)(p:C.jj=(Zv g r).jj)(d:EvOk st tm C ev g.jx){f:Nat}(A:C.jq.length<=f):∃k sl,runE st tm C f 0 mq0=some (k,⟨[ev r],sl⟩):=by
 have m:EvOk _ _ { C with jq:=(Zv g r).jq } _ _:=⟨d.con,d.or,d.oth⟩
 obtain⟨sl,k,w⟩:=ZuX (C:={ C with jq:=(Zv g r).jq }) o v rfl p m;have q:FwC { C with jq:=(Zv g r).jq }:=Zjb h i;obtain⟨r0,x⟩:=Zit (st:=st) (tm:=tm) q (Zv g r).jq.length 0 mq0 ((Zv g r).jq.length+k) (by simp) Om;have c:=w (Zv g r).jq.length;rw[x,Zg5 (Yac _)]at c;injection c with c;injection c with _ c;have s:=Zpg (st:=st) (tm:=tm) (Zv g r).jq.length { C with jq:=(Zv g r).jq } (Yac _) h i;have n:=ZsI h
 have t:FwC C/\C.jq.length=(Zv g r).jq.length/\finE st tm C (Zv g r).jq.length 0 mq0=⟨[ev r],sl⟩:=by
  by_cases u:4<=fl
  ·rw[if_pos u]at a;have z:=Zpx _ _ (Yac _) h
   have e:C={ C with jq:=ZcI (Zv g r).jq.length (Zv g r).jq }:=by
    cases C;simp only at a;rw[a];rfl
   refine⟨Zjb (by rwa [a]) (fun j=>by rw[a,n.2.2];exact i j),by rw[a];omega,?_⟩;rw[e];exact(s _ 0 _ (by simp)).trans c
  ·rw[if_neg u]at a
   have e:C={ C with jq:=(Zv g r).jq }:=by
    cases C;simp only at a;rw[a]
   exact⟨Zjb (by rwa [a]) (fun j=>a▸i j),by rw[a],by rwa [e]⟩
 obtain⟨c1,c2,c3⟩:=t;obtain⟨k2,B⟩:=Zit (st:=st) (tm:=tm) c1 (Zv g r).jq.length 0 mq0 f Om Om
 simp_all
end
end Go.Proofs.YtcdgkkfipdoeeaaGreatDoor
namespace Go.Proofs.YtcdgkkfipdoeeaaGreatDoor.LS
open Go Go.RowKit
end Go.Proofs.YtcdgkkfipdoeeaaGreatDoor.LS
namespace Go.Proofs.YtcdgkkfipdoeeaaGreatDoor
open Go.RowKit LS Go.Proofs.Tryz
section
variable {a b l:LB} {n k:Nat}
theorem Zsm(x:LB):(ZO x).length=x.length+2:=by rfl
def insB(x:Nat×Nat):LB:=UInt8.ofNat x.1::digL x.2 2
theorem Zxc(l:List (Nat×Nat)):(l.flatMap insB).length=3*l.length:=by
 induction l with
 | nil=>rfl
 | cons x l ih=>rw[Ycd,Yab,ih,Yaj];unfold insB;rw[Yaj,ZbG];omega
theorem Zvd(l:List Int):(l.flatMap Zb0).length=4*l.length:=by
 induction l with
 | nil=>rfl
 | cons x l ih=>rw[Ycd,Yab,ih,Yaj];unfold Zb0;rw[ZbG];omega
def Ze9(q:CodeQ):List (LB):=q.ju.map ZI++q.jw.map commas
def offQ(q:CodeQ):Nat:=9+4*q.jj.length+((Ze9 q).flatMap ZO).length
structure Shrt (q:CodeQ):Prop where
 c:q.jj.length<65536
 s:q.ju.length<65536
 g:q.jw.length<65536
 i:q.jq.length<65536
 t:∀x∈Ze9 q,x.length<65536
theorem Zuc(q:CodeQ):Z2 q=([103]++digL q.jj.length 2++digL q.ju.length 2++digL q.jw.length 2++digL q.jq.length 2++q.jj.flatMap Zb0)++((Ze9 q).flatMap ZO++q.jq.flatMap insB):=by
 unfold Z2 Ze9;simp only[Yds,List.flatMap_map,Yan];rfl
theorem ZEY(q:CodeQ):∃z,z.length=4/\ZbJ q=([103]++digL q.jj.length 2++digL q.ju.length 2++digL q.jw.length 2++digL q.jq.length 2++q.jj.flatMap Zb0)++((Ze9 q).flatMap ZO++(q.jq.flatMap insB++z)):=
 ⟨digL (sumQ (Z2 q)) 4,ZbG _ _,by unfold ZbJ;rw[Zuc];simp⟩
theorem ZEZ(q:CodeQ):(ZbJ q).length=offQ q+3*q.jq.length+4:=by
 obtain⟨z,c,d⟩:=ZEY q;rw[d];unfold offQ;simp only[Yab,ZbG,Zvd,Zxc,c,Ybj];omega
end
end Go.Proofs.YtcdgkkfipdoeeaaGreatDoor
namespace Go.Proofs.YtcdgkkfipdoeeaaGreatDoor
open Go.RowKit LS Go.Proofs.Tryz
theorem Zyh(l:LB)(j:Nat)(c:UInt8)(r:LB):((lexC l j c r).1.jk=0∨(lexC l j c r).1.jk=5->(lexC l j c r).1.txt=[])/\(¬((lexC l j c r).1.jk=0∨(lexC l j c r).1.jk=5)->(lexC l j c r).1.txt.length+j<=(lexC l j c r).2):=by
 unfold lexC;split
 ·simp only;split
  ·simp_all;omega
  simp
 ·split
  ·simp only;split
   ·simp
   simp_all;omega
  ·split
   ·split
    ·simp
    ·simp only;split
     ·simp_all;omega
     simp
   ·split
    ·simp_all;omega
    ·split
     ·simp_all;omega
     simp
theorem Zyc(l:LB)(i:Nat):((Zk l i).1.jk=0∨(Zk l i).1.jk=5->(Zk l i).1.txt=[])/\(¬((Zk l i).1.jk=0∨(Zk l i).1.jk=5)->(Zk l i).1.txt.length+i<=(Zk l i).2):=by
 unfold Zk;generalize run (fun x=>x == 32) (l.drop i)=k;unfold lexJ;split
 ·simp
 ·rename_i c r _;have h:=Zyh l (i+k) c r
  simp_all;omega
theorem ZqE(l:LB):∀(n i:Nat),i<=l.length->tw (ZN l n i)<=31*(l.length+1 - i)
 | 0,_,_=>Yag _
 | n + 1, i, e => by
   have c:=Zyc l i;have hg:=Zig l i e;unfold ZN;split
   · rename_i a
     have d:=c.1 a;simp only[tw,d,Ybq];omega
   · rename_i a
     have d:=c.2 a;have f:=hg.1 (fun h=>a (.inl h));have g:=ZqE l n _ hg.2;simp only[tw];omega
theorem ZBi{l:LB}{t:Tr}(h:ZD l=.ok t):wT t<=9331:=by
 unfold ZD at h;by_cases c:300<l.length
 ·simp_all
 ·rw[if_neg c]at h;have f:=ZqE l (l.length+1) 0 (Yag _);cases a:Zs (10*(ZN l (l.length+1) 0).length+5) false 0 .nil (ZN l (l.length+1) 0) 0 with
  | error e=>simp_all
  | ok z=>
   obtain⟨t',r⟩:=z;rw[a]at h;have g:=Zfv _ _ _ _ _ _ _ (fun e=>by cases e) a;simp only at h;by_cases d:(hd r).jk=0
   ·rw[if_pos d]at h;by_cases i:Zf t'=0
    ·simp_all
    simp_all;omega
   simp_all
section
variable {g:Gq} {N:Nat}
def TabN(N:Nat)(g:Gq):Prop:=(∀y∈g.kw,ownW y.1<=N)/\∀x∈g.qx,nw x<=N
theorem ZfG(h:TabN N g){z:Nq}:TabN N (addQ z g).2:=by unfold addQ;split <;> exact h
theorem ZC0(h:TabN N g){n:Nat}:TabN N (negQ n g).2:=by unfold negQ;split <;> exact ZfG h
theorem ZC1(h:TabN N g){o x y:Nat}:TabN N (Zbs o x y g).2:=by unfold Zbs;split <;> exact ZfG h
theorem ZsD(h:TabN N g){y:Nd×Nat}(d:ownW y.1<=N):TabN N (ZJ y g).2:=by
 unfold ZJ;split
 ·exact ZfG h
 ·refine ZfG (g:={ g with kw:=g.kw++[y] }) ⟨fun z c=>?_,h.2⟩;rcases Yar.1 c with a|a
  ·exact h.1 z a
  simp_all
theorem ZCZ(h:TabN N g){ns:List (LB)}(c:nw ns<=N):TabN N (Zbd ns g).2:=by
 unfold Zbd;split
 ·exact h
 ·refine⟨h.1,fun z d=>?_⟩;rcases Yar.1 d with a|a
  ·exact h.2 z a
  ·rw[Yap]at a;rw[a];exact Yah (ZhV _) c
theorem Zno:∀(t:Tr) (g:Gq),wT t<=N->TabN N g->TabN N (Zb t g).2
 | .nil,_,_,h=>h
 | .node x y a l r, g, i, h => by
   have j:wT (.node x y a l r)=ownW a+wT l+wT r:=rfl;have k:ownW a=24+a.name.length+cw _+nw _:=rfl
   have d:ownW (Zba a)<=N:=by
     have:ownW (Zba a)<=ownW a:=by unfold ownW Zba;simp[nw]
     omega
   have f:nw a.by_<=N:=by omega
   have c:=fun g h=>Zno l g Om h;have e:=fun g h=>Zno r g Om h;unfold Zb;split
   · exact ZfG h
   · split
     · exact ZsD h d
     · split
       · exact ZfG (ZsD h d)
       · split
         · exact ZC0 (c _ h)
         · split
           · exact ZfG (ZCZ (c _ h) f)
           · simp only
             split
             · exact ZfG (e _ (c _ h))
             · exact ZC1 (e _ (c _ h))
theorem Zla{l:LB}{t:Tr}(h:ZD l=.ok t)(fl:Nat):Shrt (LS.codeOf t fl)/\(LS.codeOf t fl).jq.length<=3110/\0<(LS.codeOf t fl).jq.length:=by
 obtain⟨e,j,f⟩:=Ze2 h;have p:=ZBi h;have s:=Zol e j f fl;have m:CI (Zv (Zb t (g0 fl)).2 (Zb t (g0 fl)).1):=ZhU (fun z c h=>Zk5 _ z c h) (Yac _)
 have n:(LS.codeOf t fl).jq.length=(Zv (Zb t (g0 fl)).2 (Zb t (g0 fl)).1).jq.length:=by
  show(if 4<=fl then Zch _ else _).length=_;split
  ·exact(ZiE _ _ (Zi2 _ _)).2
  ·rfl
 have i:=(Zew t (g0 fl) e).1;have e1:(g0 fl).kw.length=0:=rfl;have e2:(g0 fl).qx.length=0:=rfl;have hT:=Zkj t (g0 fl) e f ⟨fun y a=>(by cases a),fun y a=>(by cases a)⟩;have o:=Zno t (g0 fl) p ⟨fun y a=>(by cases a),fun y a=>(by cases a)⟩;refine⟨⟨?_,?_,?_,by omega,fun x d=>?_⟩,by omega,n▸Zoo _ _⟩
 ·have:(LS.codeOf t _).jj.length<=(Zv _ _).jq.length:=m;omega
 ·have:=i.s1;show(Zb t (g0 fl)).2.kw.length<_;omega
 ·have:=i.r1;show(Zb t (g0 fl)).2.qx.length<_;omega
 ·unfold Ze9 at d;rcases Yar.1 d with d|d
  ·obtain⟨y,a,rfl⟩:=Ybe.1 d;have k:=hT.1 y a;have u:=o.1 y a;have q:=Zfy _ 1 k.wf;rw[Zm5 y k.jk]at q;have r:wT (Zbg y.1)=ownW _:=rfl;unfold ZI;have e10:(10) ^ (9+1)=10000000000:=by decide
   have hd:(decS _).length<=10:=ZhZ 9 y.2 (by rw[e10];have:=k.len;omega);rw[Yab];split
   ·simp_all;omega
   simp_all;omega
  ·obtain⟨y,a,rfl⟩:=Ybe.1 d;have:=o.2 y a;have:=ZeS y;omega
end
end Go.Proofs.YtcdgkkfipdoeeaaGreatDoor
namespace Go.Proofs.YtcdgkkfipdoeeaaGreatDoor
open Go.RowKit LS Go.Proofs.Tryz
theorem Zsn:∀(T:List (LB)),(∀x∈T,x.length<65536)->(T.flatMap ZO).length<=65538*T.length
 | [],_=>Yac _
 | x :: T, h => by
   have c:=h x (Yay ..);have d:=Zsn T (fun y a=>h y (Yam _ a));rw[Ycd,Yab,Zsm,Yaj];omega
theorem ZCa{q:CodeQ}(h:Shrt q):(ZbJ q).length<=100000000000:=by
 have a:=Zsn _ h.t;have d:(Ze9 q).length=q.ju.length+q.jw.length:=by simp[Ze9]
 rw[d]at a;have:=h.c;have:=h.s;have:=h.g;have:=h.i;rw[ZEZ];unfold offQ;omega
theorem Zu0{q r:LB}{fl:Int}{c p:Nat}(h:ZcM q fl=(r,c,p)):r.length<=100000000000:=by
 unfold ZcM at h;cases a:ZD q with
 | error x=>rw[a]at h;simp only[Yc5]at h;rw[<-h.1];exact Yag _
 | ok t=>
  rw[a]at h;simp only at h;split at h
  ·simp only[Yc5]at h;rw[<-h.1];exact Yag _
  ·simp only[Yc5]at h;rw[<-h.1];exact ZCa (Zla a _).1
section
variable {g:Gq} {z:Nq}
theorem Zhr(z:Nq)(g:Gq):(addQ z g).2.jx.getD (addQ z g).1 nq0=z/\(addQ z g).2.fold=g.fold:=by
 by_cases h:g.share=true/\∃i,idxN z g.jx=some i
 ·obtain⟨a,i,c⟩:=h;rw[Zhq a c];exact⟨ZlK c,rfl⟩
 ·have a : g.share = true -> idxN z _ = none := fun a => by
    cases d:idxN z g.jx with
    | none=>rfl
    | some i=>exact absurd ⟨a,i,d⟩ h
  rw[Zgz a];exact⟨by simp,rfl⟩
end
end Go.Proofs.YtcdgkkfipdoeeaaGreatDoor
namespace Go.Proofs.YtcdgkkfipdoeeaaGreatDoor
open Go.RowKit LS Go.Proofs.Tryz
section
variable {g:Gq} {z:Nq}
def N9(g:Gq):Prop:=∀n,opOk (g.jx.getD n nq0).op
theorem Zft(h:N9 g)(c:opOk z.op):N9 (addQ z g).2:=by
 unfold addQ;split
 ·exact h
 ·intro n;show opOk ((g.jx++[z]).getD n nq0).op;rw[Yaa];rcases Yev n g.jx.length with a|a|a
  ·rw[Ybr a,<-Yaa];exact h n
  ·simp_all;omega
  ·rw[Ya9 (by simp;omega)];decide
theorem Zy7(h:N9 g){n:Nat}:N9 (negQ n g).2:=by unfold negQ;split <;> exact Zft h ⟨fun e=>(by cases e),by simp⟩
theorem Zy8(h:N9 g){o x y:Nat}:N9 (Zbs o x y g).2:=by unfold Zbs;split <;> exact Zft h ⟨fun e=>(by cases e),by simp⟩
theorem Zq7(h:N9 g){y:Nd×Nat}:N9 (ZJ y g).2:=by
 unfold ZJ;split
 ·exact Zft h ⟨fun e=>(by cases e),by simp⟩
 ·exact Zft h ⟨fun e=>(by cases e),by simp⟩
theorem Zy6(h:N9 g){ns:List (LB)}:N9 (Zbd ns g).2:=by
 unfold Zbd;split <;> exact h
theorem Zmk:∀(t:Tr) (g:Gq),wfT t->N9 g->N9 (Zb t g).2
 | .nil,_,_,h=>h
 | .node x y a l r, g, d, h => by
   have c:=fun g h=>Zmk l g d.2.2.2.2.2.2.2.2.2.2.1 h;have f:=fun g h=>Zmk r g d.2.2.2.2.2.2.2.2.2.2.2 h;have i:=d.2.2.2.1;unfold Zb;split
   · exact Zft h ⟨fun e=>(by cases e),by simp⟩
   · split
     · exact Zq7 h
     · split
       · exact Zft (Zq7 h) ⟨fun e=>(by cases e),by simp⟩
       · split
         · exact Zy7 (c _ h)
         · split
           · rename_i k5
             have:=i k5;exact Zft (Zy6 (c _ h)) ⟨by simp_all;omega,by simp_all;omega⟩
           · simp only
             split
             · exact Zft (f _ (c _ h)) ⟨fun e=>(by cases e),by simp⟩
             · exact Zy8 (f _ (c _ h))
theorem Zlb{t:Tr}(d:wfT t)(fl:Nat):FwL (Zv (Zb t (g0 fl)).2 (Zb t (g0 fl)).1).jq/\∀j,opOk ((Zv (Zb t (g0 fl)).2 (Zb t (g0 fl)).1).jq.getD j (0,0)).1:=by
 have f:=Zmk t (g0 fl) d (fun n=>by show opOk (([]:List Nq).getD n nq0).op;simp[nq0];decide);have h:=Zjc (jx:=(Zb t (g0 fl)).2.jx) (n:=(Zb t (g0 fl)).1) (W:=Zr _ ((Zb t (g0 fl)).1+1)) (fun c=>Zpv f _ _ c) (c0 (Zb t (g0 fl)).2);have e:(c0 (Zb t (g0 fl)).2).jq.length=0:=rfl;refine⟨fun j a i=>(h.fw j Om a).2 i,fun j=>?_⟩;rcases Yav j (Zv (Zb t (g0 fl)).2 (Zb t (g0 fl)).1).jq.length with a|a
 ·exact(h.fw j Om a).1
 simp_all;omega
theorem ZuQ{t:Tr}(a:wfT t){fl:Nat}(c:4<=fl):Led (LS.codeOf t fl).jq 0/\∀j,opOk ((LS.codeOf t fl).jq.getD j (0,0)).1:=by
 obtain⟨d,f⟩:=Zlb a fl;have e:(LS.codeOf t _).jq=Zch _:=if_pos c;have h:=ZsI d
 simp_all;omega
end
end Go.Proofs.YtcdgkkfipdoeeaaGreatDoor
namespace Go.Proofs.YtcdgkkfipdoeeaaGreatDoor
open Go.RowKit LS Go.Proofs.Tryz
section
variable {jx:List Nq} {W:Nat->Cq->Cq} {c d e:Cq} {n m x y:Nat} {g g1 g2:Gq} {z:Nq}
theorem ZkD(z:Nq)(g:Gq):(∃i,g.share=true/\idxN z g.jx=some i/\addQ z g=(i,g))∨((g.share=true->idxN z g.jx=none)/\addQ z g=(g.jx.length,{ g with jx:=g.jx++[z],uses:=(Zg z).foldl bump (g.uses++[0]) })):=by
 by_cases h:g.share=true/\∃i,idxN z g.jx=some i
 ·obtain⟨a,i,f⟩:=h;exact .inl ⟨i,a,f,Zhq a f⟩
 ·have a : g.share = true -> idxN z _ = none := fun a => by
    cases j:idxN z g.jx with
    | none=>rfl
    | some i=>simp_all
  exact .inr ⟨a,Zgz a⟩
end
end Go.Proofs.YtcdgkkfipdoeeaaGreatDoor
namespace Go.Proofs.YtcdgkkfipdoeeaaGreatDoor
open Go.RowKit LS Go.Proofs.Tryz
section
variable {jx nodes':List Nq} {n m x y i j:Nat} {g g1 g2 k:Gq} {z:Nq}
structure Px (g k:Gq):Prop where
 nd:g.jx <+: k.jx
 se:g.kw <+: k.kw
 gr:g.qx <+: k.qx
 fo:k.fold=g.fold
 sh:k.share=g.share
theorem Px.refl(g:Gq):Px g g:=⟨Ya8 _,Ya8 _,Ya8 _,rfl,rfl⟩
theorem Px.trans(h:Px g g1)(q:Px g1 g2):Px g g2:=⟨h.nd.trans q.nd,h.se.trans q.se,h.gr.trans q.gr,q.fo.trans h.fo,q.sh.trans h.sh⟩
theorem ZcD(z:Nq)(g:Gq):Px g (addQ z g).2:=by
 rcases ZkD z g with ⟨i,_,_,e⟩|⟨_,e⟩
 ·rw[e];exact Px.refl g
 constructor<;>simp_all
theorem Zmo{n:Nat}{g:Gq}:Px g (negQ n g).2:=by unfold negQ;split <;> exact ZcD _ _
theorem ZmG{o x y:Nat}{g:Gq}:Px g (Zbs o x y g).2:=by unfold Zbs;split <;> exact ZcD _ _
theorem ZjW{q:Nd×Nat}{g:Gq}:Px g (ZJ q g).2:=by
 unfold ZJ;split
 ·exact ZcD _ _
 ·exact(show Px g { g with kw:=g.kw++[q] } from⟨Ya8 _,Ydd _ _,Ya8 _,rfl,rfl⟩).trans (ZcD _ _)
theorem ZlF{ns:List (LB)}{g:Gq}:Px g (Zbd ns g).2:=by
 unfold Zbd;split
 ·exact Px.refl g
 constructor<;>simp_all
theorem Zfw:∀(t:Tr) (g:Gq),Px g (Zb t g).2
 | .nil,g=>Px.refl g
 | .node _ _ a l r, g => by
   have c:=Zfw l;have d:=Zfw r;unfold Zb;split
   · exact ZcD _ _
   · split
     · exact ZjW
     · split
       · exact(ZjW).trans (ZcD _ _)
       · split
         · exact(c g).trans (Zmo)
         · split
           · exact((c g).trans (ZlF)).trans (ZcD _ _)
           · simp only
             split
             · exact((c g).trans (d _)).trans (ZcD _ _)
             · exact((c g).trans (d _)).trans (ZmG)
def Cl(jx:List Nq)(W:Nat->Prop):Prop:=∀y,W y->∀t∈Zg (jx.getD y nq0),W t
end
end Go.Proofs.YtcdgkkfipdoeeaaGreatDoor
namespace Go.Proofs.YtcdgkkfipdoeeaaGreatDoor
open Go.RowKit LS Go.Proofs.Tryz
section
variable {st:List Ser} {tm:Int} {F g g1:Gq} {C:CodeQ} {n i j k f:Nat}
def kdQ(F:Gq):Nat->Nat->Nat
 | 0,_=>0
 | f+1,n=>if (F.jx.getD n nq0).op=0 then 1 else if (F.jx.getD n nq0).op=1 then Zb3 (F.kw.getD (F.jx.getD n nq0).arg.toNat nd00)else if (F.jx.getD n nq0).op=4 then kdQ F f ((F.jx.getD n nq0).fs.getD 0)else if (F.jx.getD n nq0).op=3 then (if kdQ F f ((F.jx.getD n nq0).fs.getD 0)=1/\kdQ F f ((F.jx.getD n nq0).sn.getD 0)=1 then 1 else 2)else 2
def kd(F:Gq)(n:Nat):Nat:=kdQ F (n+1) n
def pln(k:Nat):Prop:=k=1∨k=2
abbrev WTc (F:Gq) (P:Nq->Prop):Prop:=(∀v,vOk v->P ⟨0,v,none,none⟩)/\(∀i:Nat,i<F.kw.length->P ⟨1,i,none,none⟩)/\(∀o p:Nat,o<5->kd F p=3->P ⟨2,o,some p,none⟩)/\(∀o a b:Nat,o<4->pln (kd F a)->pln (kd F b)->P ⟨3,o,some a,some b⟩)/\(∀p,pln (kd F p)->P ⟨4,0,some p,none⟩)/\(∀o k p:Nat,o<4->k<F.qx.length->kd F p=2->P ⟨5+o,k,some p,none⟩)/\∀a b,kd F a=2->kd F b=2->P ⟨10,0,some a,some b⟩
def WTn(F:Gq)(z:Nq):Prop:=∀P,WTc F P->P z
theorem wtc(F:Gq):WTc F (WTn F):=⟨fun v a _ k=>k.1 v a,fun v a _ k=>k.2.1 v a,fun v b a c _ k=>k.2.2.1 v b a c,fun o a b c d e _ k=>k.2.2.2.1 o a b c d e,fun v a _ k=>k.2.2.2.2.1 v a,fun o a b c d e _ k=>k.2.2.2.2.2.1 o a b c d e,fun a b c d _ k=>k.2.2.2.2.2.2 a b c d⟩
abbrev WTn.con {F:Gq}:=(wtc F).1
abbrev WTn.pick {F:Gq}:=(wtc F).2.1
abbrev WTn.over {F:Gq}:=(wtc F).2.2.1
abbrev WTn.ar {F:Gq}:=(wtc F).2.2.2.1
abbrev WTn.neg {F:Gq}:=(wtc F).2.2.2.2.1
abbrev WTn.grp {F:Gq}:=(wtc F).2.2.2.2.2.1
abbrev WTn.or {F:Gq}:=(wtc F).2.2.2.2.2.2
theorem WTn.ind{F:Gq}{motive:∀z,WTn F z->Prop}(con:∀v h,motive _ (WTn.con v h))(pick:∀v h,motive _ (WTn.pick v h))(over:∀o p h i,motive _ (WTn.over o p h i))(ar:∀o a b h i j,motive _ (WTn.ar o a b h i j))(neg:∀p h,motive _ (WTn.neg p h))(grp:∀o k p h i j,motive _ (WTn.grp o k p h i j))(or:∀a b h i,motive _ (WTn.or a b h i)){z:Nq}(h:WTn F z):motive z h:=by
 obtain⟨_,k⟩:=h (fun z=>∃h,motive z h) ⟨fun v h=>⟨_,con v h⟩,fun v h=>⟨_,pick v h⟩,fun o p h i=>⟨_,over o p h i⟩,fun o a b h i j=>⟨_,ar o a b h i j⟩,fun p h=>⟨_,neg p h⟩,fun o k p h i j=>⟨_,grp o k p h i j⟩,fun a b h i=>⟨_,or a b h i⟩⟩;exact k
theorem Zes(c:NOk F.jx){a:Nat}(h:(F.jx.getD n nq0).fs=some a):a<n:=Zcf c n a (by unfold Zg;split<;>simp_all)
theorem Zkc(c:NOk F.jx){a b:Nat}(h:(F.jx.getD n nq0).fs=some a)(d:(F.jx.getD n nq0).sn=some b):b<n:=Zcf c n b (by unfold Zg;simp_all)
def At(F:Gq)(n:Nat)(z:Nq):Prop:=F.jx.getD n nq0=z
theorem Zfp{v:Int}(h:At F n ⟨0,v,none,none⟩):kd F n=1:=by unfold At at h;unfold kd kdQ;simp_all
theorem Zjq{i:Nat}(h:At F n ⟨1,(i:Nat),none,none⟩):kd F n=Zb3 (F.kw.getD i nd00):=by unfold At at h;unfold kd kdQ;simp_all
theorem Zl0{o p:Nat}(h:At F n ⟨2,(o:Nat),some p,none⟩):kd F n=2:=by unfold At at h;unfold kd kdQ;simp_all
theorem ZlX{o k p:Nat}(h:At F n ⟨5+o,(k:Nat),some p,none⟩):kd F n=2:=by
 unfold At at h;unfold kd kdQ;rw[h];show(if 5+o=0 then 1 else if 5+o=1 then _ else if 5+o=4 then _ else if 5+o=3 then _ else 2)=2;rw[if_neg Om,if_neg Om,if_neg Om,if_neg Om]
theorem ZlZ{a b:Nat}(h:At F n ⟨10,0,some a,some b⟩):kd F n=2:=by unfold At at h;unfold kd kdQ;simp_all
def WG(F:Gq):Prop:=∀n,n<F.jx.length->WTn F (F.jx.getD n nq0)
theorem ZfQ(a:WG F)(n:Nat):WTn F (F.jx.getD n nq0):=by
 by_cases h:n<F.jx.length
 ·exact a n h
 ·rw[Yaa,Ya9 Om];exact .con 0 ⟨by decide,by decide⟩
theorem Zqc(h:(F.jx.getD n nq0).op=4):kdQ F (f+1) n=kdQ F f ((F.jx.getD n nq0).fs.getD 0):=by rw[kdQ,if_neg Om,if_neg Om,if_pos h]
theorem Zqe(h:(F.jx.getD n nq0).op=3):kdQ F (f+1) n=if kdQ F f ((F.jx.getD n nq0).fs.getD 0)=1/\kdQ F f ((F.jx.getD n nq0).sn.getD 0)=1 then 1 else 2:=by rw[kdQ,if_neg Om,if_neg Om,if_neg Om,if_pos h]
theorem Zqd(a:¬(F.jx.getD n nq0).op=4)(c:¬(F.jx.getD n nq0).op=3):kdQ F (f+1) n=if (F.jx.getD n nq0).op=0 then 1 else if (F.jx.getD n nq0).op=1 then Zb3 (F.kw.getD (F.jx.getD n nq0).arg.toNat nd00)else 2:=by rw[kdQ,if_neg a,if_neg c]
theorem ZgO(c:NOk F.jx):∀(f f' n:Nat),n<f->n<f'->(∀m,m<=n->((F.jx.getD m nq0).op=4->∃a,(F.jx.getD m nq0).fs=some a)/\((F.jx.getD m nq0).op=3->∃a b,(F.jx.getD m nq0).fs=some a/\(F.jx.getD m nq0).sn=some b))->kdQ F f n=kdQ F f' n
 | 0,_,_,h,_,_=>absurd h (Ya1 _)
 | _+1,0,_,_,h,_=>absurd h (Ya1 _)
 | f + 1, f' + 1, n, r, s, o => by
   obtain⟨q4,q3⟩:=o n (Yac _);by_cases e:(F.jx.getD n nq0).op=4
   · obtain⟨a,d⟩:=q4 e
     have:=Zes c d;rw[Zqc e,Zqc e,d];exact ZgO c f _ a Om Om (fun m p=>o m Om)
   · by_cases l:(F.jx.getD n nq0).op=3
     · obtain⟨a,b,d,q⟩:=q3 l
       have:=Zes c d;have:=Zkc c d q;have e1:=ZgO c f f' a Om Om (fun m p=>o m Om);have e2:=ZgO c f f' b Om Om (fun m p=>o m Om);rw[Zqe l,Zqe l,d,q]
       simp_all
     · rw[Zqd e l,Zqd e l]
def Shp(F:Gq)(m:Nat):Prop:=((F.jx.getD m nq0).op=4->∃a,(F.jx.getD m nq0).fs=some a)/\((F.jx.getD m nq0).op=3->∃a b,(F.jx.getD m nq0).fs=some a/\(F.jx.getD m nq0).sn=some b)
theorem Zna(h:WTn F (F.jx.getD n nq0)):Shp F n:=by
 unfold Shp;generalize F.jx.getD n nq0=z at *
 induction h using WTn.ind with
 | con v _=>simp
 | pick i _=>simp
 | over o p _ _=>simp
 | ar o a b _ _ _=>simp
 | neg p _=>simp
 | grp o k p _ _ _=>simp_all;omega
 | or a b _ _=>simp
theorem ZlY(a:NOk F.jx)(c:∀m,m<=n->Shp F m){p:Nat}(h:At F n ⟨4,0,some p,none⟩):kd F n=kd F p:=by
 have d:=Zes a (show(F.jx.getD n _).fs=some p by rw[h]);unfold kd;rw[<-ZgO a n _ p d (Ybd _) (fun m e=>c m Om)]
 conv=>lhs;unfold kdQ
 rw[h];rfl
theorem ZlW(c:NOk F.jx)(d:∀m,m<=n->Shp F m){o a b:Nat}(h:At F n ⟨3,(o:Nat),some a,some b⟩):kd F n=if kd F a=1/\kd F b=1 then 1 else 2:=by
 have e:=Zes c (show(F.jx.getD n _).fs=some a by rw[h]);have l:=Zkc c (show(F.jx.getD n _).fs=some a by rw[h]) (show(F.jx.getD n _).sn=some b by rw[h]);unfold kd;rw[<-ZgO c n _ a e (Ybd _) (fun m p=>d m Om),<-ZgO c n _ b l (Ybd _) (fun m p=>d m Om)]
 conv=>lhs;unfold kdQ
 rw[h];rfl
def evQ(st:List Ser)(tm:Int)(F:Gq):Nat->Nat->LS.Cl
 | 0,_=>.inl (.inr [])
 | f + 1, n => if (F.jx.getD n nq0).op = 0 then .inl (.inl (F.jx.getD n nq0).arg) else if (F.jx.getD n nq0).op = 1 then Zdl st tm (F.kw.getD (F.jx.getD n nq0).arg.toNat nd00)
   else if (F.jx.getD n nq0).op=2 then (match evQ st tm F f ((F.jx.getD n nq0).fs.getD 0)with
     | .inr (a,s)=>.inl (.inr (Zc4 st a (some (F.jx.getD n nq0).arg.toNat) s tm))
     | .inl v=>.inl v)
   else if (F.jx.getD n nq0).op=3 then .inl (Zdg (F.jx.getD n nq0).arg.toNat (LS.valOf (evQ st tm F f ((F.jx.getD n nq0).fs.getD 0))) (LS.valOf (evQ st tm F f ((F.jx.getD n nq0).sn.getD 0))))
   else if (F.jx.getD n nq0).op=4 then .inl (negV (LS.valOf (evQ st tm F f ((F.jx.getD n nq0).fs.getD 0))))
   else if (F.jx.getD n nq0).op=10 then (if (Zcm (LS.valOf (evQ st tm F f ((F.jx.getD n nq0).fs.getD 0)))).isEmpty then evQ st tm F f ((F.jx.getD n nq0).sn.getD 0)else evQ st tm F f ((F.jx.getD n nq0).fs.getD 0))
   else .inl (.inr (Zcv ((F.jx.getD n nq0).op - 5) (F.qx.getD (F.jx.getD n nq0).arg.toNat []) (Zcm (LS.valOf (evQ st tm F f ((F.jx.getD n nq0).fs.getD 0))))))
def ev(st:List Ser)(tm:Int)(F:Gq)(n:Nat):LS.Cl:=evQ st tm F (n+1) n
theorem Zo3(d:NOk F.jx)(e:WG F):∀(f f' n:Nat),n<f->n<f'->evQ st tm F f n=evQ st tm F f' n
 | 0,_,_,h,_=>absurd h (Ya1 _)
 | _+1,0,_,_,h=>absurd h (Ya1 _)
 | f + 1, f' + 1, n, m, q => by
   have c:=Zcf d n;have IH:=fun a (r:a<n)=>Zo3 d e f f' a Om Om;unfold evQ;have l:=ZfQ e n;generalize F.jx.getD n nq0=z at *
   cases l using WTn.ind with
   | con v _=>rfl
   | pick i _=>rfl
   | over o p _ _=>simp only[Ya6];rw[IH p (c p (by simp[Zg]))];rfl
   | ar o a b _ _ _=>simp only[Ya6];rw[IH a (c a (by simp[Zg])),IH b (c b (by simp[Zg]))]
   | neg p _=>simp only[Ya6];rw[IH p (c p (by simp[Zg]))];rfl
   | grp o k p s _ _=>
     have e0:¬5+o=0:=by omega
     have e1:¬5+o=1:=by omega
     have e2:¬5+o=2:=by omega
     have e3:¬5+o=3:=by omega
     have e4:¬5+o=4:=by omega
     have e10:¬5+o=10:=by omega
     simp only[Ya6,if_neg e0,if_neg e1,if_neg e2,if_neg e3,if_neg e4,if_neg e10];rw[IH p (c p (by simp[Zg]))]
   | or a b _ _=>simp only[Ya6];rw[IH a (c a (by simp[Zg])),IH b (c b (by simp[Zg]))]
theorem Zf0(c:NOk F.jx)(d:WG F){a:Nat}(e:a<n):evQ st tm F n a=ev st tm F a:=Zo3 c d n _ a e (Ybd _)
theorem Zf1{v:Int}(h:At F n ⟨0,v,none,none⟩):ev st tm F n=.inl (.inl v):=by unfold At at h;unfold ev evQ;simp_all
theorem Zlv{i:Nat}(h:At F n ⟨1,(i:Nat),none,none⟩):ev st tm F n=Zdl st tm (F.kw.getD i nd00):=by unfold At at h;unfold ev evQ;simp_all
theorem Zo7 (c : NOk F.jx) (d : WG F) {o p : Nat} (h : At F n ⟨2, (o : Nat), some p, none⟩) : ev st tm F n = (match ev st tm F p with | .inr (a, s) => .inl (.inr (Zc4 st a (some o) s tm)) | .inl v => .inl v) := by
  have e:=Zes c (show(F.jx.getD n _).fs=some p by rw[h]);rw[<-Zf0 c d e];unfold At at h
  conv=>lhs;unfold ev evQ
  simp_all
theorem Zo2(c:NOk F.jx)(d:WG F){o a b:Nat}(h:At F n ⟨3,(o:Nat),some a,some b⟩):ev st tm F n=.inl (Zdg o (LS.valOf (ev st tm F a)) (LS.valOf (ev st tm F b))):=by
 have e:=Zes c (show(F.jx.getD n _).fs=some a by rw[h]);have l:=Zkc c (show(F.jx.getD n _).fs=some a by rw[h]) (show(F.jx.getD n _).sn=some b by rw[h]);rw[<-Zf0 c d e,<-Zf0 c d l];unfold At at h
 conv=>lhs;unfold ev evQ
 simp_all
theorem Zo5(a:NOk F.jx)(c:WG F){p:Nat}(h:At F n ⟨4,0,some p,none⟩):ev st tm F n=.inl (negV (LS.valOf (ev st tm F p))):=by
 have d:=Zes a (show(F.jx.getD n _).fs=some p by rw[h]);rw[<-Zf0 a c d];unfold At at h
 conv=>lhs;unfold ev evQ
 simp_all
theorem Zo6(c:NOk F.jx)(d:WG F){a b:Nat}(h:At F n ⟨10,0,some a,some b⟩):ev st tm F n=if (Zcm (LS.valOf (ev st tm F a))).isEmpty then ev st tm F b else ev st tm F a:=by
 have e:=Zes c (show(F.jx.getD n _).fs=some a by rw[h]);have l:=Zkc c (show(F.jx.getD n _).fs=some a by rw[h]) (show(F.jx.getD n _).sn=some b by rw[h]);rw[<-Zf0 c d e,<-Zf0 c d l];unfold At at h
 conv=>lhs;unfold ev evQ
 simp_all
theorem Zo4(a:NOk F.jx)(c:WG F){o k p:Nat}(h:At F n ⟨5+o,(k:Nat),some p,none⟩)(e:o<4):ev st tm F n=.inl (.inr (Zcv o (F.qx.getD k []) (Zcm (LS.valOf (ev st tm F p))))):=by
 have d:=Zes a (show(F.jx.getD n _).fs=some p by rw[h]);rw[<-Zf0 a c d];unfold At at h
 conv=>lhs;unfold ev evQ
 rw[h];simp only[Ya6];rw[if_neg Om,if_neg Om,if_neg Om,if_neg Om,if_neg Om,if_neg Om,Nat.add_sub_cancel_left];rfl
theorem ZvR(e:NOk F.jx)(l:WG F)(t:C.ju=F.kw)(hg:C.jw=F.qx):EvOk st tm C (ev st tm F) F.jx:=by
 refine⟨fun n m=>?_,fun n a b c r s=>?_,fun n w m c=>?_⟩
 ·have q:=ZfQ l n;generalize d:F.jx.getD n nq0=z at *
  cases q using WTn.ind with
  | con v _=>exact⟨rfl,Zf1 d⟩
  | pick i _=>cases m
  | over o p _ _=>cases m
  | ar o a b _ _ _=>cases m
  | neg p _=>cases m
  | grp o k p _ _ _=>simp_all
  | or a b _ _=>cases m
 ·have q:=ZfQ l n;generalize d:F.jx.getD n nq0=z at *
  cases q using WTn.ind with
  | or a' b' _ _=>
   injection r with r;injection s with s;subst r;subst s;exact Zo6 e l d
  | con v _=>cases c
  | pick i _=>cases c
  | over o p _ _=>cases c
  | ar o a b _ _ _=>cases c
  | neg p _=>cases c
  | grp o k p _ _ _=>simp_all
 ·have q:=ZfQ l n;generalize d:F.jx.getD n nq0=z at *
  cases q using WTn.ind with
  | con v _=>simp_all
  | pick i _=>
   refine⟨fun h=>(by cases h),fun S sl=>?_⟩;rw[Zlv d,<-t];rfl
  | over o p _ _=>
   refine⟨fun h=>(by cases h),fun S sl=>?_⟩;rw[Zo7 e l d];show doE st tm C (2,o) ⟨ev st tm F p::S,sl⟩=_;cases ev st tm F p <;> rfl
  | ar o a b _ _ _=>
   refine⟨fun h=>(by cases h),fun S sl=>?_⟩;rw[Zo2 e l d];rfl
  | neg p _=>
   refine⟨fun h=>(by cases h),fun S sl=>?_⟩;rw[Zo5 e l d];rfl
  | grp o k p u _ _=>
   refine⟨by simp_all;omega,fun S sl=>?_⟩;rw[Zo4 e l d u,<-hg];show doE st tm C (5+o,k) ⟨ev st tm F p::S,sl⟩=_;obtain rfl|rfl|rfl|rfl:o=0∨o=1∨o=2∨o=3:=by omega
   all_goals rfl
  | or a b _ _=>simp_all
end
end Go.Proofs.YtcdgkkfipdoeeaaGreatDoor
