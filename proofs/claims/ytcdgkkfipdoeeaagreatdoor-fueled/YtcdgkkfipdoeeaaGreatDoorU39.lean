/- Parts. -/
import Derived.Test.YtcdgkkfipdoeeaaGreatDoorU38
import Derived.Test.YtcdgkkfipdoeeaaGreatDoorU34
set_option linter.all false
set_option maxRecDepth 100000
set_option maxHeartbeats 16000000
namespace Go.Proofs.YtcdgkkfipdoeeaaGreatDoor
open Go.RowKit LS Go.Proofs.Tryz
section
variable {w0 w w' w1 w2:World} {v:Value} {l:LB}
structure CodeOk (q:CodeQ):Prop where
 c:q.jj.length<=1000000
 s:q.ju.length<=400000
 g:q.jw.length<=400000
 i:q.jq.length<=1000000
 sw:∀y∈q.ju,SelW y
 gw:∀x∈q.jw,nw x<=100000
theorem WrS.new(w:World)(b:UInt8):WrS w (w.alloc (.cells #[u8V b] 5)) (.slice (some ⟨w.heap.size,0,none⟩) 1 1) [b]:=⟨World.ownsRow_lit w _ 1 (Yac _) (by unfold maxLen;omega) rfl,Zbal⟩
theorem Zh3{α:Type}(f:α->LB)(l:List α)(k:Nat)(h:k<l.length):(l.take (k+1)).flatMap f=(l.take k).flatMap f++f l[k]:=by
 rw[List.take_succ_eq_append_getElem h,List.flatMap_append];simp
theorem ZcK.at:∀ {a:List SelC} {b:List (Nd×Nat)},ZcK w a b->∀(k:Nat) (c:k<a.length) (d:k<b.length),Zeg w a[k] b[k]
 | [],[],_,_,c,_=>absurd c (Ya1 _)
 | _::_,_::_,h,0,_,_=>h.1
 | _::_,_::_,h,k+1,c,d=>ZcK.at h.2 k _ _
theorem ZbK.at:∀ {a:List RowC} {b:List (List (LB))},ZbK w a b->∀(k:Nat) (c:k<a.length) (d:k<b.length),Zbm w (rowV a[k]) b[k]
 | [],[],_,_,c,_=>absurd c (Ya1 _)
 | _::_,_::_,h,0,_,_=>h.1
 | _::_,_::_,h,k+1,c,d=>ZbK.at h.2 k _ _
theorem Zvu{n:Nat}(h:n<=1000000):((n:Int) % 4294967296).toNat=n:=by omega
theorem ZjA(l:LB)(n k:Nat):(l++digL n k).length=l.length+k:=by rw[Yab,ZbG]
theorem Zil{B n c:Nat}{e:TypeId}{sz:Nat}{a:Option Addr}{xs:List Value}(h:w.ownsRow B e sz (.slice a n c) n xs)(d:0<n):∃b,a=some ⟨b,0,none⟩:=by
 obtain⟨b,c',e⟩:=ZF h d;injection e with e _ _;exact⟨b,e⟩
theorem WrS.conv{a:Option Addr}{n c:Nat}(h:WrS w0 w (.slice a n c) l)(d:0<n):n=l.length/\(convert 87 9 (.slice a n c)).run prog w=.ok (.string ⟨l.toArray⟩) w:=by
 obtain⟨a2,c2,e⟩:=h.shape;injection e with _ e2 _;subst e2;obtain⟨b,rfl⟩:=Zil h.row d;refine⟨rfl,run_convert_bytes_back _ _ _ 5 _ c l underlying87 underlying5 underlying9 ?_⟩;intro j g;have f:w.cell? _=some (.int _ _):=Zi h.row j _ (by rw[Ya2,List.getElem?_eq_getElem g];rfl);by_cases d:j=0
 ·subst d;exact f
 ·simpa [Addr.add,d] using f
theorem Zvw(n:Nat):digL ((n:Int) % 4294967296).toNat 2=digL n 2:=by
 rw[show((n:Int) % 4294967296).toNat=n % 4294967296 by omega];simp only[digL,Ycu,Yby];rw[show n % 4294967296 / 256 % 256=n / 256 % 256 by omega,show n % 4294967296 % 256=n % 256 by omega]
theorem ZzJ(n:Nat):u8V (UInt8.ofNat n)=.int .u8 ((n:Int) % 256):=by
 show Value.int .u8 ((UInt8.ofNat n).toNat:Int)=_;rw[UInt8.toNat_ofNat']
 congr 1
theorem Zw2(a b c d:Nat)(k:Nat)(e:k<4)(W:World):(Instr.index 153 (.agg #[Vi a,Vi b,Vi c,Vi d]) (Vi k)).run prog W=.ok (Vi (([a,b,c,d].getD k 0:Nat):Int)) W:=by
 rcases(by omega:k=0∨k=1∨k=2∨k=3)with rfl|rfl|rfl|rfl <;> simp[Instr.index,run_underlying _,asIntOf,go_sem]
theorem ZEE{B:Nat}{w:World}{cv sv rv iv:Value}{sl:List SelC}{rl:List RowC}{q:CodeQ}(h:CodeW B w cv sv rv iv sl rl q)(ho:CodeOk q)(ht:ZR w)(hB:20<=w.heap.size) :
  CP 36 #[.agg #[cv,sv,rv,iv]] w fun e w'=>∃r:BA,e=.returned (.string r)/\Hid (bl r=ZbJ q)/\BW w w':=by
 obtain⟨ca,cc,rfl⟩:=Zl h.cons;obtain⟨sa,sc,rfl⟩:=Zl h.sel;obtain⟨ra,rc,rfl⟩:=Zl h.grp;obtain⟨ia,ic,rfl⟩:=Zl h.jq;have HO:=hid ho;have hc:=ho.c;have hs:=ho.s;have hg:=ho.g;have hi:=ho.i;obtain⟨nc,Y⟩:∃nc,nc=q.jj.length:=⟨_,rfl⟩
 obtain⟨ns,Z⟩:∃ns,ns=q.ju.length:=⟨_,rfl⟩
 obtain⟨ng,a0⟩:∃ng,ng=q.jw.length:=⟨_,rfl⟩
 obtain⟨ni,a1⟩:∃ni,ni=q.jq.length:=⟨_,rfl⟩
 have a2:=hid Y;have a3:=hid Z;have a4:=hid a0;have b3:=hid a1;have HW:Hid (CodeW B w (.slice ca nc cc) (.slice sa ns sc) (.slice ra ng rc) (.slice ia ni ic) sl rl q):=by rwa [Y,Z,a0,a1]
 have HT:=hid ht;have c4:=hid hB;rw[<-Y]at hc ⊢;rw[<-Z]at hs ⊢;rw[<-a0]at hg ⊢;rw[<-a1]at hi ⊢;clear h ho Y Z a0 a1 ht hB;go_enter func36,ntmps36
 go_upto_region 1 with fail
 refine ZP fun O b4=>?_;have c6:BW w O:=b4▸belB;have b5:Hid (BAt _ _ _ 59):=b4▸(show BAt _ _ _ _ from bnw);have a6:=hid c6;obtain⟨qb,c8⟩:∃qb,qb=w.heap.size:=⟨_,rfl⟩
 rw[<-c8]at b5 ⊢;clear b4 c6 c8
 go_upto_region 2 with fail
 refine ZP fun W1 c9=>?_;have H1:Hid (WrS _ _ (.slice (some _) 1 1) _):=c9▸WrS.new O 103;generalize Value.slice (some ⟨O.heap.size,0,none⟩) 1 1=t0 at *
 clear c9
 have P : Hid (∀ {W : World} {v : Value} {l : List _}, WrS _ W v l -> W.cell? _ = some _ /\ W.cell? _ = some _ /\ W.cell? _ = some _ /\ W.cell? _ = some _) := hid (fun h => by
   have hx:=b5.below h.bel;exact⟨hx.cell 0,hx.cell 1,hx.cell 2,hx.cell 3⟩)
 have Q:Hid (∀ {W:World} {v:Value} {l:List _},WrS _ W v l->qb<W.heap.size):=hid (fun h=>(b5.below h.bel).lt);obtain⟨x0,x1,x2,x3⟩:=P H1;have C:=Q H1;go_wp2
 go_loopw [3,28] (fun tv iv wr=>∃(k:Nat) (cur:LB),k<=4/\iv=Vi k/\Hid (WrS O wr tv cur)/\Hid (cur=[103]++([nc,ns,ng,ni].take k).flatMap (fun n=>digL n 2))/\Hid (cur.length=1+2*k)) (fun _ iv _=>4 - (intOf iv).toNat)
 case atStart=>exact⟨0,[103],by omega,rfl,H1,hid rfl,hid rfl⟩
 case round=>
  obtain⟨k,cur,hk,rfl,R,t,p⟩:=hrel;by_cases H:k<4
  ·have i3:=Zw2 nc ns ng ni k H;have L:Hid (([nc,ns,ng,ni].take (k+1)).flatMap (fun n=>digL n 2)=([nc,ns,ng,ni].take k).flatMap (fun n=>digL n 2)++digL ([nc,ns,ng,ni].getD k 0) 2):=by rw[Zh3 _ [nc,ns,ng,ni] k H];rcases(by omega:k=0∨k=1∨k=2∨k=3)with rfl|rfl|rfl|rfl <;> rfl
   have hx:[nc,ns,ng,ni].getD k 0<=1000000:=by rcases(by omega:k=0∨k=1∨k=2∨k=3)with rfl|rfl|rfl|rfl <;> simp <;> omega
   generalize[nc,ns,ng,ni].getD k 0=x at *
   go_wp2_with fail
   refine(Zhu R _ 2 Dc (by have:=p.out;omega)).mono ?_;rintro e w2 ⟨v2,rfl,H2,_⟩;rw[Zvu hx]at H2;go_wp2
   go_roundw
   case rel=>exact⟨k+1,_,by omega,by go_num,H2,hid (by rw[t,L,Yan]),hid (by rw[ZjA,p];omega)⟩
   case measure=>simp[intOf];omega
  ·have d0:Hid (k=4):=hid Om;have e7:Hid (cur=[103]++digL nc 2++digL ns 2++digL ng 2++digL ni 2):=hid (by rw[t,d0];simp);have d1:Hid (cur.length=9):=hid (by rw[p,d0]);clear t p H1 x0 x1 x2 x3 C;generalize u3=t1 at *
   obtain⟨x0,x1,x2,x3⟩:=P R;have C:=Q R
   have S : Hid (∀ {W : World} {v : Value} {l : List _}, WrS _ W v l -> CodeW B W _ _ _ _ _ _ q /\ ZR W /\ 20 <= W.heap.size) := hid (fun h => by
     have hb:=a6.trans (h.bel.mono a6.size);exact⟨HW.below hb,HT.low hb c4,Yah c4 hb.size⟩)
   go_wp2
   go_loopw [3,38] (fun tv iv wr=>∃(k:Nat) (cu:LB),k<=nc/\iv=Vi k/\Hid (WrS O wr tv cu)/\Hid (cu=cur++(q.jj.take k).flatMap Zb0)/\Hid (cu.length<=9+4*k)) (fun _ iv _=>nc - (intOf iv).toNat)
   case atStart=>exact⟨0,cur,Yag _,rfl,R,hid (by simp),hid (Ydh d1.out)⟩
   case round=>
    obtain⟨k,cu,hk,rfl,D,t,p⟩:=hrel;by_cases H:k<nc
    ·have f:k<q.jj.length:=by rw[<-a2.out];exact H
     have a:=(S.out D.out).1.cons;rw[<-a2.out]at a;obtain⟨cb,e8⟩:=Zil a Om;subst e8;have i1:=Zi a k _ (by rw[Ya2,List.getElem?_eq_getElem f];rfl);have L:=hid (Zh3 Zb0 _ k f);have b6:(k:Int)<nc:=by omega
     generalize q.jj[k]=z at *
     clear a
     go_wp2_with fail
     refine(Zhu D z 4 Dc (by have:=p.out;omega)).mono ?_;rintro e w2 ⟨v2,rfl,H2,_⟩;go_wp2
     go_roundw
     case rel=>exact⟨k+1,_,by omega,by go_num,H2,hid (by rw[t,L,Yan];rfl),hid (by rw[ZjA];have:=p.out;omega)⟩
     case measure=>simp[intOf];omega
    ·obtain rfl:k=nc:=by omega
     have e9:Hid (cu=cur++q.jj.flatMap _):=hid (by rw[t,a2,Ya4]);have d2:Hid (cu.length<=4000009):=hid (by have:=p.out;omega);clear t p x0 x1 x2 x3 C R d1;generalize u3=t2 at *
     obtain⟨x0,x1,x2,x3⟩:=P D;have C:=Q D;go_wp2
     go_loopw [3,49] (fun tv iv wr=>∃(k:Nat) (ct:LB),k<=ns/\iv=Vi k/\Hid (WrS O wr tv ct)/\Hid (ct=cu++(q.ju.take k).flatMap (fun x=>ZO (ZI x)))/\Hid (ct.length<=4000009+200002*k)) (fun _ iv _=>ns - (intOf iv).toNat)
     case atStart=>exact⟨0,cu,Yag _,rfl,D,hid (by simp),d2⟩
     case round=>
      obtain⟨k,ct,hk,rfl,E,t,p⟩:=hrel;by_cases H:k<ns
      ·have f:k<q.ju.length:=by rwa [<-a3.out]
       have A:=(S.out E.out)
       have T:k<sl.length:=by rw[A.1.sok.len];exact f
       have a:=A.1.sel;rw[<-a3.out]at a;obtain⟨sb,f0⟩:=Zil a Om;subst f0;have a8:=fun j hj=>ZgL ZfB 3 (fun _=>rfl) _ k j T hj;have y0:=Zi a (k*3) _ (a8 0 Dc);have y1:=Zi a _ _ (a8 1 Dc);have y2:=Zi a _ _ (a8 2 Dc);have U:=Z1 a;have b7:=hid (A.1.sok.at k T f);have i4:=hid A.2;have f1:=hid (HO.sw _ (List.getElem_mem f));have L:=hid (Zh3 (fun x=>ZO (ZI x)) _ k f);have b6:(k:Int)<ns:=by omega
       generalize q.ju[k]=y at *
       generalize sl[k]=s at *
       clear a a8 A
       go_wp2_with fail
       refine Zm fun W hW=>?_;have M:BW wr W:=hW▸belB;have N:=hid (E.below M);have e5:Hid (Zeg W s y):=hid ⟨b7.1,b7.2.1.below M,b7.2.2⟩;have b8:=hid (S N).2;clear hW M y0 y1 y2 U;refine(Zr8 W s y e5 f1 b8.1 b8.2).mono ?_;rintro e w2 ⟨r,rfl,HR,d3,V⟩;have b9:=hid (N.below V);clear V
       go_wp2_with fail
       refine(ZnS b9 r (by have:=d3.out;omega) (by have:=p.out;omega)).mono ?_;rintro e w3 ⟨v3,rfl,H3⟩;rw[HR]at H3;go_wp2
       go_roundw
       case rel => exact ⟨k + 1, _, by omega, by go_num, H3, hid (by rw [t, L, Yan]), hid (by
         have h1:(ZO (ZI y)).length<=200002:=by
           unfold ZO;rw[Yab,ZbG,<-HR,Zd];have:=d3.out;omega
         rw[Yab];have:=p.out;omega)⟩
       case measure=>simp[intOf];omega
      ·obtain rfl:k=ns:=by omega
       have f2:Hid (ct=cu++q.ju.flatMap _):=hid (by rw[t,a3,Ya4]);have d4:Hid (ct.length<=90000000000):=hid (by have:=p.out;omega);clear t p x0 x1 x2 x3 C D d2;generalize u3=t3 at *
       obtain⟨x0,x1,x2,x3⟩:=P E;have C:=Q E;go_wp2
       go_loopw [3,61] (fun tv iv wr=>∃(k:Nat) (cg:LB),k<=ng/\iv=Vi k/\Hid (WrS O wr tv cg)/\Hid (cg=ct++(q.jw.take k).flatMap (fun x=>ZO (commas x)))/\Hid (cg.length<=90000000000+100002*k)) (fun _ iv _=>ng - (intOf iv).toNat)
       case atStart=>exact⟨0,ct,Yag _,rfl,E,hid (by simp),d4⟩
       case round=>
        obtain⟨k,cg,hk,rfl,F,t,p⟩:=hrel;by_cases H:k<ng
        ·have f:k<q.jw.length:=by rwa [<-a4.out]
         have A:=(S F).1;have T:k<rl.length:=by rw[A.gok.len];exact f
         have a:=A.grp;rw[<-a4.out]at a;obtain⟨rb,f3⟩:=Zil a Om;subst f3;have y0:wr.cell? _=some (.slice _ _ _):=Zi a k _ (by rw[Ya2,List.getElem?_eq_getElem T];rfl);have U:=Z1 a;have f4:Hid (Zbm _ (.slice _ _ _) _):=hid (A.gok.at k T f);have d5:=hid (HO.gw _ (List.getElem_mem f));have L:=hid (Zh3 (fun x=>ZO (commas x)) _ k f);have b6:(k:Int)<ng:=by omega
         generalize q.jw[k]=y at *
         generalize rl[k]=s at *
         clear a A
         go_wp2_with fail
         refine(ZlV _ _ _ y f4 (by have:=d5.out;omega)).mono ?_;rintro e w2 ⟨r,rfl,HR,V⟩;have i5:r.size<=100000:=ZU HR.out▸Yah (ZeS _) d5.out;have b9:=hid (F.below V);clear V y0 U
         go_wp2_with fail
         refine(ZnS b9 r Om (by have:=p.out;omega)).mono ?_;rintro e w3 ⟨v3,rfl,H3⟩;have d6:Hid ((ZO (bl r)).length<=100002):=hid (by unfold ZO;rw[Yab,ZbG,Zd];omega);rw[HR]at H3 d6;go_wp2
         go_roundw
         case rel=>exact⟨k+1,_,by omega,by go_num,H3,hid (by rw[t,L,Yan]),hid (by rw[Yab];have:=p.out;have:=d6.out;omega)⟩
         case measure=>simp[intOf];omega
        ·obtain rfl:k=ng:=by omega
         have f5:Hid (cg=ct++q.jw.flatMap _):=hid (by rw[t,a4,Ya4]);have c1:Hid (cg.length<=140000000000):=hid (by have:=p.out;omega);clear t p x0 x1 x2 x3 C E d4;generalize u3=t4 at *
         obtain⟨x0,x1,x2,x3⟩:=P F;have C:=Q F;go_wp2
         go_loopw [3,73] (fun tv iv wr=>∃(k:Nat) (ci:LB),k<=ni/\iv=Vi k/\Hid (WrS O wr tv ci)/\Hid (ci=cg++(q.jq.take k).flatMap (fun x=>UInt8.ofNat x.1::digL x.2 2))/\Hid (ci.length=cg.length+3*k)) (fun _ iv _=>ni - (intOf iv).toNat)
         case atStart=>exact⟨0,cg,Yag _,rfl,F,hid (by simp),hid rfl⟩
         case round=>
          obtain⟨k,ci,hk,rfl,G,t,p⟩:=hrel;by_cases H:k<ni
          ·have f:k<q.jq.length:=by rwa [<-b3.out]
           have a:=(S.out G.out).1.jq;rw[<-b3.out]at a;obtain⟨ib,f6⟩:=Zil a Om;subst f6;obtain⟨y0,y1⟩:=ZmA a f;rw[Yaa,List.getElem?_eq_getElem f,Ya6]at y0 y1;have U:=Z1 a;have L:=hid (Zh3 (fun x:Nat×Nat=>UInt8.ofNat x.1::digL x.2 2) _ k f);have b6:(k:Int)<ni:=by omega
           generalize q.jq[k]=y at *
           obtain⟨op,arg⟩:=y;simp only at y0 y1 L;clear a
           go_upto_region 25 with fail
           refine ZP fun W hW=>?_;have M:BW wr W:=hW▸belB;have X:Hid (BAt W _ _ 159):=hW▸(show BAt _ _ _ _ from bnw);have N:=hid ((G.below M).below (Yaf _ _).drew);obtain⟨tb,d7⟩:∃tb,tb=wr.heap.size:=⟨_,rfl⟩
           rw[<-d7]at X ⊢;clear hW M y0 y1 U d7;refine Zbn 9 (fun w'=>w'.cell? _=some _/\w'.cell? _=some _) Kr ⟨X.cell 0,X.cell 1⟩ (fun d=>?_);refine Za 0 d (h:=?_);refine Za 1 d (h:=?_);refine Za 2 d (h:=?_);refine Za 3 d (h:=?_);refine Za 6 d (h:=?_);refine Za 7 d (h:=?_);have d8:Hid (BAt W.drew _ _ _):=X;generalize W.drew=W2 at *
           clear X;have a:=N.row;have i6:=N.bel.size;obtain⟨m,hm⟩:∃m,m=ci.length:=⟨_,rfl⟩
           have HM:=hid hm;rw[<-hm]at a;have i7:m<=150000000000:=by rw[hm];have:=p.out;have:=c1.out;omega
           have f7 : Hid (∀ e, u3.ownBlock = some e -> tb ≠ e) := hid (fun e he h => by
             obtain⟨_,_,h4⟩:=Zcw a he;subst h;exact absurd (Zc7 d8 h4) Dc)
           have HA:Hid (∀o,(W2.alloc o).ownsRow _ 5 1 _ m _):=hid (fun o=>a.alloc _);have a9:Hid (∀o,BAt (W2.alloc o) _ _ _):=hid (fun o=>d8.below Zbal);clear a hm;obtain⟨i0,f8,f9,g1,g2⟩:=info_parts ZiY;refine Z4 (i:=4) Kr rfl (fun K I=>?_);go_simp;refine I _ _ ⟨(a9 _).cell 0,(a9 _).cell 1⟩ (fun d=>?_);clear I K
           try simp only[Act.put,Zset]
           refine Z4 (i:=5) Kr rfl (fun K I=>?_);refine ZfF rfl _ _ _ rfl _ 5 _ _ 1 1 underlying87 f8 f9 g1 g2 rfl Dc _ m _ (by simp[Act.eval]) (HA _) _ 1 1 [.int _ ((op) % 256)] (by simp[Act.eval]) rfl (cell_one_new _ _ _) ?h3 ?h4 ?h5 ?h6 ?_
           case h3=>intro u hu;rw[Yap]at hu;subst hu;rfl
           case h4=>unfold maxLen;omega
           case h5=>omega
           case h6=>simp;omega
           intro v1 w4 b0 J _;have d9:=(a9 _).grown J (fun e=>f7 _ e.symm rfl);have c2:=hid d9
           have g3:Hid (WrS _ _ _ (ci++[UInt8.ofNat _])):=hid (N.grow Zbal (by
            rw[Yab,Yaq,<-HM];show w4.ownsRow _ _ _ _ (m+1) (_++[u8V (UInt8.ofNat op)]);rw[ZzJ];exact b0) J)
           have e6:Hid ((ci++[UInt8.ofNat op]).length<=150000000001):=hid (by rw[Yab,<-HM];simp;omega);clear b0 J d9 a9 HA;refine I _ _ ⟨c2.cell 0,c2.cell 1⟩ (fun d=>?_);clear I K
           try simp only[Act.put]
           refine Z4 (i:=8) Kr rfl (fun K I=>?_);go_simp;refine(Zhu g3 _ 2 Dc (by have:=e6.out;omega)).mono ?_;rintro e w5 ⟨v5,rfl,H5,g4⟩;rw[Zvw]at H5
           have e0:Hid (w5.cell? ⟨tb,0,none⟩=some (Vi op)/\w5.cell? ⟨tb,1,none⟩=some (Vi arg)):=by
            have:=g4.bat c2 Dc;exact⟨this.cell 0,this.cell 1⟩
           go_simp;refine I _ _ e0 (fun d=>?_);clear I K
           try simp only[Act.put]
           refine Zbl Kr Kr rfl Kr (fun K I=>?_);go_simp;refine I _ _ ?_;clear I K d e0;go_wp2
           go_roundw
           case rel=>exact⟨k+1,_,by omega,by go_num,H5,hid (by rw[t,L];simp),hid (by rw[ZjA,Yab,p];simp;omega)⟩
           case measure=>simp[intOf];omega
          ·obtain rfl:k=ni:=by omega
           have b1:Hid (ci=Z2 q):=hid (by
            unfold Z2;rw[t,f5,f2,e9,e7,b3,Ya4,a2,a3,a4])
           have b2:Hid (0<ci.length/\ci.length<=150000000000):=hid (by
            have h1:=p.out;have h2:=c1.out;have h3:0<ci.length:=by rw[b1];unfold Z2;simp
            omega)
           clear t p x0 x1 x2 x3 C F c1;generalize u3=t5 at *
           obtain⟨a5,c5,h5⟩:=G.shape;subst h5;obtain⟨n5,c3⟩:∃n5,n5=ci.length:=⟨_,rfl⟩
           rw[<-c3]at G b2 ⊢;obtain⟨g5,i8⟩:=G.conv b2.1
           have e1:(ByteArray.mk ci.toArray).size<=maxLen:=by
            show ci.toArray.size<=maxLen;rw[Yb5];have:=b2.out;unfold maxLen;omega
           have g6:=hid e1;have g7:=hid c3;clear g5 c3 e1
           go_wp2_with fail
           refine(Zru _ _ g6).mono ?_;rintro e w6 ⟨rfl,rfl⟩;have e2:Hid (sumQ (bl ⟨ci.toArray⟩)=sumQ _):=hid (by rw[ZbF,b1]);have hq:=Znn (bl ⟨ci.toArray⟩);rw[e2]at hq ⊢;obtain⟨z,hz⟩:∃z,z=sumQ (Z2 q):=⟨_,rfl⟩
           have HZ:=hid hz;rw[<-hz]at hq ⊢;clear hz e2
           go_wp2_with fail
           refine(Zhu G _ 4 Dc (by have h1:=b2.out;rw[g7]at h1;omega)).mono ?_;rintro e w7 ⟨v7,rfl,H7,_⟩;rw[show((z:Int) % 4294967296).toNat=z by omega]at H7;obtain⟨a7,c7,h7⟩:=H7.shape;subst h7;have e3:0<(ci++digL z 4).length:=by rw[ZjA];omega
           obtain⟨n7,e4⟩:∃n7,n7=(ci++digL z 4).length:=⟨_,rfl⟩
           rw[<-e4]at H7 e3 ⊢;have i2:=(H7.conv e3).2;clear e4;have g8:Hid (bl ⟨(ci++digL z 4).toArray⟩=ZbJ q):=hid (by rw[ZbF];unfold ZbJ;rw[<-b1,HZ,b1]);have g9:=hid (a6.trans (H7.bel.mono a6.size));go_wp2;go_ret;exact⟨_,rfl,g8,g9⟩
end
end Go.Proofs.YtcdgkkfipdoeeaaGreatDoor
namespace Go.Proofs.YtcdgkkfipdoeeaaGreatDoor
open Go.RowKit LS Go.Proofs.Tryz
section
variable {g:Gq}
def ZdH(g:Gq):Prop:=(∀y∈g.kw,SelW y)/\∀x∈g.qx,nw x<=100000
theorem ZfH(h:ZdH g){z:Nq}:ZdH (addQ z g).2:=by unfold addQ;split <;> exact h
theorem ZC3(h:ZdH g){n:Nat}:ZdH (negQ n g).2:=by unfold negQ;split <;> exact ZfH h
theorem ZC4(h:ZdH g){o x y:Nat}:ZdH (Zbs o x y g).2:=by unfold Zbs;split <;> exact ZfH h
theorem ZsE(h:ZdH g){y:Nd×Nat}(d:SelW y):ZdH (ZJ y g).2:=by
 unfold ZJ;split
 ·exact ZfH h
 ·refine ZfH (g:={ g with kw:=g.kw++[y] }) ⟨fun z c=>?_,h.2⟩;rcases Yar.1 c with a|a
  ·exact h.1 z a
  simp_all
theorem ZC2(h:ZdH g){ns:List (LB)}(c:nw ns<=100000):ZdH (Zbd ns g).2:=by
 unfold Zbd;split
 ·exact h
 ·refine⟨h.1,fun z d=>?_⟩;rcases Yar.1 d with a|a
  ·exact h.2 z a
  ·rw[Yap]at a;rw[a];exact Yah (ZhV _) c
theorem Zkj:∀(t:Tr) (g:Gq),wfT t->wT t<=100000->ZdH g->ZdH (Zb t g).2
 | .nil,_,_,_,h=>h
 | .node x y a l r, g, d, j, h => by
   have f:=fun k e=>ZkV j k e;have o:wT (.node x y a l r)=ownW a+wT l+wT r:=rfl;have m:nw a.by_<=100000:=by have p:ownW a=24+a.name.length+cw _+nw _:=rfl;omega
   have e:a.n.toNat<=1000000000:=by have:=d.2.2.2.2.2.1;omega
   have c:=fun g h=>Zkj l g d.2.2.2.2.2.2.2.2.2.2.1 Om h;have i:=fun g h=>Zkj r g d.2.2.2.2.2.2.2.2.2.2.2 Om h;unfold Zb;split
   · exact ZfH h
   · split
     · exact ZsE h (f 0 Om)
     · split
       · exact ZfH (ZsE h (f _ e))
       · split
         · exact ZC3 (c _ h)
         · split
           · exact ZfH (ZC2 (c _ h) m)
           · simp only
             split
             · exact ZfH (i _ (c _ h))
             · exact ZC4 (i _ (c _ h))
theorem ZuR{t:Tr}{fl:Nat}(d:wfT t)(h:wT t<=100000)(a:Sml (Zv (Zb t (g0 fl)).2 (Zb t (g0 fl)).1)):CodeOk (LS.codeOf t fl):=by
 have e:=(Zew t (g0 fl) d).1;have f:=Zkj t (g0 fl) d h ⟨fun y c=>(by cases c),fun y c=>(by cases c)⟩;have e1:(g0 fl).kw.length=0:=rfl;have e2:(g0 fl).qx.length=0:=rfl;refine⟨a.2,?_,?_,?_,f.1,f.2⟩
 ·have:=e.s1;show(Zb t (g0 fl)).2.kw.length<=_;omega
 ·have:=e.r1;show(Zb t (g0 fl)).2.qx.length<=_;omega
 ·show(if 4<=fl then Zch _ else _).length<=_;split
  ·rw[show(Zch _).length=_ from(ZiE _ _ (Zi2 _ _)).2];exact a.1
  ·exact a.1
end
end Go.Proofs.YtcdgkkfipdoeeaaGreatDoor
namespace Go.Proofs.YtcdgkkfipdoeeaaGreatDoor
open Go.RowKit LS Go.Proofs.Tryz
def Zho(w:World)(A:Nat->Addr)(q:LB)(fl:Int)(r:BA)(v:Value):Prop:=match ZD q with
 | .error x=>r=⟨#[]⟩/\((x=(1,0)/\v=.iface 432 (.pointer (some (A 0))))∨(x=(4,0)/\v=.iface 432 (.pointer (some (A 3))))∨(x.1=2/\ZM w v x.2 (A 1))∨(x.1=3/\ZM w v x.2 (A 2)))
 | .ok t=>(0<=fl/\fl<=7->v=.nilIface/\bl r=ZbJ (LS.codeOf t fl.toNat))/\(fl<0∨7<fl->r=⟨#[]⟩/\v=.iface 432 (.pointer (some (A 10))))
def ZkB(q:LB):Prop:=∀t k,ZD q=.ok t->k<=7->Sml (Zv (Zb t (g0 k)).2 (Zb t (g0 k)).1)
theorem ZuO(s:BA)(fl:Int)(A:Nat->Addr)(m:Int)(w:World)(H:Vars w A m)(K:ZR w)(L:20<=w.heap.size)(I:s.size<=9223372036854775807)(q:ZkB (bl s)) :
  CP 21 #[.string s,Vi fl] w fun e M=>∃(r:BA) (v:Value),e=.returned (.tuple #[.string r,v])/\Hid (Zho M A (bl s) fl r v)/\BW w M:=by
 have N:=hid (Ziu s w I H.sents);have HV:=hid H;have HT:=hid K;have B:=hid L;have O:=hid q;clear H K L q;go_enter func21,ntmps21
 go_wp2_with fail
 refine N.mono ?_;rintro e w1 ⟨pv,v,rfl,a,d⟩;have i:=hid d;have P:=hid (HV.below d);have C:=hid (HT.low d B);have f:=hid (Yah B d.size);clear d N;cases c:ZD (bl s)with
 | ok t=>
  rw[c]at a;obtain⟨rfl,j⟩:=a.out;obtain⟨l,g,n⟩:=Ze2 c;have p:=hid c;obtain⟨ty,u,Q⟩:=Zh.shape j;subst Q;by_cases R:0<=fl/\fl<=7
  ·obtain⟨k,hk⟩:∃k:Nat,fl=k:=⟨fl.toNat,by omega⟩
   subst hk;have D:k<=7:=by omega
   have S:=hid (O t k c D);have T:=hid (ZuR l n S);have U:=hid (ZA2 t k D j l g n C f S);have h0:¬(k:Int)<0:=by omega
   have h7:¬(7:Int)<k:=by omega
   clear a c j l g n R
   go_wp2_with fail
   refine U.mono ?_;rintro e z ⟨cv,sv,rv,iv,sl,rl,rfl,V,o⟩;have E:=hid (i.trans (o.mono i.size));have F:=hid (ZEE V T (C.low o f) (Yah f o.size));clear o U
   go_wp2_with fail
   refine F.mono ?_;rintro e w3 ⟨r,rfl,W,G⟩;have X:=hid (E.trans (G.mono E.size));clear G F;go_wp2;go_ret2;refine⟨r,.nilIface,rfl,hid ?_,X⟩;unfold Zho;rw[p];exact⟨fun _=>⟨rfl,W⟩,fun h=>by omega⟩
  ·have vR:=P.sent 10 Dc;clear a c j l g n;by_cases h0:fl<0
   all_goals
    try have h7:7<fl:=by omega
    go_wp2
    all_goals
     go_region
     all_goals
      go_wp2;go_ret2;refine⟨⟨#[]⟩,_,rfl,hid ?_,i.drew⟩;unfold Zho;rw[p];exact⟨fun h=>absurd h R,fun _=>⟨rfl,rfl⟩⟩
 | error x=>
  rw[c]at a;have p:=hid c
  have Y:∃ty u,v=.iface ty u:=by
   rcases a.out with ⟨_,h⟩|⟨_,h⟩|⟨_,h⟩|⟨_,h⟩
   ·exact⟨_,_,h⟩
   ·exact⟨_,_,h⟩
   ·obtain⟨fa,J,_⟩:=h.cells;exact⟨_,_,J⟩
   ·obtain⟨fa,J,_⟩:=h.cells;exact⟨_,_,J⟩
  obtain⟨ty,u,Z⟩:=Y;subst Z;clear c;go_wp2;go_ret2;refine⟨⟨#[]⟩,_,rfl,hid ?_,i⟩;unfold Zho;rw[p];exact⟨rfl,a⟩
theorem Zwo(s:BA){fl:Int}(A:Nat->Addr)(m:Int)(w:World)(G:Vars w A m)(I:ZR w)(J:20<=w.heap.size)(H:s.size<=9223372036854775807)(F:ZkB (bl s)) :
  CP 8 #[.string s,Vi fl] w fun e u=>∃(r:BA) (c p:Nat),e=.returned (.tuple #[.string r,Vi c,Vi p])/\Hid (ZcM (bl s) fl=(bl r,c,p))/\BW w u:=by
 have K:=hid (ZuO s fl A m w G I J H F);have M:=hid G;clear G I J F;go_enter func8,ntmps8
 go_wp2_with fail
 refine K.mono ?_;rintro e O ⟨r,v,rfl,o,q⟩;have d:=hid q;have f:=hid (M.below q);clear q K;have h:=o.out;clear o;unfold Zho at h;cases i:ZD (bl s)with
 | ok t=>
  rw[i]at h;simp only at h;by_cases N:0<=fl/\fl<=7
  ·obtain⟨rfl,L⟩:=h.1 N;have j:Hid (ZcM _ fl=(bl r,0,0)):=hid (by unfold ZcM;rw[i];simp only;rw[if_neg Om,L]);clear i h L
   go_wp2_with fail
   refine(Zik A m _ f).mono ?_;rintro e B ⟨rfl,rfl⟩
   go_wp2_with fail
   refine(Ziq _).mono ?_;rintro e z ⟨rfl,a⟩;have g:=hid (d.trans (a.mono d.size));clear a;go_wp2
   go_ret3
   exact⟨r,0,0,rfl,j,g⟩
  ·obtain⟨rfl,rfl⟩:=h.2 Om;have j:Hid (ZcM _ fl=([],11,0)):=hid (by unfold ZcM;rw[i];simp only;rw[if_pos Om]);clear i h
   go_wp2_with fail
   refine(Zzy A m f).mono ?_;rintro e B ⟨rfl,rfl⟩
   go_wp2_with fail
   refine(Zdm A m _ f).mono ?_;rintro e z ⟨rfl,a⟩;have g:=hid (d.trans (a.mono d.size));clear a;go_wp2
   go_ret3
   exact⟨⟨#[]⟩,11,0,rfl,j,g⟩
 | error x=>
  rw[i]at h;simp only at h;obtain⟨rfl,h⟩:=h;have j:Hid (ZcM _ fl=([],x.1,x.2)):=hid (by unfold ZcM;rw[i]);clear i;rcases h with ⟨rfl,rfl⟩|⟨rfl,rfl⟩|⟨C,n⟩|⟨C,n⟩
  ·go_wp2_with fail
   refine(ZjQ A m _ f).mono ?_;rintro e B ⟨rfl,rfl⟩
   go_wp2_with fail
   refine(Zdm A m _ f).mono ?_;rintro e z ⟨rfl,a⟩;have g:=hid (d.trans (a.mono d.size));clear a;go_wp2
   go_ret3
   exact⟨⟨#[]⟩,1,0,rfl,j,g⟩
  ·go_wp2_with fail
   refine(Zmu A m f).mono ?_;rintro e B ⟨rfl,rfl⟩
   go_wp2_with fail
   refine(Zdm A m _ f).mono ?_;rintro e z ⟨rfl,a⟩;have g:=hid (d.trans (a.mono d.size));clear a;go_wp2
   go_ret3
   exact⟨⟨#[]⟩,4,0,rfl,j,g⟩
  ·obtain⟨x1,x2⟩:=x;simp only at C n;subst C;obtain⟨fa,rfl,k,l⟩:=n.cells;clear n;have D:=hid k;have E:=hid l;clear k l
   go_wp2_with fail
   refine(Zmt A m f _ E).mono ?_;rintro e B ⟨rfl,rfl⟩
   go_wp2_with fail
   refine(ZdB A m _ _ _ f D).mono ?_;rintro e z ⟨rfl,a⟩;have g:=hid (d.trans (a.mono d.size));clear a;go_wp2
   go_ret3
   exact⟨⟨#[]⟩,2,x2,rfl,j,g⟩
  ·obtain⟨x1,x2⟩:=x;simp only at C n;subst C;obtain⟨fa,rfl,k,l⟩:=n.cells;clear n;have D:=hid k;have E:=hid l;clear k l
   go_wp2_with fail
   refine(Zms A m f _ E).mono ?_;rintro e B ⟨rfl,rfl⟩
   go_wp2_with fail
   refine(ZdB A m _ _ _ f D).mono ?_;rintro e z ⟨rfl,a⟩;have g:=hid (d.trans (a.mono d.size));clear a;go_wp2
   go_ret3
   exact⟨⟨#[]⟩,3,x2,rfl,j,g⟩
section
variable {jx nodes':List Nq} {g g' g1:Gq} {z:Nq} {i j k n x y:Nat}
theorem ZlK{z:Nq} : ∀ {l:List Nq} {i:Nat},idxN z l=some i->l.getD i nq0=z
 | [],_,h=>by cases h
 | y :: l, i, h => by
   unfold idxN at h;split at h
   · injection h with h;subst h;assumption
   · rw[Ybk]at h
     obtain⟨j,a,d⟩:=h;subst d;rw[Yee];exact ZlK a
theorem Zg3(h:jx <+: nodes')(a:n<jx.length):nodes'.getD n nq0=jx.getD n nq0:=by
 obtain⟨t,rfl⟩:=h;rw[Yaa,Yaa,Ybr a]
theorem Zlg(a:NOk jx)(h:jx <+: nodes'):∀(f n:Nat),n<jx.length->Zcl nodes' f n=Zcl jx f n
 | 0,_,_=>rfl
 | f + 1, n, d => by
   unfold Zcl;rw[Zg3 h d,Ycb (fun t e=>Zlg a h f t (by have:=Zcf a n t e;omega))]
structure PB (g g':Gq) (i k:Nat):Prop where
 ok:NOk g'.jx
 pre:g.jx <+: g'.jx
 lt:i<g'.jx.length
 co:Zcl g'.jx (i+1) i<=k
theorem PB.mono(h:PB g g' i k)(a:k<=j):PB g g' i j:=⟨h.ok,h.pre,h.lt,Yah h.co a⟩
theorem PB.after(h:PB g1 g' i k)(a:g.jx <+: g1.jx):PB g g' i k:=⟨h.ok,a.trans h.pre,h.lt,h.co⟩
theorem NOk.app (a : NOk jx) (e : NOne jx.length z) : NOk (jx ++ [z]) := fun i d => by
  rw[List.getElem_append];split
  · rename_i h;exact a i h
  · rename_i h
    have:i=jx.length:=by rw[Yab]at d;simp at d;omega
    simp_all
theorem Zfe (a : NOk g.jx) (l : NOne g.jx.length z) : PB g (addQ z g).2 (addQ z g).1 (4 + ((Zg z).map (fun t => Zcl g.jx (t + 1) t)).sum) := by
  by_cases h:g.share=true/\∃i,idxN z g.jx=some i
  · obtain⟨e,i,f⟩:=h
    rw[Zhq e f];exact⟨a,List.prefix_refl _,ZlL f,by rw[Zi3 a,ZlK f];omega⟩
  · have e : g.share = true -> idxN z _ = none := fun e => by
      cases p:idxN z g.jx with
      | none=>rfl
      | some i=>simp_all
    rw[Zgz e];have d:=a.app l;have m:g.jx <+: g.jx++[z]:=Ydd _ _;refine⟨d,m,by simp,?_⟩;show Zcl (g.jx++[z]) (g.jx.length+1) g.jx.length<=_;rw[Zi3 d,show(g.jx++[z]).getD _ _=z by simp,Ycb (fun t o=>Zlg a m _ t (l.low t o))];omega
theorem Zlf(a:NOk g.jx){v:Int}(d:vOk v):PB g (Zdw v g).2 (Zdw v g).1 4:=Zfe a (Zrp d)
theorem Zqk(a:NOk g.jx){v:Int}(d:n<g.jx.length)(h:Zco n g=some v):vOk v:=by
 rw[Zie h];exact a.vok d
theorem Zzh(a:NOk g.jx)(d:n<g.jx.length):PB g (negQ n g).2 (negQ n g).1 (4+Zcl g.jx (n+1) n):=by
 unfold negQ;split
 ·rename_i v e;have:=Zqk a d e;exact(Zlf a ⟨by have:=this.2;omega,by have:=this.1;omega⟩).mono Om
 ·have h:=Zfe (z:=⟨4,0,some n,none⟩) a (ZgY Dc d Dc Dc)
  assumption
theorem ZAb(a:NOk g.jx)(d:x<g.jx.length)(e:y<g.jx.length){o:Nat}(l:o<=4):PB g (Zbs o x y g).2 (Zbs o x y g).1 (4+(Zcl g.jx (x+1) x+Zcl g.jx (y+1) y)):=by
 unfold Zbs;split
 ·rename_i u v f m;exact(Zlf a (Zhj o u v (Zqk a d f))).mono Om
 ·have h:=Zfe (z:=⟨3,o,some x,some y⟩) a (ZjR Dc d e Om Om)
  assumption
theorem ZrD(a:NOk g.jx)(f:g.kw.length<=1000000)(q:Nd×Nat):PB g (ZJ q g).2 (ZJ q g).1 4:=by
 unfold ZJ;split
 ·rename_i i e;have d:=Zjh e;rw[Yak]at d;exact Zfe a (ZjS Dc Om Om)
 ·have h:=Zfe (g:={ g with kw:=g.kw++[q] }) (z:=⟨1,(g.kw.length),none,none⟩) a (ZjS Dc Om Om);exact⟨h.ok,h.pre,h.lt,h.co⟩
theorem ZjU:∀(t:Tr) (g:Gq),wfT t->isNil t=false->NOk g.jx->g.kw.length+wT t<=400000->g.qx.length+wT t<=400000->PB g (Zb t g).2 (Zb t g).1 (wT t / 3)
 | .nil,_,_,h,_,_,_=>by cases h
 | .node px py a l r, g, o, _, d, C, D => by
   have K:=o;obtain⟨P,E,Q,F,S,G,H,I,T,M,s,J⟩:=o;have N:=Zmz a;have u:wT (.node px py a l r)=ownW a+wT l+wT r:=rfl;rw[u]at C D ⊢;have v:=ZjU l;have w:=ZjU r;unfold Zb;split
   · exact(Zlf d ⟨by omega,G⟩).mono Om
   · rename_i k0
     split
     · exact(ZrD d Om _).mono Om
     · rename_i k1
       split
       · have p:=ZrD d Om (Zba a,a.n.toNat)
         have q:=Zfe (z:=⟨2,a.op,some _,none⟩) p.ok (ZgY Dc p.lt Om Om);have q':=q.after p.pre;have pc:=p.co;simp only[Zg,Ybb,Ydg,Yd2,Ye0]at q';exact q'.mono Om
       · rename_i k2
         have A:=H Om;have L:=v g s A d Om Om;have Lc:=L.co;have Ls:=(Zew l g s).1;split
         · exact((Zzh L.ok L.lt).after L.pre).mono Om
         · rename_i k3
           split
           · rename_i k5
             have f:=Zje a.by_ (Zb l g).2;have gn:=f.2.2;have gi:=f.2.1;have Lr:=Ls.r1;have O:=F k5;have q:=Zfe (z:=⟨5+a.op,(Zbd a.by_ (Zb l g).2).1,some _,none⟩) (gn▸L.ok) (ZgY Om (gn▸L.lt) Om Om);have q':=q.after (gn▸L.pre);simp only[Zg,Ybb,Ydg,Yd2,Ye0,gn]at q';exact q'.mono Om
           · rename_i k5
             have B:=I Om;have R:=w _ J B L.ok (by have:=Ls.s1;omega) (by have:=Ls.r1;omega);have Rc:=R.co;have m:=Yaw L.lt R.pre.length_le;have U:=Zlg L.ok R.pre ((Zb l g).1+1) _ L.lt;have e:=L.pre.trans R.pre;simp only;split
             · have q:=(Zfe (z:=⟨10,0,some _,some _⟩) R.ok (ZjR Dc m R.lt Dc Dc)).after e
               simp only[Zg,Ybb,Ydg,Yd2,Ye0]at q;exact q.mono Om
             · exact((ZAb R.ok m R.lt E).after e).mono Om
def CI(c:Cq):Prop:=c.jj.length<=c.jq.length
variable {W:Nat->Cq->Cq} {c:Cq}
theorem ZfU(h:CI c)(op arg:Nat):CI (Zc op arg c):=by unfold CI at *;simp[Zc];omega
theorem Zod(h:CI c)(n s:Nat):CI (ZZ n s c):=ZfU h _ s
theorem ZhU(e:∀z c,CI c->CI (W z c))(h:CI c):CI (putQ jx W n c):=by
 cases a:ZK n c.jy with
 | some s=>
  rw[Zd8 a];split
  ·exact ZfU h _ s
  ·exact ZfU h _ s
 | none=>
  rw[ZdR a];have d:=e n (decL n c) h;split
  ·exact d
  ·split
   ·exact ZfU (Zod d _ _) _ _
   omega
theorem Zob(a:∀z c,CI c->CI (W z c)):∀(k:Nat) (c:Cq),CI c->CI (ZG jx W n k c)
 | 0,c,h=>h
 | k + 1, c, h => by
   unfold ZG;split
   · rename_i z s _ _
     exact Zob a k _ (Zod (a z { c with jy:=c.jy.set s _ } h) z s)
   omega
theorem ZuB(a:∀z c,CI c->CI (W z c))(h:CI c):CI (Zbo jx W x y c):=by
 have d:=ZhU (jx:=jx) (n:=y) a (ZfU (ZfU (ZhU (jx:=jx) (n:=x) a (Zob (jx:=jx) (n:=y) a (y+2) c h)) 10 0) 11 0);unfold Zbo CI;simp only[Yat];exact d
theorem Zoc (a : ∀ z c, CI c -> CI (W z c)) : ∀ (ts : List Nat) (c : Cq), CI c -> CI (ts.foldl (fun c t => putQ jx W t c) c)
  | [],c,h=>h
  | t::ts,c,h=>by rw[Ybp];exact Zoc a _ _ (ZhU a h)
theorem Zk5:∀(f n:Nat) (c:Cq),CI c->CI (Zr jx f n c)
 | 0,n,c,h=>h
 | f + 1, n, c, h => by
   have a:=fun z c=>Zk5 f z c;unfold Zr;simp only;split
   · exact ZuB a h
   · have d:=Zoc (jx:=jx) a (Zg (jx.getD n nq0)) c h
     generalize(Zg (jx.getD n nq0)).foldl (fun c t=>putQ jx (Zr jx f) t c) c=e at *
     unfold ZbD;split
     · unfold CI at *;simp[Zc];omega
     · exact ZfU d _ _
theorem Zol{t:Tr}(a:wfT t)(d:isNil t=false)(f:wT t<=100000)(fl:Nat):(Zv (Zb t (g0 fl)).2 (Zb t (g0 fl)).1).jq.length<=wT t / 3:=by
 have h:=ZjU t (g0 fl) a d (fun i e=>absurd e (Ya1 _)) (by show 0+wT t<=_;omega) (by show 0+wT t<=_;omega);exact Yah (ZuU h.ok h.lt) h.co
theorem ZuT{t:Tr}(a:wfT t)(d:isNil t=false)(e:wT t<=100000)(fl:Nat):Sml (Zv (Zb t (g0 fl)).2 (Zb t (g0 fl)).1):=by
 have h:=Zol a d e fl;have f:CI (Zv (Zb t (g0 fl)).2 (Zb t (g0 fl)).1):=ZhU (fun z c h=>Zk5 _ z c h) (Yac _);unfold CI at f;constructor<;>omega
end
end Go.Proofs.YtcdgkkfipdoeeaaGreatDoor
namespace Go.Proofs.YtcdgkkfipdoeeaaGreatDoor
open Go.RowKit LS Go.Proofs.Tryz
theorem ZCs {q:LB} : ZkB q := fun t k h _ => by
  obtain⟨c,a,d⟩:=Ze2 h;exact ZuT c a d k
theorem Zu2(s:BA)(fl:Int)(A:Nat->Addr)(m:Int)(w:World)(d:Vars w A m)(f:ZR w)(g:20<=w.heap.size)(a:s.size<=9223372036854775807) :
  CP 8 #[.string s,Vi fl] w fun e u=>∃(r:BA) (c p:Nat),e=.returned (.tuple #[.string r,Vi c,Vi p])/\Hid (ZcM (bl s) fl=(bl r,c,p))/\BW w u:=Zwo s A m w d f g a (ZCs)
section
variable {jx:List Nq} {W:Nat->Cq->Cq} {c d e:Cq} {n m x y:Nat} {l:List (Nat×Nat)}
abbrev opOk (n:Nat):Prop:=n≠9/\n<=13
structure Fwd (c d:Cq):Prop where
 pre:Pre c d
 fw:∀i,c.jq.length<=i->i<d.jq.length->opOk (d.jq.getD i (0,0)).1/\((d.jq.getD i (0,0)).1=10->i<(d.jq.getD i (0,0)).2)
end
end Go.Proofs.YtcdgkkfipdoeeaaGreatDoor
namespace Go.Proofs.YtcdgkkfipdoeeaaGreatDoor.LS
open Go Go.RowKit
def two2(l:LB)(i:Nat):Nat:=256*(l.getD i 0).toNat+(l.getD (i+1) 0).toNat
def atQ(l:LB):Nat->Nat->Option Nat
 | 0,p=>some p
 | k+1,p=>if l.length<p+2 then none else atQ l k (p+2+two2 l p)
def ZFb(l:LB):Option (Nat×Nat):=if l.length<9 then none else match atQ l (two2 l 3+two2 l 5) (9+4*two2 l 1)with
 | none=>none
 | some p=>if p+3*two2 l 7+4=l.length then some (two2 l 7,p)else none
end Go.Proofs.YtcdgkkfipdoeeaaGreatDoor.LS
namespace Go.Proofs.YtcdgkkfipdoeeaaGreatDoor
open Go.RowKit LS Go.Proofs.Tryz
section
variable {a b l:LB} {n k:Nat}
theorem ZFg(a l:LB)(i:Nat):(a++l).getD (a.length+i) 0=l.getD i 0:=by
 rw[Yaa,Yb3 (Yfx _ _),Nat.add_sub_cancel_left,Yaa]
theorem ZFa(a b:LB)(h:n<65536):two2 (a++(digL n 2++b)) a.length=n:=by
 unfold two2;have e:digL n 2=[UInt8.ofNat (n / 256 % 256),UInt8.ofNat (n % 256)]:=by simp[digL]
 simp_all;omega
theorem Zsm(x:LB):(ZO x).length=x.length+2:=by rfl
theorem ZFf:∀(T:List (LB)) (a b:LB) (k:Nat),(∀x∈T,x.length<65536)->atQ (a++(T.flatMap ZO++b)) (T.length+k) a.length=atQ (a++(T.flatMap ZO++b)) k (a.length+(T.flatMap ZO).length)
 | [],a,b,k,_=>by simp
 | x :: T, a, b, k, h => by
   have c:=h x (Yay ..);have e:a++((x::T).flatMap ZO++b)=(a++ZO x)++(T.flatMap ZO++b):=by simp
   have e2:a++((x::T).flatMap ZO++b)=a++(digL x.length 2++(x++(T.flatMap ZO++b))):=by simp[ZO]
   have t2:two2 (a++((x::T).flatMap ZO++b)) a.length=x.length:=e2▸ZFa a _ c
   have d:¬(a++((x::T).flatMap ZO++b)).length<a.length+2:=by
     rw[Yab,Yab,Ycd,Yab,Zsm];omega
   have ih:=ZFf T (a++ZO x) b k (fun y f=>h y (Yam _ f));rw[<-e,Yab,Zsm]at ih;rw[Yaj,show T.length+1+k=(T.length+k)+1 by omega,atQ,if_neg d,t2,show a.length+2+x.length=a.length+(x.length+2) by omega,ih,Ycd,Yab,Zsm]
   congr 1
   omega
def insB(x:Nat×Nat):LB:=UInt8.ofNat x.1::digL x.2 2
theorem Zxc(l:List (Nat×Nat)):(l.flatMap insB).length=3*l.length:=by
 induction l with
 | nil=>rfl
 | cons x l ih=>rw[Ycd,Yab,ih,Yaj];unfold insB;rw[Yaj,ZbG];omega
theorem Zvd(l:List Int):(l.flatMap Zb0).length=4*l.length:=by
 induction l with
 | nil=>rfl
 | cons x l ih=>rw[Ycd,Yab,ih,Yaj];unfold Zb0;rw[ZbG];omega
def Ze9(q:CodeQ):List (LB):=q.ju.map ZI++q.jw.map commas
def offQ(q:CodeQ):Nat:=9+4*q.jj.length+((Ze9 q).flatMap ZO).length
structure Shrt (q:CodeQ):Prop where
 c:q.jj.length<65536
 s:q.ju.length<65536
 g:q.jw.length<65536
 i:q.jq.length<65536
 t:∀x∈Ze9 q,x.length<65536
theorem Zuc(q:CodeQ):Z2 q=([103]++digL q.jj.length 2++digL q.ju.length 2++digL q.jw.length 2++digL q.jq.length 2++q.jj.flatMap Zb0)++((Ze9 q).flatMap ZO++q.jq.flatMap insB):=by
 unfold Z2 Ze9;simp only[List.flatMap_append,List.flatMap_map,Yan];rfl
theorem ZEY(q:CodeQ):∃z,z.length=4/\ZbJ q=([103]++digL q.jj.length 2++digL q.ju.length 2++digL q.jw.length 2++digL q.jq.length 2++q.jj.flatMap Zb0)++((Ze9 q).flatMap ZO++(q.jq.flatMap insB++z)):=
 ⟨digL (sumQ (Z2 q)) 4,ZbG _ _,by unfold ZbJ;rw[Zuc];simp⟩
theorem ZEZ(q:CodeQ):(ZbJ q).length=offQ q+3*q.jq.length+4:=by
 obtain⟨z,c,d⟩:=ZEY q;rw[d];unfold offQ;simp only[Yab,ZbG,Zvd,Zxc,c,Ybj];omega
theorem ZFC{q:CodeQ}(h:Shrt q):ZFb (ZbJ q)=some (q.jq.length,offQ q):=by
 have e:=ZEZ q;obtain⟨z,o,d⟩:=ZEY q
 have t1:two2 (ZbJ q) 1=q.jj.length:=by
  have:=ZFa [103] (digL q.ju.length 2++(digL q.jw.length 2++(digL q.jq.length 2++(q.jj.flatMap Zb0++((Ze9 q).flatMap ZO++(q.jq.flatMap insB++z)))))) h.c;rw[d];simpa only[Yan,Ybj] using this
 have t3:two2 (ZbJ q) 3=q.ju.length:=by
  have:=ZFa ([103]++digL q.jj.length 2) (digL q.jw.length 2++(digL q.jq.length 2++(q.jj.flatMap Zb0++((Ze9 q).flatMap ZO++(q.jq.flatMap insB++z))))) h.s;rw[d];simpa only[Yan,Yab,ZbG,Ybj] using this
 have t5:two2 (ZbJ q) 5=q.jw.length:=by
  have:=ZFa ([103]++(digL q.jj.length 2++digL q.ju.length 2)) (digL q.jq.length 2++(q.jj.flatMap Zb0++((Ze9 q).flatMap ZO++(q.jq.flatMap insB++z)))) h.g;rw[d];simpa only[Yan,Yab,ZbG,Ybj] using this
 have t7:two2 (ZbJ q) 7=q.jq.length:=by
  have:=ZFa ([103]++(digL q.jj.length 2++(digL q.ju.length 2++digL q.jw.length 2))) (q.jj.flatMap Zb0++((Ze9 q).flatMap ZO++(q.jq.flatMap insB++z))) h.i;rw[d];simpa only[Yan,Yab,ZbG,Ybj] using this
 have f:atQ (ZbJ q) (q.ju.length+q.jw.length) (9+4*q.jj.length)=some (offQ q):=by
  have j:([103]++digL q.jj.length 2++digL q.ju.length 2++digL q.jw.length 2++digL q.jq.length 2++q.jj.flatMap Zb0).length=9+4*q.jj.length:=by
   simp only[Yab,ZbG,Zvd,Ybj]
  have m:(Ze9 q).length=q.ju.length+q.jw.length:=by simp[Ze9]
  have:=ZFf _ ([103]++digL q.jj.length 2++digL q.ju.length 2++digL q.jw.length 2++digL q.jq.length 2++q.jj.flatMap Zb0) (q.jq.flatMap insB++z) 0 h.t;rw[<-d,j,m]at this;exact this
 unfold ZFb;rw[t1,t3,t5,t7,f,e,if_neg (by unfold offQ;omega)];simp
end
end Go.Proofs.YtcdgkkfipdoeeaaGreatDoor
namespace Go.Proofs.YtcdgkkfipdoeeaaGreatDoor
open Go.RowKit LS Go.Proofs.Tryz
theorem Zyh(l:LB)(j:Nat)(c:UInt8)(r:LB):((lexC l j c r).1.jk=0∨(lexC l j c r).1.jk=5->(lexC l j c r).1.txt=[])/\(¬((lexC l j c r).1.jk=0∨(lexC l j c r).1.jk=5)->(lexC l j c r).1.txt.length+j<=(lexC l j c r).2):=by
 unfold lexC;split
 ·simp only;split
  ·simp_all;omega
  simp
 ·split
  ·simp only;split
   ·simp
   simp_all;omega
  ·split
   ·split
    ·simp
    ·simp only;split
     ·simp_all;omega
     simp
   ·split
    ·simp_all;omega
    ·split
     ·simp_all;omega
     simp
theorem Zyc(l:LB)(i:Nat):((Zk l i).1.jk=0∨(Zk l i).1.jk=5->(Zk l i).1.txt=[])/\(¬((Zk l i).1.jk=0∨(Zk l i).1.jk=5)->(Zk l i).1.txt.length+i<=(Zk l i).2):=by
 unfold Zk;generalize run (fun x=>x == 32) (l.drop i)=k;unfold lexJ;split
 ·simp
 ·rename_i c r _;have h:=Zyh l (i+k) c r
  simp_all;omega
theorem ZqE(l:LB):∀(n i:Nat),i<=l.length->tw (ZN l n i)<=31*(l.length+1 - i)
 | 0,_,_=>Yag _
 | n + 1, i, f => by
   have c:=Zyc l i;have d:=Zig l i f;unfold ZN;split
   · rename_i a
     have e:=c.1 a;simp only[tw,e,Ybq];omega
   · rename_i a
     have e:=c.2 a;have g:=d.1 (fun h=>a (.inl h));have j:=ZqE l n _ d.2;simp only[tw];omega
theorem ZBi{l:LB}{t:Tr}(h:ZD l=.ok t):wT t<=9331:=by
 unfold ZD at h;by_cases c:300<l.length
 ·simp_all
 ·rw[if_neg c]at h;have f:=ZqE l (l.length+1) 0 (Yag _);cases a:Zs (10*(ZN l (l.length+1) 0).length+5) false 0 .nil (ZN l (l.length+1) 0) 0 with
  | error e=>simp_all
  | ok z=>
   obtain⟨t',r⟩:=z;rw[a]at h;have g:=Zfv _ _ _ _ _ _ _ (fun e=>by cases e) a;simp only at h;by_cases d:(hd r).jk=0
   ·rw[if_pos d]at h;by_cases i:Zf t'=0
    ·simp_all
    simp_all;omega
   simp_all
section
variable {g:Gq} {N:Nat}
def TabN(N:Nat)(g:Gq):Prop:=(∀y∈g.kw,ownW y.1<=N)/\∀x∈g.qx,nw x<=N
theorem ZfG(h:TabN N g){z:Nq}:TabN N (addQ z g).2:=by unfold addQ;split <;> exact h
theorem ZC0(h:TabN N g){n:Nat}:TabN N (negQ n g).2:=by unfold negQ;split <;> exact ZfG h
theorem ZC1(h:TabN N g){o x y:Nat}:TabN N (Zbs o x y g).2:=by unfold Zbs;split <;> exact ZfG h
theorem ZsD(h:TabN N g){y:Nd×Nat}(d:ownW y.1<=N):TabN N (ZJ y g).2:=by
 unfold ZJ;split
 ·exact ZfG h
 ·refine ZfG (g:={ g with kw:=g.kw++[y] }) ⟨fun z c=>?_,h.2⟩;rcases Yar.1 c with a|a
  ·exact h.1 z a
  simp_all
theorem ZCZ(h:TabN N g){ns:List (LB)}(c:nw ns<=N):TabN N (Zbd ns g).2:=by
 unfold Zbd;split
 ·exact h
 ·refine⟨h.1,fun z d=>?_⟩;rcases Yar.1 d with a|a
  ·exact h.2 z a
  ·rw[Yap]at a;rw[a];exact Yah (ZhV _) c
theorem Zno:∀(t:Tr) (g:Gq),wT t<=N->TabN N g->TabN N (Zb t g).2
 | .nil,_,_,h=>h
 | .node x y a l r, g, i, h => by
   have j:wT (.node x y a l r)=ownW a+wT l+wT r:=rfl;have k:ownW a=24+a.name.length+cw _+nw _:=rfl
   have d:ownW (Zba a)<=N:=by
     have:ownW (Zba a)<=ownW a:=by unfold ownW Zba;simp[nw]
     omega
   have f:nw a.by_<=N:=by omega
   have c:=fun g h=>Zno l g Om h;have e:=fun g h=>Zno r g Om h;unfold Zb;split
   · exact ZfG h
   · split
     · exact ZsD h d
     · split
       · exact ZfG (ZsD h d)
       · split
         · exact ZC0 (c _ h)
         · split
           · exact ZfG (ZCZ (c _ h) f)
           · simp only
             split
             · exact ZfG (e _ (c _ h))
             · exact ZC1 (e _ (c _ h))
theorem Zla{l:LB}{t:Tr}(h:ZD l=.ok t)(fl:Nat):Shrt (LS.codeOf t fl)/\(LS.codeOf t fl).jq.length<=3110/\0<(LS.codeOf t fl).jq.length:=by
 obtain⟨e,j,f⟩:=Ze2 h;have p:=ZBi h;have u:=Zol e j f fl;have m:CI (Zv (Zb t (g0 fl)).2 (Zb t (g0 fl)).1):=ZhU (fun z c h=>Zk5 _ z c h) (Yac _)
 have n:(LS.codeOf t fl).jq.length=(Zv (Zb t (g0 fl)).2 (Zb t (g0 fl)).1).jq.length:=by
  show(if 4<=fl then Zch _ else _).length=_;split
  ·exact(ZiE _ _ (Zi2 _ _)).2
  ·rfl
 have i:=(Zew t (g0 fl) e).1;have e1:(g0 fl).kw.length=0:=rfl;have e2:(g0 fl).qx.length=0:=rfl;have q:=Zkj t (g0 fl) e f ⟨fun y a=>(by cases a),fun y a=>(by cases a)⟩;have o:=Zno t (g0 fl) p ⟨fun y a=>(by cases a),fun y a=>(by cases a)⟩;refine⟨⟨?_,?_,?_,by omega,fun x d=>?_⟩,by omega,n▸Zoo _ _⟩
 ·have:(LS.codeOf t _).jj.length<=(Zv _ _).jq.length:=m;omega
 ·have:=i.s1;show(Zb t (g0 fl)).2.kw.length<_;omega
 ·have:=i.r1;show(Zb t (g0 fl)).2.qx.length<_;omega
 ·unfold Ze9 at d;rcases Yar.1 d with d|d
  ·obtain⟨y,a,rfl⟩:=Ybe.1 d;have k:=q.1 y a;have v:=o.1 y a;have r:=Zfy _ 1 k.wf;rw[Zm5 y k.jk]at r;have s:wT (Zbg y.1)=ownW _:=rfl;unfold ZI;have e10:(10) ^ (9+1)=10000000000:=by decide
   have hd:(decS _).length<=10:=ZhZ 9 y.2 (by rw[e10];have:=k.len;omega);rw[Yab];split
   ·simp_all;omega
   simp_all;omega
  ·obtain⟨y,a,rfl⟩:=Ybe.1 d;have:=o.2 y a;have:=ZeS y;omega
end
end Go.Proofs.YtcdgkkfipdoeeaaGreatDoor
