/- Parts. -/
import Derived.Test.YtpbemaaghbbocaaGreatDoorE20
set_option linter.all false
set_option maxRecDepth 100000
set_option maxHeartbeats 16000000
namespace Go.Proofs.YtpbemaaghbbocaaGreatDoor
open Go.RowKit LS Go.Proofs.Tryz
variable {sc:Bool}{rs rs' xs ys zs zs':List (Value×El)}{c xa:List Value}{a:Nat}{V:VV}{v v' vv xv:Value}{W w w' wr:World}
def eqZ(zl:List Lab)(f:Value×El):Bool:=decide (wrt zl=wrt f.2.1)
def FV(op:Nat)(ys:List (Value×El))(z:Value×El):List (Value×El):=(ys.filter (eqZ z.2.1)).map (fun f=>(z.1,z.2.1,twoV op z.2.2 f.2.2))
theorem ZKw(op:Nat)(ys:List (Value×El)):∀l:List (Value×El),(l.flatMap (FV op ys)).length<=l.length*ys.length
 | []=>by simp
 | z :: l => by
   rw[Ycd,Yab,Yaj,Nat.succ_mul];have a:=ZKw op ys l;have c:(FV op ys z).length<=ys.length:=by unfold FV;rw[Yak];exact Ydj _ _
   omega
theorem Zh3{α β:Type}(f:α->List β)(l:List α)(k:Nat)(h:k<l.length):(l.take (k+1)).flatMap f=(l.take k).flatMap f++f l[k]:=by
 rw[List.take_succ_eq_append_getElem h,List.flatMap_append];simp
theorem ZMp{α:Type}(p:α->Bool)(l:List α)(k:Nat)(h:k<l.length):(l.take (k+1)).filter p=(l.take k).filter p++(if p l[k] then [l[k]] else []):=by
 rw[List.take_succ_eq_append_getElem h,Ygd]
 congr 1
 by_cases a:p l[k]=true
 ·rw[if_pos a,Yda a];rfl
 ·rw[if_neg a,Ydb a];rfl
theorem ZLo{op:Nat}(d:∀z∈xs,ElOk w z):∀z∈xs.flatMap (FV op ys),ElOk w z:=by
 intro z e;obtain⟨x,c,a⟩:=List.mem_flatMap.1 e;unfold FV at a;obtain⟨f,_,rfl⟩:=Ybe.1 a;have:=d x c;exact⟨this.1,Zhj _ _ _ this.2⟩
def SV(w:World)(g gy i j xl sl yl tl:Nat)(zv:Value)(zn yn:Int)(vv:Value)(w':World):Prop:=w'.cell? ⟨w.heap.size,2,none⟩=some (.slice (some ⟨g,0,none⟩) xl sl)/\w'.cell? ⟨g,i*2,none⟩=some zv/\w'.cell? ⟨g,i*2+1,none⟩=some (Vi zn)/\w'.cell? ⟨w.heap.size+1,2,none⟩=some (.slice (some ⟨gy,0,none⟩) yl tl)/\w'.cell? ⟨gy,j*2+1,none⟩=some (Vi yn)/\w'.cell? ⟨w.heap.size+3,2,none⟩=some vv
theorem ZLt(op:Nat)(a:op<=3)(m n:Int)(c:vOk m)(d:vOk n)(ea fa:Option Addr)(ec fc:Nat)(w:World) :
  CP 57 #[Vi op,.agg #[.bool true,Vi m,.slice ea 0 ec],.agg #[.bool true,Vi n,.slice fa 0 fc]] w fun e u=>e=.returned (.agg #[.bool true,Vi (twoV op m n),S0])/\BW w u:=by
 have f:Hid (∀W,CP 106 #[Vi op,Vi m,Vi n] W fun e u=>e=.returned (Vi (twoV op m n))/\u=W):=hid (fun W=>ZKv op a m n c d W);clear c d;generalize twoV op m n=tw at *
 go_enter func57,ntmps57
 go_wp2_with fail
 refine(f.out _).mono ?_;rintro e y ⟨rfl,rfl⟩;go_wp2;exact bodyPost_ret (v:=.agg #[.bool true,Vi tw,S0]) (by simp[results,results57,go_sem]) rfl ⟨rfl,belB⟩
theorem ZLw(op:Nat)(c2:op<=3){u:Value}(xs ys:List (Value×El))(w:World)(h:ElsV w v xs)(h2:ElsV w u ys)(c3:xs.length<=1000)(a4:ys.length<=1000) :
  CP 57 #[Vi op,.agg #[.bool false,Vi 0,v],.agg #[.bool false,Vi 0,u]] w fun e t=>∃v',e=.returned (.agg #[.bool false,Vi 0,v'])/\Hid (ElsV t v' (xs.flatMap (FV op ys)))/\BW w t:=by
 obtain⟨sa,sl,rfl⟩:=Zl h.own;obtain⟨ta,tl,rfl⟩:=Zl h2.own;have R:Hid (ElsV w (.slice sa xs.length sl) xs):=h;have HY:Hid (ElsV w (.slice ta ys.length tl) ys):=h2;obtain⟨i0,hi,c4,c5,c6⟩:=info_parts Tryz.infoREl;clear h h2;go_enter func57,ntmps57
 go_upto_region 2 with fail
 refine ZP fun W0 a5=>?_;have G:Hid (ArI w W0 [.bool false,Vi 0,.slice sa xs.length sl] [.bool false,Vi 0,.slice ta ys.length tl] S0 []):=hid (by rw[a5];exact ArI.start w _ _ _ _ _ _);clear a5;have x0:=G.xb.cell 0;have y0:=G.yb.cell 0;simp only[Zget]at x0 y0;go_wp2;clear x0 y0
 go_loopg [9] xs.length (fun gk v9 wr=>∃(i:Nat) (vv:Value),i<=xs.length/\gk=xs.length - i/\v9=Vi i/\Hid (ArI w wr [.bool false,Vi 0,.slice sa xs.length sl] [.bool false,Vi 0,.slice ta ys.length tl] vv ((xs.take i).flatMap (FV op ys))))
 case atStart=>exact⟨0,_,Yag _,rfl,rfl,G⟩
 case round=>
  clear G;obtain⟨i,vv,e3,e4,rfl,l⟩:=hrel;obtain⟨va,vc,H⟩:=Zl l.own;subst H;have x2:=l.xb.cell 2;have y0:=l.yb.cell 0;simp only[Zget]at x2 y0;by_cases C:i<xs.length
  ·obtain⟨g,cpx,D⟩:=ZF R.own Om;injection D with hg1 _ hg2;subst hg1 hg2;have S:Hid (ElsV wr (.slice (some ⟨g,0,none⟩) xs.length sl) xs):=R.below l.bel;have r0:=Zi S.own _ _ (by rw[(ZJy xs i).1,List.getElem?_eq_getElem C];rfl);have HR:Hid (∀W:World,W.ownsRow 0 128 2 (.slice (some ⟨g,0,none⟩) xs.length sl) xs.length (ZJp xs)->W.cell? ⟨g,i*2,none⟩=some (xs[i]).1/\W.cell? ⟨g,i*2+1,none⟩=some (Vi (xs[i]).2.2)):=hid (fun W h=>⟨Zi h _ _ (by rw[(ZJy xs i).1,List.getElem?_eq_getElem C];rfl),Zi h _ _ (by rw[(ZJy xs i).2,List.getElem?_eq_getElem C];rfl)⟩);have T:=S.ok _ (List.getElem_mem C);have HT:=hid (Zh3 (FV op ys) xs i C);have U:g<w.heap.size:=Z1 R.own;generalize xs[i]=z at *
   obtain⟨zv,zl,zn⟩:=z;obtain⟨⟨qz,I⟩,a6⟩:=T;have c7:Hid (vOk zn):=a6;simp only at r0 I HR;obtain⟨lz,cz,rfl⟩:=Zl I.own;have a7:Hid (LabsV wr (.slice lz qz.length cz) zl qz):=I;have c8:=hid U;clear I a6 U S
   go_wp2_with fail
   refine(ZJ3 zl qz (by exact a7.out)).mono ?_;rintro e w2 ⟨kx,rfl,c9,n2,a8⟩;have J:=hid (l.below (w':=w2) (by rw[a8];exact ZhQ (Yaf _ _) _));clear a8 x2 y0 r0 l a7;obtain⟨pre,A⟩:∃pre,pre=(xs.take i).flatMap (FV op ys):=⟨_,rfl⟩
   have a3:pre.length<=i*ys.length:=by
    rw[A];have V:=ZKw op ys (xs.take i);rw[Ya7,Yc3 Om]at V;exact V
   have d0:Hid (pre.length<=1000000 - 1000):=hid (by
    have:i*ys.length<=999*1000:=Ygq Om a4;omega)
   rw[<-A]at J HT;have e2:=hid A;clear A a3;obtain⟨XA,X⟩:∃XA:List Value,XA=[.bool false,Vi 0,.slice (some ⟨g,0,none⟩) xs.length sl]:=⟨_,rfl⟩
   obtain⟨YA,Y⟩:∃YA:List Value,YA=[.bool false,Vi 0,.slice ta ys.length tl]:=⟨_,rfl⟩
   rw[<-X,<-Y]at J;have L:=hid (And.intro X Y);clear X Y;go_wp2
   go_loopg [11] ys.length (fun gj v11 wr=>∃(j:Nat) (vv:Value),j<=ys.length/\gj=ys.length - j/\v11=Vi j/\Hid (ArI w wr XA YA vv (pre++((ys.take j).filter (eqZ zl)).map (fun f=>(.slice lz qz.length cz,zl,twoV op zn f.2.2)))))
   case atStart=>exact⟨0,_,Yag _,rfl,rfl,hid (by rw[List.take_zero,Ygp,Ydg,Yca];exact J.out)⟩
   case round=>
    clear J;obtain⟨j,vv,hj,e5,rfl,l⟩:=hrel;have y2:=l.yb.cell 2;rw[L.2]at y2;simp only[Zget]at y2;by_cases M:j<ys.length
    ·obtain⟨gy,cpy,d1⟩:=ZF HY.own Om;injection d1 with hgy1 _ hgy2;subst hgy1 hgy2;have E:Hid (ElsV wr (.slice (some ⟨gy,0,none⟩) ys.length tl) ys):=HY.below l.bel;have q0:=Zi E.own _ _ (by rw[(ZJy ys j).1,List.getElem?_eq_getElem M];rfl);have q1:=Zi E.own _ _ (by rw[(ZJy ys j).2,List.getElem?_eq_getElem M];rfl);have T:=E.ok _ (List.getElem_mem M);have r:=hid (ZMp (eqZ zl) ys j M);have Z:=Z1 E.own;have a0:gy<w.heap.size:=Z1 HY.own;generalize ys[j]=y at *
     obtain⟨yv,yl,yn⟩:=y;obtain⟨⟨qy,N⟩,a9⟩:=T;have d2:Hid (vOk yn):=a9;simp only at q0 q1 N r;obtain⟨ly,cy,rfl⟩:=Zl N.own;have b3:Hid (LabsV wr (.slice ly qy.length cy) yl qy):=N;have d3:=hid a0;clear N a9 a0 E;obtain⟨os,O⟩:∃os,os=pre++((ys.take j).filter (eqZ zl)).map (fun f=>((.slice lz qz.length cz,zl,twoV op zn f.2.2):Value×El)):=⟨_,rfl⟩
     have c1:os.length<=1000000:=by
      rw[O,Yab,Yak];have V:=Ydj (eqZ zl) (ys.take j);rw[Ya7]at V;have:=d0.out;omega
     rw[<-O]at l;have b4:=hid O;clear O
     go_wp2_with fail
     refine(ZJ3 yl qy (by exact b3.out)).mono ?_;rintro e q ⟨ux,rfl,d4,n4,b5⟩;have a1:BW wr q:=by rw[b5];exact ZhQ (Yaf _ _) _
     have m:=hid (l.below a1);have q14:q.cell? ⟨gy,j*2+1,none⟩=_:=(a1.cell (p:=⟨gy,j*2+1,none⟩) Z).trans q1;clear b5 a1 y2 q0 q1 l b3 Z;have b6:Hid ((kx.toList == ux.toList)=eqZ zl (.slice ly qy.length cy,yl,yn)):=hid (by rw[ZJ1,d4.out,c9.out];unfold eqZ;rfl);cases hm:eqZ zl (.slice ly qy.length cy,yl,yn)with
     | false=>
      have he:(kx.toList == ux.toList)=false:=by rw[b6.out,hm]
      rw[hm]at r;rw[if_neg Dc,Yca]at r;go_wp2
      go_roundg (ys.length - (j+1))
      case measure=>omega
      case rel=>exact⟨j+1,vv,by omega,rfl,by go_num,hid (by rw[r.out,<-b4.out];exact m.out)⟩
     | true=>
      have he:(kx.toList == ux.toList)=true:=by rw[b6.out,hm]
      rw[hm]at r;rw[if_pos rfl]at r;obtain⟨n1,P⟩:∃n1,n1=os.length:=⟨_,rfl⟩
      rw[<-P]at c1;obtain⟨va,vc,H⟩:=Zl m.own;rw[<-P]at H;subst H;have b7:Hid (os.length=n1):=hid P.symm;clear P;obtain⟨R0,R1⟩:=HR.out q (R.below m.bel).own;have x2:=m.xb.cell 2;have y2:=m.yb.cell 2;have v2:=m.vb.cell 2;rw[L.1]at x2;rw[L.2]at y2;simp only[Zget]at x2 y2 v2;have b8:Hid (∀o,(q.drew.alloc o).ownsRow (w.heap.size+4) 128 2 (.slice va n1 vc) n1 (ZJp os)):=hid (fun o=>by have:=m.own;rw[b7.out]at this;exact this.drew.alloc o);have b9:Hid (∀o,ArI w (q.drew.alloc o) XA YA (.slice va n1 vc) os):=hid (fun o=>m.below (((Yaf _ _).drew).alloc (Yac _) _));have d5:Hid (∀o,(q.drew.alloc o).heap[q.heap.size]?=some o):=hid (fun o=>Go.Deep.blk_alloc_new q.drew o);have e6:=m.vb.lt;have c0:SV w g gy i j xs.length sl ys.length tl (.slice lz qz.length cz) zn yn (.slice va n1 vc) q.drew:=⟨x2,R0,R1,y2,q14,v2⟩
      have d6:Hid (∀o,SV w g gy i j xs.length sl ys.length tl (.slice lz qz.length cz) zn yn (.slice va n1 vc) q.drew->SV w g gy i j xs.length sl ys.length tl (.slice lz qz.length cz) zn yn (.slice va n1 vc) (q.drew.alloc o)):=hid (fun o ⟨a,b,c,d,e,f⟩=>⟨ZJw a o,ZJw b o,ZJw c o,ZJw d o,ZJw e o,ZJw f o⟩)
      have d7 : Hid (∀ W F : World, SV w g gy i j xs.length sl ys.length tl (.slice lz qz.length cz) zn yn (.slice va n1 vc) W -> W.grownBy F (Value.slice va n1 vc).ownBlock -> SV w g gy i j xs.length sl ys.length tl (.slice lz qz.length cz) zn yn (.slice va n1 vc) F) := hid (fun W F ⟨a, b, c, d, e, f⟩ D => by
        have x:∀j,j<w.heap.size+4->some j≠(Value.slice va n1 vc).ownBlock:=fun j hj he=>by have:=(m.own.lt j he.symm).1;omega
        have:=c8.out;have:=d3.out;exact⟨ZJx D a (x _ (by show w.heap.size<_;omega)),ZJx D b (x _ (by show g<_;omega)),ZJx D c (x _ (by show g<_;omega)),ZJx D d (x _ (by show w.heap.size+1<_;omega)),ZJx D e (x _ (by show gy<_;omega)),ZJx D f (x _ (by show w.heap.size+3<_;omega))⟩)
      clear R0 R1 x2 y2 v2 q14
      go_upto_region 23 with fail
      refine Zbn 26 (fun t=>t.cell? ⟨w.heap.size,2,none⟩=some (.slice (some ⟨g,0,none⟩) xs.length sl)/\t.cell? ⟨g,i*2,none⟩=some (.slice lz qz.length cz)/\t.cell? ⟨g,i*2+1,none⟩=some (Vi zn)/\t.cell? ⟨w.heap.size+1,2,none⟩=some (.slice (some ⟨gy,0,none⟩) ys.length tl)/\t.cell? ⟨gy,j*2+1,none⟩=some (Vi yn)/\t.cell? ⟨w.heap.size+3,2,none⟩=some (.slice va n1 vc)) Kr (by exact c0) (fun k=>?_);clear c0;refine Za 0 k (h:=?_);refine Za 1 k (h:=?_);refine Za 2 k (h:=?_);refine Za 3 k (h:=?_);refine Za 4 k (h:=?_);refine Za 5 k (h:=?_);refine Za 6 k (h:=?_);refine Za 7 k (h:=?_);refine Za 8 k (h:=?_);refine Za 9 k (h:=?_);refine Za 10 k (h:=?_);refine Za 11 k (h:=?_);refine Za 12 k (h:=?_);refine Za 13 k (h:=?_);refine Za 14 k (h:=?_);refine Za 15 k (h:=?_);refine Za 16 k (h:=?_);refine Za 17 k (h:=?_);refine Za 18 k (h:=?_);refine Za 19 k (h:=?_);refine Za 20 k (h:=?_);refine Z4 (i:=21) Kr rfl (fun K s=>?_);go_simp;refine(ZKv op c2 zn yn c7.out d2.out _).mono ?_;rintro e F ⟨rfl,rfl⟩;go_simp;refine s.out _ _ k (fun k=>?_);clear s K
      try simp only[Act.put,Zset]
      refine Za 22 k (h:=?_);refine Z4 (i:=23) Kr rfl (fun K s=>?_);go_simp;refine s.out _ _ (d6.out _ k) (fun k=>?_);clear s K
      try simp only[Act.put,Zset]
      refine Z4 (i:=24) Kr rfl (fun K s=>?_);refine ZfF rfl (.tmp 116) (.tmp 138) 74 rfl (w.heap.size+4) 128 i0 _ 2 32 underlying74 hi c4 c5 c6 rfl Dc (.slice va n1 vc) n1 (ZJp os) (by simp[Act.eval]) (by exact b8.out _) ⟨q.heap.size,0,none⟩ 1 1 [.slice lz qz.length cz,Vi (twoV op zn yn)] (by simp[Act.eval]) rfl ?h2 ?h3 ?h4 ?h5 ?h6 ?_
      case h2=>first|exact ZcY (d5.out _)|exact ZcY rfl|exact Zn9 (by first|simp|exact(Ydm _ _ _ _ (by simp)).trans rfl) (by first|simp|exact(Ydm _ _ _ _ (by simp)).trans rfl)
      case h3=>intro u hu;simp at hu;rcases hu with rfl|rfl <;> rfl
      case h4=>unfold maxLen;omega
      case h5=>omega
      case h6=>simp;omega
      intro v1 F B n _;obtain⟨g1,cp1,d8⟩:=ZF B Om;subst d8;have HN:Hid (ArI w (F.setCell ⟨w.heap.size+3,2,none⟩ (.slice (some ⟨g1,0,none⟩) (n1+1) cp1)) XA YA (.slice (some ⟨g1,0,none⟩) (n1+1) cp1) (os++[(.slice lz qz.length cz,zl,twoV op zn yn)])):=hid ((b9.out _).app (by exact n) (by rw[ZJW,Yab,b7.out];exact B));have a2:BAt F (w.heap.size+3) [.bool false,Vi 0,.slice va n1 vc] 76:=(b9.out _).vb.ownGrown (b8.out _) n Dc;have d9:=d7.out _ F (by exact k) (by exact n);refine s.out _ _ d9 (fun k=>?_);clear s K
      try simp only[Act.put,Zset]
      refine Za 25 k (h:=?_);refine Zbl Kr Kr rfl Kr (fun K s=>?_);have y2:=a2.cell 2;have yf:=a2.frozen 2;simp only[Zget]at y2;clear a2 B n;go_simp;refine s.out _ _ ?_;clear s K;go_wp2
      go_roundg (ys.length - (j+1))
      case measure=>omega
      case rel=>exact⟨j+1,_,by omega,rfl,by go_num,hid (by rw[r.out,Yaq,<-Yan,<-b4.out];exact HN.out)⟩
    ·obtain rfl:j=ys.length:=by omega
     rw[Ya4]at l;go_wp2
     go_roundg (xs.length - (i+1))
     case measure=>omega
     case rel=>exact⟨i+1,vv,by omega,rfl,by go_num,hid (by rw[HT.out];obtain⟨hX,hY⟩:=L.out;rw[<-hX,<-hY];exact l.out)⟩
  ·obtain rfl:i=xs.length:=by omega
   rw[Ya4]at l;have b0:=l.vb.cell 0;have b1:=l.vb.cell 1;have b2:=l.vb.cell 2;have z0:=l.rb.frozen 0;have z1:=l.rb.frozen 1;have z2:=l.rb.frozen 2;have t0:=l.rb.cell 0;have t1:=l.rb.cell 1;have t2:=l.rb.cell 2;simp only[Zget]at b0 b1 b2 t0 t1 t2
   have Q:=hid (l.done (by
    have V:=ZKw op ys xs;have:xs.length*ys.length<=1000*1000:=Ygq c3 a4;omega) (ZLo (fun z hz=>(R.ok z hz).below l.bel)))
   generalize(xs.flatMap (FV op ys)).length=nn at *
   go_wp2;change bodyPost _ _ _ _ _ (set3 wr (w.heap.size+2) (.bool false) (Vi 0) (.slice va nn vc));have s0:=Q.1.cell 0;have s1:=Q.1.cell 1;have s2:=Q.1.cell 2;simp only[Zget]at s0 s1 s2;have e0:=hid Q.2.1;have e1:=hid Q.2.2;clear Q;generalize set3 wr (w.heap.size+2) (.bool false) (Vi 0) (.slice va nn vc)=WX at *
   exact bodyPost_ret (v:=.agg #[.bool false,Vi 0,.slice va nn vc]) (by simp[results,results57,go_sem,s0,s1,s2]) rfl ⟨.slice va nn vc,rfl,e0,e1.out⟩
theorem ElsV.set(h:ElsV W v zs)(k:BAt W a c 76)(i:Nat)(u:Value):ElsV (W.setCell ⟨a,i,none⟩ u) v zs:=by
 have g:∀j,j≠a->(W.setCell ⟨a,i,none⟩ u).heap[j]?=W.heap[j]?:=fun j d=>Go.Deep.blk_setCell_other _ _ _ _ d;refine⟨ZdA h.own (fun j d=>g j (fun e=>Zcx h.own k Dc (by rw[d,e]))),h.len,fun z l=>?_⟩;obtain⟨⟨qs,f⟩,m⟩:=h.ok z l;exact⟨⟨qs,ZdA f.own (fun j d=>g j (fun e=>Zcx f.own k Dc (by rw[d,e]))),f.say,f.len,f.ok⟩,m⟩
structure GrI (w wr:World) (xa:List Value) (vv:Value) (rs:List (Value×El)):Prop where
 bel:BW w wr
 xb:BAt wr w.heap.size xa 76
 rb:BAt wr (w.heap.size+1) [.bool false,Vi 0,S0] 76
 vb:BAt wr (w.heap.size+2) [.bool false,Vi 0,vv] 76
 els:ElsV wr vv rs
theorem GrI.below(h:GrI w wr xa vv rs)(a:BW wr w'):GrI w w' xa vv rs:=
 ⟨h.bel.trans (a.mono h.bel.size),h.xb.below a,h.rb.below a,h.vb.below a,h.els.below a⟩
theorem GrI.put(h:GrI w wr xa vv rs)(d:ElsV wr v' rs'):GrI w (wr.setCell ⟨w.heap.size+2,2,none⟩ v') xa v' rs':=by
 have a:∀j,j≠w.heap.size+2->(wr.setCell ⟨w.heap.size+2,2,none⟩ v').heap[j]?=wr.heap[j]?:=fun j e=>Go.Deep.blk_setCell_other _ _ _ _ e;refine⟨h.bel.setCell (p:=⟨w.heap.size+2,2,none⟩) (by show w.heap.size<=w.heap.size+2;omega) _,(a _ Om).trans h.xb,(a _ Om).trans h.rb,?_,d.set h.vb 2 v'⟩;have c:=h.vb;unfold BAt at c ⊢;simp only[World.setCell,Ybn,c,if_true,Ybf];rfl
theorem GrI.done{va:Option Addr}{vn vc:Nat}(h:GrI w wr xa (.slice va vn vc) rs) :
  BAt (set3 wr (w.heap.size+1) (.bool false) (Vi 0) (.slice va vn vc)) (w.heap.size+1) [.bool false,Vi 0,.slice va vn vc] 76/\ElsV (set3 wr (w.heap.size+1) (.bool false) (Vi 0) (.slice va vn vc)) (.slice va vn vc) rs/\BW w (set3 wr (w.heap.size+1) (.bool false) (Vi 0) (.slice va vn vc)):=by
 refine⟨Zcr h.rb (x:=.bool false) (y:=Vi 0) (z:=.slice va vn vc),?_,(((h.bel.setCell (p:=⟨w.heap.size+1,0,none⟩) (by show w.heap.size<=w.heap.size+1;omega) _).setCell (p:=⟨w.heap.size+1,1,none⟩) (by show w.heap.size<=w.heap.size+1;omega) _).setCell (p:=⟨w.heap.size+1,2,none⟩) (by show w.heap.size<=w.heap.size+1;omega) _)⟩;have e:=h.els;refine⟨ZdA e.own (fun j c=>Zsf (fun e'=>Zcx e.own h.rb Dc (by rw[c,e']))),e.len,fun z d=>?_⟩;obtain⟨⟨qs,a⟩,f⟩:=e.ok z d;exact⟨⟨qs,ZdA a.own (fun j c=>Zsf (fun e'=>Zcx a.own h.rb Dc (by rw[c,e']))),a.say,a.len,a.ok⟩,f⟩
theorem GrI.start(w:World)(x0 x1 x2:Value):GrI w (((w.alloc (.cells #[x0,x1,x2] 76)).alloc (.cells #[.bool false,Vi 0,S0] 76)).alloc (.cells #[.bool false,Vi 0,S0] 76)) [x0,x1,x2] S0 []:=by
 have g3:BAt (w.alloc (.cells #[x0,x1,x2] 76)) w.heap.size [x0,x1,x2] 76:=Go.Deep.blk_alloc_new w _
 have g2:BAt ((w.alloc (.cells #[x0,x1,x2] 76)).alloc (.cells #[.bool false,Vi 0,S0] 76)) (w.heap.size+1) [.bool false,Vi 0,S0] 76:=by
  have:=Go.Deep.blk_alloc_new (w.alloc (.cells #[x0,x1,x2] 76)) (.cells #[.bool false,Vi 0,S0] 76)
  rwa [Yf7]at this
 have g0:=Go.Deep.blk_alloc_new ((w.alloc (.cells #[x0,x1,x2] 76)).alloc (.cells #[.bool false,Vi 0,S0] 76)) (.cells #[.bool false,Vi 0,S0] 76);rw[Yf7,Yf7]at g0;exact⟨belB,(g3.alloc _).alloc _,g2.alloc _,g0,⟨Ybc _ _ _ _,by simp,by simp⟩⟩
theorem ZKZ (op : Nat) (bs : List (LB)) (all : List El) (e : El) : ∀ (l pre : List El), ZcF op bs all pre (l ++ [e]) = ZcF op bs all pre l ++ (if (pre ++ l).any (fun f => decide (wrt (ZB f.1 bs) = wrt (ZB e.1 bs))) then [] else [(ZB e.1 bs, cutV (ZfI op ((all.filter fun f => decide (wrt (ZB f.1 bs) = wrt (ZB e.1 bs))).map (·.2))))])
  | [],pre=>by simp only[Ycu,ZcF,Yca]
  | x :: l, pre => by
    rw[Yby,ZcF,ZcF,ZKZ op bs all e l (pre++[x]),Yan,Yan];rfl
def mtZ(bs:List (LB))(zl:List Lab)(z:Value×El):Bool:=decide (wrt (ZB z.2.1 bs)=wrt (ZB zl bs))
theorem ZNM{α:Type}{p:α->Bool}{l:List α}{k:Nat}(h:k<l.length):(l.take (k+1)).any p=((l.take k).any p || p l[k]):=by
 rw[List.take_succ_eq_append_getElem h,List.any_append];simp
theorem ZNN{α:Type}(p:α->Bool)(l:List α)(k:Nat)(h:k<l.length):(l.take (k+1)).filter p=(l.take k).filter p++(if p l[k] then [l[k]] else []):=by
 rw[List.take_succ_eq_append_getElem h,Ygd]
 congr 1
 by_cases a:p l[k]=true
 ·rw[if_pos a,Yda a];rfl
 ·rw[if_neg a,Ydb a];rfl
theorem ZMz(op:Nat)(i5:op<=3)(bv:Value)(ns:List BA)(zs:List (Value×El))(w:World)(s:NamsV w bv ns)(h:ElsV w v zs)(f2:zs.length<=1000) :
  CP 56 #[Vi op,bv,.agg #[.bool false,Vi 0,v]] w fun e t=>∃(v':Value) (rs:List (Value×El)),e=.returned (.agg #[.bool false,Vi 0,v'])/\Hid (ElsV t v' rs)/\Hid (rs.map (·.2)=Zcv op (ns.map bl) (zs.map (·.2)))/\BW w t:=by
 obtain⟨sa,sl,rfl⟩:=Zl h.own;obtain⟨ba,bc,rfl⟩:=Zl s.own;have HS:Hid (ElsV w (.slice sa zs.length sl) zs):=h;have HN:Hid (NamsV w (.slice ba ns.length bc) ns):=s;obtain⟨i0,hi,f3,f4,f5⟩:=info_parts Tryz.infoRSample;clear h s;go_enter func56,ntmps56
 go_upto_region 2 with fail
 refine ZP fun W0 c9=>?_;have d0:Hid (GrI w W0 [.bool false,Vi 0,.slice sa zs.length sl] S0 []):=hid (by rw[c9];exact GrI.start w _ _ _);clear c9;go_wp2
 go_loopg [8] zs.length (fun gk v8 wr=>∃(i:Nat) (vv:Value) (rs:List (Value×El)),i<=zs.length/\gk=zs.length - i/\v8=Vi i/\Hid (GrI w wr [.bool false,Vi 0,.slice sa zs.length sl] vv rs)/\Hid (rs.map (·.2)=(ZcF op (ns.map bl) (zs.map (·.2)) [] ((zs.map (·.2)).take i)).foldl Zcd [])/\Hid (rs.length<=i))
 case atStart=>exact⟨0,_,[],Yag _,rfl,rfl,d0,hid rfl,hid (Yac _)⟩
 case round=>
  clear d0;obtain⟨i,vv,rs,i6,i7,rfl,k,HG,a0⟩:=hrel;have x2:=k.xb.cell 2;simp only[Zget]at x2;by_cases L:i<zs.length
  ·obtain⟨g,cpx,hg⟩:=ZF HS.own Om;injection hg with hg1 _ hg2;subst hg1 hg2;have m:Hid (ElsV wr (.slice (some ⟨g,0,none⟩) zs.length sl) zs):=HS.below k.bel;have r0:=Zi m.own _ _ (by rw[(ZJy zs i).1,List.getElem?_eq_getElem L];rfl);have a1:=m.ok _ (List.getElem_mem L)
   have a2:Hid (ZcF op (ns.map bl) (zs.map (·.2)) [] ((zs.map (·.2)).take (i+1))=ZcF op (ns.map bl) (zs.map (·.2)) [] ((zs.map (·.2)).take i)++(if (zs.take i).any (mtZ (ns.map bl) (zs[i]).2.1)then [] else [(ZB (zs[i]).2.1 (ns.map bl),cutV (ZfI op ((zs.filter (mtZ (ns.map bl) (zs[i]).2.1)).map (·.2.2))))])):=hid (by
    have f6:i<(zs.map (·.2)).length:=by rw[Yak];exact L
    have e1:(zs.map (·.2))[i]=(zs[i]).2:=List.getElem_map ..;rw[List.take_succ_eq_append_getElem f6,ZKZ,Ycu,e1,<-Yer,List.any_map,List.filter_map,Yb1];rfl)
   have d1:Hid (mtZ (ns.map bl) (zs[i]).2.1 zs[i]=true):=hid (by unfold mtZ;simp);have e8:Hid (zs[i]∈zs):=hid (List.getElem_mem L);generalize zs[i]=z at *
   obtain⟨zv,zl,zn⟩:=z;obtain⟨⟨qz,M⟩,f7⟩:=a1;simp only at r0 M a2 d1;obtain⟨lz,cz,rfl⟩:=Zl M.own;have d2:Hid (LabsV wr (.slice lz qz.length cz) zl qz):=M;have F:Hid (NamsV wr (.slice ba ns.length bc) ns):=HN.below k.bel;clear M f7 m
   go_wp2_with fail
   refine(ZK4 zl qz ns d2.out F.out).mono ?_;rintro e Z ⟨lv,ql,rfl,N,E⟩;have d3:=hid (k.below E);clear E x2 r0 k d2 F;obtain⟨la1,lc1,f8⟩:=Zl N.own;subst f8
   go_wp2_with fail
   refine(ZJ3 _ ql N.out).mono ?_;rintro e l ⟨kx,rfl,f9,n2,d4⟩;have a4:BW Z l:=by rw[d4];exact ZhQ (Yaf _ _) _
   have O:=hid (d3.below a4);have g0:=hid (N.below a4);clear a4 d4 d3 N;obtain⟨XA,a5⟩:∃XA:List Value,XA=[.bool false,Vi 0,.slice (some ⟨g,0,none⟩) zs.length sl]:=⟨_,rfl⟩
   have P:=hid a5;rw[<-a5]at O;clear a5;have g1:Hid (∀W,BW l W->GrI w W XA vv rs):=hid (fun W s=>O.below s);go_wp2
   go_loopg [11,12,13] zs.length (fun gj v11 v12 v13 wr=>∃(j:Nat) (ss:List (Int×Int)) (f:Bool),j<=zs.length/\gj=zs.length - j/\v13=Vi j/\v12=.bool f/\Hid (wr.ownsRow l.heap.size 220 2 v11 ss.length (Zca ss))/\Hid (ss=((zs.take j).filter (mtZ (ns.map bl) zl)).map (fun z=>(0,z.2.2)))/\Hid (f=!((zs.take (min j i)).any (mtZ (ns.map bl) zl)))/\Hid (GrI w wr XA vv rs)/\Hid (BW l wr))
   case atStart=>exact⟨0,[],true,Yag _,rfl,rfl,rfl,Ybc _ _ _ _,hid rfl,hid (by simp),O,Yaf _ _⟩
   case round=>
    clear O;obtain⟨j,ss,f,hj,i8,rfl,rfl,HO,d,HF,c,Q⟩:=hrel;obtain⟨s1,c1,g2⟩:=Zl HO.out;subst g2;have x2:=c.xb.cell 2;rw[P.out]at x2;simp only[Zget]at x2;by_cases G:j<zs.length
    ·have m:Hid (ElsV wr (.slice (some ⟨g,0,none⟩) zs.length sl) zs):=HS.below c.bel;have r0:=Zi m.own _ _ (by rw[(ZJy zs j).1,List.getElem?_eq_getElem G];rfl);have r1:=Zi m.own _ _ (by rw[(ZJy zs j).2,List.getElem?_eq_getElem G];rfl);have a6:=Z1 m.own;have a1:=m.ok _ (List.getElem_mem G);have n:=hid (ZNN (mtZ (ns.map bl) zl) zs j G)
     have o : Hid ((zs.take (min (j + 1) i)).any (mtZ (ns.map bl) zl) = ((zs.take (min j i)).any (mtZ (ns.map bl) zl) || (decide (j < i) && mtZ (ns.map bl) zl zs[j]))) := hid (by
       by_cases A:j<i
       · rw[show min (j+1) i=j+1 by omega,show min j i=j by omega,ZNM G];simp[A]
       · rw[show min (j+1) i=i by omega,show min j i=i by omega];simp[A])
     generalize zs[j]=y at *
     obtain⟨yv,yl,yn⟩:=y;obtain⟨⟨qy,R⟩,d5⟩:=a1;have i9:Hid (vOk yn):=d5;simp only at r0 r1 R n o;obtain⟨ly,cy,rfl⟩:=Zl R.own;have d6:Hid (LabsV wr (.slice ly qy.length cy) yl qy):=R;have F:Hid (NamsV wr (.slice ba ns.length bc) ns):=HN.below c.bel;clear R d5 m
     go_wp2_with fail
     refine(ZK4 yl qy ns d6.out F.out).mono ?_;rintro e H ⟨uv,qu,rfl,a7,r⟩;have d7:=hid (c.below r);have B:Hid (BW l H):=Q.trans (r.mono Q.size);have d8:=hid (Zn HO.out r);have r13:H.cell? ⟨g,j*2+1,none⟩=_:=(r.cell (p:=⟨g,j*2+1,none⟩) a6).trans r1;have a8:g<H.heap.size:=Yaw a6 r.size;clear r x2 r0 r1 a6 c Q HO d6 F;obtain⟨la3,lc3,e9⟩:=Zl a7.own;subst e9
     go_wp2_with fail
     refine(ZJ3 _ qu a7.out).mono ?_;rintro e w4 ⟨ux,rfl,g3,n4,d9⟩;have I:BW H w4:=by rw[d9];exact ZhQ (Yaf _ _) _
     have e0:=hid (d7.below I);have S:Hid (BW l w4):=B.trans (I.mono B.size);have a9:=hid (Zn d8.out I);have r14:w4.cell? ⟨g,j*2+1,none⟩=_:=(I.cell (p:=⟨g,j*2+1,none⟩) a8).trans r13;clear I d9 r13 d7 B d8 a7 a8;have x2:=e0.xb.cell 2;rw[P.out]at x2;simp only[Zget]at x2;have e2:Hid ((ux.toList == kx.toList)=mtZ (ns.map bl) zl (.slice ly qy.length cy,yl,yn)):=hid (by rw[ZJ1,g3.out,f9.out];unfold mtZ;rfl)
     have b3:ss.length<=1000:=by
      rw[d.out,Yak];have:=Ydj (mtZ (ns.map bl) zl) (zs.take j);rw[Ya7]at this;omega
     have i4:=S.size;cases hm:mtZ (ns.map bl) zl (.slice ly qy.length cy,yl,yn)with
     | false=>
      have he:(ux.toList == kx.toList)=false:=by rw[e2.out,hm]
      rw[hm]at n o;rw[Ydi,Bool.or_false]at o;rw[if_neg Dc,Yca]at n;go_wp2
      go_roundg (zs.length - (j+1))
      case measure=>omega
      case rel=>exact⟨j+1,ss,f,by omega,rfl,by go_num,rfl,a9,hid (by rw[n.out];exact d.out),hid (by rw[o.out];exact HF.out),e0,S⟩
     | true=>
      have he:(ux.toList == kx.toList)=true:=by rw[e2.out,hm]
      rw[hm]at n o;rw[Yd3]at o;rw[if_pos rfl]at n;have b4:Hid (ss++[((0:Int),yn)]=((zs.take (j+1)).filter (mtZ (ns.map bl) zl)).map (fun z=>((0:Int),z.2.2))):=hid (by rw[n.out,Yaq,<-d.out];rfl)
      have C:Hid ((f && decide (i<=j))=!((zs.take (min (j+1) i)).any (mtZ (ns.map bl) zl))):=hid (by
       rw[o.out,HF.out,Bool.not_or]
       congr 1
       by_cases A:j<i
       ·simp[A,Nat.not_le.2 A]
       ·simp[A,Nat.le_of_not_lt A])
      clear n o
      go_wp2_with (at_builtin;refine wpList_append_own _ rfl (.tmp 51) (.tmp 59) 120 rfl l.heap.size 220 i0 (.agg #[Vi 0,Vi 0]) 2 16 underlying120 hi f3 f4 f5 rfl Dc _ _ _ rfl (a9.alloc _) ⟨w4.heap.size,0,none⟩ 1 1 [Vi 0,Vi yn] rfl rfl (ZcY rfl) ?c2 ?c3 ?c4 ?c5 ?_)
      case c2=>intro u hu;simp at hu;rcases hu with rfl|rfl <;> rfl
      case c3=>unfold maxLen;first|omega|(simp;omega)
      case c4=>first|omega|(simp;omega)
      case c5=>first|omega|(simp;omega)
      intro v' w6 T U _;have V:Hid (BW l w6):=hid (ZJO (S.alloc S.size _) U (fun q hq=>by have:=(a9.lt q hq).1;omega));have b5:Hid (GrI w w6 XA vv rs):=hid (g1.out w6 V.out)
      have b6:Hid (w6.ownsRow l.heap.size 220 2 v' (ss++[((0:Int),yn)]).length (Zca (ss++[((0:Int),yn)]))):=hid (by
       rw[Zwg,Yab];exact T)
      clear T U;cases f with
      | false=>
       rw[Bool.false_and]at C;go_wp2
       go_roundg (zs.length - (j+1))
       case measure=>omega
       case rel=>exact⟨j+1,_,false,by omega,rfl,by go_num,rfl,b6,b4,C,b5,V⟩
      | true=>
       rw[Bool.true_and]at C;by_cases e3:i<=j
       ·rw[show decide (i<=j)=true by simp[e3]]at C;go_wp2
        go_roundg (zs.length - (j+1))
        case measure=>omega
        case rel=>exact⟨j+1,_,true,by omega,rfl,by go_num,rfl,b6,b4,C,b5,V⟩
       ·rw[show decide (i<=j)=false by simp[e3]]at C;go_wp2
        go_roundg (zs.length - (j+1))
        case measure=>omega
        case rel=>exact⟨j+1,_,false,by omega,rfl,by go_num,rfl,b6,b4,C,b5,V⟩
    ·obtain rfl:j=zs.length:=by omega
     rw[show min zs.length i=i by omega]at HF;rw[Ya4]at d;cases f with
     | false=>
      have b7:Hid (ZcF op (ns.map bl) (zs.map (·.2)) [] ((zs.map (·.2)).take (i+1))=ZcF op (ns.map bl) (zs.map (·.2)) [] ((zs.map (·.2)).take i)):=hid (by
       rw[a2.out,if_pos (by have:=HF.out;revert this;cases (zs.take i).any (mtZ (ns.map bl) zl) <;> simp),Yca])
      go_wp2
      go_roundg (zs.length - (i+1))
      case measure=>omega
      case rel=>exact⟨i+1,vv,rs,by omega,rfl,by go_num,hid (by rw[<-P.out];exact c.out),hid (by rw[b7.out];exact HG.out),hid (Nat.le_succ_of_le a0.out)⟩
     | true=>
      have b7:Hid (ZcF op (ns.map bl) (zs.map (·.2)) [] ((zs.map (·.2)).take (i+1))=ZcF op (ns.map bl) (zs.map (·.2)) [] ((zs.map (·.2)).take i)++[(ZB zl (ns.map bl),cutV (ZfI op (ss.map (·.2))))]):=hid (by
       rw[a2.out,if_neg (by have:=HF.out;revert this;cases (zs.take i).any (mtZ (ns.map bl) zl) <;> simp),d.out,Yb1];rfl)
      have g4:Hid (0<ss.length):=hid (by
       rw[d.out,Yak];exact List.length_pos_of_mem (Ycg.2 ⟨e8.out,d1.out⟩))
      have b3:ss.length<=1000:=by
       rw[d.out,Yak];exact Yah (Ydj _ _) f2
      have g5 : Hid (∀ W, W = wr.drew -> SamsV W (.slice s1 ss.length c1) ss) := hid (fun W hW => by
        rw[hW];refine⟨(Zgi HO.out).drew,by omega,fun x hx=>?_⟩;rw[d.out,Ybe]at hx;obtain⟨y,hy,rfl⟩:=hx;have:=(HS.ok y (Ycg.1 hy).1).2;unfold vOk at this;unfold smOk;simp only;omega)
      have g6:Hid (LabsV wr (.slice la1 ql.length lc1) (ZB zl (ns.map bl)) ql):=g0.below Q.out;have g7:Hid (rs.length<=1000):=hid (by have:=a0.out;omega);have v2:=c.vb.cell 2;simp only[Zget]at v2;obtain⟨va,vc,b8⟩:=Zl c.els.own;subst b8;have e4:Hid (∀W,BW wr W->W.cell? ⟨w.heap.size+2,2,none⟩=some (.slice va rs.length vc)):=hid (fun W s=>(s.cell (p:=⟨w.heap.size+2,2,none⟩) c.vb.lt).trans v2);obtain⟨tn,b9⟩:∃tn,tn=ZfI op (ss.map (·.2)):=⟨_,rfl⟩
      obtain⟨cn,X⟩:∃cn,cn=cutV tn:=⟨_,rfl⟩
      have g8:Hid (cn=cutV (ZfI op (ss.map (·.2)))):=hid (by rw[X,b9])
      have c8 : Hid (∀ W, W = wr.drew -> CP 103 #[Vi op, .slice s1 ss.length c1] W fun e t => e = .returned (Vi tn) /\ BW wr t) := hid (fun W hW => by
        refine(ZLk op Om ss (g5.out W hW) g4.out).mono ?_;rintro e Z ⟨rfl,nt,rfl⟩;rw[b9,hW];exact⟨rfl,ZhQ ((Yaf _ _).drew) _⟩)
      have f0:Hid (∀W,CP 102 #[Vi tn] W fun e t=>e=.returned (Vi cn)/\t=W):=hid (fun W=>by rw[X];exact ZKi tn W)
      have g9 : Hid (∀ W, BW wr W -> CP 104 #[.slice va rs.length vc, .agg #[.slice la1 ql.length lc1, Vi cn]] W fun e t => ∃ a3 n3 c3, e = .returned (.slice a3 n3 c3) /\ Hid (ElsV t (.slice a3 n3 c3) (ZJr rs (.slice la1 ql.length lc1, ZB zl (ns.map bl), cn))) /\ Hid (BW wr t)) := hid (fun W s => by
        refine(ZKI rs (.slice la1 ql.length lc1,ZB zl (ns.map bl),cn) W (c.els.below s) ⟨⟨ql,g6.below s⟩,by rw[X];exact ZhY _⟩ g7.out).mono ?_;rintro e H ⟨v3,rfl,Y,r⟩;obtain⟨va3,vc3,i1⟩:=Zl Y.own;subst i1;exact⟨va3,_,vc3,rfl,Y,s.trans (r.mono s.size)⟩)
      have f1:Hid (ZcF op (ns.map bl) (zs.map (·.2)) [] ((zs.map (·.2)).take (i+1))=ZcF op (ns.map bl) (zs.map (·.2)) [] ((zs.map (·.2)).take i)++[(ZB zl (ns.map bl),cn)]):=hid (by rw[b7.out,g8.out]);clear b9 X;have e5:wr.drew.cell? ⟨w.heap.size+2,2,none⟩=some (.slice va rs.length vc):=v2;clear v2 b3
      go_upto_region 17 with fail
      clear x2;refine Zbn 10 (fun t=>t.cell? ⟨w.heap.size+2,2,none⟩=some (.slice va rs.length vc)) Kr (by exact e5) (fun a=>?_);clear e5;refine Za 0 a (h:=?_);refine Za 1 a (h:=?_);refine Za 2 a (h:=?_);refine Za 3 a (h:=?_);refine Za 4 a (h:=?_);refine Z4 (i:=5) Kr rfl (fun K D=>?_);go_simp;refine(c8.out _ rfl).mono ?_;rintro e Z ⟨rfl,E⟩;have J:=e4.out Z E;have i2:Hid (BW wr Z):=E;clear E;go_simp;refine D.out _ _ J (fun a=>?_);clear D K
      try simp only[Act.put,Zset]
      refine Z4 (i:=6) Kr rfl (fun K D=>?_);go_simp;refine(f0.out _).mono ?_;rintro e l ⟨rfl,rfl⟩;go_simp;refine D.out _ _ J (fun a=>?_);clear D K
      try simp only[Act.put,Zset]
      refine Za 7 a (h:=?_);refine Z4 (i:=8) Kr rfl (fun K D=>?_);go_simp;refine(g9.out _ i2.out).mono ?_;rintro e H ⟨a3,n3,c3,rfl,Y,B⟩;have c0:=e4.out H B.out;have i3:=hid ((c.below B.out).put Y.out);have c6:=(c.below B.out).vb;go_simp;refine D.out _ _ c0 (fun a=>?_);clear D K
      try simp only[Act.put,Zset]
      refine Za 9 a (h:=?_);refine Zbl Kr Kr rfl Kr (fun K D=>?_);have q2:=c6.cell 2;have qf:=c6.frozen 2;simp only[Zget]at q2;clear c6;go_simp;refine D.out _ _ ?_;clear D K;go_wp2
      go_roundg (zs.length - (i+1))
      case measure=>omega
      case rel=>exact⟨i+1,_,_,by omega,rfl,by go_num,hid (by rw[<-P.out];exact i3.out),hid (by rw[f1.out,Ydy,<-HG.out,ZK8];rfl),hid (by rw[ZKg];exact Nat.succ_le_succ a0.out)⟩
  ·obtain rfl:i=zs.length:=by omega
   obtain⟨va,vc,b8⟩:=Zl k.els.own;subst b8;have b0:=k.vb.cell 0;have b1:=k.vb.cell 1;have b2:=k.vb.cell 2;have z0:=k.rb.frozen 0;have z1:=k.rb.frozen 1;have z2:=k.rb.frozen 2;have t0:=k.rb.cell 0;have t1:=k.rb.cell 1;have t2:=k.rb.cell 2;simp only[Zget]at b0 b1 b2 t0 t1 t2;have HD:=hid k.done;have c7:Hid (rs.map (·.2)=Zcv op (ns.map bl) (zs.map (·.2))):=hid (by rw[HG.out,Ya5 (by rw[Yak];exact Yac _)];rfl);go_wp2;change bodyPost _ _ _ _ _ (set3 wr (w.heap.size+1) (.bool false) (Vi 0) (.slice va rs.length vc));have s0:=HD.1.cell 0;have s1:=HD.1.cell 1;have s2:=HD.1.cell 2;simp only[Zget]at s0 s1 s2;have e6:=hid HD.2.1;have e7:=hid HD.2.2;clear HD;generalize set3 wr (w.heap.size+1) (.bool false) (Vi 0) (.slice va rs.length vc)=WX at *
   exact bodyPost_ret (v:=.agg #[.bool false,Vi 0,.slice va rs.length vc]) (by simp[results,results56,go_sem,s0,s1,s2]) rfl (by first|exact⟨.slice va rs.length vc,rs,rfl,e6,c7,e7.out⟩|exact⟨.slice va rs.length vc,rfl,rs,e6,c7,e7.out⟩)
def negZ(z:Value×El):Value×El:=(z.1,z.2.1,-z.2.2)
structure NegI (w wr:World) (sc:Bool) (n m:Int) (xv vv:Value) (zs:List (Value×El)):Prop where
 bel:BW w wr
 xb:BAt wr w.heap.size [.bool sc,Vi n,xv] 76
 rb:BAt wr (w.heap.size+1) [.bool false,Vi 0,S0] 76
 vb:BAt wr (w.heap.size+2) [.bool sc,Vi m,vv] 76
 own:wr.ownsRow (w.heap.size+3) 128 2 vv zs.length (ZJp zs)
theorem NegI.below{n m:Int}(h:NegI w wr sc n m xv vv zs)(a:BW wr w'):NegI w w' sc n m xv vv zs:=
 ⟨h.bel.trans (a.mono h.bel.size),h.xb.below a,h.rb.below a,h.vb.below a,Zn h.own a⟩
theorem NegI.app{y:World}{n m:Int}(h:NegI w wr sc n m xv vv zs)(c:wr.grownBy y vv.ownBlock)(g:y.ownsRow (w.heap.size+3) 128 2 v' zs'.length (ZJp zs')) :
  NegI w (y.setCell ⟨w.heap.size+2,2,none⟩ v') sc n m xv v' zs':=by
 have i:BAt y w.heap.size [.bool sc,Vi n,xv] 76:=h.xb.ownGrown h.own c Dc;have k:BAt y (w.heap.size+1) [.bool false,Vi 0,S0] 76:=h.rb.ownGrown h.own c Dc;have d:BAt y (w.heap.size+2) [.bool sc,Vi m,vv] 76:=h.vb.ownGrown h.own c Dc;have a:∀j,j≠w.heap.size+2->(y.setCell ⟨w.heap.size+2,2,none⟩ v').heap[j]?=y.heap[j]?:=fun j f=>Go.Deep.blk_setCell_other _ _ _ _ f;refine⟨(ZJO h.bel c (fun q l=>by have:=(h.own.lt q l).1;omega)).setCell (p:=⟨w.heap.size+2,2,none⟩) (by show w.heap.size<=w.heap.size+2;omega) _,(a _ Om).trans i,(a _ Om).trans k,?_,ZdA g (fun j f=>a j (fun e=>Zcx g d Dc (by rw[f,e])))⟩;unfold BAt at d ⊢;simp only[World.setCell,Ybn,d,if_true,Ybf];rfl
theorem ZK6(sc:Bool)(n:Int)(hn:vOk n)(v:Value)(zs:List (Value×El))(w:World)(h:ElsV w v zs)(b8:zs.length<=1000) :
  CP 55 #[.agg #[.bool sc,Vi n,v]] w fun e A=>∃v',e=.returned (.agg #[.bool sc,Vi (-n),v'])/\Hid (ElsV A v' (zs.map negZ))/\BW w A:=by
 obtain⟨sa,sl,rfl⟩:=Zl h.own;have P:Hid (ElsV w (.slice sa zs.length sl) zs):=h;obtain⟨b9,c0⟩:=hn;obtain⟨m,E⟩:∃m,m=-n:=⟨_,rfl⟩
 have a3:IntKind.i64.wrap (-n)=m:=by rw[E,Ybo];omega
 obtain⟨i0,hi,a4,a5,a6⟩:=info_parts Tryz.infoREl;rw[<-E];clear h;go_enter func55,ntmps55
 go_upto_region 2 with fail
 refine ZP fun W0 F=>?_;rw[<-E]at F
 have Q:Hid (NegI w W0 sc n m (.slice sa zs.length sl) S0 []):=hid (by
  rw[F];have g1:=Go.Deep.blk_alloc_new ((w.alloc (.cells #[.bool sc,Vi n,.slice sa zs.length sl] 76)).alloc (.cells #[.bool false,Vi 0,S0] 76)) (.cells #[.bool sc,Vi m,S0] 76);have g2:=Go.Deep.blk_alloc_new (w.alloc (.cells #[.bool sc,Vi n,.slice sa zs.length sl] 76)) (.cells #[.bool false,Vi 0,S0] 76);have g3:=Go.Deep.blk_alloc_new w (.cells #[.bool sc,Vi n,.slice sa zs.length sl] 76);rw[Yf7,Yf7]at g1;rw[Yf7]at g2;refine⟨?_,?_,?_,g1,Ybc _ _ _ _⟩
  ·exact belB
  ·exact((((Yaf (w.heap.size+1) _).alloc (by simp) _).alloc (by simp) _).block _ Om).trans g3
  ·exact(((Yaf (w.heap.size+2) _).alloc (by simp) _).block _ Om).trans g2)
 have a7:=hid E;clear F a3 E;generalize R : -n=mn;have a8:m=mn:=by rw[a7.out,R]
 clear R;subst a8;go_wp2
 go_loopg [4] zs.length (fun gk v4 wr=>∃(k:Nat) (vv:Value),k<=zs.length/\gk=zs.length - k/\v4=Vi k/\Hid (NegI w wr sc n m (.slice sa zs.length sl) vv ((zs.take k).map negZ)))
 case atStart=>exact⟨0,_,Yag _,rfl,rfl,Q⟩
 case round=>
  clear Q;obtain⟨k,vv,hk,c1,rfl,l⟩:=hrel;obtain⟨va,vc,S⟩:=Zl l.own;have G:((zs.take k).map negZ).length=k:=by rw[Yak,Ya7];omega
  rw[G]at S;subst S;have x2:=l.xb.cell 2;have v2:=l.vb.cell 2;have vf:=l.vb.frozen 2;simp only[Zget]at x2 v2;have H:=hid G;clear G;by_cases B:k<zs.length
  ·obtain⟨g,cpx,D⟩:=ZF P.own Om;injection D with hg1 _ hg2;subst hg1 hg2;have I:Hid (ElsV wr (.slice (some ⟨g,0,none⟩) zs.length sl) zs):=P.below l.bel;have r0:=Zi I.own _ _ (by rw[(ZJy zs k).1,List.getElem?_eq_getElem B];rfl);have r1:=Zi I.own _ _ (by rw[(ZJy zs k).2,List.getElem?_eq_getElem B];rfl);have a9:=I.ok _ (List.getElem_mem B);have HT:Hid ((zs.take (k+1)).map negZ=(zs.take k).map negZ++[negZ zs[k]]):=hid (by rw[List.take_succ_eq_append_getElem B,Yaq];rfl);generalize zs[k]=z at *
   obtain⟨zv,zl,zn⟩:=z;obtain⟨⟨qz,J⟩,Z,a0⟩:=a9;simp only at r0 r1 J Z a0;obtain⟨lz,cz,rfl⟩:=Zl J.own;clear J;obtain⟨zm,L⟩:∃zm,zm=-zn:=⟨_,rfl⟩
   have c2:IntKind.i64.wrap (-zn)=zm:=by rw[L,Ybo];omega
   have b2:Hid ((zs.take (k+1)).map negZ=(zs.take k).map negZ++[(.slice lz qz.length cz,zl,zm)]):=hid (by rw[HT.out,L];rfl);have T:Hid (∀o,(wr.alloc o).drew.ownsRow (w.heap.size+3) 128 2 (.slice va k vc) k (ZJp ((zs.take k).map negZ))):=hid (fun o=>by have:=l.own;rw[H.out]at this;exact(this.alloc o).drew);have U:Hid (∀o,NegI w (wr.alloc o).drew sc n m (.slice (some ⟨g,0,none⟩) zs.length sl) (.slice va k vc) ((zs.take k).map negZ)):=hid (fun o=>l.below (Below.drew Zbal));have V:Hid (∀o,(wr.alloc o).drew.heap[wr.heap.size]?=some o):=hid (fun o=>Go.Deep.blk_alloc_new wr o);have c3:=l.vb.lt;clear L;have a1:g<w.heap.size:=Z1 P.own;have X:wr.drew.cell? ⟨w.heap.size,2,none⟩=some (.slice (some ⟨g,0,none⟩) zs.length sl)/\wr.drew.cell? ⟨g,k*2,none⟩=some (.slice lz qz.length cz)/\wr.drew.cell? ⟨g,k*2+1,none⟩=some (Vi zn)/\wr.drew.cell? ⟨w.heap.size+2,2,none⟩=some (.slice va k vc):=⟨x2,r0,r1,v2⟩
   have b3:Hid (∀o,(wr.drew.cell? ⟨w.heap.size,2,none⟩=some (.slice (some ⟨g,0,none⟩) zs.length sl)/\wr.drew.cell? ⟨g,k*2,none⟩=some (.slice lz qz.length cz)/\wr.drew.cell? ⟨g,k*2+1,none⟩=some (Vi zn)/\wr.drew.cell? ⟨w.heap.size+2,2,none⟩=some (.slice va k vc))->((wr.drew.alloc o).cell? ⟨w.heap.size,2,none⟩=some (.slice (some ⟨g,0,none⟩) zs.length sl)/\(wr.drew.alloc o).cell? ⟨g,k*2,none⟩=some (.slice lz qz.length cz)/\(wr.drew.alloc o).cell? ⟨g,k*2+1,none⟩=some (Vi zn)/\(wr.drew.alloc o).cell? ⟨w.heap.size+2,2,none⟩=some (.slice va k vc))):=hid (fun o ⟨a,b,c,d⟩=>⟨ZJw a o,ZJw b o,ZJw c o,ZJw d o⟩)
   have b4 : Hid (∀ W r : World, (W.cell? ⟨w.heap.size, 2, none⟩ = some (.slice (some ⟨g, 0, none⟩) zs.length sl) /\ W.cell? ⟨g, k * 2, none⟩ = some (.slice lz qz.length cz) /\ W.cell? ⟨g, k * 2 + 1, none⟩ = some (Vi zn) /\ W.cell? ⟨w.heap.size + 2, 2, none⟩ = some (.slice va k vc)) -> W.grownBy r (Value.slice va k vc).ownBlock -> (r.cell? ⟨w.heap.size, 2, none⟩ = some (.slice (some ⟨g, 0, none⟩) zs.length sl) /\ r.cell? ⟨g, k * 2, none⟩ = some (.slice lz qz.length cz) /\ r.cell? ⟨g, k * 2 + 1, none⟩ = some (Vi zn) /\ r.cell? ⟨w.heap.size + 2, 2, none⟩ = some (.slice va k vc))) := hid (fun W r ⟨a, b, c, d⟩ D => by
     have C:∀j,j<w.heap.size+3->some j≠(Value.slice va k vc).ownBlock:=fun j hj he=>by have:=(l.own.lt j he.symm).1;omega
     exact⟨ZJx D a (C _ (by show w.heap.size<_;omega)),ZJx D b (C _ (by show g<_;omega)),ZJx D c (C _ (by show g<_;omega)),ZJx D d (C _ (by show w.heap.size+2<_;omega))⟩)
   have M:Hid (∀o,(wr.drew.alloc o).ownsRow (w.heap.size+3) 128 2 (.slice va k vc) k (ZJp ((zs.take k).map negZ))):=T;have N:Hid (∀o,NegI w (wr.drew.alloc o) sc n m (.slice (some ⟨g,0,none⟩) zs.length sl) (.slice va k vc) ((zs.take k).map negZ)):=U;have a2:Hid (∀o,(wr.drew.alloc o).heap[wr.heap.size]?=some o):=V;clear T U V a1 r0 r1 v2 vf
   go_upto_region 5 with fail
   clear x2;refine Zbn 19 (fun A=>A.cell? ⟨w.heap.size,2,none⟩=some (.slice (some ⟨g,0,none⟩) zs.length sl)/\A.cell? ⟨g,k*2,none⟩=some (.slice lz qz.length cz)/\A.cell? ⟨g,k*2+1,none⟩=some (Vi zn)/\A.cell? ⟨w.heap.size+2,2,none⟩=some (.slice va k vc)) Kr (by exact X) (fun f=>?_);clear X;refine Za 0 f (h:=?_);refine Za 1 f (h:=?_);refine Za 2 f (h:=?_);refine Za 3 f (h:=?_);refine Za 4 f (h:=?_);refine Za 5 f (h:=?_);refine Za 6 f (h:=?_);refine Za 7 f (h:=?_);refine Za 8 f (h:=?_);refine Za 9 f (h:=?_);refine Za 10 f (h:=?_);refine Za 11 f (h:=?_);refine Za 12 f (h:=?_);refine Za 13 f (h:=?_);refine Za 14 f (h:=?_);refine Za 15 f (h:=?_);refine Z4 (i:=16) Kr rfl (fun K t=>?_);go_simp;refine t.out _ _ (b3.out _ f) (fun f=>?_);clear t K
   try simp only[Act.put,Zset]
   refine Z4 (i:=17) Kr rfl (fun K t=>?_);refine ZfF rfl (.tmp 19) (.tmp 34) 74 rfl (w.heap.size+3) 128 i0 _ 2 32 underlying74 hi a4 a5 a6 rfl Dc (.slice va k vc) k (ZJp ((zs.take k).map negZ)) (by simp[Act.eval]) (by exact M.out _) ⟨wr.heap.size,0,none⟩ 1 1 [.slice lz qz.length cz,Vi zm] (by simp[Act.eval]) rfl ?h2 ?h3 ?h4 ?h5 ?h6 ?_
   case h2=>first|exact ZcY (a2.out _)|exact ZcY rfl|exact Zn9 (by first|simp|exact(Ydm _ _ _ _ (by simp)).trans rfl) (by first|simp|exact(Ydm _ _ _ _ (by simp)).trans rfl)
   case h3=>intro u hu;simp at hu;rcases hu with rfl|rfl <;> rfl
   case h4=>unfold maxLen;omega
   case h5=>omega
   case h6=>simp;omega
   intro v1 r s q _;obtain⟨g1,cp1,b5⟩:=ZF s Om;subst b5;have HN:Hid (NegI w (r.setCell ⟨w.heap.size+2,2,none⟩ (.slice (some ⟨g1,0,none⟩) (k+1) cp1)) sc n m (.slice (some ⟨g,0,none⟩) zs.length sl) (.slice (some ⟨g1,0,none⟩) (k+1) cp1) ((zs.take (k+1)).map negZ)):=hid ((N.out _).app (by exact q) (by rw[b2.out,ZJW,Yab,H.out];exact s));have O:BAt r (w.heap.size+2) [.bool sc,Vi m,.slice va k vc] 76:=(N.out _).vb.ownGrown (M.out _) q Dc;have b6:=b4.out _ r (by exact f) (by exact q);refine t.out _ _ b6 (fun f=>?_);clear t K
   try simp only[Act.put,Zset]
   refine Za 18 f (h:=?_);refine Zbl Kr Kr rfl Kr (fun K t=>?_);have y2:=O.cell 2;have yf:=O.frozen 2;simp only[Zget]at y2;clear O s q;go_simp;refine t.out _ _ ?_;clear t K;go_wp2
   go_roundg (zs.length - (k+1))
   case measure=>omega
   case rel=>exact⟨k+1,_,by omega,rfl,by go_num,HN⟩
  ·obtain rfl:k=zs.length:=by omega
   rw[Ya4]at l;rw[Ya4]at H;have b0:=l.vb.cell 0;have b1:=l.vb.cell 1;have y0:=l.rb.frozen 0;have y1:=l.rb.frozen 1;have y2:=l.rb.frozen 2;have t0:=l.rb.cell 0;have t1:=l.rb.cell 1;have t2:=l.rb.cell 2;simp only[Zget]at b0 b1 t0 t1 t2;go_wp2;change bodyPost _ _ _ _ _ (set3 wr (w.heap.size+1) (.bool sc) (Vi m) (.slice va zs.length vc));have s9:=Zcr l.rb (x:=.bool sc) (y:=Vi m) (z:=.slice va zs.length vc);have s0:=s9.cell 0;have s1:=s9.cell 1;have s2:=s9.cell 2;simp only[Zget]at s0 s1 s2;have Y:Hid (BW w (set3 wr (w.heap.size+1) (.bool sc) (Vi m) (.slice va zs.length vc))):=hid (((l.bel.setCell (p:=⟨w.heap.size+1,0,none⟩) (by show w.heap.size<=w.heap.size+1;omega) _).setCell (p:=⟨w.heap.size+1,1,none⟩) (by show w.heap.size<=w.heap.size+1;omega) _).setCell (p:=⟨w.heap.size+1,2,none⟩) (by show w.heap.size<=w.heap.size+1;omega) _)
   have b7:Hid (ElsV (set3 wr (w.heap.size+1) (.bool sc) (Vi m) (.slice va zs.length vc)) (.slice va zs.length vc) (zs.map negZ)):=hid (by
    refine⟨ZdA (Zgi l.own) (fun j hj=>Zsf (fun e=>Zcx l.own l.rb Dc (by rw[hj,e]))),by rw[Yak];omega,fun z hz=>?_⟩;obtain⟨y,hy,rfl⟩:=Ybe.mp hz;have:=(P.ok y hy).below Y.out;exact⟨this.1,by have:=this.2;unfold vOk at *;unfold negZ;simp only;omega⟩)
   generalize set3 wr (w.heap.size+1) (.bool sc) (Vi m) (.slice va zs.length vc)=WX at *
   exact bodyPost_ret (v:=.agg #[.bool sc,Vi m,.slice va zs.length vc]) (by simp[results,results55,go_sem,s0,s1,s2]) rfl ⟨.slice va zs.length vc,rfl,b7,Y.out⟩
def ValV(w:World)(v:Value):VV->Prop
 | .inl n=>(∃(ea:Option Addr) (ec:Nat),v=.agg #[.bool true,.int .i64 n,.slice ea 0 ec]/\ElsV w (.slice ea 0 ec) [])/\vOk n
 | .inr l=>∃(ea:Option Addr) (ec:Nat) (zs:List (Value×El)),v=.agg #[.bool false,.int .i64 0,.slice ea zs.length ec]/\ElsV w (.slice ea zs.length ec) zs/\zs.map (·.2)=l
theorem ValV.below : ∀ {V:VV},ValV w v V->BW w w'->ValV w' v V
 | .inl _,⟨⟨ea,ec,a,c⟩,d⟩,e=>⟨⟨ea,ec,a,c.below e⟩,d⟩
 | .inr _,⟨ea,ec,zs,a,c,d⟩,e=>⟨ea,ec,zs,a,c.below e,d⟩
theorem ValV.other(g:BAt w a c 76)(h:∀j,j≠a->w'.heap[j]?=w.heap[j]?):∀ {V:VV},ValV w v V->ValV w' v V
 | .inl _,⟨⟨ea,ec,d,e⟩,f⟩=>⟨⟨ea,ec,d,e.other g h⟩,f⟩
 | .inr _,⟨ea,ec,zs,d,e,f⟩=>⟨ea,ec,zs,d,e.other g h,f⟩
theorem ValV.of_els{l:List El}(h:ElsV w v zs)(a:zs.map (·.2)=l):ValV w (.agg #[.bool false,Vi 0,v]) (.inr l):=by
 obtain⟨ea,ec,rfl⟩:=Zl h.own;exact⟨ea,ec,zs,rfl,h,a⟩
theorem ZN8    (h : ValV w v V) (g : VOk 1000 V) : CP 55 #[v] w fun e u => ∃ v', e = .returned v' /\ Hid (ValV u v' (negV V)) /\ BW w u := by
  cases V with
  | inl n=>
    obtain⟨⟨fa,fc,rfl,i⟩,j⟩:=h;refine(ZK6 true n j (.slice fa 0 fc) [] w i (by simp)).mono ?_;rintro e y ⟨v',rfl,a,c⟩;obtain⟨ea,ec,rfl⟩:=Zl a.own;exact⟨_,rfl,hid ⟨⟨ea,ec,rfl,a.out⟩,by unfold vOk at *;omega⟩,c⟩
  | inr l=>
    obtain⟨ea,ec,zs,rfl,k,f⟩:=h;have d:zs.length<=1000:=by have:=g.2;rw[<-f,Yak]at this;exact this
    refine(ZK6 false 0 (by unfold vOk;omega) _ zs w k d).mono ?_;rintro e y ⟨v',rfl,a,c⟩;exact⟨_,rfl,hid (ValV.of_els a.out (by rw[Yb1,<-f,Yb1];rfl)),c⟩
theorem ZN7 (op : Nat) (d : op <= 3) (bv:Value) (ns : List BA) (l : List El) (w : World) (a : NamsV w bv ns) (h : ValV w v (.inr l)) (f : l.length <= 1000) : CP 56 #[Vi op, bv, v] w fun e u => ∃ v', e = .returned v' /\ Hid (ValV u v' (.inr (Zcv op (ns.map bl) l))) /\ BW w u := by
  obtain⟨ea,ec,zs,rfl,i,g⟩:=h;have c:zs.length<=1000:=by rw[<-g,Yak]at f;exact f
  refine(ZMz op d bv ns zs w a i c).mono ?_;rintro e y ⟨v',rs,rfl,j,k,a⟩;exact⟨_,rfl,hid (ValV.of_els j.out (by rw[k.out,g])),a⟩
theorem ZMZ (op : Nat) (xs ys : List (Value × El)) : (xs.flatMap (FV op ys)).map (·.2) = (xs.map (·.2)).flatMap fun e => ((ys.map (·.2)).filter fun f => decide (wrt e.1 = wrt f.1)).map fun f => (e.1, twoV op e.2 f.2) := by
  induction xs with
  | nil=>rfl
  | cons x xs ih=>
    rw[Ycd,Yaq,ih,Ybb,Ycd]
    congr 1
    unfold FV;rw[Yb1,List.filter_map,Yb1];rfl
theorem ZN5 (op : Nat) (d : op <= 3) (u:Value) {U:VV} (w : World) (h : ValV w v V) (j : ValV w u U) (z : VOk 1000 V) (o : VOk 1000 U) : CP 57 #[Vi op, v, u] w fun e t => ∃ v', e = .returned v' /\ Hid (ValV t v' (Zdg op V U)) /\ BW w t := by
  cases V with
  | inl m=>
    obtain⟨⟨fa,fc,rfl,B⟩,p⟩:=h;cases U with
    | inl n=>
      obtain⟨⟨ga,gc,rfl,A⟩,q⟩:=j;refine(ZLt op d m n p q fa ga fc gc w).mono ?_;rintro e y ⟨rfl,a⟩;exact⟨_,rfl,hid ⟨⟨none,0,rfl,⟨Ybc _ _ _ _,by simp,by simp⟩⟩,Zhj _ _ _ p⟩,a⟩
    | inr l=>
      obtain⟨ea,ec,zs,rfl,r,g⟩:=j;have c:zs.length<=1000:=by have:=o.2;rw[<-g,Yak]at this;exact this
      refine(ZLu op d m p fa fc zs w r c).mono ?_;rintro e y ⟨v',rfl,i,a⟩;exact⟨_,rfl,hid (ValV.of_els i.out (by rw[Yb1,<-g,Yb1];rfl)),a⟩
  | inr k=>
    obtain⟨da,dc,xs,rfl,x,s⟩:=h;have f:xs.length<=1000:=by have:=z.2;rw[<-s,Yak]at this;exact this
    cases U with
    | inl n=>
      obtain⟨⟨ga,gc,rfl,A⟩,q⟩:=j;refine(ZLv op d n q ga gc xs w x f).mono ?_;rintro e y ⟨v',rfl,i,a⟩;exact⟨_,rfl,hid (ValV.of_els i.out (by rw[Yb1,<-s,Yb1];rfl)),a⟩
    | inr l=>
      obtain⟨ea,ec,zs,rfl,r,g⟩:=j;have c:zs.length<=1000:=by have:=o.2;rw[<-g,Yak]at this;exact this
      refine(ZLw op d xs zs w x r f c).mono ?_;rintro e y ⟨v',rfl,i,a⟩;exact⟨_,rfl,hid (ValV.of_els i.out (by rw[ZMZ,s,g])),a⟩
theorem ZOa{a:World}{x0 x1 x2:Value}(d:BAt a w.heap.size [.bool false,Vi 0,S0] 76)(c:BW w a)(h:ValV a (.agg #[x0,x1,x2]) V) :
  BAt (set3 a w.heap.size x0 x1 x2) w.heap.size [x0,x1,x2] 76/\ValV (set3 a w.heap.size x0 x1 x2) (.agg #[x0,x1,x2]) V/\BW w (set3 a w.heap.size x0 x1 x2):=
 ⟨Zcr d (x:=x0) (y:=x1) (z:=x2),h.other d (fun _ e=>Zsf e),((c.setCell (p:=⟨w.heap.size,0,none⟩) (Yac _) _).setCell (p:=⟨w.heap.size,1,none⟩) (Yac _) _).setCell (p:=⟨w.heap.size,2,none⟩) (Yac _) _⟩
theorem Tryz.infoI64:(Tryz.prog.info? 2).map (fun i=>(i.zero,i.size,i.bytes))=some (some (Vi 0),1,8):=by kernel_rfl
theorem ZNQ(f l s:Int)(w:World)(h:badT f l s) :
  CP 27 #[.agg #[Vi f,Vi l,Vi s]] w fun e u=>e=.returned (.tuple #[S0,.bool false])/\BW w u:=by
 unfold badT at h;by_cases a:f < -1000000
 ·go_enter func27,ntmps27;go_wp2;go_ret2;exact⟨rfl,belB⟩
 by_cases c:1000000<f
 ·go_enter func27,ntmps27;go_wp2;go_ret2;exact⟨rfl,belB⟩
 by_cases d:l < -1000000
 ·go_enter func27,ntmps27;go_wp2;go_ret2;exact⟨rfl,belB⟩
 by_cases g:1000000<l
 ·go_enter func27,ntmps27;go_wp2;go_ret2;exact⟨rfl,belB⟩
 by_cases i:s<1
 ·go_enter func27,ntmps27;go_wp2;go_ret2;exact⟨rfl,belB⟩
 by_cases j:1000000<s
 ·go_enter func27,ntmps27;go_wp2;go_ret2;exact⟨rfl,belB⟩
 have k:l<f:=by omega
 clear h;go_enter func27,ntmps27;go_wp2;go_ret2;exact⟨rfl,belB⟩
def ZKP(w:World)(f l s:Int)(v ok:Value):Prop:=(ok=.bool false/\Zdr f l s=none)∨(ok=.bool true/\∃ts:List Int,Zdr f l s=some ts/\ts.length<=50/\(∀t∈ts,-1000000<=t/\t<=1000000)/\w.ownsRow 0 2 1 v ts.length (ts.map (.int .i64)))
theorem ZNR(f l s:Int)(w:World)(h:¬badT f l s) :
  CP 27 #[.agg #[Vi f, Vi l, Vi s]] w fun e x => ∃ v ok : Value, e = .returned (.tuple #[v, ok]) /\
    Hid (ZKP x f l s v ok)/\BW w x:=by
 have H:Hid (Zdr f l s=Zhi l s 60 f []):=hid (by unfold Zdr;rw[if_neg h]);unfold badT at h;have S:¬f < -1000000:=fun e=>h (Or.inl e);have T:¬1000000<f:=by omega
 have U:¬l < -1000000:=by omega
 have V:¬1000000<l:=by omega
 have W:¬s<1:=by omega
 have X:¬1000000<s:=by omega
 have Y:¬l<f:=by omega
 clear h;obtain⟨i0,I,y,z,A⟩:=info_parts Tryz.infoI64;go_enter func27,ntmps27;go_wp2
 go_loopg [4,5] 60 (fun gk v4 v5 wr=>∃(ts:List Int) (t:Int),ts.length<=50/\gk=60 - ts.length/\v5=Vi t/\-1000000<=t/\t<=2000000/\Hid (Zdr f l s=Zhi l s (60 - ts.length) t ts)/\Hid (∀t∈ts,-1000000<=t/\t<=1000000)/\Hid (wr.ownsRow (w.heap.size+1) 2 1 v4 ts.length (ts.map (.int .i64)))/\Hid (BW w wr)/\Hid (BAt wr w.heap.size [Vi f,Vi l,Vi s] 46))
 case atStart=>exact⟨[],f,Yag _,rfl,rfl,by omega,by omega,H,hid (by intro t J;cases J),Ybc _ _ _ _,hid Zbal,hid (Go.Deep.blk_alloc_new _ _)⟩
 case round=>
  obtain⟨ts,t,K,O,rfl,P,Q,B,C,g,o,i⟩:=hrel;have x0:=i.cell 0;have x1:=i.cell 1;have x2:=i.cell 2;simp only[Zget]at x0 x1 x2;obtain⟨av,cp,L⟩:=Zl g.out;subst L;obtain⟨fu,r⟩:∃fu,60 - ts.length=fu+1:=⟨59 - ts.length,by omega⟩
  have j:Hid (Zdr f l s=if t<=l then (if ts.length=50 then none else Zhi l s fu (t+s) (ts++[t]))else some ts):=hid (by rw[B.out,r];rfl);have R:=i.lt;clear B;by_cases k:t<=l
  ·by_cases m:ts.length=50
   ·have n:Hid (Zdr f l s=none):=hid (by rw[j.out,if_pos k,if_pos m]);have M:((ts.length:Int) == 50)=true:=by rw[m];rfl
    go_wp2;go_ret2;exact⟨_,_,rfl,hid (Or.inl ⟨rfl,n.out⟩),o.out⟩
   ·have M:((ts.length:Int) == 50)=false:=by rw[beq_eq_false_iff_ne];omega
    have n:Hid (Zdr f l s=Zhi l s (60 - (ts++[t]).length) (t+s) (ts++[t])):=hid (by
     rw[j.out,if_pos k,if_neg m];congr 1;rw[Yab,Ybj];omega)
    clear r
    go_wp2_with (at_builtin;refine wpList_append_own _ rfl (.tmp 54) (.tmp 56) 70 rfl (w.heap.size+1) 2 i0 (Vi 0) 1 8 underlying70 I y z A rfl Dc _ _ _ rfl (g.alloc _) ⟨wr.heap.size,0,none⟩ 1 1 [Vi t] rfl rfl (ZcY rfl) ?c2 ?c3 ?c4 ?c5 ?_)
    case c2=>first|exact rfl|(intro u p;simp at p;subst p;rfl)
    case c3=>unfold maxLen;omega
    case c4=>omega
    case c5=>first|omega|(simp;omega)
    intro v' D c a _;have E:Hid (BW w D):=hid (ZJO (o.alloc o.size _) a (fun q N=>by have:=(g.lt q N).1;omega));have d:=hid (BAt.ownGrownLt (i.below Zbal) (g.alloc _) a Om)
    have F:Hid (D.ownsRow (w.heap.size+1) 2 1 v' (ts++[t]).length ((ts++[t]).map (.int .i64))):=hid (by
     rw[Yaq,Yab];exact c)
    have G:Hid (∀u∈ts++[t],-1000000<=u/\u<=1000000):=hid (by
     intro u p;rcases Yar.mp p with h|h
     ·exact C.out u h
     ·rw[Yap]at h;subst h;omega)
    clear c a x0 x1 x2;have x0:=d.cell 0;have x1:=d.cell 1;have x2:=d.cell 2;simp only[Zget]at x0 x1 x2;go_wp2
    go_roundg (60 - (ts.length+1))
    case measure=>omega
    case rel=>exact⟨ts++[t],t+s,by rw[Yab,Ybj];omega,by rw[Yab,Ybj],rfl,by omega,by omega,n,G,F,E,d⟩
  ·have n:Hid (Zdr f l s=some ts):=hid (by rw[j.out,if_neg k]);go_wp2;go_ret2;exact⟨_,_,rfl,hid (Or.inr ⟨rfl,ts,n.out,K,C.out,Zgi g.out⟩),o.out⟩
theorem ZN4(tm:Int)(c:vOk tm)(v:Value)(w:World)(h:ValV w v V)(f:VOk 1000 V) :
  CP 28 #[Vi tm,v] w fun e u=>∃r:BA,e=.returned (.string r)/\Hid (bl r=Zel tm V)/\r.size<=2000000000000/\BW w u:=by
 cases V with
 | inl n=>
  obtain⟨⟨fa,fc,rfl,j⟩,g⟩:=h;exact ZLq tm c n g fa 0 fc w
 | inr l=>
  obtain⟨ea,ec,zs,rfl,i,d⟩:=h;have a:zs.length<=1000:=by have:=f.2;rw[<-d,Yak]at this;exact this
  rw[<-d];exact ZLr tm c 0 zs w i a
def Zcn:List (LB)->LB
 | []=>[]
 | [a]=>a
 | a::b::l=>a++10::Zcn (b::l)
theorem ZMM:∀(l:List (LB)) (x:LB),Zcn (l++[x])=(if l.isEmpty then [] else Zcn l++[10])++x
 | [],x=>rfl
 | [a],x=>by simp[Zcn]
 | a :: b :: l, x => by
   have:=ZMM (b::l) x;rw[Yby,Yby,Zcn,<-Yby,this,Zcn];simp
theorem ZN6(s:BA)(w:World)(f:s.size<=maxLen) :
  CP 26 #[.string s] w fun e u=>∃v,e=.returned (.tuple #[v,Vi (Zbp (bl s)).1,Vi (Zbp (bl s)).2])/\BW w u/\Hid ((Zbp (bl s)).1=0->ZJT u v (bl s)/\s.size<=6000):=by
 by_cases h:s.size<=6000
 ·refine(ZNp s w h).mono ?_;rintro e u ⟨v,a,c,g⟩;exact⟨v,a,c,hid (fun d=>⟨g.out d,h⟩)⟩
 ·have e:Zbp (bl s)=(1,0):=by unfold Zbp;rw[if_pos (by rw[Zd];omega)]
  rw[e];refine(ZNo s w Om f).mono ?_;rintro e' u ⟨v,a,c⟩;exact⟨v,a,c,hid (fun d=>by cases d)⟩
theorem ZOb (f l st : Int)  : CP 27 #[.agg #[Vi f, Vi l, Vi st]] w fun e u => ∃ v ok : Value, e = .returned (.tuple #[v, ok]) /\ Hid (ZKP u f l st v ok) /\ BW w u := by
  by_cases h:badT f l st
  · refine(ZNQ f l st w h).mono ?_
    rintro e u ⟨rfl,a⟩;exact⟨_,_,rfl,hid (Or.inl ⟨rfl,by unfold Zdr;rw[if_pos h]⟩),a⟩
  · exact ZNR f l st w h
def Zeu(st:List Ser)(t:Tr)(tm:Int):LB:=Zel tm (sayT st tm t)
def ZdK(q s:LB)(f l st:Int):LB×Nat×Nat:=match ZD q with
 | .error x=>([],x.1,x.2)
 | .ok t => if (Zbp s).1 ≠ 0 then ([], (Zbp s).1, (Zbp s).2) else match Zdr f l st with
   | none=>([],8,0)
   | some ts=>(Zcn (ts.map (Zeu (Ze6 s) t)),0,0)
