/- Parts. -/
import Derived.Test.YtkodhpilkaihjaaGreatDoorV13
import Derived.Test.YtkodhpilkaihjaaGreatDoorVX
import Derived.Test.YtkodhpilkaihjaaGreatDoorV09
set_option linter.all false
set_option maxRecDepth 100000
set_option maxHeartbeats 16000000
namespace Go.Proofs.YtkodhpilkaihjaaGreatDoor
open Go.RowKit LS Go.Proofs.Tryz
variable {l:LB}{bs xs:List Value}{B b x y:Nat}{a:Nd}{p q t:Tr}{v:Value}{w w':World}
section
theorem ZnW{T e:TypeId}{p:Value}(h:Lib.BuilderAtF T e B b p bs w)(c:BW w w'):Lib.BuilderAtF T e B b p bs w':=by
 obtain⟨i,v,d,⟨j,k⟩,l⟩:=h;refine⟨i,v,(c.block b (Yae.1 d).1).trans d,⟨j,?_⟩,l⟩;rcases k with a|⟨g,cap,cur,fz,a,m,f,n⟩
 ·exact Or.inl a
 ·exact Or.inr ⟨g,cap,cur,fz,a,m,(c.block g (Yae.1 f).1).trans f,n⟩
theorem Zt7{T e:TypeId}(h:Lib.IsBuilderF T e B b bs w)(a:BW w w'):Lib.IsBuilderF T e B b bs w':=by
 rcases h with h|h
 ·exact Or.inl (ZnW h a)
 ·exact Or.inr (ZnW h a)
theorem ZzT{e:TypeId}{b:Option Nat}(h:BW w w'):Lib.OthersKept e b w w':=fun k _ a _ _=>(h.block k (Yae.1 a).1).trans a
structure WB (w:World) (B b:Nat) (l:LB):Prop where
 bd:Lib.IsBuilderF 175 5 B b (Lib.byteCells l) w
 le:B<=w.heap.size
structure WK (B b:Nat) (w w':World):Prop where
 low:Below B w w'
 kept:Lib.OthersKept 5 (some b) w w'
theorem WK.refl(B b:Nat)(w:World):WK B b w w:=⟨Yaf _ _,Lib.OthersKept.refl _ _ _⟩
theorem WK.trans{y z a:World}(h:WK B b y z)(c:WK B b z a):WK B b y a:=⟨h.low.trans c.low,h.kept.trans c.kept⟩
theorem WK.below(h:BW w w')(a:B<=w.heap.size):WK B b w w':=⟨h.mono a,ZzT h⟩
theorem WB.below(h:WB w B b l)(a:BW w w'):WB w' B b l:=⟨Zt7 h.bd a,Yah h.le a.size⟩
theorem WB.ne(h:WB w B b l):b<w.heap.size/\∃c,w.heap[b]?=some (.cells c 175 (0,0)):=by
 rcases h.bd with h|h
 ·obtain⟨_,v,a,_⟩:=h;exact⟨(Yae.1 a).1,_,a⟩
 ·obtain⟨_,v,a,_⟩:=h;exact⟨(Yae.1 a).1,_,a⟩
theorem WK.block(f:WB w B b l)(h:WK B b w w'){a:Nat}{c:Array Value}{t:TypeId}{fr:Nat×Nat}(d:w.heap[a]?=some (.cells c t fr))(g:t≠175)(i:t≠5):w'.heap[a]?=some (.cells c t fr):=by
 refine h.kept a _ d ?_ ?_
 ·intro e;injection e with e;subst e;obtain⟨_,c',j⟩:=f.ne;rw[j]at d;injection d with d;injection d with _ d;exact g d.symm
 ·intro c' fz e;injection e with _ e;exact i e
theorem WK.bat(d:WB w B b l)(h:WK B b w w'){a:Nat}{c:List Value}{t:TypeId}(e:BAt w a c t)(f:t≠175)(g:t≠5):BAt w' a c t:=WK.block d h e f g
theorem WK.own(d:WB w B b l)(h:WK B b w w'){base:Nat}{e:TypeId}{size:Nat}{n:Nat}(c:w.ownsRow base e size v n xs)(f:e≠175)(i:e≠5):w'.ownsRow base e size v n xs:=by
 refine⟨c.1,?_⟩;rcases c.2 with a|⟨g,cap,cur,a,j,k,m⟩
 ·exact Or.inl a
 ·exact Or.inr ⟨g,cap,cur,a,j,WK.block d h k f i,m⟩
theorem Zh.wrote(d:WB w B b l)(h:WK B b w w')(e:Zh w t v):Zh w' t v:=
 Zh.mono (fun _ _ ⟨bs,a,c⟩=>⟨bs,WK.own d h a Dc Dc,c⟩) (fun _ _ ⟨bs,a,c⟩=>⟨bs,WK.own d h a Dc Dc,c⟩) t v e
theorem ZX.wrote(a:WB w B b l)(h:WK B b w w'){cs:List (LB×LB×Bool)}(c:ZX w v cs):ZX w' v cs:=by
 obtain⟨bs,d,e⟩:=c;exact⟨bs,WK.own a h d Dc Dc,e⟩
theorem Zbm.wrote(a:WB w B b l)(h:WK B b w w'){cs:List (LB)}(c:Zbm w v cs):Zbm w' v cs:=by
 obtain⟨bs,d,e⟩:=c;exact⟨bs,WK.own a h d Dc Dc,e⟩
theorem Zn4(l:LB)(s:BA):Lib.byteCells l++Lib.strCells s=Lib.byteCells (l++bl s):=by
 unfold Lib.byteCells Lib.strCells bl;rw[Yaq]
def big:Nat:=1000000
theorem Zda(h:WB w B b l)(s:BA)(d:l.length+s.size<=big) :
  CP 129 #[Vp b,.string s] w fun e u=>e=.returned (.tuple #[Vi s.size,.nilIface])/\Hid (WB u B b (l++bl s))/\Hid (WK B b w u):=by
 refine(ZhR B b (Lib.byteCells l) s w h.bd (by rw[Lib.byteCells_length];unfold big at d;omega) h.le).mono ?_;rintro e u ⟨rfl,a,c,f⟩;rw[Zn4]at a;exact⟨rfl,⟨Or.inr a,Yah h.le c.size⟩,⟨c,f⟩⟩
theorem Zlk(n:Nat):Lib.decDigits n=decS n:=by
 induction n using Nat.strongRecOn with
 | _ n ih=>
  by_cases h:n<=9
  ·rw[Zh0 h,Lib.decDigits,dif_pos Om];rfl
  ·rw[Zi6 h,Lib.decDigits,dif_neg Om,ih (n / 10) Om];rfl
def ZR (w : World) : Prop := Lib.TabIs Tryz.prog w "internal/strconv.uint64pow10" .u64 Lib.pow10Tab
theorem Tryz.gPow : Tryz.prog.globalNamed "internal/strconv.uint64pow10" = some 17 := by kernel_rfl
theorem ZR.low(h:ZR w)(a:Below B w w')(b:20<=B):ZR w':=var?_below a Tryz.gPow (Yaw Dc b) h
theorem ZlT(h:ZR w)(n:Int)(b:0<=n)(c:n<=1000000000) :
  CP 130 #[Vi n] w fun e u=>∃s:BA,e=.returned (.string s)/\Hid (bl s=decS n.toNat)/\BW w u:=by
 refine(strconv_Itoa n Om Om w h).mono ?_;rintro e u ⟨rfl,k,os,rfl⟩;refine⟨_,rfl,hid ?_,?_⟩
 ·rw[ZbF];unfold Lib.itoa;rw[if_neg Om,Zlk]
 ·exact⟨rfl,rfl,rfl,by simp[Go.Sort.grow,World.drewN],fun k a=>by simp[Go.Sort.grow,World.drewN,Array.getElem?_append,a]⟩
attribute [local go_sem ↓] Go.wp_at_zero Go.wp_at_succ
theorem ZoC(x y:BA)(ng:Bool) :
  CP 195 #[.agg #[.string x,.bool ng,.string y]] w fun e u=>e=.returned (.string (if ng then ⟨#[33,61]⟩else ⟨#[61]⟩))/\BW w u:=by
 cases ng
 ·go_enter func195,ntmps195;go_wp2;go_ret;exact⟨rfl,belB⟩
 ·go_enter func195,ntmps195;go_wp2;go_ret;exact⟨rfl,belB⟩
theorem Zwc (l : List (BA × BA × Bool)) (j : Nat) : (Zb1 l)[j * 3]? = l[j]?.map (fun t => .string t.1) /\ (Zb1 l)[j * 3 + 1]? = l[j]?.map (fun t => .bool t.2.2) /\ (Zb1 l)[j * 3 + 2]? = l[j]?.map (fun t => .string t.2.1) := by
  induction l generalizing j with
  | nil=>simp[Zb1]
  | cons r l ih=>
    cases j with
    | zero=>simp[Zb1]
    | succ j=>
      obtain⟨a,b,c⟩:=ih j;refine⟨?_,?_,?_⟩
      · rw[show(j+1)*3=j*3+1+1+1 by omega];simpa [Zb1] using a
      · rw[show(j+1)*3+1=j*3+1+1+1+1 by omega];simpa [Zb1] using b
      · rw[show(j+1)*3+2=j*3+1+1+1+1+1 by omega];simpa [Zb1] using c
def ZcN(bs:List (BA×BA×Bool))(k:Nat):LB:=ZRV ((bs.take k).map fun c=>Z8 (Z7 c))
theorem Zvc(bs:List (BA×BA×Bool))(k:Nat)(h:k<bs.length):ZcN bs (k+1)=(if k=0 then [] else ZcN bs k++[44])++Z8 (Z7 bs[k]):=by
 unfold ZcN;rw[List.take_succ_eq_append_getElem h,Yaq,List.map_singleton,Zlc];by_cases a:k=0
 ·subst a;rfl
 ·rw[if_neg a,if_neg (by rw[Ydl,List.map_eq_nil_iff];intro e;have:=congrArg List.length e;rw[Ya7,Ybq]at this;omega)]
theorem Zld(bs:List (BA×BA×Bool))(k:Nat):(ZcN bs k).length<=cw (bs.map Z7):=by
 unfold ZcN;refine Yah (ZeS _) ?_;rw[show(fun c=>Z8 (Z7 c))=Z8 ∘ Z7 from rfl,<-Yb1];refine Yah (Zmv _) ?_;rw[Yer];have:=ZoG ((bs.map Z7).take k) ((bs.map Z7).drop k);rw[Ycn]at this;omega
theorem Zvb(bs:List (BA×BA×Bool)):ZcN bs bs.length=ZRV ((bs.map Z7).map Z8):=by
 unfold ZcN;rw[Ya4,Yb1];rfl
theorem Zu7(c:BA×BA×Bool):Z8 (Z7 c)=bl c.1++(if c.2.2 then [33,61] else [61])++[34]++bl c.2.1++[34]:=rfl
theorem Ztq(h:WB w B b l)(nm:BA)(la:Option Addr)(ln lc:Nat)(a:Nd)(X:bl nm=a.name)(hc:ZX w (.slice la ln lc) a.jn)(Y:l.length+a.name.length+cw a.jn+10<=big) :
  CP 134 #[Vp b,.agg #[.string nm,.slice la ln lc]] w fun e u=>e=.returned (.tuple #[])/\Hid (WB u B b (l++selS a))/\Hid (WK B b w u):=by
 obtain⟨bs,D,M⟩:=hc;have d9:ln=bs.length:=by obtain⟨_,_,e⟩:=Zl D;injection e
 subst d9;have HW:Hid (WB w B b l):=h;have c5:Hid (bl nm=a.name):=X;have N:Hid (bs.map Z7=a.jn):=M;have p:Hid (l.length+nm.size+cw (bs.map Z7)+10<=big):=hid (by rw[M,ZU X];exact Y);have HO:Hid (w.ownsRow 0 379 3 (.slice la bs.length lc) bs.length (Zb1 bs)):=D
 have e8:bs.length<=1000000:=by
  have j:=p.out
  have V:bs.length<=cw (bs.map Z7):=by
   clear j p HO N D M
   induction bs with
   | nil=>exact Yag _
   | cons c l ih=>simp only[Ybb,cw,Yaj];omega
  unfold big at j;omega
 clear h X M Y D;go_enter func134,ntmps134
 go_upto_region 1 with fail
 refine ZP fun W0 Z=>?_;have O:BW w W0:=by rw[Z];exact Zbal
 have P:Hid (BAt W0 w.heap.size [.string nm,.slice la bs.length lc] 281):=hid (by rw[Z];exact Go.Deep.blk_alloc_new _ _);have Q:Hid (WB W0 B b l):=HW.below O;have c6:Hid (WK B b w W0):=WK.below O HW.le;have c7:=hid (Zn HO.out O);clear Z O;have s0:=P.cell 0;have s1:=P.cell 1;simp only[Zget]at s0 s1
 go_wp2_with fail
 refine(Zda Q.out nm (by have:=p.out;omega)).mono ?_;rintro e w1 ⟨rfl,H,E⟩;have a0:Hid (WK B b w w1):=c6.trans E.out;have a5:=hid (WK.bat Q.out E.out P.out Dc Dc);have a6:=hid (WK.own Q.out E.out c7.out Dc Dc);clear E s0 s1 P c6 Q c7;have s1:=a5.cell 1;simp only[Zget]at s1;by_cases hz:bs.length=0
 ·have HE:Hid (selS a=bl nm):=hid (by
   have:bs=[]:=Ya3 hz;unfold selS;rw[<-N.out,this,c5.out];rfl)
  rw[hz]at s1;go_wp2;exact bodyPost_ret (v:=.tuple #[]) (results_none rfl _ _ _) rfl ⟨rfl,by rw[HE.out];exact H,a0⟩
 ·have hp:0<bs.length:=by omega
  have HE:Hid (selS a=bl nm++[123]++ZcN bs bs.length++[125]):=hid (by
   unfold selS;rw[if_neg (by rw[<-N.out];intro e;rw[List.map_eq_nil_iff]at e;subst e;exact hz rfl),Zvb,N.out,c5.out])
  have e9:((bs.length:Int) == 0)=false:=by rw[beq_eq_false_iff_ne];omega
  obtain⟨g,cp,hg⟩:=ZF a6.out hp;injection hg with hg1 _ hg2;subst hg1 hg2
  go_wp2_with fail
  refine(Zda H.out ⟨#[123]⟩ (by rw[Yab,Zd];have:=p.out;show _+1<=_;omega)).mono ?_;rintro e z ⟨rfl,c8,F⟩;have c9:Hid (WK B b w z):=a0.trans F.out;have d3:=hid (WK.bat H.out F.out a5.out Dc Dc);have d4:=hid (WK.own H.out F.out a6.out Dc Dc);have e3:Hid (l++bl nm++[123]++ZcN bs 0=l++bl nm++[123]):=hid (by show _++ZRV ([]:List (LB))=_;simp[ZRV]);clear F s1 a5 a0 H a6;have s1:=d3.cell 1;simp only[Zget]at s1;go_wp2
  go_loopg [19] bs.length (fun gk v19 wr=>∃k:Nat,k<=bs.length/\gk=bs.length - k/\v19=Vi k/\Hid (WB wr B b (l++bl nm++[123]++ZcN bs k))/\Hid (WK B b w wr)/\Hid (wr.ownsRow 0 379 3 (.slice (some ⟨g,0,none⟩) bs.length lc) bs.length (Zb1 bs)))
  case atStart=>exact⟨0,Yag _,rfl,rfl,by rw[e3.out];exact c8,c9,d4⟩
  case round=>
   obtain⟨k,hk,f0,rfl,R,a7,A⟩:=hrel;clear c8 c9 d4 s1 d3;by_cases d5:k<bs.length
   ·have I:Hid (ZcN bs (k+1)=(if k=0 then [] else ZcN bs k++[44])++Z8 (Z7 bs[k])):=hid (Zvc bs k d5);have d6:Hid ((ZcN bs (k+1)).length<=cw (bs.map Z7)):=hid (Zld bs (k+1));have q:Hid (Z8 (Z7 bs[k])=bl bs[k].1++(if bs[k].2.2 then [33,61] else [61])++[34]++bl bs[k].2.1++[34]):=hid (Zu7 bs[k]);obtain⟨f1,f2,f3⟩:=Zwc bs k;rw[List.getElem?_eq_getElem d5]at f1 f2 f3;simp only[Ybf]at f1 f2 f3;have r0:=Zi A.out _ _ f1;have r1:=Zi A.out _ _ f2;have r2:=Zi A.out _ _ f3;clear f1 f2 f3;obtain⟨⟨x,y,ng⟩,hc⟩:∃c,c=bs[k]:=⟨_,rfl⟩
    rw[<-hc]at r0 r1 r2 I q;simp only at r0 r1 r2 q;have f4:=Z1 A.out;clear hc
    go_upto_region 7 with fail
    refine ZP fun L a8=>?_;have S:BW wr L:=by rw[a8];exact Zbal
    have J:Hid (BAt L wr.heap.size [.string x,.bool ng,.string y] 379):=hid (by rw[a8];exact Go.Deep.blk_alloc_new _ _);have C:Hid (WB L B b (l++bl nm++[123]++ZcN bs k)):=R.below S;have T:Hid (WK B b w L):=a7.trans (WK.below S R.le);have U:=hid (Zn A.out S);clear a8 S R a7 A r0 r1 r2;have e4:Hid (k=0∨0<k):=hid Om;rcases e4.out with a9|a9
    ·have m:Hid (WB L B b (l++bl nm++[123]++(if k=0 then [] else ZcN bs k++[44]))):=hid (by
      rw[if_pos a9,Yca];have h3:=C.out;rw[a9,show ZcN bs 0=[] from rfl,Yca]at h3;exact h3)
     have n:=J;have b0:=T;have b1:=U;clear C J T U;have e5:¬(0:Int)<k:=by omega
     go_upto_region 9 with fail
     have c0:=n.cell 0;have c1:=n.cell 1;have c2:=n.cell 2;simp only[Zget]at c0 c1 c2;obtain⟨sg,r⟩:∃sg:BA,sg=(if ng then ⟨#[33,61]⟩else ⟨#[61]⟩):=⟨_,rfl⟩
     have b2:Hid (sg=(if ng then ⟨#[33,61]⟩else ⟨#[61]⟩)):=r;have s:Hid (bl sg=(if ng then [33,61] else [61])):=hid (by rw[r];cases ng <;> rfl)
     have K:Hid (l.length+nm.size+1+(if k=0 then [] else ZcN bs k++[44]).length+(Z8 (Z7 (x,y,ng))).length+8<=big):=hid (by
      have j:=p.out;have V:=d6.out;rw[I.out,Yab]at V;omega)
     have b3:x.size+sg.size+y.size+2<=1000000:=by
      have j:=K.out;rw[q.out,<-s.out]at j;simp only[Yab,Zd,Yaj,Ybq]at j;unfold big at j;omega
     clear r;have a1:∀W,(Op.stringOp .add x sg).run prog W=.ok (.string (x++sg)) W:=fun W=>run_string_add_sum W _ _ Om;have y1:(x++sg:BA).size=x.size+sg.size:=by rw[Yaz]
     have a2:∀W,(Op.stringOp .add (x++sg) ⟨#[34]⟩).run prog W=.ok (.string ((x++sg)++⟨#[34]⟩)) W:=fun W=>run_string_add_sum W _ _ (by rw[y1];show _+1<=_;omega);have y2:((x++sg)++⟨#[34]⟩:BA).size=x.size+sg.size+1:=by rw[Yaz,y1];rfl
     have a3:∀W,(Op.stringOp .add ((x++sg)++⟨#[34]⟩) y).run prog W=.ok (.string (((x++sg)++⟨#[34]⟩)++y)) W:=fun W=>run_string_add_sum W _ _ (by rw[y2];omega);have y3:(((x++sg)++⟨#[34]⟩)++y:BA).size=x.size+sg.size+1+y.size:=by rw[Yaz,y2]
     have a4:∀W,(Op.stringOp .add (((x++sg)++⟨#[34]⟩)++y) ⟨#[34]⟩).run prog W=.ok (.string ((((x++sg)++⟨#[34]⟩)++y)++⟨#[34]⟩)) W:=fun W=>run_string_add_sum W _ _ (by rw[y3];show _+1<=_;omega)
     have b4:Hid (((((x++sg)++⟨#[34]⟩)++y)++⟨#[34]⟩:BA).size=(Z8 (Z7 (x,y,ng))).length):=hid (by
      rw[q.out,<-s.out];simp only[Yab,Zd,Yaz];rfl)
     have b5:Hid (bl ((((x++sg)++⟨#[34]⟩)++y)++⟨#[34]⟩)=Z8 (Z7 (x,y,ng))):=hid (by
      rw[q.out,<-s.out,ZcV,ZcV,ZcV,ZcV];rfl)
     clear y1 y2 y3 b3
     go_region_held3 (fun u => u.cell? ⟨wr.heap.size, 0, none⟩ = some (.string x) /\ u.cell? ⟨wr.heap.size, 1, none⟩ = some (.bool ng) /\ u.cell? ⟨wr.heap.size, 2, none⟩ = some (.string y)) (first | exact ⟨e0, e1, e2⟩ | exact ⟨d0, d1, d2⟩ | exact ⟨c0, c1, c2⟩ | go_keep) (first
       | (go_at_call 195
          refine(ZoC x y ng).mono ?_;rintro e w5 ⟨rfl,d⟩;rw[<-b2.out];have f:Hid (BW L w5):=hid ⟨d.os,d.tape,d.output,d.size,d.block⟩;have o:=hid (n.below f.out);have d0:=o.cell 0;have d1:=o.cell 1;have d2:=o.cell 2;simp only[Zget]at d0 d1 d2;clear d)
       | (go_at_call 129
          refine(Zda (m.below f.out) _ (by rw[b4.out];have:=K.out;simp only[Yab,Zd,Yaj,Ybq];omega)).mono ?_;rintro e w6 ⟨rfl,b6,i⟩;have t:=hid (WK.bat (m.below f.out) i.out o.out Dc Dc);have e0:=t.cell 0;have e1:=t.cell 1;have e2:=t.cell 2;simp only[Zget]at e0 e1 e2;have b7:Hid (WK B b w w6):=b0.trans ((WK.below f.out m.le).trans i.out);have b8:=hid (WK.own (m.below f.out) i.out (Zn b1.out f.out) Dc Dc);clear i))
     have b9:Hid (WB w6 B b (l++bl nm++[123]++ZcN bs (k+1))):=hid (by
      rw[I.out,<-b5.out,<-Yan];exact b6.out)
     go_wp2
     go_roundg (bs.length - (k+1))
     case measure=>omega
     case rel=>exact⟨k+1,by omega,rfl,by go_num,b9,b7,b8⟩
    ·have d8:=J;have e5:(0:Int)<k:=by omega
     go_wp2_with fail
     refine(Zda C.out ⟨#[44]⟩ (by have j:=p.out;have V:=Zld bs k;simp only[Yab,Zd];show _+1<=_;simp only[Yaj,Ybq];omega)).mono ?_;rintro e w4 ⟨rfl,c3,G⟩
     have m:Hid (WB w4 B b (l++bl nm++[123]++(if k=0 then [] else ZcN bs k++[44]))):=hid (by
      rw[if_neg Om,<-Yan];exact c3.out)
     have n:=hid (WK.bat C.out G.out J.out Dc Dc);have b0:Hid (WK B b w w4):=T.trans G.out;have b1:=hid (WK.own C.out G.out U.out Dc Dc);clear C J T U G c3 d8
     go_upto_region 9 with fail
     have c0:=n.cell 0;have c1:=n.cell 1;have c2:=n.cell 2;simp only[Zget]at c0 c1 c2;obtain⟨sg,r⟩:∃sg:BA,sg=(if ng then ⟨#[33,61]⟩else ⟨#[61]⟩):=⟨_,rfl⟩
     have b2:Hid (sg=(if ng then ⟨#[33,61]⟩else ⟨#[61]⟩)):=r;have s:Hid (bl sg=(if ng then [33,61] else [61])):=hid (by rw[r];cases ng <;> rfl)
     have K:Hid (l.length+nm.size+1+(if k=0 then [] else ZcN bs k++[44]).length+(Z8 (Z7 (x,y,ng))).length+8<=big):=hid (by
      have j:=p.out;have V:=d6.out;rw[I.out,Yab]at V;omega)
     have b3:x.size+sg.size+y.size+2<=1000000:=by
      have j:=K.out;rw[q.out,<-s.out]at j;simp only[Yab,Zd,Yaj,Ybq]at j;unfold big at j;omega
     clear r;have a1:∀W,(Op.stringOp .add x sg).run prog W=.ok (.string (x++sg)) W:=fun W=>run_string_add_sum W _ _ Om;have y1:(x++sg:BA).size=x.size+sg.size:=by rw[Yaz]
     have a2:∀W,(Op.stringOp .add (x++sg) ⟨#[34]⟩).run prog W=.ok (.string ((x++sg)++⟨#[34]⟩)) W:=fun W=>run_string_add_sum W _ _ (by rw[y1];show _+1<=_;omega);have y2:((x++sg)++⟨#[34]⟩:BA).size=x.size+sg.size+1:=by rw[Yaz,y1];rfl
     have a3:∀W,(Op.stringOp .add ((x++sg)++⟨#[34]⟩) y).run prog W=.ok (.string (((x++sg)++⟨#[34]⟩)++y)) W:=fun W=>run_string_add_sum W _ _ (by rw[y2];omega);have y3:(((x++sg)++⟨#[34]⟩)++y:BA).size=x.size+sg.size+1+y.size:=by rw[Yaz,y2]
     have a4:∀W,(Op.stringOp .add (((x++sg)++⟨#[34]⟩)++y) ⟨#[34]⟩).run prog W=.ok (.string ((((x++sg)++⟨#[34]⟩)++y)++⟨#[34]⟩)) W:=fun W=>run_string_add_sum W _ _ (by rw[y3];show _+1<=_;omega)
     have b4:Hid (((((x++sg)++⟨#[34]⟩)++y)++⟨#[34]⟩:BA).size=(Z8 (Z7 (x,y,ng))).length):=hid (by
      rw[q.out,<-s.out];simp only[Yab,Zd,Yaz];rfl)
     have b5:Hid (bl ((((x++sg)++⟨#[34]⟩)++y)++⟨#[34]⟩)=Z8 (Z7 (x,y,ng))):=hid (by
      rw[q.out,<-s.out,ZcV,ZcV,ZcV,ZcV];rfl)
     clear y1 y2 y3 b3
     go_region_held3 (fun u => u.cell? ⟨wr.heap.size, 0, none⟩ = some (.string x) /\ u.cell? ⟨wr.heap.size, 1, none⟩ = some (.bool ng) /\ u.cell? ⟨wr.heap.size, 2, none⟩ = some (.string y)) (first | exact ⟨e0, e1, e2⟩ | exact ⟨d0, d1, d2⟩ | exact ⟨c0, c1, c2⟩ | go_keep) (first
       | (go_at_call 195
          refine(ZoC x y ng).mono ?_;rintro e w5 ⟨rfl,d⟩;rw[<-b2.out];have f:Hid (BW w4 w5):=hid ⟨d.os,d.tape,d.output,d.size,d.block⟩;have o:=hid (n.below f.out);have d0:=o.cell 0;have d1:=o.cell 1;have d2:=o.cell 2;simp only[Zget]at d0 d1 d2;clear d)
       | (go_at_call 129
          refine(Zda (m.below f.out) _ (by rw[b4.out];have:=K.out;simp only[Yab,Zd,Yaj,Ybq];omega)).mono ?_;rintro e w6 ⟨rfl,b6,i⟩;have t:=hid (WK.bat (m.below f.out) i.out o.out Dc Dc);have e0:=t.cell 0;have e1:=t.cell 1;have e2:=t.cell 2;simp only[Zget]at e0 e1 e2;have b7:Hid (WK B b w w6):=b0.trans ((WK.below f.out m.le).trans i.out);have b8:=hid (WK.own (m.below f.out) i.out (Zn b1.out f.out) Dc Dc);clear i))
     have b9:Hid (WB w6 B b (l++bl nm++[123]++ZcN bs (k+1))):=hid (by
      rw[I.out,<-b5.out,<-Yan];exact b6.out)
     go_wp2
     go_roundg (bs.length - (k+1))
     case measure=>omega
     case rel=>exact⟨k+1,by omega,rfl,by go_num,b9,b7,b8⟩
   ·obtain rfl:k=bs.length:=by omega
    go_wp2_with fail
    refine(Zda R.out ⟨#[125]⟩ (by have j:=p.out;have V:=Zld bs bs.length;simp only[Yab,Zd,Yaj,Ybq];show _+1<=_;omega)).mono ?_;rintro e w8 ⟨rfl,d7,c4⟩;have e6:Hid (WK B b w w8):=a7.trans c4.out;have e7:Hid (WB w8 B b (l++selS a)):=hid (by rw[HE.out];have:=d7.out;simp only[Yan]at this ⊢;exact this);clear c4 d7;go_wp2
    go_end0
    exact⟨rfl,e7,e6⟩
end
section
theorem Zop:∀xs:List (LB),([44]:LB).intercalate xs=ZRV xs
 | []=>rfl
 | [a]=>by simp[List.intercalate,ZRV]
 | a :: b :: l => by
   have ih:=Zop (b::l);rw[ZhX,<-ih];simp[List.intercalate]
theorem ZlV(la:Option Addr)(ln lc:Nat)(ns:List (LB))(h:Zbm w (.slice la ln lc) ns)(t:nw ns<=1000000) :
  CP 96 #[.slice la ln lc,.string ⟨#[44]⟩] w fun e u=>∃s:BA,e=.returned (.string s)/\Hid (bl s=ZRV ns)/\BW w u:=by
 obtain⟨bs,a,b⟩:=h;have k:ln=bs.length:=by obtain⟨_,_,e⟩:=Zl a;injection e
 subst k;by_cases i:bs.length=0
 ·rw[i];refine(strings_Join_none la lc ⟨#[44]⟩ w).mono ?_;rintro e u ⟨rfl,rfl⟩;have:bs=[]:=Ya3 i;subst this;exact⟨_,rfl,hid (by rw[<-b];rfl),Yaf _ _⟩
 ·obtain⟨g,cp,m⟩:=ZF a Om;injection m with hg1 _ hg2;subst hg1 hg2
  have d:Lib.join (bs.map (·.data.toList)) [44]=ZRV ns:=by
   rw[<-b];exact Zop _
  have q:=ZeS ns
  have f:bs.length<=lc:=by
   rcases a.2 with ⟨e,_⟩|⟨g',cap,cur,e,_,_,n,_⟩
   ·cases e
   ·injection e with _ _ e;subst e;exact n
  have r:bs.length<=1000000:=by
   have o:bs.length<=nw (bs.map bl):=by
    clear d f a b i
    induction bs with
    | nil=>exact Yag _
    | cons c l ih=>simp only[Ybb,nw,Yaj];omega
   rw[b]at o;omega
  refine(strings_Join g 0 lc bs ⟨#[44]⟩ w ?_ (Z1 a) Om f (by show(Lib.join (bs.map (·.data.toList)) [44]).length<=_;rw[d];omega)).mono ?_
  ·intro j x d;rw[Ycf];exact Zi a j _ (by show(bs.map Value.string)[j]?=_;rw[Ya2,d];rfl)
  ·rintro e u ⟨rfl,p⟩;exact⟨_,rfl,hid (by show bl (ByteArray.mk (Lib.join (bs.map (·.data.toList)) [44]).toArray)=_;rw[ZbF,d]),p⟩
theorem ZsJ(c:a.jj=4∨a.jj=6)(d:a.jj=4->a.op<=3):Zdb (opNo a)+1=Zz a/\opNo a<=4:=by
 rcases c with h|h
 ·have e:=d h;have e1:opNo a=a.op+1:=by unfold opNo;rw[if_neg Om]
  have e2:Zz a=if a.op<2 then 2 else 3:=by unfold Zz;rw[if_neg Om,if_pos h]
  rw[e1,e2];refine⟨?_,by omega⟩;unfold Zdb;rw[if_neg Om];by_cases b:a.op<2
  ·rw[if_pos b,if_pos Om]
  ·rw[if_neg b,if_neg Om]
 ·have e1:opNo a=0:=by unfold opNo;rw[if_pos h]
  have e2:Zz a=1:=by unfold Zz;rw[if_pos h]
  rw[e1,e2];exact⟨rfl,by omega⟩
theorem Zvl(b:a.jj=4∨a.jj=6)(c:a.jj=4->a.op<=3)(pl pr:Nat->LB):Zbv a pl pr=pl (Zz a)++[32]++Ze5 (opNo a)++[32]++pr (Zz a+1):=by
 unfold Zbv;rw[if_neg Om,if_neg Om,if_neg Om,if_neg Om,if_neg Om];rcases b with h|h
 ·rw[if_neg Om];have:=c h
  have e:opS a.op=Ze5 (opNo a):=by
   unfold opNo;rw[if_neg Om];rcases(by omega:a.op=0∨a.op=1∨a.op=2∨a.op=3)with h|h|h|h <;> rw[h] <;> rfl
  rw[e]
 ·have e:Zz a=1:=by unfold Zz;rw[if_pos h]
  rw[if_pos h,e];unfold opNo Ze5;rw[if_pos h,if_pos rfl];simp
theorem ZA5 (W : World)  : CP 345 #[v] W fun e u => e = .returned (Vi 3) /\ BW W u := by
  go_enter func345,ntmps345;go_wp2
  all_goals
    go_ret;exact⟨rfl,belB⟩
theorem ZA4 (W : World)  : CP 346 #[v] W fun e u => e = .returned (Vi 3) /\ BW W u := by
  go_enter func346,ntmps346;go_wp2
  all_goals
    go_ret;exact⟨rfl,belB⟩
theorem ZA7 (W : World)  : CP 347 #[v] W fun e u => e = .returned (Vi 3) /\ BW W u := by
  go_enter func347,ntmps347;go_wp2
  all_goals
    go_ret;exact⟨rfl,belB⟩
theorem ZA8 (W : World)  : CP 349 #[v] W fun e u => e = .returned (Vi 3) /\ BW W u := by
  go_enter func349,ntmps349;go_wp2
  all_goals
    go_ret;exact⟨rfl,belB⟩
theorem ZA6 (W : World)  : CP 348 #[v] W fun e u => e = .returned (Vi 3) /\ BW W u := by
  go_enter func348,ntmps348;go_wp2
  all_goals
    go_ret;exact⟨rfl,belB⟩
theorem ZrK (W : World) (o : Nat) (a : o <= 4) (ty1 ty2 : TypeId) (u1 u2 : Value) : CP 132 #[.agg #[Vi o, .iface ty1 u1, .iface ty2 u2]] W fun e u => e = .returned (Vi (Zdb o)) /\ BW W u := by
  have b:BW W (W.alloc (.cells #[Vi o,.iface ty1 u1,.iface ty2 u2] 268)):=Zbal;go_enter func132,ntmps132
  go_wp2_with (go_at_call 125;refine(Zm0 o a).mono ?_;rintro e c ⟨rfl,rfl⟩)
  go_ret;exact⟨rfl,b⟩
theorem mN  (w : World) : (Go.method 620 270 v "gauge/syntax.rank").run Tryz.prog w = .ok (345, v) w := by kernel_rfl
theorem mG  (w : World) : (Go.method 620 272 v "gauge/syntax.rank").run Tryz.prog w = .ok (346, v) w := by kernel_rfl
theorem mU (v : Value) (w : World) : (Go.method 620 274 v "gauge/syntax.rank").run Tryz.prog w = .ok (347, v) w := by kernel_rfl
theorem mW  (w : World) : (Go.method 620 283 v "gauge/syntax.rank").run Tryz.prog w = .ok (349, v) w := by kernel_rfl
theorem mS  (w : World) : (Go.method 620 281 v "gauge/syntax.rank").run Tryz.prog w = .ok (348, v) w := by kernel_rfl
theorem mP  (w : World) : (Go.method 620 268 v "gauge/syntax.rank").run Tryz.prog w = .ok (132, v) w := by kernel_rfl
theorem ZAk    {l r : Tr}  (h : Zh w (.node x y a l r) v) (ho : a.jj = 4 → a.op ≤ 3) : ∃ (ty : TypeId) (u : Value) (f : FuncId), v = .iface ty u ∧ (∀ W, (Go.method 620 ty u "gauge/syntax.rank").run Tryz.prog W = .ok (f, u) W) ∧ (∀ W, (callFunc f #[u]).run Tryz.prog W = .ok (.enter f #[u]) W) ∧ (∀ W, Calls Tryz.prog f #[u] W fun e w' => e = .returned (.int .i64 ((Zz a - 1 : Nat) : Int)) ∧ Below W.heap.size W w') := by
  have h4:a.jj<=3∨a.jj=5->Zz a - 1=3:=by
    intro h;unfold Zz;rw[if_neg Om,if_neg Om]
  rcases h with ⟨hk,rfl⟩|⟨hk,nm,la,ln,lc,rfl,_⟩|⟨hk,wd,nm,la,ln,lc,rfl,_⟩|⟨hk,z,rfl,hz⟩|⟨hk,wd,la,ln,lc,z,rfl,_,_,hz⟩|⟨hk,z1,z2,rfl,hz1,hz2⟩
  · exact⟨_,_,_,rfl,fun W=>mN W,fun W=>by kernel_rfl,fun W=>by rw[h4 Om];exact ZA5 W⟩
  · exact⟨_,_,_,rfl,fun W=>mS W,fun W=>by kernel_rfl,fun W=>by rw[h4 Om];exact ZA6 W⟩
  · exact⟨_,_,_,rfl,fun W=>mW W,fun W=>by kernel_rfl,fun W=>by rw[h4 Om];exact ZA8 W⟩
  · exact⟨_,_,_,rfl,fun W=>mG W,fun W=>by kernel_rfl,fun W=>by rw[h4 Om];exact ZA4 W⟩
  · exact⟨_,_,_,rfl,fun W=>mU _ W,fun W=>by kernel_rfl,fun W=>by rw[h4 Om];exact ZA7 W⟩
  · obtain⟨t1,u1,rfl⟩:=Zh.shape hz1
    obtain⟨t2,u2,rfl⟩:=Zh.shape hz2;have ht:=ZsJ hk ho;exact⟨_,_,_,rfl,fun W=>mP W,fun W=>by kernel_rfl,fun W=>by rw[show Zz a - 1=Zdb (opNo a) by omega];exact ZrK W _ ht.2 _ _ _ _⟩
def WC(t:Tr):Prop:=∀(w:World) (v:Value) (B b:Nat) (l:LB),Zh w t v->WB w B b l->ZR w->20<=B->l.length+wT t<=big->
 CP 72 #[Vp b,v] w fun e w'=>e=.returned (.tuple #[])/\Hid (WB w' B b (l++Zu t 1))/\Hid (WK B b w w')
def WW(t:Tr):Prop:=∀(w:World) (v:Value) (B b:Nat) (l:LB) (j:Nat),Zh w t v->WB w B b l->ZR w->20<=B->l.length+wT t+2<=big->
 CP 131 #[Vp b,v,Vi j] w fun e w'=>e=.returned (.tuple #[])/\Hid (WB w' B b (l++Zu t (j+1)))/\Hid (WK B b w w')
theorem Zd7{l r:Tr} : Zu (.node x y a l r) 1=Zbv a (Zu l) (Zu r):=by
 show ZeK (decide (Zz a<1)) _=_;rw[decide_eq_false (by unfold Zz;split <;> (try split) <;> (try split) <;> omega)];rfl
theorem Ztc(d:wfT t)(h:WC t):WW t:=by
 intro w v B b l j r P Q R F
 match t,d,h,r,F with
 | .node x y a p q,d,h,r,F=>
  obtain⟨ty,u,f,rfl,hm,S,T⟩:=ZAk r d.2.2.1;have HP:Hid (Zh w (.node x y a p q) (.iface ty u)):=r;have U:Hid (WB w B b l):=P;have V:Hid (ZR w):=Q;have G:Hid (20<=B):=R;have H:Hid (l.length+wT (.node x y a p q)+2<=big):=F;have HC:Hid (∀W,CP f #[u] W fun e w'=>e=.returned (Vi ((Zz a - 1:Nat):Int))/\BW W w'):=T;have I:Hid (1<=Zz a):=hid (by unfold Zz;split <;> (try split) <;> (try split) <;> omega)
  have J:Hid ((Zu (.node x y a p q) 1).length+2<=wT (.node x y a p q)):=hid (by
   rw[Zd7];exact Zow d.2.2.2.2.2.1 (fun m=>Zfy p m d.2.2.2.2.2.2.2.2.2.2.1) (fun m=>Zfy q m d.2.2.2.2.2.2.2.2.2.2.2))
  clear T r P Q R F;go_enter func131,ntmps131
  go_wp2_with fail
  refine(HC.out w).mono ?_;rintro e s ⟨rfl,i⟩;have A:Hid (Zh s (.node x y a p q) (.iface ty u)):=HP.below i;have k:Hid (WB s B b l):=U.below i;have n:Hid (WK B b w s):=WK.below i U.le;have K:Hid (ZR s):=V.low n.low G.out;clear i hm S;obtain⟨rk,C⟩:∃rk,rk=Zz a - 1:=⟨_,rfl⟩
  rw[<-C];by_cases a2:(j:Int)<=rk
  ·have O:Hid (Zu (.node x y a p q) (j+1)=Zu (.node x y a p q) 1):=hid (by
    rw[Zd7];show ZeK (decide (Zz a<j+1)) _=_;rw[decide_eq_false (by have:=I.out;omega)];rfl)
   clear C
   go_wp2_with fail
   refine(h s _ B b l A.out k.out K.out G.out (by have:=H.out;omega)).mono ?_;rintro e z ⟨rfl,o,c⟩;have g:Hid (WK B b w z):=n.trans c.out;clear c;go_wp2;exact bodyPost_ret (v:=.tuple #[]) (results_none rfl _ _ _) rfl ⟨rfl,by rw[O.out];exact o,g⟩
  ·have O:Hid (Zu (.node x y a p q) (j+1)=[40]++Zu (.node x y a p q) 1++[41]):=hid (by
    rw[Zd7];show ZeK (decide (Zz a<j+1)) _=_;rw[decide_eq_true (by have:=I.out;omega)];rfl)
   clear C
   go_wp2_with fail
   refine(Zda k.out ⟨#[40]⟩ (by have X:=H.out;have h2:=J.out;show _+1<=_;omega)).mono ?_;rintro e z ⟨rfl,o,c⟩;have g:Hid (WK B b w z):=n.trans c.out;have L:Hid (Zh z (.node x y a p q) (.iface ty u)):=hid (Zh.wrote k.out c.out A.out);have M:Hid (ZR z):=V.low g.low G.out;clear c A k n K
   go_wp2_with fail
   refine(h z _ B b _ L.out o.out M.out G.out (by rw[Yab,Zd];have X:=H.out;show _+1+_<=_;omega)).mono ?_;rintro e w3 ⟨rfl,Y,D⟩;have Z:Hid (WK B b w w3):=g.trans D.out;clear D L o g M
   go_wp2_with fail
   refine(Zda Y.out ⟨#[41]⟩ (by simp only[Yab,Zd];have X:=H.out;have h2:=J.out;show _+1+_+1<=_;omega)).mono ?_;rintro e w4 ⟨rfl,N,E⟩;have a0:Hid (WK B b w w4):=Z.trans E.out
   have a1:Hid (WB w4 B b (l++Zu (.node x y a p q) (j+1))):=hid (by
    rw[O.out];have:=N.out;simp only[Yan]at this ⊢;exact this)
   clear E N;go_wp2
   go_end0
   exact⟨rfl,a1,a0⟩
attribute [local go_sem ↓] Go.wp_at_zero Go.wp_at_succ
attribute [local go_sem] ZhB ZkO ZkP ZkN ZkQ ZiT ZhA Zhz ZkL ZkK ZkM ZiS ZgB ZgA ZgC ZkR ZkS ZiU Zhx Zhw Zhy Zhv ZkJ ZiR ZhJ ZhI ZhK ZhH ZhL ZiV ZhE ZhD ZhF ZhC ZhG ZgD
theorem Zvi(h:a.jj=0)(pl pr:Nat->LB):Zbv a pl pr=decS a.n.toNat:=by unfold Zbv;rw[if_pos h]
theorem Zvj(h:a.jj=1)(pl pr:Nat->LB):Zbv a pl pr=selS a:=by unfold Zbv;rw[if_neg Om,if_pos h]
theorem Zvk(h:a.jj=2)(pl pr:Nat->LB):Zbv a pl pr=Z0.getD a.op []++[40]++selS a++[91]++decS a.n.toNat++[93,41]:=by unfold Zbv;rw[if_neg Om,if_neg Om,if_pos h]
theorem Zvh(h:a.jj=3)(pl pr:Nat->LB):Zbv a pl pr=[45]++pl 4:=by unfold Zbv;rw[if_neg Om,if_neg Om,if_neg Om,if_pos h]
theorem Zvg(h:a.jj=5)(pl pr:Nat->LB):Zbv a pl pr=ZW.getD a.op []++[32,98,121,32,40]++ZRV a.by_++[41,32,40]++pl 1++[41]:=by unfold Zbv;rw[if_neg Om,if_neg Om,if_neg Om,if_neg Om,if_pos h]
theorem ZoL{n:Int}(h:n<=1000000000):(decS n.toNat).length<=10:=by
 refine ZhZ 9 _ ?_;have a:n.toNat<=1000000000:=by omega
 have b:(10:Nat) ^ 10=10000000000:=by decide
 omega
theorem ZET(c:wfT (.node x y a p q))(k:a.jj=0)(w:World)(B b:Nat)(l:LB)(m:WB w B b l)(o:ZR w)(r:20<=B)(K:l.length+wT (.node x y a p q)<=big) :
  CP 72 #[Vp b,.iface 270 (.agg #[Vi a.n])] w fun e u=>e=.returned (.tuple #[])/\Hid (WB u B b (l++Zu (.node x y a p q) 1))/\Hid (WK B b w u):=by
 have t:Hid (Zu (.node x y a p q) 1=decS a.n.toNat):=hid (by rw[Zd7,Zvi k]);have v:Hid (WB w B b l):=m;have L:Hid (ZR w):=o;have M:Hid (20<=B):=r;have h:Hid (0<=a.n/\a.n<=1000000000):=⟨c.2.2.2.2.1,c.2.2.2.2.2.1⟩
 have N:Hid (l.length+24<=big):=hid (by have O:ownW a+wT p+wT q=wT (.node x y a p q):=rfl;unfold ownW at O;omega);obtain⟨n,A⟩:∃n,n=a.n:=⟨_,rfl⟩
 rw[<-A]at h t ⊢;clear m o r K c k A;go_enter func72,ntmps72
 go_wp2_with fail
 refine Zm fun W C=>?_;have d:BW w W:=by rw[C];exact Zbal
 have i:Hid (WB W B b l):=v.below d;have j:Hid (WK B b w W):=WK.below d v.le;have D:Hid (ZR W):=L.low j.low M.out;clear C d;refine(ZlT D.out n h.1 h.2).mono ?_;rintro e E ⟨s,rfl,F,f⟩;have G:Hid (WB E B b l):=i.below f;have H:Hid (WK B b w E):=j.trans (WK.below f i.le);clear f
 go_wp2_with fail
 refine(Zda G.out s (by rw[ZU F.out];have:=ZoL h.2;have:=N.out;omega)).mono ?_;rintro e z ⟨rfl,I,g⟩;have J:Hid (WK B b w z):=H.trans g.out;clear g;go_wp2
 go_end0
 exact⟨rfl,by rw[t.out,<-F.out];exact I,J⟩
theorem ZEV(g:a.jj=1)(nm:BA)(la:Option Addr)(ln lc:Nat)(w:World)(f:bl nm=a.name)(h:ZX w (.slice la ln lc) a.jn)(B b:Nat)(l:LB)(i:WB w B b l)(v:l.length+wT (.node x y a p q)<=big) :
  CP 72 #[Vp b,.iface 281 (.agg #[.string nm,.slice la ln lc])] w fun e u=>e=.returned (.tuple #[])/\Hid (WB u B b (l++Zu (.node x y a p q) 1))/\Hid (WK B b w u):=by
 have A:Hid (Zu (.node x y a p q) 1=selS a):=hid (by rw[Zd7,Zvj g]);have j:Hid (WB w B b l):=i;have k:Hid (bl nm=a.name):=f;have C:Hid (ZX w (.slice la ln lc) a.jn):=h;have D:Hid (l.length+a.name.length+cw a.jn+10<=big):=hid (by have E:ownW a+wT p+wT q=wT (.node x y a p q):=rfl;unfold ownW at E;omega);clear i v g f h;go_enter func72,ntmps72
 go_wp2_with fail
 refine Zm fun W m=>?_;have c:BW w W:=by rw[m];exact Zbal
 have n:Hid (WB W B b l):=j.below c;have o:Hid (WK B b w W):=WK.below c j.le;have r:Hid (ZX W (.slice la ln lc) a.jn):=C.below c;clear m c;refine(Ztq n.out nm la ln lc a k.out r.out D.out).mono ?_;rintro e z ⟨rfl,s,d⟩;have t:Hid (WK B b w z):=o.trans d.out;clear d;go_wp2
 go_end0
 exact⟨rfl,by rw[A.out];exact s,t⟩
theorem ZEW(j:wfT (.node x y a p q))(O:a.jj=2)(c nm:BA)(la:Option Addr)(ln lc:Nat)(w:World)(k:bl c=Z0.getD a.op [])(E:bl nm=a.name)(P:ZX w (.slice la ln lc) a.jn)(B b:Nat)(l:LB)(Q:WB w B b l)(R:ZR w)(S:20<=B)(hl:l.length+wT (.node x y a p q)<=big) :
  CP 72 #[Vp b,.iface 283 (.agg #[.string c,.string nm,.slice la ln lc,Vi a.n])] w fun e u=>e=.returned (.tuple #[])/\Hid (WB u B b (l++Zu (.node x y a p q) 1))/\Hid (WK B b w u):=by
 have T:Hid (Zu (.node x y a p q) 1=bl c++[40]++selS a++[91]++decS a.n.toNat++[93,41]):=hid (by rw[Zd7,Zvk O,k]);have U:Hid (WB w B b l):=Q;have HT:Hid (ZR w):=R;have HB:Hid (20<=B):=S;have D:Hid (0<=a.n/\a.n<=1000000000):=⟨j.2.2.2.2.1,j.2.2.2.2.2.1⟩
 have V:Hid (bl nm=a.name):=E;have HC:Hid (ZX w (.slice la ln lc) a.jn):=P;have a7:c.size<=5:=by rw[ZU k];exact Zh5 Z0 Dc a.op
 have M:Hid (l.length+a.name.length+cw a.jn+24<=big):=hid (by have h1:ownW a+wT p+wT q=wT (.node x y a p q):=rfl;unfold ownW at h1;omega);have X:Hid ((selS a).length<=a.name.length+cw a.jn+2):=hid (Zr7 a);obtain⟨n,Y⟩:∃n,n=a.n:=⟨_,rfl⟩
 rw[<-Y]at D T ⊢;have a1:∀W,(Op.stringOp .add c ⟨#[40]⟩).run prog W=.ok (.string (c++⟨#[40]⟩)) W:=fun W=>run_string_add_sum W _ _ (by show c.size+1<=_;omega);have m:Hid ((c++⟨#[40]⟩:BA).size=c.size+1):=hid (by rw[Yaz];rfl);clear Q R S hl j O Y k E P;go_enter func72,ntmps72
 go_upto_region 20 with fail
 refine ZP fun W N=>?_;have g:BW w W:=by rw[N];exact Zbal
 have o:Hid (BAt W w.heap.size [.string c,.string nm,.slice la ln lc,Vi n] 283):=hid (by rw[N];exact Go.Deep.blk_alloc_new _ _);have h:Hid (WB W B b l):=U.below g;have F:Hid (WK B b w W):=WK.below g U.le;have G:Hid (ZX W (.slice la ln lc) a.jn):=HC.below g;clear N g;have p0:=o.cell 0;simp only[Ycy]at p0
 go_wp2_with fail
 refine(Zda h.out _ (by rw[m.out];have:=M.out;omega)).mono ?_;rintro e Z ⟨rfl,r,d⟩;have H:Hid (WK B b w Z):=F.trans d.out;have i:=hid (WK.bat h.out d.out o.out Dc Dc);have I:Hid (ZX Z (.slice la ln lc) a.jn):=hid (G.wrote h.out d.out);clear d p0 o h F G;have p1:=i.cell 1;have p2:=i.cell 2;simp only[Zget]at p1 p2
 go_wp2_with fail
 refine(Ztq r.out nm la ln lc a V.out I.out (by rw[Yab,Zd,m.out];have:=M.out;omega)).mono ?_;rintro e z ⟨rfl,t,f⟩;have v:Hid (WK B b w z):=H.trans f.out;have a0:=hid (WK.bat r.out f.out i.out Dc Dc);have J:Hid (ZR z):=HT.low v.low HB.out;clear f p1 p2 i r H I;have p3:=a0.cell 3;simp only[Zget]at p3
 go_wp2_with fail
 refine(ZlT J.out n D.1 D.2).mono ?_;rintro e w3 ⟨s,rfl,hs,A⟩;have a2:=hid (t.below A);have a3:Hid (WK B b w w3):=v.trans (WK.below A t.le);have a8:s.size<=10:=by rw[ZU hs.out];exact ZoL D.2
 have b1:∀W,(Op.stringOp .add ⟨#[91]⟩ s).run prog W=.ok (.string (⟨#[91]⟩++s)) W:=fun W=>run_string_add_sum W _ _ (by show 1+s.size<=_;omega);have K:Hid ((⟨#[91]⟩++s:BA).size=1+s.size):=hid (by rw[Yaz];rfl);have b2:∀W,(Op.stringOp .add (⟨#[91]⟩++s) ⟨#[93,41]⟩).run prog W=.ok (.string ((⟨#[91]⟩++s)++⟨#[93,41]⟩)) W:=fun W=>run_string_add_sum W _ _ (by rw[K.out];show _+2<=_;omega);have a4:Hid (((⟨#[91]⟩++s)++⟨#[93,41]⟩:BA).size=1+s.size+2):=hid (by rw[Yaz,K.out];rfl);clear A p3 t v J
 go_wp2_with fail
 refine(Zda a2.out _ (by rw[a4.out];simp only[Yab,Zd];rw[m.out];have:=M.out;have:=X.out;omega)).mono ?_;rintro e w4 ⟨rfl,L,C⟩;have a5:Hid (WK B b w w4):=a3.trans C.out
 have a6:Hid (WB w4 B b (l++Zu (.node x y a p q) 1)):=hid (by
  rw[T.out,<-hs.out];have:=L.out;rw[ZcV,ZcV,ZcV]at this;simp only[Yan]at this ⊢;exact this)
 clear C L;go_wp2
 go_end0
 exact⟨rfl,a6,a5⟩
theorem ZES(s:a.jj=3)(ih:WW p)(w:World)(z:Value)(o:Zh w p z)(B b:Nat)(l:LB)(t:WB w B b l)(v:ZR w)(A:20<=B)(O:l.length+wT (.node x y a p q)<=big) :
  CP 72 #[Vp b,.iface 272 (.agg #[z])] w fun e C=>e=.returned (.tuple #[])/\Hid (WB C B b (l++Zu (.node x y a p q) 1))/\Hid (WK B b w C):=by
 have P:Hid (Zu (.node x y a p q) 1=[45]++Zu p 4):=hid (by rw[Zd7,Zvh s]);have D:Hid (WB w B b l):=t;have Q:Hid (ZR w):=v;have E:Hid (20<=B):=A;have F:Hid (l.length+24+wT p<=big):=hid (by have R:ownW a+wT p+wT q=wT (.node x y a p q):=rfl;unfold ownW at R;omega);have S:Hid (Zh w p z):=o;obtain⟨ty,u,G⟩:=Zh.shape o;subst G;clear t v A O s o;go_enter func72,ntmps72
 go_upto_region 6 with fail
 refine ZP fun W r=>?_;have d:BW w W:=by rw[r];exact Zbal
 have i:Hid (BAt W w.heap.size [.iface ty u] 272):=hid (by rw[r];exact Go.Deep.blk_alloc_new _ _);have f:Hid (WB W B b l):=D.below d;have j:Hid (WK B b w W):=WK.below d D.le;have k:Hid (Zh W p (.iface ty u)):=S.below d;clear r d
 go_wp2_with fail
 refine(Zda f.out ⟨#[45]⟩ (by have:=F.out;show _+1<=_;omega)).mono ?_;rintro e h ⟨rfl,H,c⟩;have m:Hid (WK B b w h):=j.trans c.out;have I:=hid (WK.bat f.out c.out i.out Dc Dc);have J:Hid (Zh h p (.iface ty u)):=hid (Zh.wrote f.out c.out k.out);have K:Hid (ZR h):=Q.low m.low E.out;clear c i f j k;have p0:=I.cell 0;simp only[Ycy]at p0
 go_wp2_with fail
 refine(ih h _ B b _ 3 J.out H.out K.out E.out (by rw[Yab,Zd];have:=F.out;show _+1+_+2<=_;omega)).mono ?_;rintro e L ⟨rfl,n,g⟩;have M:Hid (WK B b w L):=m.trans g.out;have N:Hid (WB L B b (l++Zu (.node x y a p q) 1)):=hid (by rw[P.out,<-Yan];exact n.out);clear g n;go_wp2
 go_end0
 exact⟨rfl,N,M⟩
end
section
attribute [local go_sem ↓] Go.wp_at_zero Go.wp_at_succ
attribute [local go_sem] ZhB ZkO ZkP ZkN ZkQ ZiT ZhA Zhz ZkL ZkK ZkM ZiS ZgB ZgA ZgC ZkR ZkS ZiU Zhx Zhw Zhy Zhv ZkJ ZiR ZhJ ZhI ZhK ZhH ZhL ZiV ZhE ZhD ZhF ZhC ZhG ZgD
theorem ZCe(o:Nat):(Ze5 o).length<=2:=by
 unfold Ze5;split <;> (try split) <;> (try split) <;> (try split) <;> simp
theorem ZEU(s:wfT (.node x y a p q))(hk:a.jj=4∨a.jj=6)(R:WW p)(S:WW q)(w:World)(z1 z2:Value)(E:Zh w p z1)(F:Zh w q z2)(B b:Nat)(l:LB)(hw:WB w B b l)(ht:ZR w)(hB:20<=B)(hl:l.length+wT (.node x y a p q)<=big) :
  CP 72 #[Vp b,.iface 268 (.agg #[Vi (opNo a),z1,z2])] w fun e u=>e=.returned (.tuple #[])/\Hid (WB u B b (l++Zu (.node x y a p q) 1))/\Hid (WK B b w u):=by
 obtain⟨o,t⟩:∃o,o=opNo a:=⟨_,rfl⟩
 have G:=ZsJ hk s.2.2.1;have HX:Hid (Zu (.node x y a p q) 1=Zu p (Zdb o+1)++[32]++Ze5 o++[32]++Zu q (Zdb o+1+1)):=hid (by rw[Zd7,Zvl hk s.2.2.1,t,G.1]);have T:o<=4:=by rw[t];exact G.2
 have H:Hid ((Zu p (Zdb o+1)).length<=wT p):=hid (Zfy p _ s.2.2.2.2.2.2.2.2.2.2.1);rw[<-t];have HW:Hid (WB w B b l):=hw;have HT:Hid (ZR w):=ht;have P:Hid (20<=B):=hB;have HL:Hid (l.length+24+wT p+wT q<=big):=hid (by have I:ownW a+wT p+wT q=wT (.node x y a p q):=rfl;unfold ownW at I;omega);have a6:Hid (Zh w p z1):=E;have a7:Hid (Zh w q z2):=F;obtain⟨t1,u1,a0⟩:=Zh.shape E;obtain⟨t2,u2,a3⟩:=Zh.shape F;subst a0 a3;obtain⟨sg,J⟩:∃sg:BA,sg=⟨(Ze5 o).toArray⟩:=⟨_,rfl⟩
 have a8:Hid (⟨(Ze5 o).toArray⟩=sg):=J.symm;have U:Hid (bl sg=Ze5 o):=hid (by rw[J,ZbF]);have c0:sg.size<=2:=by rw[ZU U.out];exact ZCe o
 have a9:Zdb o<=2:=by unfold Zdb;split <;> (try split) <;> omega
 have a1:∀W,(Op.stringOp .add ⟨#[32]⟩ sg).run prog W=.ok (.string (⟨#[32]⟩++sg)) W:=fun W=>run_string_add_sum W _ _ (by show 1+sg.size<=_;omega);have V:Hid ((⟨#[32]⟩++sg:BA).size=1+sg.size):=hid (by rw[Yaz];rfl);have a2:∀W,(Op.stringOp .add (⟨#[32]⟩++sg) ⟨#[32]⟩).run prog W=.ok (.string ((⟨#[32]⟩++sg)++⟨#[32]⟩)) W:=fun W=>run_string_add_sum W _ _ (by rw[V.out];show _+1<=_;omega);have X:Hid (((⟨#[32]⟩++sg)++⟨#[32]⟩:BA).size=1+sg.size+1):=hid (by rw[Yaz,V.out];rfl);obtain⟨rr,K⟩:∃rr,rr=Zdb o:=⟨_,rfl⟩
 rw[<-K]at HX H a9;have Y:Hid (∀W,CP 132 #[.agg #[Vi o,.iface t1 u1,.iface t2 u2]] W fun e u=>e=.returned (Vi rr)/\BW W u):=hid (fun W=>by rw[K];exact ZrK W o T t1 t2 u1 u2);have b0:Hid (∀(u:World) (l':LB),Zh u p (.iface t1 u1)->WB u B b l'->ZR u->l'.length+wT p+2<=big->CP 131 #[Vp b,.iface t1 u1,Vi (rr:Int)] u fun e j=>e=.returned (.tuple #[])/\Hid (WB j B b (l'++Zu p (rr+1)))/\Hid (WK B b u j)):=hid (fun u l' I h2 h3 h4=>R u _ B b l' rr I h2 h3 P.out h4);have b1:Hid (∀(u:World) (l':LB),Zh u q (.iface t2 u2)->WB u B b l'->ZR u->l'.length+wT q+2<=big->CP 131 #[Vp b,.iface t2 u2,Vi ((rr:Int)+1)] u fun e j=>e=.returned (.tuple #[])/\Hid (WB j B b (l'++Zu q (rr+1+1)))/\Hid (WK B b u j)):=hid (fun u l' I h2 h3 h4=>S u _ B b l' (rr+1) I h2 h3 P.out h4);have c1:IntKind.i64.wrap ((rr:Int)+1)=(rr:Int)+1:=by rcases(by omega:rr=0∨rr=1∨rr=2)with h|h|h <;> rw[h] <;> rfl
 clear hw ht hB hl hk E F s t G J K R S;go_enter func72,ntmps72
 go_upto_region 10 with fail
 refine ZP fun W hW=>?_;have k:BW w W:=by rw[hW];exact Zbal
 have v:Hid (BAt W w.heap.size [Vi o,.iface t1 u1,.iface t2 u2] 268):=hid (by rw[hW];exact Go.Deep.blk_alloc_new _ _);have z:Hid (WB W B b l):=HW.below k;have b2:Hid (WK B b w W):=WK.below k HW.le;have a4:Hid (Zh W p (.iface t1 u1)):=a6.below k;have a5:Hid (Zh W q (.iface t2 u2)):=a7.below k;clear hW k;have p0:=v.cell 0;have p1:=v.cell 1;have p2:=v.cell 2;simp only[Zget]at p0 p1 p2
 go_region_held3 (fun u => u.cell? ⟨w.heap.size, 0, none⟩ = some (Vi o) /\ u.cell? ⟨w.heap.size, 1, none⟩ = some (.iface t1 u1) /\ u.cell? ⟨w.heap.size, 2, none⟩ = some (.iface t2 u2)) (first | exact ⟨e0, e1, e2⟩ | exact ⟨d0, d1, d2⟩ | exact ⟨p0, p1, p2⟩ | go_keep) (first
   | (go_at_call 132
      refine(Y.out _).mono ?_;rintro e w5 ⟨rfl,d⟩;have c:Hid (BW W w5):=hid ⟨d.os,d.tape,d.output,d.size,d.block⟩;have m:=hid (v.below c.out);have d0:=m.cell 0;have d1:=m.cell 1;have d2:=m.cell 2;simp only[Zget]at d0 d1 d2;have L:Hid (WK B b w w5):=b2.trans (WK.below c.out z.le);clear d)
   | (go_at_call 131
      refine(b0.out w5 l (a4.below c.out) (z.below c.out) (HT.low L.low P.out) (by have:=HL.out;omega)).mono ?_;rintro e w6 ⟨rfl,M,g⟩;have A:=hid (WK.bat (z.below c.out) g.out m.out Dc Dc);have e0:=A.cell 0;have e1:=A.cell 1;have e2:=A.cell 2;simp only[Zget]at e0 e1 e2;have b3:Hid (WK B b w w6):=L.trans g.out;have b4:Hid (Zh w6 q (.iface t2 u2)):=hid (Zh.wrote (z.below c.out) g.out (a5.below c.out));clear g))
 clear p0 p1 p2 d0 d1 d2 m c L
 go_wp2_with (go_at_call 133;refine(ZCd o T).mono ?_;rintro e wq ⟨rfl,rfl⟩;rw[a8.out])
 refine(Zda M.out _ (by rw[X.out,Yab];have:=HL.out;have:=H.out;omega)).mono ?_;rintro e Q ⟨rfl,N,i⟩;have b5:Hid (WK B b w Q):=b3.trans i.out;have C:=hid (WK.bat M.out i.out A.out Dc Dc);have b6:Hid (Zh Q q (.iface t2 u2)):=hid (Zh.wrote M.out i.out b4.out);clear i e0 e1 e2;have p0:=C.cell 0;have p1:=C.cell 1;have p2:=C.cell 2;simp only[Zget]at p0 p1 p2
 go_upto_region 12 with fail
 go_region_held3 (fun u => u.cell? ⟨w.heap.size, 0, none⟩ = some (Vi o) /\ u.cell? ⟨w.heap.size, 1, none⟩ = some (.iface t1 u1) /\ u.cell? ⟨w.heap.size, 2, none⟩ = some (.iface t2 u2)) (first | exact ⟨e0, e1, e2⟩ | exact ⟨d0, d1, d2⟩ | exact ⟨p0, p1, p2⟩ | go_keep) (first
   | (go_at_call 132
      refine(Y.out _).mono ?_;rintro e w8 ⟨rfl,f⟩;have n:Hid (BW Q w8):=hid ⟨f.os,f.tape,f.output,f.size,f.block⟩;have D:=hid (C.below n.out);have d0:=D.cell 0;have d1:=D.cell 1;have d2:=D.cell 2;simp only[Zget]at d0 d1 d2;have Z:Hid (WK B b w w8):=b5.trans (WK.below n.out N.le);clear f)
   | (go_at_call 131
      refine(b1.out w8 _ (b6.below n.out) (N.below n.out) (HT.low Z.low P.out) (by simp only[Yab,Zd];rw[X.out];have:=HL.out;have:=H.out;omega)).mono ?_;rintro e w9 ⟨rfl,b7,r⟩;have O:=hid (WK.bat (N.below n.out) r.out D.out Dc Dc);have e0:=O.cell 0;have e1:=O.cell 1;have e2:=O.cell 2;simp only[Zget]at e0 e1 e2;have b8:Hid (WK B b w w9):=Z.trans r.out;clear r))
 have b9:Hid (WB w9 B b (l++Zu (.node x y a p q) 1)):=hid (by
  rw[HX.out,<-U.out];have:=b7.out;rw[ZcV,ZcV]at this;simp only[Yan]at this ⊢;exact this)
 go_wp2
 go_end0
 exact⟨rfl,b9,b8⟩
theorem ZER(E:wfT (.node x y a p q))(R:a.jj=5)(ih:WC p)(c:BA)(la:Option Addr)(ln lc:Nat)(w:World)(z:Value)(o:bl c=ZW.getD a.op [])(F:Zbm w (.slice la ln lc) a.by_)(N:Zh w p z)(B b:Nat)(l:LB)(S:WB w B b l)(T:ZR w)(U:20<=B)(hl:l.length+wT (.node x y a p q)<=big) :
  CP 72 #[Vp b,.iface 274 (.agg #[.string c,.slice la ln lc,z])] w fun e d=>e=.returned (.tuple #[])/\Hid (WB d B b (l++Zu (.node x y a p q) 1))/\Hid (WK B b w d):=by
 have HX:Hid (Zu (.node x y a p q) 1=bl c++[32,98,121,32,40]++ZRV a.by_++[41,32,40]++Zu p 1++[41]):=hid (by rw[Zd7,Zvg R,o]);have V:Hid ((Zu p 1).length<=wT p):=hid (Zfy p _ E.2.2.2.2.2.2.2.2.2.2.1);have X:Hid (WB w B b l):=S;have HT:Hid (ZR w):=T;have Y:Hid (20<=B):=U;have r:Hid (l.length+24+nw a.by_+wT p<=big):=hid (by have Z:ownW a+wT p+wT q=wT (.node x y a p q):=rfl;unfold ownW at Z;omega);have HZ:Hid (Zh w p z):=N;have a0:Hid (Zbm w (.slice la ln lc) a.by_):=F;have b7:c.size<=5:=by rw[ZU o];exact Zh5 ZW Dc a.op
 obtain⟨ty,u,a4⟩:=Zh.shape N;subst a4;obtain⟨js,G⟩:∃js:BA,js=⟨(ZRV a.by_).toArray⟩:=⟨_,rfl⟩
 have t:Hid (bl js=ZRV a.by_):=hid (by rw[G,ZbF]);have k:Hid (js.size<=nw a.by_):=hid (by rw[ZU t.out];exact ZeS _);have b8:js.size<=1000000:=by have Z:=k.out;have O:=r.out;unfold big at O;omega
 have a1:∀W,(Op.stringOp .add c ⟨#[32,98,121,32,40]⟩).run prog W=.ok (.string (c++⟨#[32,98,121,32,40]⟩)) W:=fun W=>run_string_add_sum W _ _ (by show c.size+5<=_;omega);have H:Hid ((c++⟨#[32,98,121,32,40]⟩:BA).size=c.size+5):=hid (by rw[Yaz];rfl);have a2:∀W,(Op.stringOp .add (c++⟨#[32,98,121,32,40]⟩) js).run prog W=.ok (.string ((c++⟨#[32,98,121,32,40]⟩)++js)) W:=fun W=>run_string_add_sum W _ _ (by rw[H.out];omega);have I:Hid (((c++⟨#[32,98,121,32,40]⟩)++js:BA).size=c.size+5+js.size):=hid (by rw[Yaz,H.out]);have a3:∀W,(Op.stringOp .add ((c++⟨#[32,98,121,32,40]⟩)++js) ⟨#[41,32,40]⟩).run prog W=.ok (.string (((c++⟨#[32,98,121,32,40]⟩)++js)++⟨#[41,32,40]⟩)) W:=fun W=>run_string_add_sum W _ _ (by rw[I.out];show _+3<=_;omega);have v:Hid ((((c++⟨#[32,98,121,32,40]⟩)++js)++⟨#[41,32,40]⟩:BA).size=c.size+5+js.size+3):=hid (by rw[Yaz,I.out];rfl);clear S T U hl R N E o F G;go_enter func72,ntmps72
 go_upto_region 15 with fail
 refine ZP fun W P=>?_;have i:BW w W:=by rw[P];exact Zbal
 have m:Hid (BAt W w.heap.size [.string c,.slice la ln lc,.iface ty u] 274):=hid (by rw[P];exact Go.Deep.blk_alloc_new _ _);have n:Hid (WB W B b l):=X.below i;have a5:Hid (WK B b w W):=WK.below i X.le;have a6:Hid (Zh W p (.iface ty u)):=HZ.below i;have a7:Hid (Zbm W (.slice la ln lc) a.by_):=a0.below i;clear P i;have p0:=m.cell 0;have p1:=m.cell 1;have p2:=m.cell 2;simp only[Zget]at p0 p1 p2
 have J : Hid (∀ d, BW W d -> CP 96 #[.slice la ln lc, .string ⟨#[44]⟩] d fun e K => e = .returned (.string js) /\ BW d K) := hid (by
   intro d a8;refine(ZlV la ln lc a.by_ (a7.below a8) (by have O:=r.out;unfold big at O;omega)).mono ?_;rintro e K ⟨s,rfl,hs,hb⟩;exact⟨by rw[ZcW (hs.trans t.symm)],hb⟩)
 have a9:Hid (BW W W.drew):=hid ((Yaf _ _).drew)
 go_region_held3 (fun d => d.cell? ⟨w.heap.size, 0, none⟩ = some (.string c) /\ d.cell? ⟨w.heap.size, 1, none⟩ = some (.slice la ln lc) /\ d.cell? ⟨w.heap.size, 2, none⟩ = some (.iface ty u)) (first | exact ⟨e0, e1, e2⟩ | exact ⟨d0, d1, d2⟩ | exact ⟨p0, p1, p2⟩ | go_keep) (first
   | (go_at_call 96
      refine(J.out _ a9.out).mono ?_;rintro e w5 ⟨rfl,g⟩;have f:Hid (BW W w5):=hid ⟨g.os,g.tape,g.output,g.size,g.block⟩;have j:=hid (m.below f.out);have d0:=j.cell 0;have d1:=j.cell 1;have d2:=j.cell 2;simp only[Zget]at d0 d1 d2;have L:Hid (WK B b w w5):=a5.trans (WK.below f.out n.le);clear g)
   | (go_at_call 129
      refine(Zda (n.below f.out) _ (by rw[v.out];have:=r.out;have:=k.out;omega)).mono ?_;rintro e Q ⟨rfl,b0,h⟩;have A:=hid (WK.bat (n.below f.out) h.out j.out Dc Dc);have e0:=A.cell 0;have e1:=A.cell 1;have e2:=A.cell 2;simp only[Zget]at e0 e1 e2;have M:Hid (WK B b w Q):=L.trans h.out;have b1:Hid (Zh Q p (.iface ty u)):=hid (Zh.wrote (n.below f.out) h.out (a6.below f.out));clear h))
 clear p0 p1 p2 d0 d1 d2 j f L J
 go_wp2_with fail
 refine(ih Q _ B b _ b1.out b0.out (HT.low M.low Y.out) Y.out (by rw[Yab,Zd,v.out];have:=r.out;have:=k.out;omega)).mono ?_;rintro e w7 ⟨rfl,b2,C⟩;have b3:Hid (WK B b w w7):=M.trans C.out;clear C e0 e1 e2
 go_wp2_with fail
 refine(Zda b2.out ⟨#[41]⟩ (by simp only[Yab,Zd];rw[v.out];show _+1<=_;have:=r.out;have:=k.out;have:=V.out;omega)).mono ?_;rintro e w8 ⟨rfl,b4,D⟩;have b5:Hid (WK B b w w8):=b3.trans D.out
 have b6:Hid (WB w8 B b (l++Zu (.node x y a p q) 1)):=hid (by
  rw[HX.out,<-t.out];have:=b4.out;rw[ZcV,ZcV,ZcV]at this;simp only[Yan]at this ⊢;exact this)
 clear D;go_wp2
 go_end0
 exact⟨rfl,b6,b5⟩
theorem ZnC:∀t:Tr,wfT t->WC t
 | .nil,_=>fun _ _ _ _ _ h=>h.elim
 | .node x y a p q, c => by
   have m:WC p:=ZnC p c.2.2.2.2.2.2.2.2.2.2.1;have r:WC q:=ZnC q c.2.2.2.2.2.2.2.2.2.2.2;have iwp:WW p:=Ztc c.2.2.2.2.2.2.2.2.2.2.1 m;have iwq:WW q:=Ztc c.2.2.2.2.2.2.2.2.2.2.2 r;intro w v B b l A e g i f;rcases A with ⟨d,rfl⟩|⟨d,nm,la,ln,lc,rfl,j,k⟩|⟨d,n,nm,la,ln,lc,rfl,j,k,C⟩|⟨d,z,rfl,o⟩|⟨d,n,la,ln,lc,z,rfl,j,k,o⟩|⟨d,z1,z2,rfl,s,u⟩
   · exact ZET c d w B b l e g i f
   · exact ZEV d nm la ln lc w j k B b l e f
   · exact ZEW c d n nm la ln lc w j k C B b l e g i f
   · exact ZES d iwp w z o B b l e g i f
   · exact ZER c d m n la ln lc w z j k o B b l e g i f
   · exact ZEU c d iwp iwq w z1 z2 s u B b l e g i f
theorem Zj6(b:wfT t)(c:wT t<=100000)(w:World)(g:Zh w t v)(i:ZR w)(j:20<=w.heap.size) :
  CP 37 #[v] w fun e B=>∃s:BA,e=.returned (.string s)/\Hid (bl s=Zu t 1)/\BW w B:=by
 have k:Hid (WC t):=ZnC t b;have C:Hid (Zh w t v):=g;have D:Hid (ZR w):=i;have l:Hid (20<=w.heap.size):=j;have E:Hid (wT t<=100000):=c;obtain⟨ty,u,m⟩:=Zh.shape g;subst m;clear g i j c b;go_enter func37,ntmps37
 go_wp2_with fail
 refine Zm fun W h=>?_;have a:BW w W:=by rw[h];exact Zbal
 have n:Hid (WB W w.heap.size w.heap.size []):=hid ⟨Or.inl ⟨Yac _,S0,by rw[h];exact Go.Deep.blk_alloc_new _ _,⟨rfl,Or.inl ⟨rfl,rfl⟩⟩,by simp[Value.ownBlock]⟩,a.size⟩;have o:Hid (BW w W):=a;have p:Hid (Zh W t (.iface ty u)):=C.below a;have q:Hid (ZR W):=D.low a l.out;clear h a;refine(k.out W _ w.heap.size w.heap.size [] p.out n.out q.out l.out (by have:=E.out;unfold big;simp;omega)).mono ?_;rintro e y ⟨rfl,d,r⟩;have x:Hid (BW w y):=o.trans r.low
 go_wp2_with fail
 refine(Builder_String_any_f w.heap.size w.heap.size _ y d.bd d.le).mono ?_;rintro e z ⟨rfl,_,f⟩;have A:Hid (BW w z):=x.trans f;clear f;go_wp2;go_ret;exact⟨_,rfl,hid (by rw[ZbF]),A.out⟩
