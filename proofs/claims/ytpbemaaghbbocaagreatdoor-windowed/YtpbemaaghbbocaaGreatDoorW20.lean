/- Parts. -/
import Derived.Test.YtpbemaaghbbocaaGreatDoorW19
import Derived.RangeFuncNested
import Derived.RangeFuncBound
import Derived.Sort.OwnSorted
set_option linter.all false
set_option maxRecDepth 100000
set_option maxHeartbeats 16000000
namespace Go.Proofs.YtpbemaaghbbocaaGreatDoor
open Go.RowKit LS Go.Proofs.Tryz
variable {es:Array MapEntry}{k:BA}{y:LB}{bs:List BA}{is ys:List Itm}{e:MapEntry}{B b1 b2 clock j x:Nat}{nv sv u v:Value}{w w':World}
section
def fdT(ys:List Itm)(y:LB):Option Itm:=ys.find? fun j=>decide (bl j.tx=y)
theorem Zv4(c:TxS ys){k:Nat}(a:k<ys.length)(h:bl (ys[k]).tx=y):fdT ys y=some ys[k]:=by
 unfold fdT;rw[List.find?_eq_some_iff_getElem];refine⟨by simpa using h,k,a,rfl,fun j d=>?_⟩;have e:=List.pairwise_iff_getElem.1 c j k Om a d;simp only[Ycr,decide_eq_false_iff_not];intro e2;rw[e2,h,ZcL]at e;cases e
theorem Zv3(h:∀i∈ys,bl i.tx≠y):fdT ys y=none:=by
 unfold fdT;rw[List.find?_eq_none];intro x a;simpa using h x a
def FdIs(ys:List Itm)(y:LB)(x:Int)(ok:Bool):Prop:=(ok=true/\∃j∈ys,fdT ys y=some j/\x=j.v)∨(ok=false/\fdT ys y=none)
theorem Zv7(is:List Itm)(a:Option Addr)(n c:Nat)(tx:BA)(d:w.ownsRow 0 255 3 v is.length (encs is))(o:is.length<=1000)(t:TxS is) :
  Cq 193 #[v,.agg #[.slice a n c,.string tx]] w fun e u=>∃(x:Int) (ok:Bool),e=.returned (.tuple #[Vi x,.bool ok])/\Hid (FdIs is (bl tx) x ok)/\BW w u:=by
 obtain⟨ra,rcp,rfl⟩:=Zl d;have p:Hid (w.ownsRow 0 255 3 (.slice ra is.length rcp) is.length (encs is)):=d;have y:Hid (TxS is):=t;clear d t;go_enter func193,ntmps193
 go_wp2_with fail
 refine(ZgR).mono ?_;rintro e A ⟨rfl,o5,j⟩;have i:Hid (BW w A):=hid (by rw[j];exact Zbal.alloc (by simp) _);clear j
 go_wp2_with fail
 refine(Zuh is tx (Zn p.out i.out) o y.out).mono ?_;rintro e B ⟨k,ok,rfl,q,l⟩;have f:Hid (BW w B):=hid (i.trans (l.mono i.size));clear l i;rcases q.out with ⟨rfl,r,m⟩|⟨rfl,z⟩
 ·have C:∃g,ra=some ⟨g,0,none⟩:=by
   obtain⟨g,cp',h⟩:=ZF p.out Om;injection h with h1;exact⟨g,h1⟩
  obtain⟨g,rfl⟩:=C;have d3:=Zi (Zn p.out f.out) _ _ (Zfl is k r).2.2;have s:Hid (FdIs is (bl tx) (is[k]).v true):=hid (Or.inl ⟨rfl,is[k],List.getElem_mem r,Zv4 y.out r m,rfl⟩);have D:(k:Int)<(is.length:Int):=by omega
  clear m q;generalize(is[k]).v=x at *
  go_wp2;go_ret2;exact⟨x,true,rfl,s,f.out⟩
 ·have s:Hid (FdIs is (bl tx) 0 false):=hid (Or.inr ⟨rfl,Zv3 z⟩);clear z q;go_wp2;go_ret2;exact⟨0,false,rfl,s,f.out⟩
def wItm(op:Nat)(ys:List Itm)(i:Itm):Option Itm:=(fdT ys (bl i.tx)).map fun j=>{ i with v:=twoV op i.v j.v }
theorem Zwl{α β:Type}{f:α->Option β}{l:List α}{a:α}:(l++[a]).filterMap f=l.filterMap f++(f a).toList:=by
 rw[List.filterMap_append];cases h:f a <;> simp[h]
theorem Zpi{α:Type}{p q:α->Bool} : ∀ {l:List α},(∀a∈l,p a=q a)->l.find? p=l.find? q
 | [],_=>rfl
 | a :: l, h => by
   rw[List.find?_cons,List.find?_cons,h a (by simp),Zpi (l:=l) (fun b c=>h b (Yam _ c))]
theorem ZEz{op:Nat}(a:∀j∈ys,ItmOk w j){i:Itm}(c:ItmOk w i):(wItm op ys i).map Itm.el=vvF op (ys.map Itm.el) i.el:=by
 unfold wItm vvF fdT;rw[List.find?_map,Option.map_map,Option.map_map]
 have e : ys.find? (fun j => decide (bl j.tx = bl i.tx)) = ys.find? ((fun f => decide (wrt i.el.1 = wrt f.1)) ∘ Itm.el) := by
   refine Zpi (fun j d=>?_);show decide (bl j.tx=bl i.tx)=decide (wrt i.labs=wrt j.labs);unfold Itm.labs;rw[<-c.lb.txt,<-(a j d).lb.txt,decide_eq_decide];exact⟨fun h=>h.symm,fun h=>h.symm⟩
 rw[e];rfl
theorem Zs2{op:Nat}{w:World}{ys:List Itm}(a:∀j∈ys,ItmOk w j):∀ {xs:List Itm},(∀i∈xs,ItmOk w i)->(xs.filterMap (wItm op ys)).map Itm.el=(xs.map Itm.el).filterMap (vvF op (ys.map Itm.el))
 | [],_=>rfl
 | i :: xs, h => by
   have e1:=ZEz (op:=op) a (h i (by simp));have e2:=Zs2 (op:=op) a (xs:=xs) (fun j c=>h j (Yam _ c));rw[Ybb,Yef,Yef];rw[<-e1];cases wItm op ys i with
   | none=>exact e2
   | some z=>simp only[Ybf,Ybb,e2]
theorem VecV.txs{l:List El}(h:VecV w v l is)(c:Srt l):TxS is:=by
 unfold Srt at c;rw[<-h.els,Ybx]at c;unfold TxS;refine Ycx ?_ c;intro a b e f d;rw[(h.ok a e).lb.txt,(h.ok b f).lb.txt];exact d
theorem ZEL(op:Nat)(a7:op<=3)(v y:Value)(l m:List El)(is ys:List Itm)(w:World)(hv:VecV w v l is)(Q:VecV w y m ys)(a2:Srt m) :
  Cq 168 #[v,y,Vi (op+1:Nat)] w fun e A=>∃v' is',e=.returned v'/\Hid (VecV A v' (l.filterMap (vvF op m)) is')/\BW w A:=by
 obtain⟨i0,f,a8,a9,b0⟩:=info_parts Tryz.infoItem;obtain⟨ra,rcp,rfl⟩:=Zl hv.row;obtain⟨ya,ycp,rfl⟩:=Zl Q.row;have HV:Hid (VecV w (.slice ra is.length rcp) l is):=hv;have HY:Hid (VecV w (.slice ya ys.length ycp) m ys):=Q;have b1:Hid (TxS ys):=hid (Q.txs a2);have c3:is.length<=1000:=hv.len;have b2:ys.length<=1000:=Q.len;obtain⟨oz,R⟩:∃oz:Int,oz=((op+1:Nat):Int):=⟨_,rfl⟩
 rw[<-R];have a3:Hid (oz=((op+1:Nat):Int)):=R;clear hv Q a2 R;go_enter func168,ntmps168;go_wp2
 go_loopw [7, 14] (fun v i wr => ∃ (k : Nat) (os : List Itm), k <= is.length /\ i = Vi k /\ os.length <= k /\ wr.ownsRow w.heap.size 255 3 v os.length (encs os) /\ Hid (os = (is.take k).filterMap (wItm op ys)) /\ Hid ((∀ i ∈ is, ItmOk wr i) /\ ∀ i ∈ ys, ItmOk wr i) /\ Hid (BW w wr))
   (fun _ i _=>is.length - (intOf i).toNat)
 case atStart=>exact⟨0,[],Yag _,rfl,Yag _,Ybc _ _ _ _,hid rfl,hid ⟨HV.ok,HY.ok⟩,hid (Yaf _ _)⟩
 case round=>
  rename World=>wo
  obtain⟨k,os,hk,rfl,c2,B,S,t,T⟩:=hrel;have b3:=T.size;by_cases U:k<is.length
  ·have hg:∃g,ra=some ⟨g,0,none⟩:=by
    obtain⟨g,cp',h⟩:=ZF HV.row Om;injection h with V;exact⟨g,V⟩
   obtain⟨vg,rfl⟩:=hg;have L:=hid (Zn HV.row T.out);obtain⟨f1,f2,f3⟩:=Zfl is k U;have d1:=Zi L.out _ _ f1;have d2:=Zi L.out _ _ f2;have d3:=Zi L.out _ _ f3
   have a4:Hid ((is.take (k+1)).filterMap (wItm op ys)=(is.take k).filterMap (wItm op ys)++(wItm op ys is[k]).toList):=hid (by
    rw[List.take_succ_eq_append_getElem U];exact Zwl)
   have b4:Hid (vOk (is[k]).v):=hid (t.1 _ (List.getElem_mem U)).vok;generalize is[k]=s at *
   clear f1 f2 f3;have c4:(k:Int)<(is.length:Int):=by omega
   go_wp2_with fail
   refine Zm fun W hW=>?_;have G:BW wo W:=by rw[hW];exact Zbal
   have a5:Hid (BAt W wo.heap.size [.slice s.a s.n s.c,.string s.tx,Vi s.v] 255):=hid (by rw[hW];exact Go.Deep.blk_alloc_new _ _);have M:Hid (BW w W):=hid (T.trans (G.mono b3));have b5:=hid (fun q hq=>(B.lt q hq).2);have N:=Zn B G;have I:Hid ((∀i∈is,ItmOk W i)/\∀i∈ys,ItmOk W i):=hid ⟨fun i f=>(t.1 i f).below G,fun i f=>(t.2 i f).below G⟩;clear hW G B T t L d1 d2 d3;refine(Zv7 ys s.a s.n s.c s.tx (Zn HY.row M.out) b2 b1.out).mono ?_;rintro e wr ⟨x,ok,rfl,X,D⟩;have HX:=hid (a5.below D);have Y:Hid (BW w wr):=hid (M.trans (D.mono M.size));have p:=Zn N D;have F:Hid ((∀i∈is,ItmOk wr i)/\∀i∈ys,ItmOk wr i):=hid ⟨fun i f=>(I.1 i f).below D,fun i f=>(I.2 i f).below D⟩;clear D a5 M N I;have b6:=Y.size;rcases X.out with ⟨rfl,j,hj,H,rfl⟩|⟨rfl,H⟩
   ·have J:Hid ((is.take (k+1)).filterMap (wItm op ys)=os++[{ s with v:=twoV op s.v j.v }]):=hid (by
     rw[a4.out,<-S.out];unfold wItm;rw[H];rfl)
    have b7:Hid (vOk j.v):=hid (F.2 j hj).vok;clear H X hj
    go_upto_region 7 with fail
    have O:Hid (∀A,BAt A wo.heap.size [.slice s.a s.n s.c,.string s.tx,Vi s.v] 255->A.cell? ⟨wo.heap.size,0,none⟩=some (.slice s.a s.n s.c)/\A.cell? ⟨wo.heap.size,1,none⟩=some (.string s.tx)/\A.cell? ⟨wo.heap.size,2,none⟩=some (Vi s.v)):=hid (fun A V=>⟨V.cell 0,V.cell 1,V.cell 2⟩);refine Zbn 11 (fun A=>A.cell? ⟨wo.heap.size,0,none⟩=some (.slice s.a s.n s.c)/\A.cell? ⟨wo.heap.size,1,none⟩=some (.string s.tx)/\A.cell? ⟨wo.heap.size,2,none⟩=some (Vi s.v)) Kr (by exact O.out _ HX.out) (fun d=>?_);refine Za 0 d (h:=?_);refine Za 1 d (h:=?_);refine Za 2 d (h:=?_);refine Za 3 d (h:=?_);refine Za 4 d (h:=?_);refine Za 5 d (h:=?_);refine Za 6 d (h:=?_);refine Z4 (i:=7) Kr rfl (fun K C=>?_);go_simp;rw[a3.out];refine(Zks op a7 s.v j.v b4.out b7.out _).mono ?_;rintro e w5 ⟨rfl,rfl⟩;rw[<-a3.out];go_simp;refine C.out _ _ (O.out _ HX.out) (fun d=>?_);clear C K
    try simp only[Act.put,Zset]
    refine Za 8 d (h:=?_);refine Z4 (i:=9) Kr rfl (fun K C=>?_);have E:Hid (∀o,BW wr (wr.drew.alloc o)):=hid (fun o=>((Yaf wr.heap.size wr).drew).alloc (Yac _) _);go_simp;refine C.out _ _ (O.out _ (HX.below (E.out _))) (fun d=>?_);clear C K
    try simp only[Act.put,Zset]
    refine Z4 (i:=10) Kr rfl (fun K C=>?_);refine ZfF rfl (.tmp 26) (.tmp 35) 253 rfl w.heap.size 255 i0 _ 3 48 underlying253 f a8 a9 b0 rfl Dc _ os.length (encs os) (by simp[Act.eval]) (Zn p (E.out _)) ⟨wr.heap.size,0,none⟩ 1 1 [.slice s.a s.n s.c,.string s.tx,Vi (twoV op s.v j.v)] (by simp[Act.eval]) rfl ?h2 ?h3 ?h4 ?h5 ?h6 ?_
    case h2=>exact ZcY rfl
    case h3=>intro u hu;simp at hu;rcases hu with rfl|rfl|rfl <;> rfl
    case h4=>unfold maxLen;omega
    case h5=>omega
    case h6=>simp;omega
    intro v6 Z P r hwhere6;have a0:=(Z5.below (E.out _) 255).trans (Z5.grown r (Zn p (E.out _)));have b8:Hid ((∀i∈is,ItmOk Z i)/\∀i∈ys,ItmOk Z i):=hid ⟨fun i f=>(F.1 i f).kb a0 Dc,fun i f=>(F.2 i f).kb a0 Dc⟩;have b9:Hid (BW w Z):=hid ((Y.trans ((E.out _).mono b6)).grown r (by simp;omega) (fun q hq=>(p.lt q hq).1))
    have a1:Z.ownsRow w.heap.size 255 3 v6 (os++[{ s with v:=twoV op s.v j.v }]).length (encs (os++[{ s with v:=twoV op s.v j.v }])):=by
     rw[Zh1,Yab];exact P
    have c0:Hid (BAt Z wo.heap.size [.slice s.a s.n s.c,.string s.tx,Vi s.v] 255):=hid ((HX.below (E.out _)).grown r (fun e=>by have:=b5.out _ e.symm;omega));refine C.out _ _ (O.out _ c0.out) (fun d=>?_);clear C K
    try simp only[Act.put,Zset]
    refine Zbl Kr Kr rfl Kr (fun K C=>?_);go_simp;refine C.out _ _ ?_;clear C K r P p hwhere6 a0;go_wp2
    go_roundw
    case rel=>exact⟨k+1,_,by omega,by go_num,by simp;omega,a1,hid J.symm,b8,b9⟩
    case measure=>simp[intOf];omega
   ·have J:Hid (os=(is.take (k+1)).filterMap (wItm op ys)):=hid (by
     rw[a4.out,<-S.out];unfold wItm;rw[H];simp)
    clear H X;go_wp2
    go_roundw
    case rel=>exact⟨k+1,os,by omega,by go_num,by omega,p,J,F,Y⟩
    case measure=>simp[intOf];omega
  ·obtain rfl:k=is.length:=by omega
   have c1:Hid (VecV wo _ (l.filterMap (vvF op m)) os):=hid (by
    have e:=S.out;rw[Ya4]at e;refine⟨B.mono (Yag _),by rw[e,Zs2 t.2 t.1,HV.els,HY.els],fun i f=>?_,by omega⟩;rw[e]at f;obtain⟨z,hz,a6⟩:=List.mem_filterMap.1 f;unfold wItm at a6;obtain⟨q,hq,rfl⟩:=Ybk.1 a6;exact⟨(t.1 z hz).lb,Zhj op _ _ (t.1 z hz).vok⟩)
   clear B;go_wp2;go_ret;exact⟨_,_,rfl,c1,T.out⟩
theorem asSS(v:Value)(w:World):(Instr.typeAssert (.iface 251 v) 191 251 true).run prog w=.ok (.tuple #[v,.bool true]) w:=by kernel_rfl
theorem asVS(v:Value)(w:World):(Instr.typeAssert (.iface 253 v) 191 251 true).run prog w=.ok (.tuple #[Vi 0,.bool false]) w:=by kernel_rfl
theorem asVV(v:Value)(w:World):(Instr.typeAssert (.iface 253 v) 191 253 true).run prog w=.ok (.tuple #[v,.bool true]) w:=by kernel_rfl
theorem Zzf (x : Int) (a : vOk x) (w : World) : Cq 164 #[Vi x] w fun e u => e = .returned (Vi (-x)) /\ BW w u := by
  unfold vOk at a;go_enter func164,ntmps164;go_wp2;go_ret;exact⟨rfl,Yaf _ _⟩
theorem Zrd{x:Int}(h:vOk x):vOk (-x):=by unfold vOk at *;omega
theorem ZmQ (v : Value) {V:VV} (w : World) (h : ValP w v V) : Cq 125 #[v] w fun e u => ∃ v', e = .returned v' /\ Hid (ValP u v' (negV V)) /\ BW w u := by
  cases V with
  | inl n=>
    obtain⟨rfl,c⟩:=h;have i:Hid (vOk (-n)):=hid (Zrd c);have j:=asSS (Vi n);unfold vOk at c;go_enter func125,ntmps125;go_wp2;go_ret;exact⟨_,rfl,hid ⟨rfl,i.out⟩,Yaf _ _⟩
  | inr l=>
    obtain⟨s,is,rfl,d⟩:=h;have k:Hid (VecV w s l is):=d;have j:=asVS s;have o:=asVV s;have eg:∀args w,(callFunc 164 args).run prog w=.ok (.enter 164 args) w:=enters_of func164 Kr rfl;have m:=hid (Zlo s l is 164 #[] (fun x=>-x) w k.out eg (fun W _ x a=>Zzf x a W) (fun x a=>Zrd a));clear d eg;go_enter func125,ntmps125
    go_wp2_with (go_at_call 163;refine m.mono ?_;rintro e p ⟨v',is',rfl,f,g⟩)
    go_ret;exact⟨_,rfl,hid ⟨v',is',rfl,f.out⟩,g⟩
theorem ZtM (op : Nat) (d : op <= 3) (a x : Int) (f : vOk a) (g : vOk x)  (w : World) (h : w.cell? ⟨b1, 0, none⟩ = some (Vi (op + 1 : Nat))) (j : w.cell? ⟨b2, 0, none⟩ = some (Vi a)) : Cq 166 #[Vi x, Vp b1, Vp b2] w fun e u => e = .returned (Vi (twoV op a x)) /\ BW w u := by
  obtain⟨oz,c⟩:∃oz:Int,oz=((op+1:Nat):Int):=⟨_,rfl⟩
  rw[<-c]at h;have i:Hid (∀W,Cq 165 #[Vi oz,Vi a,Vi x] W fun e u=>e=.returned (Vi (twoV op a x))/\u=W):=hid (fun W=>by rw[c];exact Zks op d a x f g W);clear f g c;go_enter func166,ntmps166
  go_wp2_with (go_at_call 165;refine(i.out _).mono ?_;rintro e u ⟨rfl,rfl⟩)
  go_ret;exact⟨rfl,Yaf _ _⟩
theorem ZtN (op : Nat) (d : op <= 3) (a x : Int) (f : vOk a) (g : vOk x)  (w : World) (h : w.cell? ⟨b1, 0, none⟩ = some (Vi (op + 1 : Nat))) (j : w.cell? ⟨b2, 0, none⟩ = some (Vi a)) : Cq 167 #[Vi x, Vp b1, Vp b2] w fun e u => e = .returned (Vi (twoV op x a)) /\ BW w u := by
  obtain⟨oz,c⟩:∃oz:Int,oz=((op+1:Nat):Int):=⟨_,rfl⟩
  rw[<-c]at h;have i:Hid (∀W,Cq 165 #[Vi oz,Vi x,Vi a] W fun e u=>e=.returned (Vi (twoV op x a))/\u=W):=hid (fun W=>by rw[c];exact Zks op d x a g f W);clear f g c;go_enter func167,ntmps167
  go_wp2_with (go_at_call 165;refine(i.out _).mono ?_;rintro e u ⟨rfl,rfl⟩)
  go_ret;exact⟨rfl,Yaf _ _⟩
theorem ZsV(w:World)(x y:Value)(s t:TypeId):BAt ((w.alloc (.cells #[x] s)).alloc (.cells #[y] t)) w.heap.size [x] s/\BAt ((w.alloc (.cells #[x] s)).alloc (.cells #[y] t)) (w.heap.size+1) [y] t:=by
 refine⟨(Zbal.block _ (by simp)).trans (Go.Deep.blk_alloc_new _ _),?_⟩;have:=Go.Deep.blk_alloc_new (w.alloc (.cells #[x] s)) (.cells #[y] t);rw[Go.Deep.nblk_alloc]at this;exact this
theorem ZmH (op : Nat) (n : op <= 3) (x y : Value) {X Y:VV} (w : World) (H : ValP w x X) (A : ValP w y Y) (C : VOk 1000 Y) : Cq 127 #[Vi (op + 1 : Nat), x, y] w fun e u => ∃ v', e = .returned v' /\ Hid (ValP u v' (Zdg op X Y)) /\ BW w u := by
  obtain⟨oz,p⟩:∃oz:Int,oz=((op+1:Nat):Int):=⟨_,rfl⟩
  rw[<-p];have f:Hid (oz=((op+1:Nat):Int)):=p;clear p;have eg1:∀args w,(callFunc 166 args).run prog w=.ok (.enter 166 args) w:=enters_of func166 Kr rfl;have eg2:∀args w,(callFunc 167 args).run prog w=.ok (.enter 167 args) w:=enters_of func167 Kr rfl;have EG1:Hid _:=hid eg1;have EG2:Hid _:=hid eg2;clear eg1 eg2;cases X with
  | inl a=>
    obtain⟨rfl,q⟩:=H;have N:=asSS (Vi a);cases Y with
    | inl b=>
      obtain⟨rfl,r⟩:=A;have I:=asSS (Vi b);have o:Hid (∀W,Cq 165 #[Vi oz,Vi a,Vi b] W fun e u=>e=.returned (Vi (twoV op a b))/\u=W):=hid (fun W=>by rw[f.out];exact Zks op n a b q r W);have J:Hid (vOk (twoV op a b)):=hid (Zhj op a b q);clear q r;go_enter func127,ntmps127
      go_wp2_with (go_at_call 165;refine(o.out _).mono ?_;rintro e u ⟨rfl,rfl⟩)
      go_ret;exact⟨_,rfl,hid ⟨rfl,J.out⟩,belB⟩
    | inr m=>
      obtain⟨s,is,rfl,t⟩:=A;have B:Hid (VecV w s m is):=t;have o:Hid (vOk a):=q;have I:=asVS s;have K:=asVV s;clear t q;go_enter func127,ntmps127
      go_wp2_with fail
      refine Zm fun W d=>?_;have c:BW w W:=by rw[d];exact Zbal.alloc (by simp) _
      have g:Hid (W.cell? ⟨w.heap.size,0,none⟩=some (Vi oz)/\W.cell? ⟨w.heap.size+1,0,none⟩=some (Vi a)):=hid (by rw[d];obtain⟨g1,g2⟩:=ZsV w (Vi oz) (Vi a) 144 251;exact⟨g1.cell 0,g2.cell 0⟩);clear d;refine(Zlo s m is 166 #[Vp w.heap.size,Vp (w.heap.size+1)] (fun z=>twoV op a z) W (B.below c) EG1.out (fun F h z v=>ZtM op n a z o.out v F (by rw[<-f.out];exact(Zo.below h).cell g.1) ((Zo.below h).cell g.2)) (fun z _=>Zhj op a z o.out)).mono ?_;rintro e G ⟨v',is',rfl,i,j⟩;have k:=c.trans (j.mono c.size);go_wp2;go_ret;exact⟨_,rfl,hid ⟨v',is',rfl,i.out⟩,k⟩
  | inr l=>
    obtain⟨s,is,rfl,t⟩:=H;have B:Hid (VecV w s l is):=t;have N:=asVS s;have I:=asVV s;clear t;cases Y with
    | inl b=>
      obtain⟨rfl,r⟩:=A;have K:=asSS (Vi b);have o:Hid (vOk b):=r;clear r;go_enter func127,ntmps127
      go_wp2_with fail
      refine Zm fun W d=>?_;have c:BW w W:=by rw[d];exact Zbal.alloc (by simp) _
      have g:Hid (W.cell? ⟨w.heap.size,0,none⟩=some (Vi oz)/\W.cell? ⟨w.heap.size+1,0,none⟩=some (Vi b)):=hid (by rw[d];obtain⟨g1,g2⟩:=ZsV w (Vi oz) (Vi b) 144 251;exact⟨g1.cell 0,g2.cell 0⟩);clear d;refine(Zlo s l is 167 #[Vp w.heap.size,Vp (w.heap.size+1)] (fun z=>twoV op z b) W (B.below c) EG2.out (fun F h z v=>ZtN op n b z o.out v F (by rw[<-f.out];exact(Zo.below h).cell g.1) ((Zo.below h).cell g.2)) (fun z v=>Zhj op z b v)).mono ?_;rintro e G ⟨v',is',rfl,i,j⟩;have k:=c.trans (j.mono c.size);go_wp2;go_ret;exact⟨_,rfl,hid ⟨v',is',rfl,i.out⟩,k⟩
    | inr m=>
      obtain⟨s2,is2,rfl,D⟩:=A;have L:Hid (VecV w s2 m is2):=D;have E:Hid (Srt m):=hid C.1;have K:=asVS s2;have O:=asVV s2;clear D C;go_enter func127,ntmps127
      go_wp2_with fail
      refine Zm fun W d=>?_;have c:BW w W:=by rw[d];exact Zbal
      clear d;rw[f.out];refine(ZEL op n s s2 l m is is2 W (B.below c) (L.below c) E.out).mono ?_;rw[<-f.out];rintro e G ⟨v',is',rfl,i,j⟩;have k:=c.trans (j.mono c.size);have M:Hid (ValP G (.iface 253 v') (Zdg op (.inr l) (.inr m))):=hid (by rw[ZnU op l m E.out];exact⟨v',is',rfl,i.out⟩);go_wp2;go_ret;exact⟨_,rfl,M,k⟩
def NmS(bs:List BA):Prop:=bs.Pairwise fun a b=>Op.bytesLess (bl b) (bl a)=false
theorem NmS.le  (h : NmS bs) {i:Nat} (d : i <= j) (c : j < bs.length) : Op.bytesLess (bl bs[j]) (bl (bs[i]' Om)) = false := by
  rcases Yav i j with a|a
  · exact List.pairwise_iff_getElem.1 h i j Om c a
  · obtain rfl:i=j:=by omega
    exact ZcL _
theorem Zn1{x z:LB}(d:Op.bytesLess y x=false)(a:Op.bytesLess y z=true):Op.bytesLess x z=true:=by
 cases c:Op.bytesLess x y with
 | true=>exact Zdv _ _ _ c a
 | false=>rw[Zdh _ _ c d];exact a
theorem Zlw(bs:List BA)(j:Nat)(a:j<bs.length):(Zbc bs)[j]?=some (.string bs[j]):=by
 unfold Zbc;rw[Ya2,List.getElem?_eq_getElem a];rfl
theorem Zre(d:NmS bs){k:Nat}(e:∀j (h:j<bs.length),j<k->Op.bytesLess (bl bs[j]) y=true)(f:∀j (h:j<bs.length),k<=j->Op.bytesLess (bl bs[j]) y=false)(g:y∈bs.map bl):∃h:k<bs.length,bl bs[k]=y:=by
 obtain⟨b,i,rfl⟩:=Ybe.1 g;obtain⟨j,a,rfl⟩:=List.mem_iff_getElem.1 i
 have c:k<=j:=by
  rcases Yav j k with h|h
  ·have:=e j a h;rw[ZcL]at this;cases this
  ·exact h
 exact⟨by omega,Zdh _ _ (f k Om (Yac _)) (d.le c a)⟩
theorem Zui(bs:List BA)(tx:BA)(w:World)(c:w.ownsRow 0 9 1 v bs.length (Zbc bs))(E:bs.length<=100000)(z:NmS bs) :
  Cq 197 #[v,.string tx] w fun e u=>∃k:Nat,e=.returned (.tuple #[Vi k,.bool (decide (bl tx∈bs.map bl))])/\u=w:=by
 obtain⟨ra,rcp,rfl⟩:=Zl c;have o:Hid (w.ownsRow 0 9 1 (.slice ra bs.length rcp) bs.length (Zbc bs)):=c;have p:Hid (NmS bs):=z;obtain⟨fd,f⟩:∃fd,fd=decide (bl tx∈bs.map bl):=⟨_,rfl⟩
 rw[<-f];have l:Hid (fd=decide (bl tx∈bs.map bl)):=f;clear c z f;go_enter func197,ntmps197;go_wp2
 go_loopg [7,8] bs.length (fun kx s5 s6 wr=>∃lo a:Nat,s5=Vi lo/\s6=Vi a/\lo<=a/\a<=bs.length/\a - lo<=kx/\wr=w/\Hid ((∀j (h:j<bs.length),j<lo->Op.bytesLess (bl bs[j]) (bl tx)=true)/\(∀j (h:j<bs.length),a<=j->Op.bytesLess (bl bs[j]) (bl tx)=false)))
 case atStart=>exact⟨0,bs.length,rfl,rfl,Yag _,Yac _,by omega,rfl,hid ⟨fun j _ h=>absurd h (Ya1 _),fun j h m=>by omega⟩⟩
 case round=>
  obtain⟨lo,a,rfl,rfl,G,A,q,rfl,I⟩:=hrel;by_cases H:lo<a
  ·have t:(lo+a) / 2<bs.length:=by omega
   have q:∃g,ra=some ⟨g,0,none⟩:=by
    obtain⟨g,cp',h⟩:=ZF o.out Om;injection h with h1;exact⟨g,h1⟩
   obtain⟨g,rfl⟩:=q;have d1:=Zi o.out _ _ (Zlw bs ((lo+a) / 2) t);have J:(((lo+a) / 2:Nat):Int)=((lo:Int)+(a:Int)) / 2:=by omega
   have K:(((lo:Int)+(a:Int)) / 2).toNat=(lo+a) / 2:=by omega
   have r:=ZxX bs[(lo+a) / 2] tx;have B:Hid (Op.bytesLess (bl bs[(lo+a) / 2]) (bl tx)=true->∀i (h:i<bs.length),i<=(lo+a) / 2->Op.bytesLess (bl bs[i]) (bl tx)=true):=hid (fun s i h m=>Zn1 (p.le m t) s)
   have C : Hid (Op.bytesLess (bl bs[(lo + a) / 2]) (bl tx) = false -> ∀ i (h : i < bs.length), (lo + a) / 2 <= i -> Op.bytesLess (bl bs[i]) (bl tx) = false) := hid (fun s i h m => by
     cases F:Op.bytesLess (bl bs[i]) (bl tx)with
     | false=>rfl
     | true=>rw[Zn1 (p.le m h) F]at s;cases s)
   generalize bs[(lo+a) / 2]=x at *
   cases d:Op.bytesLess (bl x) (bl tx)with
   | true=>
    rw[d]at r;have y:=hid (B.out d);clear d
    go_wp2_with (go_at_call 223;refine(r _).mono ?_;rintro e u ⟨rfl,rfl⟩)
    go_roundg (a - ((lo+a) / 2+1))
    case measure=>omega
    case rel=>
     exact⟨(lo+a) / 2+1,a,by rw[show((lo:Int)+(a:Int)) / 2+1=(((lo+a) / 2+1:Nat):Int) by omega],rfl,by omega,A,Yac _,rfl,hid ⟨fun j h m=>y.out j h Om,I.2⟩⟩
   | false=>
    rw[d]at r;have y:=hid (C.out d);clear d
    go_wp2_with (go_at_call 223;refine(r _).mono ?_;rintro e u ⟨rfl,rfl⟩)
    go_roundg ((lo+a) / 2 - lo)
    case measure=>omega
    case rel=>
     exact⟨lo,(lo+a) / 2,rfl,by rw[show((lo:Int)+(a:Int)) / 2=(((lo+a) / 2:Nat):Int) by omega],by omega,by omega,Yac _,rfl,hid ⟨I.1,y.out⟩⟩
  ·obtain rfl:a=lo:=by omega
   by_cases n:a<bs.length
   ·have q:∃g,ra=some ⟨g,0,none⟩:=by
     obtain⟨g,cp',h⟩:=ZF o.out Om;injection h with h1;exact⟨g,h1⟩
    obtain⟨g,rfl⟩:=q;have d1:=Zi o.out _ _ (Zlw bs a n)
    have D:(bs[a].toList == tx.toList)=fd:=by
     rw[ZkY,l.out,decide_eq_decide];constructor
     ·intro h;rw[<-h];exact Ybe.2 ⟨_,List.getElem_mem n,rfl⟩
     ·intro h;exact(Zre p.out I.1 I.2 h).2
    clear l;generalize bs[a]=x at *
    cases fd
    ·go_wp2_with (go_at_call 227;refine(Zra).mono ?_;rintro e u ⟨rfl,rfl⟩)
     go_ret2;exact⟨a,rfl,rfl⟩
    ·go_wp2_with (go_at_call 227;refine(Zra).mono ?_;rintro e u ⟨rfl,rfl⟩)
     go_ret2;exact⟨a,rfl,rfl⟩
   ·have D:fd=false:=by
     rw[l.out,decide_eq_false_iff_not];intro h;exact n (Zre p.out I.1 I.2 h).1
    subst D;go_wp2;go_ret2;exact⟨a,rfl,rfl⟩
theorem Zxt{l:List Lab}{p:Lab}{ns:List (LB)}:ZB (l++[p]) ns=if p.1∈ns then ZB l ns++[p] else ZB l ns:=by
 unfold ZB;rw[Ygd];split
 ·rename_i h;rw[Yda (by simpa using h)];rfl
 ·rename_i h;rw[Ydb (by simpa using h)];simp
theorem ZxO(a:Option Addr)(n c:Nat)(tx:BA)(qs:List (BA×BA))(bs:List BA)(w:World)(T:LbOk w a n c tx qs)(hn:w.ownsRow 0 9 1 nv bs.length (Zbc bs))(a5:bs.length<=100000)(hs:NmS bs) :
  Cq 172 #[.agg #[.slice a n c,.string tx],nv] w fun e U=>∃(a':Option Addr) (n' c':Nat) (tx':BA) (qs':List (BA×BA)),e=.returned (.agg #[.slice a' n' c',.string tx'])/\Hid (LbOk U a' n' c' tx' qs'/\qs'.map blP=ZB (qs.map blP) (bs.map bl))/\BW w U:=by
 obtain⟨i0,hi,a6,a7,a8⟩:=info_parts Tryz.infoLabel;have a9:qs.length=n:=by have:=T.row.1.1;rw[Zi9]at this;omega
 subst a9;obtain⟨na,ncp,rfl⟩:=Zl hn;have J:Hid (LbOk w a qs.length c tx qs):=T;have c6:qs.length<=6001:=T.row.2.1;have b0:Hid (∀W,BW w W->∀nm:BA,Cq 197 #[.slice na bs.length ncp,.string nm] W fun e U=>∃k:Nat,e=.returned (.tuple #[Vi k,.bool (decide (bl nm∈bs.map bl))])/\U=W):=hid (fun W K nm=>Zui bs nm W (Zn hn K) a5 hs);clear T hn hs;go_enter func172,ntmps172;go_wp2
 go_loopw [5, 13] (fun v i wr => ∃ (k : Nat) (os : List (BA × BA)), k <= qs.length /\ i = Vi k /\ os.length <= k /\ wr.ownsRow (w.heap.size + 2) 320 2 v os.length (Zb2 os) /\ Hid (os.map blP = ZB ((qs.take k).map blP) (bs.map bl) /\ ∀ p ∈ os, p ∈ qs) /\ Hid (BAt wr w.heap.size [.slice a qs.length c, .string tx] 196) /\ Hid (BAt wr (w.heap.size + 1) [S0, .string ⟨#[]⟩] 196) /\ Hid (BW w wr))
   (fun _ i _=>qs.length - (intOf i).toNat)
 case atStart=>
  obtain⟨g1,g2⟩:BAt ((w.alloc (.cells #[.slice a qs.length c,.string tx] 196)).alloc (.cells #[S0,.string ⟨#[]⟩] 196)) w.heap.size [.slice a qs.length c,.string tx] 196/\BAt ((w.alloc (.cells #[.slice a qs.length c,.string tx] 196)).alloc (.cells #[S0,.string ⟨#[]⟩] 196)) (w.heap.size+1) [S0,.string ⟨#[]⟩] 196:=by
   refine⟨(Zbal.block _ (by simp)).trans (Go.Deep.blk_alloc_new _ _),?_⟩;have:=Go.Deep.blk_alloc_new (w.alloc (.cells #[.slice a qs.length c,.string tx] 196)) (.cells #[S0,.string ⟨#[]⟩] 196);rw[Go.Deep.nblk_alloc]at this;exact this
  exact⟨0,[],Yag _,rfl,Yag _,Ybc _ _ _ _,hid ⟨rfl,fun p s=>by cases s⟩,hid g1,hid g2,hid (Zbal.alloc (by simp) _)⟩
 case round=>
  rename World=>wo
  obtain⟨k,os,hk,rfl,c0,d,t,z,f,F⟩:=hrel;have Y:=F.size;have c7:=z.lt;have c8:=f.lt;by_cases L:k<qs.length
  ·have hg:∃g,a=some ⟨g,0,none⟩:=by
    obtain⟨g,cp',h⟩:=ZF J.row.1 Om;injection h with h1;exact⟨g,h1⟩
   obtain⟨g,rfl⟩:=hg;have M:=hid (Zn J.row.1 F.out);obtain⟨f1,f2⟩:=Zi8 qs k;rw[List.getElem?_eq_getElem L]at f1 f2;have d1:=Zi M.out _ _ f1;have d2:=Zi M.out _ _ f2
   have Z:Hid (ZB ((qs.take (k+1)).map blP) (bs.map bl)=if bl (qs[k]).1∈bs.map bl then ZB ((qs.take k).map blP) (bs.map bl)++[blP qs[k]] else ZB ((qs.take k).map blP) (bs.map bl)):=hid (by
    rw[List.take_succ_eq_append_getElem L,Yaq];exact Zxt)
   have b1:Hid (qs[k]∈qs):=hid (List.getElem_mem L);generalize qs[k]=q at *
   obtain⟨x,y⟩:=q;simp only at d1 d2;clear f1 f2 M;have c9:(k:Int)<(qs.length:Int):=by omega
   go_wp2_with fail
   refine Zm fun W K=>?_;have A:BW wo W:=by rw[K];exact Zbal
   have HX:Hid (BAt W wo.heap.size [.string x,.string y] 320):=hid (by rw[K];exact Go.Deep.blk_alloc_new _ _);have N:Hid (BW w W):=hid (F.trans (A.mono Y));have d0:=hid (fun q hq=>(d.lt q hq).2);have l:=Zn d A;have O:=hid (z.below A);have P:=hid (f.below A);clear K A d F d1 d2 z f;refine(b0.out W N.out x).mono ?_;rintro e B ⟨kk,rfl,rfl⟩;have d3:=HX.lt;by_cases I:bl x∈bs.map bl
   ·rw[decide_eq_true I]
    have G : Hid ((os ++ [(x, y)]).map blP = ZB ((qs.take (k + 1)).map blP) (bs.map bl) /\ ∀ p ∈ os ++ [(x, y)], p ∈ qs) := hid ⟨by rw [Z.out, if_pos I, Yaq, t.1]; rfl, fun p s => by
      rcases Yar.1 s with s|s
      · exact t.2 p s
      · rw[Yap]at s;subst s;exact b1.out⟩
    clear I;have x0:=HX.cell 0;have x1:=HX.cell 1;simp only[Zget]at x0 x1
    go_wp2_with (at_builtin;refine wpList_append_own _ rfl (.tmp 25) (.tmp 27) 194 rfl (w.heap.size+2) 320 i0 (.agg #[.string ByteArray.empty,.string ByteArray.empty]) 2 32 underlying194 hi a6 a7 a8 rfl Dc _ _ _ rfl (l.alloc _) ⟨B.heap.size,0,none⟩ 1 1 [.string x,.string y] rfl rfl ?c1 ?c2 ?c3 ?c4 ?c5 ?_)
    case c1=>exact ZcY rfl
    case c2=>intro u hu;simp at hu;rcases hu with rfl|rfl <;> rfl
    case c3=>unfold maxLen;omega
    case c4=>omega
    case c5=>simp;omega
    intro v6 V H m _;have a0:∀o,BW B (B.alloc o):=fun o=>Zbal;have Q:=(Z5.below (a0 _) 320).trans (Z5.grown m (l.alloc _));have b2:Hid (BW w V):=hid ((N.alloc Om _).grown m (by simp;omega) (fun q hq=>by have:=(l.lt q hq).1;omega))
    have X:V.ownsRow (w.heap.size+2) 320 2 v6 (os++[(x,y)]).length (Zb2 (os++[(x,y)])):=by
     rw[Zpm,Yab];exact H
    have a3:Hid (BAt V w.heap.size [.slice (some ⟨g,0,none⟩) qs.length c,.string tx] 196):=hid (Q _ _ _ _ Dc O.out);have a4:Hid (BAt V (w.heap.size+1) [S0,.string ⟨#[]⟩] 196):=hid (Q _ _ _ _ Dc P.out);clear m H l Q x0 x1 a0;go_wp2
    go_roundw
    case rel=>exact⟨k+1,_,by omega,by go_num,by simp;omega,X,G,a3,a4,b2⟩
    case measure=>simp[intOf];omega
   ·rw[decide_eq_false I];have G:Hid (os.map blP=ZB ((qs.take (k+1)).map blP) (bs.map bl)/\∀p∈os,p∈qs):=hid ⟨by rw[Z.out,if_neg I];exact t.1,t.2⟩;clear I;go_wp2
    go_roundw
    case rel=>exact⟨k+1,os,by omega,by go_num,by omega,l,G,O,P,N⟩
    case measure=>simp[intOf];omega
  ·obtain rfl:k=qs.length:=by omega
   have HK:Hid (os.map blP=ZB (qs.map blP) (bs.map bl)):=hid (by have:=t.1;rwa [Ya4]at this);have b3:Hid (Zde (os.map blP)):=hid (by rw[HK.out];exact J.wf.kept _);have b4:Hid (∀p∈os,p.1.size<=6000/\p.2.size<=6000):=hid (fun p s=>J.row.2.2 p (t.2 p s));obtain⟨va,vcp,b5⟩:=Zl d;subst b5;have y0:=z.cell 0;have y1:=z.cell 1;have z0:=f.cell 0;have z1:=f.cell 1;have fz0:=f.frozen 0;have fz1:=f.frozen 1;simp only[Zget]at y0 y1 z0 z1;by_cases a1:os.length=qs.length
   ·have b6:((os.length:Int) == (qs.length:Int))=true:=by simp[a1]
    have b7:Hid (qs.map blP=ZB (qs.map blP) (bs.map bl)):=hid (by
     unfold ZB;refine(Yeg.2 ?_).symm;have h1:=HK.out;have h2:(ZB (qs.map blP) (bs.map bl)).length=(qs.map blP).length:=by rw[<-h1,Yak,Yak,a1]
     unfold ZB at h2;exact List.length_filter_eq_length_iff.1 h2)
    have C:Hid (LbOk wo a qs.length c tx qs):=hid (J.jy (Zo.below F.out))
    have R : Hid (∀ x y, LbOk ((wo.setCell ⟨w.heap.size + 1, 0, none⟩ x).setCell ⟨w.heap.size + 1, 1, none⟩ y) a qs.length c tx qs) := hid (fun x y => ⟨⟨Zim C.row.1 (fun j hj => by
      have D:j≠w.heap.size+1:=by rintro rfl;exact Zcx C.row.1 f.out Dc hj.symm
      rw[Go.Deep.blk_setCell_other _ _ _ _ D,Go.Deep.blk_setCell_other _ _ _ _ D]),C.row.2⟩,C.txt,C.wf⟩)
    clear d;go_wp2;exact bodyPost_ret (v:=.agg #[.slice a qs.length c,.string tx]) (by simp[results,results172,go_sem,z0,z1]) rfl ⟨a,qs.length,c,tx,qs,rfl,hid ⟨R.out _ _,b7.out⟩,(F.setCell (p:=⟨w.heap.size+1,0,none⟩) (by show w.heap.size<=w.heap.size+1;omega) _).setCell (p:=⟨w.heap.size+1,1,none⟩) (by show w.heap.size<=w.heap.size+1;omega) _⟩
   ·have b6:((os.length:Int) == (qs.length:Int))=false:=by rw[beq_eq_false_iff_ne];omega
    have b8:Hid (ZcB wo 0 (.slice va os.length vcp) os.length os):=hid ⟨d.mono (Yag _),by omega,b4.out⟩;clear d
    go_wp2_with fail
    refine(Zro va os.length vcp _ os b8.out).mono ?_;rintro e B ⟨a',c',rfl,a2,S⟩;have r:=hid (f.below S);have b9:Hid (BW w B):=hid (F.trans (S.mono Y));have E:Hid (LbOk B a' os.length c' ⟨(Zbf os).toArray⟩ os):=hid ⟨a2,by rw[Zl5];rfl,b3.out⟩
    have R : Hid (∀ x y, LbOk ((B.setCell ⟨w.heap.size + 1, 0, none⟩ x).setCell ⟨w.heap.size + 1, 1, none⟩ y) a' os.length c' ⟨(Zbf os).toArray⟩ os) := hid (fun x y => ⟨⟨Zim E.row.1 (fun j hj => by
      have D:j≠w.heap.size+1:=by rintro rfl;exact Zcx E.row.1 r.out Dc hj.symm
      rw[Go.Deep.blk_setCell_other _ _ _ _ D,Go.Deep.blk_setCell_other _ _ _ _ D]),E.row.2⟩,E.txt,E.wf⟩)
    clear y0 y1 z0 z1 fz0 fz1 a2 S;have z0:=r.cell 0;have z1:=r.cell 1;have fz0:=r.frozen 0;have fz1:=r.frozen 1;simp only[Zget]at z0 z1;go_wp2;exact bodyPost_ret (v:=.agg #[.slice a' os.length c',.string ⟨(Zbf os).toArray⟩]) (by simp[results,results172,go_sem,z0,z1]) rfl ⟨a',os.length,c',_,os,rfl,hid ⟨R.out _ _,HK.out⟩,(b9.setCell (p:=⟨w.heap.size+1,0,none⟩) (by show w.heap.size<=w.heap.size+1;omega) _).setCell (p:=⟨w.heap.size+1,1,none⟩) (by show w.heap.size<=w.heap.size+1;omega) _⟩
attribute [local go_sem] Oper.semAt_some
def ZeG(bs:List BA)(k:Nat):List BA:=(List.range k).map fun j=>bs[j]?.getD ByteArray.empty
theorem ZDK(bs:List BA)(k:Nat):ZeG bs (k+1)=ZeG bs k++[bs[k]?.getD ByteArray.empty]:=by simp[ZeG,Ygx]
theorem ZDJ(bs:List BA)(k:Nat):(ZeG bs k).length=k:=by simp[ZeG]
theorem ZDI(bs:List BA):ZeG bs bs.length=bs:=by
 apply List.ext_getElem
 ·simp[ZeG]
 ·intro i c a;simp[ZeG,a]
theorem ZsZ(n:Nat)(B:1<=n)(l Bs n₀ b len cap:Nat)(bs:List BA)(m:len<=100000)(s:b<n₀)(J Jx:List BA->World->Prop)
  (t:∀pre x W,J pre W->pre.length<len->YieldAt Fence.wide (n - 1) prog l #[.string x] W fun e a=>
   (e=.returned (.bool true)/\J (pre++[x]) a/\Below n₀ W a)∨(e=.returned (.bool false)/\Jx (pre++[x]) a))
  (W:World) (A:W.cell? ⟨Bs,0,none⟩=some (.slice (some ⟨b,0,none⟩) len cap)) (u:∀j,j<len->W.cell? ⟨b,j,none⟩=some (.string (bs[j]?.getD ByteArray.empty))) (w:J [] W) :
  CallsIn Fence.wide n prog 171 #[.func (.yield l) #[] #[], Vp Bs] W fun e a => (∃ v, e = .returned v) /\
    ((∃ys,ys=ZeG bs len/\J ys a)∨(∃pre,True/\Jx pre a)):=by
 refine callsIn_of_wp func171 rfl trivial ?_ rfl;simp only[ntmps171,Yb5,Yaj,Ybq,Nat.reduceAdd,Nat.reduceSub,Yea,Yeb,Yew,Yeh,Ycu,Yby]
 gi_wp2
 gi_loopw [7] (fun i wr => ∃ k : Nat, k <= len /\ i = Vi k /\ J (ZeG bs k) wr /\ Below n₀ W wr)
   (fun i _=>len - (intOf i).toNat)
 case atStart=>exact⟨0,Yag _,rfl,w,Yaf _ _⟩
 case round=>
  obtain⟨k,C,rfl,c,d⟩:=hrel;have o:k<len->wr.cell? ⟨b,k,none⟩=some (.string (bs[k]?.getD ByteArray.empty)):=fun h=>(d.cell (p:=⟨b,k,none⟩) s).trans (u k h);by_cases f:k<len
  ·obtain⟨fn,tmps,assign,body,D,y⟩:=t _ (bs[k]?.getD ByteArray.empty) wr c (by rw[ZDJ];exact f);have z:=o f
   gi_wp2
   refine y.mono ?_;rintro e E (⟨rfl,q,r⟩|⟨rfl,g⟩)
   ·gi_wp2
    go_roundw
    case rel=>exact⟨k+1,by omega,by simp,by rw[ZDK];exact q,d.trans r⟩
    case measure=>simp[intOf];omega
   ·gi_wp2
    refine bodyPost_ret (results_none rfl _ _ _) rfl ?_;exact⟨⟨_,rfl⟩,.inr ⟨_,trivial,g⟩⟩
  ·obtain rfl:k=len:=by omega
   gi_wp2
   go_end0
   exact⟨⟨_,rfl⟩,.inl ⟨_,rfl,c⟩⟩
theorem ZDP(n:Nat)(l Bs:Nat)(J:List BA->World->Prop)(W:World)(f:W.cell? ⟨Bs,0,none⟩=some S0)(c:J [] W) :
  CallsIn Fence.wide n prog 171 #[.func (.yield l) #[] #[],Vp Bs] W fun e d=>(∃v,e=.returned v)/\J [] d:=by
 refine callsIn_of_wp func171 rfl trivial ?_ rfl;simp only[ntmps171,Yb5,Yaj,Ybq,Nat.reduceAdd,Nat.reduceSub,Yea,Yeb,Yew,Yeh,Ycu,Yby]
 gi_wp2
 gi_loopw [7] (fun i wr=>i=Vi 0/\J [] wr) (fun _ _=>0)
 case atStart=>exact⟨rfl,c⟩
 case round=>
  obtain⟨rfl,a⟩:=hrel
  gi_wp2
  go_end0
  exact⟨⟨_,rfl⟩,a⟩
theorem Zs0(w:World)(a:Option Addr)(len cap:Nat)(c:sv=.slice a len cap) :
  Cq 129 #[sv] w fun e u=>e=.returned (.func (.func 171) #[] #[Vp w.heap.size])/\u=w.alloc (.cells #[sv] 31):=by
 subst c;go_enter func129,ntmps129;go_wp2;go_ret;exact⟨rfl,rfl⟩
theorem ZDR(n:Nat)(k:1<=n)(Bs:Nat)(sv:Value)(bs:List BA)(d:bs.length<=100000)(w:World)(m:Bs<w.heap.size)(u:w.cell? ⟨Bs,0,none⟩=some sv)(h:w.ownsRow 0 9 1 sv bs.length (Zbc bs)) :
  SeqStopsK Fence.wide n prog 171 #[Vp Bs] (fun x:BA=>#[Value.string x]) (Below w.heap.size) (fun ys=>ys=bs) (fun _=>True) bs.length w:=fun l J Jx W o _ _ q i=>by
 have f:=(o.cell (p:=⟨Bs,0,none⟩) m).trans u;have r:=Zn h o;by_cases s:bs.length=0
 ·obtain rfl:bs=[]:=Ya3 s;rcases h.2 with ⟨rfl,_⟩|⟨g,cap,cur,rfl,_,v,_⟩
  ·exact(ZDP n l Bs J W f i).mono fun e t ⟨c,a⟩=>⟨c,.inl ⟨_,rfl,a⟩⟩
  ·refine(ZsZ n k l Bs w.heap.size g 0 cap [] Om (Yae.1 v).1 J Jx q W f (fun j a=>by omega) i).mono ?_;rintro e t ⟨c,⟨ys,rfl,a⟩|⟨pre,_,a⟩⟩
   ·exact⟨c,.inl ⟨_,rfl,a⟩⟩
   ·exact⟨c,.inr ⟨_,trivial,a⟩⟩
 ·obtain⟨g,cp,rfl⟩:=ZF h Om
  refine (ZsZ n k l Bs w.heap.size g bs.length cp bs d (Z1 h) J Jx q W f (fun j a => by
    rw[List.getElem?_eq_getElem a,Ya6];exact Zi r _ _ (Zlw bs j a)) i).mono ?_
  rintro e t ⟨c,⟨ys,rfl,a⟩|⟨pre,_,a⟩⟩
  ·exact⟨c,.inl ⟨_,ZDI bs,a⟩⟩
  ·exact⟨c,.inr ⟨_,trivial,a⟩⟩
theorem Tryz.infoStrG:(Tryz.prog.info? 9).map (fun i=>(i.zero,i.size,i.bytes))=some (some (.string ByteArray.empty),1,16):=by kernel_rfl
theorem ZtL(n:Nat)(Q:2<=n)(Bs:Nat)(sv:Value)(bs:List BA)(f:bs.length<=100000)(w:World)(r:Bs<w.heap.size)(F:w.cell? ⟨Bs,0,none⟩=some sv)(G:w.ownsRow 0 9 1 sv bs.length (Zbc bs)) :
  CallsIn Fence.wide n prog 194 #[S0,.func (.func 171) #[] #[Vp Bs]] w fun e s=>∃v,e=.returned v/\s.ownsRow w.heap.size 9 1 v bs.length (Zbc bs)/\BW w s:=by
 have H:1<=n:=by omega
 obtain⟨i0,I,t,u,z⟩:=info_parts Tryz.infoStrG;refine callsIn_of_wp_marks func194 rfl trivial ?_ rfl;simp only[ntmps194,Yb5,Yaj,Ybq,Nat.reduceAdd,Nat.reduceSub,Yea,Yeb,Yew,Yeh,Ycu,Yby]
 gi_wp2
 have bS:=Boxed.new w 31 S0;have m:BW w (w.alloc (.cells #[S0] 31)):=(Yaf _ w).alloc (Yac _) _;have q:=ZDR (n - 1) Om Bs sv bs f w r F G
 refine wpIn_rangeFunc_ownG rfl H (gf := 171) (lb := #[Vp Bs]) rfl trivial (enters_of func171 Kr rfl)
   q belowK_t (belowK_b (by simp)) m (fun _=>rfl)
   (fun pre W=>(∃v,Boxed W w.heap.size 31 v/\W.ownsRow w.heap.size 9 1 v pre.length (Zbc pre)/\True)/\BW w W)
   (fun _ _ _=>False)
   (OwnFrom.and (Own.from (holdsRow_own w.heap.size w.heap.size 31 9 1 (fun pre:List BA=>pre.length) (fun pre=>Zbc pre) (fun _ _=>True)) _) (ownFrom_below (Yac _) (by simp)))
   (fun _ _ _ _ _ J _ _=>J)
   ⟨⟨_,bS,Ybc _ _ _ _,trivial⟩,m⟩
   (fun x=>{ tmps:=#[S0,.func (.func 171) #[] #[Vp Bs],Vp w.heap.size,undef,S0,.string x,.func (.func 171) #[] #[Vp Bs],.string x,undef,undef,undef,undef,undef],defers:=[] }) ?assign ?body ?done ?stop
 case assign=>
  intro l x W K g
  gi_wp2
  exact g
 case body=>
  rintro l pre x W ⟨⟨v,j,a,-⟩,i⟩ M;have A:=j.cell;have N:=i.size
  gi_wp2_with (gi_at_builtin;refine wpListIn_append_own _ rfl _ _ 31 rfl w.heap.size 9 i0 (.string ByteArray.empty) 1 16 underlying31 I t u z rfl Dc _ _ _ rfl (a.alloc _) ⟨W.heap.size,0,none⟩ 1 1 [.string x] rfl rfl (cell_one_new _ _ _) (by simp[Value.oneCell']) (by unfold maxLen;omega) Om (by simp;omega) ?_;intro v' y d k _;obtain⟨g',cap',rfl⟩:=ownsRow_succ d;obtain⟨o,B,C,E,p⟩:=j.appended Dc a i.size (Yac _) d k;have O:=o.cell;have P:=o.frozen)
  exact⟨E.from _,p,⟨_,B,by rw[Zh2,Yab];exact C,trivial⟩,i.trans p⟩
 case done=>
  rintro D ys W L rfl ⟨⟨v,j,a,-⟩,i⟩ g;have A:=j.cell
  gi_wp2
  refine⟨by simp,.inl ⟨_,_,rfl,run_takeDeferred g,?_⟩⟩;exact⟨_,results_tmp rfl _ _ _,v,rfl,ownsRow_putObj a _ g rfl,i.trans (belowK_b (w:=w) (Yac _) W D _ _ (by simp at L;omega) g rfl rfl)⟩
 case stop=>
  rintro D c pre W _ _ h _;exact h.elim
theorem ZuY(Bs:Nat)(sv:Value)(bs:List BA)(a:bs.length<=100000)(w:World)(c:Bs<w.heap.size)(d:w.cell? ⟨Bs,0,none⟩=some sv)(f:w.ownsRow 0 9 1 sv bs.length (Zbc bs)) :
  Cq 169 #[.func (.func 171) #[] #[Vp Bs]] w fun e g=>∃v,e=.returned v/\g.ownsRow w.heap.size 9 1 v bs.length (Zbc bs)/\BW w g:=by
 have h:=callsIn_wide.1 (ZtL 2 (Yac _) Bs sv bs a w c d f);have i:Hid _:=hid h;clear h f d;go_enter func169,ntmps169
 go_wp2_with (go_at_call 194;refine i.mono ?_;rintro e l ⟨v,rfl,j,k⟩)
 go_ret;exact⟨v,rfl,j,k⟩
theorem Zjx(x y:LB):decide (x<=y)=!Op.bytesLess y x:=by
 rw[bytesLess_eq,Ybh,decide_eq_true_iff,Ycr,decide_eq_false_iff_not];exact Iff.rfl
theorem ZCx (ss : List (LB)) : (ss.mergeSort fun x y => decide (x <= y)).Pairwise fun a b => Op.bytesLess b a = false := by
  have h := List.pairwise_mergeSort (le := fun (x y : LB) => decide (x <= y)) (by
    intro a b c d i;rw[Zjx,Ycr]at *
    cases h:Op.bytesLess c a with
    | false=>rfl
    | true=>
      cases f:Op.bytesLess b c with
      | true=>rw[Zdv _ _ _ f h]at d;cases d
      | false=>
        have e:=Zdh _ _ f i;rw[e,h]at d;cases d) (by
    intro a b;rw[Zjx,Zjx];cases h:Op.bytesLess b a with
    | false=>rfl
    | true=>
      cases f:Op.bytesLess a b with
      | false=>rfl
      | true=>have:=Zdv _ _ _ h f;rw[ZcL]at this;cases this) ss
  refine h.imp (fun {a b} g=>?_);rw[Zjx,Ycr]at g;exact g
theorem Zi7(bs:List BA):Zbc bs=(bs.map bl).map encStr:=by
 unfold Zbc;rw[Yb1];refine Ycb (fun b _=>?_);cases b with
 | mk d=>simp[encStr,bl]
theorem Zsp(Bs:Nat)(sv:Value)(bs:List BA)(i:bs.length<=100000)(w:World)(t:Bs<w.heap.size)(z:w.cell? ⟨Bs,0,none⟩=some sv)(A:w.ownsRow 0 9 1 sv bs.length (Zbc bs)) :
  Cq 128 #[.func (.func 171) #[] #[Vp Bs]] w fun e B=>∃v bs',e=.returned v/\Hid (B.ownsRow w.heap.size 9 1 v bs'.length (Zbc bs')/\bs'.length=bs.length/\NmS bs'/\(∀x,x∈bs'.map bl ↔ x∈bs.map bl))/\BW w B:=by
 have G:=hid (ZuY Bs sv bs i w t z A);clear A z;go_enter func128,ntmps128
 go_wp2_with fail
 refine G.mono ?_;rintro e W ⟨v,rfl,a,q⟩;by_cases H:bs.length=0
 ·obtain rfl:bs=[]:=Ya3 H;obtain⟨av,cp,rfl⟩:=Zl a;have I:Hid _:=hid a;clear a
  go_wp2_with (go_at_call 170;refine(slices_Sort_string_none _ _ _).mono ?_;rintro e u ⟨rfl,rfl⟩)
  go_ret;exact⟨_,[],rfl,hid ⟨I.out,rfl,List.Pairwise.nil,fun x=>Iff.rfl⟩,q⟩
 ·obtain⟨g,cp,rfl⟩:=ZF a Om;rcases a.2 with ⟨r,_⟩|⟨g',cap,cur,r,d,p,r1,r2,r3,r4⟩
  ·cases r
  injection r with e1 e2 e3;injection e1 with e1;injection e1 with e1;subst e1 e3;have C:g<W.heap.size:=(Yae.1 p).1;obtain⟨ss,f⟩:∃ss,ss=bs.map bl:=⟨_,rfl⟩
  have c:ss.length=bs.length:=by rw[f,Yak]
  have D:Sort.Holds encStr W g 0 ss.toArray:=holds_of_block p (by rw[c];rw[Nat.mul_one,Zi7,<-f]at r4;exact r4);have s:=slices_Sort_string g 0 cp ss W D C Om;rw[c]at s;have J:Hid _:=hid s;have K:Hid (w.heap.size<=g/\W.heap[g]?=some (.cells cur 9 (0,0))/\bs.length<=cp/\cp<=maxLen/\cur.size=cp*1):=hid ⟨d,p,r1,r2,r3⟩;have E:Hid (ss=bs.map bl):=f;clear s D a p d r1 r2 r3 r4 f
  go_wp2_with (go_at_call 170;refine J.mono ?_;rintro e u ⟨rfl,nn,os,rfl⟩)
  go_ret;obtain⟨q1,q2,q3,q4,q5⟩:=K.out;obtain⟨ms,k⟩:∃ms,ms=ss.mergeSort (fun x y=>decide (x<=y)):=⟨_,rfl⟩
  have h:ms.Perm ss:=by rw[k];exact List.mergeSort_perm _ _
  have m:ms.length=ss.length:=h.length_eq
  have o : (ms.map (fun l => (⟨l.toArray⟩ : BA))).map bl = ms := by
    rw[Yb1]
    conv=>rhs;rw[<-List.map_id ms]
    exact Ycb (fun l _=>by simp[bl])
  refine⟨_,ms.map (fun l=>⟨l.toArray⟩),rfl,hid ⟨?_,by rw[Yak,m,c],?_,fun x=>by rw[o,h.mem_iff,E.out]⟩,?_⟩
  ·have F:=ownsRow_sorted (n:=nn) (os:=os) m q1 q2 (by rw[c];exact q3) q4 q5;rw[Zi7,o,Yak,m,<-k];rw[c]at F ⊢;exact F
  ·unfold NmS;have:=ZCx ss;rw[<-k,<-o,Ybx]at this;exact this
  ·exact q.grown (grownBy_sorted _) q.size (fun j L=>by cases L;exact q1)
end
section
open Go.ChangeMaps (setBlock)
structure BelX (x B:Nat) (w w':World):Prop where
 os:w'.os=w.os
 tape:w'.tape=w.tape
 output:w'.output=w.output
 size:w.heap.size<=w'.heap.size
 block:∀k,k<B->k≠x->w'.heap[k]?=w.heap[k]?
theorem BelX.of(h:Below B w w'):BelX x B w w':=⟨h.os,h.tape,h.output,h.size,fun k a _=>h.block k a⟩
theorem BelX.refl(x B:Nat)(w:World):BelX x B w w:=BelX.of (Yaf B w)
theorem BelX.trans{a b c:World}(h:BelX x B a b)(k:BelX x B b c):BelX x B a c:=⟨k.os.trans h.os,k.tape.trans h.tape,k.output.trans h.output,Yah h.size k.size,fun j d e=>(k.block j d e).trans (h.block j d e)⟩
theorem BelX.mono{C:Nat}(h:BelX x C w w')(c:B<=C):BelX x B w w':=⟨h.os,h.tape,h.output,h.size,fun k d a=>h.block k Om a⟩
theorem BelX.below(h:BelX x B w w')(c:B<=x):Below B w w':=⟨h.os,h.tape,h.output,h.size,fun k a=>h.block k a Om⟩
theorem BelX.set(x B:Nat)(w:World)(o':Obj):BelX x B w (setBlock w x o'):=⟨rfl,rfl,rfl,by simp[setBlock],fun k _ a=>by simp[setBlock,Ycp a]⟩
def MapX(w:World)(x:Nat):Prop:=∃es clock,w.heap[x]?=some (.map es clock)
theorem Zo.belX   (h : BelX x w.heap.size w w') (d : MapX w x) : Zo w w' := fun b c T fr a => by
  obtain⟨es,cl,f⟩:=d;refine(h.block b (Yae.1 a).1 (fun e=>?_)).trans a;subst e;rw[f]at a;cases a
structure GEn where
 a:Option Addr
 n:Nat
 c:Nat
 tx:BA
 qs:List (BA×BA)
 vals:List Int
def GEn.val(g:GEn):Value:=.agg (.slice g.a g.n g.c::.string g.tx::talC g.vals).toArray
def GEn.grp(g:GEn):Grp:=(g.qs.map blP,g.vals)
structure GEnOk (w:World) (g:GEn):Prop where
 lb:LbOk w g.a g.n g.c g.tx g.qs
 vok:∀v∈g.vals,vOk v
theorem GEnOk.jy{g:GEn}(h:GEnOk w g)(a:Zo w w'):GEnOk w' g:=⟨h.lb.jy a,h.vok⟩
structure MapG (w:World) (x:Nat) (gs:List GEn) (es:Array MapEntry) (clock:Nat):Prop where
 heap:w.heap[x]?=some (.map es clock)
 stm:MapKept.Stamped es clock
 kv:es.toList.map (fun e=>(e.key,e.val))=gs.map (fun g=>(Value.string g.tx,g.val))
 sz:∀g∈gs,g.tx.size<=maxLen
theorem MapG.len{gs:List GEn}(h:MapG w x gs es clock):es.size=gs.length:=by
 have:=congrArg List.length h.kv;simpa using this
theorem MapG.at{gs:List GEn}(h:MapG w x gs es clock)(f:es.toList[j]?=some e):∃c:j<gs.length,e.key=.string gs[j].tx/\e.val=gs[j].val:=by
 have a:(es.toList.map (fun e=>(e.key,e.val)))[j]?=(gs.map (fun g=>(Value.string g.tx,g.val)))[j]?:=by rw[h.kv]
 rw[Ya2,f,Ya2]at a
 have c:j<gs.length:=by
  rcases Yav j gs.length with d|d
  ·exact d
  ·rw[Ya9 d]at a;cases a
 rw[List.getElem?_eq_getElem c]at a;simp only[Ybf,Yci,Yc5]at a;exact⟨c,a.1,a.2⟩
theorem MapG.keys   {gs : List GEn}   (h : MapG w x gs es clock) : ∀ e ∈ es.toList, ∃ l, keyOf prog 9 e.key = some l := fun e a => by
  obtain⟨j,c⟩:=List.getElem?_of_mem a;obtain⟨d,f,_⟩:=h.at c;rw[f];exact⟨_,Go.WideMaps.keyOf_string_mk underlying9 (h.sz _ (List.getElem_mem d))⟩
theorem MapG.moved{gs:List GEn}(h:MapG w x gs es clock)(a:w'.heap[x]?=w.heap[x]?):MapG w' x gs es clock:=⟨a.trans h.heap,h.stm,h.kv,h.sz⟩
def ZE6:Value:=.agg #[S0,.string ByteArray.empty,Vi 0,Vi 0,Vi 0,Vi 0,Vi 0,Vi 0]
theorem MapG.find{gs:List GEn}(h:MapG w x gs es clock)(k:BA)(v:k.size<=maxLen) :
  ((∀W:World,(Instr.findKey 9 (.string k) es.toList).run prog W=.ok none W)/\(∀g∈gs,g.tx≠k)/\∀e∈es.toList,e.key≠.string k)∨
  ∃j,∃q:j<gs.length,gs[j].tx=k/\(∀i (l:i<gs.length),i≠j->gs[i].tx≠k)/\∃e,es.toList[j]?=some e/\e.key=.string k/\e.val=gs[j].val/\∀W:World,(Instr.findKey 9 (.string k) es.toList).run prog W=.ok (some (j,e.val)) W:=by
 have K:=Maps.string_keyed (P:=prog) (k:=9) underlying9;have d:=Go.WideMaps.keyOf_string_mk (P:=prog) (k:=9) underlying9 v;rcases K.find w d es.toList h.keys with ⟨y,a⟩|⟨j,e,y,a,m⟩
 ·left
  refine⟨fun W=>?_,fun g z p=>?_,a⟩
  ·rcases K.find W d es.toList h.keys with ⟨k1,_⟩|⟨j,e,k1,k2,k3⟩
   ·exact k1
   ·exact absurd k3 (a e (List.mem_of_getElem? k2))
  ·obtain⟨i,l,rfl⟩:=List.mem_iff_getElem.1 z;have c:i<es.toList.length:=by rw[Ybl,h.len];exact l
   obtain⟨_,e1,_⟩:=h.at (List.getElem?_eq_getElem c)
   exact a _ (List.getElem_mem c) (by rw[e1,p])
 ·right
  obtain⟨q,e1,e2⟩:=h.at a;rw[m]at e1;have r:gs[j].tx=k:=(Value.string.inj e1).symm;have n:=h.stm.2.2
  have f : ∀ i (l : i < gs.length), i ≠ j -> gs[i].tx ≠ k := fun i l A p => by
    have c:i<es.toList.length:=by rw[Ybl,h.len];exact l
    have o:j<es.toList.length:=(Ycm.1 a).1;obtain⟨_,f1,_⟩:=h.at (List.getElem?_eq_getElem c)
    have e3:es.toList[j]=e:=Yax ((List.getElem?_eq_getElem o).symm.trans a);rw[List.Nodup,Ybx,List.pairwise_iff_getElem]at n;rcases Yav i j with s|s
    · exact n i j c o s (by rw[f1,p,e3,m])
    · exact n j i o c Om (by rw[f1,p,e3,m])
  refine⟨j,q,r,f,e,a,m,e2,fun W=>?_⟩;rcases K.find W d es.toList h.keys with ⟨_,k2⟩|⟨j',e',k1,k2,k3⟩
  ·exact absurd m (k2 e (List.mem_of_getElem? a))
  ·obtain⟨t,f1,f2⟩:=h.at k2;rw[k3]at f1
   have:j'=j:=by
    refine Yb6 fun u=>f j' t u ?_;exact(Value.string.inj f1).symm
   subst this;rw[a]at k2;have k4:=Yax k2;subst k4;exact k1
theorem ZyG{gs:List GEn}(h:MapG w x gs es clock)(c:k.size<=maxLen)(d:∀W:World,(Instr.findKey 9 (.string k) es.toList).run prog W=.ok none W)(W:World)(e:W.heap[x]?=w.heap[x]?) :
  (Instr.lookup 248 (.map (some x)) (.string k) false).run prog W=.ok ZE6 W:=by
 have K:=Maps.string_keyed (P:=prog) (k:=9) underlying9;have a:=Go.WideMaps.keyOf_string_mk (P:=prog) (k:=9) underlying9 c;simp[Instr.lookup,run_underlying underlying248,Ybt (e.trans h.heap),K.check W _ a,d W,Result.andThen];rfl
theorem ZyE{gs:List GEn}(h:MapG w x gs es clock)(c:k.size<=maxLen)(d:∀W:World,(Instr.findKey 9 (.string k) es.toList).run prog W=.ok (some (j,v)) W)(W:World)(e:W.heap[x]?=w.heap[x]?) :
  (Instr.lookup 248 (.map (some x)) (.string k) false).run prog W=.ok v W:=by
 have K:=Maps.string_keyed (P:=prog) (k:=9) underlying9;have a:=Go.WideMaps.keyOf_string_mk (P:=prog) (k:=9) underlying9 c;simp[Instr.lookup,run_underlying underlying248,Ybt (e.trans h.heap),K.check W _ a,d W,Result.andThen]
theorem ZDG{gs:List GEn}(h:MapG w x gs es clock)(d:k.size<=maxLen)(e:∀W:World,(Instr.findKey 9 (.string k) es.toList).run prog W=.ok none W)(v:Value)(W:World)(c:W.heap[x]?=w.heap[x]?) :
  (Instr.mapUpdate 248 (.map (some x)) (.string k) v).run prog W=.ok () (setBlock W x (.map (es.push ⟨.string k,v,clock⟩) (clock+1))):=by
 have K:=Maps.string_keyed (P:=prog) (k:=9) underlying9;have a:=Go.WideMaps.keyOf_string_mk (P:=prog) (k:=9) underlying9 d;simp[Instr.mapUpdate,run_underlying underlying248,Ybt (c.trans h.heap),K.check W false a,e W,Ych _ (c.trans h.heap),Result.andThen,setBlock]
theorem ZDE{gs:List GEn}(h:MapG w x gs es clock)(g:k.size<=maxLen)(i:es.toList[j]?=some e)(c:e.key=.string k)(l:∀W:World,(Instr.findKey 9 (.string k) es.toList).run prog W=.ok (some (j,u)) W)(v:Value)(W:World)(d:W.heap[x]?=w.heap[x]?) :
  (Instr.mapUpdate 248 (.map (some x)) (.string k) v).run prog W=.ok () (setBlock W x (.map (es.modify j fun e=>{ e with key:=.string k,val:=v }) clock)):=by
 have K:=Maps.string_keyed (P:=prog) (k:=9) underlying9;have a:=Go.WideMaps.keyOf_string_mk (P:=prog) (k:=9) underlying9 g
 have f:((es[j]?).map (·.key)).getD (.string k)=.string k:=by
  rw[<-Yb2,i];exact c
 simp[Instr.mapUpdate,run_underlying underlying248,Ybt (d.trans h.heap),K.check W false a,l W,f,K.stays W a,Ych _ (d.trans h.heap),Result.andThen,setBlock]
