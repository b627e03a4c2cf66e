/- Parts. -/
import Derived.Test.YtcdgkkfipdoeeaaGreatDoorU29
import Derived.Test.YtcdgkkfipdoeeaaGreatDoorU22
set_option linter.all false
set_option maxRecDepth 100000
set_option maxHeartbeats 16000000
namespace Go.Proofs.YtcdgkkfipdoeeaaGreatDoor
open Go.RowKit LS Go.Proofs.Tryz
variable {os:Array Obj}{F:Array Value}{x y:LB}{l:List Int}{is:List Itm}{rs:List Str}{a base:Nat}{nd:Nd}{la p:Option Addr}{s:Str}{fv sv v x0 x1 x2 x3 x4 x5:Value}{w:World}
def GrB(W w':World):Prop:=∃q os,w'=Sort.grow (W.drewN q) os
theorem GrB.trans{a b c:World}(h:GrB a b)(k:GrB b c):GrB a c:=by
 obtain⟨q1,o1,rfl⟩:=h;obtain⟨q2,o2,rfl⟩:=k;exact⟨q1+q2,o1++o2,by simp[Sort.grow,World.drewN,Nat.add_assoc]⟩
theorem GrB.alloc(W:World)(o:Obj):GrB W (W.alloc o):=⟨0,#[o],by rw[Sort.alloc_eq_grow];rfl⟩
theorem GrB.drew(W:World):GrB W W.drew:=⟨1,#[],by rw[Sort.grow_empty];rfl⟩
theorem ZCu (x y : Itm)  : CP 236 #[.agg #[.slice x.a x.n x.c, .string x.tx, Vi x.v], .agg #[.slice y.a y.n y.c, .string y.tx, Vi y.v]] w fun e u => e = .returned (Vi (cmpV (bl x.tx) (bl y.tx))) /\ GrB w u := by
  obtain⟨xa,xn,xc,xt,xq,xv⟩:=x;obtain⟨ya,yn,yc,yt,yq,yv⟩:=y;simp only;go_enter func236,ntmps236
  go_upto_region 1 with fail
  refine ZP fun W d=>?_;have h:Hid (GrB w W):=d▸(GrB.alloc _ _).trans (GrB.alloc _ _);have f:Hid (BAt W _ _ 286):=d▸(Zbal.block _ (by simp)).trans bnw;have g:Hid (BAt W (w.heap.size+1) [.slice ya yn yc,.string yt,Vi yv] 286):=by rw[d];have:=Go.Deep.blk_alloc_new (w.alloc (.cells #[.slice xa xn xc,.string xt,Vi xv] 286)) (.cells #[.slice ya yn yc,.string yt,Vi yv] 286);rw[Go.Deep.nblk_alloc]at this;exact this
  clear d;have x0:=f.cell 0;have x1:=f.cell 1;have y0:=g.cell 0;have y1:=g.cell 1;simp only[Zget]at x0 x1 y0 y1
  go_region_held3 (fun u => u.cell? ⟨w.heap.size, 0, none⟩ = some (.slice xa xn xc) /\ u.cell? ⟨w.heap.size, 1, none⟩ = some (.string xt) /\ u.cell? ⟨w.heap.size + 1, 0, none⟩ = some (.slice ya yn yc) /\ u.cell? ⟨w.heap.size + 1, 1, none⟩ = some (.string yt)) (first | exact ⟨x0, x1, y0, y1⟩ | go_keep) (first
    | (go_at_call 151
       refine(ZgR).mono ?_;rintro e k ⟨rfl,o5,i⟩)
    | (go_at_call 237
       refine(Zoe).mono ?_;rintro e l ⟨rfl,j⟩))
  all_goals
    go_wp2;go_ret;exact⟨rfl,h.trans (((GrB.alloc _ _).trans (GrB.alloc _ _)).trans (GrB.drew _))⟩
theorem ZhW(x y:LB):decide (cmpV x y<0)=Op.bytesLess x y:=by
 unfold cmpV;cases h:Op.bytesLess x y
 ·cases a:Op.bytesLess y x <;> simp
 ·simp
theorem ZCw : Sort.SWO (ltOf fun x y : Itm => cmpV (bl x.tx) (bl y.tx)) where
  irrefl x:=by unfold ltOf;rw[ZhW];exact ZcL _
  trans x y z h1 h2:=by unfold ltOf at *;rw[ZhW]at *;exact Zdv _ _ _ h1 h2
  ntrans x y z h1 h2:=by
    unfold ltOf at *
    rw[ZhW]at *
    cases h:Op.bytesLess (bl x.tx) (bl z.tx)with
    | false=>rfl
    | true=>
      cases a:Op.bytesLess (bl z.tx) (bl y.tx)with
      | true=>rw[Zdv _ _ _ h a]at h1;cases h1
      | false=>
        have e:=Zdh _ _ h2 a;rw[e,h]at h1;cases h1
theorem Zpl [Inhabited Itm] (d:Array Itm):(Sort.flatK Itm.enc 3 d).toList=encs d.toList:=by
 refine Ycs (fun t=>?_);by_cases c:t<d.size*3
 ·have f:t / 3<d.toList.length:=by rw[Ybl];omega
  have a:t / 3<d.size:=by omega
  obtain⟨g0,g1,g2⟩:=Zfl _ _ f
  have e:(Sort.flatK Itm.enc 3 d).toList[t]?=some (Itm.enc d[t / 3]!)[t % 3]!:=by
   rw[Yb2,<-Sort.get_flatK _ _ _ t c];rw[getElem!_pos _ t (by rwa [Sort.size_flatK]),Array.getElem?_eq_getElem _]
  rw[e,getElem!_pos d _ a];rw[Array.getElem_toList]at g0 g1 g2;rcases(by omega:t % 3=0∨t % 3=1∨t % 3=2)with h|h|h
  ·rw[show t / 3*3=t by omega]at g0;rw[h,g0];rfl
  ·rw[show t / 3*3+1=t by omega]at g1;rw[h,g1];rfl
  ·rw[show t / 3*3+2=t by omega]at g2;rw[h,g2];rfl
 ·rw[Ya9 (by rw[Ybl,Sort.size_flatK];omega),Ya9 (by rw[Zlp,Ybl];omega)]
theorem ZDa(cur F:Array Value)(h:F.size<=cur.size):(Sort.putCells id 0 F cur).toList.take F.size=F.toList:=by
 apply Ycs;intro j;by_cases a:j<F.size
 ·rw[Ye7 a,Yb2];simp[Sort.putCells,a,show j<cur.size by omega]
 ·rw[List.getElem?_take_eq_none Om,Ya9 (by simp;omega)]
theorem ZwX{g n:Nat}{cur:Array Value}{e:TypeId}{fr:Nat×Nat}(a:w.heap[g]?=some (.cells cur e fr)) :
  (Sort.grow (Sort.putRow id (Sort.ahead w n) g 0 F) os).heap[g]?=some (.cells (Sort.putCells id 0 F cur) e fr):=by
 have c:=(Yae.1 a).1;rw[Sort.heap_grow_old _ _ (by simpa using c)];simp[Sort.putRow,Sort.mapBlock,Sort.ahead,Ybn,a,Sort.onCells]
theorem ZwL{g n:Nat}:w.grownBy (Sort.grow (Sort.putRow id (Sort.ahead w n) g 0 F) os) (some g):=by
 refine⟨rfl,rfl,rfl,by simp,fun k c a=>?_⟩;rw[Sort.heap_grow_old _ _ (by simpa using c)];have:g≠k:=fun e=>a (by rw[e]);simp[Sort.putRow,Sort.mapBlock,Sort.ahead,Ybn,this]
theorem Zxe (p : Option Addr) (cap : Nat) (fv : Value) (w : World) : CP 281 #[.slice p 0 cap, Vi 0, Vi 0, fv] w fun e u => e = .returned (.tuple #[]) /\ u = w := by
  go_enter func281,ntmps281;go_wp2;refine wp_loop_rounds 1 ?_;rw[rounds_succ];go_wp2
  go_end0
  exact⟨rfl,rfl⟩
theorem ZAy (p : Option Addr) (cap : Nat) (lim : Int) (fv : Value) (w : World) : CP 267 #[.slice p 0 cap, Vi 0, Vi 0, Vi lim, fv] w fun e u => e = .returned (.tuple #[]) /\ u = w := by
  have a:=fun W=>Zxe p cap fv W;go_enter func267,ntmps267;go_wp2;refine wp_loop_rounds 1 ?_;rw[rounds_succ]
  go_wp2_with (go_at_call 281;refine(a _).mono ?_;rintro e u ⟨rfl,rfl⟩)
  (try simp only[Exit.inBlock,Exit.then]);refine bodyPost_ret (results_none rfl _ _ _) rfl ?_
  exact⟨rfl,rfl⟩
theorem ZCB  {cap:Nat}   : CP 235 #[.slice p 0 cap, fv] w fun e u => e = .returned (.tuple #[]) /\ u = w := by
  have a:=fun lim W=>ZAy p cap lim fv W;have c:∀W,Calls _ _ _ W fun e u=>e=.returned (.int _ (Lib.bitLen 0))/\u=W:=fun W=>bits_Len 0 W Om Om;go_enter func235,ntmps235
  go_wp2_with (first|(go_at_call 233;refine(c _).mono ?_;rintro e u ⟨rfl,rfl⟩)|(go_at_call 267;refine(a _ _).mono ?_;rintro e u ⟨rfl,rfl⟩))
  go_end0
  exact⟨rfl,rfl⟩
theorem ZCv(v:Value)(w:World)(c:w.ownsRow base 286 3 v is.length (encs is))(D:is.length<=1000) :
  CP 208 #[v] w fun e u=>∃is',e=.returned v/\Hid (is'.Perm is/\(is'.Pairwise fun a b=>Op.bytesLess (bl b.tx) (bl a.tx)=false)/\u.ownsRow base 286 3 v is'.length (encs is')/\w.grownBy u v.ownBlock):=by
 haveI:Inhabited Itm:=⟨⟨none,0,0,⟨#[]⟩,[],0⟩⟩
 by_cases r:is.length=0
 ·obtain rfl:=Ya3 r;obtain⟨av,cp,rfl⟩:=Zl c;have E:=hid c;clear c r;go_enter func208,ntmps208
  go_wp2_with (go_at_call 235;refine(ZCB).mono ?_;rintro e u ⟨rfl,rfl⟩)
  go_ret;exact⟨[],rfl,hid ⟨List.Perm.refl _,List.Pairwise.nil,E,⟨rfl,rfl,rfl,Yac _,fun _ _ _=>rfl⟩⟩⟩
 ·obtain⟨g,cp,rfl⟩:=ZF c Om;rcases c.2 with ⟨h,_⟩|⟨g',cap,cur,h,f,o,r1,r2,r3,r4⟩
  ·cases h
  injection h with e1 e2 e3;injection e1 with e1;injection e1 with e1;subst e1 e3;have s:=(Yae.1 o).1
  have t:Sort.HoldsK Itm.enc 3 w g 0 is.toArray:=by
   intro j k;rw[Sort.size_flatK]at k;have q:j<(encs is).length:=by rw[Zlp];simpa using k
   refine⟨?_,by simp[World.frozen?,o]⟩;have e:=Zi c j _ (List.getElem?_eq_getElem q);rw[Ycf,e];have e2:(Sort.flatK Itm.enc 3 is.toArray).toList[j]?=(encs is)[j]?:=by rw[Zpl]
   rw[List.getElem?_eq_getElem q,Yb2,Array.getElem?_eq_getElem (by rwa [Sort.size_flatK])]at e2;rw[getElem!_pos _ j (by rwa [Sort.size_flatK]),Yax e2];rfl
  have eg:∀args w,(callFunc 236 _).run _ w=.ok _ w:=enters_of func236 Kr rfl;have l:CmpLays _ 236 #[] Itm.enc 3 _ g 0 is.toArray.size w:=fun _ _ _ _ x y=>ZCu x y;have d:=AnyQ.slices_SortFunc sortItem 3 isAgg286 sizeOf286 _ (fun _=>rfl) (fun x v h=>by simp[Itm.enc]at h;rcases h with rfl|rfl|rfl <;> rfl) _ ZCw 236 _ g 0 cp _ w eg l t s (by simp;omega);change CP 235 _ _ _ at d;rw[Yb5]at d;have F:=hid d;have G:Hid (base<=g/\w.heap[g]?=some _/\is.length<=cp/\cp<=maxLen/\cur.size=cp*3):=hid ⟨f,o,r1,r2,r3⟩;clear d l eg t c o f r1 r2 r3 r4;go_enter func208,ntmps208
  go_wp2_with (go_at_call 235;refine F.mono ?_;rintro e u ⟨rfl,d',n,os,z,H,rfl⟩)
  go_ret;obtain⟨q1,q2,q3,q4,q5⟩:=G.out;have m:d'.size=is.length:=by rw[z.1];simp
  have p:d'.toList.Perm is:=by
   have:=z.2.2
   rwa [Yem Om,Yem (by simp)]at this
  refine⟨d'.toList,rfl,hid ⟨p,?_,?_,?_⟩⟩
  ·rw[List.pairwise_iff_getElem];intro i j A k B;rw[Ybl]at A k;have:=H i j (Yag _) B Om;unfold ltOf at this;rw[ZhW,getElem!_pos _ i A,getElem!_pos _ j k]at this;simpa using this
  ·change (Sort.grow (Sort.putRow id (Sort.ahead w n) g 0 (Sort.flatK Itm.enc 3 d')) os).ownsRow _ _ _ _ _ _;have C:d'.toList.length=is.length:=by rw[Ybl,m]
   rw[C];refine⟨by rw[Zlp,C],.inr ⟨g,cp,Sort.putCells _ 0 _ _,rfl,q1,ZwX q2,q3,q4,by simp[Sort.putCells,q5],?_⟩⟩;have:=ZDa cur (Sort.flatK Itm.enc 3 _) (by rw[Sort.size_flatK,m];omega);rw[Sort.size_flatK,Zpl,m]at this;exact this
  ·exact ZwL
theorem Znc(c:w.ownsRow base 286 3 v is.length (encs is))(h:base<=w.heap.size)(f:is.length<=1000)(j:∀i∈is,ItmOk w i)(hd:DstE (is.map Itm.el)) :
  CP 208 #[v] w fun e u=>e=.returned v/\∃is',Hid (VecV u v ((is.map Itm.el).foldl Zcd []) is'/\Below base w u):=by
 refine(ZCv v w c f).mono ?_;rintro e u ⟨is',rfl,H⟩;obtain⟨g,n,o,k⟩:=H.out;have l:=Z5.grown k c;have d:=fun i p=>(j i (g.mem_iff.1 p)).kb l Dc;refine⟨rfl,is',hid ⟨⟨o.mono (Yag _),?_,d,by rwa [g.length_eq]⟩,?_⟩⟩
 ·refine ZCA hd (g.map _) ?_;rw[Ybx];refine Ycx ?_ n;intro a b r s m;have ea:=(d a r).lb.txt;have eb:=(d b s).lb.txt;show Op.bytesLess (wrt b.labs) (wrt a.labs)=false;unfold Itm.labs;rw[<-ea,<-eb];exact m
 ·exact(Yaf _ w).grown k h (fun q t=>(c.lt q t).1)
theorem RngV.kb{t:TypeId}{w':World}(h:RngV w v rs)(a:Z5 t w w')(c:356≠t)(d:378≠t)(e:358≠t):RngV w' v rs:=⟨a.own h.row c,fun s f=>(h.ok s f).kb a d e⟩
def Str.itm(s:Str)(v:Int):Itm:=⟨s.a,s.n,s.c,s.tx,s.qs,v⟩
theorem Zp1(h:StrOk w s){v:Int}(a:vOk v):ItmOk w (s.itm v):=⟨h.lb,a⟩
theorem Zmy(op:Option Nat){l:List (Int×Int)}(c:∀x∈l,smOk x):vOk (oneV op l):=by
 cases op with
 | some o=>exact ZhY
 | none=>
  unfold oneV vOk;simp only;cases l with
  | nil=>decide
  | cons a l=>
   rw[Yel,<-Ye6 (by simp)];exact(c _ (List.getLast_mem _)).2.2
def itms(op:Option Nat)(rs:List Str):List Itm:=rs.map fun s=>s.itm (oneV op s.jn)
theorem Zp2(op:Option Nat){st:List Ser}(n t:Int)(h:rs.map Str.pr=ZbH st nd n t):(itms op rs).map Itm.el=ZeZ st nd op n t:=by
 rw[ZAI,<-h];unfold itms;rw[Yb1,Yb1];rfl
theorem ZBN(h:s.jn≠[]):∃a:s.jn.length - 1<s.jn.length,oneV none s.jn=(s.jn[s.jn.length - 1]).2:=by
 have c:=Ycj.2 h;refine⟨by omega,?_⟩;unfold oneV;simp only;rw[<-List.getLast_eq_getElem h];rw[Yey,List.getLast?_eq_some_getLast h];rfl
theorem ZrF{ss:List Srs}{nm:BA}{ln lc:Nat}(t:Int)(w:World)(m:StoP w sv ss)(G:Dst (ss.map Srs.ser))(H:bl nm=nd.name)(U:ZX w (.slice la ln lc) nd.ku)(V : -1000000<=t)(X:t<=1000000) :
  CP 161 #[sv,.agg #[.string nm,.slice la ln lc],Vi t] w fun e Y=>∃v is,e=.returned v/\Hid (VecV Y v (Zc4 (ss.map Srs.ser) nd none 10 t) is)/\BW w Y:=by
 obtain⟨i0,C,Z,a0,a1⟩:=info_parts Tryz.infoItem;obtain⟨sa,scp,rfl⟩:=Zl m.row;have I:=hid (fun W hW=>ZmR 10 t W (m.below hW) H (U.below hW) Dc Dc V X);have a2:=hid G;have J:=hid m.len;clear m H U G;go_enter func161,ntmps161
 go_wp2_with fail
 refine(I _ belB).mono ?_;rintro e w1 ⟨rv,rs,rfl,D,K⟩;have L:Hid (BW w _):=hid (Below.trans belB (K.mono (by simp)));obtain⟨ra,rcp,rfl⟩:=Zl D.1.row
 have b3:rs.length<=30:=by
  have R:=congrArg List.length D.2;rw[Yak]at R;have h2:=ZmZ (ss.map Srs.ser) nd 10 t;rw[Yak]at h2;have:=J.out;omega
 clear K I J;have b4:=L.size;go_wp2
 go_loopw [7, 16] (fun v i wr => ∃ k : Nat, k <= rs.length /\ i = Vi k /\ wr.ownsRow w.heap.size 286 3 v k (encs (itms none (rs.take k))) /\ Hid (RngV wr (.slice ra rs.length rcp) rs) /\ Hid (BW w wr))
   (fun _ i _=>rs.length - (intOf i).toNat)
 case atStart=>exact⟨0,Yag _,rfl,Ybc _ _ _ _,hid D.1,L⟩
 case round=>
  obtain⟨k,hk,rfl,d,f,S⟩:=hrel;have a3:=S.size;by_cases p:k<rs.length
  ·have hg:∃g,ra=some ⟨g,0,none⟩:=by
    obtain⟨g,cp',h⟩:=ZF f.row Om;injection h with R;exact⟨g,R⟩
   obtain⟨g,rfl⟩:=hg;obtain⟨f1,f2,f3⟩:=ZoV _ k p;have d1:=Zi f.row _ _ f1;have d2:=Zi f.row _ _ f2;have d3:=Zi f.row _ _ f3;have l:=hid (f.ok _ (List.getElem_mem p))
   have a4:Hid (itms none (rs.take (k+1))=itms none (rs.take k)++[(rs[k]).itm (oneV none (rs[k]).jn)]):=by
    rw[List.take_succ_eq_append_getElem p];unfold itms;rw[Yaq];rfl
   generalize rs[k]=s at *
   clear f1 f2 f3;have b5:(k:Int)<(rs.length):=by omega
   obtain⟨hj,r⟩:=ZBN l.ne;obtain⟨sg,soff,a5,x⟩:=l.sam.resolve_left l.ne;obtain⟨m1,m2⟩:=x.cells _ hj;have a6:=l.len;have b6:=hid (Zmy none l.ok);have z:=hid r;clear r x;rw[a5]at d3;obtain⟨sm,M⟩:∃sm,s.jn.length=sm+1:=⟨s.jn.length - 1,by omega⟩
   have a7:((s.jn.length:Int) - 1)=(sm):=by omega
   rw[M]at d3 a6;have e1:s.jn.length - 1=sm:=by omega
   have m1':wr.cell? ⟨sg,soff+sm*2,none⟩=some (Vi (s.jn[s.jn.length - 1]).1):=by rwa [<-e1]
   have m2':wr.cell? ⟨sg,soff+sm*2+1,none⟩=some (Vi (oneV none s.jn)):=z.out▸e1▸m2;clear m1 m2 a7 M e1 z;generalize(s.jn[s.jn.length - 1]).1=tmx at *
   generalize oneV none s.jn=one at *
   have b2:((sm:Int)+1 - 1)=(sm):=by omega
   have A:sg<wr.heap.size:=Yai _ _ m1';have n1:∀o,(wr.alloc o).cell? ⟨sg,soff+sm*2,none⟩=some _:=fun o=>by rwa [Ybm _ _ _ A]
   have n2:∀o,(wr.alloc o).cell? ⟨sg,soff+sm*2+1,none⟩=some _:=fun o=>by rwa [Ybm _ _ _ A]
   go_wp2_with (at_builtin;refine wpList_append_own _ rfl (.tmp 28) (.tmp 34) 283 rfl w.heap.size 286 i0 (.agg #[S0,.string ByteArray.empty,Vi 0]) 3 48 underlying283 C Z a0 a1 rfl Dc _ _ _ rfl (((d.alloc _).alloc _).alloc _) ⟨wr.heap.size+2,0,none⟩ 1 1 [.slice s.a s.n s.c,.string s.tx,Vi one] rfl rfl ?c1 ?c2 ?c3 ?c4 ?c5 ?_)
   case c1=>exact ZcY (by simp)
   case c2=>intro u hu;simp at hu;rcases hu with rfl|rfl|rfl <;> rfl
   case c3=>unfold maxLen;omega
   case c4=>omega
   case c5=>simp;omega
   intro v' w3 E j _;have N:=(((S.alloc Om _).alloc (by simp;omega) _).alloc (by simp;omega) _).grown j (by simp;omega) (fun q hq=>(d.lt q hq).1);have O:∀o o' o'',Z5 286 _ (((wr.alloc o).alloc o').alloc o''):=fun o o' o''=>Z5.below ((Zbal.alloc (by simp) _).alloc (by simp;omega) _) _;have B:=(O _ _ _).trans (Z5.grown j (((d.alloc _).alloc _).alloc _));have F:w3.ownsRow w.heap.size 286 3 v' (k+1) (encs (itms none (rs.take (k+1)))):=by rwa [a4.out,Zh1]
   have a8:=hid (f.kb B Dc Dc Dc);clear d j E O B d1 d2 d3 m1' m2';have a9:=hid N;clear N;go_wp2
   go_roundw
   case rel=>exact⟨k+1,by omega,by go_num,F,a8,a9⟩
   case measure=>simp[intOf];omega
  ·obtain rfl:k=rs.length:=by omega
   rw[Ya4]at d;have P:=hid (Zp2 none _ t D.2);have T:(itms none rs).length=rs.length:=by unfold itms;rw[Yak]
   rw[<-T]at d
   have Q := hid (Znc d a3 Om (fun i C => by
     unfold itms at C;obtain⟨s,hs,rfl⟩:=Ybe.1 C;exact Zp1 (f.ok s hs) (Zmy _ (f.ok s hs).ok)) (P.out▸ZmN a2.out nd none 10 t))
   rw[P]at Q;clear d
   go_wp2_with fail
   refine Q.mono ?_;rintro e w5 ⟨rfl,is',H5⟩;have b0:=hid (S.trans H5.2);have b1:Hid (VecV _ _ (Zc4 _ _ _ _ t) _):=hid (by rw[Zny];exact H5.1);go_wp2;go_ret;exact⟨_,is',rfl,b1,b0⟩
theorem ZDw  {x:Int} (a : l.length <= 10000) (c : ∀ y ∈ l, vOk y) (d : vOk x) {t0 t1 t2 t3 t4 t5:Int} (f : talC l = [Vi t0, Vi t1, Vi t2, Vi t3, Vi t4, Vi t5])  : CP 206 #[.agg #[Vi t0, Vi t1, Vi t2, Vi t3, Vi t4, Vi t5], Vi x] w fun e u => ∃ r0 r1 r2 r3 r4 r5 : Int, e = .returned (.agg #[Vi r0, Vi r1, Vi r2, Vi r3, Vi r4, Vi r5]) /\ Hid (talC (l ++ [x]) = [Vi r0, Vi r1, Vi r2, Vi r3, Vi r4, Vi r5]) /\ BW w u := by
  have h:=ZsT l x a c d w;unfold talV at h;rw[f]at h;refine h.mono ?_;rintro e u ⟨rfl,g⟩;exact⟨_,_,_,_,_,_,rfl,hid rfl,g⟩
theorem ZsR {op:Nat} (a : op <= 4)  (c : l.length <= 10000) (d : ∀ y ∈ l, vOk y) {t0 t1 t2 t3 t4 t5:Int} (f : talC l = [Vi t0, Vi t1, Vi t2, Vi t3, Vi t4, Vi t5])  : CP 207 #[.agg #[Vi t0, Vi t1, Vi t2, Vi t3, Vi t4, Vi t5], Vi op] w fun e u => e = .returned (Vi (cutV (ZfI op l))) /\ BW w u := by
  have h:=ZDl a l c d w;unfold talV at h;rw[f]at h;exact h
def set6(w:World)(a:Nat)(x0 x1 x2 x3 x4 x5:Value):World:=(((((w.setCell ⟨a,0,none⟩ x0).setCell ⟨a,1,none⟩ x1).setCell ⟨a,2,none⟩ x2).setCell ⟨a,3,none⟩ x3).setCell ⟨a,4,none⟩ x4).setCell ⟨a,5,none⟩ x5
theorem ZB2{p0 p1 p2 p3 p4 p5:Value}{t:TypeId}(h:BAt w a [p0,p1,p2,p3,p4,p5] t):BAt (set6 w a x0 x1 x2 x3 x4 x5) a [x0,x1,x2,x3,x4,x5] t:=by
 unfold BAt at h;unfold BAt set6;simp only[World.setCell,Ybn,h,if_true,Ybf];rfl
theorem ZB3{B:Nat}(c:B<=a):Below B w (set6 w a x0 x1 x2 x3 x4 x5):=by
 unfold set6;exact((((((Yaf B w).setCell c _).setCell c _).setCell c _).setCell c _).setCell c _).setCell c _
theorem ZB4{b:Nat}{c:List Value}{t:TypeId}(h:BAt w b c t)(d:b≠a):BAt (set6 w a x0 x1 x2 x3 x4 x5) b c t:=by
 unfold set6;exact(((((h.other d _).other d _).other d _).other d _).other d _).other d _
theorem ZiD(l:List Int):∃t0 t1 t2 t3 t4 t5:Int,talC l=[Vi t0,Vi t1,Vi t2,Vi t3,Vi t4,Vi t5]:=⟨_,_,_,_,_,_,rfl⟩
theorem ZrE(op:Nat)(d0:op<=4)(rv:Value)(rs:List Str)(st:List Ser)(nd:Nd)(n t:Int)(hr:RngV w rv rs)(hm:rs.map Str.pr=ZbH st nd n t)(a5:Dst st)(e6:rs.length<=30) :
  CP 159 #[Vi op,rv] w fun e f=>∃v is,e=.returned v/\Hid (VecV f v (Zc4 st nd (some op) n t) is)/\BW w f:=by
 obtain⟨i0,U,a6,a7,a8⟩:=info_parts Tryz.infoItem;obtain⟨ra,rcp,rfl⟩:=Zl hr.row;have HR:=hid hr;have HM:Hid (rs.map _=ZbH _ _ n t/\Dst _):=⟨hm,a5⟩
 clear hr hm a5;go_enter func159,ntmps159
 go_wp2_with (at_make;refine wpList_make_own _ rfl _ _ 283 rfl w.heap.size 286 i0 _ 3 underlying283 U a6 a7 _ _ _ rs.length rfl rfl rfl ?b2 ?b3 ?b4 ?_)
 case b2=>rw[a8];omega
 case b3=>unfold maxLen;omega
 case b4=>exact Yac _
 intro w1 a2 I;have a9:=hid ((Yaf _ _).grown I (Yac _) (fun q hq=>by cases hq));have d4:=hid (HR.below a9);clear I;go_wp2
 go_loopw [5, 16] (fun v i wr => ∃ k : Nat, k <= rs.length /\ i = Vi k /\ wr.ownsRow w.heap.size 286 3 v k (encs (itms (some op) (rs.take k))) /\ Hid (RngV wr (.slice ra rs.length rcp) rs) /\ Hid (BW w wr))
   (fun _ i _=>rs.length - (intOf i).toNat)
 case atStart=>exact⟨0,Yag _,rfl,a2,d4,a9⟩
 case round=>
  rename World=>wo
  obtain⟨k,hk,rfl,A,x,HB⟩:=hrel;have b0:=HB.size;by_cases V:k<rs.length
  ·have hg:∃g,ra=some ⟨g,0,none⟩:=by
    obtain⟨g,cp',h⟩:=ZF x.row Om;injection h with h1;exact⟨g,h1⟩
   obtain⟨g,rfl⟩:=hg;obtain⟨f1,f2,f3⟩:=ZoV _ k V;have d1:=Zi x.row _ _ f1;have d2:=Zi x.row _ _ f2;have d3:=Zi x.row _ _ f3;have D:=hid (x.ok _ (List.getElem_mem V))
   have d5:Hid (itms (some op) (rs.take (k+1))=itms (some op) (rs.take k)++[(rs[k]).itm (oneV (some op) (rs[k]).jn)]):=by
    rw[List.take_succ_eq_append_getElem V];unfold itms;rw[Yaq];rfl
   generalize rs[k]=s at *
   clear f1 f2 f3;have e7:(k:Int)<(rs.length):=by omega
   obtain⟨sg,soff,b1,J⟩:=D.sam.resolve_left D.ne;have d6:=D.len;rw[b1]at d3
   have e5:sg<wo.heap.size:=by
    have hj:=Ycj.2 D.ne;exact Yai _ _ (J.cells 0 hj).1
   have b5:=hid J;clear J b1;obtain⟨sn,X⟩:∃sn,s.jn.length=sn:=⟨_,rfl⟩
   have Y:=hid X;rw[X]at d3 d6;clear X;go_wp2
   go_loopw [23] (fun i wi => ∃ j : Nat, j <= sn /\ i = Vi j /\ Hid (BW wo wi) /\ Hid (BAt wi wo.heap.size [.slice s.a s.n s.c, .string s.tx, .slice (some ⟨sg, soff, none⟩) sn s.sc] 356) /\ Hid (BAt wi (wo.heap.size + 1) (talC ((s.jn.take j).map (·.2))) 349))
     (fun i _=>sn - (intOf i).toNat)
   case atStart=>
    refine⟨0,Yag _,rfl,hid (Zbal.alloc (by simp) _),hid ?_,hid ?_⟩
    ·exact(Zbal.block _ (by simp)).trans bnw
    ·have:=Go.Deep.blk_alloc_new (wo.alloc (.cells #[.slice s.a s.n s.c,.string s.tx,.slice (some ⟨sg,soff,none⟩) sn s.sc] 356)) (.cells #[Vi 0,Vi 0,Vi 0,Vi 0,Vi 0,Vi 0] 349);rw[Go.Deep.nblk_alloc]at this;exact this
   case round=>
    obtain⟨j,hj,rfl,B,L,m⟩:=hrel;have d7:=B.size;have e8:=L.lt;have e9:=m.lt;by_cases f0:j<sn
    ·have Z:j<s.jn.length:=by rwa [Y.out]
     obtain⟨m1,m2⟩:=b5.cells j Z;have m1':=(Zo.below B).cell m1;have m2':=(Zo.below B).cell m2;have a0:Hid (vOk _):=hid (D.ok _ (List.getElem_mem Z)).2.2;have d8:Hid ((s.jn.take (j+1)).map (·.2)=(s.jn.take j).map (·.2)++[(s.jn[j]).2]):=by rw[List.take_succ_eq_append_getElem Z,Yaq];rfl
     have G : Hid (((s.jn.take j).map (·.2)).length <= 10000 /\ ∀ y ∈ (s.jn.take j).map (·.2), vOk y) := hid ⟨by rw [Yak, Ya7]; omega, fun y hy => by
       obtain⟨z,hz,rfl⟩:=Ybe.1 hy;exact(D.ok z (Ydn hz)).2.2⟩
     generalize(s.jn[j]).1=x1 at *
     generalize(s.jn[j]).2=x2 at *
     clear m1 m2;obtain⟨t0,t1,t2,t3,t4,t5,r⟩:=ZiD ((s.jn.take j).map (·.2));rw[r]at m;have M:=hid r;clear r;have c0:=m.cell 0;have c1:=m.cell 1;have c2:=m.cell 2;have c3:=m.cell 3;have c4:=m.cell 4;have c5:=m.cell 5;simp only[Zget]at c0 c1 c2 c3 c4 c5;have f4:(j:Int)<(sn):=by omega
     go_wp2_with fail
     refine Zm fun W hW=>?_;have N:Below _ _ W:=hW▸Zbal;have b6:=hid (m.below N);have b7:=hid (L.below N);have a1:=hid (B.trans (N.mono d7));clear hW N c0 c1 c2 c3 c4 c5 m L B m1' m2';refine(ZDw G.1 G.2 a0 M).mono ?_;rintro e w5 ⟨r0,r1,r2,r3,r4,r5,rfl,d9,l⟩;have H:=hid (b6.below l);have O:=hid (b7.below l);have p:=hid (a1.trans (l.mono a1.size));clear l b6 b7 a1 M G a0;have z0:=H.frozen;have c0:=H.cell;go_wp2
     go_roundw
     case rel=>
      refine⟨j+1,by omega,by go_num,hid (p.trans (ZB3 Om)),hid (ZB4 O Om),hid ?_⟩;rw[d8,d9];exact ZB2 H
     case measure=>simp[intOf];omega
    ·obtain rfl:j=sn:=by omega
     have P:s.jn.take j=s.jn:=by rw[<-Y,Ya4]
     rw[P]at m;obtain⟨t0,t1,t2,t3,t4,t5,r⟩:=ZiD (s.jn.map (·.2));rw[r]at m;have M:=hid r
     have G : Hid ((s.jn.map (·.2)).length <= 10000 /\ ∀ y ∈ s.jn.map (·.2), vOk y) := hid ⟨by rw [Yak, Y]; omega, fun y hy => by
       obtain⟨z,hz,rfl⟩:=Ybe.1 hy;exact(D.ok z hz).2.2⟩
     have c8:Hid (oneV (some op) s.jn=cutV _):=hid rfl;generalize oneV (some op) s.jn=one at *
     clear r P;have c0:=m.cell;have y0:=L.cell;have Q:=Zn A B;have e0:=hid (x.below B);have b8:=hid (HB.trans (B.mono b0));clear A x HB b5 d1 d2 d3;have e1:=b8.size
     go_upto_region 11 with fail
     have R:Hid (∀f,BAt _ wo.heap.size [.slice s.a s.n s.c,.string s.tx,.slice (some ⟨sg,soff,none⟩) j s.sc] 356->BAt f (wo.heap.size+1) [Vi t0,Vi t1,Vi t2,Vi t3,Vi t4,Vi t5] 349->f.cell? _=some _/\f.cell? _=some _/\f.cell? _=some _/\f.cell? _=some _/\f.cell? _=some _/\f.cell? _=some _/\f.cell? _=some _/\f.cell? _=some _):=hid (fun f h1 h2=>⟨h1.cell 0,h1.cell 1,h2.cell 0,h2.cell 1,h2.cell 2,h2.cell 3,h2.cell 4,h2.cell 5⟩);refine Zbn 9 (fun f=>f.cell? _=some _/\f.cell? _=some _/\f.cell? _=some _/\f.cell? _=some _/\f.cell? _=some _/\f.cell? _=some _/\f.cell? _=some _/\f.cell? _=some _) Kr (R.out _ L.out m.out) (fun d=>?_);clear c0 y0;refine Za 0 d (h:=?_);refine Za 1 d (h:=?_);refine Za 2 d (h:=?_);refine Za 3 d (h:=?_);refine Za 4 d (h:=?_);refine Z4 (i:=5) Kr rfl (fun K E=>?_);go_simp;refine(ZsR d0 G.1 G.2 M).mono ?_;rintro e w5 ⟨rfl,l⟩;have p:Hid (BW wr _):=hid ⟨l.os,l.tape,l.output,l.size,l.block⟩;have H:=hid (m.below p);have O:=hid (L.below p);clear l;rw[<-c8];go_simp;refine E _ _ (R _ O H) (fun d=>?_);clear E K
     try simp only[Act.put,Zset]
     refine Za 6 d (h:=?_);refine Z4 (i:=7) Kr rfl (fun K E=>?_);have S:Hid (∀o,Below _ _ (w5.alloc o)):=hid (fun o=>Zbal);go_simp;refine E _ _ (R _ (O.below (S _)) (H.below (S _))) (fun d=>?_);clear E K
     try simp only[Act.put,Zset]
     refine Z4 (i:=8) Kr rfl (fun K E=>?_);have C:=Zn Q p;have b9:=p.size;refine ZfF rfl _ _ _ rfl _ 286 _ _ 3 _ underlying283 U a6 a7 a8 rfl Dc _ k _ (by simp[Act.eval]) (C.alloc _) ⟨w5.heap.size,0,none⟩ 1 1 [.slice s.a s.n s.c,.string s.tx,Vi one] (by simp[Act.eval]) rfl ?h2 ?h3 ?h4 ?h5 ?h6 ?_
     case h2=>exact ZcY rfl
     case h3=>intro u hu;simp at hu;rcases hu with rfl|rfl|rfl <;> rfl
     case h4=>unfold maxLen;omega
     case h5=>omega
     case h6=>simp;omega
     intro v6 w6 a3 F _;have T:=(Z5.below (p.trans ((S _).mono b9)) _).trans (Z5.grown F (C.alloc _));have e2:=hid ((b8.trans ((p.trans ((S _).mono b9)).mono e1)).grown F (by simp;omega) (fun q hq=>(C.lt q hq).1));have a4:w6.ownsRow w.heap.size 286 3 v6 (k+1) (encs (itms (some op) (rs.take (k+1)))):=by rwa [d5.out,Zh1]
     have e3:=hid (e0.kb T Dc Dc Dc);refine E _ _ (R _ (T _ _ _ _ Dc L) (T _ _ _ _ Dc m)) (fun d=>?_);clear E K
     try simp only[Act.put,Zset]
     refine Zbl Kr Kr rfl Kr (fun K E=>?_);go_simp;refine E _ _ ?_;clear E K F a3 C Q T;go_wp2
     go_roundw
     case rel=>exact⟨k+1,by omega,by go_num,a4,e3,e2⟩
     case measure=>simp[intOf];omega
  ·obtain rfl:k=rs.length:=by omega
   rw[Ya4]at A;have c6:=hid (Zp2 (some op) n t HM.1);have c9:(itms (some op) rs).length=rs.length:=by unfold itms;rw[Yak]
   rw[<-c9]at A
   have c7 := hid (Znc A b0 Om (fun i U => by
     unfold itms at U;obtain⟨s,hs,rfl⟩:=Ybe.1 U;exact Zp1 (x.ok s hs) (Zmy _ (x.ok s hs).ok)) (c6.out▸ZmN HM.2 nd (some op) n t))
   rw[c6]at c7;clear A
   go_wp2_with fail
   refine c7.mono ?_;rintro e w5 ⟨rfl,is',H5⟩;have p:=hid (HB.trans H5.2);have e4:Hid (VecV _ _ (Zc4 _ _ _ n t) _):=hid (by rw[Zny];exact H5.1);go_wp2;go_ret;exact⟨_,is',rfl,e4,p⟩
def chg(f:Int->Int)(l:List Itm):List Itm:=l.map fun i=>{ i with v:=f i.v }
theorem ZuA (f : Int -> Int) (l : List Itm) : (chg f l).map Itm.el = (l.map Itm.el).map fun e => (e.1, f e.2) := by
  unfold chg;rw[Yb1,Yb1];rfl
theorem Zlo(v:Value)(l:List El)(is:List Itm)(g:Nat)(cb:Array Value)(f:Int->Int)(w:World)(S:VecV w v l is)(eg:∀args w,(callFunc g args).run prog w=.ok (.enter g args) w)
  (hf:∀W,BW w W->∀x,vOk x->CP g (#[Vi x]++cb) W fun e p=>e=.returned (Vi (f x))/\BW W p) (Y:∀x,vOk x->vOk (f x)) :
  CP 196 #[v,.func (.func g) #[] cb] w fun e p=>∃v' is',e=.returned v'/\Hid (VecV p v' (l.map fun e=>(e.1,f e.2)) is')/\BW w p:=by
 obtain⟨i0,z,Z,a0,a1⟩:=info_parts Tryz.infoItem;obtain⟨ra,rcp,rfl⟩:=Zl S.row;have T:=hid S;have b9:=S.len;have HF:=hid hf;have a6:=hid Y;clear S hf Y;go_enter func196,ntmps196
 go_wp2_with (at_make;refine wpList_make_own _ rfl _ _ 284 rfl w.heap.size 286 i0 _ 3 underlying284 z Z a0 _ _ _ is.length rfl rfl rfl ?b2 ?b3 ?b4 ?_)
 case b2=>rw[a1];omega
 case b3=>unfold maxLen;omega
 case b4=>exact Yac _
 intro w1 U D;have a2:=hid ((Yaf _ _).grown D (Yac _) (fun q M=>by cases M));clear D;go_wp2
 go_loopw [5, 13] (fun v i wr => ∃ k : Nat, k <= is.length /\ i = Vi k /\ wr.ownsRow w.heap.size 286 3 v k (encs (chg f (is.take k))) /\ Hid (∀ i ∈ is, ItmOk wr i) /\ Hid (BW w wr))
   (fun _ i _=>is.length - (intOf i).toNat)
 case atStart=>exact⟨0,Yag _,rfl,U,hid (fun i z=>(T.ok i z).below a2),a2⟩
 case round=>
  rename World=>wo
  obtain⟨k,hk,rfl,m,E,N⟩:=hrel;have a7:=N.size;by_cases O:k<is.length
  ·have hg:∃g,ra=some ⟨g,0,none⟩:=by
    obtain⟨g,cp',h⟩:=ZF T.row Om;injection h with P;exact⟨g,P⟩
   obtain⟨vg,rfl⟩:=hg;have G:=hid (Zn T.row N);obtain⟨f1,f2,f3⟩:=Zfl _ k O;have d1:=Zi G _ _ f1;have d2:=Zi G _ _ f2;have d3:=Zi G _ _ f3
   have a8:Hid (chg f (is.take (k+1))=chg f (is.take k)++[{ is[k]with v:=f (is[k]).v }]):=by
    rw[List.take_succ_eq_append_getElem O];unfold chg;rw[Yaq];rfl
   have a9:=hid (E _ (List.getElem_mem O)).vok;generalize is[k]=s at *
   clear f1 f2 f3;have c1:(k:Int)<(is.length):=by omega
   go_upto_region 5 with fail
   refine ZP fun wr hW=>?_;have H:Below _ _ _:=hW▸Zbal;have HX:Hid (BAt _ _ [.slice _ _ _,.string _,.int _ _] 286):=hW▸bnw;have A:=hid (N.trans (H.mono a7));have b0:=hid (fun q M=>(m.lt q M).2);have I:=Zn m H;have a5:=hid (fun i z=>(E i z).below H);have b1:=A.size;clear hW H m N E G d1 d2 d3;have J:Hid (∀p,BAt p wo.heap.size [.slice s.a s.n s.c,.string s.tx,Vi s.v] 286->p.cell? _=some _/\p.cell? _=some _/\p.cell? _=some _):=hid (fun p P=>⟨P.cell 0,P.cell 1,P.cell 2⟩);refine Zbn 10 (fun p=>p.cell? _=some _/\p.cell? _=some _/\p.cell? _=some _) Kr (J.out _ HX.out) (fun d=>?_);refine Za 0 d (h:=?_);refine Za 1 d (h:=?_);refine Za 2 d (h:=?_);refine Za 3 d (h:=?_);refine Za 4 d (h:=?_);refine Za 5 d (h:=?_);refine Z4 (i:=6) Kr rfl (fun K B=>?_);have a3:=hid (HF wr.drew (⟨A.os,A.tape,A.output,A.size,A.block⟩) _ a9);go_simp;refine a3.mono ?_;rintro e w5 ⟨rfl,C⟩;have F:Hid (BW wr _):=hid ⟨C.os,C.tape,C.output,C.size,C.block⟩;have Q:=hid (HX.below F);clear C a3;go_simp;refine B _ _ (J _ Q) (fun d=>?_);clear B K
   try simp only[Act.put,Zset]
   refine Za 7 d (h:=?_);refine Z4 (i:=8) Kr rfl (fun K B=>?_);have L:Hid (∀o,Below _ _ (w5.alloc o)):=hid (fun o=>Zbal);go_simp;refine B _ _ (J _ (Q.below (L _))) (fun d=>?_);clear B K
   try simp only[Act.put,Zset]
   refine Z4 (i:=9) Kr rfl (fun K B=>?_);have t:=Zn I F;have a4:=F.size;refine ZfF rfl _ _ _ rfl _ 286 _ _ 3 _ underlying284 z Z a0 a1 rfl Dc _ k _ (by simp[Act.eval]) (t.alloc _) ⟨w5.heap.size,0,none⟩ 1 1 [.slice s.a s.n s.c,.string s.tx,Vi (f s.v)] (by simp[Act.eval]) rfl ?h2 ?h3 ?h4 ?h5 ?h6 ?_
   case h2=>exact ZcY rfl
   case h3=>intro u hu;simp at hu;rcases hu with rfl|rfl|rfl <;> rfl
   case h4=>unfold maxLen;omega
   case h5=>omega
   case h6=>simp;omega
   intro v6 w6 V r hwhere6;have b5:=hid (fun i z=>(a5 i z).kb ((Z5.below (F.trans ((L _).mono a4)) _).trans (Z5.grown r (t.alloc _))) Dc);have b6:=hid ((A.trans ((F.trans ((L _).mono a4)).mono b1)).grown r (by simp;omega) (fun q M=>(t.lt q M).1));have X:w6.ownsRow w.heap.size 286 3 v6 (k+1) (encs (chg f (is.take (k+1)))):=by rwa [a8.out,Zh1]
   have b7:=hid ((Q.below (L _)).grown r (fun e=>by have:=b0 _ e.symm;omega));refine B _ _ (J _ b7) (fun d=>?_);clear B K
   try simp only[Act.put,Zset]
   refine Zbl Kr Kr rfl Kr (fun K B=>?_);go_simp;refine B _ _ ?_;clear B K r V t I hwhere6;go_wp2
   go_roundw
   case rel=>exact⟨k+1,by omega,by go_num,X,b5,b6⟩
   case measure=>simp[intOf];omega
  ·obtain rfl:k=is.length:=by omega
   rw[Ya4]at m;have R:(chg f is).length=is.length:=by unfold chg;rw[Yak]
   rw[<-R]at m
   have b8 : Hid (VecV _ _ (l.map _) _) := hid ⟨m.mono (Yag _), by rw [ZuA, T.els], fun i z => by
     unfold chg at z;obtain⟨j,hj,rfl⟩:=Ybe.1 z;exact⟨(E j hj).lb,a6 _ (E j hj).vok⟩,by rwa [R]⟩
   clear m;go_wp2;go_ret;exact⟨_,_,rfl,b8,N⟩
theorem Zph (x : Itm) (tx : BA) (w : World) : CP 255 #[.agg #[.slice x.a x.n x.c, .string x.tx, Vi x.v], .string tx] w fun e u => e = .returned (Vi (cmpV (bl x.tx) (bl tx))) /\ BW w u := by
  obtain⟨xa,xn,xc,xt,xq,xv⟩:=x;simp only;go_enter func255,ntmps255
  go_wp2_with fail
  refine(ZgR).mono ?_;rintro e g ⟨rfl,o5,d⟩;have f:Hid _:=d▸Zbal.alloc (by simp) _;clear d
  go_wp2_with (go_at_call 237;refine(Zoe).mono ?_;rintro e h ⟨rfl,rfl⟩)
  go_ret;exact⟨rfl,f⟩
theorem ZuH(h:cmpV x y=0):x=y:=by
 unfold cmpV at h;cases a:Op.bytesLess x y with
 | true=>rw[a]at h;simp at h
 | false=>
  cases c:Op.bytesLess y x with
  | true=>rw[a,c]at h;simp at h
  | false=>exact Zdh _ _ a c
theorem ZuG:cmpV x x=0:=by unfold cmpV;rw[ZcL];rfl
def TxS(is:List Itm):Prop:=is.Pairwise fun a b=>Op.bytesLess (bl a.tx) (bl b.tx)=true
theorem TxS.mono  (h : TxS is)  {i j : Nat} (d : i <= j) (e : j < is.length) (a : Op.bytesLess (bl is[j].tx) y = true) : Op.bytesLess (bl (is[i]' Om).tx) y = true := by
  rcases Yav i j with c|c
  · exact Zdv _ _ _ (List.pairwise_iff_getElem.1 h i j _ _ c) a
  · obtain rfl:i=j:=by omega
    exact a
def BsIs(is:List Itm)(y:LB)(k:Nat)(ok:Bool):Prop:=(ok=true/\∃h:k<is.length,bl (is[k]).tx=y)∨(ok=false/\∀i∈is,bl i.tx≠y)
theorem Zn3(f:TxS is){k:Nat}(g:∀j (h:j<is.length),j<k->Op.bytesLess (bl is[j].tx) y=true)(l:∀j (h:j<is.length),k<=j->Op.bytesLess (bl is[j].tx) y=false)(m:∀h:k<is.length,bl (is[k]).tx≠y):∀i∈is,bl i.tx≠y:=by
 intro i n c;obtain⟨j,d,rfl⟩:=List.mem_iff_getElem.1 n;rcases Yav j k with a|a
 ·have:=g j d a;rw[c,ZcL]at this;cases this
 ·rcases Yav k j with e|e
  ·have e1:=List.pairwise_iff_getElem.1 f k j Om d e;rw[c,l k _ (Yac _)]at e1;cases e1
  ·obtain rfl:k=j:=by omega
   exact m _ c
theorem Zuh{tx:BA}(l:w.ownsRow 0 286 3 v is.length (encs is))(O:is.length<=1000)(M:TxS is) :
  CP 254 #[v,.string tx,.func (.func 255) #[] #[]] w fun e u=>∃(k:Nat) (ok:Bool),e=.returned (.tuple #[Vi k,.bool ok])/\Hid (BsIs is (bl tx) k ok)/\BW w u:=by
 obtain⟨ra,rcp,rfl⟩:=Zl l;have z:=hid l;have A:=hid M;clear l M;go_enter func254,ntmps254;go_wp2
 go_loopg [9,10] is.length (fun kx s5 s6 wr=>∃lo a:Nat,s5=Vi lo/\s6=Vi a/\lo<=a/\a<=is.length/\a - lo<=kx/\Hid (BW w wr)/\Hid ((∀j (h:j<is.length),j<lo->Op.bytesLess (bl is[j].tx) (bl tx)=true)/\(∀j (h:j<is.length),a<=j->Op.bytesLess (bl is[j].tx) (bl tx)=false)))
 case atStart=>exact⟨0,is.length,rfl,rfl,Yag _,Yac _,by omega,hid (Yaf _ _),hid ⟨fun j _ h=>absurd h (Ya1 _),fun j h p=>by omega⟩⟩
 case round=>
  obtain⟨lo,a,rfl,rfl,P,N,B,m,I⟩:=hrel;by_cases Q:lo<a
  ·have E:(lo+a) / 2<is.length:=by omega
   have B:∃g,ra=some ⟨g,0,none⟩:=by
    obtain⟨g,cp',h⟩:=ZF z.out Om;injection h with h1;exact⟨g,h1⟩
   obtain⟨g,rfl⟩:=B;have c:=hid (Zn z m);obtain⟨f1,f2,f3⟩:=Zfl _ _ E;have d1:=Zi c _ _ f1;have d2:=Zi c _ _ f2;have d3:=Zi c _ _ f3;have R:(((lo+a) / 2:Nat))=((lo:Int)+(a)) / 2:=by omega
   have S:(((lo:Int)+(a)) / 2).toNat=(lo+a) / 2:=by omega
   have n:=Zph is[(lo+a) / 2] tx wr;have F:Hid (Op.bytesLess _ (bl tx)=true->∀i (h:i<is.length),i<=(lo+a) / 2->Op.bytesLess (bl is[i].tx) _=true):=hid (fun C i h p=>A.mono p E C)
   have G : Hid (Op.bytesLess (bl (is[(lo + a) / 2]).tx) _ = false -> ∀ i (h : i < is.length), (lo + a) / 2 <= i -> Op.bytesLess _ _ = false) := hid (fun C i h p => by
     cases d:Op.bytesLess (bl is[i].tx) (bl tx)with
     | false=>rfl
     | true=>rw[A.mono p h d]at C;cases C)
   have f:=ZhW (bl (is[(lo+a) / 2]).tx) (bl tx);clear f1 f2 f3 c;generalize is[(lo+a) / 2]=x at *
   obtain⟨xa,xn,xc,xt,xq,xv⟩:=x;simp only at n F G f d1 d2 d3;generalize cmpV (bl xt) (bl tx)=cr at *
   cases o:Op.bytesLess (bl xt) (bl tx)with
   | true=>
    rw[o]at f;have K:=hid (F o);clear o;have L:cr<0:=by simpa using f
    clear f
    go_wp2_with (go_at_call 255;refine n.mono ?_;rintro e u ⟨rfl,d⟩)
    go_roundg (a - ((lo+a) / 2+1))
    case measure=>omega
    case rel=>
     exact⟨(lo+a) / 2+1,a,by rw[show((lo)+(a)) / 2+1=(((lo+a) / 2+1:Nat):Int) by omega],rfl,by omega,N,Yac _,hid (m.trans (d.mono m.size)),hid ⟨fun j h p=>K j h Om,I.2⟩⟩
   | false=>
    rw[o]at f;have K:=hid (G o);clear o;have L:¬cr<0:=by simpa using f
    clear f
    go_wp2_with (go_at_call 255;refine n.mono ?_;rintro e u ⟨rfl,d⟩)
    go_roundg ((lo+a) / 2 - lo)
    case measure=>omega
    case rel=>
     exact⟨lo,(lo+a) / 2,rfl,by rw[show((lo)+(a)) / 2=(((lo+a) / 2:Nat):Int) by omega],by omega,by omega,Yac _,hid (m.trans (d.mono m.size)),hid ⟨I.1,K⟩⟩
  ·obtain rfl:a=lo:=by omega
   have d:=m.out;by_cases q:a<is.length
   ·have B:∃g,ra=some ⟨g,0,none⟩:=by
     obtain⟨g,cp',h⟩:=ZF z.out Om;injection h with h1;exact⟨g,h1⟩
    obtain⟨g,rfl⟩:=B;have c:=hid (Zn z m);obtain⟨f1,f2,f3⟩:=Zfl _ _ q;have d1:=Zi c _ _ f1;have d2:=Zi c _ _ f2;have d3:=Zi c _ _ f3;have n:=Zph is[a] tx wr;have H:Hid (cmpV _ (bl tx)=0->BsIs _ _ _ _):=hid (fun h=>.inl ⟨rfl,q,ZuH h⟩);have J:Hid (cmpV (bl (is[a]).tx) (bl tx)≠0->BsIs _ _ a _):=hid (fun h=>.inr ⟨rfl,Zn3 A I.1 I.2 (fun _ e=>h (e▸ZuG))⟩);generalize is[a]=x at *
    obtain⟨xa,xn,xc,xt,xq,xv⟩:=x;simp only at n H J d1 d2 d3;generalize cmpV (bl xt) (bl tx)=cr at *
    clear f1 f2 f3 c;by_cases D:cr=0
    ·have r:=hid (H D);subst D
     go_wp2_with (go_at_call 255;refine n.mono ?_;rintro e u ⟨rfl,s⟩)
     have t:=d.trans (s.mono d.size);go_ret2;exact⟨a,true,rfl,r,t⟩
    ·have r:=hid (J D);have T:(cr == 0)=false:=by simpa using D
     go_wp2_with (go_at_call 255;refine n.mono ?_;rintro e u ⟨rfl,s⟩)
     have t:=d.trans (s.mono d.size);go_ret2;exact⟨a,false,rfl,r,t⟩
   ·have r:Hid (BsIs _ _ a _):=hid (.inr ⟨rfl,Zn3 A I.1 I.2 (fun h=>absurd h q)⟩);go_wp2;go_ret2;exact⟨a,false,rfl,r,d⟩
