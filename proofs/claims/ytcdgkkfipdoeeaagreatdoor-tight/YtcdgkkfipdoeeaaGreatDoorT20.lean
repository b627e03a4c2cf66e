/- Parts. -/
import Derived.Test.YtcdgkkfipdoeeaaGreatDoorT18
import Derived.Test.YtcdgkkfipdoeeaaGreatDoorT16
set_option linter.all false
set_option maxRecDepth 100000
set_option maxHeartbeats 16000000
namespace Go.Proofs.YtcdgkkfipdoeeaaGreatDoor
open Go.RowKit LS Go.Proofs.Tryz
variable {os:Array Obj}{F:Array Value}{tx:BA}{x:Int}{y:LB}{l:List Int}{is ys:List Itm}{rs:List Str}{a b1 b2 base k n op:Nat}{la p:Option Addr}{s:Str}{fv sv v x0 x1 x2 x3 x4 x5:Value}{w:World}
def GrB(W w':World):Prop:=∃q os,w'=Sort.grow (W.drewN q) os
theorem GrB.trans{a b c:World}(h:GrB a b)(k:GrB b c):GrB a c:=by
 obtain⟨q1,o1,rfl⟩:=h;obtain⟨q2,o2,rfl⟩:=k;exact⟨q1+q2,o1++o2,by simp[Sort.grow,World.drewN,Nat.add_assoc]⟩
theorem GrB.alloc(W:World)(o:Obj):GrB W (W.alloc o):=⟨0,#[o],by rw[Sort.alloc_eq_grow];rfl⟩
theorem GrB.drew(W:World):GrB W W.drew:=⟨1,#[],by rw[Sort.grow_empty];rfl⟩
theorem ZCu (x y : Itm)  : Cz 236 #[.agg #[.slice x.a x.n x.c, .string x.tx, Vi x.v], .agg #[.slice y.a y.n y.c, .string y.tx, Vi y.v]] w fun e u => e = .returned (Vi (cmpV (bl x.tx) (bl y.tx))) /\ GrB w u := by
  obtain⟨xa,xn,xc,xt,xq,xv⟩:=x;obtain⟨ya,yn,yc,yt,yq,yv⟩:=y;simp only;go_enter func236,ntmps236
  go_upto_region 1 with fail
  refine ZP fun W d=>?_;have h:Hid (GrB w W):=d▸(GrB.alloc _ _).trans (GrB.alloc _ _);have f:Hid (BAt W _ _ 286):=d▸(Zbal.block _ (by simp)).trans bnw;have g:Hid (BAt W (w.heap.size+1) [.slice ya yn yc,.string yt,Vi yv] 286):=by rw[d];have:=Go.Deep.blk_alloc_new (w.alloc (.cells #[.slice xa xn xc,.string xt,Vi xv] 286)) (.cells #[.slice ya yn yc,.string yt,Vi yv] 286);rw[Go.Deep.nblk_alloc]at this;exact this
  clear d;have x0:=f.cell 0;have x1:=f.cell 1;have y0:=g.cell 0;have y1:=g.cell 1;simp only[Zget]at x0 x1 y0 y1
  go_region_held3 (fun u => u.cell? ⟨w.heap.size, 0, none⟩ = some (.slice xa xn xc) /\ u.cell? ⟨w.heap.size, 1, none⟩ = some (.string xt) /\ u.cell? ⟨w.heap.size + 1, 0, none⟩ = some (.slice ya yn yc) /\ u.cell? ⟨w.heap.size + 1, 1, none⟩ = some (.string yt)) (first | exact ⟨x0, x1, y0, y1⟩ | go_keep) (first
    | (go_at_call 151
       refine(ZgR).mono ?_;rintro e k ⟨rfl,o5,i⟩)
    | (go_at_call 237
       refine(Zoe).mono ?_;rintro e l ⟨rfl,j⟩))
  all_goals
    go_wp2;go_ret;exact⟨rfl,h.trans (((GrB.alloc _ _).trans (GrB.alloc _ _)).trans (GrB.drew _))⟩
theorem ZhW(x y:LB):decide (cmpV x y<0)=Op.bytesLess x y:=by
 unfold cmpV;cases h:Op.bytesLess x y
 ·cases a:Op.bytesLess y x <;> simp
 ·simp
theorem ZCw : Sort.SWO (ltOf fun x y : Itm => cmpV (bl x.tx) (bl y.tx)) where
  irrefl x:=by unfold ltOf;rw[ZhW];exact ZcL _
  trans x y z h1 h2:=by unfold ltOf at *;rw[ZhW]at *;exact Zdv _ _ _ h1 h2
  ntrans x y z h1 h2:=by
    unfold ltOf at *
    rw[ZhW]at *
    cases h:Op.bytesLess (bl x.tx) (bl z.tx)with
    | false=>rfl
    | true=>
      cases a:Op.bytesLess (bl z.tx) (bl y.tx)with
      | true=>rw[Zdv _ _ _ h a]at h1;cases h1
      | false=>
        have e:=Zdh _ _ h2 a;rw[e,h]at h1;cases h1
theorem Zpl [Inhabited Itm] (d:Array Itm):(Sort.flatK Itm.enc 3 d).toList=encs d.toList:=by
 refine Ycs (fun t=>?_);by_cases c:t<d.size*3
 ·have f:t / 3<d.toList.length:=by rw[Ybl];omega
  have a:t / 3<d.size:=by omega
  obtain⟨g0,g1,g2⟩:=Zfl _ _ f
  have e:(Sort.flatK Itm.enc 3 d).toList[t]?=some (Itm.enc d[t / 3]!)[t % 3]!:=by
   rw[Yb2,<-Sort.get_flatK _ _ _ t c];rw[getElem!_pos _ t (by rwa [Sort.size_flatK]),Array.getElem?_eq_getElem _]
  rw[e,getElem!_pos d _ a];rw[Array.getElem_toList]at g0 g1 g2;rcases(by omega:t % 3=0∨t % 3=1∨t % 3=2)with h|h|h
  ·rw[show t / 3*3=t by omega]at g0;rw[h,g0];rfl
  ·rw[show t / 3*3+1=t by omega]at g1;rw[h,g1];rfl
  ·rw[show t / 3*3+2=t by omega]at g2;rw[h,g2];rfl
 ·rw[Ya9 (by rw[Ybl,Sort.size_flatK];omega),Ya9 (by rw[Zlp,Ybl];omega)]
theorem ZDa(cur F:Array Value)(h:F.size<=cur.size):(Sort.putCells id 0 F cur).toList.take F.size=F.toList:=by
 apply Ycs;intro j;by_cases a:j<F.size
 ·rw[Ye7 a,Yb2];simp[Sort.putCells,a,show j<cur.size by omega]
 ·rw[List.getElem?_take_eq_none Om,Ya9 (by simp;omega)]
theorem ZwX{g:Nat}{cur:Array Value}{e:TypeId}{fr:Nat×Nat}(a:w.heap[g]?=some (.cells cur e fr)) :
  (Sort.grow (Sort.putRow id (Sort.ahead w n) g 0 F) os).heap[g]?=some (.cells (Sort.putCells id 0 F cur) e fr):=by
 have c:=(Yae.1 a).1;rw[Sort.heap_grow_old _ _ (by simpa using c)];simp[Sort.putRow,Sort.mapBlock,Sort.ahead,Ybn,a,Sort.onCells]
theorem ZwL{g:Nat}:w.grownBy (Sort.grow (Sort.putRow id (Sort.ahead w n) g 0 F) os) (some g):=by
 refine⟨rfl,rfl,rfl,by simp,fun k c a=>?_⟩;rw[Sort.heap_grow_old _ _ (by simpa using c)];have:g≠k:=fun e=>a (by rw[e]);simp[Sort.putRow,Sort.mapBlock,Sort.ahead,Ybn,this]
theorem Zxe (p : Option Addr) (cap : Nat) (fv : Value) (w : World) : Cz 281 #[.slice p 0 cap, Vi 0, Vi 0, fv] w fun e u => e = .returned (.tuple #[]) /\ u = w := by
  go_enter func281,ntmps281;go_wp2;refine wp_loop_rounds 1 ?_;rw[rounds_succ];go_wp2
  go_end0
  exact⟨rfl,rfl⟩
theorem ZAy (p : Option Addr) (cap : Nat) (lim : Int) (fv : Value) (w : World) : Cz 267 #[.slice p 0 cap, Vi 0, Vi 0, Vi lim, fv] w fun e u => e = .returned (.tuple #[]) /\ u = w := by
  have a:=fun W=>Zxe p cap fv W;go_enter func267,ntmps267;go_wp2;refine wp_loop_rounds 1 ?_;rw[rounds_succ]
  go_wp2_with (go_at_call 281;refine(a _).mono ?_;rintro e u ⟨rfl,rfl⟩)
  (try simp only[Exit.inBlock,Exit.then]);refine bodyPost_ret (results_none rfl _ _ _) rfl ?_
  exact⟨rfl,rfl⟩
theorem ZCB  {cap:Nat}   : Cz 235 #[.slice p 0 cap, fv] w fun e u => e = .returned (.tuple #[]) /\ u = w := by
  have a:=fun lim W=>ZAy p cap lim fv W;have c:∀W,Calls _ _ _ W fun e u=>e=.returned (.int _ (Lib.bitLen 0))/\u=W:=fun W=>bits_Len 0 W Om Om;go_enter func235,ntmps235
  go_wp2_with (first|(go_at_call 233;refine(c _).mono ?_;rintro e u ⟨rfl,rfl⟩)|(go_at_call 267;refine(a _ _).mono ?_;rintro e u ⟨rfl,rfl⟩))
  go_end0
  exact⟨rfl,rfl⟩
theorem ZCv(v:Value)(w:World)(c:w.ownsRow base 286 3 v is.length (encs is))(D:is.length<=1000) :
  Cz 208 #[v] w fun e u=>∃is',e=.returned v/\Hid (is'.Perm is/\(is'.Pairwise fun a b=>Op.bytesLess (bl b.tx) (bl a.tx)=false)/\u.ownsRow base 286 3 v is'.length (encs is')/\w.grownBy u v.ownBlock):=by
 haveI:Inhabited Itm:=⟨⟨none,0,0,⟨#[]⟩,[],0⟩⟩
 by_cases r:is.length=0
 ·obtain rfl:=Ya3 r;obtain⟨av,cp,rfl⟩:=Zl c;have E:=hid c;clear c r;go_enter func208,ntmps208
  go_wp2_with (go_at_call 235;refine(ZCB).mono ?_;rintro e u ⟨rfl,rfl⟩)
  go_ret;exact⟨[],rfl,hid ⟨List.Perm.refl _,List.Pairwise.nil,E,⟨rfl,rfl,rfl,Yac _,fun _ _ _=>rfl⟩⟩⟩
 ·obtain⟨g,cp,rfl⟩:=ZF c Om;rcases c.2 with ⟨h,_⟩|⟨g',cap,cur,h,f,o,r1,r2,r3,r4⟩
  ·cases h
  injection h with e1 e2 e3;injection e1 with e1;injection e1 with e1;subst e1 e3;have s:=(Yae.1 o).1
  have t:Sort.HoldsK Itm.enc 3 w g 0 is.toArray:=by
   intro j k;rw[Sort.size_flatK]at k;have q:j<(encs is).length:=by rw[Zlp];simpa using k
   refine⟨?_,by simp[World.frozen?,o]⟩;have e:=Zi c j (List.getElem?_eq_getElem q);rw[Ycf,e];have e2:(Sort.flatK Itm.enc 3 is.toArray).toList[j]?=(encs is)[j]?:=by rw[Zpl]
   rw[List.getElem?_eq_getElem q,Yb2,Array.getElem?_eq_getElem (by rwa [Sort.size_flatK])]at e2;rw[getElem!_pos _ j (by rwa [Sort.size_flatK]),Yax e2];rfl
  have eg:∀args w,(callFunc 236 _).run _ w=.ok _ w:=enters_of func236 Kr rfl;have l:CmpLays _ 236 #[] Itm.enc 3 _ g 0 is.toArray.size w:=fun _ _ _ _ x y=>ZCu x y;have d:=AnyQ.slices_SortFunc sortItem 3 isAgg286 sizeOf286 _ (fun _=>rfl) (fun x v h=>by simp[Itm.enc]at h;rcases h with rfl|rfl|rfl <;> rfl) _ ZCw 236 _ g 0 cp _ w eg l t s (by simp;omega);change Cz 235 _ _ _ at d;rw[Yb5]at d;have F:=hid d;have G:Hid (base<=g/\w.heap[g]?=some _/\is.length<=cp/\cp<=maxLen/\cur.size=cp*3):=hid ⟨f,o,r1,r2,r3⟩;clear d l eg t c o f r1 r2 r3 r4;go_enter func208,ntmps208
  go_wp2_with (go_at_call 235;refine F.mono ?_;rintro e u ⟨rfl,d',n,os,z,H,rfl⟩)
  go_ret;obtain⟨q1,q2,q3,q4,q5⟩:=G.out;have m:d'.size=is.length:=by rw[z.1];simp
  have p:d'.toList.Perm is:=by
   have:=z.2.2
   rwa [Yem Om,Yem (by simp)]at this
  refine⟨d'.toList,rfl,hid ⟨p,?_,?_,?_⟩⟩
  ·rw[List.pairwise_iff_getElem];intro i j A k B;rw[Ybl]at A k;have:=H i j (Yag _) B Om;unfold ltOf at this;rw[ZhW,getElem!_pos _ i A,getElem!_pos _ j k]at this;simpa using this
  ·change (Sort.grow (Sort.putRow id (Sort.ahead w n) g 0 (Sort.flatK Itm.enc 3 d')) os).ownsRow _ _ _ _ _ _;have C:d'.toList.length=is.length:=by rw[Ybl,m]
   rw[C];refine⟨by rw[Zlp,C],.inr ⟨g,cp,Sort.putCells _ 0 _ _,rfl,q1,ZwX q2,q3,q4,by simp[Sort.putCells,q5],?_⟩⟩;have:=ZDa cur (Sort.flatK Itm.enc 3 _) (by rw[Sort.size_flatK,m];omega);rw[Sort.size_flatK,Zpl,m]at this;exact this
  ·exact ZwL
theorem Znc(c:w.ownsRow base 286 3 v is.length (encs is))(h:base<=w.heap.size)(f:is.length<=1000)(j:∀i∈is,ItmOk w i)(hd:DstE (is.map Itm.el)) :
  Cz 208 #[v] w fun e u=>e=.returned v/\∃is',Hid (VecV u v ((is.map Itm.el).foldl Zcd []) is'/\Below base w u):=by
 refine(ZCv v w c f).mono ?_;rintro e u ⟨is',rfl,H⟩;obtain⟨g,n,o,k⟩:=H.out;have l:=Z5.grown k c;have d:=fun i p=>(j i (g.mem_iff.1 p)).kb l Dc;refine⟨rfl,is',hid ⟨⟨o.mono (Yag _),?_,d,by rwa [g.length_eq]⟩,?_⟩⟩
 ·refine ZCA hd (g.map _) ?_;rw[Ybx];refine Ycx ?_ n;intro a b r s m;have ea:=(d a r).lb.txt;have eb:=(d b s).lb.txt;show Op.bytesLess (wrt b.labs) (wrt a.labs)=false;unfold Itm.labs;rw[<-ea,<-eb];exact m
 ·exact(Yaf _ w).grown k h (fun q t=>(c.lt q t).1)
theorem RngV.kb{t:TypeId}{w':World}(h:RngV w v rs)(a:Z5 t w w')(c:356≠t)(d:378≠t)(e:358≠t):RngV w' v rs:=⟨a.own h.row c,fun s f=>(h.ok s f).kb a d e⟩
def Str.itm(s:Str)(v:Int):Itm:=⟨s.a,s.n,s.c,s.tx,s.qs,v⟩
theorem Zp1(h:StrOk w s){v:Int}(a:vOk v):ItmOk w (s.itm v):=⟨h.lb,a⟩
theorem Zmy(op:Option Nat){l:List (Int×Int)}(c:∀x∈l,smOk x):vOk (oneV op l):=by
 cases op with
 | some o=>exact ZhY
 | none=>
  unfold oneV vOk;simp only;cases l with
  | nil=>decide
  | cons a l=>
   rw[Yel,<-Ye6 (by simp)];exact(c _ (List.getLast_mem _)).2.2
def itms(op:Option Nat)(rs:List Str):List Itm:=rs.map fun s=>s.itm (oneV op s.ju)
theorem Zp2(op:Option Nat){st:List Ser}{nd:Nd}(n t:Int)(h:rs.map Str.pr=ZbH st nd n t):(itms op rs).map Itm.el=ZeZ st nd op n t:=by
 rw[ZAI,<-h];unfold itms;rw[Yb1,Yb1];rfl
theorem ZBN(h:s.ju≠[]):∃a:s.ju.length - 1<s.ju.length,oneV none s.ju=(s.ju[s.ju.length - 1]).2:=by
 have c:=Ycj.2 h;refine⟨by omega,?_⟩;unfold oneV;simp only;rw[<-List.getLast_eq_getElem h];rw[Yey,List.getLast?_eq_some_getLast h];rfl
theorem ZrF{ss:List Srs}{nm:BA}{ln lc:Nat}{nd:Nd}{t:Int}(w:World)(m:StoP w sv ss)(G:Dst (ss.map Srs.ser))(H:bl nm=nd.name)(U:ZX w (.slice la ln lc) nd.jn)(V : -1000000<=t)(X:t<=1000000) :
  Cz 161 #[sv,.agg #[.string nm,.slice la ln lc],Vi t] w fun e Y=>∃v is,e=.returned v/\Hid (VecV Y v (Zc4 (ss.map Srs.ser) nd none 10 t) is)/\BW w Y:=by
 obtain⟨i0,C,Z,a0,a1⟩:=info_parts Tryz.infoItem;obtain⟨sa,scp,rfl⟩:=Zl m.row;have I:=hid (fun W hW=>ZmR 10 t W (m.below hW) H (U.below hW) Dc Dc V X);have a2:=hid G;have J:=hid m.len;clear m H U G;go_enter func161,ntmps161
 go_wp2_with fail
 refine(I _ belB).mono ?_;rintro e y ⟨rv,rs,rfl,D,K⟩;have L:Hid (BW w _):=hid (Below.trans belB (K.mono (by simp)));obtain⟨ra,rcp,rfl⟩:=Zl D.1.row
 have b3:rs.length<=30:=by
  have R:=congrArg List.length D.2;rw[Yak]at R;have h2:=ZmZ (ss.map Srs.ser) nd 10 t;rw[Yak]at h2;have:=J.out;omega
 clear K I J;have b4:=L.size;go_wp2
 go_loopw [7, 16] (fun v i wr => ∃ k : Nat, k <= rs.length /\ i = Vi k /\ wr.ownsRow w.heap.size 286 3 v k (encs (itms none (rs.take k))) /\ Hid (RngV wr (.slice ra rs.length rcp) rs) /\ Hid (BW w wr))
   (fun _ i _=>rs.length - (intOf i).toNat)
 case atStart=>exact⟨0,Yag _,rfl,Ybc _ _ _ _,hid D.1,L⟩
 case round=>
  obtain⟨k,hk,rfl,d,f,S⟩:=hrel;have a3:=S.size;by_cases p:k<rs.length
  ·have hg:∃g,ra=some ⟨g,0,none⟩:=by
    obtain⟨g,cp',h⟩:=ZF f.row Om;injection h with R;exact⟨g,R⟩
   obtain⟨g,rfl⟩:=hg;obtain⟨f1,f2,f3⟩:=ZoV _ k p;have d1:=Zi f.row _ f1;have d2:=Zi f.row _ f2;have d3:=Zi f.row _ f3;have l:=hid (f.ok _ (List.getElem_mem p))
   have a4:Hid (itms none (rs.take (k+1))=itms none (rs.take k)++[(rs[k]).itm (oneV none (rs[k]).ju)]):=by
    rw[List.take_succ_eq_append_getElem p];unfold itms;rw[Yaq];rfl
   generalize rs[k]=s at *
   clear f1 f2 f3;have b5:(k:Int)<(rs.length):=by omega
   obtain⟨hj,r⟩:=ZBN l.ne;obtain⟨sg,soff,a5,x⟩:=l.sam.resolve_left l.ne;obtain⟨m1,m2⟩:=x.cells _ hj;have a6:=l.len;have b6:=hid (Zmy none l.ok);have z:=hid r;clear r x;rw[a5]at d3;obtain⟨sm,M⟩:∃sm,s.ju.length=sm+1:=⟨s.ju.length - 1,by omega⟩
   have a7:((s.ju.length:Int) - 1)=(sm):=by omega
   rw[M]at d3 a6;have e1:s.ju.length - 1=sm:=by omega
   have m1':wr.cell? ⟨sg,soff+sm*2,none⟩=some (Vi (s.ju[s.ju.length - 1]).1):=by rwa [<-e1]
   have m2':wr.cell? ⟨sg,soff+sm*2+1,none⟩=some (Vi (oneV none s.ju)):=z.out▸e1▸m2;clear m1 m2 a7 M e1 z;generalize(s.ju[s.ju.length - 1]).1=tmx at *
   generalize oneV none s.ju=one at *
   have b2:((sm:Int)+1 - 1)=(sm):=by omega
   have A:sg<wr.heap.size:=Yai _ _ m1';have n1:∀o,(wr.alloc o).cell? ⟨sg,soff+sm*2,none⟩=some _:=fun o=>by rwa [Ybm _ _ _ A]
   have n2:∀o,(wr.alloc o).cell? ⟨sg,soff+sm*2+1,none⟩=some _:=fun o=>by rwa [Ybm _ _ _ A]
   go_wp2_with (at_builtin;refine wpList_append_own _ rfl (.tmp 28) (.tmp 34) 283 rfl w.heap.size 286 i0 (.agg #[S0,.string ByteArray.empty,Vi 0]) 3 48 underlying283 C Z a0 a1 rfl Dc _ _ _ rfl (((d.alloc _).alloc _).alloc _) ⟨wr.heap.size+2,0,none⟩ 1 1 [.slice s.a s.n s.c,.string s.tx,Vi one] rfl rfl ?c1 ?c2 ?c3 ?c4 ?c5 ?_)
   case c1=>exact ZcY (by simp)
   case c2=>intro u hu;simp at hu;rcases hu with rfl|rfl|rfl <;> rfl
   case c3=>unfold maxLen;omega
   case c4=>omega
   case c5=>simp;omega
   intro v' w3 E j _;have N:=(((S.alloc Om _).alloc (by simp;omega) _).alloc (by simp;omega) _).grown j (by simp;omega) (fun q hq=>(d.lt q hq).1);have O:∀o o' o'',Z5 286 _ (((wr.alloc o).alloc o').alloc o''):=fun o o' o''=>Z5.below ((Zbal.alloc (by simp) _).alloc (by simp;omega) _) _;have B:=(O _ _ _).trans (Z5.grown j (((d.alloc _).alloc _).alloc _));have F:w3.ownsRow w.heap.size 286 3 v' (k+1) (encs (itms none (rs.take (k+1)))):=by rwa [a4.out,Zh1]
   have a8:=hid (f.kb B Dc Dc Dc);clear d j E O B d1 d2 d3 m1' m2';have a9:=hid N;clear N;go_wp2
   go_roundw
   case rel=>exact⟨k+1,by omega,by go_num,F,a8,a9⟩
   case measure=>simp[intOf];omega
  ·obtain rfl:k=rs.length:=by omega
   rw[Ya4]at d;have P:=hid (Zp2 none _ t D.2);have T:(itms none rs).length=rs.length:=by unfold itms;rw[Yak]
   rw[<-T]at d
   have Q := hid (Znc d a3 Om (fun i C => by
     unfold itms at C;obtain⟨s,hs,rfl⟩:=Ybe.1 C;exact Zp1 (f.ok s hs) (Zmy _ (f.ok s hs).ok)) (P.out▸ZmN a2.out nd none 10 t))
   rw[P]at Q;clear d
   go_wp2_with fail
   refine Q.mono ?_;rintro e w5 ⟨rfl,is',H5⟩;have b0:=hid (S.trans H5.2);have b1:Hid (VecV _ _ (Zc4 _ _ _ _ t) _):=hid (by rw[Zny];exact H5.1);go_wp2;go_ret;exact⟨_,is',rfl,b1,b0⟩
theorem ZDw   (a : l.length <= 10000) (c : ∀ y ∈ l, vOk y) (d : vOk x) {t0 t1 t2 t3 t4 t5:Int} (f : talC l = [Vi t0, Vi t1, Vi t2, Vi t3, Vi t4, Vi t5])  : Cz 206 #[.agg #[Vi t0, Vi t1, Vi t2, Vi t3, Vi t4, Vi t5], Vi x] w fun e u => ∃ r0 r1 r2 r3 r4 r5 : Int, e = .returned (.agg #[Vi r0, Vi r1, Vi r2, Vi r3, Vi r4, Vi r5]) /\ Hid (talC (l ++ [x]) = [Vi r0, Vi r1, Vi r2, Vi r3, Vi r4, Vi r5]) /\ BW w u := by
  have h:=ZsT l x a c d w;unfold talV at h;rw[f]at h;refine h.mono ?_;rintro e u ⟨rfl,g⟩;exact⟨_,_,_,_,_,_,rfl,hid rfl,g⟩
theorem ZsR  (a : op <= 4)  (c : l.length <= 10000) (d : ∀ y ∈ l, vOk y) {t0 t1 t2 t3 t4 t5:Int} (f : talC l = [Vi t0, Vi t1, Vi t2, Vi t3, Vi t4, Vi t5])  : Cz 207 #[.agg #[Vi t0, Vi t1, Vi t2, Vi t3, Vi t4, Vi t5], Vi op] w fun e u => e = .returned (Vi (cutV (ZfI op l))) /\ BW w u := by
  have h:=ZDl a l c d w;unfold talV at h;rw[f]at h;exact h
def set6(w:World)(a:Nat)(x0 x1 x2 x3 x4 x5:Value):World:=(((((w.setCell ⟨a,0,none⟩ x0).setCell ⟨a,1,none⟩ x1).setCell ⟨a,2,none⟩ x2).setCell ⟨a,3,none⟩ x3).setCell ⟨a,4,none⟩ x4).setCell ⟨a,5,none⟩ x5
theorem ZB2{p0 p1 p2 p3 p4 p5:Value}{t:TypeId}(h:BAt w a [p0,p1,p2,p3,p4,p5] t):BAt (set6 w a x0 x1 x2 x3 x4 x5) a [x0,x1,x2,x3,x4,x5] t:=by
 unfold BAt at h;unfold BAt set6;simp only[World.setCell,Ybn,h,if_true,Ybf];rfl
theorem ZB3{B:Nat}(c:B<=a):Below B w (set6 w a x0 x1 x2 x3 x4 x5):=by
 unfold set6;exact((((((Yaf B w).setCell c _).setCell c _).setCell c _).setCell c _).setCell c _).setCell c _
theorem ZB4{b:Nat}{c:List Value}{t:TypeId}(h:BAt w b c t)(d:b≠a):BAt (set6 w a x0 x1 x2 x3 x4 x5) b c t:=by
 unfold set6;exact(((((h.other d _).other d _).other d _).other d _).other d _).other d _
theorem ZiD(l:List Int):∃t0 t1 t2 t3 t4 t5:Int,talC l=[Vi t0,Vi t1,Vi t2,Vi t3,Vi t4,Vi t5]:=⟨_,_,_,_,_,_,rfl⟩
theorem ZrE(op:Nat)(d0:op<=4)(rv:Value)(rs:List Str)(st:List Ser)(nd:Nd)(n t:Int)(hr:RngV w rv rs)(hm:rs.map Str.pr=ZbH st nd n t)(a5:Dst st)(e6:rs.length<=30) :
  Cz 159 #[Vi op,rv] w fun e f=>∃v is,e=.returned v/\Hid (VecV f v (Zc4 st nd (some op) n t) is)/\BW w f:=by
 obtain⟨i0,U,a6,a7,a8⟩:=info_parts Tryz.infoItem;obtain⟨ra,rcp,rfl⟩:=Zl hr.row;have HR:=hid hr;have HM:Hid (rs.map _=ZbH _ _ n t/\Dst _):=⟨hm,a5⟩
 clear hr hm a5;go_enter func159,ntmps159
 go_wp2_with (at_make;refine wpList_make_own _ rfl _ _ 283 rfl w.heap.size 286 i0 _ 3 underlying283 U a6 a7 _ _ _ rs.length rfl rfl rfl ?b2 ?b3 ?b4 ?_)
 case b2=>rw[a8];omega
 case b3=>unfold maxLen;omega
 case b4=>exact Yac _
 intro w1 a2 I;have a9:=hid ((Yaf _ _).grown I (Yac _) (fun q hq=>by cases hq));have d4:=hid (HR.below a9);clear I;go_wp2
 go_loopw [5, 16] (fun v i wr => ∃ k : Nat, k <= rs.length /\ i = Vi k /\ wr.ownsRow w.heap.size 286 3 v k (encs (itms (some op) (rs.take k))) /\ Hid (RngV wr (.slice ra rs.length rcp) rs) /\ Hid (BW w wr))
   (fun _ i _=>rs.length - (intOf i).toNat)
 case atStart=>exact⟨0,Yag _,rfl,a2,d4,a9⟩
 case round=>
  rename World=>wo
  obtain⟨k,hk,rfl,A,x,HB⟩:=hrel;have b0:=HB.size;by_cases V:k<rs.length
  ·have hg:∃g,ra=some ⟨g,0,none⟩:=by
    obtain⟨g,cp',h⟩:=ZF x.row Om;injection h with h1;exact⟨g,h1⟩
   obtain⟨g,rfl⟩:=hg;obtain⟨f1,f2,f3⟩:=ZoV _ k V;have d1:=Zi x.row _ f1;have d2:=Zi x.row _ f2;have d3:=Zi x.row _ f3;have D:=hid (x.ok _ (List.getElem_mem V))
   have d5:Hid (itms (some op) (rs.take (k+1))=itms (some op) (rs.take k)++[(rs[k]).itm (oneV (some op) (rs[k]).ju)]):=by
    rw[List.take_succ_eq_append_getElem V];unfold itms;rw[Yaq];rfl
   generalize rs[k]=s at *
   clear f1 f2 f3;have e7:(k:Int)<(rs.length):=by omega
   obtain⟨sg,soff,b1,J⟩:=D.sam.resolve_left D.ne;have d6:=D.len;rw[b1]at d3
   have e5:sg<wo.heap.size:=by
    have hj:=Ycj.2 D.ne;exact Yai _ _ (J.cells 0 hj).1
   have b5:=hid J;clear J b1;obtain⟨sn,X⟩:∃sn,s.ju.length=sn:=⟨_,rfl⟩
   have Y:=hid X;rw[X]at d3 d6;clear X;go_wp2
   go_loopw [23] (fun i wi => ∃ j : Nat, j <= sn /\ i = Vi j /\ Hid (BW wo wi) /\ Hid (BAt wi wo.heap.size [.slice s.a s.n s.c, .string s.tx, .slice (some ⟨sg, soff, none⟩) sn s.sc] 356) /\ Hid (BAt wi (wo.heap.size + 1) (talC ((s.ju.take j).map (·.2))) 349))
     (fun i _=>sn - (intOf i).toNat)
   case atStart=>
    refine⟨0,Yag _,rfl,hid (Zbal.alloc (by simp) _),hid ?_,hid ?_⟩
    ·exact(Zbal.block _ (by simp)).trans bnw
    ·have:=Go.Deep.blk_alloc_new (wo.alloc (.cells #[.slice s.a s.n s.c,.string s.tx,.slice (some ⟨sg,soff,none⟩) sn s.sc] 356)) (.cells #[Vi 0,Vi 0,Vi 0,Vi 0,Vi 0,Vi 0] 349);rw[Go.Deep.nblk_alloc]at this;exact this
   case round=>
    obtain⟨j,hj,rfl,B,L,m⟩:=hrel;have d7:=B.size;have e8:=L.lt;have e9:=m.lt;by_cases f0:j<sn
    ·have Z:j<s.ju.length:=by rwa [Y.out]
     obtain⟨m1,m2⟩:=b5.cells j Z;have m1':=(Zo.below B).cell m1;have m2':=(Zo.below B).cell m2;have a0:Hid (vOk _):=hid (D.ok _ (List.getElem_mem Z)).2.2;have d8:Hid ((s.ju.take (j+1)).map (·.2)=(s.ju.take j).map (·.2)++[(s.ju[j]).2]):=by rw[List.take_succ_eq_append_getElem Z,Yaq];rfl
     have G : Hid (((s.ju.take j).map (·.2)).length <= 10000 /\ ∀ y ∈ (s.ju.take j).map (·.2), vOk y) := hid ⟨by rw [Yak, Ya7]; omega, fun y hy => by
       obtain⟨z,hz,rfl⟩:=Ybe.1 hy;exact(D.ok z (Ydn hz)).2.2⟩
     generalize(s.ju[j]).1=x1 at *
     generalize(s.ju[j]).2=x2 at *
     clear m1 m2;obtain⟨t0,t1,t2,t3,t4,t5,r⟩:=ZiD ((s.ju.take j).map (·.2));rw[r]at m;have M:=hid r;clear r;have c0:=m.cell 0;have c1:=m.cell 1;have c2:=m.cell 2;have c3:=m.cell 3;have c4:=m.cell 4;have c5:=m.cell 5;simp only[Zget]at c0 c1 c2 c3 c4 c5;have f4:(j:Int)<(sn):=by omega
     go_wp2_with fail
     refine Zm fun W hW=>?_;have N:Below _ _ W:=hW▸Zbal;have b6:=hid (m.below N);have b7:=hid (L.below N);have a1:=hid (B.trans (N.mono d7));clear hW N c0 c1 c2 c3 c4 c5 m L B m1' m2';refine(ZDw G.1 G.2 a0 M).mono ?_;rintro e w5 ⟨r0,r1,r2,r3,r4,r5,rfl,d9,l⟩;have H:=hid (b6.below l);have O:=hid (b7.below l);have p:=hid (a1.trans (l.mono a1.size));clear l b6 b7 a1 M G a0;have z0:=H.frozen;have c0:=H.cell;go_wp2
     go_roundw
     case rel=>
      refine⟨j+1,by omega,by go_num,hid (p.trans (ZB3 Om)),hid (ZB4 O Om),hid ?_⟩;rw[d8,d9];exact ZB2 H
     case measure=>simp[intOf];omega
    ·obtain rfl:j=sn:=by omega
     have P:s.ju.take j=s.ju:=by rw[<-Y,Ya4]
     rw[P]at m;obtain⟨t0,t1,t2,t3,t4,t5,r⟩:=ZiD (s.ju.map (·.2));rw[r]at m;have M:=hid r
     have G : Hid ((s.ju.map (·.2)).length <= 10000 /\ ∀ y ∈ s.ju.map (·.2), vOk y) := hid ⟨by rw [Yak, Y]; omega, fun y hy => by
       obtain⟨z,hz,rfl⟩:=Ybe.1 hy;exact(D.ok z hz).2.2⟩
     have c8:Hid (oneV (some op) s.ju=cutV _):=hid rfl;generalize oneV (some op) s.ju=one at *
     clear r P;have c0:=m.cell;have y0:=L.cell;have Q:=Zn A B;have e0:=hid (x.below B);have b8:=hid (HB.trans (B.mono b0));clear A x HB b5 d1 d2 d3;have e1:=b8.size
     go_upto_region 11 with fail
     have R:Hid (∀f,BAt _ wo.heap.size [.slice s.a s.n s.c,.string s.tx,.slice (some ⟨sg,soff,none⟩) j s.sc] 356->BAt f (wo.heap.size+1) [Vi t0,Vi t1,Vi t2,Vi t3,Vi t4,Vi t5] 349->f.cell? _=some _/\f.cell? _=some _/\f.cell? _=some _/\f.cell? _=some _/\f.cell? _=some _/\f.cell? _=some _/\f.cell? _=some _/\f.cell? _=some _):=hid (fun f h1 h2=>⟨h1.cell 0,h1.cell 1,h2.cell 0,h2.cell 1,h2.cell 2,h2.cell 3,h2.cell 4,h2.cell 5⟩);refine Zbn 9 (fun f=>f.cell? _=some _/\f.cell? _=some _/\f.cell? _=some _/\f.cell? _=some _/\f.cell? _=some _/\f.cell? _=some _/\f.cell? _=some _/\f.cell? _=some _) Kr (R.out _ L.out m.out) (fun d=>?_);clear c0 y0;refine Za 0 d (h:=?_);refine Za 1 d (h:=?_);refine Za 2 d (h:=?_);refine Za 3 d (h:=?_);refine Za 4 d (h:=?_);refine Z4 (i:=5) Kr rfl (fun K E=>?_);go_simp;refine(ZsR d0 G.1 G.2 M).mono ?_;rintro e w5 ⟨rfl,l⟩;have p:Hid (BW wr _):=hid ⟨l.os,l.tape,l.output,l.size,l.block⟩;have H:=hid (m.below p);have O:=hid (L.below p);clear l;rw[<-c8];go_simp;refine E _ _ (R _ O H) (fun d=>?_);clear E K
     try simp only[Act.put,Zset]
     refine Za 6 d (h:=?_);refine Z4 (i:=7) Kr rfl (fun K E=>?_);have S:Hid (∀o,Below _ _ (w5.alloc o)):=hid (fun o=>Zbal);go_simp;refine E _ _ (R _ (O.below (S _)) (H.below (S _))) (fun d=>?_);clear E K
     try simp only[Act.put,Zset]
     refine Z4 (i:=8) Kr rfl (fun K E=>?_);have C:=Zn Q p;have b9:=p.size;refine ZfF rfl _ _ _ rfl _ 286 _ _ 3 _ underlying283 U a6 a7 a8 rfl Dc _ k _ (by simp[Act.eval]) (C.alloc _) ⟨w5.heap.size,0,none⟩ 1 1 [.slice s.a s.n s.c,.string s.tx,Vi one] (by simp[Act.eval]) rfl ?h2 ?h3 ?h4 ?h5 ?h6 ?_
     case h2=>exact ZcY rfl
     case h3=>intro u hu;simp at hu;rcases hu with rfl|rfl|rfl <;> rfl
     case h4=>unfold maxLen;omega
     case h5=>omega
     case h6=>simp;omega
     intro v6 w6 a3 F _;have T:=(Z5.below (p.trans ((S _).mono b9)) _).trans (Z5.grown F (C.alloc _));have e2:=hid ((b8.trans ((p.trans ((S _).mono b9)).mono e1)).grown F (by simp;omega) (fun q hq=>(C.lt q hq).1));have a4:w6.ownsRow w.heap.size 286 3 v6 (k+1) (encs (itms (some op) (rs.take (k+1)))):=by rwa [d5.out,Zh1]
     have e3:=hid (e0.kb T Dc Dc Dc);refine E _ _ (R _ (T _ _ _ _ Dc L) (T _ _ _ _ Dc m)) (fun d=>?_);clear E K
     try simp only[Act.put,Zset]
     refine Zbl Kr Kr rfl Kr (fun K E=>?_);go_simp;refine E _ _ ?_;clear E K F a3 C Q T;go_wp2
     go_roundw
     case rel=>exact⟨k+1,by omega,by go_num,a4,e3,e2⟩
     case measure=>simp[intOf];omega
  ·obtain rfl:k=rs.length:=by omega
   rw[Ya4]at A;have c6:=hid (Zp2 (some op) n t HM.1);have c9:(itms (some op) rs).length=rs.length:=by unfold itms;rw[Yak]
   rw[<-c9]at A
   have c7 := hid (Znc A b0 Om (fun i U => by
     unfold itms at U;obtain⟨s,hs,rfl⟩:=Ybe.1 U;exact Zp1 (x.ok s hs) (Zmy _ (x.ok s hs).ok)) (c6.out▸ZmN HM.2 nd (some op) n t))
   rw[c6]at c7;clear A
   go_wp2_with fail
   refine c7.mono ?_;rintro e w5 ⟨rfl,is',H5⟩;have p:=hid (HB.trans H5.2);have e4:Hid (VecV _ _ (Zc4 _ _ _ n t) _):=hid (by rw[Zny];exact H5.1);go_wp2;go_ret;exact⟨_,is',rfl,e4,p⟩
def chg(f:Int->Int)(l:List Itm):List Itm:=l.map fun i=>{ i with v:=f i.v }
theorem ZuA (f : Int -> Int) (l : List Itm) : (chg f l).map Itm.el = (l.map Itm.el).map fun e => (e.1, f e.2) := by
  unfold chg;rw[Yb1,Yb1];rfl
theorem Zlo(v:Value)(l:List El)(is:List Itm)(g:Nat)(cb:Array Value)(f:Int->Int)(w:World)(S:VecV w v l is)(eg:∀args w,(callFunc g args).run prog w=.ok (.enter g args) w)
  (hf:∀W,BW w W->∀x,vOk x->Cz g (#[Vi x]++cb) W fun e p=>e=.returned (Vi (f x))/\BW W p) (Y:∀x,vOk x->vOk (f x)) :
  Cz 196 #[v,.func (.func g) #[] cb] w fun e p=>∃v' is',e=.returned v'/\Hid (VecV p v' (l.map fun e=>(e.1,f e.2)) is')/\BW w p:=by
 obtain⟨i0,z,Z,a0,a1⟩:=info_parts Tryz.infoItem;obtain⟨ra,rcp,rfl⟩:=Zl S.row;have T:=hid S;have b9:=S.len;have HF:=hid hf;have a6:=hid Y;clear S hf Y;go_enter func196,ntmps196
 go_wp2_with (at_make;refine wpList_make_own _ rfl _ _ 284 rfl w.heap.size 286 i0 _ 3 underlying284 z Z a0 _ _ _ is.length rfl rfl rfl ?b2 ?b3 ?b4 ?_)
 case b2=>rw[a1];omega
 case b3=>unfold maxLen;omega
 case b4=>exact Yac _
 intro y U D;have a2:=hid ((Yaf _ _).grown D (Yac _) (fun q M=>by cases M));clear D;go_wp2
 go_loopw [5, 13] (fun v i wr => ∃ k : Nat, k <= is.length /\ i = Vi k /\ wr.ownsRow w.heap.size 286 3 v k (encs (chg f (is.take k))) /\ Hid (∀ i ∈ is, ItmOk wr i) /\ Hid (BW w wr))
   (fun _ i _=>is.length - (intOf i).toNat)
 case atStart=>exact⟨0,Yag _,rfl,U,hid (fun i z=>(T.ok i z).below a2),a2⟩
 case round=>
  rename World=>wo
  obtain⟨k,hk,rfl,m,E,N⟩:=hrel;have a7:=N.size;by_cases O:k<is.length
  ·have hg:∃g,ra=some ⟨g,0,none⟩:=by
    obtain⟨g,cp',h⟩:=ZF T.row Om;injection h with P;exact⟨g,P⟩
   obtain⟨vg,rfl⟩:=hg;have G:=hid (Zn T.row N);obtain⟨f1,f2,f3⟩:=Zfl _ k O;have d1:=Zi G _ f1;have d2:=Zi G _ f2;have d3:=Zi G _ f3
   have a8:Hid (chg f (is.take (k+1))=chg f (is.take k)++[{ is[k]with v:=f (is[k]).v }]):=by
    rw[List.take_succ_eq_append_getElem O];unfold chg;rw[Yaq];rfl
   have a9:=hid (E _ (List.getElem_mem O)).vok;generalize is[k]=s at *
   clear f1 f2 f3;have c1:(k:Int)<(is.length):=by omega
   go_upto_region 5 with fail
   refine ZP fun wr hW=>?_;have H:Below _ _ _:=hW▸Zbal;have HX:Hid (BAt _ _ [.slice _ _ _,.string _,.int _ _] 286):=hW▸bnw;have A:=hid (N.trans (H.mono a7));have b0:=hid (fun q M=>(m.lt q M).2);have I:=Zn m H;have a5:=hid (fun i z=>(E i z).below H);have b1:=A.size;clear hW H m N E G d1 d2 d3;have J:Hid (∀p,BAt p wo.heap.size [.slice s.a s.n s.c,.string s.tx,Vi s.v] 286->p.cell? _=some _/\p.cell? _=some _/\p.cell? _=some _):=hid (fun p P=>⟨P.cell 0,P.cell 1,P.cell 2⟩);refine Zbn 10 (fun p=>p.cell? _=some _/\p.cell? _=some _/\p.cell? _=some _) Kr (J.out _ HX.out) (fun d=>?_);refine Za 0 d (h:=?_);refine Za 1 d (h:=?_);refine Za 2 d (h:=?_);refine Za 3 d (h:=?_);refine Za 4 d (h:=?_);refine Za 5 d (h:=?_);refine Z4 (i:=6) Kr rfl (fun K B=>?_);have a3:=hid (HF wr.drew (⟨A.os,A.tape,A.output,A.size,A.block⟩) _ a9);go_simp;refine a3.mono ?_;rintro e w5 ⟨rfl,C⟩;have F:Hid (BW wr _):=hid ⟨C.os,C.tape,C.output,C.size,C.block⟩;have Q:=hid (HX.below F);clear C a3;go_simp;refine B _ _ (J _ Q) (fun d=>?_);clear B K
   try simp only[Act.put,Zset]
   refine Za 7 d (h:=?_);refine Z4 (i:=8) Kr rfl (fun K B=>?_);have L:Hid (∀o,Below _ _ (w5.alloc o)):=hid (fun o=>Zbal);go_simp;refine B _ _ (J _ (Q.below (L _))) (fun d=>?_);clear B K
   try simp only[Act.put,Zset]
   refine Z4 (i:=9) Kr rfl (fun K B=>?_);have t:=Zn I F;have a4:=F.size;refine ZfF rfl _ _ _ rfl _ 286 _ _ 3 _ underlying284 z Z a0 a1 rfl Dc _ k _ (by simp[Act.eval]) (t.alloc _) ⟨w5.heap.size,0,none⟩ 1 1 [.slice s.a s.n s.c,.string s.tx,Vi (f s.v)] (by simp[Act.eval]) rfl ?h2 ?h3 ?h4 ?h5 ?h6 ?_
   case h2=>exact ZcY rfl
   case h3=>intro u hu;simp at hu;rcases hu with rfl|rfl|rfl <;> rfl
   case h4=>unfold maxLen;omega
   case h5=>omega
   case h6=>simp;omega
   intro v6 w6 V r hwhere6;have b5:=hid (fun i z=>(a5 i z).kb ((Z5.below (F.trans ((L _).mono a4)) _).trans (Z5.grown r (t.alloc _))) Dc);have b6:=hid ((A.trans ((F.trans ((L _).mono a4)).mono b1)).grown r (by simp;omega) (fun q M=>(t.lt q M).1));have X:w6.ownsRow w.heap.size 286 3 v6 (k+1) (encs (chg f (is.take (k+1)))):=by rwa [a8.out,Zh1]
   have b7:=hid ((Q.below (L _)).grown r (fun e=>by have:=b0 _ e.symm;omega));refine B _ _ (J _ b7) (fun d=>?_);clear B K
   try simp only[Act.put,Zset]
   refine Zbl Kr Kr rfl Kr (fun K B=>?_);go_simp;refine B _ _ ?_;clear B K r V t I hwhere6;go_wp2
   go_roundw
   case rel=>exact⟨k+1,by omega,by go_num,X,b5,b6⟩
   case measure=>simp[intOf];omega
  ·obtain rfl:k=is.length:=by omega
   rw[Ya4]at m;have R:(chg f is).length=is.length:=by unfold chg;rw[Yak]
   rw[<-R]at m
   have b8 : Hid (VecV _ _ (l.map _) _) := hid ⟨m.mono (Yag _), by rw [ZuA, T.els], fun i z => by
     unfold chg at z;obtain⟨j,hj,rfl⟩:=Ybe.1 z;exact⟨(E j hj).lb,a6 _ (E j hj).vok⟩,by rwa [R]⟩
   clear m;go_wp2;go_ret;exact⟨_,_,rfl,b8,N⟩
theorem Zph (x : Itm) (tx : BA) (w : World) : Cz 255 #[.agg #[.slice x.a x.n x.c, .string x.tx, Vi x.v], .string tx] w fun e u => e = .returned (Vi (cmpV (bl x.tx) (bl tx))) /\ BW w u := by
  obtain⟨xa,xn,xc,xt,xq,xv⟩:=x;simp only;go_enter func255,ntmps255
  go_wp2_with fail
  refine(ZgR).mono ?_;rintro e g ⟨rfl,o5,d⟩;have f:Hid _:=d▸Zbal.alloc (by simp) _;clear d
  go_wp2_with (go_at_call 237;refine(Zoe).mono ?_;rintro e h ⟨rfl,rfl⟩)
  go_ret;exact⟨rfl,f⟩
theorem ZuH{x:LB}(h:cmpV x y=0):x=y:=by
 unfold cmpV at h;cases a:Op.bytesLess x y with
 | true=>rw[a]at h;simp at h
 | false=>
  cases c:Op.bytesLess y x with
  | true=>rw[a,c]at h;simp at h
  | false=>exact Zdh _ _ a c
theorem ZuG{x:LB}:cmpV x x=0:=by unfold cmpV;rw[ZcL];rfl
def TxS(is:List Itm):Prop:=is.Pairwise fun a b=>Op.bytesLess (bl a.tx) (bl b.tx)=true
theorem TxS.mono  (h : TxS is)  {i j : Nat} (d : i <= j) (e : j < is.length) (a : Op.bytesLess (bl is[j].tx) y = true) : Op.bytesLess (bl (is[i]' Om).tx) y = true := by
  rcases Yav i j with c|c
  · exact Zdv _ _ _ (List.pairwise_iff_getElem.1 h i j _ _ c) a
  · obtain rfl:i=j:=by omega
    exact a
def BsIs(is:List Itm)(y:LB)(k:Nat)(ok:Bool):Prop:=(ok=true/\∃h:k<is.length,bl (is[k]).tx=y)∨(ok=false/\∀i∈is,bl i.tx≠y)
theorem Zn3(f:TxS is)(g:∀j (h:j<is.length),j<k->Op.bytesLess (bl is[j].tx) y=true)(l:∀j (h:j<is.length),k<=j->Op.bytesLess (bl is[j].tx) y=false)(m:∀h:k<is.length,bl (is[k]).tx≠y):∀i∈is,bl i.tx≠y:=by
 intro i n c;obtain⟨j,d,rfl⟩:=List.mem_iff_getElem.1 n;rcases Yav j k with a|a
 ·have:=g j d a;rw[c,ZcL]at this;cases this
 ·rcases Yav k j with e|e
  ·have e1:=List.pairwise_iff_getElem.1 f k j Om d e;rw[c,l k _ (Yac _)]at e1;cases e1
  ·obtain rfl:k=j:=by omega
   exact m _ c
theorem Zuh(l:w.ownsRow 0 286 3 v is.length (encs is))(N:is.length<=1000)(L:TxS is) :
  Cz 254 #[v,.string tx,.func (.func 255) #[] #[]] w fun e u=>∃(k:Nat) (ok:Bool),e=.returned (.tuple #[Vi k,.bool ok])/\Hid (BsIs is (bl tx) k ok)/\BW w u:=by
 obtain⟨ra,rcp,rfl⟩:=Zl l;have y:=hid l;have z:=hid L;clear l L;go_enter func254,ntmps254;go_wp2
 go_loopg [9,10] is.length (fun kx s5 s6 wr=>∃lo a:Nat,s5=Vi lo/\s6=Vi a/\lo<=a/\a<=is.length/\a - lo<=kx/\Hid (BW w wr)/\Hid ((∀j (h:j<is.length),j<lo->Op.bytesLess (bl is[j].tx) (bl tx)=true)/\(∀j (h:j<is.length),a<=j->Op.bytesLess (bl is[j].tx) (bl tx)=false)))
 case atStart=>exact⟨0,is.length,rfl,rfl,Yag _,Yac _,by omega,hid (Yaf _ _),hid ⟨fun j _ h=>absurd h (Ya1 _),fun j h p=>by omega⟩⟩
 case round=>
  obtain⟨lo,a,rfl,rfl,O,M,A,m,I⟩:=hrel;by_cases P:lo<a
  ·have D:(lo+a) / 2<is.length:=by omega
   have A:∃g,ra=some ⟨g,0,none⟩:=by
    obtain⟨g,cp',h⟩:=ZF y.out Om;injection h with h1;exact⟨g,h1⟩
   obtain⟨g,rfl⟩:=A;have c:=hid (Zn y m);obtain⟨f1,f2,f3⟩:=Zfl _ _ D;have d1:=Zi c _ f1;have d2:=Zi c _ f2;have d3:=Zi c _ f3;have Q:(((lo+a) / 2:Nat))=((lo:Int)+(a)) / 2:=by omega
   have R:(((lo:Int)+(a)) / 2).toNat=(lo+a) / 2:=by omega
   have n:=Zph is[(lo+a) / 2] tx wr;have E:Hid (Op.bytesLess _ (bl tx)=true->∀i (h:i<is.length),i<=(lo+a) / 2->Op.bytesLess (bl is[i].tx) _=true):=hid (fun B i h p=>z.mono p D B)
   have F : Hid (Op.bytesLess (bl (is[(lo + a) / 2]).tx) _ = false -> ∀ i (h : i < is.length), (lo + a) / 2 <= i -> Op.bytesLess _ _ = false) := hid (fun B i h p => by
     cases d:Op.bytesLess (bl is[i].tx) (bl tx)with
     | false=>rfl
     | true=>rw[z.mono p h d]at B;cases B)
   have f:=ZhW (bl (is[(lo+a) / 2]).tx) (bl tx);clear f1 f2 f3 c;generalize is[(lo+a) / 2]=x at *
   obtain⟨xa,xn,xc,xt,xq,xv⟩:=x;simp only at n E F f d1 d2 d3;generalize cmpV (bl xt) (bl tx)=cr at *
   cases o:Op.bytesLess (bl xt) (bl tx)with
   | true=>
    rw[o]at f;have J:=hid (E o);clear o;have K:cr<0:=by simpa using f
    clear f
    go_wp2_with (go_at_call 255;refine n.mono ?_;rintro e u ⟨rfl,d⟩)
    go_roundg (a - ((lo+a) / 2+1))
    case measure=>omega
    case rel=>
     exact⟨(lo+a) / 2+1,a,by rw[show((lo)+(a)) / 2+1=(((lo+a) / 2+1:Nat):Int) by omega],rfl,by omega,M,Yac _,hid (m.trans (d.mono m.size)),hid ⟨fun j h p=>J j h Om,I.2⟩⟩
   | false=>
    rw[o]at f;have J:=hid (F o);clear o;have K:¬cr<0:=by simpa using f
    clear f
    go_wp2_with (go_at_call 255;refine n.mono ?_;rintro e u ⟨rfl,d⟩)
    go_roundg ((lo+a) / 2 - lo)
    case measure=>omega
    case rel=>
     exact⟨lo,(lo+a) / 2,rfl,by rw[show((lo)+(a)) / 2=(((lo+a) / 2:Nat):Int) by omega],by omega,by omega,Yac _,hid (m.trans (d.mono m.size)),hid ⟨I.1,J⟩⟩
  ·obtain rfl:a=lo:=by omega
   have d:=m.out;by_cases q:a<is.length
   ·have A:∃g,ra=some ⟨g,0,none⟩:=by
     obtain⟨g,cp',h⟩:=ZF y.out Om;injection h with h1;exact⟨g,h1⟩
    obtain⟨g,rfl⟩:=A;have c:=hid (Zn y m);obtain⟨f1,f2,f3⟩:=Zfl _ _ q;have d1:=Zi c _ f1;have d2:=Zi c _ f2;have d3:=Zi c _ f3;have n:=Zph is[a] tx wr;have G:Hid (cmpV _ (bl tx)=0->BsIs _ _ _ _):=hid (fun h=>.inl ⟨rfl,q,ZuH h⟩);have H:Hid (cmpV (bl (is[a]).tx) (bl tx)≠0->BsIs _ _ a _):=hid (fun h=>.inr ⟨rfl,Zn3 z I.1 I.2 (fun _ e=>h (e▸ZuG))⟩);generalize is[a]=x at *
    obtain⟨xa,xn,xc,xt,xq,xv⟩:=x;simp only at n G H d1 d2 d3;generalize cmpV (bl xt) (bl tx)=cr at *
    clear f1 f2 f3 c;by_cases C:cr=0
    ·have r:=hid (G C);subst C
     go_wp2_with (go_at_call 255;refine n.mono ?_;rintro e u ⟨rfl,s⟩)
     have t:=d.trans (s.mono d.size);go_ret2;exact⟨a,true,rfl,r,t⟩
    ·have r:=hid (H C);have S:(cr == 0)=false:=by simpa using C
     go_wp2_with (go_at_call 255;refine n.mono ?_;rintro e u ⟨rfl,s⟩)
     have t:=d.trans (s.mono d.size);go_ret2;exact⟨a,false,rfl,r,t⟩
   ·have r:Hid (BsIs _ _ a _):=hid (.inr ⟨rfl,Zn3 z I.1 I.2 (fun h=>absurd h q)⟩);go_wp2;go_ret2;exact⟨a,false,rfl,r,d⟩
def fdT(ys:List Itm)(y:LB):Option Itm:=ys.find? fun j=>decide (bl j.tx=y)
theorem Zv4(c:TxS ys){a:k<ys.length}(h:bl (ys[k]).tx=y):fdT ys y=some ys[k]:=by
 unfold fdT;rw[List.find?_eq_some_iff_getElem];refine⟨by simpa using h,k,a,rfl,fun j d=>?_⟩;have e:=List.pairwise_iff_getElem.1 c j k Om a d;simp only[Ycr,decide_eq_false_iff_not];intro e2;rw[e2,h,ZcL]at e;cases e
theorem Zv3(h:∀i∈ys,bl i.tx≠y):fdT ys y=none:=by
 unfold fdT;rw[Yc2];intro x a;simpa using h x a
def FdIs(ys:List Itm)(y:LB)(x:Int)(ok:Bool):Prop:=(ok=true/\∃j∈ys,fdT ys y=some j/\x=j.v)∨(ok=false/\fdT ys y=none)
theorem Zv7{a:Option Addr}{c:Nat}(d:w.ownsRow 0 286 3 v is.length (encs is))(o:is.length<=1000)(s:TxS is) :
  Cz 230 #[v,.agg #[.slice a n c,.string tx]] w fun e u=>∃(x:Int) (ok:Bool),e=.returned (.tuple #[Vi x,.bool ok])/\Hid (FdIs is (bl tx) x ok)/\BW w u:=by
 obtain⟨ra,rcp,rfl⟩:=Zl d;have p:=hid d;have t:=hid s;clear d s;go_enter func230,ntmps230
 go_wp2_with fail
 refine(ZgR).mono ?_;rintro e C ⟨rfl,o5,j⟩;have i:Hid _:=j▸Zbal.alloc (by simp) _;clear j
 go_wp2_with fail
 refine(Zuh (Zn p i) o t).mono ?_;rintro e D ⟨k,ok,rfl,q,l⟩;have f:=hid (i.trans (l.mono i.size));clear l i;rcases q.out with ⟨rfl,z,m⟩|⟨rfl,y⟩
 ·have A:∃g,ra=some ⟨g,0,none⟩:=by
   obtain⟨g,cp',h⟩:=ZF p.out Om;injection h with h1;exact⟨g,h1⟩
  obtain⟨g,rfl⟩:=A;have d3:=Zi (Zn p f) _ (Zfl _ k z).2.2;have r:Hid (FdIs _ _ _ _):=hid (.inl ⟨rfl,is[k],List.getElem_mem _,Zv4 t m,rfl⟩);have B:(k:Int)<(is.length):=by omega
  clear m q;generalize(is[k]).v=x at *
  go_wp2;go_ret2;exact⟨x,true,rfl,r,f⟩
 ·have r:Hid (FdIs _ _ 0 _):=hid (.inr ⟨rfl,Zv3 y⟩);clear y q;go_wp2;go_ret2;exact⟨0,false,rfl,r,f⟩
def wItm(op:Nat)(ys:List Itm)(i:Itm):Option Itm:=(fdT ys (bl i.tx)).map fun j=>{ i with v:=twoV op i.v j.v }
theorem Zwl{α β:Type}{f:α->Option β}{l:List α}{a:α}:(l++[a]).filterMap f=l.filterMap f++(f a).toList:=by
 rw[List.filterMap_append];cases h:f a <;> simp[h]
theorem Zpi{α:Type}{p q:α->Bool} : ∀ {l:List α},(∀a∈l,p a=q a)->l.find? p=l.find? q
 | [],_=>rfl
 | a :: l, h => by
   rw[List.find?_cons,List.find?_cons,h a (by simp),Zpi (fun b c=>h b (Yam _ c))]
theorem ZEz(a:∀j∈ys,ItmOk w j){i:Itm}(c:ItmOk w i):(wItm op ys i).map Itm.el=vvF op (ys.map Itm.el) i.el:=by
 unfold wItm vvF fdT;rw[List.find?_map,Option.map_map,Option.map_map]
 have e : ys.find? (fun j => decide (bl j.tx = bl i.tx)) = ys.find? ((fun f => decide (wrt i.el.1 = wrt f.1)) ∘ Itm.el) := by
   refine Zpi (fun j d=>?_);show decide (bl j.tx=bl i.tx)=decide (wrt i.labs=wrt j.labs);unfold Itm.labs;rw[<-c.lb.txt,<-(a j d).lb.txt,decide_eq_decide];exact⟨fun h=>h.symm,fun h=>h.symm⟩
 rw[e];rfl
theorem Zs2{op:Nat}{w:World}{ys:List Itm}(a:∀j∈ys,ItmOk w j):∀ {xs:List Itm},(∀i∈xs,ItmOk w i)->(xs.filterMap (wItm op ys)).map Itm.el=(xs.map Itm.el).filterMap (vvF op (ys.map Itm.el))
 | [],_=>rfl
 | i :: xs, h => by
   have e1:=ZEz (op:=op) a (h i (by simp));have e2:=Zs2 (op:=op) a (fun j c=>h j (Yam _ c));rw[Ybb,Yef,Yef];rw[<-e1];cases wItm op ys i with
   | none=>exact e2
   | some z=>simp only[Ybf,Ybb,e2]
theorem VecV.txs{l:List El}(h:VecV w v l is)(c:Srt l):TxS is:=by
 unfold Srt at c;rw[<-h.els,Ybx]at c;unfold TxS;refine Ycx ?_ c;intro a b e f d;rw[(h.ok a e).lb.txt,(h.ok b f).lb.txt];exact d
theorem ZEL(a7:op<=3)(v:Value){y:Value}(l m:List El)(w:World)(Z:VecV w v l is)(P:VecV w y m ys)(a2:Srt m) :
  Cz 201 #[v,y,Vi (op+1:Nat)] w fun e A=>∃v' is',e=.returned v'/\Hid (VecV A v' (l.filterMap (vvF op m)) is')/\BW w A:=by
 obtain⟨i0,f,a8,a9,b0⟩:=info_parts Tryz.infoItem;obtain⟨ra,rcp,rfl⟩:=Zl Z.row;obtain⟨ya,ycp,rfl⟩:=Zl P.row;have HV:=hid Z;have HY:=hid P;have b1:=hid (P.txs a2);have c4:=Z.len;have b2:=P.len;obtain⟨oz,Q⟩:∃oz:Int,oz=((op+1:Nat)):=⟨_,rfl⟩
 rw[<-Q];have a3:=hid Q;clear Z P a2 Q;go_enter func201,ntmps201;go_wp2
 go_loopw [7, 14] (fun v i wr => ∃ (k : Nat) (os : List Itm), k <= is.length /\ i = Vi k /\ os.length <= k /\ wr.ownsRow w.heap.size 286 3 v os.length (encs os) /\ Hid (os = (is.take k).filterMap (wItm op ys)) /\ Hid ((∀ i ∈ is, ItmOk wr i) /\ ∀ i ∈ ys, ItmOk wr i) /\ Hid (BW w wr))
   (fun _ i _=>is.length - (intOf i).toNat)
 case atStart=>exact⟨0,[],Yag _,rfl,Yag _,Ybc _ _ _ _,hid rfl,hid ⟨HV.ok,HY.ok⟩,hid (Yaf _ _)⟩
 case round=>
  rename World=>wo
  obtain⟨k,os,hk,rfl,c3,B,R,t,S⟩:=hrel;have b3:=S.size;by_cases T:k<is.length
  ·have hg:∃g,ra=some ⟨g,0,none⟩:=by
    obtain⟨g,cp',h⟩:=ZF HV.row Om;injection h with U;exact⟨g,U⟩
   obtain⟨vg,rfl⟩:=hg;have L:=hid (Zn HV.row S);obtain⟨f1,f2,f3⟩:=Zfl _ k T;have d1:=Zi L _ f1;have d2:=Zi L _ f2;have d3:=Zi L _ f3;have a4:Hid ((is.take _).filterMap _=(is.take k).filterMap _++(wItm op ys _).toList):=List.take_succ_eq_append_getElem T▸Zwl;have b4:=hid (t.1 _ (List.getElem_mem T)).vok;generalize is[k]=s at *
   clear f1 f2 f3;have c5:(k:Int)<(is.length):=by omega
   go_wp2_with fail
   refine Zm fun W hW=>?_;have G:Below _ _ W:=hW▸Zbal;have a5:Hid (BAt W _ [.slice _ _ _,.string _,.int _ _] 286):=hW▸bnw;have M:=hid (S.trans (G.mono b3));have b5:=hid (fun q hq=>(B.lt q hq).2);have N:=Zn B G;have I:Hid ((∀i∈is,ItmOk W i)/\∀i∈ys,ItmOk W i):=hid ⟨fun i f=>(t.1 i f).below G,fun i f=>(t.2 i f).below G⟩;clear hW G B S t L d1 d2 d3;refine(Zv7 (Zn HY.row M) b2 b1).mono ?_;rintro e wr ⟨x,ok,rfl,V,D⟩;have HX:=hid (a5.below D);have X:=hid (M.trans (D.mono M.size));have p:=Zn N D;have F:Hid ((∀i∈is,ItmOk _ i)/\∀i∈ys,ItmOk _ i):=hid ⟨fun i f=>(I.1 i f).below D,fun i f=>(I.2 i f).below D⟩;clear D a5 M N I;have b6:=X.size;rcases V.out with ⟨rfl,j,hj,H,rfl⟩|⟨rfl,H⟩
   ·have J:Hid ((is.take (k+1)).filterMap (wItm op ys)=os++[{ s with v:=twoV op s.v j.v }]):=by
     rw[a4,<-R];unfold wItm;rw[H];rfl
    have b7:=hid (F.2 j hj).vok;clear H V hj
    go_upto_region 7 with fail
    have O:Hid (∀A,BAt A wo.heap.size [.slice s.a s.n s.c,.string s.tx,Vi s.v] 286->A.cell? _=some _/\A.cell? _=some _/\A.cell? _=some _):=hid (fun A U=>⟨U.cell 0,U.cell 1,U.cell 2⟩);refine Zbn 11 (fun A=>A.cell? _=some _/\A.cell? _=some _/\A.cell? _=some _) Kr (O.out _ HX.out) (fun d=>?_);refine Za 0 d (h:=?_);refine Za 1 d (h:=?_);refine Za 2 d (h:=?_);refine Za 3 d (h:=?_);refine Za 4 d (h:=?_);refine Za 5 d (h:=?_);refine Za 6 d (h:=?_);refine Z4 (i:=7) Kr rfl (fun K C=>?_);go_simp;rw[a3];refine(Zks _ a7 _ _ b4 b7 _).mono ?_;rintro e w5 ⟨rfl,rfl⟩;rw[<-a3];go_simp;refine C _ _ (O _ HX) (fun d=>?_);clear C K
    try simp only[Act.put,Zset]
    refine Za 8 d (h:=?_);refine Z4 (i:=9) Kr rfl (fun K C=>?_);have E:Hid (∀o,Below _ _ (wr.drew.alloc o)):=hid (fun o=>((Yaf wr.heap.size _).drew).alloc (Yac _) _);go_simp;refine C _ _ (O _ (HX.below (E _))) (fun d=>?_);clear C K
    try simp only[Act.put,Zset]
    refine Z4 (i:=10) Kr rfl (fun K C=>?_);refine ZfF rfl _ _ _ rfl _ 286 _ _ 3 _ underlying284 f a8 a9 b0 rfl Dc _ _ _ (by simp[Act.eval]) (Zn p (E _)) ⟨wr.heap.size,0,none⟩ 1 1 [.slice s.a s.n s.c,.string s.tx,Vi (twoV op s.v j.v)] (by simp[Act.eval]) rfl ?h2 ?h3 ?h4 ?h5 ?h6 ?_
    case h2=>exact ZcY rfl
    case h3=>intro u hu;simp at hu;rcases hu with rfl|rfl|rfl <;> rfl
    case h4=>unfold maxLen;omega
    case h5=>omega
    case h6=>simp;omega
    intro v6 w6 a0 r hwhere6;have Y:=(Z5.below (E _) _).trans (Z5.grown r (Zn p (E _)));have b8:Hid ((∀i∈is,ItmOk _ i)/\∀i∈ys,ItmOk _ i):=hid ⟨fun i f=>(F.1 i f).kb Y Dc,fun i f=>(F.2 i f).kb Y Dc⟩;have b9:=hid ((X.trans ((E _).mono b6)).grown r (by simp;omega) (fun q hq=>(p.lt q hq).1));have a1:w6.ownsRow w.heap.size 286 3 v6 (os++[{ s with v:=twoV op s.v j.v }]).length (encs (os++[{ s with v:=twoV op s.v j.v }])):=by rwa [Zh1,Yab]
    have c1:=hid ((HX.below (E _)).grown r (fun e=>by have:=b5 _ e.symm;omega));refine C _ _ (O _ c1) (fun d=>?_);clear C K
    try simp only[Act.put,Zset]
    refine Zbl Kr Kr rfl Kr (fun K C=>?_);go_simp;refine C _ _ ?_;clear C K r a0 p hwhere6 Y;go_wp2
    go_roundw
    case rel=>exact⟨k+1,_,by omega,by go_num,by simp;omega,a1,hid J.symm,b8,b9⟩
    case measure=>simp[intOf];omega
   ·have J:Hid (os=(is.take _).filterMap _):=hid (by
     rw[a4,<-R];unfold wItm;rw[H];simp)
    clear H V;go_wp2
    go_roundw
    case rel=>exact⟨k+1,os,by omega,by go_num,by omega,p,J,F,X⟩
    case measure=>simp[intOf];omega
  ·obtain rfl:k=is.length:=by omega
   have c2:Hid (VecV _ _ _ _):=hid (by
    have e:=R.out;rw[Ya4]at e;refine⟨B.mono (Yag _),by rw[e,Zs2 t.2 t.1,HV.els,HY.els],fun i f=>?_,by omega⟩;rw[e]at f;obtain⟨z,hz,a6⟩:=List.mem_filterMap.1 f;unfold wItm at a6;obtain⟨q,hq,rfl⟩:=Ybk.1 a6;exact⟨(t.1 z hz).lb,Zhj _ _ _ (t.1 z hz).vok⟩)
   clear B;go_wp2;go_ret;exact⟨_,_,rfl,c2,S⟩
theorem asSS(v:Value)(w:World):(Instr.typeAssert (.iface 282 v) 196 282 true).run prog w=.ok (.tuple #[v,.bool true]) w:=by kernel_rfl
theorem asVS(v:Value)(w:World):(Instr.typeAssert (.iface 284 v) 196 282 true).run prog w=.ok (.tuple #[Vi 0,.bool false]) w:=by kernel_rfl
theorem asVV(v:Value)(w:World):(Instr.typeAssert (.iface 284 v) 196 284 true).run prog w=.ok (.tuple #[v,.bool true]) w:=by kernel_rfl
theorem Zzf (x : Int) (a : vOk x) (w : World) : Cz 197 #[Vi x] w fun e u => e = .returned (Vi (-x)) /\ BW w u := by
  unfold vOk at a;go_enter func197,ntmps197;go_wp2;go_ret;exact⟨rfl,Yaf _ _⟩
theorem Zrd(h:vOk x):vOk (-x):=by unfold vOk at *;omega
theorem ZmQ  (V : VV)  (h : ValP w v V) : Cz 152 #[v] w fun e u => ∃ v', e = .returned v' /\ Hid (ValP u v' (negV V)) /\ BW w u := by
  cases V with
  | inl n=>
    obtain⟨rfl,c⟩:=h;have i:=hid (Zrd c);have j:=asSS (Vi n);unfold vOk at c;go_enter func152,ntmps152;go_wp2;go_ret;exact⟨_,rfl,hid ⟨rfl,i⟩,Yaf _ _⟩
  | inr l=>
    obtain⟨s,is,rfl,d⟩:=h;have k:=hid d;have j:=asVS s;have o:=asVV s;have eg:∀args w,(callFunc 197 _).run _ w=.ok _ w:=enters_of func197 Kr rfl;have m:=hid (Zlo s l is 197 #[] _ w k eg (fun W _ x a=>Zzf x a W) (fun x a=>Zrd a));clear d eg;go_enter func152,ntmps152
    go_wp2_with (go_at_call 196;refine m.mono ?_;rintro e p ⟨v',is',rfl,f,g⟩)
    go_ret;exact⟨_,rfl,hid ⟨v',is',rfl,f⟩,g⟩
theorem ZtM (op : Nat) (d : op <= 3) (a x : Int) (f : vOk a) (g : vOk x)  (w : World) (h : w.cell? ⟨b1, 0, none⟩ = some (Vi (op + 1 : Nat))) (j : w.cell? ⟨b2, 0, none⟩ = some (Vi a)) : Cz 199 #[Vi x, Vp b1, Vp b2] w fun e u => e = .returned (Vi (twoV op a x)) /\ BW w u := by
  obtain⟨oz,c⟩:∃oz:Int,oz=((op+1:Nat)):=⟨_,rfl⟩
  rw[<-c]at h;have i:Hid (∀W,Calls _ _ _ W _):=hid (fun W=>c▸Zks op d a x f g W);clear f g c;go_enter func199,ntmps199
  go_wp2_with (go_at_call 198;refine(i.out _).mono ?_;rintro e u ⟨rfl,rfl⟩)
  go_ret;exact⟨rfl,Yaf _ _⟩
theorem ZtN (op : Nat) (d : op <= 3) (a x : Int) (f : vOk a) (g : vOk x)  (w : World) (h : w.cell? ⟨b1, 0, none⟩ = some (Vi (op + 1 : Nat))) (j : w.cell? ⟨b2, 0, none⟩ = some (Vi a)) : Cz 200 #[Vi x, Vp b1, Vp b2] w fun e u => e = .returned (Vi (twoV op x a)) /\ BW w u := by
  obtain⟨oz,c⟩:∃oz:Int,oz=((op+1:Nat)):=⟨_,rfl⟩
  rw[<-c]at h;have i:Hid (∀W,Calls _ _ _ W _):=hid (fun W=>c▸Zks op d x a g f W);clear f g c;go_enter func200,ntmps200
  go_wp2_with (go_at_call 198;refine(i.out _).mono ?_;rintro e u ⟨rfl,rfl⟩)
  go_ret;exact⟨rfl,Yaf _ _⟩
theorem ZsV(w:World)(x y:Value)(s t:TypeId):BAt ((w.alloc (.cells #[x] s)).alloc (.cells #[y] t)) w.heap.size [x] s/\BAt ((w.alloc (.cells #[x] s)).alloc (.cells #[y] t)) (w.heap.size+1) [y] t:=by
 refine⟨(Zbal.block _ (by simp)).trans bnw,?_⟩;have:=Go.Deep.blk_alloc_new (w.alloc (.cells #[x] s)) (.cells #[y] t);rw[Go.Deep.nblk_alloc]at this;exact this
theorem ZmH (op : Nat) (n : op <= 3) (x y : Value) (X Y : VV) (w : World) (H : ValP w x X) (A : ValP w y Y) (C : VOk 1000 Y) : Cz 154 #[Vi (op + 1 : Nat), x, y] w fun e u => ∃ v', e = .returned v' /\ Hid (ValP u v' (Zdg op X Y)) /\ BW w u := by
  obtain⟨oz,p⟩:∃oz:Int,oz=((op+1:Nat)):=⟨_,rfl⟩
  rw[<-p];have f:=hid p;clear p;have eg1:∀args w,(callFunc 199 _).run _ w=.ok _ w:=enters_of func199 Kr rfl;have eg2:∀args w,(callFunc 200 _).run _ w=.ok _ w:=enters_of func200 Kr rfl;have EG1:=hid eg1;have EG2:=hid eg2;clear eg1 eg2;cases X with
  | inl a=>
    obtain⟨rfl,q⟩:=H;have N:=asSS (Vi a);cases Y with
    | inl b=>
      obtain⟨rfl,r⟩:=A;have I:=asSS (Vi b);have o:Hid (∀W,Calls _ _ _ W _):=hid (fun W=>f.out▸Zks op n a b q r W);have J:=hid (Zhj op a b q);clear q r;go_enter func154,ntmps154
      go_wp2_with (go_at_call 198;refine(o.out _).mono ?_;rintro e u ⟨rfl,rfl⟩)
      go_ret;exact⟨_,rfl,hid ⟨rfl,J⟩,belB⟩
    | inr m=>
      obtain⟨s,is,rfl,t⟩:=A;have B:=hid t;have o:=hid q;have I:=asVS s;have K:=asVV s;clear t q;go_enter func154,ntmps154
      go_wp2_with fail
      refine Zm fun W d=>?_;have c:Below _ w W:=d▸Zbal.alloc (by simp) _;have g:Hid (W.cell? ⟨w.heap.size,0,none⟩=some (Vi oz)/\W.cell? ⟨w.heap.size+1,0,none⟩=some (Vi a)):=by rw[d];obtain⟨g1,g2⟩:=ZsV w (Vi oz) (Vi a) 111 282;exact⟨g1.cell 0,g2.cell 0⟩
      clear d;refine(Zlo s m is 199 #[Vp w.heap.size,Vp (w.heap.size+1)] (fun z=>twoV op a z) W (B.below c) EG1.out (fun F h z v=>ZtM op n a z o.out v F (by rw[<-f];exact(Zo.below h).cell g.1) ((Zo.below h).cell g.2)) (fun z _=>Zhj op a z o.out)).mono ?_;rintro e G ⟨v',is',rfl,i,j⟩;have k:=c.trans (j.mono c.size);go_wp2;go_ret;exact⟨_,rfl,hid ⟨v',is',rfl,i⟩,k⟩
  | inr l=>
    obtain⟨s,is,rfl,t⟩:=H;have B:=hid t;have N:=asVS s;have I:=asVV s;clear t;cases Y with
    | inl b=>
      obtain⟨rfl,r⟩:=A;have K:=asSS (Vi b);have o:=hid r;clear r;go_enter func154,ntmps154
      go_wp2_with fail
      refine Zm fun W d=>?_;have c:Below _ w W:=d▸Zbal.alloc (by simp) _;have g:Hid (W.cell? ⟨w.heap.size,0,none⟩=some (Vi oz)/\W.cell? ⟨w.heap.size+1,0,none⟩=some (Vi b)):=by rw[d];obtain⟨g1,g2⟩:=ZsV w (Vi oz) (Vi b) 111 282;exact⟨g1.cell 0,g2.cell 0⟩
      clear d;refine(Zlo s l is 200 #[Vp w.heap.size,Vp (w.heap.size+1)] (fun z=>twoV op z b) W (B.below c) EG2.out (fun F h z v=>ZtN op n b z o.out v F (by rw[<-f];exact(Zo.below h).cell g.1) ((Zo.below h).cell g.2)) (fun z v=>Zhj op z b v)).mono ?_;rintro e G ⟨v',is',rfl,i,j⟩;have k:=c.trans (j.mono c.size);go_wp2;go_ret;exact⟨_,rfl,hid ⟨v',is',rfl,i⟩,k⟩
    | inr m=>
      obtain⟨s2,is2,rfl,D⟩:=A;have L:=hid D;have E:=hid C.1;have K:=asVS s2;have O:=asVV s2;clear D C;go_enter func154,ntmps154
      go_wp2_with fail
      refine Zm fun W d=>?_;have c:Below _ w W:=d▸Zbal;clear d;rw[f];refine(ZEL n s l m W (B.below c) (L.below c) E).mono ?_;rw[<-f];rintro e G ⟨v',is',rfl,i,j⟩;have k:=c.trans (j.mono c.size);have M:Hid (ValP G (.iface 284 v') (Zdg op (.inr l) (.inr m))):=ZnU op l m E.out▸⟨v',is',rfl,i.out⟩;go_wp2;go_ret;exact⟨_,rfl,M,k⟩
