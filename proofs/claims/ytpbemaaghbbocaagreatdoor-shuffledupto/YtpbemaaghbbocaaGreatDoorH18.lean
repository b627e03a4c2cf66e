/- Parts. -/
import Derived.Test.YtpbemaaghbbocaaGreatDoorH16
import Derived.Test.YtpbemaaghbbocaaGreatDoorH14
set_option linter.all false
set_option maxRecDepth 100000
set_option maxHeartbeats 16000000
namespace Go.Proofs.YtpbemaaghbbocaaGreatDoor
open Go.RowKit LS Go.Proofs.Tryz
variable {os:Array Obj}{F:Array Value}{y:LB}{l:List (Int×Int)}{is:List Itm}{a n:Nat}{A:Nat->Addr}{fr x:Nat×Nat}{p sa:Option Addr}{s:Str}{fv sv v x0 x1 x2 x3 x4 x5:Value}{w w':World}
def GrB(W w':World):Prop:=∃q os,w'=Sort.grow (W.drewN q) os
theorem GrB.refl(W:World):GrB W W:=⟨0,#[],by rw[Sort.grow_empty];rfl⟩
theorem GrB.trans{a b c:World}(h:GrB a b)(k:GrB b c):GrB a c:=by
 obtain⟨q1,o1,rfl⟩:=h;obtain⟨q2,o2,rfl⟩:=k;exact⟨q1+q2,o1++o2,by simp[Sort.grow,World.drewN,Nat.add_assoc]⟩
theorem GrB.alloc(W:World)(o:Obj):GrB W (W.alloc o):=⟨0,#[o],by rw[Sort.alloc_eq_grow];rfl⟩
theorem GrB.drewN(W:World)(n:Nat):GrB W (W.drewN n):=⟨n,#[],(Sort.grow_empty _).symm⟩
theorem GrB.drew(W:World):GrB W W.drew:=⟨1,#[],by rw[Sort.grow_empty];rfl⟩
theorem GrB.below{W:World}(h:GrB W w'):BW W w':=by
 obtain⟨q,os,rfl⟩:=h;refine⟨rfl,rfl,rfl,by simp[Sort.grow,World.drewN],fun k a=>?_⟩;simp[Sort.grow,World.drewN,Yfo,a]
theorem ZCu (x y : Itm)  : CP 199 #[.agg #[.slice x.a x.n x.c, .string x.tx, Vi x.v], .agg #[.slice y.a y.n y.c, .string y.tx, Vi y.v]] w fun e u => e = .returned (Vi (cmpV (bl x.tx) (bl y.tx))) /\ GrB w u := by
  obtain⟨xa,xn,xc,xt,xq,xv⟩:=x;obtain⟨ya,yn,yc,yt,yq,yv⟩:=y;simp only;go_enter func199,ntmps199
  go_upto_region 1 with fail
  refine ZP fun W d=>?_;have h:Hid (GrB w W):=hid (by rw[d];exact(GrB.alloc _ _).trans (GrB.alloc _ _));have f:Hid (BAt W w.heap.size [.slice xa xn xc,.string xt,Vi xv] 255):=hid (by rw[d];exact(Zbal.block _ (by simp)).trans (Go.Deep.blk_alloc_new _ _));have g:Hid (BAt W (w.heap.size+1) [.slice ya yn yc,.string yt,Vi yv] 255):=hid (by rw[d];have:=Go.Deep.blk_alloc_new (w.alloc (.cells #[.slice xa xn xc,.string xt,Vi xv] 255)) (.cells #[.slice ya yn yc,.string yt,Vi yv] 255);rw[Go.Deep.nblk_alloc]at this;exact this);clear d;have x0:=f.cell 0;have x1:=f.cell 1;have y0:=g.cell 0;have y1:=g.cell 1;simp only[Zget]at x0 x1 y0 y1
  go_region_held3 (fun u => u.cell? ⟨w.heap.size, 0, none⟩ = some (.slice xa xn xc) /\ u.cell? ⟨w.heap.size, 1, none⟩ = some (.string xt) /\ u.cell? ⟨w.heap.size + 1, 0, none⟩ = some (.slice ya yn yc) /\ u.cell? ⟨w.heap.size + 1, 1, none⟩ = some (.string yt)) (first | exact ⟨x0, x1, y0, y1⟩ | go_keep) (first
    | (go_at_call 124
       refine(ZgR).mono ?_;rintro e k ⟨rfl,o5,i⟩)
    | (go_at_call 200
       refine(Zoe).mono ?_;rintro e l ⟨rfl,j⟩))
  all_goals
    go_wp2;go_ret;exact⟨rfl,h.trans (((GrB.alloc _ _).trans (GrB.alloc _ _)).trans (GrB.drew _))⟩
theorem ZhW(x y:LB):decide (cmpV x y<0)=Op.bytesLess x y:=by
 unfold cmpV;cases h:Op.bytesLess x y
 ·cases a:Op.bytesLess y x <;> simp
 ·simp
theorem ZCw : Sort.SWO (ltOf fun x y : Itm => cmpV (bl x.tx) (bl y.tx)) where
  irrefl x:=by unfold ltOf;rw[ZhW];exact ZcL _
  trans x y z h1 h2:=by unfold ltOf at *;rw[ZhW]at *;exact Zdv _ _ _ h1 h2
  ntrans x y z h1 h2:=by
    unfold ltOf at *
    rw[ZhW]at *
    cases h:Op.bytesLess (bl x.tx) (bl z.tx)with
    | false=>rfl
    | true=>
      cases a:Op.bytesLess (bl z.tx) (bl y.tx)with
      | true=>rw[Zdv _ _ _ h a]at h1;cases h1
      | false=>
        have e:=Zdh _ _ h2 a;rw[e,h]at h1;cases h1
theorem Zpl [Inhabited Itm] (d:Array Itm):(Sort.flatK Itm.enc 3 d).toList=encs d.toList:=by
 refine Ycs (fun t=>?_);by_cases a:t<d.size*3
 ·have f:t / 3<d.toList.length:=by rw[Ybl];omega
  have c:t / 3<d.size:=by omega
  obtain⟨g0,g1,g2⟩:=Zfl d.toList (t / 3) f
  have e:(Sort.flatK Itm.enc 3 d).toList[t]?=some (Itm.enc d[t / 3]!)[t % 3]!:=by
   rw[Yb2,<-Sort.get_flatK _ _ _ t a];rw[getElem!_pos _ t (by rw[Sort.size_flatK];exact a),Array.getElem?_eq_getElem (by rw[Sort.size_flatK];exact a)]
  rw[e,getElem!_pos d (t / 3) c];rw[Array.getElem_toList]at g0 g1 g2;rcases(by omega:t % 3=0∨t % 3=1∨t % 3=2)with h|h|h
  ·rw[show t / 3*3=t by omega]at g0;rw[h,g0];rfl
  ·rw[show t / 3*3+1=t by omega]at g1;rw[h,g1];rfl
  ·rw[show t / 3*3+2=t by omega]at g2;rw[h,g2];rfl
 ·rw[Ya9 (by rw[Ybl,Sort.size_flatK];omega),Ya9 (by rw[Zlp,Ybl];omega)]
theorem ZDa(cur F:Array Value)(h:F.size<=cur.size):(Sort.putCells id 0 F cur).toList.take F.size=F.toList:=by
 apply Ycs;intro j;by_cases a:j<F.size
 ·rw[Ye7 a,Yb2];simp[Sort.putCells,a,show j<cur.size by omega]
 ·rw[List.getElem?_take_eq_none Om,Ya9 (by simp;omega)]
theorem ZwX{g:Nat}{cur:Array Value}{e:TypeId}(a:w.heap[g]?=some (.cells cur e fr)) :
  (Sort.grow (Sort.putRow id (Sort.ahead w n) g 0 F) os).heap[g]?=some (.cells (Sort.putCells id 0 F cur) e fr):=by
 have c:g<w.heap.size:=(Yae.1 a).1;rw[Sort.heap_grow_old _ _ (by simpa using c)];simp[Sort.putRow,Sort.mapBlock,Sort.ahead,Ybn,a,Sort.onCells]
theorem ZwL{g:Nat}:w.grownBy (Sort.grow (Sort.putRow id (Sort.ahead w n) g 0 F) os) (some g):=by
 refine⟨rfl,rfl,rfl,by simp,fun k c a=>?_⟩;rw[Sort.heap_grow_old _ _ (by simpa using c)];have:g≠k:=fun e=>a (by rw[e]);simp[Sort.putRow,Sort.mapBlock,Sort.ahead,Ybn,this]
theorem Zxe (p : Option Addr) (cap : Nat) (fv : Value) (w : World) : CP 246 #[.slice p 0 cap, Vi 0, Vi 0, fv] w fun e u => e = .returned (.tuple #[]) /\ u = w := by
  go_enter func246,ntmps246;go_wp2;refine wp_loop_rounds 1 ?_;rw[rounds_succ];go_wp2
  go_end0
  exact⟨rfl,rfl⟩
theorem ZAy (p : Option Addr) (cap : Nat) (lim : Int) (fv : Value) (w : World) : CP 228 #[.slice p 0 cap, Vi 0, Vi 0, Vi lim, fv] w fun e u => e = .returned (.tuple #[]) /\ u = w := by
  have a:=fun W=>Zxe p cap fv W;go_enter func228,ntmps228;go_wp2;refine wp_loop_rounds 1 ?_;rw[rounds_succ]
  go_wp2_with (go_at_call 246;refine(a _).mono ?_;rintro e u ⟨rfl,rfl⟩)
  (try simp only[Exit.inBlock,Exit.then]);refine bodyPost_ret (results_none rfl _ _ _) rfl ?_
  exact⟨rfl,rfl⟩
theorem ZCB  {cap:Nat}   : CP 198 #[.slice p 0 cap, fv] w fun e u => e = .returned (.tuple #[]) /\ u = w := by
  have a:=fun lim W=>ZAy p cap lim fv W;have c:∀W,CP 196 #[.int .u64 0] W fun e u=>e=.returned (Vi (Lib.bitLen 0:Nat))/\u=W:=fun W=>bits_Len 0 W Om Om;go_enter func198,ntmps198
  go_wp2_with (first|(go_at_call 196;refine(c _).mono ?_;rintro e u ⟨rfl,rfl⟩)|(go_at_call 228;refine(a _ _).mono ?_;rintro e u ⟨rfl,rfl⟩))
  go_end0
  exact⟨rfl,rfl⟩
theorem ZCv(base:Nat)(v:Value)(is:List Itm)(w:World)(c:w.ownsRow base 255 3 v is.length (encs is))(D:is.length<=1000) :
  CP 175 #[v] w fun e u=>∃is',e=.returned v/\Hid (is'.Perm is/\(is'.Pairwise fun a b=>Op.bytesLess (bl b.tx) (bl a.tx)=false)/\u.ownsRow base 255 3 v is'.length (encs is')/\w.grownBy u v.ownBlock):=by
 haveI:Inhabited Itm:=⟨⟨none,0,0,⟨#[]⟩,[],0⟩⟩
 by_cases r:is.length=0
 ·obtain rfl:is=[]:=Ya3 r;obtain⟨av,cp,rfl⟩:=Zl c;have E:Hid _:=hid c;clear c r;go_enter func175,ntmps175
  go_wp2_with (go_at_call 198;refine(ZCB).mono ?_;rintro e u ⟨rfl,rfl⟩)
  go_ret;exact⟨[],rfl,hid ⟨Ygz _,List.Pairwise.nil,E.out,⟨rfl,rfl,rfl,Yac _,fun _ _ _=>rfl⟩⟩⟩
 ·obtain⟨g,cp,rfl⟩:=ZF c Om;rcases c.2 with ⟨k,_⟩|⟨g',cap,cur,k,h,o,r1,r2,r3,r4⟩
  ·cases k
  injection k with e1 e2 e3;injection e1 with e1;injection e1 with e1;subst e1 e3;have s:g<w.heap.size:=(Yae.1 o).1
  have t:Sort.HoldsK Itm.enc 3 w g 0 is.toArray:=by
   intro j f;rw[Sort.size_flatK]at f;have q:j<(encs is).length:=by rw[Zlp];simpa using f
   refine⟨?_,by simp[World.frozen?,o]⟩;have e:=Zi c j _ (List.getElem?_eq_getElem q);rw[Ycf,e];have e2:(Sort.flatK Itm.enc 3 is.toArray).toList[j]?=(encs is)[j]?:=by rw[Zpl]
   rw[List.getElem?_eq_getElem q,Yb2,Array.getElem?_eq_getElem (by rw[Sort.size_flatK];exact f)]at e2;rw[getElem!_pos _ j (by rw[Sort.size_flatK];exact f),Yax e2];rfl
  have eg:∀args w,(callFunc 199 args).run prog w=.ok (.enter 199 args) w:=enters_of func199 Kr rfl;have l:CmpLays prog 199 #[] Itm.enc 3 (fun x y=>cmpV (bl x.tx) (bl y.tx)) g 0 is.toArray.size w:=fun _ _ _ _ x y=>ZCu x y;have d:=AnyQ.slices_SortFunc sortItem 3 isAgg255 sizeOf255 Itm.enc (fun _=>rfl) (fun x v k=>by simp[Itm.enc]at k;rcases k with rfl|rfl|rfl <;> rfl) (fun x y=>cmpV (bl x.tx) (bl y.tx)) ZCw 199 #[] g 0 cp is.toArray w eg l t s (by simp;omega);change CP 198 _ _ _ at d;rw[Yb5]at d;have F:Hid _:=hid d;have G:Hid (base<=g/\w.heap[g]?=some (.cells cur 255 (0,0))/\is.length<=cp/\cp<=maxLen/\cur.size=cp*3):=hid ⟨h,o,r1,r2,r3⟩;clear d l eg t c o h r1 r2 r3 r4;go_enter func175,ntmps175
  go_wp2_with (go_at_call 198;refine F.mono ?_;rintro e u ⟨rfl,d',n,os,z,H,rfl⟩)
  go_ret;obtain⟨q1,q2,q3,q4,q5⟩:=G.out;have m:d'.size=is.length:=by rw[z.1];simp
  have p:d'.toList.Perm is:=by
   have:=z.2.2
   rwa [Yem Om,Yem (by simp)]at this
  refine⟨d'.toList,rfl,hid ⟨p,?_,?_,?_⟩⟩
  ·rw[List.pairwise_iff_getElem];intro i j A f B;rw[Ybl]at A f;have:=H i j (Yag _) B Om;unfold ltOf at this;rw[ZhW,getElem!_pos d' i A,getElem!_pos d' j f]at this;simpa using this
  ·change (Sort.grow (Sort.putRow id (Sort.ahead w n) g 0 (Sort.flatK Itm.enc 3 d')) os).ownsRow _ _ _ _ _ _;have C:d'.toList.length=is.length:=by rw[Ybl,m]
   rw[C];refine⟨by rw[Zlp,C],Or.inr ⟨g,cp,Sort.putCells id 0 (Sort.flatK Itm.enc 3 d') cur,rfl,q1,ZwX q2,q3,q4,by simp[Sort.putCells,q5],?_⟩⟩;have:=ZDa cur (Sort.flatK Itm.enc 3 d') (by rw[Sort.size_flatK,m];omega);rw[Sort.size_flatK,Zpl,m]at this;exact this
  ·exact ZwL
theorem Znc(base:Nat)(is:List Itm)(w:World)(c:w.ownsRow base 255 3 v is.length (encs is))(h:base<=w.heap.size)(f:is.length<=1000)(j:∀i∈is,ItmOk w i)(hd:DstE (is.map Itm.el)) :
  CP 175 #[v] w fun e u=>e=.returned v/\∃is',Hid (VecV u v ((is.map Itm.el).foldl Zcd []) is'/\Below base w u):=by
 refine(ZCv base v is w c f).mono ?_;rintro e u ⟨is',rfl,H⟩;obtain⟨g,n,o,k⟩:=H.out;have l:=Z5.grown k c;have d:∀i∈is',ItmOk u i:=fun i p=>(j i (g.mem_iff.1 p)).kb l Dc;refine⟨rfl,is',hid ⟨⟨o.mono (Yag _),?_,d,by rw[g.length_eq];exact f⟩,?_⟩⟩
 ·refine ZCA hd (g.map _) ?_;rw[Ybx];refine Ycx ?_ n;intro a b r s m;have ea:=(d a r).lb.txt;have eb:=(d b s).lb.txt;show Op.bytesLess (wrt b.labs) (wrt a.labs)=false;unfold Itm.labs;rw[<-ea,<-eb];exact m
 ·exact(Yaf base w).grown k h (fun q t=>(c.lt q t).1)
theorem RngV.kb{t:TypeId}{rs:List Str}(h:RngV w v rs)(a:Z5 t w w')(c:311≠t)(d:320≠t)(e:313≠t):RngV w' v rs:=⟨a.own h.row c,fun s f=>(h.ok s f).kb a d e⟩
def Str.itm(s:Str)(v:Int):Itm:=⟨s.a,s.n,s.c,s.tx,s.qs,v⟩
theorem Zp1(h:StrOk w s){v:Int}(a:vOk v):ItmOk w (s.itm v):=⟨h.lb,a⟩
theorem Zmy(op:Option Nat)(c:∀x∈l,smOk x):vOk (oneV op l):=by
 cases op with
 | some o=>exact ZhY
 | none=>
  unfold oneV vOk;simp only;cases l with
  | nil=>decide
  | cons a l=>
   rw[Yel,<-Ye6 (a:=a) (by simp:a::l≠[])];exact(c _ (List.getLast_mem _)).2.2
def itms(op:Option Nat)(rs:List Str):List Itm:=rs.map fun s=>s.itm (oneV op s.jz)
theorem Zp2(op:Option Nat)(rs:List Str){st:List Ser}(nd:Nd)(n t:Int)(h:rs.map Str.pr=ZbH st nd n t):(itms op rs).map Itm.el=ZeZ st nd op n t:=by
 rw[ZAI,<-h];unfold itms;rw[Yb1,Yb1];rfl
theorem ZBN(h:s.jz≠[]):∃a:s.jz.length - 1<s.jz.length,oneV none s.jz=(s.jz[s.jz.length - 1]).2:=by
 have c:0<s.jz.length:=Ycj.2 h;refine⟨by omega,?_⟩;unfold oneV;simp only;rw[<-List.getLast_eq_getElem h];rw[Yey,List.getLast?_eq_some_getLast h];rfl
theorem ZrF(ss:List Srs)(nm:BA)(la:Option Addr)(ln lc:Nat)(nd:Nd)(t:Int)(w:World)(m:StoP w sv ss)(G:Dst (ss.map Srs.ser))(H:bl nm=nd.name)(U:ZX w (.slice la ln lc) nd.jq)(V : -1000000<=t)(X:t<=1000000) :
  CP 135 #[sv,.agg #[.string nm,.slice la ln lc],Vi t] w fun e Y=>∃v is,e=.returned v/\Hid (VecV Y v (Zc4 (ss.map Srs.ser) nd none 10 t) is)/\BW w Y:=by
 obtain⟨i0,D,Z,a0,a1⟩:=info_parts Tryz.infoItem;obtain⟨sa,scp,rfl⟩:=Zl m.row;have I:Hid (∀W,BW w W->CP 134 #[.slice sa ss.length scp,.agg #[.string nm,.slice la ln lc],Vi 10,Vi t] W _):=hid (fun W hW=>ZmR (.slice sa ss.length scp) ss nm la ln lc nd 10 t W (m.below hW) H (U.below hW) Dc Dc V X);have a2:Hid (Dst (ss.map Srs.ser)):=G;have J:Hid (ss.length<=30):=m.len;clear m H U G;go_enter func135,ntmps135
 go_wp2_with fail
 refine(I.out _ belB).mono ?_;rintro e y ⟨rv,rs,rfl,E,K⟩;have L:Hid (BW w y):=hid (Below.trans belB (K.mono (by simp)));obtain⟨ra,rcp,rfl⟩:=Zl E.1.row
 have b3:rs.length<=30:=by
  have R:=congrArg List.length E.2;rw[Yak]at R;have h2:=ZmZ (ss.map Srs.ser) nd 10 t;rw[Yak]at h2;have:=J.out;omega
 clear K I J;have b4:=L.size;go_wp2
 go_loopw [7, 16] (fun v i wr => ∃ k : Nat, k <= rs.length /\ i = Vi k /\ wr.ownsRow w.heap.size 255 3 v k (encs (itms none (rs.take k))) /\ Hid (RngV wr (.slice ra rs.length rcp) rs) /\ Hid (BW w wr))
   (fun _ i _=>rs.length - (intOf i).toNat)
 case atStart=>exact⟨0,Yag _,rfl,Ybc _ _ _ _,hid E.1,L⟩
 case round=>
  obtain⟨k,hk,rfl,d,f,S⟩:=hrel;have a3:=S.size;by_cases r:k<rs.length
  ·have hg:∃g,ra=some ⟨g,0,none⟩:=by
    obtain⟨g,cp',h⟩:=ZF f.row Om;injection h with R;exact⟨g,R⟩
   obtain⟨g,rfl⟩:=hg;obtain⟨f1,f2,f3⟩:=ZoV rs k r;have d1:=Zi f.row _ _ f1;have d2:=Zi f.row _ _ f2;have d3:=Zi f.row _ _ f3;have l:Hid (StrOk wr rs[k]):=hid (f.ok _ (List.getElem_mem r))
   have a4:Hid (itms none (rs.take (k+1))=itms none (rs.take k)++[(rs[k]).itm (oneV none (rs[k]).jz)]):=hid (by
    rw[List.take_succ_eq_append_getElem r];unfold itms;rw[Yaq];rfl)
   generalize rs[k]=s at *
   clear f1 f2 f3;have b5:(k:Int)<(rs.length:Int):=by omega
   obtain⟨hj,x⟩:=ZBN l.ne;obtain⟨sg,soff,a5,z⟩:=l.sam.resolve_left l.ne;obtain⟨m1,m2⟩:=z.cells _ hj;have a6:=l.len;have b6:Hid (vOk (oneV none s.jz)):=hid (Zmy none l.ok);have A:Hid (oneV none s.jz=(s.jz[s.jz.length - 1]).2):=x;clear x z;rw[a5]at d3;obtain⟨sm,M⟩:∃sm,s.jz.length=sm+1:=⟨s.jz.length - 1,by omega⟩
   have a7:((s.jz.length:Int) - 1)=(sm:Int):=by omega
   rw[M]at d3 a6;have e1:s.jz.length - 1=sm:=by omega
   have m1':wr.cell? ⟨sg,soff+sm*2,none⟩=some (Vi (s.jz[s.jz.length - 1]).1):=by rw[<-e1];exact m1
   have m2':wr.cell? ⟨sg,soff+sm*2+1,none⟩=some (Vi (oneV none s.jz)):=by rw[A.out,<-e1];exact m2
   clear m1 m2 a7 M e1 A;generalize(s.jz[s.jz.length - 1]).1=tmx at *
   generalize oneV none s.jz=one at *
   have b2:((sm:Int)+1 - 1)=(sm:Int):=by omega
   have B:sg<wr.heap.size:=Yai _ _ m1';have n1:∀o,(wr.alloc o).cell? ⟨sg,soff+sm*2,none⟩=some (Vi tmx):=fun o=>by rw[Ybm _ _ _ B];exact m1'
   have n2:∀o,(wr.alloc o).cell? ⟨sg,soff+sm*2+1,none⟩=some (Vi one):=fun o=>by rw[Ybm _ _ _ B];exact m2'
   go_wp2_with (at_builtin;refine wpList_append_own _ rfl (.tmp 28) (.tmp 34) 252 rfl w.heap.size 255 i0 (.agg #[S0,.string ByteArray.empty,Vi 0]) 3 48 underlying252 D Z a0 a1 rfl Dc _ _ _ rfl (((d.alloc _).alloc _).alloc _) ⟨wr.heap.size+2,0,none⟩ 1 1 [.slice s.a s.n s.c,.string s.tx,Vi one] rfl rfl ?c1 ?c2 ?c3 ?c4 ?c5 ?_)
   case c1=>exact ZcY (by simp)
   case c2=>intro u hu;simp at hu;rcases hu with rfl|rfl|rfl <;> rfl
   case c3=>unfold maxLen;omega
   case c4=>omega
   case c5=>simp;omega
   intro v' w3 p j _;have N:BW w w3:=(((S.alloc Om _).alloc (by simp;omega) _).alloc (by simp;omega) _).grown j (by simp;omega) (fun q hq=>(d.lt q hq).1);have O:∀o o' o'',Z5 255 wr (((wr.alloc o).alloc o').alloc o''):=fun o o' o''=>Z5.below ((Zbal.alloc (by simp) _).alloc (by simp;omega) _) _;have C:=(O _ _ _).trans (Z5.grown j (((d.alloc _).alloc _).alloc _))
   have F:w3.ownsRow w.heap.size 255 3 v' (k+1) (encs (itms none (rs.take (k+1)))):=by
    rw[a4.out,Zh1];exact p
   have a8:=hid (f.kb C Dc Dc Dc);clear d j p O C d1 d2 d3 m1' m2';have a9:Hid _:=hid N;clear N;go_wp2
   go_roundw
   case rel=>exact⟨k+1,by omega,by go_num,F,a8,a9⟩
   case measure=>simp[intOf];omega
  ·obtain rfl:k=rs.length:=by omega
   rw[Ya4]at d;have P:Hid ((itms none rs).map Itm.el=ZeZ (ss.map Srs.ser) nd none 10 t):=hid (Zp2 none rs nd 10 t E.2);have T:(itms none rs).length=rs.length:=by unfold itms;rw[Yak]
   rw[<-T]at d
   have Q := hid (Znc w.heap.size (itms none rs) wr d a3 Om (fun i D => by
     unfold itms at D;obtain⟨s,hs,rfl⟩:=Ybe.1 D;exact Zp1 (f.ok s hs) (Zmy none (f.ok s hs).ok)) (by rw[P.out];exact ZmN a2.out nd none 10 t))
   rw[P.out]at Q;clear d
   go_wp2_with fail
   refine Q.mono ?_;rintro e w5 ⟨rfl,is',H5⟩;have b0:Hid (BW w w5):=hid (S.trans H5.2);have b1:Hid (VecV w5 _ (Zc4 (ss.map Srs.ser) nd none 10 t) is'):=hid (by rw[Zny];exact H5.1);go_wp2;go_ret;exact⟨_,is',rfl,b1,b0.out⟩
theorem Zr0:∀(xs:List (LB)) (last:Int) (n m:Nat),Zcq last n xs=some m->(∀x∈xs.map smV,last<x.1)/\TmS (xs.map smV)/\m=n+xs.length
 | [], last, n, m, h => by
   simp only[Zcq,Yci]at h;exact⟨(fun x j=>by cases j),List.Pairwise.nil,by simp[h]⟩
 | x :: xs, last, n, m, h => by
   unfold Zcq at h;cases c:Zdn x with
   | none=>rw[c]at h;cases h
   | some t=>
     rw[c]at h;simp only at h;split at h
     · cases h
     · rename_i k
       obtain⟨i1,i2,i3⟩:=Zr0 xs t (n+1) m h
       have f:(smV x).1=(t:Int):=by
         unfold Zdn at c;unfold smV;cases i:cut 58 x with
         | none=>rw[i]at c;cases c
         | some p=>
           obtain⟨a,d⟩:=p;rw[i]at c;simp only at c ⊢;cases g:ZQ 1000000 a with
           | none=>rw[g]at c;cases c
           | some tm=>
             rw[g]at c;simp only at c;split at c
             · rw[ZgX g];injection c with c;rw[c]
             · cases c
       refine⟨fun y e=>?_,?_,by simp;omega⟩
       · rcases Yau.1 e with rfl|e
         · rw[f];omega
         · have:=i1 y e;omega
       · exact Ybg.2 ⟨fun y e=>by rw[f];exact i1 y e,i2⟩
theorem ZBL{z:LB}(h:Zcz z=some n):TmS (Zez z)/\(Zez z).length=n:=by
 unfold Zcz at h;cases z with
 | nil=>simp at h;exact⟨List.Pairwise.nil,by simp[Zez,h]⟩
 | cons c t=>
  by_cases d:(c == 32)=true
  ·have a:ZbI 32 (c::t)=(t,true):=if_pos d;rw[a]at h;simp only[reduceCtorEq,if_false,if_true]at h;obtain⟨_,e,f⟩:=Zr0 _ _ _ _ h;exact⟨e,by simp[Zez,f]⟩
  ·have a:ZbI 32 (c::t)=(c::t,false):=if_neg d;rw[a]at h;simp at h
theorem Zl9{l nm e:LB}(h:line l=some (nm,e,n)):Zx nm=true/\(Zcc e).isSome=true/\TmS (Zdo l)/\(Zdo l).length=n:=by
 cases c:cut 123 l with
 | none=>rw[ZjF c]at h;cases h
 | some p=>
  obtain⟨x,r⟩:=p;cases a:cut 125 r with
  | none=>rw[ZjE c a]at h;cases h
  | some q=>
   obtain⟨y,z⟩:=q;rw[ZjG c a]at h;split at h
   ·rename_i d;rw[Yas]at d;cases f:Zcz z with
    | none=>rw[f]at h;cases h
    | some k=>
     rw[f]at h;simp only[Ybf,Yci,Yc5]at h;obtain⟨rfl,rfl,rfl⟩:=h;have:=ZBL f;rw[Zr1 d.1 c a];exact⟨d.1,d.2,this⟩
   ·cases h
theorem ZBF{sc:Nat}(h:w.ownsRow 0 313 2 (.slice sa n sc) n (Zca l))(a:l.length=n):SamV w sa l/\n<=sc:=by
 by_cases c:l=[]
 ·subst c;refine⟨Or.inl rfl,?_⟩;rw[<-a];exact Yag _
 ·have r:0<n:=by rw[<-a];exact Ycj.2 c
  rcases h.2 with ⟨_,e⟩|⟨g,cap,cur,e,_,k,m,_,_,o⟩
  ·omega
  ·injection e with e1 _ e3;subst e1 e3;refine⟨Or.inr ⟨g,0,rfl,cur,(0,0),k,fun j p=>?_⟩,m⟩;have d:=Zwh l j;rw[List.getElem?_eq_getElem p]at d
   have f : ∀ i, i < n * 2 -> cur[i]? = (Zca l)[i]? := fun i q => by
     rw[<-o,List.getElem?_take,if_pos q,Yb2]
   rw[Ycf,f _ Om,f _ Om];exact d
theorem ZvP(zs:List Srs)(rs:List (Value×Value×Value×Value))(d:rs.length=zs.length)(h:∀j (f:j<zs.length),rs[j]?=some (.string zs[j].nm,.slice zs[j].a zs[j].n zs[j].c,.string zs[j].tx,.slice zs[j].sa zs[j].jz.length zs[j].sc)):encS zs=ZbP rs:=by
 induction zs generalizing rs with
 | nil => cases rs with
   | nil=>rfl
   | cons _ _=>simp at d
 | cons z zs ih=>
  cases rs with
  | nil=>simp at d
  | cons r rs=>
   have e:=h 0 (by simp);simp only[Ycy,List.getElem_cons_zero,Yci]at e;subst e;rw[ZbP,<-ih rs (by simpa using d) (fun j f=>by have:=h (j+1) (by simp;omega);simpa using this)];rfl
theorem Zwa(rs:List (Value×Value×Value×Value)):(ZbP rs).length=rs.length*4:=by
 induction rs with
 | nil=>rfl
 | cons r rs ih=>simp only[ZbP,Yaj,ih];omega
theorem ZyB{l:LB}{es:List Entry}(h:(Zbp l).1=0)(a:Zbh 0 [] (split 10 l)=.inr es):Zfk [] es=none/\l.length<=6000:=by
 unfold Zbp at h;split at h
 ·cases h
 ·rename_i c;rw[a]at h;simp only at h;rw[ZDv a]at h;cases hd:Zfk [] es with
  | none=>exact⟨rfl,by omega⟩
  | some i=>rw[hd]at h;cases h
theorem ZiM.sto{l:LB}(F:(Zbp l).1=0)(h:ZiM w v l):∃ss:List Srs,StoP w v ss/\ss.map Srs.ser=Ze6 l/\Dst (ss.map Srs.ser)/\ss.length<=30:=by
 obtain⟨es,rs,s,P,x,t⟩:=h;obtain⟨hd,M⟩:=ZyB F s
 have G : ∀ j (d : j < es.length), (es[j]).count <= 6001 := fun j d => (ZqJ s (by simp) (fun p H => by
   obtain⟨i,m,rfl⟩:=List.mem_iff_getElem.1 H;have:=Zkd 10 l i m;rw[Yaa,List.getElem?_eq_getElem m,Ya6]at this;omega)).2 _ (List.getElem_mem d)
 have y:rs.length=es.length:=by have:=x.1;rw[Zwa]at this;omega
 have A := Zoa (fun j (z : Srs) => ∃ d : j < es.length, rs[j]? = some (.string z.nm, .slice z.a z.n z.c, .string z.tx, .slice z.sa z.jz.length z.sc) /\ z.ser = serE (split 10 l) es[j] /\ SrsOk w z) es.length (fun j d => by
   obtain⟨nm,a,n,c,tx,sa,sc,e1,⟨N,qs,g1,g2,g3,g4,g5⟩,e3⟩:=t j d;rw[e3]at g1;simp only[Yci,Yc5]at g1;obtain⟨b1,b2,_⟩:=g1;obtain⟨c1,c2,c3,c4⟩:=Zl9 e3;have B:n=qs.length:=by obtain⟨_,_,e⟩:=Zl g3.1;injection e
   obtain⟨s1,s2⟩:=ZBF g5 c4;have u:(qs.map blP).length<=6001:=by rw[Yak];exact g3.2.1
   refine⟨⟨nm,a,n,c,tx,qs,sa,sc,Zdo ((split 10 l).getD (es[j]).at_ [])⟩,d,?_,?_,?_⟩
   · show rs[j]?=some (.string nm,.slice a n c,.string tx,.slice sa (Zdo ((split 10 l).getD (es[j]).at_ [])).length sc)
     rw[e1,c4]
   · show(⟨bl nm,qs.map blP,Zdo ((split 10 l).getD (es[j]).at_ [])⟩:Ser)=⟨(es[j]).name,(Zcc (es[j]).inside).getD [],Zdo ((split 10 l).getD (es[j]).at_ [])⟩
     rw[b1,b2,g2];rfl
   · exact⟨⟨by rw[B];rw[B]at g3;exact g3,by rw[g4];exact Zl5 qs,ZxM g2 u⟩,s1,c3,by show(Zdo _).length<=_;rw[c4];exact G j d,by show(Zdo _).length<=_;rw[c4];exact s2,ZBM⟩)
 obtain⟨zs,f,g⟩:=A;have q:Ze6 l=es.map (serE (split 10 l)):=by unfold Ze6;rw[s]
 have r:zs.map Srs.ser=Ze6 l:=by
  rw[q];refine List.ext_getElem (by rw[Yak,Yak,f]) (fun j C O=>?_);rw[List.getElem_map,List.getElem_map];exact(g j (by simpa using C)).2.2.1
 refine⟨zs,⟨?_,fun z I=>?_,by omega⟩,r,?_,by omega⟩
 ·have:=ZvP zs rs (by rw[y,f]) (fun j d=>(g j d).2.1);rw[this,f];exact x
 ·obtain⟨j,d,rfl⟩:=List.mem_iff_getElem.1 I;exact(g j d).2.2.2
 ·rw[r,q];unfold Dst;rw[Ybx];refine Ycx ?_ (ZoQ es [] hd).1;intro a b J K D E;obtain⟨i,m,rfl⟩:=List.mem_iff_getElem.1 J;obtain⟨k,L,rfl⟩:=List.mem_iff_getElem.1 K;obtain⟨_,_,_,_,_,_,_,_,_,e1⟩:=t i m;obtain⟨_,_,_,_,_,_,_,_,_,e2⟩:=t k L;obtain⟨n1,l1,_⟩:=Zl9 e1;obtain⟨n2,l2,_⟩:=Zl9 e2;obtain⟨p1,l1⟩:=Ycw.1 l1;obtain⟨p2,l2⟩:=Ycw.1 l2;refine D ((Zxv n1 n2).2 ⟨E.1,?_⟩);have o:=E.2;unfold serE at o;simp only[l1,l2,Ya6]at o;rw[Ztn l1,Ztn l2]at o;exact o
theorem Vars.sents{m:Int}(h:Vars w A m):Sents w (A 0) (A 1) (A 2) (A 3):=
 ⟨h.sent _ Dc,h.sent _ Dc,h.sent _ Dc,h.sent _ Dc⟩
theorem ZM.cells{p:Int}{a:Addr}(h:ZM w v p a):∃fa:Nat,v=.iface 94 (Vp fa)/\w.cell? ⟨fa,1,none⟩=some (Vi p)/\w.cell? ⟨fa,2,none⟩=some (.iface 389 (.pointer (some a))):=by
 obtain⟨fa,d,c⟩:=h;exact⟨fa,d,by simp[World.cell?,c],by simp[World.cell?,c]⟩
def Zfb(w:World)(A:Nat->Addr)(err:Value)(c p:Nat):Prop:=
 (err=.nilIface/\c=0/\p=0)∨
 (err=.iface 389 (.pointer (some (A 0)))/\c=1/\p=0)∨
 (err=.iface 389 (.pointer (some (A 3)))/\c=4/\p=0)∨
 (err=.iface 389 (.pointer (some (A 6)))/\c=7/\p=0)∨
 (err=.iface 389 (.pointer (some (A 7)))/\c=8/\p=0)∨
 (∃fa:Nat,err=.iface 94 (Vp fa)/\w.cell? ⟨fa,1,none⟩=some (Vi p)/\
  ((c=2/\w.cell? ⟨fa,2,none⟩=some (.iface 389 (.pointer (some (A 1)))))∨
   (c=3/\w.cell? ⟨fa,2,none⟩=some (.iface 389 (.pointer (some (A 2)))))∨
   (c=5/\w.cell? ⟨fa,2,none⟩=some (.iface 389 (.pointer (some (A 4)))))∨
   (c=6/\w.cell? ⟨fa,2,none⟩=some (.iface 389 (.pointer (some (A 5)))))))
theorem Zfb.rd{r:Except (Nat×Nat) Tr}{pv:Value}(f:r=.error x)(h:RdIs w (A 0) (A 1) (A 2) (A 3) r pv v):Zfb w A v x.1 x.2/\∃ty u,v=.iface ty u:=by
 subst f;rcases h with ⟨rfl,rfl⟩|⟨rfl,rfl⟩|⟨a,c⟩|⟨a,c⟩
 ·exact⟨Or.inr (Or.inl ⟨rfl,rfl,rfl⟩),_,_,rfl⟩
 ·exact⟨Or.inr (Or.inr (Or.inl ⟨rfl,rfl,rfl⟩)),_,_,rfl⟩
 ·obtain⟨fa,rfl,d,e⟩:=c.cells;exact⟨Or.inr (Or.inr (Or.inr (Or.inr (Or.inr ⟨fa,rfl,d,Or.inl ⟨a,e⟩⟩)))),_,_,rfl⟩
 ·obtain⟨fa,rfl,d,e⟩:=c.cells;exact⟨Or.inr (Or.inr (Or.inr (Or.inr (Or.inr ⟨fa,rfl,d,Or.inr (Or.inl ⟨a,e⟩)⟩)))),_,_,rfl⟩
theorem Zfb.ld{r:Nat×Nat}(h:Zei w A v r):(r.1=0/\v=.nilIface)∨(r.1≠0/\Zfb w A v r.1 r.2/\∃ty u,v=.iface ty u):=by
 rcases h with ⟨rfl,rfl⟩|⟨rfl,rfl⟩|⟨rfl,rfl⟩|⟨i,fa,rfl,rfl,a,c⟩|⟨i,fa,rfl,rfl,a,c⟩
 ·exact Or.inl ⟨rfl,rfl⟩
 ·exact Or.inr ⟨by simp,Or.inr (Or.inl ⟨rfl,rfl,rfl⟩),_,_,rfl⟩
 ·exact Or.inr ⟨by simp,Or.inr (Or.inr (Or.inr (Or.inl ⟨rfl,rfl,rfl⟩))),_,_,rfl⟩
 ·exact Or.inr ⟨by simp,Or.inr (Or.inr (Or.inr (Or.inr (Or.inr ⟨fa,rfl,a,Or.inr (Or.inr (Or.inl ⟨rfl,c⟩))⟩)))),_,_,rfl⟩
 ·exact Or.inr ⟨by simp,Or.inr (Or.inr (Or.inr (Or.inr (Or.inr ⟨fa,rfl,a,Or.inr (Or.inr (Or.inr ⟨rfl,c⟩))⟩)))),_,_,rfl⟩
theorem Zss(s:BA)(A:Nat->Addr)(m:Int)(w:World)(a:Vars w A m)(c:s.size<=maxLen) :
  CP 24 #[.string s] w fun e u=>∃sv err,e=.returned (.tuple #[sv,err])/\Hid (Zei u A err (Zbp (bl s)))/\BW w u/\Hid ((Zbp (bl s)).1=0->ZiM u sv (bl s)):=by
 by_cases h:s.size<=6000
 ·exact ZBt s A m w a h
 ·have e:Zbp (bl s)=(1,0):=by unfold Zbp;rw[if_pos (by rw[Zd];omega)]
  rw[e];refine(ZBr s A m w a Om c).mono ?_;rintro e' u ⟨v,err,d,f,g⟩;exact⟨v,err,d,f,g,hid (fun h=>by cases h)⟩
theorem ZDw {l:List Int} (x : Int) (a : l.length <= 10000) (c : ∀ y ∈ l, vOk y) (d : vOk x) (t0 t1 t2 t3 t4 t5 : Int) (f : talC l = [Vi t0, Vi t1, Vi t2, Vi t3, Vi t4, Vi t5])  : CP 173 #[.agg #[Vi t0, Vi t1, Vi t2, Vi t3, Vi t4, Vi t5], Vi x] w fun e u => ∃ r0 r1 r2 r3 r4 r5 : Int, e = .returned (.agg #[Vi r0, Vi r1, Vi r2, Vi r3, Vi r4, Vi r5]) /\ Hid (talC (l ++ [x]) = [Vi r0, Vi r1, Vi r2, Vi r3, Vi r4, Vi r5]) /\ BW w u := by
  have h:=ZsT l x a c d w;unfold talV at h;rw[f]at h;refine h.mono ?_;rintro e u ⟨rfl,g⟩;exact⟨_,_,_,_,_,_,rfl,hid rfl,g⟩
theorem ZsR (op : Nat) (a : op <= 4) {l:List Int} (c : l.length <= 10000) (d : ∀ y ∈ l, vOk y) (t0 t1 t2 t3 t4 t5 : Int) (f : talC l = [Vi t0, Vi t1, Vi t2, Vi t3, Vi t4, Vi t5])  : CP 174 #[.agg #[Vi t0, Vi t1, Vi t2, Vi t3, Vi t4, Vi t5], Vi op] w fun e u => e = .returned (Vi (cutV (ZfI op l))) /\ BW w u := by
  have h:=ZDl op a l c d w;unfold talV at h;rw[f]at h;exact h
def set6(w:World)(a:Nat)(x0 x1 x2 x3 x4 x5:Value):World:=(((((w.setCell ⟨a,0,none⟩ x0).setCell ⟨a,1,none⟩ x1).setCell ⟨a,2,none⟩ x2).setCell ⟨a,3,none⟩ x3).setCell ⟨a,4,none⟩ x4).setCell ⟨a,5,none⟩ x5
theorem ZB2{p0 p1 p2 p3 p4 p5:Value}{t:TypeId}(h:BAt w a [p0,p1,p2,p3,p4,p5] t):BAt (set6 w a x0 x1 x2 x3 x4 x5) a [x0,x1,x2,x3,x4,x5] t:=by
 unfold BAt at h;unfold BAt set6;simp only[World.setCell,Ybn,h,if_true,Ybf];rfl
theorem ZB3{B:Nat}(c:B<=a):Below B w (set6 w a x0 x1 x2 x3 x4 x5):=by
 unfold set6;exact((((((Yaf B w).setCell (p:=⟨a,0,none⟩) c _).setCell (p:=⟨a,1,none⟩) c _).setCell (p:=⟨a,2,none⟩) c _).setCell (p:=⟨a,3,none⟩) c _).setCell (p:=⟨a,4,none⟩) c _).setCell (p:=⟨a,5,none⟩) c _
theorem ZB4{b:Nat}{c:List Value}{t:TypeId}(h:BAt w b c t)(d:b≠a):BAt (set6 w a x0 x1 x2 x3 x4 x5) b c t:=by
 unfold set6;exact(((((h.other (p:=⟨a,0,none⟩) d _).other (p:=⟨a,1,none⟩) d _).other (p:=⟨a,2,none⟩) d _).other (p:=⟨a,3,none⟩) d _).other (p:=⟨a,4,none⟩) d _).other (p:=⟨a,5,none⟩) d _
theorem ZiD(l:List Int):∃t0 t1 t2 t3 t4 t5:Int,talC l=[Vi t0,Vi t1,Vi t2,Vi t3,Vi t4,Vi t5]:=⟨_,_,_,_,_,_,rfl⟩
theorem ZrE(op:Nat)(d4:op<=4)(rv:Value)(rs:List Str)(st:List Ser)(nd:Nd)(n t:Int)(hr:RngV w rv rs)(hm:rs.map Str.pr=ZbH st nd n t)(a6:Dst st)(e8:rs.length<=30) :
  CP 133 #[Vi op,rv] w fun e l=>∃v is,e=.returned v/\Hid (VecV l v (Zc4 st nd (some op) n t) is)/\BW w l:=by
 obtain⟨i0,X,a7,a8,a9⟩:=info_parts Tryz.infoItem;obtain⟨ra,rcp,rfl⟩:=Zl hr.row;have HR:Hid (RngV w (.slice ra rs.length rcp) rs):=hr;have HM:Hid (rs.map Str.pr=ZbH st nd n t/\Dst st):=⟨hm,a6⟩
 clear hr hm a6;go_enter func133,ntmps133
 go_wp2_with (at_make;refine wpList_make_own _ rfl _ _ 252 rfl w.heap.size 255 i0 _ 3 underlying252 X a7 a8 _ _ _ rs.length rfl rfl rfl ?b2 ?b3 ?b4 ?_)
 case b2=>rw[a9];omega
 case b3=>unfold maxLen;omega
 case b4=>exact Yac _
 intro w1 a4 J;have b0:Hid (BW w w1):=hid ((Yaf _ _).grown J (Yac _) (fun q hq=>by cases hq));have d5:=hid (HR.below b0.out);clear J;go_wp2
 go_loopw [5, 16] (fun v i wr => ∃ k : Nat, k <= rs.length /\ i = Vi k /\ wr.ownsRow w.heap.size 255 3 v k (encs (itms (some op) (rs.take k))) /\ Hid (RngV wr (.slice ra rs.length rcp) rs) /\ Hid (BW w wr))
   (fun _ i _=>rs.length - (intOf i).toNat)
 case atStart=>exact⟨0,Yag _,rfl,a4,d5,b0⟩
 case round=>
  rename World=>wo
  obtain⟨k,hk,rfl,B,A,HB⟩:=hrel;have b1:=HB.size;by_cases Y:k<rs.length
  ·have hg:∃g,ra=some ⟨g,0,none⟩:=by
    obtain⟨g,cp',h⟩:=ZF A.row Om;injection h with h1;exact⟨g,h1⟩
   obtain⟨g,rfl⟩:=hg;obtain⟨f1,f2,f3⟩:=ZoV rs k Y;have d1:=Zi A.row _ _ f1;have d2:=Zi A.row _ _ f2;have d3:=Zi A.row _ _ f3;have E:Hid (StrOk wo rs[k]):=hid (A.ok _ (List.getElem_mem Y))
   have d6:Hid (itms (some op) (rs.take (k+1))=itms (some op) (rs.take k)++[(rs[k]).itm (oneV (some op) (rs[k]).jz)]):=hid (by
    rw[List.take_succ_eq_append_getElem Y];unfold itms;rw[Yaq];rfl)
   generalize rs[k]=s at *
   clear f1 f2 f3;have e9:(k:Int)<(rs.length:Int):=by omega
   obtain⟨sg,soff,b5,M⟩:=E.sam.resolve_left E.ne;have d7:=E.len;rw[b5]at d3
   have e7:sg<wo.heap.size:=by
    have hj:0<s.jz.length:=Ycj.2 E.ne;exact Yai _ _ (M.cells 0 hj).1
   have b6:Hid (ZkA wo sg soff s.jz):=M;clear M b5;obtain⟨sn,Z⟩:∃sn,s.jz.length=sn:=⟨_,rfl⟩
   have a0:Hid (s.jz.length=sn):=Z;rw[Z]at d3 d7;clear Z;go_wp2
   go_loopw [23] (fun i wi => ∃ j : Nat, j <= sn /\ i = Vi j /\ Hid (BW wo wi) /\ Hid (BAt wi wo.heap.size [.slice s.a s.n s.c, .string s.tx, .slice (some ⟨sg, soff, none⟩) sn s.sc] 311) /\ Hid (BAt wi (wo.heap.size + 1) (talC ((s.jz.take j).map (·.2))) 303))
     (fun i _=>sn - (intOf i).toNat)
   case atStart=>
    refine⟨0,Yag _,rfl,hid (Zbal.alloc (by simp) _),hid ?_,hid ?_⟩
    ·exact(Zbal.block _ (by simp)).trans (Go.Deep.blk_alloc_new _ _)
    ·have:=Go.Deep.blk_alloc_new (wo.alloc (.cells #[.slice s.a s.n s.c,.string s.tx,.slice (some ⟨sg,soff,none⟩) sn s.sc] 311)) (.cells #[Vi 0,Vi 0,Vi 0,Vi 0,Vi 0,Vi 0] 303);rw[Go.Deep.nblk_alloc]at this;exact this
   case round=>
    obtain⟨j,hj,rfl,C,L,m⟩:=hrel;have d8:=C.size;have f0:=L.lt;have f4:=m.lt;by_cases d9:j<sn
    ·have a1:j<s.jz.length:=by rw[a0.out];exact d9
     obtain⟨m1,m2⟩:=b6.cells j a1;have m1':=(Zo.below C.out).cell m1;have m2':=(Zo.below C.out).cell m2;have a2:Hid (vOk (s.jz[j]).2):=hid (E.ok _ (List.getElem_mem a1)).2.2;have e0:Hid ((s.jz.take (j+1)).map (·.2)=(s.jz.take j).map (·.2)++[(s.jz[j]).2]):=hid (by rw[List.take_succ_eq_append_getElem a1,Yaq];rfl)
     have I : Hid (((s.jz.take j).map (·.2)).length <= 10000 /\ ∀ y ∈ (s.jz.take j).map (·.2), vOk y) := hid ⟨by rw [Yak, Ya7]; omega, fun y hy => by
       obtain⟨z,hz,rfl⟩:=Ybe.1 hy;exact(E.ok z (Ydn hz)).2.2⟩
     generalize(s.jz[j]).1=x1 at *
     generalize(s.jz[j]).2=x2 at *
     clear m1 m2;obtain⟨t0,t1,t2,t3,t4,t5,x⟩:=ZiD ((s.jz.take j).map (·.2));rw[x]at m;have N:Hid (talC ((s.jz.take j).map (·.2))=[Vi t0,Vi t1,Vi t2,Vi t3,Vi t4,Vi t5]):=x;clear x;have c0:=m.cell 0;have c1:=m.cell 1;have c2:=m.cell 2;have c3:=m.cell 3;have c4:=m.cell 4;have c5:=m.cell 5;simp only[Zget]at c0 c1 c2 c3 c4 c5;have f5:(j:Int)<(sn:Int):=by omega
     go_wp2_with fail
     refine Zm fun W hW=>?_;have O:BW wr W:=by rw[hW];exact Zbal
     have b7:=hid (m.below O);have b8:=hid (L.below O);have a3:Hid (BW wo W):=hid (C.trans (O.mono d8));clear hW O c0 c1 c2 c3 c4 c5 m L C m1' m2';refine(ZDw x2 I.1 I.2 a2.out t0 t1 t2 t3 t4 t5 N.out).mono ?_;rintro e H ⟨r0,r1,r2,r3,r4,r5,rfl,e1,p⟩;have d:=hid (b7.below p);have P:=hid (b8.below p);have r:Hid (BW wo H):=hid (a3.trans (p.mono a3.size));clear p b7 b8 a3 N I a2;have z0:=d.frozen 0;have z1:=d.frozen 1;have z2:=d.frozen 2;have z3:=d.frozen 3;have z4:=d.frozen 4;have z5:=d.frozen 5;have c0:=d.cell 0;have c1:=d.cell 1;have c2:=d.cell 2;have c3:=d.cell 3;have c4:=d.cell 4;have c5:=d.cell 5;simp only[Zget]at c0 c1 c2 c3 c4 c5;go_wp2
     go_roundw
     case rel=>
      refine⟨j+1,by omega,by go_num,hid (r.trans (ZB3 Om)),hid (ZB4 P.out Om),hid ?_⟩;rw[e0.out,e1.out];exact ZB2 d.out
     case measure=>simp[intOf];omega
    ·obtain rfl:j=sn:=by omega
     have Q:s.jz.take j=s.jz:=by rw[<-a0.out,Ya4]
     rw[Q]at m;obtain⟨t0,t1,t2,t3,t4,t5,x⟩:=ZiD (s.jz.map (·.2));rw[x]at m;have N:Hid (talC (s.jz.map (·.2))=[Vi t0,Vi t1,Vi t2,Vi t3,Vi t4,Vi t5]):=x
     have I : Hid ((s.jz.map (·.2)).length <= 10000 /\ ∀ y ∈ s.jz.map (·.2), vOk y) := hid ⟨by rw [Yak, a0.out]; omega, fun y hy => by
       obtain⟨z,hz,rfl⟩:=Ybe.1 hy;exact(E.ok z hz).2.2⟩
     have c9:Hid (oneV (some op) s.jz=cutV (ZfI op (s.jz.map (·.2)))):=hid rfl;generalize oneV (some op) s.jz=one at *
     clear x Q;have c0:=m.cell 0;have c1:=m.cell 1;have c2:=m.cell 2;have c3:=m.cell 3;have c4:=m.cell 4;have c5:=m.cell 5;have y0:=L.cell 0;have y1:=L.cell 1;simp only[Zget]at c0 c1 c2 c3 c4 c5 y0 y1;have R:=Zn B C.out;have e2:=hid (A.below C.out);have b9:Hid (BW w wr):=hid (HB.trans (C.mono b1));clear B A HB b6 d1 d2 d3;have e3:=b9.size
     go_upto_region 11 with fail
     have S:Hid (∀l,BAt l wo.heap.size [.slice s.a s.n s.c,.string s.tx,.slice (some ⟨sg,soff,none⟩) j s.sc] 311->BAt l (wo.heap.size+1) [Vi t0,Vi t1,Vi t2,Vi t3,Vi t4,Vi t5] 303->l.cell? ⟨wo.heap.size,0,none⟩=some (.slice s.a s.n s.c)/\l.cell? ⟨wo.heap.size,1,none⟩=some (.string s.tx)/\l.cell? ⟨wo.heap.size+1,0,none⟩=some (Vi t0)/\l.cell? ⟨wo.heap.size+1,1,none⟩=some (Vi t1)/\l.cell? ⟨wo.heap.size+1,2,none⟩=some (Vi t2)/\l.cell? ⟨wo.heap.size+1,3,none⟩=some (Vi t3)/\l.cell? ⟨wo.heap.size+1,4,none⟩=some (Vi t4)/\l.cell? ⟨wo.heap.size+1,5,none⟩=some (Vi t5)):=hid (fun l h1 h2=>⟨h1.cell 0,h1.cell 1,h2.cell 0,h2.cell 1,h2.cell 2,h2.cell 3,h2.cell 4,h2.cell 5⟩);refine Zbn 9 (fun l=>l.cell? ⟨wo.heap.size,0,none⟩=some (.slice s.a s.n s.c)/\l.cell? ⟨wo.heap.size,1,none⟩=some (.string s.tx)/\l.cell? ⟨wo.heap.size+1,0,none⟩=some (Vi t0)/\l.cell? ⟨wo.heap.size+1,1,none⟩=some (Vi t1)/\l.cell? ⟨wo.heap.size+1,2,none⟩=some (Vi t2)/\l.cell? ⟨wo.heap.size+1,3,none⟩=some (Vi t3)/\l.cell? ⟨wo.heap.size+1,4,none⟩=some (Vi t4)/\l.cell? ⟨wo.heap.size+1,5,none⟩=some (Vi t5)) Kr (by exact S.out _ L.out m.out) (fun f=>?_);clear c0 c1 c2 c3 c4 c5 y0 y1;refine Za 0 f (h:=?_);refine Za 1 f (h:=?_);refine Za 2 f (h:=?_);refine Za 3 f (h:=?_);refine Za 4 f (h:=?_);refine Z4 (i:=5) Kr rfl (fun K F=>?_);go_simp;refine(ZsR op d4 I.1 I.2 t0 t1 t2 t3 t4 t5 N.out).mono ?_;rintro e H ⟨rfl,p⟩;have r:Hid (BW wr H):=hid ⟨p.os,p.tape,p.output,p.size,p.block⟩;have d:=hid (m.below r.out);have P:=hid (L.below r.out);clear p;rw[<-c9.out];go_simp;refine F.out _ _ (S.out _ P.out d.out) (fun f=>?_);clear F K
     try simp only[Act.put,Zset]
     refine Za 6 f (h:=?_);refine Z4 (i:=7) Kr rfl (fun K F=>?_);have T:Hid (∀o,BW H (H.alloc o)):=hid (fun o=>Zbal);go_simp;refine F.out _ _ (S.out _ (P.below (T.out _)) (d.below (T.out _))) (fun f=>?_);clear F K
     try simp only[Act.put,Zset]
     refine Z4 (i:=8) Kr rfl (fun K F=>?_);have D:=Zn R r.out;have c6:=r.size;refine ZfF rfl (.tmp 32) (.tmp 39) 252 rfl w.heap.size 255 i0 _ 3 48 underlying252 X a7 a8 a9 rfl Dc _ k (encs (itms (some op) (rs.take k))) (by simp[Act.eval]) (D.alloc _) ⟨H.heap.size,0,none⟩ 1 1 [.slice s.a s.n s.c,.string s.tx,Vi one] (by simp[Act.eval]) rfl ?h2 ?h3 ?h4 ?h5 ?h6 ?_
     case h2=>exact ZcY rfl
     case h3=>intro u hu;simp at hu;rcases hu with rfl|rfl|rfl <;> rfl
     case h4=>unfold maxLen;omega
     case h5=>omega
     case h6=>simp;omega
     intro v6 w6 U G _;have V:Z5 255 wr w6:=(Z5.below (r.trans ((T.out _).mono c6)) _).trans (Z5.grown G (D.alloc _));have e4:Hid (BW w w6):=hid ((b9.trans ((r.trans ((T.out _).mono c6)).mono e3)).grown G (by simp;omega) (fun q hq=>(D.lt q hq).1))
     have a5:w6.ownsRow w.heap.size 255 3 v6 (k+1) (encs (itms (some op) (rs.take (k+1)))):=by
      rw[d6.out,Zh1];exact U
     have e5:=hid (e2.kb V Dc Dc Dc);refine F.out _ _ (S.out _ (V _ _ _ _ Dc L.out) (V _ _ _ _ Dc m.out)) (fun f=>?_);clear F K
     try simp only[Act.put,Zset]
     refine Zbl Kr Kr rfl Kr (fun K F=>?_);go_simp;refine F.out _ _ ?_;clear F K G U D R V;go_wp2
     go_roundw
     case rel=>exact⟨k+1,by omega,by go_num,a5,e5,e4⟩
     case measure=>simp[intOf];omega
  ·obtain rfl:k=rs.length:=by omega
   rw[Ya4]at B;have c7:Hid ((itms (some op) rs).map Itm.el=ZeZ st nd (some op) n t):=hid (Zp2 (some op) rs nd n t HM.1);have d0:(itms (some op) rs).length=rs.length:=by unfold itms;rw[Yak]
   rw[<-d0]at B
   have c8 := hid (Znc w.heap.size (itms (some op) rs) wo B b1 Om (fun i X => by
     unfold itms at X;obtain⟨s,hs,rfl⟩:=Ybe.1 X;exact Zp1 (A.ok s hs) (Zmy (some op) (A.ok s hs).ok)) (by rw[c7.out];exact ZmN HM.2 nd (some op) n t))
   rw[c7.out]at c8;clear B
   go_wp2_with fail
   refine c8.mono ?_;rintro e H ⟨rfl,is',H5⟩;have r:Hid (BW w H):=hid (HB.trans H5.2);have e6:Hid (VecV H _ (Zc4 st nd (some op) n t) is'):=hid (by rw[Zny];exact H5.1);go_wp2;go_ret;exact⟨_,is',rfl,e6,r.out⟩
def chg(f:Int->Int)(l:List Itm):List Itm:=l.map fun i=>{ i with v:=f i.v }
theorem ZuA (f : Int -> Int) (l : List Itm) : (chg f l).map Itm.el = (l.map Itm.el).map fun e => (e.1, f e.2) := by
  unfold chg;rw[Yb1,Yb1];rfl
theorem VecV.kb{t:TypeId}{l:List El}(h:VecV w v l is)(a:Z5 t w w')(c:255≠t)(d:320≠t):VecV w' v l is:=⟨a.own h.row c,h.els,fun i e=>(h.ok i e).kb a d,h.len⟩
theorem Zlo(v:Value)(l:List El)(is:List Itm)(g:Nat)(cb:Array Value)(f:Int->Int)(w:World)(U:VecV w v l is)(eg:∀args w,(callFunc g args).run prog w=.ok (.enter g args) w)
  (hf:∀W,BW w W->∀x,vOk x->CP g (#[Vi x]++cb) W fun e m=>e=.returned (Vi (f x))/\BW W m) (a0:∀x,vOk x->vOk (f x)) :
  CP 163 #[v,.func (.func g) #[] cb] w fun e m=>∃v' is',e=.returned v'/\Hid (VecV m v' (l.map fun e=>(e.1,f e.2)) is')/\BW w m:=by
 obtain⟨i0,z,a1,a2,a3⟩:=info_parts Tryz.infoItem;obtain⟨ra,rcp,rfl⟩:=Zl U.row;have V:Hid (VecV w (.slice ra is.length rcp) l is):=U;have a8:is.length<=1000:=U.len;have HF:Hid (∀W,BW w W->∀x,vOk x->CP g (#[Vi x]++cb) W fun e m=>e=.returned (Vi (f x))/\BW W m):=hf;have a9:Hid (∀x,vOk x->vOk (f x)):=a0;clear U hf a0;go_enter func163,ntmps163
 go_wp2_with (at_make;refine wpList_make_own _ rfl _ _ 253 rfl w.heap.size 255 i0 _ 3 underlying253 z a1 a2 _ _ _ is.length rfl rfl rfl ?b2 ?b3 ?b4 ?_)
 case b2=>rw[a3];omega
 case b3=>unfold maxLen;omega
 case b4=>exact Yac _
 intro y X D;have a4:Hid (BW w y):=hid ((Yaf _ _).grown D (Yac _) (fun q N=>by cases N));clear D;go_wp2
 go_loopw [5, 13] (fun v i wr => ∃ k : Nat, k <= is.length /\ i = Vi k /\ wr.ownsRow w.heap.size 255 3 v k (encs (chg f (is.take k))) /\ Hid (∀ i ∈ is, ItmOk wr i) /\ Hid (BW w wr))
   (fun _ i _=>is.length - (intOf i).toNat)
 case atStart=>exact⟨0,Yag _,rfl,X,hid (fun i z=>(V.ok i z).below a4.out),a4⟩
 case round=>
  rename World=>wo
  obtain⟨k,hk,rfl,p,E,O⟩:=hrel;have b0:=O.size;by_cases P:k<is.length
  ·have hg:∃g,ra=some ⟨g,0,none⟩:=by
    obtain⟨g,cp',h⟩:=ZF V.row Om;injection h with Q;exact⟨g,Q⟩
   obtain⟨vg,rfl⟩:=hg;have G:=hid (Zn V.row O.out);obtain⟨f1,f2,f3⟩:=Zfl is k P;have d1:=Zi G.out _ _ f1;have d2:=Zi G.out _ _ f2;have d3:=Zi G.out _ _ f3
   have b1:Hid (chg f (is.take (k+1))=chg f (is.take k)++[{ is[k]with v:=f (is[k]).v }]):=hid (by
    rw[List.take_succ_eq_append_getElem P];unfold chg;rw[Yaq];rfl)
   have b5:Hid (vOk (is[k]).v):=hid (E.out _ (List.getElem_mem P)).vok;generalize is[k]=s at *
   clear f1 f2 f3;have c2:(k:Int)<(is.length:Int):=by omega
   go_upto_region 5 with fail
   refine ZP fun wr hW=>?_;have H:BW wo wr:=by rw[hW];exact Zbal
   have HX:Hid (BAt wr wo.heap.size [.slice s.a s.n s.c,.string s.tx,Vi s.v] 255):=hid (by rw[hW];exact Go.Deep.blk_alloc_new _ _);have A:Hid (BW w wr):=hid (O.trans (H.mono b0));have b6:=hid (fun q N=>(p.lt q N).2);have I:=Zn p H;have a7:Hid (∀i∈is,ItmOk wr i):=hid (fun i z=>(E.out i z).below H);have b7:=A.size;clear hW H p O E G d1 d2 d3;have J:Hid (∀m,BAt m wo.heap.size [.slice s.a s.n s.c,.string s.tx,Vi s.v] 255->m.cell? ⟨wo.heap.size,0,none⟩=some (.slice s.a s.n s.c)/\m.cell? ⟨wo.heap.size,1,none⟩=some (.string s.tx)/\m.cell? ⟨wo.heap.size,2,none⟩=some (Vi s.v)):=hid (fun m Q=>⟨Q.cell 0,Q.cell 1,Q.cell 2⟩);refine Zbn 10 (fun m=>m.cell? ⟨wo.heap.size,0,none⟩=some (.slice s.a s.n s.c)/\m.cell? ⟨wo.heap.size,1,none⟩=some (.string s.tx)/\m.cell? ⟨wo.heap.size,2,none⟩=some (Vi s.v)) Kr (by exact J.out _ HX.out) (fun d=>?_);refine Za 0 d (h:=?_);refine Za 1 d (h:=?_);refine Za 2 d (h:=?_);refine Za 3 d (h:=?_);refine Za 4 d (h:=?_);refine Za 5 d (h:=?_);refine Z4 (i:=6) Kr rfl (fun K B=>?_);have a5:=hid (HF.out wr.drew (by exact⟨A.os,A.tape,A.output,A.size,A.block⟩) s.v b5.out);go_simp;refine a5.mono ?_;rintro e R ⟨rfl,C⟩;have F:Hid (BW wr R):=hid ⟨C.os,C.tape,C.output,C.size,C.block⟩;have S:=hid (HX.below F.out);clear C a5;go_simp;refine B.out _ _ (J.out _ S.out) (fun d=>?_);clear B K
   try simp only[Act.put,Zset]
   refine Za 7 d (h:=?_);refine Z4 (i:=8) Kr rfl (fun K B=>?_);have L:Hid (∀o,BW R (R.alloc o)):=hid (fun o=>Zbal);go_simp;refine B.out _ _ (J.out _ (S.below (L.out _))) (fun d=>?_);clear B K
   try simp only[Act.put,Zset]
   refine Z4 (i:=9) Kr rfl (fun K B=>?_);have t:=Zn I F.out;have a6:=F.size;refine ZfF rfl (.tmp 17) (.tmp 25) 253 rfl w.heap.size 255 i0 _ 3 48 underlying253 z a1 a2 a3 rfl Dc _ k (encs (chg f (is.take k))) (by simp[Act.eval]) (t.alloc _) ⟨R.heap.size,0,none⟩ 1 1 [.slice s.a s.n s.c,.string s.tx,Vi (f s.v)] (by simp[Act.eval]) rfl ?h2 ?h3 ?h4 ?h5 ?h6 ?_
   case h2=>exact ZcY rfl
   case h3=>intro u hu;simp at hu;rcases hu with rfl|rfl|rfl <;> rfl
   case h4=>unfold maxLen;omega
   case h5=>omega
   case h6=>simp;omega
   intro v6 Y M r hwhere6;have b8:Hid (∀i∈is,ItmOk Y i):=hid (fun i z=>(a7.out i z).kb ((Z5.below (F.trans ((L.out _).mono a6)) _).trans (Z5.grown r (t.alloc _))) Dc);have b9:Hid (BW w Y):=hid ((A.trans ((F.trans ((L.out _).mono a6)).mono b7)).grown r (by simp;omega) (fun q N=>(t.lt q N).1))
   have Z:Y.ownsRow w.heap.size 255 3 v6 (k+1) (encs (chg f (is.take (k+1)))):=by
    rw[b1.out,Zh1];exact M
   have c0:Hid (BAt Y wo.heap.size [.slice s.a s.n s.c,.string s.tx,Vi s.v] 255):=hid ((S.below (L.out _)).grown r (fun e=>by have:=b6.out _ e.symm;omega));refine B.out _ _ (J.out _ c0.out) (fun d=>?_);clear B K
   try simp only[Act.put,Zset]
   refine Zbl Kr Kr rfl Kr (fun K B=>?_);go_simp;refine B.out _ _ ?_;clear B K r M t I hwhere6;go_wp2
   go_roundw
   case rel=>exact⟨k+1,by omega,by go_num,Z,b8,b9⟩
   case measure=>simp[intOf];omega
  ·obtain rfl:k=is.length:=by omega
   rw[Ya4]at p;have T:(chg f is).length=is.length:=by unfold chg;rw[Yak]
   rw[<-T]at p
   have c1 : Hid (VecV wo _ (l.map fun e => (e.1, f e.2)) (chg f is)) := hid ⟨p.mono (Yag _), by rw [ZuA, V.els], fun i z => by
     unfold chg at z;obtain⟨j,hj,rfl⟩:=Ybe.1 z;exact⟨(E.out j hj).lb,a9.out _ (E.out j hj).vok⟩,by rw[T];exact a8⟩
   clear p;go_wp2;go_ret;exact⟨_,_,rfl,c1,O.out⟩
theorem Zph (x : Itm) (tx : BA) (w : World) : CP 216 #[.agg #[.slice x.a x.n x.c, .string x.tx, Vi x.v], .string tx] w fun e u => e = .returned (Vi (cmpV (bl x.tx) (bl tx))) /\ BW w u := by
  obtain⟨xa,xn,xc,xt,xq,xv⟩:=x;simp only;go_enter func216,ntmps216
  go_wp2_with fail
  refine(ZgR).mono ?_;rintro e f ⟨rfl,o5,d⟩;have g:Hid (BW w f):=hid (by rw[d];exact Zbal.alloc (by simp) _);clear d
  go_wp2_with (go_at_call 200;refine(Zoe).mono ?_;rintro e h ⟨rfl,rfl⟩)
  go_ret;exact⟨rfl,g.out⟩
theorem ZuH{x:LB}(h:cmpV x y=0):x=y:=by
 unfold cmpV at h;cases a:Op.bytesLess x y with
 | true=>rw[a]at h;simp at h
 | false=>
  cases c:Op.bytesLess y x with
  | true=>rw[a,c]at h;simp at h
  | false=>exact Zdh _ _ a c
theorem ZuG{x:LB}:cmpV x x=0:=by unfold cmpV;rw[ZcL];rfl
def TxS(is:List Itm):Prop:=is.Pairwise fun a b=>Op.bytesLess (bl a.tx) (bl b.tx)=true
theorem TxS.mono  (h : TxS is)  {i j : Nat} (e : i <= j) (d : j < is.length) (a : Op.bytesLess (bl is[j].tx) y = true) : Op.bytesLess (bl (is[i]' Om).tx) y = true := by
  rcases Yav i j with c|c
  · exact Zdv _ _ _ (List.pairwise_iff_getElem.1 h i j Om d c) a
  · obtain rfl:i=j:=by omega
    exact a
def BsIs(is:List Itm)(y:LB)(k:Nat)(ok:Bool):Prop:=(ok=true/\∃h:k<is.length,bl (is[k]).tx=y)∨(ok=false/\∀i∈is,bl i.tx≠y)
theorem Zn3(f:TxS is){k:Nat}(g:∀j (h:j<is.length),j<k->Op.bytesLess (bl is[j].tx) y=true)(l:∀j (h:j<is.length),k<=j->Op.bytesLess (bl is[j].tx) y=false)(m:∀h:k<is.length,bl (is[k]).tx≠y):∀i∈is,bl i.tx≠y:=by
 intro i n c;obtain⟨j,d,rfl⟩:=List.mem_iff_getElem.1 n;rcases Yav j k with a|a
 ·have:=g j d a;rw[c,ZcL]at this;cases this
 ·rcases Yav k j with e|e
  ·have e1:=List.pairwise_iff_getElem.1 f k j Om d e;rw[c,l k Om (Yac _)]at e1;cases e1
  ·obtain rfl:k=j:=by omega
   exact m d c
theorem Zuh(is:List Itm)(tx:BA)(l:w.ownsRow 0 255 3 v is.length (encs is))(N:is.length<=1000)(L:TxS is) :
  CP 215 #[v,.string tx,.func (.func 216) #[] #[]] w fun e u=>∃(k:Nat) (ok:Bool),e=.returned (.tuple #[Vi k,.bool ok])/\Hid (BsIs is (bl tx) k ok)/\BW w u:=by
 obtain⟨ra,rcp,rfl⟩:=Zl l;have y:Hid (w.ownsRow 0 255 3 (.slice ra is.length rcp) is.length (encs is)):=l;have z:Hid (TxS is):=L;clear l L;go_enter func215,ntmps215;go_wp2
 go_loopg [9,10] is.length (fun kx s5 s6 wr=>∃lo a:Nat,s5=Vi lo/\s6=Vi a/\lo<=a/\a<=is.length/\a - lo<=kx/\Hid (BW w wr)/\Hid ((∀j (h:j<is.length),j<lo->Op.bytesLess (bl is[j].tx) (bl tx)=true)/\(∀j (h:j<is.length),a<=j->Op.bytesLess (bl is[j].tx) (bl tx)=false)))
 case atStart=>exact⟨0,is.length,rfl,rfl,Yag _,Yac _,by omega,hid (Yaf _ _),hid ⟨fun j _ h=>absurd h (Ya1 _),fun j h p=>by omega⟩⟩
 case round=>
  obtain⟨lo,a,rfl,rfl,O,M,A,m,I⟩:=hrel;by_cases P:lo<a
  ·have D:(lo+a) / 2<is.length:=by omega
   have A:∃g,ra=some ⟨g,0,none⟩:=by
    obtain⟨g,cp',h⟩:=ZF y.out Om;injection h with h1;exact⟨g,h1⟩
   obtain⟨g,rfl⟩:=A;have c:=hid (Zn y.out m.out);obtain⟨f1,f2,f3⟩:=Zfl is ((lo+a) / 2) D;have d1:=Zi c.out _ _ f1;have d2:=Zi c.out _ _ f2;have d3:=Zi c.out _ _ f3;have Q:(((lo+a) / 2:Nat):Int)=((lo:Int)+(a:Int)) / 2:=by omega
   have R:(((lo:Int)+(a:Int)) / 2).toNat=(lo+a) / 2:=by omega
   have n:=Zph is[(lo+a) / 2] tx wr;have E:Hid (Op.bytesLess (bl (is[(lo+a) / 2]).tx) (bl tx)=true->∀i (h:i<is.length),i<=(lo+a) / 2->Op.bytesLess (bl is[i].tx) (bl tx)=true):=hid (fun B i h p=>z.mono p D B)
   have F : Hid (Op.bytesLess (bl (is[(lo + a) / 2]).tx) (bl tx) = false -> ∀ i (h : i < is.length), (lo + a) / 2 <= i -> Op.bytesLess (bl is[i].tx) (bl tx) = false) := hid (fun B i h p => by
     cases d:Op.bytesLess (bl is[i].tx) (bl tx)with
     | false=>rfl
     | true=>rw[z.mono p h d]at B;cases B)
   have f:=ZhW (bl (is[(lo+a) / 2]).tx) (bl tx);clear f1 f2 f3 c;generalize is[(lo+a) / 2]=x at *
   obtain⟨xa,xn,xc,xt,xq,xv⟩:=x;simp only at n E F f d1 d2 d3;generalize cmpV (bl xt) (bl tx)=cr at *
   cases o:Op.bytesLess (bl xt) (bl tx)with
   | true=>
    rw[o]at f;have J:=hid (E.out o);clear o;have K:cr<0:=by simpa using f
    clear f
    go_wp2_with (go_at_call 216;refine n.mono ?_;rintro e u ⟨rfl,d⟩)
    go_roundg (a - ((lo+a) / 2+1))
    case measure=>omega
    case rel=>
     exact⟨(lo+a) / 2+1,a,by rw[show((lo:Int)+(a:Int)) / 2+1=(((lo+a) / 2+1:Nat):Int) by omega],rfl,by omega,M,Yac _,hid (m.trans (d.mono m.size)),hid ⟨fun j h p=>J.out j h Om,I.2⟩⟩
   | false=>
    rw[o]at f;have J:=hid (F.out o);clear o;have K:¬cr<0:=by simpa using f
    clear f
    go_wp2_with (go_at_call 216;refine n.mono ?_;rintro e u ⟨rfl,d⟩)
    go_roundg ((lo+a) / 2 - lo)
    case measure=>omega
    case rel=>
     exact⟨lo,(lo+a) / 2,rfl,by rw[show((lo:Int)+(a:Int)) / 2=(((lo+a) / 2:Nat):Int) by omega],by omega,by omega,Yac _,hid (m.trans (d.mono m.size)),hid ⟨I.1,J.out⟩⟩
  ·obtain rfl:a=lo:=by omega
   have d:=m.out;by_cases q:a<is.length
   ·have A:∃g,ra=some ⟨g,0,none⟩:=by
     obtain⟨g,cp',h⟩:=ZF y.out Om;injection h with h1;exact⟨g,h1⟩
    obtain⟨g,rfl⟩:=A;have c:=hid (Zn y.out m.out);obtain⟨f1,f2,f3⟩:=Zfl is a q;have d1:=Zi c.out _ _ f1;have d2:=Zi c.out _ _ f2;have d3:=Zi c.out _ _ f3;have n:=Zph is[a] tx wr;have G:Hid (cmpV (bl (is[a]).tx) (bl tx)=0->BsIs is (bl tx) a true):=hid (fun h=>Or.inl ⟨rfl,q,ZuH h⟩);have H:Hid (cmpV (bl (is[a]).tx) (bl tx)≠0->BsIs is (bl tx) a false):=hid (fun h=>Or.inr ⟨rfl,Zn3 z.out I.1 I.2 (fun _ e=>h (by rw[e];exact ZuG))⟩);generalize is[a]=x at *
    obtain⟨xa,xn,xc,xt,xq,xv⟩:=x;simp only at n G H d1 d2 d3;generalize cmpV (bl xt) (bl tx)=cr at *
    clear f1 f2 f3 c;by_cases C:cr=0
    ·have r:=hid (G.out C);subst C
     go_wp2_with (go_at_call 216;refine n.mono ?_;rintro e u ⟨rfl,s⟩)
     have t:=d.trans (s.mono d.size);go_ret2;exact⟨a,true,rfl,r,t⟩
    ·have r:=hid (H.out C);have S:(cr == 0)=false:=by simpa using C
     go_wp2_with (go_at_call 216;refine n.mono ?_;rintro e u ⟨rfl,s⟩)
     have t:=d.trans (s.mono d.size);go_ret2;exact⟨a,false,rfl,r,t⟩
   ·have r:Hid (BsIs is (bl tx) a false):=hid (Or.inr ⟨rfl,Zn3 z.out I.1 I.2 (fun h=>absurd h q)⟩);go_wp2;go_ret2;exact⟨a,false,rfl,r,d⟩
