/- Parts. -/
import Derived.Test.YtcdgkkfipdoeeaaGreatDoorU17
import Derived.Test.YtcdgkkfipdoeeaaGreatDoorU14
import Derived.Test.YtcdgkkfipdoeeaaGreatDoorU04
import Derived.Deep.DrawnRows
import Derived.Deep.AppendLies
set_option linter.all false
set_option maxRecDepth 100000
set_option maxHeartbeats 16000000
namespace Go.Proofs.YtcdgkkfipdoeeaaGreatDoor
open Go.RowKit LS Go.Proofs.Tryz
variable {nm s tx:BA}{l:LB}{qs:List (BA×BA)}{ps seen:List (LB)}{rs:List (Value×Value×Value×Value)}{es:List Entry}{bs xs:List Value}{B b base cap g i n size sn:Nat}{fr:Nat×Nat}{a:Option Addr}{lv sv v what x y z:Value}{W w w':World}
def ZcP(p:BA×BA):LB:=bl p.1++61::bl p.2
def Zbf:List (BA×BA)->LB
 | []=>[]
 | [p]=>ZcP p
 | p::l=>ZcP p++44::Zbf l
theorem ZxL(l:List (BA×BA))(p:BA×BA):Zbf (l++[p])=(if l.isEmpty then [] else Zbf l++[44])++ZcP p:=by
 induction l with
 | nil=>rfl
 | cons a l ih=>
  cases l with
  | nil=>simp[Zbf]
  | cons c l=>
   have e:Zbf (a::c::l++[p])=ZcP a++44::Zbf (c::l++[p]):=rfl;rw[e,ih];simp[Zbf]
theorem ZxK(l:List (BA×BA))(h:∀p∈l,p.1.size<=6000/\p.2.size<=6000):(Zbf l).length<=12002*l.length:=by
 induction l with
 | nil=>simp[Zbf]
 | cons a l ih=>
  have f:=h a (Yay ..);have g:=ih (fun p d=>h p (Yam _ d));have i:(ZcP a).length<=12001:=by unfold ZcP;rw[Yab,Yaj,Zd,Zd];omega
  cases l with
  | nil=>simp[Zbf];omega
  | cons c l=>
   have e:Zbf (a::c::l)=ZcP a++44::Zbf _:=rfl;rw[e,Yab,Yaj];simp at *
   omega
theorem Zwe(l:List (BA×BA)):∀u∈Zb2 l,u.oneCell'=true:=by
 induction l with
 | nil=>intro u c;cases c
 | cons a l ih=>
  intro u c;simp[Zb2]at c;rcases c with rfl|rfl|c
  ·rfl
  ·rfl
  ·exact ih u c
theorem ZuE(h:ZcB w 0 (.slice a n cap) n qs) :
  CP 228 #[.slice a n cap] w fun e m=>∃(a':Option Addr) (cap':Nat),e=.returned (.slice a' n cap')/\ZcB m 0 (.slice a' n cap') n qs/\BW w m:=by
 obtain⟨i0,x,o,p,r⟩:=info_parts Tryz.infoLabel;obtain⟨c,s,f⟩:=h;rcases c.2 with ⟨k,E⟩|⟨g,cp,cur,k,_⟩
 ·injection k with h1 h2 h3;subst h1;subst h2;subst h3;have l:Hid (ZcB w 0 _ 0 _):=⟨c,s,f⟩
  have z:∀W:World,(binOp .eql 266 S0 S0).run prog W=.ok (.bool true) W:=fun _=>rfl;clear c f;go_enter func228,ntmps228;go_wp2;go_ret;exact⟨none,0,rfl,l,Yaf _ _⟩
 ·injection k with h1 h2 h3;subst h1;subst h3;have A:Hid (∀j u,(Zb2 _)[j]?=some u->w.cell? ((⟨g,0,none⟩:Addr).add j)=some u):=c.cells rfl;have B:=c.1;have z:∀W:World,(binOp .eql 266 (.slice (some ⟨g,0,none⟩) n cap) S0).run prog W=.ok _ W:=fun _=>rfl;have l:=hid f;clear c f;go_enter func228,ntmps228
  go_wp2_with (at_builtin;refine wpList_append_own _ rfl (.tmp 5) (.tmp 6) 266 rfl w.heap.size 378 i0 (.agg #[.string ByteArray.empty,.string ByteArray.empty]) 2 32 underlying266 x o p r rfl Dc _ 0 [] rfl (World.ownsRow_made w #[] 0 (Yac _) (by unfold maxLen;omega) rfl) ⟨g,0,none⟩ n _ (Zb2 qs) rfl B ?c1 ?c2 ?c3 ?c4 ?c5 ?_)
  case c1 => intro j u C; have := A j u C; rw [ZfO] at this; try rw [ZfO]
             rw[Ybm _ _ _ (Yai _ _ this)];exact this
  case c2=>exact Zwe _
  case c3=>unfold maxLen;omega
  case c4=>omega
  intro v' F d i _;obtain⟨av,cp3,t⟩:=Zl d;subst t;have v:=Zbal.grown i (by simp) (fun q D=>by simp[Value.ownBlock]at D;omega);go_wp2;go_ret;exact⟨av,cp3,rfl,⟨ZmF d,s,l⟩,v⟩
theorem Zuj{T e:TypeId}(h:Lib.IsBuilderF T e B b bs w)(c:BW w w'):Lib.IsBuilderF T e B b bs w':=by
 have one:∀p,Lib.BuilderAtF T e B b p bs w->Lib.BuilderAtF T e B b p bs w':=by
  intro p d;have f:=d.lt;obtain⟨m,v,i,a,j⟩:=d;refine⟨m,v,(c.block b f).trans i,⟨a.1,?_⟩,j⟩;rcases a.2 with n|⟨g,cap,cur,fz,o,k,l,rest⟩
  ·exact .inl n
  ·exact .inr ⟨g,cap,cur,fz,o,k,(c.block g (Yae.1 l).1).trans l,rest⟩
 exact h.elim (fun x=>.inl (one _ x)) (fun x=>.inr (one _ x))
theorem ZcB.below(h:ZcB w base v n qs)(a:BW w w'):ZcB w' base v n qs:=⟨Zn h.1 a,h.2⟩
theorem Zim{e:TypeId}(h:w.ownsRow base e size v n xs)(a:∀k,v.ownBlock=some k->w'.heap[k]?=w.heap[k]?):w'.ownsRow base e size v n xs:=by
 refine⟨h.1,?_⟩;rcases h.2 with c|⟨g,cap,cur,rfl,d,f,r⟩
 ·exact .inl c
 ·exact .inr ⟨g,cap,cur,rfl,d,(a g rfl).trans f,r⟩
theorem Zz2{e u:TypeId}(h:w.ownsRow base e size v n xs)(a:Lib.OthersKept u (some b) w w')(d:e≠u)(f:v.ownBlock≠some b):w'.ownsRow base e size v n xs:=by
 refine⟨h.1,?_⟩;rcases h.2 with i|⟨g,cap,cur,rfl,j,k,r⟩
 ·exact .inl i
 ·exact .inr ⟨g,cap,cur,rfl,j,a g _ k (fun x=>f x) (fun c fz x=>by injection x with _ x2;exact d x2),r⟩
theorem Zuk{T e t:TypeId}(h:Lib.IsBuilderF T e B b bs w)(a:w.ownsRow base t size v n xs)(d:T≠t):v.ownBlock≠some b:=by
 rcases h with ⟨_,_,c,_⟩|⟨_,_,c,_⟩ <;> exact fun x=>Zcx a c d x.symm
theorem ZsW{a:Nat}{t:TypeId}(h:w.heap[a]?=some (.cells #[x,y] t fr)):w.cell? ⟨a,0,none⟩=some x/\w.cell? ⟨a,1,none⟩=some y:=by
 constructor <;> simp[World.cell?,h]
theorem Zfg(a b:BA):bl (a++b)=bl a++bl b:=by simp[bl]
theorem Zro(h:ZcB w 0 (.slice a n cap) n qs) :
  CP 194 #[.slice a n cap] w fun e u=>∃(a':Option Addr) (cap':Nat),e=.returned (.agg #[.slice a' n cap',.string ⟨(Zbf qs).toArray⟩])/\ZcB u 0 (.slice a' n cap') n qs/\BW w u:=by
 have a5:qs.length=n:=by have:=h.1.1;rw[Zi9]at this;omega
 have v:=hid h;have a6:=h.2.1
 have U := hid (fun k => by
   have:=ZxK (qs.take k) (fun p hp=>h.2.2 p (Ydn hp));rw[Ya7]at this;have q:min k qs.length<=6001:=by omega
   exact Yah this (Nat.mul_le_mul_left _ q))
 clear h;go_enter func194,ntmps194;go_wp2
 go_loopw [8] (fun i wr=>∃k:Nat,k<=n/\i=Vi k/\Hid (Lib.IsBuilderF 89 5 (w.heap.size+1) (w.heap.size+1) (Lib.byteCells (Zbf (qs.take k))) wr)/\Hid (Below (w.heap.size+1) (w.alloc (.cells #[S0,.string ⟨#[]⟩] 268)) wr)) (fun i _=>n - (intOf i).toNat)
 case atStart=>
  refine⟨0,Yag _,rfl,?_,(Yaf _ _).alloc (by simp) _⟩;have:=Lib.IsBuilderF.of (Lib.fresh_isBuilder 89 5 (w.alloc (.cells #[S0,.string ⟨#[]⟩] 268)));rw[Go.Deep.nblk_alloc]at this;exact this
 case round=>
  obtain⟨k,hk,rfl,A,B⟩:=hrel;have s:w.heap.size+1<=wr.heap.size:=by have:=B.size;rw[Go.Deep.nblk_alloc]at this;exact this
  have C:=hid (((Yaf _ w).alloc (Yac _) _).trans (B.mono Om));by_cases a7:k<n
  ·have hg:∃g,a=some ⟨g,0,none⟩:=by
    obtain⟨g,cp,hv⟩:=ZF v.1 Om;injection hv with hv1;exact⟨g,hv1⟩
   obtain⟨g,rfl⟩:=hg;have D:k<qs.length:=by omega
   obtain⟨f1,f2⟩:=Zi8 qs k;rw[List.getElem?_eq_getElem D]at f1 f2;have J:=Z1 v.1;have c1:wr.cell? _=some (.string _):=(C.cell J).trans (Zi v.1 _ _ f1);have c2:wr.cell? _=some (.string _):=(C.cell J).trans (Zi v.1 _ _ f2);have P:=v.2.2 _ (List.getElem_mem D);have I:Hid (Zbf _=(if (qs.take k).isEmpty then [] else Zbf _++[44])++ZcP _):=List.take_succ_eq_append_getElem D▸ZxL _ _;have a8:=U k;generalize qs[k]=p at *
   obtain⟨x,y⟩:=p;clear f1 f2;have a9:x.size<=6000:=P.1;have b0:y.size<=6000:=P.2;clear P;have Q:∀t,(wr.alloc (.cells #[.string x,.string y] t)).heap[wr.heap.size]?=some _:=fun t=>bnw;have V:(Lib.byteCells (Zbf (qs.take k))).length+(⟨#[44]⟩:BA).size<=140737488355328:=by rw[Lib.byteCells_length];show _+1<=_;omega
   have W:(Lib.byteCells (Zbf (qs.take k))).length+(x++⟨#[61]⟩++y).size<=140737488355328:=by
    rw[Lib.byteCells_length,Yaz,Yaz];show _+(_+1+_)<=_;omega
   have X:(Lib.byteCells (Zbf (qs.take k)++[44])).length+(x++⟨#[61]⟩++y).size<=140737488355328:=by
    rw[Lib.byteCells_length,Yab,Yaz,Yaz];show _+1+(_+1+_)<=_;omega
   have f:w.heap.size+1<wr.heap.size:=by
    rcases A.out with h|h <;> exact h.lt
   have K:∀o,w.heap.size+1<=(wr.alloc o).heap.size:=fun o=>by rw[Go.Deep.nblk_alloc];omega
   by_cases l:k=0
   ·have E:Hid (Zbf (qs.take (k+1))=Zbf (qs.take k)++ZcP (x,y)):=by rw[I,l];rfl
    have r:decide (0<(k:Int))=false:=decide_eq_false Om;clear I;have c1':wr.cell? ⟨g,0,none⟩=some (.string x):=by rw[l]at c1;simpa using c1
    have c2':wr.cell? ⟨g,1,none⟩=some (.string y):=by rw[l]at c2;simpa using c2
    go_wp2_with fail
    clear r;refine(ZhR _ _ _ _ (Lib.IsBuilderF.alloc A _) W (K _)).mono ?_;rintro e R ⟨rfl,q,b2,k2⟩
    have m:Hid (Lib.IsBuilderF 89 5 (w.heap.size+1) (w.heap.size+1) (Lib.byteCells (Zbf (qs.take (k+1)))) R):=by
     rw[E,Lib.byteCells_append];refine .inr ?_
     have e:Lib.byteCells (ZcP (x,y))=Lib.strCells (x++⟨#[61]⟩++y):=by
      rw[Lib.strCells_eq];show _=Lib.byteCells (bl _);rw[Zfg,Zfg,Yan];rfl
     rw[e];exact q
    have F:=hid ((B.alloc s _).trans b2);clear q b2 k2;go_wp2
    go_roundw
    case rel=>exact⟨k+1,by omega,by subst l;rfl,m,F⟩
    case measure=>simp[intOf];omega
   ·have E:Hid (Zbf _=Zbf (qs.take k)++[44]++ZcP _):=hid (by
     rw[I,if_neg (by rw[Ydl];intro e;have:=congrArg List.length e;rw[Ya7,Ybq]at this;omega)])
    have r:decide (0<(k:Int))=true:=decide_eq_true Om;have Y:0<k:=by omega
    clear I
    go_wp2_with fail
    clear l r Y;refine(ZhR _ _ _ _ (Lib.IsBuilderF.alloc A _) V (K _)).mono ?_;rintro e Z ⟨rfl,h1,b1,k1⟩;obtain⟨o0,o1⟩:=ZsW (k1 wr.heap.size _ (Q _) (by simp;omega) (by intro c fz h;simp at h));have a0:w.heap.size+1<=Z.heap.size:=by have:=b1.size;rw[Go.Deep.nblk_alloc]at this;omega
    have a1:Hid (Lib.IsBuilderF 89 5 (w.heap.size+1) (w.heap.size+1) (Lib.byteCells (Zbf (qs.take k)++[44])) Z):=by
     rw[Lib.byteCells_append];exact .inr h1
    have a2:=hid ((B.alloc s _).trans b1);clear h1 b1 k1
    go_wp2_with fail
    refine(ZhR _ _ _ _ a1 X a0).mono ?_;rintro e R ⟨rfl,q,b2,k2⟩
    have m:Hid (Lib.IsBuilderF 89 5 (w.heap.size+1) (w.heap.size+1) (Lib.byteCells (Zbf (qs.take (k+1)))) R):=by
     rw[E,Lib.byteCells_append];refine .inr ?_
     have e:Lib.byteCells (ZcP (x,y))=Lib.strCells (x++⟨#[61]⟩++y):=by
      rw[Lib.strCells_eq];show _=Lib.byteCells (bl _);rw[Zfg,Zfg,Yan];rfl
     rw[e];exact q
    have F:=hid (a2.trans b2);clear q b2 k2 o0 o1;go_wp2
    go_roundw
    case rel=>exact⟨k+1,by omega,by go_num,m,F⟩
    case measure=>simp[intOf];omega
  ·obtain rfl:k=n:=by omega
   have m:Hid (Lib.IsBuilderF 89 5 (w.heap.size+1) (w.heap.size+1) (Lib.byteCells (Zbf qs)) wr):=by
    have:=A.out;rwa [Ya5 Om]at this
   clear A
   go_wp2_with fail
   refine(ZuE (ZcB.below v C)).mono ?_;rintro e z ⟨a',cap',rfl,L,f⟩;have G:=hid L;have M:=hid (Zuj m f);have N:=hid (B.trans (f.mono s));have a3:=Yah s f.size;clear L f
   go_wp2_with fail
   refine(Builder_String_any_k _ _ _ _ M a3).mono ?_;rintro e S ⟨rfl,_,b3,k3⟩;have d:=((N.trans b3).block _ Om).trans bnw;obtain⟨k0,k1⟩:=ZsW d;have g0:S.frozen? ⟨w.heap.size,0,none⟩=false:=by simp[World.frozen?,d]
   have g1:S.frozen? ⟨w.heap.size,1,none⟩=false:=by simp[World.frozen?,d]
   have H:=Zz2 G.1 k3 Dc (Zuk M G.1 Dc)
   have a4 : Hid (∀ x y, ((S.setCell ⟨w.heap.size, 0, none⟩ x).setCell ⟨w.heap.size, 1, none⟩ y).ownsRow 0 _ 2 _ k _) := fun x y => Zim H (fun j hj => by
     have O:j≠w.heap.size:=by rintro rfl;exact Zcx H d Dc hj.symm
     rw[Go.Deep.blk_setCell_other _ _ _ _ O,Go.Deep.blk_setCell_other _ _ _ _ O])
   have T:=hid (((Yaf _ w).alloc (Yac _) _).trans ((N.trans b3).mono Om));clear H d b3 k3;go_wp2;exact bodyPost_ret (by simp[results,results194,go_sem,k0,k1]) rfl ⟨a',cap',rfl,⟨a4 _ _,G.2⟩,(T.setCell (Yac _) _).setCell (Yac _) _⟩
theorem ZrL(s:BA)(m:Int)(w:World)(g:s.size<=6000)(h:w.cell? ⟨14,0,none⟩=some (Vi m)) :
  CP 192 #[.string s] w fun e u => ∃ (a : Option Addr) (n cap : Nat) (ok : Bool), e = .returned (.tuple #[.slice a n cap, .bool ok]) /\
    Hid (ok=(Zcc (bl s)).isSome/\(ok=true->∃qs,ZcB u 0 (.slice a n cap) n qs/\Zcc (bl s)=some (qs.map blP)))/\BW w u:=by
 cases c:s.toList.isEmpty
 ·have d:=Zij c;have i:Zcc (bl s)=ZbS [] [] (split 44 (bl s)):=by unfold Zcc;rw[if_neg d]
  rw[i];exact ZBg s m w g h c
 ·have f:Hid (Zcc (bl s)=some []):=by rw[ZgW c];rfl
  go_enter func192,ntmps192;go_wp2;go_ret2;exact⟨none,0,0,true,rfl,⟨by rw[f];rfl,fun _=>⟨[],⟨Ybc _ _ _ _,by omega,fun p j=>(by cases j)⟩,f⟩⟩,Yaf _ _⟩
theorem ZBe(m:Int)(d:s.size<=6000)(f:w.cell? ⟨14,0,none⟩=some (Vi m))(h:(Zcc (bl s)).isSome=false) :
  CP 192 #[.string s] w fun e u=>∃(a:Option Addr) (n cap:Nat),e=.returned (.tuple #[.slice a n cap,.bool false])/\BW w u:=by
 refine(ZrL s m w d f).mono ?_;rintro e u ⟨a,n,cap,ok,rfl,c,g⟩;exact⟨a,n,cap,by rw[c.1,h],g⟩
theorem ZBf(m:Int)(d:s.size<=6000)(f:w.cell? ⟨14,0,none⟩=some (Vi m))(h:(Zcc (bl s)).isSome=true) :
  CP 192 #[.string s] w fun e u=>∃(a:Option Addr) (n cap:Nat) (qs:List (BA×BA)),e=.returned (.tuple #[.slice a n cap,.bool true])/\Hid (ZcB u 0 (.slice a n cap) n qs/\Zcc (bl s)=some (qs.map blP))/\BW w u:=by
 refine(ZrL s m w d f).mono ?_;rintro e u ⟨a,n,cap,ok,rfl,c,g⟩;have e:ok=true:=by rw[c.1,h]
 subst e;obtain⟨qs,i,j⟩:=c.2 rfl;exact⟨a,n,cap,qs,rfl,⟨i,j⟩,g⟩
theorem box4{a:World}{u:Value}{t:TypeId}(c:Below (w.heap.size+1) (w.alloc (.cells #[x,y,z,u] t)) a) :
  a.cell? ⟨w.heap.size,0,none⟩=some x/\a.cell? ⟨w.heap.size,1,none⟩=some y/\a.cell? ⟨w.heap.size,2,none⟩=some z/\a.cell? ⟨w.heap.size,3,none⟩=some u/\
  a.frozen? ⟨w.heap.size,0,none⟩=false/\a.frozen? ⟨w.heap.size,1,none⟩=false/\a.frozen? ⟨w.heap.size,2,none⟩=false/\a.frozen? ⟨w.heap.size,3,none⟩=false:=by
 have h:=(c.block _ Om).trans bnw;refine⟨?_,?_,?_,?_,?_,?_,?_,?_⟩ <;> simp[World.cell?,World.frozen?,h]
theorem ZBm(m:Int)(d:s.size<=6000)(f:w.cell? ⟨14,0,none⟩=some (Vi m))(h:Zcz (bl s)=none) :
  CP 193 #[.string s] w fun e u=>∃sv:Value,e=.returned (.tuple #[sv,.bool false])/\BW w u:=by
 refine(ZrN s m w d f).mono ?_;rintro e u ⟨sv,ok,rfl,c,g⟩;rcases c.out with ⟨_,_,_,_,_,a,_⟩|⟨a,_⟩
 ·rw[h]at a;cases a
 ·exact⟨sv,by rw[a],g⟩
theorem ZBn(m:Int)(g:s.size<=6000)(i:w.cell? ⟨14,0,none⟩=some (Vi m))(h:Zcz (bl s)=some n) :
  CP 193 #[.string s] w fun e u=>∃a cap,e=.returned (.tuple #[.slice a n cap,.bool true])/\Hid (u.ownsRow w.heap.size 358 2 (.slice a n cap) n (Zca (Zez (bl s))))/\BW w u:=by
 refine(ZrN s m w g i).mono ?_;rintro e u ⟨sv,ok,rfl,d,j⟩;rcases d.out with ⟨k,a,n',cap,f,c,l⟩|⟨_,c⟩
 ·rw[h]at c;obtain rfl:=Yax c;exact⟨a,cap,by rw[k,f],by rwa [<-f],j⟩
 ·rw[h]at c;cases c
def Zc6(w:World)(l:LB)(nm:BA)(lv:Value)(tx:BA)(sv:Value)(sn:Nat):Prop:=∃(inside:LB) (qs:List (BA×BA)),line l=some (bl nm,inside,sn)/\Zcc inside=some (qs.map blP)/\ZcB w 0 lv qs.length qs/\bl tx=Zbf qs/\w.ownsRow 0 358 2 sv sn (Zca (Zdo l))
theorem Zc6.below(h:Zc6 w l nm lv tx sv sn)(a:BW w w'):Zc6 w' l nm lv tx sv sn:=by
 obtain⟨i,qs,c,d,e,f,g⟩:=h;exact⟨i,qs,c,d,e.below a,f,Zn g a⟩
theorem Zc6.other(h:Zc6 w l nm lv tx sv sn){a:Nat}{c:Array Value}(g:w.heap[a]?=some (.cells c 271 fr))(k:∀j,j≠a->w'.heap[j]?=w.heap[j]?):Zc6 w' l nm lv tx sv sn:=by
 obtain⟨i,qs,n,o,d,p,m⟩:=h;exact⟨i,qs,n,o,⟨Zim d.1 (fun j f=>k j (fun e=>Zcx d.1 g Dc (by rw[f,e]))),d.2⟩,p,Zim m (fun j f=>k j (fun e=>Zcx m g Dc (by rw[f,e])))⟩
def Zgx(w:World)(l:LB)(nm:BA)(lv:Value)(tx:BA)(sv:Value)(sn:Nat)(ok:Bool):Prop:=(ok=true/\Zc6 w l nm lv tx sv sn)∨(ok=false/\line l=none)
theorem Zw1{m:Int}(a:w.cell? ⟨14,0,none⟩=some (Vi m))(c:Below B w w')(d:14<B):w'.cell? ⟨14,0,none⟩=some (Vi m):=
 (c.cell d).trans a
theorem ZBo(m:Int)(Q:s.size<=6000)(Y:w.cell? ⟨14,0,none⟩=some (Vi m)) :
  CP 148 #[.string s] w fun e u => ∃ (nm : BA) (a : Option Addr) (n cap : Nat) (tx : BA) (sa : Option Addr) (sn sc : Nat) (ok : Bool), e = .returned (.tuple #[.agg #[.string nm, .slice a n cap, .string tx, .slice sa sn sc], .bool ok]) /\
    Hid (Zgx u (bl s) nm (.slice a n cap) tx (.slice sa sn sc) sn ok)/\BW w u:=by
 have Z:=Yai _ _ Y;have E:∀o,(w.alloc o).cell? _=some _:=fun o=>Ybm _ _ _ Z▸Y;have k:∀o (j:Nat),((w.alloc o).drewN j).cell? _=some _:=fun o j=>E o;cases J:cut 123 (bl s)with
 | none=>
  have l:Hid (∀W nm lv tx sv,Zgx W _ nm lv tx sv 0 _):=hid (fun _ _ _ _ _=>.inr ⟨rfl,ZjF J⟩);have F:=hid J;clear J;go_enter func148,ntmps148
  go_wp2_with fail
  refine(ZgH m _ Q (E _) F).mono ?_;rintro e u ⟨a,b,rfl,c,j,rfl⟩;have t:b.size<=6000:=by rw[ZU c.2];simp
  go_wp2_with fail
  refine(ZgH m _ t (k _ _) (by rw[c.2];rfl)).mono ?_;rintro e u ⟨a2,b2,rfl,d,j2,rfl⟩;go_wp2;exact bodyPost_ret (v:=.tuple #[.agg #[.string ⟨#[]⟩,S0,.string ⟨#[]⟩,S0],.bool false]) (by simp[results,results148,go_sem]) rfl ⟨⟨#[]⟩,none,0,0,⟨#[]⟩,none,0,0,false,rfl,hid (l.out _ _ _ _ _),belB⟩
 | some p=>
  obtain⟨x,r⟩:=p;have a5:x.length<=s.size/\r.length<=s.size:=by rw[<-Zd,(Zdx J).1];simp;omega
  have F:=hid J;clear J;cases A:cut 125 r with
  | none=>
   have l:Hid (∀W nm lv tx sv,Zgx W _ nm lv tx sv 0 _):=hid (fun _ _ _ _ _=>.inr ⟨rfl,ZjE F A⟩);have R:=hid A;clear A;go_enter func148,ntmps148
   go_wp2_with fail
   refine(Zep m _ Q (E _) F).mono ?_;rintro e u ⟨a,b,rfl,c,j,rfl⟩;have t:b.size<=6000:=by rw[ZU c.2];omega
   go_wp2_with fail
   refine(ZgH m _ t (k _ _) (by rwa [c.2])).mono ?_;rintro e u ⟨a2,b2,rfl,d,j2,rfl⟩;go_wp2;exact bodyPost_ret (v:=.tuple #[.agg #[.string ⟨#[]⟩,S0,.string ⟨#[]⟩,S0],.bool false]) (by simp[results,results148,go_sem]) rfl ⟨⟨#[]⟩,none,0,0,⟨#[]⟩,none,0,0,false,rfl,hid (l.out _ _ _ _ _),belB⟩
  | some q=>
   obtain⟨y,z⟩:=q;have a6:y.length<=r.length/\z.length<=r.length:=by rw[(Zdx A).1];simp;omega
   have R:=hid A;have g:=ZjG F A;clear A;cases K:Zx x
   ·have l:Hid (∀W nm lv tx sv,Zgx W _ nm lv tx sv 0 _):=hid (fun _ _ _ _ _=>.inr ⟨rfl,by rw[g,K];rfl⟩);have HN:=hid K;clear K g;go_enter func148,ntmps148
    go_wp2_with fail
    refine(Zep m _ Q (E _) F).mono ?_;rintro e u ⟨a,b,rfl,c,j,rfl⟩;have L:a.size<=6000:=by rw[ZU c.1];omega
    have t:b.size<=6000:=by rw[ZU c.2];omega
    go_wp2_with fail
    refine(Zep m _ t (k _ _) (by rwa [c.2])).mono ?_;rintro e u ⟨a2,b2,rfl,d,j2,rfl⟩
    go_wp2_with fail
    refine(Zku (b:=false) L (by rwa [c.1])).mono ?_;rintro e u ⟨rfl,rfl⟩;go_wp2;exact bodyPost_ret (v:=.tuple #[.agg #[.string ⟨#[]⟩,S0,.string ⟨#[]⟩,S0],.bool false]) (by simp[results,results148,go_sem]) rfl ⟨⟨#[]⟩,none,0,0,⟨#[]⟩,none,0,0,false,rfl,hid (l.out _ _ _ _ _),belB⟩
   ·have HN:=hid K;rw[K]at g;clear K;go_enter func148,ntmps148;have i:=hid g;clear g
    go_wp2_with fail
    refine(Zep m _ Q (E _) F).mono ?_;rintro e u ⟨a,b,rfl,c,j,rfl⟩;have L:a.size<=6000:=by rw[ZU c.1];omega
    have t:b.size<=6000:=by rw[ZU c.2];omega
    go_wp2_with fail
    refine(Zep m _ t (k _ _) (by rwa [c.2])).mono ?_;rintro e u ⟨a2,b2,rfl,d,j2,rfl⟩;have M:a2.size<=6000:=by rw[ZU d.1];omega
    have N:b2.size<=6000:=by rw[ZU d.2];omega
    go_wp2_with fail
    refine(Zku (b:=true) L (by rwa [c.1])).mono ?_;rintro e u ⟨rfl,rfl⟩;cases C:(Zcc y).isSome
    ·have l:Hid (∀W nm lv tx sv,Zgx W _ nm lv tx sv 0 _):=hid (fun _ _ _ _ _=>.inr ⟨rfl,by rw[i,C];rfl⟩);have HL:=hid C;clear C
     go_wp2_with fail
     refine(ZBe m M (k _ _) (by rwa [d.1])).mono ?_;rintro e w3 ⟨la,ln,lc,rfl,B⟩;have f:Below (w.heap.size+1) (w.alloc (.cells _ 271)) _:=(ZkW B).mono (by simp);have G:=((Yaf _ w).alloc (Yac _) _).trans (f.mono Om);obtain⟨k0,k1,k2,k3,g0,g1,g2,g3⟩:=box4 f;clear B f;go_wp2;exact bodyPost_ret (v:=.tuple #[.agg #[.string ⟨#[]⟩,S0,.string ⟨#[]⟩,S0],.bool false]) (by simp[results,results148,go_sem,k0,k1,k2,k3]) rfl ⟨⟨#[]⟩,none,0,0,⟨#[]⟩,none,0,0,false,rfl,hid (l.out _ _ _ _ _),belB⟩
    ·have HL:=hid C;rw[C]at i;clear C
     go_wp2_with fail
     refine(ZBf m M (k _ _) (by rwa [d.1])).mono ?_;rintro e w3 ⟨la,ln,lc,qs,rfl,HQ,B⟩;have O:w.heap.size+1<=w3.heap.size:=by have:=B.size;simp at this;omega
     have S:=Zw1 (k _ _) B (by simp;omega);have f:Below (w.heap.size+1) (w.alloc (.cells _ 271)) _:=(ZkW B).mono (by simp);have G:=((Yaf _ w).alloc (Yac _) _).trans (f.mono Om);clear B;cases D:Zcz z with
     | none=>
      have l:Hid (∀W nm lv tx sv,Zgx W _ nm lv tx sv 0 _):=hid (fun _ _ _ _ _=>.inr ⟨rfl,by rw[i,D];rfl⟩);have HM:=hid D;clear D
      go_wp2_with fail
      refine(ZBm m N S (by rwa [d.2])).mono ?_;rintro e w4 ⟨sv,rfl,h⟩;obtain⟨k0,k1,k2,k3,g0,g1,g2,g3⟩:=box4 (f.trans (h.mono O));have P:=G.trans (h.mono Om);clear f h G;go_wp2;exact bodyPost_ret (v:=.tuple #[.agg #[.string ⟨#[]⟩,S0,.string ⟨#[]⟩,S0],.bool false]) (by simp[results,results148,go_sem,k0,k1,k2,k3]) rfl ⟨⟨#[]⟩,none,0,0,⟨#[]⟩,none,0,0,false,rfl,hid (l.out _ _ _ _ _),belB⟩
     | some n=>
      have l:Hid (line (bl s)=some (x,y,n)):=by rw[i,D];rfl
      have a0:=hid (Zr1 HN F R);have HM:=hid D;clear D
      go_wp2_with fail
      refine(ZBn m N S (by rwa [d.2])).mono ?_;rintro e w4 ⟨sa,sc,rfl,a1,h⟩;have T:=hid (ZcB.below HQ.1 h);have I:=f.trans (h.mono O);have U:=Yah O h.size;have P:=G.trans (h.mono Om);clear f h G
      go_wp2_with fail
      refine(Zro T).mono ?_;rintro e w5 ⟨oa,oc,rfl,V,H⟩;have X:qs.length=ln:=by have:=T.1.1;rw[Zi9]at this;omega
      have a3:Hid (Zc6 w5 _ a (.slice oa ln oc) _ _ n):=hid ⟨y,qs,by rw[l,c.1],d.1▸HQ.2,X▸V,ZbF _,a0.out▸d.2▸Zn (ZmF a1.out) H⟩;clear X;obtain⟨k0,k1,k2,k3,g0,g1,g2,g3⟩:=box4 (I.trans (H.mono U));have a4:=hid (((I.trans (H.mono U)).block _ Om).trans bnw);have a7:=P.trans (H.mono Om);clear I H V P;go_wp2;exact bodyPost_ret (v:=.tuple #[.agg #[.string a,.slice oa ln oc,.string ⟨(Zbf qs).toArray⟩,.slice sa n sc],.bool true]) (by simp[results,results148,go_sem,k0,k1,k2,k3]) rfl ⟨a,oa,ln,oc,_,sa,n,sc,true,rfl,hid (Or.inl ⟨rfl,a3.other a4.out (fun j hj=>by first|rfl|(repeat rw[Go.Deep.blk_setCell_other _ _ _ _ (by exact hj)]))⟩),belB⟩
theorem ZnV{i:Int} :
  CP 149 #[Vi i,.iface 432 what] w fun e u=>e=.returned (.iface 81 (Vp w.heap.size))/\u=w.alloc (.cells #[.string ⟨#[108,105,110,101]⟩,Vi i,.iface 432 what] 85):=by
 go_enter func149,ntmps149;go_wp2;go_ret;exact⟨rfl,rfl⟩
theorem Tryz.infoSeries:(Tryz.prog.info? 271).map (fun i=>(i.zero,i.size,i.bytes))=some (some (.agg #[.string ByteArray.empty,S0,.string ByteArray.empty,S0]),4,80):=by kernel_rfl
theorem Zux{a:Nat}{u:Value}(d:W.cell? ⟨a,0,none⟩=some u)(e:W.cell? ⟨a,1,none⟩=some v)(f:W.cell? ⟨a,2,none⟩=some x)(g:W.cell? ⟨a,3,none⟩=some z):∀j y,[u,v,x,z][j]?=some y->W.cell? ((⟨a,0,none⟩:Addr).add j)=some y:=by
 intro j y c;rw[ZfO]
 match j,c with
 | 0,c=>simp at c;subst c;exact d
 | 1,c=>simp at c;subst c;exact e
 | 2,c=>simp at c;subst c;exact f
 | 3,c=>simp at c;subst c;exact g
def ZbP:List (Value×Value×Value×Value)->List Value
 | []=>[]
 | r::rs=>r.1::r.2.1::r.2.2.1::r.2.2.2::ZbP rs
theorem Zv8(a b:List (Value×Value×Value×Value)):ZbP (a++b)=ZbP a++ZbP b:=by
 induction a with
 | nil=>rfl
 | cons r a ih=>simp[ZbP,ih]
theorem Zv9(rs:List (Value×Value×Value×Value))(j:Nat):(ZbP rs)[j*4]?=rs[j]?.map (·.1)/\(ZbP rs)[j*4+1]?=rs[j]?.map (·.2.1)/\(ZbP rs)[j*4+2]?=rs[j]?.map (·.2.2.1)/\(ZbP rs)[j*4+3]?=rs[j]?.map (·.2.2.2):=by
 induction rs generalizing j with
 | nil=>simp[ZbP]
 | cons r rs ih=>
  cases j with
  | zero=>simp[ZbP]
  | succ j=>
   obtain⟨a,c,d,e⟩:=ih j;refine⟨?_,?_,?_,?_⟩
   ·rw[show(j+1)*4=j*4+1+1+1+1 by omega];simpa [ZbP] using a
   ·rw[show(j+1)*4+1=j*4+1+1+1+1+1 by omega];simpa [ZbP] using c
   ·rw[show(j+1)*4+2=j*4+2+1+1+1+1 by omega];simpa [ZbP] using d
   ·rw[show(j+1)*4+3=j*4+3+1+1+1+1 by omega];simpa [ZbP] using e
def ZeP(rs:List (Value×Value×Value×Value))(es:List Entry):Prop:=rs.length=es.length/\∀j (h:j<es.length),∃nm a n c tx sa sc,rs[j]?=some (.string nm,.slice a n c,.string tx,.slice sa (es[j]).count sc)
theorem ZeP.snoc(h:ZeP rs es)(x:Entry)(nm:BA)(a:Option Addr)(n c:Nat)(tx:BA)(sa:Option Addr)(sc:Nat) :
  ZeP (rs++[(.string nm,.slice a n c,.string tx,.slice sa x.count sc)]) (es++[x]):=by
 refine⟨by simp[h.1],fun j g=>?_⟩;by_cases d:j<es.length
 ·obtain⟨nm',a',n',c',tx',sa',sc',e⟩:=h.2 j d;exact⟨nm',a',n',c',tx',sa',sc',by rw[Ybr (h.1▸d),e,List.getElem_append_left _]⟩
 ·have f:j=es.length:=by simp at g;omega
  subst f;refine⟨nm,a,n,c,tx,sa,sc,?_⟩;rw[Yb3 (h.1▸Yac _),h.1];simp
theorem Zc6.grown(h:Zc6 w l nm lv tx sv sn){e:TypeId}{s:Nat}(a:w.grownBy w' v.ownBlock)(c:w.ownsRow b e s v n xs)(d:378≠e)(f:358≠e):Zc6 w' l nm lv tx sv sn:=by
 obtain⟨i,qs,e1,e2,e3,e4,e5⟩:=h;exact⟨i,qs,e1,e2,⟨e3.1.kept a (ZmC e3.1 c d),e3.2⟩,e4,e5.kept a (ZmC e5 c f)⟩
def AllV(w:World)(rs:List (Value×Value×Value×Value))(es:List Entry)(ps:List (LB)):Prop:=∀j (h:j<es.length),∃(nm:BA) (a:Option Addr) (n c:Nat) (tx:BA) (sa:Option Addr) (sc:Nat),rs[j]?=some (.string nm,.slice a n c,.string tx,.slice sa (es[j]).count sc)/\Zc6 w (ps.getD (es[j]).at_ []) nm (.slice a n c) tx (.slice sa (es[j]).count sc) (es[j]).count/\line (ps.getD (es[j]).at_ [])=some ((es[j]).name,(es[j]).inside,(es[j]).count)
theorem AllV.below  {rs : List (Value × Value × Value × Value)}   (h : AllV w rs es ps) (d : BW w w') : AllV w' rs es ps := fun j e => by
  obtain⟨nm,a,n,c,tx,sa,sc,e1,e2,e3⟩:=h j e;exact⟨nm,a,n,c,tx,sa,sc,e1,e2.below d,e3⟩
theorem AllV.grown  {rs : List (Value × Value × Value × Value)}   (h : AllV w rs es ps)  {e : TypeId} {s : Nat}    (d : w.grownBy w' v.ownBlock) (f : w.ownsRow b e s v n xs) (g : 378 ≠ e) (i : 358 ≠ e) : AllV w' rs es ps := fun j k => by
  obtain⟨nm,a,n,c,tx,sa,sc,e1,e2,e3⟩:=h j k;exact⟨nm,a,n,c,tx,sa,sc,e1,e2.grown d f g i,e3⟩
theorem AllV.snoc(e:rs.length=es.length)(h:AllV w rs es ps)(z:Entry)(nm:BA)(a:Option Addr)(n c:Nat)(tx:BA)(sa:Option Addr)(sc:Nat)
  (g:Zc6 w (ps.getD z.at_ []) nm (.slice a n c) tx (.slice sa z.count sc) z.count) (i:line (ps.getD z.at_ [])=some (z.name,z.inside,z.count)):AllV w (rs++[(.string nm,.slice a n c,.string tx,.slice sa z.count sc)]) (es++[z]) ps:=fun j k=>by
 by_cases d:j<es.length
 ·obtain⟨nm',a',n',c',tx',sa',sc',e1,e2⟩:=h j d;refine⟨nm',a',n',c',tx',sa',sc',?_⟩;rw[Ybr (e▸d),List.getElem_append_left d];exact⟨e1,e2⟩
 ·have f:j=es.length:=by simp at k;omega
  subst f;refine⟨nm,a,n,c,tx,sa,sc,?_⟩;rw[Yb3 (e▸Yac _),e];simp only[Yfw,Ycy,List.getElem_append_right (Yac _),List.getElem_cons_zero];exact⟨trivial,g,i⟩
theorem ZBh(n:Nat)(A:Nat->Addr)(m:Int)(S:Hid (n=ps.length))(a4:n<=6001)(T:Hid (∀i,i<ps.length->(ps.getD i []).length<=6000))(E:ZfN w g ps)(hv:Vars w A m) :
  CP 87 #[.slice (some ⟨g, 0, none⟩) n n] w fun e F => BW w F /\
    ((∃(i:Nat) (fa:Nat),e=.returned (.tuple #[S0,.iface 81 (Vp fa)])/\F.heap[fa]?=some (.cells #[.string ⟨#[108,105,110,101]⟩,Vi i,.iface 432 (.pointer (some (A 4)))] 85 (0,0))/\Hid (Zbh 0 [] ps=.inl i))∨
     (∃(v:Value) (es:List Entry) (rs:List (Value×Value×Value×Value)),e=.returned (.tuple #[v,.nilIface])/\F.ownsRow 0 271 4 v es.length (ZbP rs)/\Hid (ZeP rs es/\Zbh 0 [] ps=.inr es)/\Hid (AllV F rs es ps))):=by
 obtain⟨i0,hi,U,V,W⟩:=info_parts Tryz.infoSeries;have X:=E.1;go_enter func87,ntmps87;go_wp2
 go_loopw [4, 11] (fun v i wr => ∃ (k : Nat) (es : List Entry) (rs : List (Value × Value × Value × Value)), k <= n /\ i = Vi k /\ es.length <= k /\ wr.ownsRow w.heap.size 271 4 v es.length (ZbP rs) /\ Hid (ZeP rs es /\ Zbh 0 [] ps = Zbh k es (ps.drop k)) /\ Hid (AllV wr rs es ps) /\ BW w wr)
   (fun _ i _=>n - (intOf i).toNat)
 case atStart=>exact⟨0,[],[],Yag _,rfl,Yag _,Ybc _ _ _ _,⟨⟨rfl,fun j h=>by simp at h⟩,rfl⟩,hid (fun j h=>by simp at h),Yaf _ _⟩
 case round=>
  obtain⟨k,es,rs,hk,rfl,a5,f,p,G,d⟩:=hrel;have Y:=d.size;have r:=hv.below d;by_cases Z:k<n
  ·have s:k<ps.length:=by rwa [<-S.out]
   obtain⟨sk,a6,H⟩:=(E.below d X).2 k s;have P:sk.size<=6000:=ZU H▸T.out k s;have D:=hid H;clear H;cases he:sk.toList.isEmpty
   ·have K:Hid (ps.getD k _≠[]):=D.out▸Zij he;have L:=r.max;have a0:=r.sent 4 Dc
    go_wp2_with fail
    refine(ZBo m P L).mono ?_;rintro e z ⟨nm,la,ln,lc,tx,sa,sn,sc,ok,rfl,x,t⟩;have a2:z.cell? ⟨4,0,none⟩=some _:=(r.below t).sent _ Dc;have a3:∀o,(z.alloc o).cell? ⟨4,0,none⟩=some _:=fun o=>((r.below t).alloc o).sent _ Dc;have M:=d.trans (t.mono Y);have a7:=M.size;have c:=Zn f t;clear a0 L r;cases ok
    ·have B:Hid (Zbh 0 [] ps=.inl k):=by
      rw[p.2];refine Zyu s K ?_;rw[<-D];rcases x.out with ⟨h,_⟩|⟨_,h⟩
      ·cases h
      ·exact h
     go_wp2_with (go_at_call 149;refine(ZnV).mono ?_;rintro e F ⟨rfl,rfl⟩)
     go_ret2;refine⟨belB,.inl ⟨k,z.heap.size+1,rfl,?_,B⟩⟩;rw[show z.heap.size+1=(z.alloc (.cells #[.string nm,.slice la ln lc,.string tx,.slice sa sn sc] 271)).heap.size by simp];exact Ye3
    ·have N:Hid (Zc6 z (bl sk) nm (.slice la ln lc) tx (.slice sa sn sc) sn):=by
      rcases x.out with ⟨_,h⟩|⟨h,_⟩
      ·exact h
      ·cases h
     obtain⟨na,a,O⟩:∃name inside,line _=some (name,inside,sn):=by
      obtain⟨a,qs,h,_⟩:=N.out;exact⟨_,a,h⟩
     have Q:Hid (AllV z (rs++[(.string nm,.slice la ln lc,.string tx,.slice sa sn sc)]) (es++[⟨k,na,a,sn⟩]) ps):=hid (AllV.snoc p.1.1 (G.below t) ⟨k,na,a,sn⟩ nm la ln lc tx sa sc (by show Zc6 z (ps.getD k []) nm (.slice la ln lc) tx (.slice sa sn sc) sn;rw[<-D];exact N) (by show line (ps.getD k [])=some (na,a,sn);rw[<-D];exact O))
     have B:Hid (ZeP (rs++[(.string nm,.slice la ln lc,.string tx,.slice sa sn sc)]) (es++[⟨k,na,a,sn⟩])/\Zbh 0 [] ps=Zbh (k+1) (es++[⟨k,na,a,sn⟩]) (ps.drop (k+1))):=
      ⟨p.1.snoc ⟨k,na,a,sn⟩ nm la ln lc tx sa sc,by rw[p.2];exact Zyv s K (by rwa [<-D.out])⟩
     clear O x
     go_wp2_with (at_builtin;refine wpList_append_own _ rfl (.tmp 28) (.tmp 30) 98 rfl w.heap.size 271 i0 (.agg #[.string ByteArray.empty,S0,.string ByteArray.empty,S0]) 4 80 underlying98 hi U V W rfl Dc _ _ _ rfl ((c.alloc _).alloc _) ⟨z.heap.size+1,0,none⟩ 1 1 [.string nm,.slice la ln lc,.string tx,.slice sa sn sc] rfl rfl ?c1 ?c2 ?c3 ?c4 ?c5 ?_)
     case c1=>exact Zux (by simp) (by simp) (by simp) (by simp)
     case c2=>intro u hu;simp at hu;rcases hu with rfl|rfl|rfl|rfl <;> rfl
     case c3=>unfold maxLen;omega
     case c4=>omega
     case c5=>simp;omega
     intro v' w3 C l _;have a1:=((M.alloc Om _).alloc (by simp;omega) _).grown l (by simp;omega) (fun q hq=>(c.lt q hq).1)
     have J:w3.ownsRow w.heap.size 271 4 v' (es++[(⟨k,na,a,sn⟩:Entry)]).length (ZbP (rs++[(.string nm,.slice la ln lc,.string tx,.slice sa sn sc)])):=by
      rw[Zv8,Yab];exact C
     have I:∀o o':Obj,Below _ _ ((z.alloc o).alloc o'):=fun o o'=>Zbal.alloc (by simp) _;have R:Hid (AllV w3 (rs++[(.string nm,.slice la ln lc,.string tx,.slice sa sn sc)]) (es++[⟨k,na,a,sn⟩]) ps):=hid ((Q.below (I _ _)).grown l ((c.alloc _).alloc _) Dc Dc);clear c f l C I;go_wp2
     go_roundw
     case rel=>exact⟨k+1,_,_,by omega,by go_num,by simp;omega,J,B,R,a1⟩
     case measure=>simp[intOf];omega
   ·have B:Hid (ZeP _ _/\Zbh 0 _ _=Zbh _ _ _):=
     ⟨p.1,p.2▸Zyw s (by rw[<-D.out];exact ZgW he)⟩
    go_wp2
    go_roundw
    case rel=>exact⟨k+1,es,rs,by omega,by go_num,by omega,f,B,G,d⟩
    case measure=>simp[intOf];omega
  ·have B:Hid (ZeP _ _/\Zbh 0 [] ps=.inr es):=⟨p.1,p.2▸Zyx (by rw[<-S.out];exact Z)⟩
   go_wp2;go_ret2;exact⟨d,.inr ⟨_,es,rs,rfl,f.mono (Yag _),B,G⟩⟩
def ZcS(es:List Entry)(k:Nat):Nat:=((es.take k).map (·.count)).sum
theorem ZsB(k:Nat)(h:k<es.length):ZcS es (k+1)=ZcS es k+(es[k]).count:=by
 unfold ZcS;rw[List.take_succ_eq_append_getElem h,Yaq,List.sum_append];rfl
theorem ZsA(es:List Entry)(h:∀e∈es,e.count<=6001)(k:Nat):ZcS es k<=6001*k:=by
 induction k with
 | zero=>simp[ZcS]
 | succ k ih=>
  by_cases a:k<es.length
  ·rw[ZsB k a];have:=h _ (List.getElem_mem a);omega
  ·have:ZcS es (k+1)=ZcS es k:=by unfold ZcS;rw[Ya5 Om,Ya5 Om]
   omega
theorem Zvm(d:w.ownsRow 0 271 4 v es.length (ZbP rs))(p:Hid (ZeP rs es))(m:Hid (∀e∈es,e.count<=6001))(z:es.length<=6001) :
  CP 89 #[v] w fun e u=>e=.returned (Vi (ZcS es es.length))/\BW w u:=by
 obtain⟨av,cp,rfl⟩:=Zl d;go_enter func89,ntmps89;go_wp2
 go_loopw [3,8] (fun c i wr=>∃k:Nat,k<=es.length/\i=Vi k/\c=Vi (ZcS es k)/\BW w wr) (fun _ i _=>es.length - (intOf i).toNat)
 case atStart=>exact⟨0,Yag _,rfl,by simp[ZcS],Yaf _ _⟩
 case round=>
  obtain⟨k,A,rfl,rfl,f⟩:=hrel;have s:=f.size;have t:=ZsA _ m k;by_cases l:k<es.length
  ·have q:=hid (ZsB k l);have x:=m _ (List.getElem_mem l);obtain⟨nm,a,n,c,tx,sa,sc,o⟩:=p.2 k l;obtain⟨f1,f2,f3,f4⟩:=Zv9 rs k;rw[o]at f1 f2 f3 f4
   have r:∃g,av=some ⟨g,0,none⟩:=by
    obtain⟨g,cp',h⟩:=ZF d Om;injection h with h1;exact⟨g,h1⟩
   obtain⟨g,rfl⟩:=r;have j:=Z1 d;have c1:wr.cell? _=some (.string _):=(f.cell j).trans (Zi d _ _ f1);have c2:wr.cell? _=some (.slice a n c):=(f.cell j).trans (Zi d _ _ f2);have c3:wr.cell? _=some (.string _):=(f.cell j).trans (Zi d _ _ f3);have c4:wr.cell? _=some (.slice _ _ _):=(f.cell j).trans (Zi d _ _ f4);generalize(es[k]).count=cnt at *
   clear o f1 f2 f3 f4;go_wp2
   go_roundw
   case rel=>exact⟨k+1,by omega,by go_num,by rw[q];go_num,belB⟩
   case measure=>simp[intOf];omega
  ·obtain rfl:k=es.length:=by omega
   go_wp2;go_ret;exact⟨rfl,f⟩
def ZfK(ps:List (LB×LB)):Nat->LB
 | 0=>[]
 | k+1=>(if 0<k then ZfK ps k++[44] else ZfK ps k)++(ps.getD k ([],[])).1++[61]++(ps.getD k ([],[])).2
theorem ZcW{a b:BA}(h:bl a=bl b):a=b:=by
 cases a with | mk x => cases b with | mk y =>
   have:x=y:=by
     have c:x.toList=y.toList:=h;exact Array.toList_inj.mp c
   rw[this]
theorem Ztm(l:List Lab):∀k,k<=l.length->ZfK l k=wrt (l.take k)
 | 0,_=>rfl
 | k + 1, h => by
   have a:k<l.length:=h;rw[ZfK,Ztm l k Om];unfold wrt;rw[List.take_succ_eq_append_getElem a,Yaq,Yco,Zlc];have c:l.getD k ([],[])=l[k]:=by rw[Yaa,List.getElem?_eq_getElem a];rfl
   rw[c];by_cases d:0<k
   · rw[if_pos d,if_neg]
     · simp[lab1]
     · rw[Ydl]
       intro e;have:=congrArg List.length e;rw[Yak,Ya7,Ybq]at this;omega
   · obtain rfl:k=0:=by omega
     rfl
theorem ZoJ(n:Nat):(decS n).length<=n+1:=by
 induction n using Nat.strongRecOn with
 | ind n ih=>
  by_cases h:n<=9
  ·rw[Zh0 h];simp
  ·rw[Zi6 h,Yab];have:=ih (n / 10) Om;simp only[Yaj,Ybq];omega
theorem Zlj(n:Int)(h:vOk n):(decI n).length<=1000000002:=by
 unfold vOk at h;unfold decI;split
 ·have:=ZoJ n.natAbs;rw[Yab,Ybj];omega
 ·have:=ZoJ n.toNat;omega
theorem BAt.alloc{a:Nat}{c:List Value}{t:TypeId}(h:BAt w a c t)(o:Obj):BAt (w.alloc o) a c t:=h.below Zbal
open Go.Proofs.Tryz
open Go.RowKit Go.Maps Go.WideMaps LS
def Zdz(l:LB):LB:=match cut 125 l with|some p=>p.1|none=>l
def ZbZ:Nat->List (LB)->List (LB)->Option Nat
 | _,_,[]=>none
 | i,seen,x::xs=>if x=[] then ZbZ (i+1) seen xs else if seen.contains (Zdz x)then some i else ZbZ (i+1) (seen++[Zdz x]) xs
theorem ZDq(a:i<ps.length)(h:ps.getD i []=[]):ZbZ i seen (ps.drop i)=ZbZ (i+1) seen (ps.drop (i+1)):=by
 have e:ps.getD i []=ps[i]:=by simp[a]
 rw[List.drop_eq_getElem_cons a,ZbZ,<-e,if_pos h]
theorem ZDs(a:i<ps.length)(h:ps.getD i []≠[])(c:seen.contains (Zdz (ps.getD i []))=true):ZbZ i seen (ps.drop i)=some i:=by
 have e:ps.getD i []=ps[i]:=by simp[a]
 rw[List.drop_eq_getElem_cons a,ZbZ,<-e,if_neg h,if_pos c]
theorem ZDt(a:i<ps.length)(h:ps.getD i []≠[])(c:seen.contains (Zdz (ps.getD i []))=false):ZbZ i seen (ps.drop i)=ZbZ (i+1) (seen++[Zdz (ps.getD i [])]) (ps.drop (i+1)):=by
 have e:ps.getD i []=ps[i]:=by simp[a]
 rw[List.drop_eq_getElem_cons a,ZbZ,<-e,if_neg h,if_neg (c▸Bool.false_ne_true)]
theorem ZDr(a:¬i<ps.length):ZbZ i seen (ps.drop i)=none:=by
 rw[Yb8 Om];rfl
theorem law9:Keyed prog 9:=string_keyed underlying9
theorem Ztz:(zeroValue 277).run prog w=.ok (.agg #[]) w:=by kernel_rfl
def Sd(seen:List (LB)):DataW Unit:=setOf (.agg []) (seen.map Lit.string)
theorem ZtD(seen:List (LB))(x:LB):Sd (seen++[x])=(Sd seen).put (.string x) (.agg []):=by
 unfold Sd;rw[Yaq,Ybb,Ydg,setOf_snoc]
theorem Zxh:∀x∈seen.map Lit.string,WideAt.IsKeyLit x:=by
 intro x a;obtain⟨y,_,rfl⟩:=Ybe.1 a
 trivial
theorem ZwR(seen:List (LB))(x:LB):Maps.has (Sd seen) (.string x)=seen.contains x:=by
 unfold Sd;rw[has_setOf _ _ _ (Zxh)]
 induction seen with
 | nil=>rfl
 | cons a l ih=>
  rw[Ybb,List.any_cons,ih,List.contains_cons]
  congr 1
  show(a == x)=(x == a)
  exact BEq.comm
theorem Zvp(m:Int)(h:s.size<=6000)(i:w.cell? ⟨14,0,none⟩=some (Vi m)) :
  CP 150 #[.string s,.string ⟨#[125]⟩] w fun e u=>∃(a b:BA) (f:Bool),e=.returned (.tuple #[.string a,.string b,.bool f])/\Hid (bl a=Zdz (bl s))/\a.size<=6000/\∃n,u=w.drewN n:=by
 cases d:cut 125 (bl s)with
 | none=>
  refine(ZgH m w h i d).mono ?_;rintro e u ⟨a,b,rfl,c,g⟩;exact⟨a,b,_,rfl,hid (by unfold Zdz;rw[d];exact c.1),by rwa [ZU c.1,Zd],g⟩
 | some p=>
  obtain⟨x,y⟩:=p;refine(Zep m w h i d).mono ?_;rintro e u ⟨a,b,rfl,c,g⟩;refine⟨a,b,_,rfl,hid (by unfold Zdz;rw[d];exact c.1),?_,g⟩;have:(bl s).length=x.length+(y.length+1):=by rw[(Zdx d).1];simp
  rw[ZU c.1];rw[Zd]at this;omega
theorem ZyC(n:Nat)(A:Nat->Addr)(m:Int)(K:Hid (n=ps.length))(W:n<=6001)(L:Hid (∀i,i<ps.length->(ps.getD i []).length<=6000))(v:ZfN w g ps)(R:Vars w A m) :
  CP 88 #[.slice (some ⟨g, 0, none⟩) n n] w fun e u => BW w u /\
    ((∃(i:Nat) (fa:Nat),e=.returned (.iface 81 (Vp fa))/\u.heap[fa]?=some (.cells #[.string ⟨#[108,105,110,101]⟩,Vi i,.iface 432 (.pointer (some (A 5)))] 85 (0,0))/\Hid (ZbZ 0 [] ps=some i))∨
     (e=.returned .nilIface/\Hid (ZbZ 0 [] ps=none))):=by
 have X:=@run_makeMap prog;have M:=v.1;go_enter func88,ntmps88;go_wp2
 go_loopw [14] (fun i wr => ∃ (k : Nat) (seen : List (LB)), k <= n /\ i = Vi k /\ wr.ownsMap prog 9 unitElem w.heap.size k (Sd seen) /\ Hid (ZbZ 0 [] ps = ZbZ k seen (ps.drop k)) /\ BW w wr /\ w.heap.size + 1 <= wr.heap.size)
   (fun i _=>n - (intOf i).toNat)
 case atStart=>exact⟨0,[],Yag _,rfl,World.ownsMap_made _ _ _ _,rfl,Zbal,by simp⟩
 case round=>
  obtain⟨k,seen,hk,rfl,x,D,d,N⟩:=hrel;have h:=R.below d;by_cases O:k<n
  ·have l:k<ps.length:=by rwa [<-K.out]
   obtain⟨sk,Y,B⟩:=(v.below d M).2 k l;have J:sk.size<=6000:=ZU B▸L.out k l;have E:=hid B;clear B;cases P:sk.toList.isEmpty
   ·have G:Hid (ps.getD k _≠[]):=E.out▸Zij P;have I:=h.max
    go_wp2_with fail
    refine(Zvp m J I).mono ?_;rintro e z ⟨a,b,f,rfl,Q,Z,j,rfl⟩;have S:∀o,((wr.alloc o).drewN j).cell? ⟨5,0,none⟩=some _:=fun o=>(h.alloc o).sent _ Dc;have T:∀o,(wr.alloc o).cell? ⟨5,0,none⟩=some _:=fun o=>(h.alloc o).sent _ Dc;have U:∀o,((wr.drewN j).alloc o).cell? ⟨5,0,none⟩=some _:=fun o=>((h.drewN j).alloc o).sent _ Dc;have r:keyOf _ 9 (.string a)=some _:=keyOf_string_mk underlying9 (by unfold maxLen;omega)
    have C:Maps.has (Sd seen) (.string a.data.toList)=seen.contains (Zdz (ps.getD k [])):=by
     rw[ZwR];show seen.contains (bl a)=_;rw[Q,E]
    have c:(wr.drewN j).ownsMap _ 9 _ _ k _:=x;clear I h;cases t:seen.contains (Zdz (ps.getD k []))
    ·have s:Hid (ZbZ 0 _ _=ZbZ _ _ _):=D.out▸ZDt l G.out t;rw[t]at C;clear t
     go_wp2_with (first
       | (at_lookup;refine wpList_lookup_own_unit _ rfl _ _ 274 rfl 9 277 law9 underlying274 (Ztz) w.heap.size k _ rfl c _ _ rfl r ?_)
       | (at_mapUpdate;refine wpList_mapUpdate_own _ rfl _ _ _ 274 rfl 9 277 law9 underlying274 (unitElem (H:=Unit)) w.heap.size k _ rfl (c.alloc _) (by unfold maxLen;omega) _ _ _ rfl rfl r _ [] unitElem_mk ?_;intro w1 F p))
     have s1:=p.size;simp at s1
     go_roundw
     case rel=>
      refine⟨k+1,_,by omega,by go_num,?_,s,?_,by omega⟩
      ·rw[ZtD,<-E,<-Q];exact F
      ·exact((ZhQ d j).alloc (by simp;omega) _).grown p (by simp;omega) (fun q V=>by cases V;exact Yac _)
     case measure=>simp[intOf];omega
    ·have s:Hid _:=D.out▸ZDs l G.out t;rw[t]at C;clear t
     go_wp2_with (first
       | (at_lookup;refine wpList_lookup_own_unit _ rfl _ _ 274 rfl 9 277 law9 underlying274 (Ztz) w.heap.size k _ rfl c _ _ rfl r ?_)
       | (go_at_call 149;refine(ZnV).mono ?_;rintro e u ⟨rfl,rfl⟩))
     go_ret;refine⟨belB,.inl ⟨k,wr.heap.size+1,rfl,?_,s⟩⟩;rw[show wr.heap.size+1=(wr.alloc (.cells #[] 277)).heap.size by simp];exact Ye3
   ·have s:Hid _:=D.out▸ZDq l (by rw[<-E.out];exact ZgW P);go_wp2
    go_roundw
    case rel=>exact⟨k+1,seen,by omega,by go_num,x.mono (Ydp _),s,d,N⟩
    case measure=>simp[intOf];omega
  ·have s:Hid (ZbZ 0 [] ps=none):=D.out▸ZDr (by rw[<-K.out];exact O);go_wp2;go_ret;exact⟨d,.inr ⟨rfl,s⟩⟩
def Zbp(l:LB):Nat×Nat:=
 if 6000<l.length then (1,0)else match Zbh 0 [] (split 10 l)with
  | .inl i=>(5,i)
  | .inr es => match ZbZ 0 [] (split 10 l) with
    | some i=>(6,i)
    | none=>if 30<es.length∨200<ZcS es es.length then (7,0)else (0,0)
def Zei(w:World)(A:Nat->Addr)(err:Value)(r:Nat×Nat):Prop:=
 (err=.nilIface/\r=(0,0))∨
 (err=.iface 432 (.pointer (some (A 0)))/\r=(1,0))∨
 (err=.iface 432 (.pointer (some (A 6)))/\r=(7,0))∨
 (∃i fa:Nat,err=.iface 81 (Vp fa)/\r=(5,i)/\w.cell? ⟨fa,1,none⟩=some (Vi i)/\w.cell? ⟨fa,2,none⟩=some (.iface 432 (.pointer (some (A 4)))))∨
 (∃i fa:Nat,err=.iface 81 (Vp fa)/\r=(6,i)/\w.cell? ⟨fa,1,none⟩=some (Vi i)/\w.cell? ⟨fa,2,none⟩=some (.iface 432 (.pointer (some (A 5)))))
theorem Zn8{fa:Nat}{t:TypeId}(h:w.heap[fa]?=some (.cells #[x,y,z] t (0,0))):w.cell? ⟨fa,1,none⟩=some y/\w.cell? ⟨fa,2,none⟩=some z:=by
 simp[World.cell?,h]
