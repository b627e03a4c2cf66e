/- Parts. -/
import Derived.Test.YtpbemaaghbbocaaGreatDoorW11
import Derived.Test.YtpbemaaghbbocaaGreatDoorW08
set_option linter.all false
set_option maxRecDepth 100000
set_option maxHeartbeats 16000000
namespace Go.Proofs.YtpbemaaghbbocaaGreatDoor
open Go.RowKit LS Go.Proofs.Tryz
variable {tx:BA}{t:Int}{p:Lab}{qs:List (BA×BA)}{l:List (Int×Int)}{L:List El}{bs xs:List Value}{base n size:Nat}{a av:Option Addr}{c:UInt8}{u v:Value}{w w':World}
def ZcP(p:BA×BA):LB:=bl p.1++61::bl p.2
def Zbf:List (BA×BA)->LB
 | []=>[]
 | [p]=>ZcP p
 | p::l=>ZcP p++44::Zbf l
theorem ZxL(l:List (BA×BA))(p:BA×BA):Zbf (l++[p])=(if l.isEmpty then [] else Zbf l++[44])++ZcP p:=by
 induction l with
 | nil=>rfl
 | cons a l ih=>
  cases l with
  | nil=>simp[Zbf]
  | cons c l=>
   have e:Zbf (a::c::l++[p])=ZcP a++44::Zbf (c::l++[p]):=rfl;rw[e,ih];simp[Zbf]
theorem ZxK(l:List (BA×BA))(h:∀p∈l,p.1.size<=6000/\p.2.size<=6000):(Zbf l).length<=12002*l.length:=by
 induction l with
 | nil=>simp[Zbf]
 | cons a l ih=>
  have f:=h a (Yay ..);have g:=ih (fun p d=>h p (Yam _ d));have i:(ZcP a).length<=12001:=by unfold ZcP;rw[Yab,Yaj,Zd,Zd];omega
  cases l with
  | nil=>simp[Zbf];omega
  | cons c l=>
   have e:Zbf (a::c::l)=ZcP a++44::Zbf (c::l):=rfl;rw[e,Yab,Yaj];simp at *
   omega
theorem Zwe(l:List (BA×BA)):∀u∈Zb2 l,u.oneCell'=true:=by
 induction l with
 | nil=>intro u c;cases c
 | cons a l ih=>
  intro u c;simp[Zb2]at c;rcases c with rfl|rfl|c
  ·rfl
  ·rfl
  ·exact ih u c
theorem ZuE{cap:Nat}(w:World)(qs:List (BA×BA))(h:ZcB w 0 (.slice a n cap) n qs) :
  Cq 184 #[.slice a n cap] w fun e m=>∃(a':Option Addr) (cap':Nat),e=.returned (.slice a' n cap')/\ZcB m 0 (.slice a' n cap') n qs/\BW w m:=by
 obtain⟨i0,y,o,r,s⟩:=info_parts Tryz.infoLabel;obtain⟨c,t,f⟩:=h;rcases c.2 with ⟨k,F⟩|⟨g,cp,cur,k,_⟩
 ·injection k with h1 h2 h3;subst h1;subst h2;subst h3;have l:Hid (ZcB w 0 S0 0 qs):=⟨c,t,f⟩
  have z:∀W:World,(binOp .eql 194 S0 S0).run prog W=.ok (.bool true) W:=fun _=>rfl;clear c f;go_enter func184,ntmps184;go_wp2;go_ret;exact⟨none,0,rfl,l.out,Yaf _ _⟩
 ·injection k with h1 h2 h3;subst h1;subst h3;have A:Hid (∀j u,(Zb2 qs)[j]?=some u->w.cell? ((⟨g,0,none⟩:Addr).add j)=some u):=c.cells rfl;have B:(Zb2 qs).length=n*2:=c.1;have z:∀W:World,(binOp .eql 194 (.slice (some ⟨g,0,none⟩) n cap) S0).run prog W=.ok (.bool false) W:=fun _=>rfl;have l:Hid (∀p∈qs,p.1.size<=6000/\p.2.size<=6000):=f;clear c f;go_enter func184,ntmps184
  go_wp2_with (at_builtin;refine wpList_append_own _ rfl (.tmp 5) (.tmp 6) 194 rfl w.heap.size 320 i0 (.agg #[.string ByteArray.empty,.string ByteArray.empty]) 2 32 underlying194 y o r s rfl Dc _ 0 [] rfl (World.ownsRow_made w #[] 0 (Yac _) (by unfold maxLen;omega) rfl) ⟨g,0,none⟩ n _ (Zb2 qs) rfl B ?c1 ?c2 ?c3 ?c4 ?c5 ?_)
  case c1 => intro j u C; have := A.out j u C; rw [ZfO] at this; try rw [ZfO]
             rw[Ybm _ _ _ (Yai _ _ this)];exact this
  case c2=>exact Zwe qs
  case c3=>unfold maxLen;omega
  case c4=>omega
  intro v' D d i _;obtain⟨av,cp3,v⟩:=Zl d;subst v;have x:BW w D:=Zbal.grown i (by simp) (fun q E=>by simp[Value.ownBlock]at E;omega);go_wp2;go_ret;exact⟨av,cp3,rfl,⟨ZmF d,t,l.out⟩,x⟩
theorem Zuj{T e:TypeId}{B b:Nat}(h:Lib.IsBuilderF T e B b bs w)(c:BW w w'):Lib.IsBuilderF T e B b bs w':=by
 have one:∀p,Lib.BuilderAtF T e B b p bs w->Lib.BuilderAtF T e B b p bs w':=by
  intro p d;have f:=d.lt;obtain⟨m,v,i,a,j⟩:=d;refine⟨m,v,(c.block b f).trans i,⟨a.1,?_⟩,j⟩;rcases a.2 with n|⟨g,cap,cur,fz,o,k,l,rest⟩
  ·exact .inl n
  ·exact .inr ⟨g,cap,cur,fz,o,k,(c.block g (Yae.1 l).1).trans l,rest⟩
 exact h.elim (fun x=>.inl (one _ x)) (fun x=>.inr (one _ x))
theorem ZcB.below(h:ZcB w base v n qs)(a:BW w w'):ZcB w' base v n qs:=⟨Zn h.1 a,h.2⟩
theorem Zim{e:TypeId}(h:w.ownsRow base e size v n xs)(a:∀k,v.ownBlock=some k->w'.heap[k]?=w.heap[k]?):w'.ownsRow base e size v n xs:=by
 refine⟨h.1,?_⟩;rcases h.2 with c|⟨g,cap,cur,rfl,d,f,r⟩
 ·exact Or.inl c
 ·exact Or.inr ⟨g,cap,cur,rfl,d,(a g rfl).trans f,r⟩
theorem Zz2{e u:TypeId}{b:Nat}(h:w.ownsRow base e size v n xs)(a:Lib.OthersKept u (some b) w w')(d:e≠u)(f:v.ownBlock≠some b):w'.ownsRow base e size v n xs:=by
 refine⟨h.1,?_⟩;rcases h.2 with i|⟨g,cap,cur,rfl,j,k,r⟩
 ·exact Or.inl i
 ·exact Or.inr ⟨g,cap,cur,rfl,j,a g _ k (fun x=>f x) (fun c fz x=>by injection x with _ x2;exact d x2),r⟩
theorem Zuk{T e t:TypeId}{B b:Nat}(h:Lib.IsBuilderF T e B b bs w)(a:w.ownsRow base t size v n xs)(d:T≠t):v.ownBlock≠some b:=by
 rcases h with ⟨_,_,c,_⟩|⟨_,_,c,_⟩ <;> exact fun x=>Zcx a c d x.symm
theorem ZsW{a:Nat}{x y:Value}{t:TypeId}{fr:Nat×Nat}(h:w.heap[a]?=some (.cells #[x,y] t fr)):w.cell? ⟨a,0,none⟩=some x/\w.cell? ⟨a,1,none⟩=some y:=by
 constructor <;> simp[World.cell?,h]
theorem Zfg(a b:BA):bl (a++b)=bl a++bl b:=by simp[bl]
theorem Zro(a:Option Addr)(n cap:Nat)(w:World)(qs:List (BA×BA))(h:ZcB w 0 (.slice a n cap) n qs) :
  Cq 141 #[.slice a n cap] w fun e u=>∃(a':Option Addr) (cap':Nat),e=.returned (.agg #[.slice a' n cap',.string ⟨(Zbf qs).toArray⟩])/\ZcB u 0 (.slice a' n cap') n qs/\BW w u:=by
 have a6:qs.length=n:=by have:=h.1.1;rw[Zi9]at this;omega
 have A:Hid (ZcB w 0 (.slice a n cap) n qs):=h;have a7:n<=6001:=h.2.1
 have W : Hid (∀ k, (Zbf (qs.take k)).length <= 12002 * 6001) := hid (fun k => by
   have:=ZxK (qs.take k) (fun p hp=>h.2.2 p (Ydn hp));rw[Ya7]at this;have q:min k qs.length<=6001:=by omega
   exact Yah this (Nat.mul_le_mul_left _ q))
 clear h;go_enter func141,ntmps141;go_wp2
 go_loopw [8] (fun i wr=>∃k:Nat,k<=n/\i=Vi k/\Hid (Lib.IsBuilderF 101 5 (w.heap.size+1) (w.heap.size+1) (Lib.byteCells (Zbf (qs.take k))) wr)/\Hid (Below (w.heap.size+1) (w.alloc (.cells #[S0,.string ⟨#[]⟩] 196)) wr)) (fun i _=>n - (intOf i).toNat)
 case atStart=>
  refine⟨0,Yag _,rfl,?_,(Yaf _ _).alloc (by simp) _⟩;have:=Lib.IsBuilderF.of (Lib.fresh_isBuilder 101 5 (w.alloc (.cells #[S0,.string ⟨#[]⟩] 196)));rw[Go.Deep.nblk_alloc]at this;exact this
 case round=>
  obtain⟨k,hk,rfl,C,D⟩:=hrel;have s:w.heap.size+1<=wr.heap.size:=by have:=D.size;rw[Go.Deep.nblk_alloc]at this;exact this
  have E:Hid (BW w wr):=hid (((Yaf w.heap.size w).alloc (Yac _) _).trans (D.mono Om));by_cases a8:k<n
  ·have hg:∃g,a=some ⟨g,0,none⟩:=by
    obtain⟨g,cp,hv⟩:=ZF A.1 Om;injection hv with hv1;exact⟨g,hv1⟩
   obtain⟨g,rfl⟩:=hg;have F:k<qs.length:=by omega
   obtain⟨f1,f2⟩:=Zi8 qs k;rw[List.getElem?_eq_getElem F]at f1 f2;have M:=Z1 A.1;have c1:wr.cell? ⟨g,k*2,none⟩=some (.string qs[k].1):=(E.cell (p:=⟨g,k*2,none⟩) M).trans (Zi A.1 _ _ f1);have c2:wr.cell? ⟨g,k*2+1,none⟩=some (.string qs[k].2):=(E.cell (p:=⟨g,k*2+1,none⟩) M).trans (Zi A.1 _ _ f2);have S:=A.2.2 qs[k] (List.getElem_mem F)
   have L:Hid (Zbf (qs.take (k+1))=(if (qs.take k).isEmpty then [] else Zbf (qs.take k)++[44])++ZcP qs[k]):=hid (by
    rw[List.take_succ_eq_append_getElem F];exact ZxL _ _)
   have a9:=W.out k;generalize qs[k]=p at *
   obtain⟨x,y⟩:=p;clear f1 f2;have b0:x.size<=6000:=S.1;have b4:y.size<=6000:=S.2;clear S;have T:∀t,(wr.alloc (.cells #[.string x,.string y] t)).heap[wr.heap.size]?=some (.cells #[.string x,.string y] t (0,0)):=fun t=>Go.Deep.blk_alloc_new _ _;have X:(Lib.byteCells (Zbf (qs.take k))).length+(⟨#[44]⟩:BA).size<=140737488355328:=by rw[Lib.byteCells_length];show _+1<=_;omega
   have Y:(Lib.byteCells (Zbf (qs.take k))).length+(x++⟨#[61]⟩++y).size<=140737488355328:=by
    rw[Lib.byteCells_length,Yaz,Yaz];show _+(_+1+_)<=_;omega
   have Z:(Lib.byteCells (Zbf (qs.take k)++[44])).length+(x++⟨#[61]⟩++y).size<=140737488355328:=by
    rw[Lib.byteCells_length,Yab,Yaz,Yaz];show _+1+(_+1+_)<=_;omega
   have f:w.heap.size+1<wr.heap.size:=by
    rcases C.out with h|h <;> exact h.lt
   have N:∀o,w.heap.size+1<=(wr.alloc o).heap.size:=fun o=>by rw[Go.Deep.nblk_alloc];omega
   by_cases l:k=0
   ·have G:Hid (Zbf (qs.take (k+1))=Zbf (qs.take k)++ZcP (x,y)):=hid (by rw[L.out,l];rfl);have r:decide (0<(k:Int))=false:=decide_eq_false Om;clear L;have c1':wr.cell? ⟨g,0,none⟩=some (.string x):=by rw[l]at c1;simpa using c1
    have c2':wr.cell? ⟨g,1,none⟩=some (.string y):=by rw[l]at c2;simpa using c2
    go_wp2_with fail
    clear r;refine(ZhR (w.heap.size+1) (w.heap.size+1) _ _ _ (Lib.IsBuilderF.alloc C.out _) Y (N _)).mono ?_;rintro e H ⟨rfl,q,b2,k2⟩
    have m:Hid (Lib.IsBuilderF 101 5 (w.heap.size+1) (w.heap.size+1) (Lib.byteCells (Zbf (qs.take (k+1)))) H):=hid (by
     rw[G.out,Lib.byteCells_append];refine Or.inr ?_
     have e:Lib.byteCells (ZcP (x,y))=Lib.strCells (x++⟨#[61]⟩++y):=by
      rw[Lib.strCells_eq];show _=Lib.byteCells (bl _);rw[Zfg,Zfg,Yan];rfl
     rw[e];exact q)
    have I:Hid (Below (w.heap.size+1) (w.alloc (.cells #[S0,.string ⟨#[]⟩] 196)) H):=(D.alloc s _).trans b2;clear q b2 k2;go_wp2
    go_roundw
    case rel=>exact⟨k+1,by omega,by subst l;rfl,m,I⟩
    case measure=>simp[intOf];omega
   ·have G:Hid (Zbf (qs.take (k+1))=Zbf (qs.take k)++[44]++ZcP (x,y)):=hid (by
     rw[L.out,if_neg (by rw[Ydl];intro e;have:=congrArg List.length e;rw[Ya7,Ybq]at this;omega)])
    have r:decide (0<(k:Int))=true:=decide_eq_true Om;have a0:0<k:=by omega
    clear L
    go_wp2_with fail
    clear l r a0;refine(ZhR (w.heap.size+1) (w.heap.size+1) _ _ _ (Lib.IsBuilderF.alloc C.out _) X (N _)).mono ?_;rintro e U ⟨rfl,h1,b1,k1⟩;obtain⟨o0,o1⟩:=ZsW (k1 wr.heap.size _ (T _) (by simp;omega) (by intro c fz h;simp at h));have a1:w.heap.size+1<=U.heap.size:=by have:=b1.size;rw[Go.Deep.nblk_alloc]at this;omega
    have a2:Hid (Lib.IsBuilderF 101 5 (w.heap.size+1) (w.heap.size+1) (Lib.byteCells (Zbf (qs.take k)++[44])) U):=hid (by
     rw[Lib.byteCells_append];exact Or.inr h1)
    have a3:Hid (Below (w.heap.size+1) (w.alloc (.cells #[S0,.string ⟨#[]⟩] 196)) U):=(D.alloc s _).trans b1;clear h1 b1 k1
    go_wp2_with fail
    refine(ZhR (w.heap.size+1) (w.heap.size+1) _ _ _ a2.out Z a1).mono ?_;rintro e H ⟨rfl,q,b2,k2⟩
    have m:Hid (Lib.IsBuilderF 101 5 (w.heap.size+1) (w.heap.size+1) (Lib.byteCells (Zbf (qs.take (k+1)))) H):=hid (by
     rw[G.out,Lib.byteCells_append];refine Or.inr ?_
     have e:Lib.byteCells (ZcP (x,y))=Lib.strCells (x++⟨#[61]⟩++y):=by
      rw[Lib.strCells_eq];show _=Lib.byteCells (bl _);rw[Zfg,Zfg,Yan];rfl
     rw[e];exact q)
    have I:Hid (Below (w.heap.size+1) (w.alloc (.cells #[S0,.string ⟨#[]⟩] 196)) H):=a3.trans b2;clear q b2 k2 o0 o1;go_wp2
    go_roundw
    case rel=>exact⟨k+1,by omega,by go_num,m,I⟩
    case measure=>simp[intOf];omega
  ·obtain rfl:k=n:=by omega
   have m:Hid (Lib.IsBuilderF 101 5 (w.heap.size+1) (w.heap.size+1) (Lib.byteCells (Zbf qs)) wr):=hid (by
    have:=C.out;rwa [Ya5 Om]at this)
   clear C
   go_wp2_with fail
   refine(ZuE wr qs (ZcB.below A.out E.out)).mono ?_;rintro e z ⟨a',cap',rfl,O,f⟩;have J:Hid (ZcB z 0 (.slice a' k cap') k qs):=O;have P:Hid (Lib.IsBuilderF 101 5 (w.heap.size+1) (w.heap.size+1) (Lib.byteCells (Zbf qs)) z):=Zuj m.out f;have Q:Hid (Below (w.heap.size+1) (w.alloc (.cells #[S0,.string ⟨#[]⟩] 196)) z):=D.trans (f.mono s);have a4:w.heap.size+1<=z.heap.size:=Yah s f.size;clear O f
   go_wp2_with fail
   refine(Builder_String_any_k (w.heap.size+1) (w.heap.size+1) (Zbf qs) _ P.out a4).mono ?_;rintro e B ⟨rfl,_,b3,k3⟩;have d:B.heap[w.heap.size]?=some (.cells #[S0,.string ⟨#[]⟩] 196 (0,0)):=((Q.trans b3).block _ Om).trans (Go.Deep.blk_alloc_new _ _);obtain⟨k0,k1⟩:=ZsW d;have g0:B.frozen? ⟨w.heap.size,0,none⟩=false:=by simp[World.frozen?,d]
   have g1:B.frozen? ⟨w.heap.size,1,none⟩=false:=by simp[World.frozen?,d]
   have K:B.ownsRow 0 320 2 (.slice a' k cap') k (Zb2 qs):=Zz2 J.1 k3 Dc (Zuk P.out J.1 Dc)
   have a5 : Hid (∀ x y, ((B.setCell ⟨w.heap.size, 0, none⟩ x).setCell ⟨w.heap.size, 1, none⟩ y).ownsRow 0 320 2 (.slice a' k cap') k (Zb2 qs)) := fun x y => Zim K (fun j hj => by
     have R:j≠w.heap.size:=by rintro rfl;exact Zcx K d Dc hj.symm
     rw[Go.Deep.blk_setCell_other _ _ _ _ R,Go.Deep.blk_setCell_other _ _ _ _ R])
   have V:Hid (BW w B):=((Yaf w.heap.size w).alloc (Yac _) _).trans ((Q.trans b3).mono Om);clear K d b3 k3;go_wp2;exact bodyPost_ret (v:=.agg #[.slice a' k cap',.string ⟨(Zbf qs).toArray⟩]) (by simp[results,results141,go_sem,k0,k1]) rfl ⟨a',cap',rfl,⟨a5.out _ _,J.2⟩,(V.setCell (p:=⟨w.heap.size,0,none⟩) (Yac _) _).setCell (p:=⟨w.heap.size,1,none⟩) (Yac _) _⟩
def Zej(p:Lab):Prop:=Zx p.1=true/\Z3 p.2=true
def Zde(l:List Lab):Prop:=l.length<=6001/\∀p∈l,Zej p
theorem Zii(a:Zp c=false){n:LB}(h:Zx n=true):c∉n:=by
 intro d;unfold Zx at h;rw[Yas]at h;have:=Ybu.1 h.1 _ d;rw[a]at this;cases this
theorem Ztf(a:(Zp c || ZC c)=false){n:LB}(h:Z3 n=true):c∉n:=by
 intro d;unfold Z3 at h;rw[Yas]at h;have:=Ybu.1 h.1 _ d;rw[a]at this;cases this
theorem Zqo(h:Zej p):(44:UInt8)∉lab1 p:=by
 unfold lab1;rw[Yar,Yar];rintro((a|a)|a)
 ·exact Zii Dc h.1 a
 ·exact absurd a Dc
 ·exact Ztf Dc h.2 a
theorem Zqm(h:Zej p):cut 61 (lab1 p)=some p:=by
 unfold lab1;rw[Yan];exact ZoE (Zii Dc h.1)
theorem ZnD(p q:Lab)(l:List Lab):wrt (p::q::l)=lab1 p++44::wrt (q::l):=rfl
theorem ZnF(p:Lab):wrt [p]=lab1 p:=rfl
theorem Znf:∀l:List Lab,l≠[]->(∀p∈l,Zej p)->split 44 (wrt l)=l.map lab1
 | [],h,_=>absurd rfl h
 | [p], _, h => by
   have a:=Zqo (h p (by simp));have e:=Zhb 44 (lab1 p) [] a;rw[Yca]at e;rw[ZnF,e];simp[split,pre]
 | p :: q :: l, _, h => by
   have a:=Zqo (h p (by simp));rw[ZnD,Zhb 44 _ _ a,Zhc,Znf (q::l) (by simp) (fun x c=>h x (Yam _ c))];simp[pre]
theorem ZqT:∀l m:List Lab,(∀p∈l,Zej p)->(∀p∈m,Zej p)->l.map lab1=m.map lab1->l=m
 | [],[],_,_,_=>rfl
 | [],_::_,_,_,h=>by simp at h
 | _::_,[],_,_,h=>by simp at h
 | p :: l, q :: m, c, d, h => by
   rw[Ybb,Ybb]at h;injection h with h1 h2;have e1:=Zqm (c p (by simp));rw[h1,Zqm (d q (by simp))]at e1;rw[Yax e1,ZqT l m (fun x a=>c x (Yam _ a)) (fun x a=>d x (Yam _ a)) h2]
theorem Ztp(l:List Lab):wrt l=[] ↔ l=[]:=by
 constructor
 ·intro h
  match l,h with
  | [],_=>rfl
  | [p],h=>rw[ZnF]at h;unfold lab1 at h;simp at h
  | p::q::l,h=>rw[ZnD]at h;simp at h
 ·rintro rfl;rfl
theorem ZnE{l m:List Lab}(c:Zde l)(d:Zde m)(h:wrt l=wrt m):l=m:=by
 by_cases a:l=[]
 ·subst a;exact((Ztp m).1 h.symm).symm
 ·have f:m≠[]:=fun e=>a ((Ztp l).1 (by rw[h,e];rfl));have e1:=Znf l a c.2;rw[h,Znf m f d.2]at e1;exact ZqT l m c.2 d.2 e1.symm
theorem Zqn(h:Zej p):(lab1 p).length<=17:=by
 have a:=h.1;have c:=h.2;unfold Zx at a;unfold Z3 at c;simp only[Yas,decide_eq_true_eq]at a c;unfold lab1;simp only[Yab,Ybj];omega
theorem Zto:∀l:List Lab,(∀p∈l,Zej p)->(wrt l).length<=18*l.length
 | [],_=>by simp[wrt,commas]
 | [p],h=>by rw[ZnF];have:=Zqn (h p (by simp));simp;omega
 | p :: q :: l, h => by
   have c:=Zqn (h p (by simp));have d:=Zto (q::l) (fun x a=>h x (Yam _ a));rw[ZnD,Yab,Yaj];simp only[Yaj]at *
   omega
theorem Zde.len{l:List Lab}(h:Zde l):(wrt l).length<=108018:=by
 have:=Zto l h.2;have:=h.1;omega
theorem Zde.kept{l:List Lab}(h:Zde l)(bs:List (LB)):Zde (ZB l bs):=⟨Yah (Ydj _ _) h.1,fun p a=>h.2 p (Ycg.1 a).1⟩
theorem Zl5:∀qs:List (BA×BA),Zbf qs=wrt (qs.map blP)
 | []=>rfl
 | [p] => by
   show ZcP p=lab1 (blP p);unfold ZcP lab1 blP;simp
 | p :: q :: l => by
   have e:Zbf (p::q::l)=ZcP p++44::Zbf (q::l):=rfl;rw[e,Zl5 (q::l)];show ZcP p++44::wrt ((q::l).map blP)=lab1 (blP p)++44::wrt ((q::l).map blP)
   congr 1
   unfold ZcP lab1 blP;simp
theorem Zqr:∀(xs:List (LB)) (last:LB) (acc r:List Lab),ZbS last acc xs=some r->(∀p∈acc,Zej p)->∀p∈r,Zej p
 | [], _, _, _, h, d => by
   rw[ZbS]at h;injection h with h;subst h;exact d
 | x :: xs, last, acc, r, h, d => by
   rw[ZbS]at h;split at h
   · cases h
   · rename_i p a
     refine Zqr xs p.1 _ r h (fun q c=>?_);rcases Yar.1 c with c|c
     · exact d q c
     · rw[Yap]at c
       subst c;unfold Zd5 at a;split at a
       · cases a
       · split at a
         · rename_i e
           injection a with a;subst a;simp only[Yas]at e;exact⟨e.1.1.1,e.1.1.2⟩
         · cases a
theorem ZxM{l:LB}{ps:List Lab}(h:Zcc l=some ps)(a:ps.length<=6001):Zde ps:=by
 refine⟨a,?_⟩;unfold Zcc at h;split at h
 ·injection h with h;subst h;intro p c;cases c
 ·exact Zqr _ _ _ _ h (by simp)
theorem Zng:∀(l m:List El),Srt l->Srt m->(∀z,z∈l ↔ z∈m)->l=m
 | [],[],_,_,_=>rfl
 | [],b::m,_,_,h=>by have:=(h b).2 (by simp);cases this
 | a::l,[],_,_,h=>by have:=(h a).1 (by simp);cases this
 | a :: l, b :: m, f, g, h => by
   obtain⟨l1,l2⟩:=Ybg.1 f;obtain⟨m1,m2⟩:=Ybg.1 g
   have d:a=b:=by
     rcases Yau.1 ((h a).1 (by simp))with e|e
     · exact e
     · rcases Yau.1 ((h b).2 (by simp))with e2|e2
       · exact e2.symm
       · have i:Op.bytesLess (wrt b.1) (wrt a.1)=true:=m1 a e
         have j:Op.bytesLess (wrt a.1) (wrt b.1)=true:=l1 b e2;have:=Zdv _ _ _ i j;rw[ZcL]at this;cases this
   subst d
   have irr : ∀ z, lt1 a z -> z ≠ a := fun z c e => by
     subst e;unfold lt1 at c;rw[ZcL]at c;cases c
   rw[Zng l m l2 m2 (fun z=>?_)];constructor
   · intro c
     rcases Yau.1 ((h z).1 (Yam _ c))with e|e
     · exact absurd e (irr z (l1 z c))
     · exact e
   · intro c
     rcases Yau.1 ((h z).2 (Yam _ c))with e|e
     · exact absurd e (irr z (m1 z c))
     · exact e
def DstE(L:List El):Prop:=L.Pairwise fun a b=>wrt a.1≠wrt b.1
theorem ZCA {L':List El} (hd : DstE L) (d : L'.Perm L) (f : L'.Pairwise fun a b => Op.bytesLess (wrt b.1) (wrt a.1) = false) : L' = L.foldl Zcd [] := by
  obtain⟨g,j,i⟩:=Zh4 L [] List.Pairwise.nil hd (by simp);have e:DstE L':=(Yfk (R:=fun(a b:El)=>wrt a.1≠wrt b.1) (fun h=>Ycp h) d).2 hd;refine Zng _ _ ?_ g (fun z=>?_)
  · unfold Srt
    have:=f.and e;refine this.imp (fun {a b} c=>?_);unfold lt1;cases h:Op.bytesLess (wrt a.1) (wrt b.1)with
    | true=>rfl
    | false=>exact absurd (Zdh _ _ h c.1) c.2
  · rw[i,d.mem_iff]
    simp
theorem ZAL{M:List El}(a:DstE L)(c:DstE M)(h:∀z,z∈L ↔ z∈M):L.foldl Zcd []=M.foldl Zcd []:=by
 obtain⟨d,_,e⟩:=Zh4 L [] List.Pairwise.nil a (by simp);obtain⟨k1,_,k3⟩:=Zh4 M [] List.Pairwise.nil c (by simp);refine Zng _ _ d k1 (fun z=>?_);rw[e,k3];simp[h z]
def TmS(l:List (Int×Int)):Prop:=l.Pairwise fun a b=>a.1<b.1
def Zbb(l:List (Int×Int))(t:Int):Nat:=l.countP fun x=>decide (x.1<=t)
theorem Zof(h:∀x∈l,t<x.1):Zbb l t=0:=by
 unfold Zbb;rw[List.countP_eq_zero];intro x a;have:=h x a;simp;omega
theorem ZsF (t : Int) : ∀ l : List (Int × Int), TmS l -> l.take (Zbb l t) = l.filter fun x => decide (x.1 <= t)
  | [],_=>rfl
  | a :: l, h => by
    obtain⟨g,i⟩:=Ybg.1 h;by_cases d:a.1<=t
    · have e:Zbb (a::l) t=Zbb l t+1:=Yfb (by simpa using d)
      rw[e,List.take_succ_cons,ZsF t l i,Yda (by simpa using d)]
    · have f : ∀ x ∈ a :: l, t < x.1 := fun x c => by
        rcases Yau.1 c with rfl|c
        · omega
        · have:=g x c;omega
      rw[Zof f,List.take_zero]
      symm
      rw[Yc1];intro x c;have:=f x c;simp;omega
theorem ZoP (t : Int) : ∀ l : List (Int × Int), TmS l -> l.drop (Zbb l t) = l.filter fun x => decide (t < x.1)
  | [],_=>rfl
  | a :: l, h => by
    obtain⟨f,g⟩:=Ybg.1 h;by_cases i:a.1<=t
    · have e:Zbb (a::l) t=Zbb l t+1:=Yfb (by simpa using i)
      rw[e,List.drop_succ_cons,ZoP t l g,Ydb (by simp;omega)]
    · have d : ∀ x ∈ a :: l, t < x.1 := fun x c => by
        rcases Yau.1 c with rfl|c
        · omega
        · have:=f x c;omega
      rw[Zof d,List.drop_zero]
      symm
      rw[Yeg];intro x c;have:=d x c;simp;omega
theorem ZuK(l:List (Int×Int)){s:Int}(h:s<=t):Zbb l s<=Zbb l t:=by
 unfold Zbb;refine List.countP_mono_left (fun x _ a=>?_);simp at a ⊢;omega
theorem Zk8(l:List (Int×Int))(t:Int):Zbb l t<=l.length:=List.countP_le_length
theorem ZEN(h:TmS l){n:Int}(a:0<=n):(l.take (Zbb l t)).drop (Zbb l (t - n))=Zb6 l n t:=by
 have e : Zbb l (t - n) = Zbb (l.filter fun x => decide (x.1 <= t)) (t - n) := by
   unfold Zbb;rw[List.countP_filter];refine List.countP_congr (fun x _=>?_);simp;omega
 rw[ZsF t l h,e,ZoP _ _ (h.filter _),List.filter_filter];rfl
theorem Zwt {α : Type} (l : List α) (d : α) : (List.range l.length).map (fun i => l.getD i d) = l := by
  refine List.ext_getElem (by simp) (fun i c a=>?_);simp[a]
abbrev Grp:=List Lab×List Int
def addG(k:List Lab)(v:Int):List Grp->List Grp
 | []=>[(k,[v])]
 | g::m=>if g.1=k then (k,g.2++[v])::m else g::addG k v m
def grpV(bs:List (LB))(l:List El):List Grp:=l.foldl (fun m e=>addG (ZB e.1 bs) e.2 m) []
def ZdE(bs:List (LB))(l:List El)(k:List Lab):List Int:=(l.filter fun f=>decide (ZB f.1 bs=k)).map (·.2)
theorem ZkC(k:List Lab)(v:Int):∀m:List Grp,(addG k v m).map (·.1)=if k∈m.map (·.1)then m.map (·.1)else m.map (·.1)++[k]
 | []=>by simp[addG]
 | g :: m => by
   rw[addG];by_cases h:g.1=k
   · rw[if_pos h];simp[h]
   · rw[if_neg h,Ybb,ZkC k v m]
     have c:(k∈(g::m).map (·.1)) ↔ (k∈m.map (·.1)):=by
       rw[Ybb,Yau];constructor
       · rintro(e|e)
         · exact absurd e.symm h
         · exact e
       · exact Or.inr
     by_cases a:k∈m.map (·.1)
     · rw[if_pos a,if_pos (c.2 a)];rfl
     · rw[if_neg a,if_neg (fun e=>a (c.1 e))];rfl
theorem ZnI(k:List Lab)(v:Int):∀m:List Grp,(m.map (·.1)).Nodup->∀g:Grp,g∈addG k v m ↔ (g.1≠k/\g∈m)∨(g.1=k/\((∃h∈m,h.1=k/\g.2=h.2++[v])∨(k∉m.map (·.1)/\g.2=[v])))
 | [], _, g => by
   rw[addG];simp only[Yap,List.not_mem_nil,and_false,false_or,Ydg,not_false_eq_true,true_and,false_and,exists_false];constructor
   · rintro rfl;exact⟨rfl,rfl⟩
   · rintro⟨d,c⟩;exact Prod.ext d c
 | a :: m, j, g => by
   rw[Ybb,List.nodup_cons]at j;rw[addG];by_cases h:a.1=k
   · rw[if_pos h]
     have l:k∉m.map (·.1):=by rw[<-h];exact j.1
     rw[Yau];constructor
     · rintro(rfl|n)
       · exact Or.inr ⟨rfl,Or.inl ⟨a,by simp,h,rfl⟩⟩
       · refine Or.inl ⟨fun e=>l (Ybe.2 ⟨g,n,e⟩),Yam _ n⟩
     · rintro(⟨d,c⟩|⟨d,(⟨x,c,f,i⟩|⟨c,_⟩)⟩)
       · rcases Yau.1 c with rfl|c
         · exact absurd h d
         · exact Or.inr c
       · rcases Yau.1 c with rfl|c
         · exact Or.inl (Prod.ext d i)
         · exact absurd (Ybe.2 ⟨x,c,f⟩) l
       · exact absurd (by simp[h]) c
   · rw[if_neg h,Yau,ZnI k v m j.2 g]
     constructor
     · rintro(rfl|⟨d,c⟩|⟨d,(⟨x,c,f,i⟩|⟨c,f⟩)⟩)
       · exact Or.inl ⟨h,by simp⟩
       · exact Or.inl ⟨d,Yam _ c⟩
       · exact Or.inr ⟨d,Or.inl ⟨x,Yam _ c,f,i⟩⟩
       · refine Or.inr ⟨d,Or.inr ⟨?_,f⟩⟩
         rw[Ybb,Yau];rintro(e|e)
         · exact h e.symm
         · exact c e
     · rintro(⟨d,c⟩|⟨d,(⟨x,c,f,i⟩|⟨c,f⟩)⟩)
       · rcases Yau.1 c with rfl|c
         · exact Or.inl rfl
         · exact Or.inr (Or.inl ⟨d,c⟩)
       · rcases Yau.1 c with rfl|c
         · exact absurd f h
         · exact Or.inr (Or.inr ⟨d,Or.inl ⟨x,c,f,i⟩⟩)
       · exact Or.inr (Or.inr ⟨d,Or.inr ⟨fun e=>c (by rw[Ybb];exact Yam _ e),f⟩⟩)
theorem ZpO(bs:List (LB))(l:List El)(e:El):grpV bs (l++[e])=addG (ZB e.1 bs) e.2 (grpV bs l):=by unfold grpV;rw[List.foldl_append];rfl
theorem ZDQ(bs:List (LB))(l:List El)(e:El)(k:List Lab):ZdE bs (l++[e]) k=if ZB e.1 bs=k then ZdE bs l k++[e.2] else ZdE bs l k:=by
 unfold ZdE;rw[Ygd,Yaq];split
 ·rename_i h;rw[Yda (by simpa using h)];rfl
 ·rename_i h;rw[Ydb (by simpa using h)];simp
theorem ZCt{α:Type}{P:List α->Prop}(h0:P [])(h1:∀l a,P l->P (l++[a]))(l:List α):P l:=by
 have h : ∀ m : List α, P m.reverse := fun m => by
   induction m with
   | nil=>exact h0
   | cons a m ih=>rw[List.reverse_cons];exact h1 _ _ ih
 have:=h l.reverse
 rwa [List.reverse_reverse]at this
theorem ZwM(bs:List (LB))(l:List El):((grpV bs l).map (·.1)).Nodup/\(∀k,k∈(grpV bs l).map (·.1) ↔ ∃e∈l,ZB e.1 bs=k)/\(∀g:Grp,g∈grpV bs l ↔ (∃e∈l,ZB e.1 bs=g.1)/\g.2=ZdE bs l g.1):=by
 induction l using ZCt with
 | h0=>exact⟨List.nodup_nil,by simp[grpV],by simp[grpV]⟩
 | h1 l e ih=>
  obtain⟨h1,h,j⟩:=ih;rw[ZpO];refine⟨?_,fun k=>?_,fun g=>?_⟩
  ·rw[ZkC];split
   ·exact h1
   ·rename_i p;rw[List.nodup_append];exact⟨h1,by simp,fun a q b o=>by rw[Yap]at o;subst o;intro e';subst e';exact p q⟩
  ·rw[ZkC];split
   ·rename_i i;rw[h];constructor
    ·rintro⟨x,c,e'⟩;exact⟨x,Yc7 _ c,e'⟩
    ·rintro⟨x,c,e'⟩;rcases Yar.1 c with c|c
     ·exact⟨x,c,e'⟩
     ·rw[Yap]at c;subst c;subst e';exact(h _).1 i
   ·rw[Yar,h,Yap];constructor
    ·rintro(⟨x,c,e'⟩|rfl)
     ·exact⟨x,Yc7 _ c,e'⟩
     ·exact⟨e,by simp,rfl⟩
    ·rintro⟨x,c,e'⟩;rcases Yar.1 c with c|c
     ·exact Or.inl ⟨x,c,e'⟩
     ·rw[Yap]at c;subst c;exact Or.inr e'.symm
  ·rw[ZnI _ _ _ h1 g,ZDQ];by_cases d:g.1=ZB e.1 bs
   ·rw[if_pos d.symm];constructor
    ·rintro(⟨a1,_⟩|⟨_,(⟨x,a2,a3,a4⟩|⟨a2,a3⟩)⟩)
     ·exact absurd d a1
     ·refine⟨⟨e,by simp,d.symm⟩,?_⟩;rw[a4,((j x).1 a2).2,a3,d]
     ·refine⟨⟨e,by simp,d.symm⟩,?_⟩;rw[a3]
      have:ZdE bs l g.1=[]:=by
       unfold ZdE;rw[List.map_eq_nil_iff,Yc1];intro f m n;exact a2 ((h _).2 ⟨f,m,by rw[<-d];simpa using n⟩)
      rw[this];rfl
    ·rintro⟨_,a2⟩;refine Or.inr ⟨d,?_⟩;by_cases i:ZB e.1 bs∈(grpV bs l).map (·.1)
     ·obtain⟨x,c,ex⟩:=Ybe.1 i;refine Or.inl ⟨x,c,ex,?_⟩;rw[a2,((j x).1 c).2,ex,d]
     ·refine Or.inr ⟨i,?_⟩
      have:ZdE bs l g.1=[]:=by
       unfold ZdE;rw[List.map_eq_nil_iff,Yc1];intro f m n;exact i ((h _).2 ⟨f,m,by rw[<-d];simpa using n⟩)
      rw[a2,this];rfl
   ·rw[if_neg (fun x=>d x.symm)];constructor
    ·rintro(⟨_,a2⟩|⟨a1,_⟩)
     ·obtain⟨⟨x,c,ex⟩,a3⟩:=(j g).1 a2;exact⟨⟨x,Yc7 _ c,ex⟩,a3⟩
     ·exact absurd a1 d
    ·rintro⟨⟨x,c,ex⟩,a2⟩;refine Or.inl ⟨d,(j g).2 ⟨?_,a2⟩⟩;rcases Yar.1 c with c|c
     ·exact⟨x,c,ex⟩
     ·rw[Yap]at c;subst c;exact absurd ex.symm d
def Zh7(op:Nat)(g:Grp):El:=(g.1,cutV (ZfI op g.2))
theorem ZpG(op:Nat)(bs:List (LB))(all:List El)(m:∀e∈all,Zde e.1):∀(l pre:List El),(∀e∈l,e∈all)->(∀e∈pre,e∈all)->∀x:El,x∈ZcF op bs all pre l ↔ ∃e∈l,(∀f∈pre,ZB f.1 bs≠ZB e.1 bs)/\x=Zh7 op (ZB e.1 bs,ZdE bs all (ZB e.1 bs))
 | [],pre,_,_,x=>by simp[ZcF]
 | e :: l, pre, n, o, x => by
   have ih := ZpG op bs all m l (pre ++ [e]) (fun f a => n f (Yam _ a)) (fun f a => by
     rcases Yar.1 a with a|a
     · exact o f a
     · rw[Yap]at a;subst a;exact n f (by simp)) x
   have q:=n e (by simp);have d:∀f∈all,(wrt (ZB f.1 bs)=wrt (ZB e.1 bs)) ↔ ZB f.1 bs=ZB e.1 bs:=fun f a=>⟨fun h=>ZnE ((m f a).kept bs) ((m e q).kept bs) h,fun h=>by rw[h]⟩
   have p : (all.filter fun f => decide (wrt (ZB f.1 bs) = wrt (ZB e.1 bs))).map (·.2) = ZdE bs all (ZB e.1 bs) := by
     unfold ZdE
     congr 1
     refine Ygl (fun f a=>?_);rw[decide_eq_decide];exact d f a
   have i : pre.any (fun f => decide (wrt (ZB f.1 bs) = wrt (ZB e.1 bs))) = true ↔ ∃ f ∈ pre, ZB f.1 bs = ZB e.1 bs := by
     rw[List.any_eq_true];constructor
     · rintro⟨f,a,h⟩;exact⟨f,a,(d f (o f a)).1 (by simpa using h)⟩
     · rintro⟨f,a,h⟩;exact⟨f,a,by simpa using (d f (o f a)).2 h⟩
   rw[ZcF,Yar,ih,p];constructor
   · rintro(h|⟨f,a,j,k⟩)
     · split at h
       · cases h
       · rename_i r
         rw[Yap]at h;refine⟨e,by simp,fun f a g=>r (i.2 ⟨f,a,g⟩),h⟩
     · exact⟨f,Yam _ a,fun z c=>j z (Yc7 _ c),k⟩
   · rintro⟨f,a,j,k⟩
     by_cases g:ZB e.1 bs=ZB f.1 bs
     · left
       rw[if_neg (fun s=>by obtain⟨z,c,ez⟩:=i.1 s;exact j z c (ez.trans g)),Yap];rw[k,<-g];rfl
     · right
       rcases Yau.1 a with rfl|a
       · exact absurd rfl g
       · refine⟨f,a,fun z c=>?_,k⟩
         rcases Yar.1 c with c|c
         · exact j z c
         · rw[Yap]at c;subst c;exact g
theorem ZwK(op:Nat)(bs:List (LB))(l:List El)(c:∀e∈l,Zde e.1)(j:L.Perm ((grpV bs l).map (Zh7 op))):DstE L/\L.foldl Zcd []=Zcv op bs l:=by
 obtain⟨s1,s2,s3⟩:=ZwM bs l
 have k:DstE ((grpV bs l).map (Zh7 op)):=by
  unfold DstE;rw[Ybx]
  have m : (grpV bs l).Pairwise fun a b => a.1 ≠ b.1 := by
    have:=s1;unfold List.Nodup at this
    rwa [Ybx]at this
  refine Ycx ?_ m;intro a b o p n d;obtain⟨⟨x,f,ex⟩,_⟩:=(s3 a).1 o;obtain⟨⟨y,q,ey⟩,_⟩:=(s3 b).1 p;refine n (ZnE ?_ ?_ d)
  ·show Zde a.1;rw[<-ex];exact(c x f).kept bs
  ·show Zde b.1;rw[<-ey];exact(c y q).kept bs
 have hd:DstE L:=(Yfk (R:=fun(a b:El)=>wrt a.1≠wrt b.1) (fun h=>Ycp h) j).2 k;refine⟨hd,?_⟩;unfold Zcv;refine ZAL hd (ZlD op bs l l []).1 (fun z=>?_);rw[j.mem_iff,ZpG op bs l c l [] (fun _ h=>h) (by simp) z,Ybe];constructor
 ·rintro⟨g,r,rfl⟩;obtain⟨⟨x,f,ex⟩,i⟩:=(s3 g).1 r;refine⟨x,f,by simp,?_⟩;unfold Zh7;rw[ex,<-i]
 ·rintro⟨e,d,_,i⟩;exact⟨(ZB e.1 bs,ZdE bs l (ZB e.1 bs)),(s3 _).2 ⟨⟨e,d,rfl⟩,rfl⟩,i.symm⟩
structure Itm where
 a:Option Addr
 n:Nat
 c:Nat
 tx:BA
 qs:List (BA×BA)
 v:Int
def Itm.enc(i:Itm):List Value:=[.slice i.a i.n i.c,.string i.tx,Vi i.v]
def Itm.labs(i:Itm):List Lab:=i.qs.map blP
def Itm.el(i:Itm):El:=(i.labs,i.v)
structure LbOk (w:World) (a:Option Addr) (n c:Nat) (tx:BA) (qs:List (BA×BA)):Prop where
 row:ZcB w 0 (.slice a n c) n qs
 txt:bl tx=wrt (qs.map blP)
 wf:Zde (qs.map blP)
structure ItmOk (w:World) (i:Itm):Prop where
 lb:LbOk w i.a i.n i.c i.tx i.qs
 vok:vOk i.v
def encs(l:List Itm):List Value:=(l.map Itm.enc).flatten
theorem Zlp(l:List Itm):(encs l).length=l.length*3:=by
 induction l with
 | nil=>rfl
 | cons a l ih=>unfold encs at *;rw[Ybb,List.flatten_cons,Yab,ih,Yaj];simp[Itm.enc];omega
theorem Zh1(l m:List Itm):encs (l++m)=encs l++encs m:=by unfold encs;rw[Yaq,List.flatten_append]
theorem Zfl(l:List Itm)(j:Nat)(d:j<l.length):(encs l)[j*3]?=some (.slice l[j].a l[j].n l[j].c)/\(encs l)[j*3+1]?=some (.string l[j].tx)/\(encs l)[j*3+2]?=some (Vi l[j].v):=by
 induction l generalizing j with
 | nil=>simp at d
 | cons a l ih=>
  have e:encs (a::l)=.slice a.a a.n a.c::.string a.tx::.int .i64 a.v::encs l:=rfl;cases j with
  | zero=>rw[e];exact⟨rfl,rfl,rfl⟩
  | succ j=>
   have h:=ih j (by simpa using d);rw[e,show(j+1)*3=j*3+1+1+1 by omega];simpa using h
structure VecV (w:World) (v:Value) (l:List El) (is:List Itm):Prop where
 row:w.ownsRow 0 255 3 v is.length (encs is)
 els:is.map Itm.el=l
 ok:∀i∈is,ItmOk w i
 len:is.length<=1000
def Z5(e:TypeId)(w w':World):Prop:=∀(b:Nat) (c:Array Value) (T:TypeId) (fr:Nat×Nat),T≠e->w.heap[b]?=some (.cells c T fr)->w'.heap[b]?=some (.cells c T fr)
def Zo(w w':World):Prop:=∀(b:Nat) (c:Array Value) (T:TypeId) (fr:Nat×Nat),w.heap[b]?=some (.cells c T fr)->w'.heap[b]?=some (.cells c T fr)
theorem Zo.refl(w:World):Zo w w:=fun _ _ _ _ h=>h
theorem Zo.trans{a b c:World}(h:Zo a b)(k:Zo b c):Zo a c:=fun x d T fr e=>k x d T fr (h x d T fr e)
theorem Zo.below(h:BW w w'):Zo w w':=fun b _ _ _ a=>(h.block b (Yae.1 a).1).trans a
theorem Zo.b(h:Zo w w')(e:TypeId):Z5 e w w':=fun b c T fr _ a=>h b c T fr a
theorem Z5.trans{e:TypeId}{a b c:World}(h:Z5 e a b)(k:Z5 e b c):Z5 e a c:=fun x d T fr f g=>k x d T fr f (h x d T fr f g)
theorem Z5.below(h:BW w w')(e:TypeId):Z5 e w w':=(Zo.below h).b e
theorem Z5.grown{b:Nat}{e:TypeId}{s:Nat}(c:w.grownBy w' v.ownBlock)(d:w.ownsRow b e s v n xs):Z5 e w w':=fun k _ _ _ f a=>(c.block k (Yae.1 a).1 (Zcx d a f)).trans a
theorem Z5.own{t:TypeId}(h:Z5 t w w'){e:TypeId}(a:w.ownsRow base e size v n xs)(c:e≠t):w'.ownsRow base e size v n xs:=by
 refine⟨a.1,?_⟩;rcases a.2 with d|⟨g,cap,cur,f,i,j,r⟩
 ·exact Or.inl d
 ·exact Or.inr ⟨g,cap,cur,f,i,h _ _ _ _ c j,r⟩
theorem Zo.own(h:Zo w w'){e:TypeId}(a:w.ownsRow base e size v n xs):w'.ownsRow base e size v n xs:=by
 refine⟨a.1,?_⟩;rcases a.2 with c|⟨g,cap,cur,d,f,i,r⟩
 ·exact Or.inl c
 ·exact Or.inr ⟨g,cap,cur,d,f,h _ _ _ _ i,r⟩
theorem Zo.cell(h:Zo w w'){b o:Nat}(a:w.cell? ⟨b,o,none⟩=some u):w'.cell? ⟨b,o,none⟩=some u:=by
 unfold World.cell? at a ⊢;cases d:w.heap[b]? with
 | none=>simp[d]at a
 | some ob=>
  cases ob with
  | cells c T fr=>simp only[h _ _ _ _ d,d]at a ⊢;exact a
  | _=>simp[d]at a
theorem LbOk.kb{t:TypeId}{c:Nat}(h:LbOk w a n c tx qs)(d:Z5 t w w')(e:320≠t):LbOk w' a n c tx qs:=⟨⟨d.own h.row.1 e,h.row.2⟩,h.txt,h.wf⟩
theorem ItmOk.kb{t:TypeId}{i:Itm}(h:ItmOk w i)(a:Z5 t w w')(c:320≠t):ItmOk w' i:=⟨h.lb.kb a c,h.vok⟩
theorem LbOk.jy{c:Nat}(h:LbOk w a n c tx qs)(d:Zo w w'):LbOk w' a n c tx qs:=⟨⟨d.own h.row.1,h.row.2⟩,h.txt,h.wf⟩
theorem ItmOk.jy{i:Itm}(h:ItmOk w i)(a:Zo w w'):ItmOk w' i:=⟨h.lb.jy a,h.vok⟩
theorem ItmOk.below{i:Itm}(h:ItmOk w i)(a:BW w w'):ItmOk w' i:=h.jy (Zo.below a)
theorem VecV.jy{l:List El}{is:List Itm}(h:VecV w v l is)(a:Zo w w'):VecV w' v l is:=⟨a.own h.row,h.els,fun i c=>(h.ok i c).jy a,h.len⟩
theorem VecV.below{l:List El}{is:List Itm}(h:VecV w v l is)(a:BW w w'):VecV w' v l is:=h.jy (Zo.below a)
theorem VecV.len'{l:List El}{is:List Itm}(h:VecV w v l is):l.length=is.length:=by rw[<-h.els,Yak]
def ValP(w:World)(v:Value):VV->Prop
 | .inl n=>v=.iface 251 (.int .i64 n)/\vOk n
 | .inr l=>∃s is,v=.iface 253 s/\VecV w s l is
theorem ValP.jy{V:VV}(h:ValP w v V)(a:Zo w w'):ValP w' v V:=by
 cases V with
 | inl n=>exact h
 | inr l=>obtain⟨s,is,c,d⟩:=h;exact⟨s,is,c,d.jy a⟩
theorem Tryz.infoItem:(Tryz.prog.info? 255).map (fun i=>(i.zero,i.size,i.bytes))=some (some (.agg #[S0,.string ByteArray.empty,Vi 0]),3,48):=by kernel_rfl
def ZkA(w:World)(g off:Nat)(l:List (Int×Int)):Prop:=∃c fr,w.heap[g]?=some (.cells c 313 fr)/\∀j (h:j<l.length),c[off+j*2]?=some (Vi l[j].1)/\c[off+j*2+1]?=some (Vi l[j].2)
theorem ZkA.cells{g off:Nat}(h:ZkA w g off l)(j:Nat)(a:j<l.length):w.cell? ⟨g,off+j*2,none⟩=some (Vi l[j].1)/\w.cell? ⟨g,off+j*2+1,none⟩=some (Vi l[j].2):=by
 obtain⟨c,fr,d,e⟩:=h;obtain⟨f,i⟩:=e j a;constructor <;> simp[World.cell?,d,f,i]
def SamV(w:World)(av:Option Addr)(l:List (Int×Int)):Prop:=l=[]∨∃g off,av=some ⟨g,off,none⟩/\ZkA w g off l
theorem SamV.kb{t:TypeId}(h:SamV w av l)(a:Z5 t w w')(d:313≠t):SamV w' av l:=by
 rcases h with h|⟨g,off,e,c,fr,f,i⟩
 ·exact Or.inl h
 ·exact Or.inr ⟨g,off,e,c,fr,a _ _ _ _ d f,i⟩
theorem SamV.jy(h:SamV w av l)(a:Zo w w'):SamV w' av l:=by
 rcases h with h|⟨g,off,d,c,fr,e,f⟩
 ·exact Or.inl h
 ·exact Or.inr ⟨g,off,d,c,fr,a _ _ _ _ e,f⟩
theorem SamV.below(h:SamV w av l)(a:BW w w'):SamV w' av l:=h.jy (Zo.below a)
theorem ZDH(b1 b2 g off n cp i:Nat)(t x:Int)(w:World)(c:i<n)(d:w.cell? ⟨b1,0,none⟩=some (.slice (some ⟨g,off,none⟩) n cp))(f:w.cell? ⟨b2,0,none⟩=some (Vi t))(h:w.cell? ⟨g,off+i*2,none⟩=some (Vi x)) :
  Cq 231 #[Vi i,Vp b1,Vp b2] w fun e u=>e=.returned (.bool (decide (t<x)))/\BW w u:=by
 have a:(i:Int)<(n:Int):=by omega
 go_enter func231,ntmps231;go_wp2
 go_region
 all_goals go_wp2
 all_goals go_ret
 all_goals exact⟨by first|rfl|simp,belB⟩
theorem ZuJ{k:Nat}(d:k<=l.length)(f:∀j (h:j<l.length),j<k->l[j].1<=t)(g:∀j (h:j<l.length),k<=j->t<l[j].1):Zbb l t=k:=by
 have e:l=l.take k++l.drop k:=(Ycn k l).symm;unfold Zbb;rw[e,List.countP_append]
 have a1 : (l.take k).countP (fun x => decide (x.1 <= t)) = k := by
   rw[List.countP_eq_length.2 (fun x a=>?_),Ya7,Yc3 d];obtain⟨j,c,rfl⟩:=List.mem_iff_getElem.1 a;rw[Ya7]at c;rw[List.getElem_take];simpa using f j Om Om
 have a2 : (l.drop k).countP (fun x => decide (x.1 <= t)) = 0 := by
   rw[List.countP_eq_zero];intro x a;obtain⟨j,c,rfl⟩:=List.mem_iff_getElem.1 a;rw[Ybv]at c;rw[List.getElem_drop];have:=g (k+j) Om Om;simp;omega
 rw[a1,a2];rfl
theorem TmS.get(h:TmS l){i j:Nat}(d:i<=j)(c:j<l.length):l[i].1<=l[j].1:=by
 rcases Yav i j with a|a
 ·exact Int.le_of_lt (List.pairwise_iff_getElem.1 h i j Om c a)
 ·obtain rfl:i=j:=by omega
  exact Yd0 _
theorem ZBW{b1 b2:Nat}(cp:Nat)(av:Option Addr)(l:List (Int×Int))(t:Int)(y:TmS l)(p:l.length<=6001)(z:w.cell? ⟨b1,0,none⟩=some (.slice av l.length cp))(A:w.cell? ⟨b2,0,none⟩=some (Vi t))(B:SamV w av l) :
  Cq 230 #[Vi l.length,.func (.func 231) #[] #[Vp b1,Vp b2]] w fun e u=>e=.returned (Vi (Zbb l t:Nat))/\BW w u:=by
 have C:Hid (TmS l):=y;have H:Hid (SamV w av l):=B;have J:Hid (w.cell? ⟨b1,0,none⟩=some (.slice av l.length cp)):=z;have K:Hid (w.cell? ⟨b2,0,none⟩=some (Vi t)):=A;obtain⟨r,q⟩:∃r,r=Zbb l t:=⟨_,rfl⟩
 rw[<-q];have L:Hid (r=Zbb l t):=q;obtain⟨n,s⟩:∃n,n=l.length:=⟨_,rfl⟩
 rw[<-s]at p ⊢;have o:Hid (n=l.length):=s;clear y B z A q s;go_enter func230,ntmps230;go_wp2
 go_loopg [5,6] n (fun kx s5 s6 wr=>∃lo a:Nat,s5=Vi lo/\s6=Vi a/\lo<=a/\a<=n/\a - lo<=kx/\Hid (BW w wr)/\Hid ((∀j (h:j<l.length),j<lo->l[j].1<=t)/\(∀j (h:j<l.length),a<=j->t<l[j].1)))
 case atStart=>exact⟨0,n,rfl,rfl,Yag _,Yac _,by omega,hid (Yaf _ _),hid ⟨fun j _ h=>absurd h (Ya1 _),fun j h d=>by have:=o.out;omega⟩⟩
 case round=>
  obtain⟨lo,a,rfl,rfl,N,D,P,c,I⟩:=hrel;by_cases O:lo<a
  ·have f:(lo+a) / 2<l.length:=by have:=o.out;omega
   have E:l≠[]:=by intro e;rw[e]at f;simp at f
   obtain⟨g,off,rfl,F⟩:=H.resolve_left E;have k1:=(Zo.below c.out).cell J.out;have k2:=(Zo.below c.out).cell K.out;have k3:=(Zo.below c.out).cell (F.cells _ f).1;rw[<-o.out]at k1;have k:=ZDH b1 b2 g off n cp ((lo+a) / 2) t (l[(lo+a) / 2]).1 wr Om k1 k2 k3;have M:Hid (∀i (h:i<l.length),i<=(lo+a) / 2->l[i].1<=l[(lo+a) / 2].1):=hid (fun i h d=>C.get d f);have G:Hid (∀i (h:i<l.length),(lo+a) / 2<=i->l[(lo+a) / 2].1<=l[i].1):=hid (fun i h d=>C.get d h);rw[show(((lo+a) / 2:Nat):Int)=((lo:Int)+(a:Int)) / 2 by omega]at k;clear k1 k2 k3 F;generalize(l[(lo+a) / 2]).1=x at *
   by_cases v:t<x
   ·rw[decide_eq_true v]at k
    go_wp2_with (go_at_call 231;refine k.mono ?_;rintro e u ⟨rfl,m⟩)
    go_roundg ((lo+a) / 2 - lo)
    case measure=>omega
    case rel=>
     exact⟨lo,(lo+a) / 2,rfl,by rw[show((lo:Int)+(a:Int)) / 2=(((lo+a) / 2:Nat):Int) by omega],by omega,by omega,Yac _,hid (c.trans (m.mono c.size)),hid ⟨I.1,fun j h d=>Int.lt_of_lt_of_le v (G.out j h d)⟩⟩
   ·rw[decide_eq_false v]at k
    go_wp2_with (go_at_call 231;refine k.mono ?_;rintro e u ⟨rfl,m⟩)
    go_roundg (a - ((lo+a) / 2+1))
    case measure=>omega
    case rel=>
     exact⟨(lo+a) / 2+1,a,by rw[show((lo:Int)+(a:Int)) / 2+1=(((lo+a) / 2+1:Nat):Int) by omega],rfl,by omega,D,Yac _,hid (c.trans (m.mono c.size)),hid ⟨fun j h d=>Int.le_trans (M.out j h Om) Om,I.2⟩⟩
  ·obtain rfl:a=lo:=by omega
   have e:r=a:=by rw[L.out];exact ZuJ (by have:=o.out;omega) I.1 I.2
   subst e;have m:=c.out;go_wp2;go_ret;exact⟨rfl,m⟩
theorem ZsX(cp:Nat)(av:Option Addr)(l:List (Int×Int))(t:Int)(w:World)(c:TmS l)(a:l.length<=6001)(d:SamV w av l) :
  Cq 202 #[.slice av l.length cp,Vi t] w fun e u=>e=.returned (Vi (Zbb l t:Nat))/\BW w u:=by
 have g:Hid (∀W,BW w W->SamV W av l):=hid (fun W h=>d.below h);have i:Hid (TmS l):=c;clear d c;go_enter func202,ntmps202
 go_wp2_with fail
 refine(ZBW cp av l t i.out a ?_ ?_ (g.out _ belB)).mono ?_
 ·simp
 ·simp
 rintro e u ⟨rfl,j⟩;have f:BW w u:=Below.trans belB (j.mono (by simp;omega));go_wp2;go_ret;exact⟨rfl,f⟩
theorem ZEM(h:TmS l){n:Int}(c:0<=n):(Zb6 l n t).length=Zbb l t - Zbb l (t - n)/\∀j (a:j<(Zb6 l n t).length),∃f:Zbb l (t - n)+j<l.length,(Zb6 l n t)[j]=l[Zbb l (t - n)+j]:=by
 have e:=ZEN h (t:=t) c
 have d:(Zb6 l n t).length=Zbb l t - Zbb l (t - n):=by
  rw[<-e,Ybv,Ya7,Yc3 (Zk8 l t)]
 refine⟨d,fun j a=>?_⟩;have:=Zk8 l t;refine⟨by omega,?_⟩
 have e2:(Zb6 l n t)[j]?=l[Zbb l (t - n)+j]?:=by
  rw[<-e,Ygv,Ye7 Om]
 rw[List.getElem?_eq_getElem a,List.getElem?_eq_getElem Om]at e2;exact Yax e2
theorem ZA1(cp:Nat)(av:Option Addr)(l:List (Int×Int))(n t:Int)(w:World)(x:TmS l)(p:l.length<=6001)(F:l.length<=cp)(G:0<=n)(T:n<=1000)(U : -1000000<=t)(V:t<=1000000)(H:SamV w av l) :
  Cq 177 #[.slice av l.length cp,Vi n,Vi t] w fun e u=>∃av' cp',e=.returned (.slice av' (Zb6 l n t).length cp')/\Hid (SamV u av' (Zb6 l n t))/\BW w u:=by
 have A:=ZEM x (t:=t) G;have O:Zbb l (t - n)<=Zbb l t:=ZuK l Om;have I:=Zk8 l t;have J:Hid _:=hid A;have K:Hid (TmS l):=x;have r:Hid (SamV w av l):=H;have B:Hid (l.length<=6001):=p;have s:(Zb6 l n t).length=Zbb l t - Zbb l (t - n):=A.1;clear A x H;have U1:Hid (∀W,BW w W->Cq 202 #[.slice av l.length cp,Vi (t - n)] W fun e u=>e=.returned (Vi (Zbb l (t - n):Nat))/\BW W u):=hid (fun W C=>ZsX cp av l (t - n) W K.out B.out (r.below C));have U2:Hid (∀W,BW w W->Cq 202 #[.slice av l.length cp,Vi t] W fun e u=>e=.returned (Vi (Zbb l t:Nat))/\BW W u):=hid (fun W C=>ZsX cp av l t W K.out B.out (r.below C));obtain⟨lo,k⟩:∃lo,Zbb l (t - n)=lo:=⟨_,rfl⟩
 obtain⟨D,d⟩:∃D,Zbb l t=D:=⟨_,rfl⟩
 obtain⟨ln,f⟩:∃ln,l.length=ln:=⟨_,rfl⟩
 obtain⟨E,m⟩:∃E,(Zb6 l n t).length=E:=⟨_,rfl⟩
 rw[k,d]at J;rw[k,d,m]at s;rw[m];rw[f,k]at U1;rw[f,d]at U2;rw[k,d]at O;rw[d,f]at I;rw[f]at p F ⊢;have L:Hid (l.length=ln):=f;have v:Hid ((Zb6 l n t).length=E):=m;clear k d f m B;subst s
 have M:av=none->D=0/\lo=0:=by
  intro e;rcases r.out with h|⟨g,off,o,_⟩
  ·have:=L.out;rw[h]at this;simp at this;omega
  ·rw[e]at o;cases o
 cases av with
 | none=>
  obtain⟨rfl,rfl⟩:=M rfl;have P:Hid (Zb6 l n t=[]):=hid (Ya3 (by have:=v.out;omega));go_enter func177,ntmps177
  go_wp2_with fail
  refine(U1.out _ (Yaf _ _)).mono ?_;rintro e y ⟨rfl,a⟩
  go_wp2_with fail
  refine(U2.out _ a).mono ?_;rintro e z ⟨rfl,q⟩;have i:BW w z:=a.trans (q.mono a.size);go_wp2;go_ret;exact⟨_,_,rfl,hid (Or.inl P.out),i⟩
 | some a0=>
  go_enter func177,ntmps177
  go_wp2_with fail
  refine(U1.out _ (Yaf _ _)).mono ?_;rintro e y ⟨rfl,a⟩
  go_wp2_with fail
  refine(U2.out _ a).mono ?_;rintro e z ⟨rfl,q⟩;have i:BW w z:=a.trans (q.mono a.size);go_wp2;go_ret
  ·exact⟨_,⟨_,rfl⟩,hid (Or.inl (Ya3 (by have:=v.out;omega))),i⟩
  ·go_ret;rcases r.out with h|⟨g,off,o,c,fr,Q,R⟩
   ·exact⟨_,⟨_,rfl⟩,hid (Or.inl (by rw[h];rfl)),i⟩
   ·injection o with o;subst o;refine⟨_,⟨_,rfl⟩,hid (Or.inr ⟨g,off+lo*2,?_,c,fr,Zo.below i _ _ _ _ Q,fun j S=>?_⟩),i⟩
    ·simp[Addr.add]
    ·obtain⟨N,e⟩:=J.2 j S;have:=R (lo+j) N;rw[e,show off+lo*2+j*2=off+(lo+j)*2 by omega];exact this
theorem Ztd:∀(l:List Lab) (n:LB) (k:Nat) (c:k<l.length),(∀p∈l.take k,p.1≠n)->l[k].1=n->ZeI l n=l[k].2
 | p::l,n,0,_,_,a=>by rw[ZeI];exact if_pos a
 | p :: l, n, k + 1, c, d, a => by
   rw[ZeI,if_neg (d p (by simp))];exact Ztd l n k (by simpa using c) (fun q e=>d q (by rw[List.take_succ_cons];exact Yam _ e)) a
theorem Zte:∀(l:List Lab) (n:LB),(∀p∈l,p.1≠n)->ZeI l n=[]
 | [],_,_=>rfl
 | p::l,n,h=>by rw[ZeI,if_neg (h p (Yay ..))];exact Zte l n (fun q a=>h q (Yam _ a))
theorem Zyl{cp:Nat}(tx nm:BA)(qs:List (BA×BA))(h:ZcB w 0 (.slice av n cp) n qs) :
  Cq 201 #[.agg #[.slice av n cp,.string tx],.string nm] w fun e u=>∃r:BA,e=.returned (.string r)/\Hid (bl r=ZeI (qs.map blP) (bl nm))/\BW w u:=by
 have m:qs.length=n:=by have:=h.1.1;rw[Zi9]at this;omega
 subst m;have t:Hid (ZcB w 0 (.slice av qs.length cp) qs.length qs):=h;have C:qs.length<=6001:=h.2.1;clear h;go_enter func201,ntmps201;go_wp2
 go_loopw [10] (fun i wr=>∃k:Nat,k<=qs.length/\i=Vi k/\Hid (∀q∈qs.take k,bl q.1≠bl nm)/\Hid (BW w wr)) (fun i _=>qs.length - (intOf i).toNat)
 case atStart=>exact⟨0,Yag _,rfl,hid (by intro q a;simp at a),hid Zbal⟩
 case round=>
  obtain⟨k,D,rfl,o,j⟩:=hrel;by_cases d:k<qs.length
  ·obtain⟨g,cpx,A⟩:=ZF t.1 Om;injection A with hg1 _ hg2;subst hg1 hg2;have c:=Zn t.1 j.out;have c1:wr.cell? ⟨g,k*2,none⟩=some (.string (qs[k]).1):=Zi c _ _ (by rw[(Zi8 qs k).1,List.getElem?_eq_getElem d];rfl);have c2:wr.cell? ⟨g,k*2+1,none⟩=some (.string (qs[k]).2):=Zi c _ _ (by rw[(Zi8 qs k).2,List.getElem?_eq_getElem d];rfl);have v:=j.size;clear c;by_cases a:bl (qs[k]).1=bl nm
   ·have s:Hid (ZeI (qs.map blP) (bl nm)=bl (qs[k]).2):=hid (by
     rw [Ztd (qs.map blP) (bl nm) k (by rw [Yak]; exact d) (fun p l => by
       rw[<-Yer]at l;obtain⟨q,f,rfl⟩:=Ybe.1 l;exact o.out q f) (by rw[List.getElem_map];exact a),List.getElem_map]
     rfl)
    have B:((qs[k]).1.toList == nm.toList)=true:=by rw[Zbt,Zbt,a];simp
    generalize(qs[k]).1=x at *
    generalize(qs[k]).2=y at *
    go_wp2;go_ret;exact⟨_,rfl,hid s.symm,belB⟩
   ·have B:((qs[k]).1.toList == nm.toList)=false:=by rw[Zbt,Zbt];simp[a]
    have z:Hid (∀q∈qs.take (k+1),bl q.1≠bl nm):=hid (by
     intro q f;rw[List.take_succ_eq_append_getElem d]at f;rcases Yar.mp f with h|h
     ·exact o.out q h
     ·rw[Yap]at h;subst h;exact a)
    generalize(qs[k]).1=x at *
    generalize(qs[k]).2=y at *
    go_wp2
    go_roundw
    case rel=>exact⟨k+1,by omega,by go_num,z,hid (j.alloc v _)⟩
    case measure=>simp[intOf];omega
  ·obtain rfl:k=qs.length:=by omega
   have s : Hid (ZeI (qs.map blP) (bl nm) = []) := hid (Zte _ _ (fun p l => by
     obtain⟨q,a,rfl⟩:=Ybe.1 l;exact o.out q (by rw[Ya4];exact a)))
   go_wp2;go_ret;exact⟨_,rfl,hid s.symm,j.out⟩
structure Srs where
 nm:BA
 a:Option Addr
 n:Nat
 c:Nat
 tx:BA
 qs:List (BA×BA)
 sa:Option Addr
 sc:Nat
 jz:List (Int×Int)
def Srs.enc(s:Srs):List Value:=[.string s.nm,.slice s.a s.n s.c,.string s.tx,.slice s.sa s.jz.length s.sc]
def Srs.ser(s:Srs):Ser:=⟨bl s.nm,s.qs.map blP,s.jz⟩
structure SrsOk (w:World) (s:Srs):Prop where
 lb:LbOk w s.a s.n s.c s.tx s.qs
 sam:SamV w s.sa s.jz
 tm:TmS s.jz
 len:s.jz.length<=6001
 cap:s.jz.length<=s.sc
 ok:∀x∈s.jz,smOk x
theorem SrsOk.jy{s:Srs}(h:SrsOk w s)(a:Zo w w'):SrsOk w' s:=⟨h.lb.jy a,h.sam.jy a,h.tm,h.len,h.cap,h.ok⟩
theorem ZX.jy{ns:List (LB×LB×Bool)}(h:ZX w v ns)(a:Zo w w'):ZX w' v ns:=by
 obtain⟨bs,c,d⟩:=h;exact⟨bs,a.own c,d⟩
theorem Zbm.jy{ns:List (LB)}(h:Zbm w v ns)(a:Zo w w'):Zbm w' v ns:=by
 obtain⟨bs,c,d⟩:=h;exact⟨bs,a.own c,d⟩
theorem Zwb(l:List (BA×BA×Bool))(j:Nat)(c:j<l.length):(Zb1 l)[j*3]?=some (.string l[j].1)/\(Zb1 l)[j*3+1]?=some (.bool l[j].2.2)/\(Zb1 l)[j*3+2]?=some (.string l[j].2.1):=by
 induction l generalizing j with
 | nil=>simp at c
 | cons a l ih=>
  cases j with
  | zero=>exact⟨rfl,rfl,rfl⟩
  | succ j=>
   have h:=ih j (by simpa using c);rw[show(j+1)*3=j*3+1+1+1 by omega];simpa [Zb1] using h
theorem ZAP(a:Nd)(s:Ser)(qs:List (BA×BA×Bool))(h:qs.map Z7=a.jq)(k:Nat)(c:k<qs.length)(d:ZfW s (Z7 qs[k])=false):Zc1 a s=false:=by
 unfold Zc1;rw[<-h,show(qs.map Z7).all (ZfW s)=false from ?_];rfl;rw[List.all_eq_false];exact⟨Z7 qs[k],Ybe.mpr ⟨_,List.getElem_mem c,rfl⟩,by simp[d]⟩
theorem ZAQ(a:Nd)(s:Ser)(qs:List (BA×BA×Bool))(h:qs.map Z7=a.jq)(d:∀q∈qs,ZfW s (Z7 q)=true):Zc1 a s=decide (a.name=s.name):=by
 unfold Zc1;rw[<-h,show(qs.map Z7).all (ZfW s)=true from ?_];rfl;rw[Ybu];intro c e;obtain⟨q,f,rfl⟩:=Ybe.mp e;exact d q f
theorem ZzY{e:TypeId}(h:w.ownsRow base e size v n xs):n<=9223372036854775807:=by
 rcases h.2 with ⟨_,c⟩|⟨g,cap,cur,d,f,i,j,a,r⟩
 ·omega
 ·unfold maxLen at a;omega
theorem ZkY(a b:BA):(a.toList == b.toList)=decide (bl a=bl b):=by
 rw[Zbt,Zbt,Ybh,beq_iff_eq,decide_eq_true_iff]
theorem ZAR(nm:BA)(la:Option Addr)(ln lc:Nat)(nd:Nd)(s:Srs)(G:bl nm=nd.name)(hc:ZX w (.slice la ln lc) nd.jq)(Q:LbOk w s.a s.n s.c s.tx s.qs) :
  Cq 176 #[.agg #[.string nm,.slice la ln lc],.agg #[.string s.nm,.slice s.a s.n s.c,.string s.tx,.slice s.sa s.jz.length s.sc]] w fun e u=>e=.returned (.bool (Zc1 nd s.ser))/\BW w u:=by
 obtain⟨cs,f,H⟩:=hc;have a0:=ZzY f;obtain⟨av,cp,hv⟩:=Zl f;injection hv with hv1 hv2 hv3;subst hv2;have R:Hid (w.ownsRow 0 247 3 (.slice la cs.length lc) cs.length (Zb1 cs)):=f;have m:Hid (bl nm=nd.name/\cs.map Z7=nd.jq):=⟨G,H⟩
 obtain⟨snm,a,n,c,tx,qs,sa,sc,jz⟩:=s;have HL:Hid (ZcB w 0 (.slice a n c) n qs):=Q.row;clear f hv1 hv3 H G Q;obtain⟨S,o⟩:∃S,S=Srs.ser ⟨snm,a,n,c,tx,qs,sa,sc,jz⟩:=⟨_,rfl⟩
 have I:Hid (S.name=bl snm/\S.labs=qs.map blP):=hid (by rw[o];exact⟨rfl,rfl⟩);rw[<-o];clear o;simp only
 have T:Hid ((snm.toList == nm.toList)=decide (nd.name=S.name)):=hid (by
  rw[ZkY,m.1,I.1,decide_eq_decide];exact⟨fun h=>h.symm,fun h=>h.symm⟩)
 by_cases d:nd.name≠S.name
 ·have M:=T.out;rw[decide_eq_false d]at M;have i:Hid (Zc1 nd S=false):=hid (by unfold Zc1;rw[decide_eq_false d,Ydi]);go_enter func176,ntmps176;go_wp2;go_ret;exact⟨by rw[i.out];rfl,belB⟩
 replace d:=Classical.not_not.1 d;have M:=T.out;rw[decide_eq_true d]at M;have U:Hid (nd.name=S.name):=d;clear d;go_enter func176,ntmps176;go_wp2
 go_loopg [16] cs.length (fun gk v16 wr=>∃k:Nat,k<=cs.length/\gk=cs.length - k/\v16=Vi k/\Hid (∀q∈cs.take k,ZfW S (Z7 q)=true)/\Hid (BW w wr)/\Hid (BAt wr (w.heap.size+1) [.string snm,.slice a n c,.string tx,.slice sa jz.length sc] 199))
 case atStart=>exact⟨0,Yag _,rfl,rfl,hid (by intro q hq;simp at hq),hid (Zbal.alloc (by simp) _),hid (by have:=Go.Deep.blk_alloc_new (w.alloc (.cells #[.string nm,.slice la cs.length lc] 179)) (.cells #[.string snm,.slice a n c,.string tx,.slice sa jz.length sc] 199);rw[Go.Deep.nblk_alloc]at this;exact this)⟩
 case round=>
  obtain⟨k,hk,a1,rfl,V,p,N⟩:=hrel;by_cases t:k<cs.length
  ·have hg:∃g,la=some ⟨g,0,none⟩:=by
    obtain⟨g,cp',h⟩:=ZF R.out Om;injection h with h1;exact⟨g,h1⟩
   obtain⟨g,rfl⟩:=hg;have j:=hid (Zn R.out p.out);obtain⟨f1,f2,f3⟩:=Zwb cs k t;have d1:=Zi j.out _ _ f1;have d2:=Zi j.out _ _ f2;have d3:=Zi j.out _ _ f3;have HK:=hid (fun h=>ZAP nd S cs m.2 k t h)
   have HN:Hid (ZfW S (Z7 cs[k])=true->∀q∈cs.take (k+1),ZfW S (Z7 q)=true):=hid (by
     intro hh q J;rw[List.take_succ_eq_append_getElem t]at J;rcases Yar.mp J with h|h
     ·exact V.out q h
     ·rw[Yap]at h;subst h;exact hh)
   generalize cs[k]=q at *
   obtain⟨x,y,v⟩:=q;simp only at d1 d2 d3;clear f1 f2 f3;have a2:(k:Int)<(cs.length:Int):=by omega
   go_upto_region 6 with fail
   refine ZP fun W O=>?_;have z:BW wr W:=by rw[O];exact Zbal
   have A:Hid (BAt W wr.heap.size [.string x,.bool v,.string y] 247):=hid (by rw[O];exact Go.Deep.blk_alloc_new _ _);have B:Hid (BW w W):=p.trans (z.mono p.size);have C:=hid (N.below z);have a3:=N.lt;have a4:=A.lt;have X:Hid (ZcB W 0 (.slice a n c) n qs):=HL.below B.out;clear O z p N d1 d2 d3 j;have b1:=C.cell 1;have b2:=C.cell 2;have c0:=A.cell 0;have c1:=A.cell 1;have c2:=A.cell 2;simp only[Zget]at b1 b2 c0 c1 c2
   go_region_held3 (fun u => u.cell? ⟨w.heap.size + 1, 1, none⟩ = some (.slice a n c) /\ u.cell? ⟨w.heap.size + 1, 2, none⟩ = some (.string tx) /\ u.cell? ⟨wr.heap.size, 0, none⟩ = some (.string x) /\ u.cell? ⟨wr.heap.size, 2, none⟩ = some (.string y)) (first | exact ⟨b51, b52, c50, c52⟩ | exact ⟨b1, b2, c0, c2⟩ | go_keep) (first
     | (go_at_call 201
        refine(Zyl tx x qs (by exact X.below ⟨rfl,rfl,rfl,Yac _,fun _ _=>rfl⟩)).mono ?_;rintro e Y ⟨r,rfl,Z,K⟩;have D:Hid (BW W Y):=hid (ZkW K);have E:=hid (A.below D.out);have F:=hid (C.below D.out);have c50:=E.cell 0;have c51:=E.cell 1;have c52:=E.cell 2;have b51:=F.cell 1;have b52:=F.cell 2;simp only[Zget]at c50 c51 c52 b51 b52;clear K))
   have HQ:Hid (ZfW S (Z7 (x,y,v))=!((r.toList == y.toList) == v)):=hid (by
    rw[ZkY,Z.out,<-I.2];rfl)
   have L:Hid (BW w Y):=B.trans (D.mono B.size);generalize(r.toList == y.toList)=b at *
   by_cases l:b=v
   ·have i:=hid (HK.out (by rw[HQ.out,l];simp));have P:(b == v)=true:=by rw[l];simp
    go_wp2;go_ret;exact⟨by rw[i.out];rfl,L.out⟩
   ·have i:=hid (HN.out (by rw[HQ.out];simp[l]));have P:(b == v)=false:=by simp[l]
    go_wp2
    go_roundg (cs.length - (k+1))
    case measure=>omega
    case rel=>exact⟨k+1,by omega,rfl,by go_num,i,L,F⟩
  ·obtain rfl:k=cs.length:=by omega
   have i:=hid (ZAQ nd S cs m.2 (by have:=V.out;rwa [Ya4]at this));go_wp2;go_ret;exact⟨by rw[i.out,decide_eq_true U.out];rfl,p.out⟩
