/- Parts. -/
import Derived.Test.YtmfnolgpaoldpaaGreatDoorW20
import Derived.Test.YtmfnolgpaoldpaaGreatDoorW17
set_option linter.all false
set_option maxRecDepth 100000
set_option maxHeartbeats 16000000
namespace Go.Proofs.YtmfnolgpaoldpaaGreatDoor
open Go.RowKit LS Go.Proofs.Tryz
variable {tx:BA}{t:Int}{L:List El}{bs xs:List Value}{qs:List<|BA×BA}{l:List<|Int×Int}{b1 b2 base cap cp n off size:Nat}{a av:Option Addr}{c:UInt8}{u v:Value}{w w':World}{p:Xc}
def Sl(p:BA×BA):LB:=bl p.1++61::bl p.2
def Wv:List (BA×BA)->LB
 |[]=>[]
 |[p]=>Sl p
 |p::l=>Sl p++44::Wv l
theorem pt(l:List<|BA×BA)(p:BA×BA):Wv (l++[p])=(if l.isEmpty then[]else Wv l++[44])++Sl p:=by
 induction l with
 |nil=>rfl
 |cons a l ih=>
  cases l with
  |nil=>simp[Wv]
  |cons c l=>
   have e:Wv (a::c::l++[p])=Sl a++44::Wv (c::l++[p]):=C;rw[e,ih];simp[Wv]
theorem pq(l:List<|BA×BA)(h:∀p∈l,p.1.size<=6000/\p.2.size<=6000):(Wv l).length<=12002*l.length:=by
 induction l with
 |nil=>simp[Wv]
 |cons a l ih=>
  have f:=h a<|Re ..;have g:=ih λp d=>h p<|Vf _ d;have i:(Sl a).length<=12001:=by unfold Sl;rw[Yv,Y1,Zb,Zb];omega
  cases l with
  |nil=>simp[Wv];omega
  |cons c l=>
   have e:Wv (a::c::l)=Sl a++44::Wv _:=C;rw[e,Yv,Y1];simp at*;omega
theorem tH(l:List<|BA×BA):∀u∈UG l,u.oneCell'=true:=by
 induction l with
 |nil=>intro u c;cases c
 |cons a l ih=>
  intro u c;simp[UG]at c;rcases c with rfl|rfl|c
  .rfl
  .rfl
  .exact ih u c
theorem tA(h:TQ w 0 (.slice a n cap) n qs):
 CP 171 #[.slice a n cap] w λe m=>∃(a':Option Addr)(cap':Nat),e=.returned (.slice a' n cap')/\TQ m 0 (.slice a' n cap') n qs/\BW w m:=by
 obtain⟨i0,x,o,p,r⟩:=Xv Tryz.infoLabel;obtain⟨c,s,f⟩:=h;rcases c.2 with⟨k,G⟩|⟨g,cp,cur,k,_⟩
 .injection k with h1 h2 h3;subst h1;subst h2;subst h3;have l:Hid<|TQ w 0 _ 0 _:=⟨c,s,f⟩;have z:∀W:World,(binOp .eql 196 S0 S0).run prog W=.ok (.bool true) W:=λ_=>C;clear c f;go_enter func171,ntmps171;go_wp2;go_ret;exact⟨none,0,C,l,Ym _ _⟩
 .injection k with h1 h2 h3;subst h1;subst h3;have A:Hid<|∀j u,(UG _)[j]?=some u->w.cell? ((⟨g,0,none⟩:Addr).add j)=some u:=c.cells C;have B:=c.1;have z:∀W:World,(binOp .eql 196 (.slice (some ⟨g,0,none⟩) n cap) S0).run prog W=.ok _ W:=λ_=>C;have l:=I f;clear c f;go_enter func171,ntmps171;go_wp2_with(at_builtin;refine XC _ C (.tmp 5) (.tmp 6) 196 C w.heap.size 340 i0 (.agg #[.string ByteArray.empty,.string ByteArray.empty]) 2 32 underlying196 x o p r C N _ 0 [] C (World.ownsRow_made w #[] 0 (Yj _) (by unfold maxLen;omega) C) ⟨g,0,none⟩ n _ (UG qs) C B ?c1 ?c2 ?c3 ?c4 ?c5 ?_)
  case c1 => intro j u D;have:=A j u D;rw[QJ]at this;try rw[QJ]
             rw[TN _ _ _<|Xi _ _ this];exact this
  case c2=>exact tH _
  case c3=>unfold maxLen;omega
  case c4=>omega
  intro v' H d i _;obtain⟨av,cp3,t⟩:=Zd d;subst t;have v:=Yc.grown i Sm λq F=>by simp[Value.ownBlock]at F;omega
  go_wp2;go_ret;exact⟨av,cp3,C,⟨GP d,s,l⟩,v⟩
theorem uT{T e:TypeId}{B b:Nat}(h:Lib.IsBuilderF T e B b bs w)(c:BW w w'):Lib.IsBuilderF T e B b bs w':=by
 have one:∀p,Lib.BuilderAtF T e B b p bs w->Lib.BuilderAtF T e B b p bs w':=by
  intro p d;have f:=d.lt;obtain⟨m,v,i,a,j⟩:=d;refine⟨m,v,(c.block b f).trans i,⟨a.1,?_⟩,j⟩;rcases a.2 with n|⟨g,cap,cur,fz,o,k,l,rest⟩
  .exact .inl n
  .exact .inr ⟨g,cap,cur,fz,o,k,(c.block g (Xr.1 l).1).trans l,rest⟩
 exact h.elim (λx=>.inl<|one _ x) λx=>.inr<|one _ x
theorem TQ.below(h:TQ w base v n qs)(a:BW w w'):TQ w' base v n qs:=⟨Ze h.1 a,h.2⟩
theorem LA{e:TypeId}(h:w.ownsRow base e size v n xs)(a:∀k,v.ownBlock=some k->w'.heap[k]?=w.heap[k]?):w'.ownsRow base e size v n xs:=by
 refine⟨h.1,?_⟩;rcases h.2 with c|⟨g,cap,cur,rfl,d,f,r⟩
 .exact .inl c
 .exact .inr ⟨g,cap,cur,C,d,(a g C).trans f,r⟩
theorem kI{e u:TypeId}{b:Nat}(h:w.ownsRow base e size v n xs)(a:Lib.OthersKept u (some b) w w')(d:e≠u)(f:v.ownBlock≠some b):w'.ownsRow base e size v n xs:=by
 refine⟨h.1,?_⟩;rcases h.2 with i|⟨g,cap,cur,rfl,j,k,r⟩
 .exact .inl i
 .exact .inr ⟨g,cap,cur,C,j,a g _ k (λx=>f x) λc fz x=>by injection x with _ x2;exact d x2,r⟩
theorem uU{T e t:TypeId}{B b:Nat}(h:Lib.IsBuilderF T e B b bs w)(a:w.ownsRow base t size v n xs)(d:T≠t):v.ownBlock≠some b:=by
 rcases h with⟨_,_,c,_⟩|⟨_,_,c,_⟩<;>exact λx=>ZD a c d x.symm
theorem AP{a:Nat}{x y:Value}{t:TypeId}{fr:Nat×Nat}(h:w.heap[a]?=some (.cells #[x,y] t fr)):w.cell? ⟨a,0,none⟩=some x/\w.cell? ⟨a,1,none⟩=some y:=by
 constructor<;>simp[World.cell?,h]
theorem Ou(a b:BA):bl (a++b)=bl a++bl b:=by simp[bl]
theorem B3(h:TQ w 0 (.slice a n cap) n qs):
 CP 133 #[.slice a n cap] w λe u=>∃(a':Option Addr)(cap':Nat),e=.returned (.agg #[.slice a' n cap',.string ⟨(Wv qs).toArray⟩])/\TQ u 0 (.slice a' n cap') n qs/\BW w u:=by
 have a9:qs.length=n:=by have:=h.1.1;rw[Jd]at this;omega
 have v:=I h;have b0:=h.2.1;have Z:=I λk=>by
  have:=pq (qs.take k) λp hp=>h.2.2 p<|MX hp;rw[Xw]at this;have q:min k qs.length<=6001:=X;exact Xb this<|Nat.mul_le_mul_left _ q
 clear h;go_enter func133,ntmps133;go_wp2;go_loopw [8] (λi wr=>∃k:Nat,k<=n/\i=E k/\Hid (Lib.IsBuilderF 217 5 (w.heap.size+1) (w.heap.size+1) (Lib.byteCells<|Wv<|qs.take k) wr)/\Hid (Below (w.heap.size+1) (w.alloc<|.cells #[S0,.string ⟨#[]⟩] 198) wr)) (λi _=>n-(intOf i).toNat);case atStart=>
  refine⟨0,Yr _,C,?_,(Ym _ _).alloc Sm _⟩;have:=Lib.IsBuilderF.of<|Lib.fresh_isBuilder 217 5<|w.alloc<|.cells #[S0,.string ⟨#[]⟩] 198;rw[Go.Deep.nblk_alloc]at this;exact this
 case round=>
  obtain⟨k,hk,rfl,A,B⟩:=hrel;have s:w.heap.size+1<=wr.heap.size:=by have:=B.size;rw[Go.Deep.nblk_alloc]at this;exact this
  have D:=I<|((Ym _ w).alloc (Yj _) _).trans<|B.mono X;by_cases b4:k<n
  .have hg:∃g,a=some ⟨g,0,none⟩:=by
    obtain⟨g,cp,hv⟩:=Zm v.1 X;injection hv with hv1;exact⟨g,hv1⟩
   obtain⟨g,rfl⟩:=hg;have F:k<qs.length:=X;obtain⟨f1,f2⟩:=Jc qs k;rw[List.getElem?_eq_getElem F]at f1 f2;have M:=ZN v.1;have c1:wr.cell? _=some (.string _):=(D.cell M).trans<|Zc v.1 _ _ f1;have c2:wr.cell? _=some (.string _):=(D.cell M).trans<|Zc v.1 _ _ f2;have T:=v.2.2 _<|List.getElem_mem F;have L:Hid<|Wv _=(if(qs.take k).isEmpty then[]else Wv _++[44])++Sl _:=List.take_succ_eq_append_getElem F▸pt _ _;have b5:=Z k;generalize qs[k]=p at*;obtain⟨x,y⟩:=p;clear f1 f2;have b6:x.size<=6000:=T.1;have b7:y.size<=6000:=T.2;clear T;have U:∀t,(wr.alloc<|.cells #[.string x,.string y] t).heap[wr.heap.size]?=some _:=λt=>YO;have a0:(Lib.byteCells<|Wv<|qs.take k).length+(⟨#[44]⟩:BA).size<=140737488355328:=by rw[Lib.byteCells_length];show _+1<=_;omega
   have a1:(Lib.byteCells<|Wv<|qs.take k).length+(x++⟨#[61]⟩++y).size<=140737488355328:=by
    rw[Lib.byteCells_length,Xa,Xa];show _+(_+1+_)<=_;omega
   have a2:(Lib.byteCells<|Wv (qs.take k)++[44]).length+(x++⟨#[61]⟩++y).size<=140737488355328:=by
    rw[Lib.byteCells_length,Yv,Xa,Xa];show _+1+(_+1+_)<=_;omega
   have f:w.heap.size+1<wr.heap.size:=by
    rcases A.out with h|h<;>exact h.lt
   have O:∀o,w.heap.size+1<=(wr.alloc o).heap.size:=λo=>by rw[Go.Deep.nblk_alloc];omega
   by_cases l:k=0
   .have G:Hid<|Wv (qs.take<|k+1)=Wv (qs.take k)++Sl (x,y):=by rw[L,l];rfl
    have r:decide (0<(k:Int))=false:=Wl X;clear L;have c1':wr.cell? ⟨g,0,none⟩=some (.string x):=by rw[l]at c1;simpa using c1
    have c2':wr.cell? ⟨g,1,none⟩=some (.string y):=by rw[l]at c2;simpa using c2
    go_wp2_with fail;clear r;refine(Lm _ _ _ _ (Lib.IsBuilderF.alloc A _) a1<|O _).mono ?_;rintro e V ⟨rfl,q,b2,k2⟩;have m:Hid<|Lib.IsBuilderF 217 5 (w.heap.size+1) (w.heap.size+1) (Lib.byteCells<|Wv<|qs.take<|k+1) V:=by
     rw[G,Lib.byteCells_append];refine .inr ?_;have e:Lib.byteCells (Sl (x,y))=Lib.strCells (x++⟨#[61]⟩++y):=by
      rw[Lib.strCells_eq];show _=Lib.byteCells (bl _);rw[Ou,Ou,WV];rfl
     rw[e];exact q
    have H:=I<|(B.alloc s _).trans b2;clear q b2 k2;go_wp2;go_roundw;case rel=>exact⟨k+1,X,by subst l;rfl,m,H⟩
    case measure=>simp[intOf];omega
   .have G:Hid<|Wv _=Wv (qs.take k)++[44]++Sl _:=I<|by
     rw[L,Yd<|by rw[Kq];intro e;have:=congrArg List.length e;rw[Xw,TP]at this;omega]
    have r:decide (0<(k:Int))=true:=WI X;have a3:0<k:=X;clear L;go_wp2_with fail;clear l r a3;refine(Lm _ _ _ _ (Lib.IsBuilderF.alloc A _) a0<|O _).mono ?_;rintro e W1 ⟨rfl,h1,b1,k1⟩;obtain⟨o0,o1⟩:=AP<|k1 wr.heap.size _ (U _) (by simp;omega)<|by intro c fz h;simp at h
    have a4:w.heap.size+1<=W1.heap.size:=by have:=b1.size;rw[Go.Deep.nblk_alloc]at this;omega
    have a5:Hid<|Lib.IsBuilderF 217 5 (w.heap.size+1) (w.heap.size+1) (Lib.byteCells<|Wv (qs.take k)++[44]) W1:=by
     rw[Lib.byteCells_append];exact .inr h1
    have a6:=I<|(B.alloc s _).trans b1;clear h1 b1 k1;go_wp2_with fail;refine(Lm _ _ _ _ a5 a2 a4).mono ?_;rintro e V ⟨rfl,q,b2,k2⟩;have m:Hid<|Lib.IsBuilderF 217 5 (w.heap.size+1) (w.heap.size+1) (Lib.byteCells<|Wv<|qs.take<|k+1) V:=by
     rw[G,Lib.byteCells_append];refine .inr ?_;have e:Lib.byteCells (Sl (x,y))=Lib.strCells (x++⟨#[61]⟩++y):=by
      rw[Lib.strCells_eq];show _=Lib.byteCells (bl _);rw[Ou,Ou,WV];rfl
     rw[e];exact q
    have H:=I<|a6.trans b2;clear q b2 k2 o0 o1;go_wp2;go_roundw;case rel=>exact⟨k+1,X,by go_num,m,H⟩
    case measure=>simp[intOf];omega
  .obtain rfl:k=n:=X;have m:Hid<|Lib.IsBuilderF 217 5 (w.heap.size+1) (w.heap.size+1) (Lib.byteCells<|Wv qs) wr:=by
    have:=A.out;rwa [Wm X]at this
   clear A;go_wp2_with fail;refine(tA<|TQ.below v D).mono ?_;rintro e z ⟨a',cap',rfl,P,f⟩;have J:=I P;have Q:=I<|uT m f;have R:=I<|B.trans<|f.mono s;have a7:=Xb s f.size;clear P f;go_wp2_with fail;refine(Builder_String_any_k _ _ _ _ Q a7).mono ?_;rintro e W ⟨rfl,_,b3,k3⟩;have d:=((R.trans b3).block _ X).trans YO;obtain⟨k0,k1⟩:=AP d;have g0:W.frozen? ⟨w.heap.size,0,none⟩=false:=by simp[World.frozen?,d]
   have g1:W.frozen? ⟨w.heap.size,1,none⟩=false:=by simp[World.frozen?,d]
   have K:=kI J.1 k3 N<|uU Q J.1 N;have a8:Hid<|∀x y,((W.setCell ⟨w.heap.size,0,none⟩ x).setCell ⟨w.heap.size,1,none⟩ y).ownsRow 0 _ 2 _ k _:=λx y=>LA K λj hj=>by
    have S:j≠w.heap.size:=by rintro rfl;exact ZD K d N hj.symm
    rw[Go.Deep.blk_setCell_other _ _ _ _ S,Go.Deep.blk_setCell_other _ _ _ _ S]
   have Y:=I<|((Ym _ w).alloc (Yj _) _).trans<|(R.trans b3).mono X;clear K d b3 k3;go_wp2;exact YQ (by simp[results,results133,go_sem,k0,k1]) C ⟨a',cap',C,⟨a8 _ _,J.2⟩,(Y.setCell (Yj _) _).setCell (Yj _) _⟩
def Pb(p:Xc):Prop:=Zx p.1=true/\ZY p.2=true
def Rj(l:List Xc):Prop:=l.length<=6001/\∀p∈l,Pb p
theorem CS(a:Zl c=false){n:LB}(h:Zx n=true):c∉n:=by
 intro d;unfold Zx at h;simp_all
theorem zR(d:(Zl c||Zt c)=false){n:LB}(h:ZY n=true):c∉n:=by
 intro a;unfold ZY at h;rw[Vu]at h;have:=Tt.1 h.1 _ a;simp_all
theorem C7(h:Pb p):(44:UInt8)∉XY p:=by
 unfold XY;rw[Wk,Wk];rintro((a|a)|a)
 .exact CS N h.1 a
 .simp_all
 .exact zR N h.2 a
theorem C5(h:Pb p):cut 61 (XY p)=some p:=by
 unfold XY;rw[WV];exact Hi<|CS N h.1
theorem FT(p q:Xc)(l:List Xc):Yy (p::q::l)=XY p++44::Yy (q::l):=rfl
theorem FW(p:Xc):Yy [p]=XY p:=rfl
theorem Fe:∀l:List Xc,l≠[]->(∀p∈l,Pb p)->split 44 (Yy l)=l.map XY
 |[],h,_=>absurd C h
 |[p],_,h=>by
  have a:=C7<|h p Sm;have e:=MD _ _ [] a;rw[V6]at e;rw[FW,e];simp[split,pre]
 |p::q::l,_,h=>by
  have a:=C7<|h p Sm;rw[FT,MD _ _ _ a,Nh,Fe _ Sm λx c=>h x<|Vf _ c];simp[pre]
theorem CA:∀l m:List Xc,(∀p∈l,Pb p)->(∀p∈m,Pb p)->l.map XY=m.map XY->l=m
 |[],[],_,_,_=>C
 |[],_::_,_,_,h=>by simp at h
 |_::_,[],_,_,h=>by simp at h
 |p::l,q::m,c,d,h=>by
  rw[Wb,Wb]at h;injection h with h1 h2;have e1:=C5<|c p Sm;rw[h1,C5<|d q Sm]at e1;rw[Uc e1,CA l m (λx a=>c x<|Vf _ a) (λx a=>d x<|Vf _ a) h2]
theorem zC(l:List Xc):Yy l=[]↔l=[]:=by
 constructor
 .intro h;match l,h with
  |[],_=>rfl
  |[p],h=>rw[FW]at h;unfold XY at h;simp at h
  |p::q::l,h=>rw[FT]at h;simp at h
 .rintro rfl;rfl
theorem FU{l m:List Xc}(c:Rj l)(d:Rj m)(h:Yy l=Yy m):l=m:=by
 by_cases a:l=[]
 .subst a;exact((zC m).1 h.symm).symm
 .have f:m≠[]:=λe=>a<|(zC l).1<|by rw[h,e];rfl
  have e1:=Fe l a c.2;rw[h,Fe m f d.2]at e1;exact CA l m c.2 d.2 e1.symm
theorem C6(h:Pb p):(XY p).length<=17:=by
 have a:=h.1;have c:=h.2;unfold Zx at a;unfold ZY at c;simp only[Vu,Ko]at a c;unfold XY;simp_all;omega
theorem zB:∀l:List Xc,(∀p∈l,Pb p)->(Yy l).length<=18*l.length
 |[],_=>by decide
 |[p],h=>by rw[FW];have:=C6<|h p Sm;simp;omega
 |p::q::l,h=>by
  have c:=C6<|h p Sm;have d:=zB _ λx a=>h x<|Vf _ a;rw[FT,Yv,Y1];simp_all;omega
theorem Rj.len{l:List Xc}(h:Rj l):(Yy l).length<=108018:=by
 have:=zB l h.2;have:=h.1;omega
theorem Rj.kept{l:List Xc}(h:Rj l)(bs:List<|LB):Rj<|Zp l bs:=⟨Xb (Qq _ _) h.1,λp a=>h.2 p (Qv.1 a).1⟩
theorem Fh:∀qs:List<|BA×BA,Wv qs=Yy (qs.map Xt)
 |[]=>C
 |[p]=>by
  show Sl p=XY (Xt p);unfold Sl XY Xt;simp
 |p::q::l=>by
  have e:Wv (p::q::l)=Sl p++44::Wv _:=C;rw[e,Fh _];show Sl p++44::Yy ((q::l).map Xt)=XY (Xt p)++44::Yy ((q::l).map Xt);congr 1;unfold Sl XY Xt;simp
theorem Bc:∀(xs:List<|LB)(last:LB)(acc r:List Xc),Wf last acc xs=some r->(∀p∈acc,Pb p)->∀p∈r,Pb p
 |[],_,_,_,h,d=>by
  rw[Wf]at h;simp_all
 |x::xs,last,acc,r,h,d=>by
  rw[Wf]at h;split at h
  .cases h
  · rename_i p a;refine Bc _ _ _ r h λq c=>?_;rcases Wk.1 c with c|c
    .simp_all
    · rw[Vs]at c;subst c;unfold Rq at a;split at a
      .cases a
      · split at a
        .rename_i e;cases a;constructor<;>simp_all
        simp_all
theorem pw{l:LB}{ps:List Xc}(h:Wp l=some ps)(a:ps.length<=6001):Rj ps:=by
 refine⟨a,?_⟩;unfold Wp at h;split at h
 .simp_all
 .exact Bc _ _ _ _ h Sm
theorem GE:∀(l m:List El),To l->To m->(∀z,z∈l↔z∈m)->l=m
 |[],[],_,_,_=>C
 |[],b::m,_,_,h=>by have:=(h b).2 Sm;cases this
 |a::l,[],_,_,h=>by have:=(h a).1 Sm;cases this
 |a::l,b::m,f,g,h=>by
  obtain⟨l1,l2⟩:=Rg.1 f;obtain⟨m1,m2⟩:=Rg.1 g;have d:a=b:=by
   rcases X0.1 ((h a).1 Sm)with e|e
   .exact e
   · rcases X0.1 ((h b).2 Sm)with e2|e2
     .simp_all
     .have i:Op.bytesLess (Yy b.1) (Yy a.1)=true:=m1 a e;have j:Op.bytesLess (Yy a.1) (Yy b.1)=true:=l1 b e2;have:=PU _ _ _ i j;rw[R6]at this;cases this
  subst d;have irr:∀z,NO a z->z≠a:=λz c e=>by
   subst e;unfold NO at c;rw[R6]at c;cases c
  rw[GE l m l2 m2 λz=>?_];constructor
  · intro c;rcases X0.1<|(h z).1 (Vf _ c)with e|e
    .exact absurd e<|irr z<|l1 z c
    omega
  · intro c;rcases X0.1<|(h z).2 (Vf _ c)with e|e
    .exact absurd e<|irr z<|m1 z c
    omega
def Tm(L:List El):Prop:=L.Pairwise λa b=>Yy a.1≠Yy b.1
theorem eB {L':List El}(hd:Tm L)(d:L'.Perm L)(f:L'.Pairwise λa b=>Op.bytesLess (Yy b.1) (Yy a.1)=false):L'=L.foldl V8 []:=by
 obtain⟨g,j,i⟩:=Lu L [] List.Pairwise.nil hd Sm;have e:Tm _:=(Er (λh=>Qx h) d).2 hd;refine GE _ _ ?_ g λz=>?_
 .unfold To;have:=f.and e;refine this.imp λ{a b} c=>?_;unfold NO;cases h:Op.bytesLess (Yy a.1)<|Yy b.1with
  |true=>rfl
  |false=>exact absurd (Pe _ _ h c.1) c.2
 .rw[i,d.mem_iff];simp
theorem jP{M:List El}(a:Tm L)(c:Tm M)(h:∀z,z∈L↔z∈M):L.foldl V8 []=M.foldl V8 []:=by
 obtain⟨d,_,e⟩:=Lu L [] List.Pairwise.nil a Sm;obtain⟨k1,_,k3⟩:=Lu M [] List.Pairwise.nil c Sm;refine GE _ _ d k1 λz=>?_;simp_all
def Ru(l:List<|Int×Int):Prop:=l.Pairwise λa b=>a.1<b.1
def Ws(l:List<|Int×Int)(t:Int):Nat:=l.countP λx=>decide<|x.1<=t
theorem EW(h:∀x∈l,t<x.1):Ws l t=0:=by
 unfold Ws;simp_all;omega
theorem zq (t:Int):∀l:List<|Int×Int,Ru l->l.take (Ws l t)=l.filter λx=>decide<|x.1<=t
 |[],_=>C
 |a::l,h=>by
  obtain⟨f,g⟩:=Rg.1 h;by_cases i:a.1<=t
  · have e:Ws (a::l) t=Ws l t+1:=Ep<|by simp_all
    rw[e,List.take_succ_cons,zq t l g,NX<|by simp_all]
  · have d:∀x∈a::l,t<x.1:=λx c=>by
      rcases X0.1 c with rfl|c
      .omega
      .have:=f x c;omega
    rw[EW d,List.take_zero];symm;rw[MW];intro x c;have:=d x c;simp_all
theorem DT (t:Int):∀l:List<|Int×Int,Ru l->l.drop (Ws l t)=l.filter λx=>decide<|t<x.1
 |[],_=>C
 |a::l,h=>by
  obtain⟨f,g⟩:=Rg.1 h;by_cases i:a.1<=t
  · have e:Ws (a::l) t=Ws l t+1:=Ep<|by simp_all
    rw[e,List.drop_succ_cons,DT t l g,NY<|by simp_all]
  · have d:∀x∈a::l,t<x.1:=λx c=>by
      rcases X0.1 c with rfl|c
      .omega
      .have:=f x c;omega
    rw[EW d,PF];symm;rw[J3];intro x c;have:=d x c;simp_all
theorem tE(l:List<|Int×Int){s:Int}(h:s<=t):Ws l s<=Ws l t:=by
 unfold Ws;refine List.countP_mono_left λx _ a=>?_;simp_all;omega
theorem Gz(l:List<|Int×Int)(t:Int):Ws l t<=l.length:=List.countP_le_length
theorem zO(h:Ru l){n:Int}(a:0<=n):(l.take<|Ws l t).drop (Ws l<|t-n)=ZM l n t:=by
 have e:Ws l (t-n)=Ws (l.filter λx=>decide<|x.1<=t) (t-n):=by
  unfold Ws;rw[List.countP_filter];refine List.countP_congr λx _=>?_;simp;omega
 rw[zq t l h,e,DT _ _<|h.filter _,List.filter_filter];rfl
theorem qk {α:Type}(l:List α)(d:α):(List.range l.length).map (λi=>l.getD i d)=l:=by
 refine List.ext_getElem Sm λi c a=>?_;simp[a]
abbrev Ql:=List Xc×List Int
def Ww(k:List Xc)(v:Int):List Ql->List Ql
 |[]=>[(k,[v])]
 |g::m=>if g.1=k then(k,g.2++[v])::m else g::Ww k v m
def Wg(bs:List<|LB)(l:List El):List Ql:=l.foldl (λm e=>Ww (Zp e.1 bs) e.2 m) []
def RE(bs:List<|LB)(l:List El)(k:List Xc):List Int:=(l.filter λf=>decide<|Zp f.1 bs=k).map (·.2)
theorem IT(k:List Xc)(v:Int):∀m:List Ql,(Ww k v m).map (·.1)=if k∈m.map (·.1)then m.map (·.1)else m.map (·.1)++[k]
 |[]=>by rfl
 |g::m=>by
  rw[Ww];by_cases h:g.1=k
  .simp_all
  · rw[Yd h,Wb,IT k v m];have a:(k∈(g::m).map (·.1))↔(k∈m.map (·.1)):=by
      rw[Wb,X0];constructor
      · rintro(e|e)
        .simp_all
        omega
      .simp_all
    split<;>simp_all
theorem Db(k:List Xc)(v:Int):∀m:List Ql,(m.map (·.1)).Nodup->∀g:Ql,g∈Ww k v m↔(g.1≠k/\g∈m)∨(g.1=k/\((∃h∈m,h.1=k/\g.2=h.2++[v])∨(k∉m.map (·.1)/\g.2=[v])))
 |[],_,g=>by
  rw[Ww];simp only[Vs,List.not_mem_nil,and_false,false_or,N7,not_false_eq_true,true_and,false_and,exists_false];constructor
  .simp_all
  .rintro⟨d,c⟩;exact Prod.ext d c
 |a::m,j,g=>by
  rw[Wb,List.nodup_cons]at j;rw[Ww];by_cases h:a.1=k
  · rw[Ye h];have l:k∉m.map (·.1):=by rw[<-h];exact j.1
    rw[X0];constructor
    · rintro(rfl|n)
      .simp_all
      .refine Or.inl ⟨λe=>l<|XJ.2 ⟨g,n,e⟩,Vf _ n⟩
    · rintro(⟨d,c⟩|⟨d,(⟨x,c,f,i⟩|⟨c,_⟩)⟩)
      · rcases X0.1 c with rfl|c
        .simp_all
        simp_all
      · rcases X0.1 c with rfl|c
        .exact Or.inl<|Prod.ext d i
        .exact absurd (XJ.2 ⟨x,c,f⟩) l
      simp_all
  · rw[Yd h,X0,Db k v m j.2 g];constructor
    · rintro(rfl|⟨d,c⟩|⟨d,(⟨x,c,f,i⟩|⟨c,f⟩)⟩)
      .simp_all
      .simp_all
      .exact Or.inr ⟨d,Or.inl ⟨x,Vf _ c,f,i⟩⟩
      · refine Or.inr ⟨d,Or.inr ⟨?_,f⟩⟩;rw[Wb,X0];rintro(e|e)
        .simp_all
        simp_all
    · rintro(⟨d,c⟩|⟨d,(⟨x,c,f,i⟩|⟨c,f⟩)⟩)
      .simp_all
      · rcases X0.1 c with rfl|c
        .simp_all
        .exact Or.inr<|Or.inr ⟨d,Or.inl ⟨x,c,f,i⟩⟩
      simp_all
theorem DP(bs:List<|LB)(l:List El)(e:El):Wg bs (l++[e])=Ww (Zp e.1 bs) e.2 (Wg bs l):=by unfold Wg;simp
theorem yd(bs:List<|LB)(l:List El)(e:El)(k:List Xc):RE bs (l++[e]) k=if Zp e.1 bs=k then RE bs l k++[e.2]else RE bs l k:=by
 unfold RE;split<;>simp_all
theorem eo{α:Type}{P:List α->Prop}(h0:P [])(h1:∀l a,P l->P (l++[a]))(l:List α):P l:=by
 have h:∀m:List _,P m.reverse:=λm=>by
  induction m with
  |nil=>exact h0
  |cons a m ih=>simp_all
 have:=h l.reverse;simp_all
theorem rJ(bs:List<|LB)(l:List El):((Wg bs l).map (·.1)).Nodup/\(∀k,k∈(Wg bs l).map (·.1)↔∃e∈l,Zp e.1 bs=k)/\(∀g:Ql,g∈Wg bs l↔(∃e∈l,Zp e.1 bs=g.1)/\g.2=RE bs l g.1):=by
 induction l using eo with
 |h0=>exact⟨Ii,by simp[Wg],by simp[Wg]⟩
 |h1 l e ih=>
  obtain⟨h1,d,o⟩:=ih;rw[DP];refine⟨?_,λk=>?_,λg=>?_⟩
  .rw[IT];split
   .exact h1
   .rename_i p;rw[List.nodup_append];exact⟨h1,Sm,λa q b m=>by rw[Vs]at m;subst m;intro e';subst e';simp_all⟩
  .rw[IT];split
   .rename_i h;rw[d];constructor
    .simp_all
    .rintro⟨x,c,e'⟩;rcases Wk.1 c with c|c
     .exact⟨x,c,e'⟩
     simp_all
   .rw[Wk,d,Vs];constructor
    .rintro(⟨x,c,e'⟩|rfl)
     .exact⟨x,L9 _ c,e'⟩
     simp
    .rintro⟨x,c,e'⟩;rcases Wk.1 c with c|c
     .exact Or.inl ⟨x,c,e'⟩
     simp_all
  .rw[Db _ _ _ h1 g,yd];by_cases i:g.1=Zp e.1 bs
   .rw[Ye i.symm];constructor
    .rintro(⟨a1,_⟩|⟨_,(⟨x,a2,a3,a4⟩|⟨a2,a3⟩)⟩)
     .simp_all
     .simp_all
     .refine⟨⟨e,Sm,i.symm⟩,?_⟩;rw[a3];have:RE bs l g.1=[]:=by
       unfold RE;rw[Ka,MW];intro f j n;exact a2<|(d _).2 ⟨f,j,by simp_all⟩
      simp_all
    .rintro⟨_,a2⟩;refine Or.inr ⟨i,?_⟩;by_cases h:Zp e.1 bs∈(Wg bs l).map (·.1)
     .simp_all
     .refine Or.inr ⟨h,?_⟩;have:RE bs l g.1=[]:=by
       unfold RE;rw[Ka,MW];intro f j n;exact h<|(d _).2 ⟨f,j,by simp_all⟩
      simp_all
   split<;>simp_all
def M5(op:Nat)(g:Ql):El:=(g.1,YZ<|T1 op g.2)
theorem DI(op:Nat)(bs:List<|LB)(all:List El)(m:∀e∈all,Rj e.1):∀(l pre:List El),(∀e∈l,e∈all)->(∀e∈pre,e∈all)->∀x:El,x∈Vy op bs all pre l↔∃e∈l,(∀f∈pre,Zp f.1 bs≠Zp e.1 bs)/\x=M5 op (Zp e.1 bs,RE bs all<|Zp e.1 bs)
 |[],pre,_,_,x=>by simp[Vy]
 |e::l,pre,o,p,x=>by
  have ih:=DI op bs all m l (pre++[e]) (λf a=>o f<|Vf _ a) (λf a=>by
   rcases Wk.1 a with a|a
   .simp_all
   simp_all) x;have q:=o e Sm;have d:∀f∈all,(Yy (Zp f.1 bs)=Yy (Zp e.1 bs))↔Zp f.1 bs=Zp e.1 bs:=λf a=>⟨λh=>FU ((m f a).kept bs) ((m e q).kept bs) h,λh=>by rw[h]⟩;have n:(all.filter λf=>decide<|Yy (Zp f.1 bs)=Yy (Zp e.1 bs)).map (·.2)=RE bs all (Zp e.1 bs):=by
   unfold RE;congr 1;refine List.filter_congr λf a=>?_;rw[O7];exact d f a
  have g:pre.any (λf=>decide<|Yy (Zp f.1 bs)=Yy (Zp e.1 bs))=true↔∃f∈pre,Zp f.1 bs=Zp e.1 bs:=by
   rw[List.any_eq_true];constructor
   .rintro⟨f,a,h⟩;exact⟨f,a,(d f<|p f a).1<|by simp_all⟩
   .rintro⟨f,a,h⟩;exact⟨f,a,by simp_all⟩
  rw[Vy,Wk,ih,n];constructor
  · rintro(h|⟨f,a,i,j⟩)
    · split at h
      .cases h
      .rename_i r;rw[Vs]at h;refine⟨e,Sm,λf a k=>r<|g.2 ⟨f,a,k⟩,h⟩
    .exact⟨f,Vf _ a,λz c=>i z<|L9 _ c,j⟩
  · rintro⟨f,a,i,j⟩;by_cases k:Zp e.1 bs=Zp f.1 bs
    .left;rw[Yd λs=>by obtain⟨z,c,ez⟩:=g.1 s;exact i z c<|ez.trans k,Vs];rw[j,<-k];rfl
    · right;rcases X0.1 a with rfl|a
      .simp_all
      · refine⟨f,a,λz c=>?_,j⟩;rcases Wk.1 c with c|c
        .exact i z c
        simp_all
theorem qR{op:Nat}{bs:List<|LB}(l:List El)(c:∀e∈l,Rj e.1)(i:L.Perm<|(Wg bs l).map<|M5 op):Tm L/\L.foldl V8 []=SB op bs l:=by
 obtain⟨s1,s2,s3⟩:=rJ bs l;have j:Tm<|(Wg bs l).map<|M5 op:=by
  unfold Tm;rw[Rx];have k:(Wg bs l).Pairwise λa b=>a.1≠b.1:=by
   have:=s1;unfold List.Nodup at this;rwa [Rx]at this
  refine NW ?_ k;intro a b o p m d;obtain⟨⟨x,f,ex⟩,_⟩:=(s3 a).1 o;obtain⟨⟨y,q,ey⟩,_⟩:=(s3 b).1 p;refine m<|FU ?_ ?_ d
  .show Rj a.1;rw[<-ex];exact(c x f).kept bs
  .show Rj b.1;rw[<-ey];exact(c y q).kept bs
 have hd:Tm L:=(Er (λh=>Qx h) i).2 j;refine⟨hd,?_⟩;unfold SB;refine jP hd (H8 _ _ l l _).1 λz=>?_;rw[i.mem_iff,DI _ _ l c l _ (λ_ h=>h) Sm z,XJ];constructor
 .rintro⟨g,r,rfl⟩;obtain⟨⟨x,f,ex⟩,n⟩:=(s3 g).1 r;refine⟨x,f,Sm,?_⟩;unfold M5;simp_all
 .rintro⟨e,d,_,n⟩;exact⟨(Zp _ _,RE _ l _),(s3 _).2 ⟨⟨e,d,C⟩,C⟩,n.symm⟩
structure YG where
 a:Option Addr
 n:Nat
 c:Nat
 tx:BA
 qs:List<|BA×BA
 v:Int
def YG.enc(i:YG):List Value:=[.slice i.a i.n i.c,.string i.tx,E i.v]
def YG.labs(i:YG):List Xc:=i.qs.map Xt
def YG.el(i:YG):El:=(i.labs,i.v)
structure Xz (w:World)(a:Option Addr)(n c:Nat)(tx:BA)(qs:List<|BA×BA):Prop where
 row:TQ w 0 (.slice a n c) n qs
 txt:bl tx=Yy (qs.map Xt)
 wf:Rj<|qs.map Xt
structure YR (w:World)(i:YG):Prop where
 lb:Xz w i.a i.n i.c i.tx i.qs
 vok:YD i.v
def Y5(l:List YG):List Value:=(l.map YG.enc).flatten
theorem Hs(l:List YG):(Y5 l).length=l.length*3:=by
 induction l with
 |nil=>rfl
 |cons a l ih=>unfold Y5 at*;rw[Wb,List.flatten_cons,Yv,ih,Y1];simp[YG.enc];omega
theorem Lr(l m:List YG):Y5 (l++m)=Y5 l++Y5 m:=by unfold Y5;simp
theorem OA(l:List YG)(j:Nat)(d:j<l.length):(Y5 l)[j*3]?=some (.slice l[j].a l[j].n l[j].c)/\(Y5 l)[j*3+1]?=some (.string l[j].tx)/\(Y5 l)[j*3+2]?=some (E l[j].v):=by
 induction l generalizing j with
 |nil=>simp at d
 |cons a l ih=>
  have e:Y5 (a::l)=.slice a.a a.n a.c::.string a.tx::.int .i64 a.v::Y5 l:=C;cases j with
  |zero=>simp_all
  |succ j=>
   have h:=ih j<|by simp_all
   rw[e,show(j+1)*3=j*3+1+1+1 by omega];assumption
structure Y2 (w:World)(v:Value)(l:List El)(is:List YG):Prop where
 row:w.ownsRow 0 223 3 v is.length<|Y5 is
 els:is.map YG.el=l
 ok:∀i∈is,YR w i
 len:is.length<=1000
def Wc(e:TypeId)(w w':World):Prop:=∀(b:Nat)(c:Array Value)(T:TypeId)(fr:Nat×Nat),T≠e->w.heap[b]?=some (.cells c T fr)->w'.heap[b]?=some (.cells c T fr)
def Zu(w w':World):Prop:=∀(b:Nat)(c:Array Value)(T:TypeId)(fr:Nat×Nat),w.heap[b]?=some (.cells c T fr)->w'.heap[b]?=some (.cells c T fr)
theorem Zu.refl(w:World):Zu w w:=λ_ _ _ _ h=>h
theorem Zu.trans{a b c:World}(h:Zu a b)(k:Zu b c):Zu a c:=λx d T fr e=>k x d T _<|h x d T _ e
theorem Zu.below(h:BW w w'):Zu w w':=λb _ _ _ a=>(h.block b (Xr.1 a).1).trans a
theorem Zu.b(h:Zu w w')(e:TypeId):Wc e w w':=λb c T fr _ a=>h b c T _ a
theorem Wc.trans{e:TypeId}{a b c:World}(h:Wc e a b)(k:Wc e b c):Wc e a c:=λx d T fr f g=>k x d T _ f<|h x d T _ f g
theorem Wc.below(h:BW w w')(e:TypeId):Wc e w w':=(Zu.below h).b e
theorem Wc.grown{b:Nat}{e:TypeId}{s:Nat}(c:w.grownBy w' v.ownBlock)(d:w.ownsRow b e s v n xs):Wc e w w':=λk _ _ _ f a=>(c.block k (Xr.1 a).1<|ZD d a f).trans a
theorem Wc.own{t:TypeId}(h:Wc t w w'){e:TypeId}(a:w.ownsRow base e size v n xs)(c:e≠t):w'.ownsRow base e size v n xs:=by
 refine⟨a.1,?_⟩;rcases a.2 with j|⟨g,cap,cur,d,f,i,r⟩
 .simp_all
 .exact .inr ⟨g,cap,cur,d,f,h _ _ _ _ c i,r⟩
theorem Zu.own(h:Zu w w'){e:TypeId}(a:w.ownsRow base e size v n xs):w'.ownsRow base e size v n xs:=by
 refine⟨a.1,?_⟩;rcases a.2 with i|⟨g,cap,cur,c,d,f,r⟩
 .simp_all
 .exact .inr ⟨g,cap,cur,c,d,h _ _ _ _ f,r⟩
theorem Zu.cell(h:Zu w w'){b o:Nat}(a:w.cell? ⟨b,o,none⟩=some u):w'.cell? ⟨b,o,none⟩=some u:=by
 unfold World.cell? at a⊢;cases d:w.heap[b]? with
 |none=>simp_all
 |some ob=>
  cases ob with
  |cells c T fr=>simp only[h _ _ _ _ d,d]at a⊢;exact a
  |_=>simp[d]at a
theorem Xz.kb{t:TypeId}{c:Nat}(h:Xz w a n c tx qs)(d:Wc t w w')(e:340≠t):Xz w' a n c tx qs:=⟨⟨d.own h.row.1 e,h.row.2⟩,h.txt,h.wf⟩
theorem YR.kb{t:TypeId}{i:YG}(h:YR w i)(a:Wc t w w')(c:340≠t):YR w' i:=⟨h.lb.kb a c,h.vok⟩
theorem Xz.jk{c:Nat}(h:Xz w a n c tx qs)(d:Zu w w'):Xz w' a n c tx qs:=⟨⟨d.own h.row.1,h.row.2⟩,h.txt,h.wf⟩
theorem YR.jk{i:YG}(h:YR w i)(a:Zu w w'):YR w' i:=⟨h.lb.jk a,h.vok⟩
theorem YR.below{i:YG}(h:YR w i)(a:BW w w'):YR w' i:=h.jk<|Zu.below a
theorem Y2.jk{l:List El}{is:List YG}(h:Y2 w v l is)(a:Zu w w'):Y2 w' v l is:=⟨a.own h.row,h.els,λi c=>(h.ok i c).jk a,h.len⟩
theorem Y2.below{l:List El}{is:List YG}(h:Y2 w v l is)(a:BW w w'):Y2 w' v l is:=h.jk<|Zu.below a
theorem Y2.len'{l:List El}{is:List YG}(h:Y2 w v l is):l.length=is.length:=by rw[<-h.els,Yz]
def Vr(w:World)(v:Value):VV->Prop
 |.inl n=>v=.iface 219 (.int .i64 n)/\YD n
 |.inr l=>∃s is,v=.iface 221 s/\Y2 w s l is
theorem Vr.jk{V:VV}(h:Vr w v V)(a:Zu w w'):Vr w' v V:=by
 cases V with
 |inl n=>exact h
 |inr l=>obtain⟨s,is,c,d⟩:=h;exact⟨s,is,c,d.jk a⟩
theorem Tryz.infoItem:(Tryz.prog.info? 223).map (λi=>(i.zero,i.size,i.bytes))=some (some<|.agg #[S0,.string ByteArray.empty,E 0],3,48):=by rfl
def IR(w:World)(g off:Nat)(l:List<|Int×Int):Prop:=∃c fr,w.heap[g]?=some (.cells c 315 fr)/\∀j (h:j<l.length),c[off+j*2]?=some (E l[j].1)/\c[off+j*2+1]?=some (E l[j].2)
theorem IR.cells{g:Nat}(h:IR w g off l)(j:Nat)(a:j<l.length):w.cell? ⟨g,off+j*2,none⟩=some (E l[j].1)/\w.cell? ⟨g,off+j*2+1,none⟩=some (E l[j].2):=by
 obtain⟨c,fr,d,e⟩:=h;obtain⟨f,i⟩:=e j a;constructor<;>simp[World.cell?,d,f,i]
def XO(w:World)(av:Option Addr)(l:List<|Int×Int):Prop:=l=[]∨∃g off,av=some ⟨g,off,none⟩/\IR w g off l
theorem XO.kb{t:TypeId}(h:XO w av l)(a:Wc t w w')(d:315≠t):XO w' av l:=by
 rcases h with h|⟨g,off,e,c,fr,f,i⟩
 .exact .inl h
 .exact .inr ⟨g,off,e,c,fr,a _ _ _ _ d f,i⟩
theorem XO.jk(h:XO w av l)(a:Zu w w'):XO w' av l:=by
 rcases h with h|⟨g,off,d,c,fr,e,f⟩
 .exact .inl h
 .exact .inr ⟨g,off,d,c,fr,a _ _ _ _ e,f⟩
theorem XO.below(h:XO w av l)(a:BW w w'):XO w' av l:=h.jk<|Zu.below a
theorem xu(g:Nat)(n:Nat){i:Nat}(t:Int){x:Int}(c:i<n)(d:w.cell? ⟨b1,0,none⟩=some (.slice (some ⟨g,off,none⟩) n cp))(f:w.cell? ⟨b2,0,none⟩=some (E t))(h:w.cell? ⟨g,off+i*2,none⟩=some (E x)):
 CP 232 #[E i,Vp b1,Vp b2] w λe u=>e=.returned (.bool<|decide<|t<x)/\BW w u:=by
 have a:(i:Int)<(n):=X;go_enter func232,ntmps232;go_wp2;go_region;all_goals go_wp2
 all_goals go_ret
 all_goals exact⟨by first|rfl|simp,Yh⟩
theorem tD{k:Nat}(d:k<=l.length)(f:∀j (h:j<l.length),j<k->l[j].1<=t)(g:∀j (h:j<l.length),k<=j->t<l[j].1):Ws l t=k:=by
 have e:=(Oh k l).symm;unfold Ws;rw[e,List.countP_append];have a1:(l.take k).countP (λx=>decide<|x.1<=t)=k:=by
  rw[List.countP_eq_length.2 λx a=>?_,Xw,QT d];obtain⟨j,c,rfl⟩:=List.mem_iff_getElem.1 a;rw[Xw]at c;rw[List.getElem_take];simpa using f j _ X
 have a2:(l.drop k).countP (λx=>decide<|x.1<=t)=0:=by
  rw[List.countP_eq_zero];intro x a;obtain⟨j,c,rfl⟩:=List.mem_iff_getElem.1 a;rw[Ur]at c;rw[List.getElem_drop];have:=g (k+j) X X;simp;omega
 rw[a1,a2];rfl
theorem Ru.get(h:Ru l){i j:Nat}(c:i<=j)(d:j<l.length):l[i].1<=l[j].1:=by
 rcases Sg i j with a|a
 .exact Int.le_of_lt<|List.pairwise_iff_getElem.1 h i j _ _ a
 .obtain rfl:i=j:=X;exact M0 _
theorem iR(cp:Nat)(l:List<|Int×Int)(t:Int)(z:Ru l)(p:l.length<=6001)(A:w.cell? ⟨b1,0,none⟩=some (.slice av l.length cp))(B:w.cell? ⟨b2,0,none⟩=some (E t))(D:XO w av l):
 CP 231 #[E l.length,.func (.func 232) #[] #[Vp b1,Vp b2]] w λe u=>e=.returned (E (Ws l t:Nat))/\BW w u:=by
 have F:=XH z;have L:=XH D;have M:=XH A;have O:=XH B;obtain⟨r,q⟩:∃r,r=Ws l t:=⟨_,C⟩;rw[<-q];have P:=XH q;obtain⟨n,s⟩:∃n,n=l.length:=⟨_,C⟩;rw[<-s]at p⊢;have o:=XH s;clear z D A B q s;go_enter func231,ntmps231;go_wp2;go_loopg [5,6] n (λkx s5 s6 wr=>∃lo a:Nat,s5=E lo/\s6=E a/\lo<=a/\a<=n/\a-lo<=kx/\Hid (BW w wr)/\Hid ((∀j (h:j<l.length),j<lo->l[j].1<=t)/\(∀j (h:j<l.length),a<=j->t<l[j].1)));case atStart=>exact⟨0,n,C,C,Yr _,Yj _,X,XH<|Ym _ _,XH ⟨λj _ h=>absurd h<|Tu _,λj h d=>by have:=o.out;omega⟩⟩
 case round=>
  obtain⟨lo,a,rfl,rfl,R,G,T,c,I⟩:=hrel;by_cases S:lo<a
  .have f:(lo+a)/2<l.length:=by have:=o.out;omega
   have H:l≠[]:=by intro e;rw[e]at f;simp at f
   obtain⟨g,off,rfl,J⟩:=L.resolve_left H;have k1:=(Zu.below c).cell M;have k2:=(Zu.below c).cell O;have k3:=(Zu.below c).cell (J.cells _ f).1;rw[<-o]at k1;have k:=xu g n t X k1 k2 k3;have Q:Hid<|∀i (h:i<l.length),i<=(lo+a)/2->l[i].1<=l[(lo+a)/2].1:=XH λi h d=>F.get d _;have K:Hid<|∀i (h:i<l.length),(lo+a)/2<=i->l[(lo+a)/2].1<=l[i].1:=XH λi h d=>F.get d h;rw[show(((lo+a)/2:Nat))=((lo:Int)+(a))/2 by omega]at k;clear k1 k2 k3 J;generalize(l[(lo+a)/2]).1=x at*;by_cases v:t<x
   .rw[WI v]at k;go_wp2_with(go_at_call 232;refine k.mono ?_;rintro e u ⟨rfl,m⟩);go_roundg ((lo+a)/2-lo);case measure=>omega
    case rel=>
     exact⟨lo,(lo+a)/2,C,by rw[show((lo)+(a))/2=(((lo+a)/2:Nat):Int)by omega],X,X,Yj _,XH<|c.trans<|m.mono c.size,XH ⟨I.1,λj h d=>Int.lt_of_lt_of_le v<|K j h d⟩⟩
   .rw[Wl v]at k;go_wp2_with(go_at_call 232;refine k.mono ?_;rintro e u ⟨rfl,m⟩);go_roundg (a-((lo+a)/2+1));case measure=>omega
    case rel=>
     exact⟨(lo+a)/2+1,a,by rw[show((lo)+(a))/2+1=(((lo+a)/2+1:Nat):Int)by omega],C,X,G,Yj _,XH<|c.trans<|m.mono c.size,XH ⟨λj h d=>Int.le_trans (Q j h X) X,I.2⟩⟩
  .obtain rfl:a=lo:=X;have e:r=a:=P.out▸tD (by have:=o.out;omega) I.1 I.2;subst e;have m:=c.out;go_wp2;go_ret;exact⟨C,m⟩
theorem AR(cp:Nat)(l:List<|Int×Int)(t:Int)(w:World)(c:Ru l)(a:l.length<=6001)(d:XO w av l):
 CP 205 #[.slice av l.length cp,E t] w λe u=>e=.returned (E (Ws l t:Nat))/\BW w u:=by
 have g:Hid<|∀W,Below _ w W->XO W _ l:=I λW h=>d.below h;have i:=I c;clear d c;go_enter func205,ntmps205;go_wp2_with fail;refine(iR cp l t i a ?_ ?_<|g _ Yh).mono ?_
 .simp
 .simp
 rintro e u ⟨rfl,j⟩;have f:BW w _:=Below.trans Yh<|j.mono<|by simp;omega
 go_wp2;go_ret;exact⟨C,f⟩
theorem zN(h:Ru l){n:Int}(c:0<=n):(ZM l n t).length=Ws l t-Ws l (t-n)/\∀j (a:j<(ZM l n t).length),∃f:Ws l (t-n)+j<l.length,(ZM l n t)[j]=l[Ws l (t-n)+j]:=by
 have e:=zO h (t:=t) c;have d:(ZM l n t).length=Ws l t-Ws l (t-n):=by
  rw[<-e,Ur,Xw,QT<|Gz l t]
 refine⟨d,λj a=>?_⟩;have:=Gz l t;refine⟨X,?_⟩;have e2:(ZM l n t)[j]?=l[Ws l (t-n)+j]?:=by
  rw[<-e,Kk,Eo X]
 rw[List.getElem?_eq_getElem a,List.getElem?_eq_getElem X]at e2;exact Uc e2
theorem iz(n t:Int)(x:Ru l)(p:l.length<=6001)(G:l.length<=cp)(H:0<=n)(a1:n<=1000)(a2:-1000000<=t)(a3:t<=1000000)(J:XO w av l):
 CP 175 #[.slice av l.length cp,E n,E t] w λe u=>∃av' cp',e=.returned (.slice av' (ZM l n t).length cp')/\Hid (XO u av'<|ZM l n t)/\BW w u:=by
 have A:=zN x (t:=t) H;have S:Ws l (t-n)<=Ws l t:=tE l X;have K:=Gz l t;have L:=I A;have M:=I x;have r:=I J;have B:=I p;have s:=A.1;clear A x J;have U1:=I λW D=>AR cp l (t-n) W M B<|r.below D;have U2:=I λW D=>AR cp l t W M B<|r.below D;obtain⟨lo,k⟩:∃lo,Ws l (t-n)=lo:=⟨_,C⟩;obtain⟨F,d⟩:∃F,Ws l t=F:=⟨_,C⟩;obtain⟨ln,f⟩:∃ln,l.length=ln:=⟨_,C⟩;obtain⟨O,m⟩:∃O,(ZM l n t).length=O:=⟨_,C⟩;rw[k,d]at L;rw[k,d,m]at s;rw[m];rw[f,k]at U1;rw[f,d]at U2;rw[k,d]at S;rw[d,f]at K;rw[f]at p G⊢;have P:=I f;have v:=I m;clear k d f m B;subst s;have Q:av=none->F=0/\lo=0:=by
  intro e;rcases r.out with h|⟨g,off,o,_⟩
  .have:=P.out;rw[h]at this;simp at this;omega
  .rw[e]at o;cases o
 cases av with
 |none=>
  obtain⟨rfl,rfl⟩:=Q C;have T:=I<|Qr<|by have:=v.out;omega
  go_enter func175,ntmps175;go_wp2_with fail;refine(U1 _<|Ym _ _).mono ?_;rintro e U ⟨rfl,a⟩;go_wp2_with fail;refine(U2 _ a).mono ?_;rintro e z ⟨rfl,q⟩;have i:=a.trans<|q.mono a.size;go_wp2;go_ret;exact⟨_,_,C,I<|.inl T,i⟩
 |some a0=>
  go_enter func175,ntmps175;go_wp2_with fail;refine(U1 _<|Ym _ _).mono ?_;rintro e U ⟨rfl,a⟩;go_wp2_with fail;refine(U2 _ a).mono ?_;rintro e z ⟨rfl,q⟩;have i:=a.trans<|q.mono a.size;go_wp2;go_ret
  .exact⟨_,⟨_,C⟩,I<|.inl<|Qr<|by have:=v.out;omega,i⟩
  .go_ret;rcases r.out with h|⟨g,off,o,c,fr,V,Y⟩
   .exact⟨_,⟨_,C⟩,I<|.inl<|by rw[h];rfl,i⟩
   .injection o with o;subst o;refine⟨_,⟨_,C⟩,I<|.inr ⟨g,off+lo*2,?_,c,fr,Zu.below i _ _ _ _ V,λj Z=>?_⟩,i⟩
    .simp[Addr.add]
    .obtain⟨R,e⟩:=L.2 j Z;have:=Y _ R;rw[e,show off+lo*2+j*2=off+(lo+j)*2 by omega];exact this
theorem Az:∀(l:List Xc)(n:LB)(k:Nat)(d:k<l.length),(∀p∈l.take k,p.1≠n)->l[k].1=n->Sp l n=l[k].2
 |p::l,n,0,_,_,a=>by rw[Sp];exact Ye a
 |p::l,n,k+1,d,c,a=>by
  rw[Sp,Yd<|c p Sm];exact Az l n k _ (λq e=>c q<|List.take_succ_cons▸Vf _ e) a
theorem zw:∀(l:List Xc)(n:LB),(∀p∈l,p.1≠n)->Sp l n=[]
 |[],_,_=>C
 |p::l,n,h=>by rw[Sp,Yd<|h p<|Re ..];exact zw l n λq a=>h q<|Vf _ a
theorem qV(tx nm:BA)(qs:List<|BA×BA)(h:TQ w 0 (.slice av n cp) n qs):
 CP 204 #[.agg #[.slice av n cp,.string tx],.string nm] w λe u=>∃r:BA,e=.returned (.string r)/\Hid (bl r=Sp (qs.map Xt) (bl nm))/\BW w u:=by
 have m:qs.length=n:=by have:=h.1.1;rw[Jd]at this;omega
 subst m;have t:=I h;have D:=h.2.1;clear h;go_enter func204,ntmps204;go_wp2;go_loopw [10] (λi wr=>∃k:Nat,k<=qs.length/\i=E k/\Hid (∀q∈qs.take k,bl q.1≠bl nm)/\Hid (BW w wr)) (λi _=>qs.length-(intOf i).toNat);case atStart=>exact⟨0,Yr _,C,I<|by intro q d;simp at d,I Yc⟩
 case round=>
  obtain⟨k,F,rfl,o,j⟩:=hrel;by_cases f:k<qs.length
  .obtain⟨g,cpx,A⟩:=Zm t.1 X;injection A with hg1 _ hg2;subst hg1 hg2;have a:=Ze t.1 j;have c1:wr.cell? _=some (.string _):=Zc a _ _<|by rw[(Jc _ k).1,List.getElem?_eq_getElem f];rfl
   have c2:wr.cell? _=some (.string _):=Zc a _ _<|by rw[(Jc _ k).2,List.getElem?_eq_getElem f];rfl
   have v:=j.size;clear a;by_cases d:bl (qs[k]).1=bl nm
   .have s:Hid<|Sp (qs.map Xt) (bl nm)=bl (qs[k]).2:=by
     rw[Az _ _ k (by rwa [Yz]) (λp l=>by
      rw[<-Q3]at l;obtain⟨q,c,rfl⟩:=XJ.1 l;exact o q c)<|by rwa [List.getElem_map],List.getElem_map];rfl
    have B:((qs[k]).1.toList==nm.toList)=true:=by rw[ZA,ZA,d];simp
    generalize(qs[k]).1=x at*;generalize(qs[k]).2=y at*;go_wp2;go_ret;exact⟨_,C,I s.symm,Yh⟩
   .have B:((qs[k]).1.toList==nm.toList)=false:=by rw[ZA,ZA];simp[d]
    have z:Hid<|∀q∈qs.take<|k+1,bl q.1≠bl nm:=by
     intro q c;rw[List.take_succ_eq_append_getElem f]at c;rcases Wk.mp c with h|h
     .exact o q h
     .rw[Vs]at h;subst h;exact d
    generalize(qs[k]).1=x at*;generalize(qs[k]).2=y at*;go_wp2;go_roundw;case rel=>exact⟨k+1,X,by go_num,z,I<|j.alloc v _⟩
    case measure=>simp[intOf];omega
  .obtain rfl:k=qs.length:=X;have s:Hid<|Sp (qs.map Xt) _=[]:=I<|zw _ _ λp l=>by
     obtain⟨q,d,rfl⟩:=XJ.1 l;exact o q<|by rwa [X1]
   go_wp2;go_ret;exact⟨_,C,I s.symm,j⟩
