/- Parts. -/
import Derived.Test.YtmfnolgpaoldpaaGreatDoorW14
set_option linter.all false
set_option maxRecDepth 100000
set_option maxHeartbeats 16000000
namespace Go.Proofs.YtmfnolgpaoldpaaGreatDoor
open Go.RowKit LS Go.Proofs.Tryz
open Go.ChangeMaps (setBlock)
structure XI (w:World)(x:Nat)(gs:List<|Nat×Value)(es:Array MapEntry)(clock:Nat):Prop where
 heap:w.heap[x]?=some (.map es clock)
 stm:MapKept.Stamped es clock
 kv:es.toList.map (λe=>(e.key,e.val))=gs.map λg=>(Value.int .i64 g.1,g.2)
 sz:∀g∈gs,g.1<16
theorem Od{j:Nat}(h:j<16):(Lit.int .i64 (j:Int)).wf=true:=by
 rcases(X:j=0∨j=1∨j=2∨j=3∨j=4∨j=5∨j=6∨j=7∨j=8∨j=9∨j=10∨j=11∨j=12∨j=13∨j=14∨j=15)with rfl|rfl|rfl|rfl|rfl|rfl|rfl|rfl|rfl|rfl|rfl|rfl|rfl|rfl|rfl|rfl<;>rfl
theorem XI.len{w:World}{x:Nat}{gs:List<|Nat×Value}{es:Array MapEntry}{clock:Nat}(h:XI w x gs es clock):es.size=gs.length:=by
 have:=congrArg List.length h.kv;simp_all
theorem XI.at{w:World}{x:Nat}{gs:List<|Nat×Value}{es:Array MapEntry}{clock:Nat}(h:XI w x gs es clock){j:Nat}{e:MapEntry}(c:es.toList[j]?=some e):∃d:j<gs.length,e.key=E gs[j].1/\e.val=gs[j].2:=by
 have f:(es.toList.map λe=>(e.key,e.val))[j]?=(gs.map λg=>(Value.int .i64 g.1,g.2))[j]?:=by rw[h.kv]
 rw[Vt,c,Vt]at f;have d:j<gs.length:=by
  rcases Sg j gs.length with a|a
  .exact a
  .simp_all
 simp_all
theorem XI.keys {w:World}{x:Nat}{gs:List<|Nat×Value}{es:Array MapEntry}{clock:Nat}(h:XI w x gs es clock):∀e∈es.toList,∃l,keyOf prog 3 e.key=some l:=λe a=>by
 obtain⟨j,c⟩:=Ig a;obtain⟨f,d,_⟩:=h.at c;rw[d];exact⟨_,Maps.keyOf_int_mk underlying3<|Od<|h.sz _<|List.getElem_mem _⟩
theorem XI.moved{w w':World}{x:Nat}{gs:List<|Nat×Value}{es:Array MapEntry}{clock:Nat}(h:XI w x gs es clock)(a:w'.heap[x]?=w.heap[x]?):XI w' x gs es clock:=⟨a.trans h.heap,h.stm,h.kv,h.sz⟩
theorem Dk{a b:Nat}(h:Value.int .i64 (a:Int)=E (b:Int)):a=b:=by
 simp_all;omega
theorem XI.find{w:World}{x:Nat}{gs:List<|Nat×Value}{es:Array MapEntry}{clock:Nat}(h:XI w x gs es clock)(k:Nat)(u:k<16):
 ((∀W:World,(Instr.findKey 3 (E k) es.toList).run prog W=.ok none W)/\(∀g∈gs,g.1≠k)/\∀e∈es.toList,e.key≠.int .i64 k)∨
 ∃j,∃p:j<gs.length,gs[j].1=k/\(∀i (l:i<gs.length),i≠j->gs[i].1≠k)/\∃e,es.toList[j]?=some e/\e.key=E k/\e.val=gs[j].2/\∀W:World,(Instr.findKey 3 (E k) es.toList).run prog W=.ok (some (j,e.val)) W:=by
 have K:=Maps.int_keyed (P:=prog) (k:=3) underlying3;have d:=Maps.keyOf_int_mk (P:=prog) (k:=3) underlying3<|Od u;rcases K.find w d es.toList h.keys with⟨v,a⟩|⟨j,e,v,a,o⟩
 .left;refine⟨λW=>?_,λg z A=>?_,a⟩
  .rcases K.find W d es.toList h.keys with⟨k1,_⟩|⟨j,e,k1,k2,k3⟩
   .exact k1
   .exact absurd k3<|a e<|QY k2
  .obtain⟨i,l,rfl⟩:=List.mem_iff_getElem.1 z;have c:i<es.toList.length:=by rw[Sy,h.len];exact l
   obtain⟨_,e1,_⟩:=h.at<|List.getElem?_eq_getElem c;simp_all
 .right;obtain⟨p,e1,e2⟩:=h.at a;rw[o]at e1;have q:gs[j].1=k:=(Dk e1).symm;have m:=h.stm.2.2;have f:∀i (l:i<gs.length),i≠j->gs[i].1≠k:=λi l B A=>by
    have c:i<es.toList.length:=by rw[Sy,h.len];exact l
    have n:j<es.toList.length:=(RX.1 a).1;obtain⟨_,f1,_⟩:=h.at<|List.getElem?_eq_getElem c;have e3:es.toList[j]=e:=Uc<|(List.getElem?_eq_getElem n).symm.trans a;rw[List.Nodup,Rx,List.pairwise_iff_getElem]at m;rcases Sg i j with r|r
    .exact m i j c n r<|by simp_all
    .exact m j i n c X<|by simp_all
  refine⟨j,p,q,f,e,a,o,e2,λW=>?_⟩;rcases K.find W d es.toList h.keys with⟨_,k2⟩|⟨j',e',k1,k2,k3⟩
  .exact absurd o<|k2 e<|QY a
  .obtain⟨s,f1,f2⟩:=h.at k2;rw[k3]at f1;have:j'=j:=by
    refine JZ λt=>f j' s t ?_;exact(Dk f1).symm
   simp_all
def Wy(gs:List<|Nat×Value)(k:Nat):Option Value:=(gs.find? λg=>g.1=k).map (·.2)
theorem qn{gs:List<|Nat×Value}{k:Nat}(h:∀g∈gs,g.1≠k):Wy gs k=none:=by
 unfold Wy;simp_all;omega
theorem DG:∀{gs:List<|Nat×Value}{k j:Nat}(a:j<gs.length),gs[j].1=k->(∀i (d:i<gs.length),i≠j->gs[i].1≠k)->Wy gs k=some gs[j].2
 |[],k,j,a,_,_=>absurd a<|Tu _
 |g::gs,k,0,a,h,_=>by unfold Wy;simp_all
 |g::gs,k,j+1,a,h,c=>by
  have f:g.1≠k:=c 0 Sm X;have:=DG (j:=j) (by simpa using a) h λi d e=>c (i+1) (by simp_all) X;unfold Wy at this⊢;simp_all
theorem mj{w:World}{x:Nat}{gs:List<|Nat×Value}{es:Array MapEntry}{clock:Nat}(h:XI w x gs es clock){k:Nat}(f:k<16){v:Value}(a:Wy gs k=some v)(W:World)(l:W.heap[x]?=w.heap[x]?):
 (Instr.lookup 209 (.map<|some x) (E k) false).run prog W=.ok v W:=by
 have K:=Maps.int_keyed (k:=3) underlying3;have c:=Maps.keyOf_int_mk (k:=3) underlying3<|Od f;rcases h.find k f with⟨_,d,_⟩|⟨j,o,m,d,e,p,q,n,g⟩
 .rw[qn d]at a;cases a
 .rw[DG _ m d]at a;have i:=Uc a;rw[n,i]at g;simp[Instr.lookup,QU _,QR<|l.trans h.heap,K.check W _ c,g W,Result.andThen]
theorem qm{gs:List<|Nat×Value}(k:Nat)(v:Value)(h:∀g∈gs,g.1≠k)(i:Nat):Wy (gs++[(k,v)]) i=if k=i then some v else Wy gs i:=by
 unfold Wy;rw[List.find?_append];by_cases e:k=i
 .subst e;rw[Ye C,List.find?_eq_none.2 λg a=>by simpa using h g a];simp
 simp_all
theorem DH:∀{gs:List<|Nat×Value}{k j:Nat}(a:j<gs.length)(v:Value),gs[j].1=k->(∀i (d:i<gs.length),i≠j->gs[i].1≠k)->∀i,Wy (gs.set j (k,v)) i=if k=i then some v else Wy gs i
 |[],k,j,a,_,_,_,_=>absurd a<|Tu _
 |g::gs,k,0,a,v,h,_,i=>by
  have h:g.1=k:=h;unfold Wy;split<;>simp_all
 |g::gs,k,j+1,a,v,h,c,i=>by
  have l:g.1≠k:=c 0 Sm X;have ih:=DH (j:=j) _ v h (λi d f=>c (i+1) (by simp_all) X) i;unfold Wy at ih⊢;rw[List.set_cons_succ];by_cases e:g.1=i
  .simp_all;omega
  simp_all
theorem xp{w:World}{x:Nat}{gs:List<|Nat×Value}{es:Array MapEntry}{clock:Nat}(h:XI w x gs es clock){k:Nat}(n:k<16)(v:Value):
 ∃(es':Array MapEntry)(cl':Nat)(gs':List<|Nat×Value),(∀W:World,W.heap[x]?=w.heap[x]?->(Instr.mapUpdate 209 (.map<|some x) (E k) v).run prog W=.ok () (setBlock W x<|.map es' cl'))/\(∀W:World,x<W.heap.size->XI (setBlock W x<|.map es' cl') x gs' es' cl')/\∀i,Wy gs' i=if k=i then some v else Wy gs i:=by
 have K:=Maps.int_keyed (k:=3) underlying3;have c:=Maps.keyOf_int_mk (k:=3) underlying3<|Od n;rcases h.find k n with⟨g,l,f⟩|⟨j,u,r,l,e,f,s,A,g⟩
 .refine⟨es.push ⟨.int _ k,v,clock⟩,clock+1,gs++[(k,v)],λW d=>?_,λW m=>⟨by simp[setBlock,m],MapKept.stamped_push h.stm f,?_,λz a=>?_⟩,qm k v l⟩
  .simp[Instr.mapUpdate,QU _,QR<|d.trans h.heap,K.check W _ c,g W,N4 _<|d.trans h.heap,Result.andThen,setBlock]
  .rw[Is,Y9,Y9,h.kv];rfl
  .rcases Wk.1 a with a|a
   .exact h.sz z a
   simp_all
 .have o:((es[j]?).map (·.key)).getD (E k)=E k:=QW▸f▸s;refine⟨es.modify j λe=>{e with key:=E k,val:=v},clock,gs.set j _,λW d=>?_,λW m=>⟨by simp[setBlock,m],MapKept.stamped_modify h.stm j _ (λ_ _=>C) λe' _ t=>?_,?_,λz a=>?_⟩,DH _ v r l⟩
  .simp[Instr.mapUpdate,QU _,QR<|d.trans h.heap,K.check W _ c,g W,o,K.stays W c,N4 _<|d.trans h.heap,Result.andThen,setBlock]
  .simp_all
  .rw[Io,<-h.kv];apply PB;intro i;rw[Vt,Array.toList_modify,List.getElem?_modify,Se];by_cases p:j=i
   .subst p;have q:j<es.size:=by have:=(RX.1 f).1;simpa using this
    simp[q]
   simp_all
  .rcases NU a with a|a
   .exact h.sz z a
   simp_all
theorem tt{w:World}{x:Nat}{es:Array MapEntry}{clock:Nat}(h:w.heap[x]?=some (.map es clock))(T:TypeId):(Builtin.clear_ #[209] T #[.map<|some x]).run prog w=.ok (.tuple #[]) (setBlock w x<|.map #[] clock):=by
 simp[Builtin.clear_,QU _,QR h,N4 _ h,Result.andThen,setBlock]
theorem Fa{w:World}(x k:Nat){o:Obj}(h:k≠x):(setBlock w x o).heap[k]?=w.heap[k]?:=by simp[setBlock,Qx h]
theorem kH{w:World}{base:Nat}{e:TypeId}{sz:Nat}{sa:Option Addr}{sn sc:Nat}{xs:List Value}(h:w.ownsRow base e sz (.slice sa sn sc) sn xs):w.ownsRow base e sz (.slice sa 0 sc) 0 []:=by
 obtain⟨k,a⟩:=h;refine⟨Sm,?_⟩;rcases a with⟨a,_⟩|⟨g,cap,cur,c,d,f,l,i,j,m⟩
 .injection a with e1 e2 e3;subst e1 e3;exact .inl ⟨C,C⟩
 .injection c with e1 e2 e3;subst e1 e3;exact .inr ⟨_,_,cur,C,d,f,X,i,j,Sm⟩
theorem lG{w:World}{base mb:Nat}(x:Nat){c0 c1 c2 c3 al:Value}(tm:Int){t2:Int}{gr:Value}{sa:Option Addr}{sn sc:Nat}{vs:List Value}{gs:List<|Nat×Value}{es:Array MapEntry}{clock:Nat}(h:Un w base mb c0 c1 c2 c3 al tm (.map<|some x) gr sa sn sc vs)(m:XI w x gs es clock):
 CP 47 #[Vp mb,E t2] w λe u=>e=.returned (.tuple #[])/\Hid (Un u base mb c0 c1 c2 c3 al t2 (.map<|some x) gr sa 0 sc [])/\Hid (XI u x [] #[] clock)/\Hid (u.os=w.os/\u.tape=w.tape/\u.output=w.output/\w.heap.size<=u.heap.size/\∀k,k≠mb->k≠x->u.heap[k]?=w.heap[k]?):=by
 have l:x≠mb:=λe=>by
  have n:=m.heap;rw[e]at n;have c:=n.symm.trans h.box;injection c with c;cases c
 obtain⟨a,f⟩:∃a,a=(w.setCell ⟨mb,5,none⟩<|E t2).setCell ⟨mb,6,none⟩ (.slice sa 0 sc):=⟨_,C⟩;have m5:w.cell? _=some _:=h.box.cell 5;have m6:w.cell? _=some _:=h.box.cell 6;have m7:w.cell? _=some _:=h.box.cell 7;have f5:=h.box.frozen;have D:=h.box.lt;have r:Ya _ _ (JU _ _ _ _ _ _ _ _ _) _:=f▸(h.box.setkM 5 _).setkM 6 _;have d:∀k,k≠mb->a.heap[k]?=w.heap[k]?:=λk i=>by rw[f,Go.Deep.blk_setCell_other _ _ _ _ i,Go.Deep.blk_setCell_other _ _ _ _ i]
 have s:=λT=>tt ((d x l).trans m.heap) T;rw[f]at s;have o:Hid<|Un (setBlock a x<|.map #[] clock) base mb c0 c1 c2 c3 al t2 (.map<|some x) gr sa 0 sc []/\XI (setBlock a x<|.map #[] clock) x [] #[] clock/\((setBlock a x<|.map #[] clock).os=w.os/\(setBlock a x<|.map #[] clock).tape=w.tape/\(setBlock a x<|.map #[] clock).output=w.output/\w.heap.size<=(setBlock a x<|.map #[] clock).heap.size/\∀k,k≠mb->k≠x->(setBlock a x<|.map #[] clock).heap[k]?=w.heap[k]?):=by
  have t:x<a.heap.size:=by
   have:=(d x l).trans m.heap;exact(Xr.1 this).1
  have j:w.grownBy _ _:=f▸Zn (Zn (Z2 w<|some mb) (Or.inl C) _) (Or.inl C) _;refine⟨⟨(Fa x _ λe=>l e.symm).trans r,?_,C⟩,⟨by simp[setBlock,t],⟨Sm,Sm,Sm⟩,C,λg p=>(by cases p)⟩,j.os,j.tape,j.output,?_,λk n c=>(Fa x k c).trans<|d k n⟩
  .have q:=kH h.own;refine ZJ q λk i=>?_;have v:k≠mb:=by
    rintro rfl;exact ZD q h.box N i.symm
   have z:k≠x:=by
    rintro rfl;rcases q.2 with⟨c,_⟩|⟨g,cap,cur,B,_,p,_⟩
    .rw[c]at i;cases i
    .rw[B]at i;have A:some g=some k:=i;cases A;have c:=m.heap.symm.trans p;injection c with c;cases c
   exact(Fa x k z).trans<|d k v
  .have:(setBlock a x<|.map #[] clock).heap.size=a.heap.size:=by simp[setBlock]
   rw[this];exact j.size
 rw[f]at o;go_enter func47,ntmps47;go_wp2;exact RW (Tq C _ _ _) C ⟨C,I o.1,I o.2.1,I o.2.2⟩
theorem lS{w:World}{base mb:Nat}{c0 c1 c2 c3 al:Value}{tm:Int}{sl gr:Value}{sa:Option Addr}{n sc:Nat}{vs:List Value}{va:Option Addr}{vn vc:Nat}(h:Un w base mb c0 c1 c2 c3 al tm sl gr sa (n+1) sc<|vs++[.iface 221<|.slice va vn vc])(o:n<=64):
 CP 50 #[Vp mb] w λe u=>e=.returned (.bool<|decide<|0<(vn:Int))/\Hid (BW w u):=by
 have c:vs.length=n:=by have:=h.len;rw[Yv]at this;simpa using this
 obtain⟨g,cp,d⟩:=Zm h.own X;injection d with hv1 hv2 hv3;subst hv1 hv3;have m6:w.cell? _=some _:=h.box.cell 6;have k0:=Zc h.own n (.iface 221<|.slice va vn vc)<|by rw[SJ X,c];simp
 have i:=h.box.lt;have j:=ZN h.own;have k:IntKind.i64.wrap (n)=(n):=by rw[Us];omega
 have l:(n:Int)<(n)+1:=X;have m:∀W:World,(Instr.typeAssert (.iface 221<|.slice va vn vc) 134 221 true).run prog W=.ok (.tuple #[.slice va vn vc,.bool true]) W:=λW=>by kernel_rfl
 go_enter func50,ntmps50;go_upto_region 1 with fail;refine ZW 17 (λu=>u.cell? _=some _/\u.cell? _=some _) Kr (⟨m6,k0⟩) λa=>?_;refine Za 0 a (h:=Za 1 a (h:=Za 2 a (h:=Za 3 a (h:=Za 4 a (h:=Za 5 a (h:=Za 6 a (h:=Za 7 a (h:=Za 8 a (h:=Za 9 a (h:=Za 10 a (h:=Za 11 a (h:=Za 12 a (h:=Za 13 a (h:=Za 14 a (h:=Za 15 a (h:=Za 16 a (h:=?_)))))))))))))))));refine ZS Kr Kr C Kr λK f=>?_;go_simp;refine f _ _ ?_;go_wp2;go_ret;exact⟨C,I Yh⟩
theorem Cq(most:Nat)(l:LB):-1<=YL most l/\YL most l<=most:=by
 cases h:ZC most l with
 |none=>rw[P1 h];omega
 |some v=>rw[RB h];have:=Mw h;omega
def ZQ:List (Int×Int)->List Value
 |[]=>[]
 |x::l=>.int .i64 x.1::.int .i64 x.2::ZQ l
theorem H4(l m:List<|Int×Int):ZQ (l++m)=ZQ l++ZQ m:=by
 induction l with
 |nil=>rfl
 |cons a l ih=>simp[ZQ,ih]
theorem Lt (l:List<|Int×Int)(j:Nat):(ZQ l)[j*2]?=l[j]?.map (λx=>E x.1)/\(ZQ l)[j*2+1]?=l[j]?.map λx=>E x.2:=by
 induction l generalizing j with
 |nil=>simp[ZQ]
 |cons r l ih=>
  cases j with
  |zero=>simp[ZQ]
  |succ j=>
   obtain⟨a,c⟩:=ih j;refine⟨?_,?_⟩
   .rw[show(j+1)*2=j*2+1+1 by omega];assumption
   .rw[show(j+1)*2+1=j*2+1+1+1 by omega];assumption
def Vc(x:Int×Int):Prop:=-1000000<=x.1/\x.1<=1000000/\-1000000000<=x.2/\x.2<=1000000000
def Ra(d:LB):Int:=match Z6 45 d with
 |(d',less)=>if less then-(YL 1000000000 d')else YL 1000000000 d'
def UJ(x:LB):Int×Int:=match cut 58 x with
 |none=>(0,0)
 |some (a,d)=>(YL 1000000 a,Ra d)
def Qd:LB->List (Int×Int)
 |[]=>[]
 |_::t=>(split 32 t).map UJ
theorem ej{x a d d':LB}{less:Bool}{t v:Int}(e:cut 58 x=some (a,d))(c:Z6 45 d=(d',less))(f:YL 1000000 a=t)(g:YL 1000000000 d'=v):UJ x=(t,if less then-v else v):=by
 unfold UJ Ra;rw[e];simp only[c,f,g]
theorem ek(x:LB):Vc<|UJ x:=by
 unfold UJ;split
 .unfold Vc;decide
 .rename_i a d _;have c:=Cq 1000000 a;unfold Ra;cases hd:Z6 45 d with
  |mk d' less=>
   have e:=Cq 1000000000 d';unfold Vc;simp_all;omega
theorem DE{l:List<|LB}{k:Nat}(a:k<l.length){x:LB}(c:x=l.getD k []){t v:Int}(d:UJ x=(t,v)):ZQ ((l.map UJ).take<|k+1)=ZQ ((l.map UJ).take k)++[E t,E v]:=by
 have e:l[k]=x:=by rw[c,Y0,List.getElem?_eq_getElem a];rfl
 rw[<-Q3,<-Q3,List.take_succ_eq_append_getElem a,Y9,H4,PE,e,d];rfl
def Uw(l:LB):List<|Int×Int:=match LS.seek 125 l with
 |some b=>Qd<|l.drop<|b+1
 |none=>[]
theorem Bm{l x r y z:LB}(a:Zx x=true)(d:cut 123 l=some (x,r))(e:cut 125 r=some (y,z)):Uw l=Qd z:=by
 obtain⟨e1,n1⟩:=Rm d;obtain⟨e2,n2⟩:=Rm e;have f:(125)∉x:=by
  intro g;unfold Zx at a;rw[Vu]at a;have:=Tt.1 a.1 _ g;exact absurd this N
 have c:l=(x++123::y)++125::z:=by rw[e1,e2];simp
 have i:LS.seek 125 l=some (x++123::y).length:=by
  rw[c];refine LN _ _ z ?_;rw[Wk,X0];rintro(h|h|h)
  .exact f h
  .simp_all
  .exact n2 h
 unfold Uw;rw[i,c];simp only;congr 1;rw[show(x++123::y)++125::z=((x++123::y)++[125])++z by simp,MS<|by simp;omega,Ts<|by simp;omega];rfl
theorem CR(a b:Int)(a1:-1000000000<=a)(a2:a<=1000000000)(b1:-1000000000<=b)(b2:b<=1000000000):(a*b).natAbs<=1000000000000000000:=by
 rw[Int.natAbs_mul];have c:a.natAbs<=1000000000:=X;have d:b.natAbs<=1000000000:=X;exact Ih c d
theorem AI(a b:Int):YI 0 a b=YZ (a+b):=by simp[YI]
theorem AJ(a b:Int):YI 1 a b=YZ (a-b):=by simp[YI]
theorem AK(a b:Int):YI 2 a b=YZ (a*b):=by simp[YI]
theorem AM(a:Int):YI 3 a 0=0:=by simp[YI]
theorem AL(a b:Int)(h:b≠0):YI 3 a b=a.tdiv b:=by simp[YI,h]
def YD(n:Int):Prop:=-1000000000<=n/\n<=1000000000
theorem CD(m:Int)(l:List Int)(x:Int):Wh m (l++[x])=if Wh m l<x then x else Wh m l:=by
 induction l generalizing m with
 |nil=>rfl
 |cons a l ih=>exact ih _
theorem CO(m:Int)(l:List Int)(x:Int):Wi m (l++[x])=if x<Wi m l then x else Wi m l:=by
 induction l generalizing m with
 |nil=>rfl
 |cons a l ih=>exact ih _
theorem Np(n:Int):YD<|YZ n:=by unfold YD YZ;split<;>(try split)<;>omega
theorem OV(op:Nat)(a b:Int)(c:YD a):YD<|YI op a b:=by
 unfold YI;split
 .exact Np _
 split
 .exact Np _
 split
 .exact Np _
 split
 .unfold YD;omega
 .unfold YD at*;have d:(a.tdiv b).natAbs<=a.natAbs:=by rw[Kv];exact MU _ _
  omega
def Pt(l s:Int):Nat->Int->List Int->Option (List Int)
 |0,_,_=>none
 |n+1,t,acc=>if t<=l then(if acc.length=50 then none else Pt l s n (t+s)<|acc++[t])else some acc
abbrev UA (f l s:Int):Prop:=f< -1000000∨1000000<f∨l< -1000000∨1000000<l∨s<1∨1000000<s∨l<f
def Tl(f l s:Int):Option<|List Int:=if UA f l s then none else Pt l s 60 f []
def SG(l s t:Int):Nat:=if t<=l then((l-t)/s).toNat+1 else 0
theorem EX(l s t:Int)(c:1<=s)(h:t<=l):SG l s t=SG l s (t+s)+1:=by
 unfold SG;rw[Ye h];by_cases a:t+s<=l
 .rw[Ye a];have e:(l-t)/s=(l-(t+s))/s+1:=by
   rw[show l-t=(l-(t+s))+1*s by omega,Int.add_mul_ediv_right _ _ X]
  have d:0<=(l-(t+s))/s:=Int.ediv_nonneg X X;rw[e];omega
 .rw[Yd a];have e:(l-t)/s=0:=Int.ediv_eq_zero_of_lt X X;rw[e];rfl
theorem AB (l s:Int)(c:1<=s):∀(n:Nat)(t:Int)(acc:List Int),acc.length+SG l s t<=50->SG l s t<n->Pt l s n t acc=some (acc++(List.range<|SG l s t).map λ(i:Nat)=>t+(i:Int)*s)
 |0,_,_,_,h=>absurd h<|Tu _
 |n+1,t,acc,d,e=>by
  rw[Pt];by_cases h:t<=l
  · have a:=EX l s t c h;rw[Ye h,Yd X,AB l s c n _ _ (by rw[Yv,PC];omega) X,a,List.range_succ_eq_map,Wb,VD,WV];congr 2;rw[Ic];congr 1
    .simp
    .refine J2 λi _=>?_;simp only[Function.comp];rw[show((Nat.succ i):Int)=(i)+1 from C,Int.add_mul];omega
  · have a:SG l s t=0:=by unfold SG;rw[Yd h]
    rw[Yd h,a];simp
theorem AA(l s:Int)(a:1<=s):∀(n:Nat)(t:Int)(acc:List Int),50<acc.length+SG l s t->acc.length<=50->50-acc.length<n->Pt l s n t acc=none
 |0,_,_,_,_,h=>absurd h<|Tu _
 |n+1,t,acc,e,f,g=>by
  rw[Pt];by_cases h:t<=l
  · have d:=EX l s t a h;rw[Ye h];by_cases c:acc.length=50
    .rw[Ye c]
    .rw[Yd c];exact AA l s a n _ _ (by rw[Yv,PC];omega) (by rw[Yv,PC];omega)<|by rw[Yv,PC];omega
  · have d:SG l s t=0:=by unfold SG;rw[Yd h]
    omega
theorem fj {f l s:Int}(h:¬UA f l s):Tl f l s=if 50<SG l s f then none else some<|(List.range<|SG l s f).map λ(i:Nat)=>f+(i:Int)*s:=by
 have a:1<=s:=by unfold UA at h;omega
 unfold Tl;rw[Yd h];split
 .rename_i c;exact AA l s a _ f _ (by simpa using c) Sm Sm
 .rename_i c;rw[AB l s a _ f _ (by simp;omega) X];rfl
theorem L2 {n:Int}{w:World}:CP 176 #[E n] w λe u=>e=.returned (E<|YZ n)/\u=w:=by
 rcases(by unfold YZ;split<;>(try split)<;>omega:(1000000000<n/\YZ n=1000000000)∨(n< -1000000000/\YZ n=-1000000000)∨(-1000000000<=n/\n<=1000000000/\YZ n=n))with⟨h,e⟩|⟨h,e⟩|⟨a,c,e⟩;all_goals
  rw[e];have d:=I e;go_enter func176,ntmps176;go_wp2;all_goals first|omega|(go_ret;exact⟨C,C⟩)|(go_ret;exact⟨TY X,C⟩)|(obtain rfl:n=-1000000000:=X;go_ret;exact⟨C,C⟩)
theorem Jm (op:Nat)(g:op<=3)(a b:Int)(d:YD a)(f:YD b)(w:World):CP 143 #[E (op+1:Nat),E a,E b] w λe u=>e=.returned (E<|YI op a b)/\u=w:=by
 obtain⟨a1,a2⟩:=d;obtain⟨b1,b2⟩:=f;rcases(X:op=0∨op=1∨op=2∨op=3)with rfl|rfl|rfl|rfl
 .rw[AI];go_enter func143,ntmps143;go_wp2_with(go_at_call 176;refine YK (L2) ?_);go_ret;exact⟨C,C⟩
 .rw[AJ];go_enter func143,ntmps143;go_wp2_with(go_at_call 176;refine YK (L2) ?_);go_ret;exact⟨C,C⟩
 · have i:(Go.IntKind.i64).wrap (a*b)=a*b:=by
     have j:=CR a b a1 a2 b1 b2;generalize a*b=ab at*;rw[Us];omega
   rw[AK];go_enter func143,ntmps143;go_wp2_with(go_at_call 176;refine YK (L2) ?_);go_ret;exact⟨C,C⟩
 · have h:(a.tdiv b).natAbs<=a.natAbs:=by rw[Kv];exact MU _ _
   have k:(Go.IntKind.i64).wrap (a.tdiv b)=a.tdiv b:=by rw[Us];omega
   by_cases c:b=0
   .subst c;rw[AM];go_enter func143,ntmps143;go_wp2;go_ret;exact⟨C,C⟩
   .rw[AL a b c];go_enter func143,ntmps143;go_wp2;go_ret;exact⟨C,C⟩
def Vd(l:List Int):List Value:=[E l.length,E l.sum,E<|Wh (l.headD 0) l,E<|Wi (l.headD 0) l,E<|l.headD 0,E<|l.getLastD 0]
def UC(l:List Int):Value:=.agg (Vd l).toArray
theorem oZ(m:Int)(l:List Int)(x:Int):Wh m (l++[x])=max (Wh m l) x:=by rw[CD];split<;>omega
theorem nk(m:Int)(l:List Int)(x:Int):Wi m (l++[x])=min (Wi m l) x:=by rw[CO];split<;>omega
theorem pD(l:List Int)(x:Int):(l++[x]).getLastD 0=x:=by simp[Kc]
theorem zp:∀l:List Int,(∀x∈l,YD x)->-1000000000*(l.length:Int)<=l.sum/\l.sum<=1000000000*(l.length:Int)
 |[],_=>by simp
 |a::l,h=>by
  have e:=zp l λx c=>h x<|Vf _ c;have d:=h a<|Re ..;unfold YD at d;rw[List.sum_cons,Y1];omega
theorem AH (l:List Int)(x:Int)(k:l.length<=10000)(c:∀y∈l,YD y)(d:YD x)(w:World):CP 140 #[UC l,E x] w λe u=>e=.returned (UC<|l++[x])/\BW w u:=by
 cases l with
 |nil=>
  unfold UC Vd;simp only[TP,List.sum_nil,Wh,Wi,List.headD_nil,List.getLastD_nil,O8,PC,List.sum_singleton,List.headD_cons,J6,Int.lt_irrefl,Q2];go_enter func140,ntmps140;go_wp2;exact YQ (v:=.agg #[E 1,E x,E x,E x,E x,E x]) (by simp[results,results140,go_sem]) C ⟨Sm,Yh⟩
 |cons a l=>
  have f:=zp _ c;have g:Hid<|UC ((a::l)++[x])=.agg #[E<|(l.length)+1+1,E<|(a::l).sum+x,E<|max (Wh a<|a::l) x,E<|min (Wi a<|a::l) x,E a,E x]:=I<|by
   unfold UC Vd;rw[oZ,nk,Ku,pD];simp
  unfold YD at d;rw[g];unfold UC Vd;rw[Y1]at*;simp only[List.headD_cons];generalize(a::l).sum=sm at*;generalize Wh a (a::l)=mx at*;generalize Wi a (a::l)=mn at*;generalize(a::l).getLastD 0=la at*;generalize l.length=ln at*;have i:((ln:Int)+1==0)=false:=by rw[YB];omega
  push_cast;have h:=I f;have j:-10000000000000<=sm/\sm<=10000000000000:=by have:=h.out;omega
  rcases(X:(mx<x/\max mx x=x)∨(x<=mx/\max mx x=mx))with⟨g1,e1⟩|⟨g1,e1⟩<;>rcases(X:(x<mn/\min mn x=x)∨(mn<=x/\min mn x=mn))with⟨g2,e2⟩|⟨g2,e2⟩
  .rw[e1,e2];go_enter func140,ntmps140;go_wp2;all_goals first|omega|exact YQ (v:=.agg #[E<|(ln:Int)+1+1,E<|sm+x,E x,E x,E a,E x]) (by simp[results,results140,go_sem]) C ⟨C,Yh⟩
  .rw[e1,e2];go_enter func140,ntmps140;go_wp2;all_goals first|omega|exact YQ (v:=.agg #[E<|(ln:Int)+1+1,E<|sm+x,E x,E mn,E a,E x]) (by simp[results,results140,go_sem]) C ⟨C,Yh⟩
  .rw[e1,e2];go_enter func140,ntmps140;go_wp2;all_goals first|omega|exact YQ (v:=.agg #[E<|(ln:Int)+1+1,E<|sm+x,E mx,E x,E a,E x]) (by simp[results,results140,go_sem]) C ⟨C,Yh⟩
  .rw[e1,e2];go_enter func140,ntmps140;go_wp2;all_goals first|omega|exact YQ (v:=.agg #[E<|(ln:Int)+1+1,E<|sm+x,E mx,E mn,E a,E x]) (by simp[results,results140,go_sem]) C ⟨C,Yh⟩
theorem Hh{n:Int}(h:YD n):YZ n=n:=by unfold YD at h;unfold YZ;split<;>(try split)<;>omega
theorem CC:∀(l:List Int)(m:Int),YD m->(∀x∈l,YD x)->YD (Wh m l)
 |[],m,h,_=>h
 |a::l,m,h,c=>by
  rw[Wh];refine CC l _ ?_ λx d=>c x<|Vf _ d;split
  .exact c a<|Re ..
  .exact h
theorem CN:∀(l:List Int)(m:Int),YD m->(∀x∈l,YD x)->YD (Wi m l)
 |[],m,h,_=>h
 |a::l,m,h,c=>by
  rw[Wi];refine CN l _ ?_ λx d=>c x<|Vf _ d;split
  .exact c a<|Re ..
  .exact h
theorem rO{l:List Int}(c:∀x∈l,YD x):YD<|l.headD 0:=by
 cases l with
 |nil=>unfold YD;decide
 |cons a l=>exact c a<|Re ..
theorem pz{l:List Int}(c:∀x∈l,YD x):YD<|l.getLastD 0:=by
 cases l with
 |nil=>unfold YD;decide
 |cons a l=>rw[J6,<-En Sm];exact c _<|List.getLast_mem _
theorem yP {op:Nat}(f:op<=4)(l:List Int)(g:l.length<=10000)(a:∀y∈l,YD y)(w:World):CP 141 #[UC l,E op] w λe u=>e=.returned (E<|YZ<|T1 op l)/\BW w u:=by
 have c:=rO a;have d:=pz a;have e1:=Hh<|CC l _ c a;have e2:=Hh<|CN l _ c a;have e3:YZ _=l.length:=Hh<|by unfold YD;omega
 unfold T1 UC Vd;unfold YD at c d;generalize Wh (l.headD 0) l=mx at*;generalize Wi (l.headD 0) l=mn at*;generalize l.headD 0=hd at*;generalize l.getLastD 0=la at*;generalize l.sum=sm at*;generalize l.length=ln at*;rcases(X:op=0∨op=1∨op=2∨op=3∨op=4)with rfl|rfl|rfl|rfl|rfl
 .simp only[VE];go_enter func141,ntmps141;go_wp2_with(go_at_call 176;refine YK (L2) ?_);go_ret;exact⟨C,Yh⟩
 .simp only[Nat.one_ne_zero,Q2,VE,e1];go_enter func141,ntmps141;go_wp2;go_ret;exact⟨C,Yh⟩
 .rw[Yd N,Yd N,Ye C,e2];go_enter func141,ntmps141;go_wp2;go_ret;exact⟨C,Yh⟩
 .rw[Yd N,Yd N,Yd N,Ye C,e3];go_enter func141,ntmps141;go_wp2;go_ret;exact⟨C,Yh⟩
 .rw[Yd N,Yd N,Yd N,Yd N];go_enter func141,ntmps141;go_wp2_with(go_at_call 176;refine YK (L2) ?_);go_ret;exact⟨C,Yh⟩
theorem Mt {a:Option Addr}{n c:Nat}{tx:BA}{w:World}:CP 94 #[.agg #[.slice a n c,.string tx]] w λe u=>e=.returned (.string tx)/\∃o,u=w.alloc o:=by
 go_enter func94,ntmps94;go_wp2;go_ret;exact⟨C,_,C⟩
def Wx(x y:LB):Int:=if Op.bytesLess x y then-1 else if Op.bytesLess y x then 1 else 0
theorem KQ {s:BA}{w:World}:CP 208 #[.string s] w λe u=>e=.returned (.bool false)/\u=w:=by
 go_enter func208,ntmps208;go_wp2;go_ret;exact⟨Sm,C⟩
theorem CT {s:BA}{w:World}:CP 212 #[.string s] w λe u=>e=.returned (.bool false)/\u=w:=by
 go_enter func212,ntmps212;go_wp2;go_ret;exact⟨Sm,C⟩
theorem EV {a b:BA}{w:World}:CP 179 #[.string a,.string b] w λe u=>e=.returned (E<|Wx (bl a)<|bl b)/\u=w:=by
 obtain⟨r,c⟩:∃r,r=Wx (bl a) (bl b):=⟨_,C⟩;rw[<-c];unfold Wx at c;rw[<-ZA,<-ZA]at c;obtain⟨p,g⟩:∃p,Op.bytesLess a.toList b.toList=p:=⟨_,C⟩;obtain⟨q,d⟩:∃q,Op.bytesLess b.toList a.toList=q:=⟨_,C⟩;rw[g,d]at c;have f:=I c;clear c;cases p
 · cases q
   · obtain rfl:r=0:=f.out;have h:(a.toList==b.toList)=true:=by rw[XL];exact Pe _ _ g d
     go_enter func179,ntmps179;go_wp2_with(go_at_call 208;refine YK (KQ) ?_);go_ret;exact⟨C,C⟩
   · obtain rfl:r=1:=f.out;have h:(a.toList==b.toList)=false:=by rw[YB];intro e;rw[e,R6]at d;cases d
     go_enter func179,ntmps179;go_wp2_with(go_at_call 208;refine YK (KQ) ?_);go_ret;exact⟨C,C⟩
 .obtain rfl:r=-1:=f.out;go_enter func179,ntmps179;go_wp2_with(go_at_call 208;refine YK (KQ) ?_);go_ret;exact⟨C,C⟩
theorem pJ (a b:BA)(w:World):CP 211 #[.string a,.string b] w λe u=>e=.returned (.bool<|Op.bytesLess (bl a)<|bl b)/\u=w:=by
 rw[<-ZA,<-ZA];generalize c:Op.bytesLess a.toList b.toList=p;go_enter func211,ntmps211;go_wp2_with(go_at_call 208;refine YK (KQ) ?_);go_ret;exact⟨by first|rfl|simp[c],C⟩
theorem vL{s:BA}{a:Array UInt8}(h:bl s=a.toList):s=⟨a⟩:=by
 cases s with
 |mk d=>unfold bl at h;simp at h;rw[h]
theorem PK.zero{w:World}{p:PV}{ns:List<|LB}(h:PK w 0 p ns):∃bs:List BA,p.bn=bs.length/\w.ownsRow 0 9 1 (.slice p.ba bs.length p.bc) bs.length (bs.map .string)/\bs.map bl=ns:=by
 obtain⟨bs,c,d⟩:=h;obtain⟨av,cp,a⟩:=Zd c;injection a with _ a _;exact⟨bs,a,by rw[<-a];rw[<-a]at c;exact c,d⟩
theorem oR(A:Nat->Addr)(m:Int)(w:World)(a:YC w A m){fa:Nat}(c:w.cell? ⟨fa,2,none⟩=some (.iface 469<|.pointer<|some<|A 4)):
 CP 12 #[.iface 92<|Vp fa] w λe u=>e=.returned (E 5)/\u=w:=by
 have v:=a.all;go_enter func12,ntmps12;iterate 4 (go_wp2_with fail;refine YK (Lw a c) ?_)
 go_wp2_with fail;refine YK (M9 c) ?_;go_wp2;go_ret;exact⟨C,C⟩
theorem oU(A:Nat->Addr)(m:Int)(w:World)(a:YC w A m){fa:Nat}(c:w.cell? ⟨fa,2,none⟩=some (.iface 469<|.pointer<|some<|A 5)):
 CP 12 #[.iface 92<|Vp fa] w λe u=>e=.returned (E 6)/\u=w:=by
 have v:=a.all;go_enter func12,ntmps12;iterate 5 (go_wp2_with fail;refine YK (Lw a c) ?_)
 go_wp2_with fail;refine YK (M9 c) ?_;go_wp2;go_ret;exact⟨C,C⟩
theorem oN(A:Nat->Addr)(m:Int)(w:World)(a:YC w A m):
 CP 12 #[.iface 469<|.pointer<|some<|A 6] w λe u=>e=.returned (E 7)/\u=w:=by
 have v:=a.all;go_enter func12,ntmps12;iterate 6 (go_wp2_with fail;refine YK (JH a) ?_)
 go_wp2_with fail;refine YK (M8) ?_;go_wp2;go_ret;exact⟨C,C⟩
theorem oT(A:Nat->Addr)(m:Int)(w:World)(a:YC w A m):
 CP 12 #[.iface 469<|.pointer<|some<|A 7] w λe u=>e=.returned (E 8)/\u=w:=by
 have v:=a.all;go_enter func12,ntmps12;iterate 7 (go_wp2_with fail;refine YK (JH a) ?_)
 go_wp2_with fail;refine YK (M8) ?_;go_wp2;go_ret;exact⟨C,C⟩
end Go.Proofs.YtmfnolgpaoldpaaGreatDoor
namespace Go.Proofs.YtmfnolgpaoldpaaGreatDoor.LS
open Go Go.RowKit
abbrev Cl:=VV⊕(Nd×Nat)
def Sk:Cl->Nat
 |.inl<|.inl _=>1
 |.inl<|.inr _=>2
 |.inr (_,_)=>3
def Md:Cl->VV
 |.inl v=>v
 |.inr (_,_)=>.inr []
structure MQ where
 jy:List Cl
 jx:List<|Option Cl
def UW:MQ:=⟨[],List.replicate 16 none⟩
def VN:Nd×Nat:=(⟨0,0,0,[],[],[]⟩,0)
def SD(st:List YY)(t:Int)(x:Nd×Nat):Cl:=if 0<x.2 then .inr (x.1,x.2)else .inl<|.inr<|Uk st x.1 none 10 t
def XG(st:List YY)(t:Int)(c:Yb)(x:Nat×Nat)(m:MQ):MQ:=match x.1 with
 |0=>⟨.inl (.inl<|c.jq.getD x.2 0)::m.jy,m.jx⟩
 |1=>⟨SD st t (c.jw.getD x.2 VN)::m.jy,m.jx⟩
 |2=>match m.jy with
  |.inr (a,n)::r=>⟨.inl (.inr<|Uk st a (some x.2) n t)::r,m.jx⟩
  |_=>m
 |3=>match m.jy with
  |y::z::r=>⟨.inl (QK x.2 (Md z)<|Md y)::r,m.jx⟩
  |_=>m
 |4=>match m.jy with
  |y::r=>⟨.inl (TI<|Md y)::r,m.jx⟩
  |_=>m
 |9=>m
 |10=>m
 |11=>⟨m.jy.tail,m.jx⟩
 |12=>match m.jy with
  |y::r=>⟨r,m.jx.set x.2<|some y⟩
  |_=>m
 |13=>match m.jx.getD x.2 none with
  |some y=>⟨y::m.jy,m.jx⟩
  |none=>m
 |_=>match m.jy with
  |y::r=>⟨.inl (.inr<|SB (x.1-5) (c.jv.getD x.2 [])<|Hq<|Md y)::r,m.jx⟩
  |_=>m
def Mc(m:MQ):Bool:=match m.jy with
 |y::_=>!(Hq<|Md y).isEmpty
 |[]=>false
def UH(i:Nat)(x:Nat×Nat)(m:MQ):Nat:=if x.1=9 then x.2 else if x.1=10/\Mc m=true then x.2 else i+1
def Xf(st:List YY)(t:Int)(c:Yb):Nat->Nat->MQ->Option (Nat×MQ)
 |f,i,m=>if c.jz.length<=i then some (f,m)else match f with
  |0=>none
  |f+1=>Xf st t c f (UH i (c.jz.getD i (0,0)) m)<|XG st t c (c.jz.getD i (0,0)) m
def TL(m:MQ):VV:=match m.jy with
 |y::_=>Md y
 |[]=>.inr []
structure Y8 (b:Ah)(st sl:List Nat):Prop where
 kj:b.kj=true
 jy:b.kw=false->b.jy=st
 jx:∀j,b.jx.getD j 0≠0->sl.getD j 0=b.jx.getD j 0
theorem Gv:∀(x y:List Nat)(j:Nat),(Xx x y).getD j 0≠0->x.getD j 0=(Xx x y).getD j 0/\y.getD j 0=(Xx x y).getD j 0
 |[],_,j,h=>by simp[Xx]at h
 |_::_,[],j,h=>by simp[Xx]at h
 |a::x,b::y,0,h=>by
  have e:(Xx (a::x)<|b::y).getD 0 0=if a=b then a else 0:=C;simp_all
 |a::x,b::y,j+1,h=>Gv x y j h
theorem CL{a:Ah}{st sl:List Nat}:Y8 (ZZ a st sl) st sl:=by
 unfold ZZ;by_cases c:a.kj
 .rw[Ye c];refine⟨C,λh=>?_,λj h=>(Gv _ _ j h).2⟩;simp_all
 constructor<;>simp_all
theorem Y8.meet{b:Ah}{st sl:List Nat}(h:Y8 b st sl)(st2 sl2:List Nat):Y8 (ZZ b st2 sl2) st sl:=by
 unfold ZZ;rw[Ye h.kj];refine⟨C,λc=>?_,λj d=>?_⟩
 .have a:(b.kw||decide _)=false:=c;rw[Bool.or_eq_false_iff]at a;exact h.jy a.1
 .have c:=(Gv _ _ j d).1;have a:=h.jx j<|by simp_all
  simp_all
theorem M4(l:List Ah)(i s:Nat)(a:Ah):(l.set i a).getD s Ys=if i=s/\s<l.length then a else l.getD s Ys:=by
 rw[Y0,Se];by_cases h:i=s
 .subst h;by_cases c:i<l.length
  .simp[c]
  .simp[c,Y0]
 simp_all
theorem Y8.set{l:List Ah}{s:Nat}{st sl:List Nat}(h:Y8 (l.getD s Ys) st sl)(i:Nat)(st2 sl2:List Nat):Y8 ((l.set i<|ZZ (l.getD i Ys) st2 sl2).getD s Ys) st sl:=by
 rw[M4];split
 .rename_i a;rw[a.1];exact h.meet _ _
 omega
theorem Y8.goOn{l:List Ah}{s:Nat}{st sl:List Nat}(h:Y8 (l.getD s Ys) st sl)(x:Nat×Nat)(i:Nat)(st2 sl2:List Nat):Y8 ((goOn x i st2 sl2 l).getD s Ys) st sl:=by
 unfold LS.goOn;simp only;split
 .split
  .exact h.set _ _ _
  omega
 .split
  .exact(h.set _ _ _).set _ _ _
  .exact h.set _ _ _
theorem qp(x:Nat×Nat)(i:Nat)(st sl:List Nat)(l:List Ah):(goOn x i st sl l).length=l.length:=by
 unfold goOn;simp only;split<;>split<;>simp
theorem qt{x:Nat×Nat}{i:Nat}{st sl:List Nat}{l:List Ah}(a:x.1≠9)(c:i+1<l.length):Y8 ((goOn x i st sl l).getD (i+1) Ys) st sl:=by
 unfold goOn;simp only;rw[Yd a,M4,Ye ⟨C,by split<;>simp_all⟩];exact CL
theorem qo{x:Nat×Nat}{i:Nat}{st sl:List Nat}{l:List Ah}(c:TC x.1=true)(d:x.2<l.length):Y8 ((goOn x i st sl l).getD x.2 Ys) st sl:=by
 unfold goOn;simp only;rw[c];have a:Y8 ((l.set x.2<|ZZ (l.getD x.2 Ys) st sl).getD x.2 Ys) st sl:=by
  rw[M4,Ye ⟨C,d⟩];exact CL
 split
 .exact a
 .exact a.set _ _ _
def JW(c:Yb):Prop:=∀i,i<c.jz.length->Zy c i (c.jz.getD i (0,0))=true
theorem Je{c:Yb}{i:Nat}{x:Nat×Nat}(h:Zy c i x=true)(a:TC x.1=true):i<x.2/\x.2<=c.jz.length:=by
 obtain⟨op,arg⟩:=x;have d:op=9∨op=10:=by unfold TC at a;simpa using a
 rcases d with rfl|rfl<;>simpa [Zy]using h
theorem qw{c:Yb}{x:Nat×Nat}{i s:Nat}{st sl:List Nat}{l:List Ah}(e:Zy c i x=true)(f:s<=i):(goOn x i st sl l).getD s Ys=l.getD s Ys:=by
 unfold goOn;simp only;have a:(if TC x.1=true then l.set x.2 (ZZ (l.getD x.2 Ys) st sl)else l).getD s Ys=l.getD s Ys:=by
  by_cases d:TC x.1=true
  .rw[Ye d,M4,Yd λh=>by have:=(Je e d).1;omega]
  .simp_all
 split
 .exact a
 .rw[M4,Yd λh=>X];exact a
theorem Ab{c:Yb}:∀{k:Nat}{l:List Ah}{m:Nat},Z3 c k=.ok (l,m)->l.length=c.jz.length+1
 |0,l,m,h=>by injection h with h;injection h with h1 h2;subst h1;simp[Po]
 |k+1,l,m,h=>by
  unfold Z3 at h;cases a:Z3 c k with
  |error e=>simp_all
  |ok x=>
   rw[a]at h;simp only at h;have d:=Ab a;unfold SC at h;simp only at h;split at h
   · split at h
     .cases h
     · split at h
       .cases h
       .injection h with h;injection h with h1 h2;subst h1;rw[qp,d]
   simp_all
theorem Jx{c:Yb}{k:Nat}{l':List Ah}{m':Nat}(h:Z3 c (k+1)=.ok (l',m')):∃l m,Z3 c k=.ok (l,m)/\(((l.getD k Ys).kj=false/\l'=l)∨((l.getD k Ys).kj=true/\(l.getD k Ys).kw=false/\∃st sl,Zr c (c.jz.getD k (0,0)) (l.getD k Ys).jy (l.getD k Ys).jx=some (st,sl)/\l'=goOn (c.jz.getD k (0,0)) k st sl l)):=by
 unfold Z3 at h;cases a:Z3 c k with
 |error e=>simp_all
 |ok x=>
  rw[a]at h;simp only at h;refine⟨x.1,x.2,C,?_⟩;unfold SC at h;simp only at h;split at h
  .rename_i d;split at h
   .cases h
   .rename_i g;split at h
    .cases h
    .rename_i s f;injection h with h;injection h with h1 h2;exact .inr ⟨d,by simp_all,s.1,s.2,f,h1.symm⟩
  simp_all
theorem GR{c:Yb}{st sl:List Nat}{s:Nat}{k:Nat}{l:List Ah}{m:Nat}(a:Z3 c k=.ok (l,m))(e:Y8 (l.getD s Ys) st sl):∀(d:Nat){l':List Ah}{m':Nat},Z3 c (k+d)=.ok (l',m')->Y8 (l'.getD s Ys) st sl
 |0,l',m',h=>by
  simp_all
 |d+1,l',m',h=>by
  obtain⟨l1,m1,f,g⟩:=Jx (k:=k+d) h;have ih:=GR a e d f;rcases g with⟨_,rfl⟩|⟨_,_,st2,sl2,_,rfl⟩
  .exact ih
  .exact ih.goOn _ _ _ _
theorem GS{c:Yb}(a:JW c){s k:Nat}{l:List Ah}{m:Nat}(e:s<=k)(f:Z3 c k=.ok (l,m)):∀(d:Nat){l':List Ah}{m':Nat},k+d<=c.jz.length->Z3 c (k+d)=.ok (l',m')->l'.getD s Ys=l.getD s Ys
 |0,l',m',_,h=>by
  simp_all
 |d+1,l',m',hd,h=>by
  obtain⟨l1,m1,g,i⟩:=Jx (k:=k+d) h;have ih:=GS a e f d X g;rcases i with⟨_,rfl⟩|⟨_,_,st2,sl2,_,rfl⟩
  .exact ih
  .rw[qw (a _ X) X];exact ih
theorem Ac{c:Yb}:∀(d:Nat){k:Nat}{l':List Ah}{m':Nat},Z3 c (k+d)=.ok (l',m')->∃l m,Z3 c k=.ok (l,m)
 |0,k,l',m',h=>⟨l',m',h⟩
 |d+1,k,l',m',h=>by
  obtain⟨l1,m1,a,_⟩:=Jx (k:=k+d) h;exact Ac d a
structure VC (c:Yb)(L:List Ah):Prop where
 fwd:JW c
 first:L.getD 0 Ys=⟨true,false,[],List.replicate 16 0⟩
 step:∀i,i<c.jz.length->(L.getD i Ys).kj=true->(L.getD i Ys).kw=false/\∃st sl,Zr c (c.jz.getD i (0,0)) (L.getD i Ys).jy (L.getD i Ys).jx=some (st,sl)/\((c.jz.getD i (0,0)).1≠9->Y8 (L.getD (i+1) Ys) st sl)/\(TC (c.jz.getD i (0,0)).1=true->Y8 (L.getD (c.jz.getD i (0,0)).2 Ys) st sl)
 last:(L.getD c.jz.length Ys).kw=false/\((L.getD c.jz.length Ys).jy=[1]∨(L.getD c.jz.length Ys).jy=[2])
theorem BI{c:Yb}:∀{n:Nat},Vj c n=.ok ()->∀i,i<n->Zy c i (c.jz.getD i (0,0))=true
 |0,_,i,a=>absurd a<|Tu _
 |n+1,h,i,a=>by
  unfold Vj at h;cases d:Vj c n with
  |error e=>simp_all
  |ok u=>
   rw[d]at h;simp only at h;by_cases e:i=n
   .simp_all
   .exact BI d i X
theorem yj{c:Yb}{x:Nat×Nat}(h:Vl c=.ok x):∃L,VC c L:=by
 unfold Vl at h;cases j:Vj c c.jz.length with
 |error e=>rw[j]at h;cases h
 |ok u=>
  rw[j]at h;simp only at h;have f:JW c:=BI j;cases a:Tv c with
  |error e=>rw[a]at h;cases h
  |ok m=>
   unfold Tv at a;cases l:Z3 c c.jz.length with
   |error e=>rw[l]at a;cases a
   |ok y=>
    rw[l]at a;simp only at a;obtain⟨L,mo⟩:=y;simp only at a;have d:Ro (L.getD c.jz.length Ys)=true:=by
     cases r:Ro (L.getD c.jz.length Ys)with
     |true=>rfl
     |false=>rw[r]at a;cases a
    unfold Ro at d;rw[Vu]at d;refine⟨L,f,?_,λi t n=>?_,by simpa using d.1,?_⟩
    .have:=GS f (s:=0) (Yj _) C c.jz.length X<|by rwa [SK]
     rw[this];rfl
    .obtain⟨l1,m1,k⟩:=Ac _<|by rwa [show i+1+(c.jz.length-(i+1))=c.jz.length by omega]
     obtain⟨l0,m0,o,g⟩:=Jx k;have e0:=GS f (Yj i) o (c.jz.length-i) X<|by rwa [show i+(c.jz.length-i)=c.jz.length by omega]
     rw[e0]at n⊢;rcases g with⟨p,_⟩|⟨_,v,st,sl,w,rfl⟩
     .rw[n]at p;cases p
     .have A:=Ab o;refine⟨v,st,sl,w,λz=>?_,λq=>?_⟩
      .exact GR k (qt z X) _<|by rwa [show i+1+(c.jz.length-(i+1))=c.jz.length by omega]
      .exact GR k (qo q<|by have:=(Je (f i t) q).2;omega) _<|by rwa [show i+1+(c.jz.length-(i+1))=c.jz.length by omega]
    .simpa using d.2
def Py(n:Nat):Cl->Prop
 |.inl v=>WG n v
 |.inr (_,_)=>True
structure YV (n:Nat)(st sl:List Nat)(m:MQ):Prop where
 jy:m.jy.map Sk=st
 len:m.jx.length=16
 jx:∀j,sl.getD j 0≠0->∃y,m.jx.getD j none=some y/\Sk y=sl.getD j 0
 ok:∀y∈m.jy,Py n y
 okS:∀j y,m.jx.getD j none=some y->Py n y
theorem xg(n:Nat):YV n [] (List.replicate 16 0) UW:=by
 refine⟨C,C,λj h=>?_,(λy a=>(by cases a)),λj y a=>?_⟩
 .exfalso;apply h;rw[Y0,O3];split<;>rfl
 .exfalso;have d:(List.replicate 16 (none:Option Cl)).getD j none=none:=by rw[Y0,O3];split<;>rfl
  have c:=a;unfold UW at c;simp_all
theorem YV.met{n:Nat}{st sl:List Nat}{m:MQ}{b:Ah}(h:YV n st sl m)(a:Y8 b st sl)(c:b.kw=false):YV n b.jy b.jx m:=
 ⟨by rw[a.jy c];exact h.jy,h.len,λj d=>by
  have e:=a.jx j d;obtain⟨y,f,g⟩:=h.jx j X;simp_all,h.ok,h.okS⟩
theorem YV.push{n:Nat}{r sl st' sl':List Nat}{rs:List Cl}{ss:List<|Option Cl}{y:Cl}{k:Nat}(h:YV n r sl ⟨rs,ss⟩)(d:Sk y=k)(e:Py n y)(a:Z4 k r sl=some (st',sl')):YV n st' sl' ⟨y::rs,ss⟩:=by
 unfold Z4 at a;split at a
 .cases a
 .injection a with a;injection a with e1 e2;subst e1 e2;refine⟨?_,h.len,h.jx,λz c=>?_,h.okS⟩
  .show Sk y::rs.map Sk=k::r;rw[d,h.jy]
  .rcases X0.1 c with rfl|c
   .exact e
   .exact h.ok z c
theorem YV.pop{n k:Nat}{r sl:List Nat}{m:MQ}(h:YV n (k::r) sl m):∃y rs,m.jy=y::rs/\Sk y=k/\Py n y/\YV n r sl ⟨rs,m.jx⟩:=by
 have a:=h.jy;cases d:m.jy with
 |nil=>simp_all
 |cons y rs=>
  rw[d]at a;have c:Sk y::rs.map _=k::r:=a;injection c with h1 h2;exact⟨y,rs,C,h1,h.ok y<|by simp_all,⟨h2,h.len,h.jx,λz e=>h.ok z<|by simp_all,h.okS⟩⟩
theorem Lb{y:Cl}(h:Sk y=2):∃l,y=.inl (.inr l):=by
 rcases y with(a|l)|⟨a,n⟩
 .cases h
 .simp
 .cases h
theorem Ff{y:Cl}(h:Sk y=3):∃a n,y=.inr (a,n):=by
 rcases y with(a|l)|⟨a,n⟩
 .cases h
 .cases h
 simp
theorem Pp{y:Cl}(h:ZO (Sk y)=true):∃v,y=.inl v:=by
 rcases y with v|⟨a,n⟩
 .simp
 .cases h
theorem oK{op:Nat}{a b:VV}:Sk (.inl<|QK op a b)=max (Sk<|.inl a) (Sk<|.inl b):=by
 cases a<;>cases b<;>rfl
theorem oL{a:VV}:Sk (.inl<|TI a)=Sk (.inl a):=by cases a<;>rfl
theorem YV.same{n:Nat}{st sl:List Nat}{m:MQ}(h:YV n st sl m){r:List Nat}{k:Nat}{st' sl':List Nat}(c:st=k::r)(a:Z4 k r sl=some (st',sl')):YV n st' sl' m:=by
 unfold Z4 at a;simp_all
theorem YV.step{ser:List YY}{c:Yb}{i op arg:Nat}{st sl st' sl':List Nat}{m:MQ}(h:YV ser.length st sl m)(hd:Sx ser)(t:Int)(O:op<=13)(F:Zy c i (op,arg)=true)(d:Zr c (op,arg) st sl=some (st',sl')):YV ser.length st' sl'<|XG ser t c (op,arg) m:=by
 rcases(X:op=0∨op=1∨op=2∨op=3∨op=4∨op=9∨op=10∨op=11∨op=12∨op=13∨(op=5∨op=6∨op=7∨op=8))with rfl|rfl|rfl|rfl|rfl|rfl|rfl|rfl|rfl|rfl|B
 .exact YV.push (rs:=m.jy) (ss:=m.jx) h C trivial d
 .have G:arg<c.jw.length:=by simpa [Zy]using F
  have e1:c.jw[arg]?=some c.jw[arg]:=List.getElem?_eq_getElem G;have e2:c.jw.getD arg VN=c.jw[arg]:=by rw[Y0,e1];rfl
  have u:Z4 ((c.jw[arg]?.map VF).getD 0) st sl=some (st',sl'):=d;rw[e1]at u;show YV ser.length st' sl' ⟨SD ser t (c.jw.getD arg VN)::m.jy,m.jx⟩;rw[e2];refine YV.push (rs:=m.jy) (ss:=m.jx) h ?_ ?_ u
  .show Sk (SD ser t c.jw[arg])=VF c.jw[arg];unfold SD VF;split<;>rfl
  .unfold SD;split
   .trivial
   .exact Av hd
 .cases st with
  |nil=>cases d
  |cons k r=>
   simp only[Zr]at d;split at d
   .rename_i p;subst p;obtain⟨y,rs,q,f,g,o⟩:=h.pop;obtain⟨a,n,rfl⟩:=Ff f;simp only[XG,q];exact YV.push o C (Av hd) d
   simp_all
 .cases st with
  |nil=>cases d
  |cons ky r=>
   cases r with
   |nil=>cases d
   |cons kz r=>
    simp only[Zr]at d;split at d
    .rename_i p;rw[Vu]at p;obtain⟨y,rs,q,f,g,o⟩:=h.pop;obtain⟨z,qs,w,A,H,J⟩:=o.pop;have w:rs=z::qs:=w;subst w;obtain⟨vy,rfl⟩:=Pp<|by rw[f];exact p.2
     obtain⟨vz,rfl⟩:=Pp<|by rw[A];exact p.1
     simp only[XG,q];refine YV.push J ?_ (vh H g) d;rw[<-f,<-A];exact oK
    simp_all
 .cases st with
  |nil=>cases d
  |cons ky r=>
   simp only[Zr]at d;split at d
   .rename_i p;obtain⟨y,rs,q,f,g,o⟩:=h.pop;obtain⟨vy,rfl⟩:=Pp<|by rw[f];exact p
    simp only[XG,q];refine YV.push o ?_ (nK g) d;rw[<-f];exact oL
   simp_all
 .injection d with d;injection d with e1 e2;subst e1 e2;exact h
 .cases st with
  |nil=>cases d
  |cons k r=>
   simp only[Zr]at d;split at d
   .rename_i p;subst p;exact h.same C d
   simp_all
 .cases st with
  |nil=>cases d
  |cons k r=>
   injection d with d;injection d with e1 e2;subst e1 e2;obtain⟨y,rs,q,f,g,o⟩:=h.pop;simp only[XG,q];exact o
 .cases st with
  |nil=>cases d
  |cons k r=>
   injection d with d;injection d with e1 e2;subst e1 e2;obtain⟨y,rs,q,f,g,o⟩:=h.pop;have G:arg<16:=by simpa [Zy]using F
   simp only[XG,q];have P:m.jx.length=16:=h.len;have gs:∀j,(m.jx.set arg<|some y).getD j none=if arg=j then some y else m.jx.getD j none:=λj=>by
    split<;>simp_all
   refine⟨o.jy,by simp_all,λj K=>?_,o.ok,λj z A=>?_⟩
   .show∃z,(m.jx.set arg<|some y).getD j none=some z/\_;rw[gs];have e2:(sl.set arg k).getD j 0=if arg=j/\j<sl.length then k else sl.getD j 0:=by
     rw[Y0,Se,Y0];by_cases e:arg=j
     .subst e;by_cases s:arg<sl.length
      .simp[s]
      simp_all
     .simp[e]
    have s:(sl.set arg k).getD j 0≠0:=K;rw[e2]at s;show∃z,_/\Sk z=(sl.set arg k).getD j 0;rw[e2];by_cases e:arg=j
    .simp_all
    .rw[Yd e,Yd λD=>e D.1];rw[Yd λD=>e D.1]at s;exact h.jx j s
   .have x:(m.jx.set arg<|some y).getD j none=some z:=A;rw[gs]at x;by_cases e:arg=j
    .simp_all
    .rw[Yd e]at x;exact h.okS j z x
 .simp only[Zr]at d;split at d
  .cases d
  .rename_i L;obtain⟨y,f,p⟩:=h.jx arg L;simp only[XG,f];exact YV.push (rs:=m.jy) (ss:=m.jx) h p (h.okS arg y f) d
 .have key:∃r,st=2::r/\Z4 2 r sl=some (st',sl'):=by
   cases st with
  |nil=>rcases B with rfl|rfl|rfl|rfl<;>cases d
  |cons k r=>
   have u:(if k=2 then Z4 2 r sl else none)=some (st',sl'):=by rcases B with rfl|rfl|rfl|rfl<;>exact d
   simp_all
  obtain⟨r,rfl,M⟩:=key;obtain⟨y,rs,q,f,g,o⟩:=h.pop;obtain⟨l,rfl⟩:=Lb f;have e:XG ser t c (op,arg) m=⟨.inl (.inr<|SB (op-5) (c.jv.getD arg []) l)::rs,m.jx⟩:=by
   rcases B with rfl|rfl|rfl|rfl<;>(simp only[XG,q];rfl)
  rw[e];exact YV.push o C (qG<|DV (v:=.inr l) g) M
theorem VC.calm{c:Yb}{L:List Ah}(h:VC c L){s:Nat}(d:s<=c.jz.length)(a:(L.getD s Ys).kj=true):(L.getD s Ys).kw=false:=by
 by_cases e:s=c.jz.length
 .rw[e];exact h.last.1
 .exact(h.step s X a).1
theorem VC.next{c:Yb}{L:List Ah}{ser:List YY}(h:VC c L)(hd:Sx ser)(t:Int){i:Nat}{m:MQ}(k:i<c.jz.length)(e:(c.jz.getD i (0,0)).1<=13)(p:(L.getD i Ys).kj=true)(q:YV ser.length (L.getD i Ys).jy (L.getD i Ys).jx m):
 i<UH i (c.jz.getD i (0,0)) m/\UH i (c.jz.getD i (0,0)) m<=c.jz.length/\(L.getD (UH i (c.jz.getD i (0,0)) m) Ys).kj=true/\YV ser.length (L.getD (UH i (c.jz.getD i (0,0)) m) Ys).jy (L.getD (UH i (c.jz.getD i (0,0)) m) Ys).jx (XG ser t c (c.jz.getD i (0,0)) m):=by
 obtain⟨_,st,sl,r,l,u⟩:=h.step i k p;have f:=h.fwd i k;generalize c.jz.getD i (0,0)=x at*;obtain⟨op,arg⟩:=x;simp only at e l u;have n:=q.step hd t e f r;have fin:∀s,s<=c.jz.length->Y8 _ _ _->(L.getD s _).kj=true/\YV _ _ _ _:=λs o g=>⟨g.kj,n.met g<|h.calm o g.kj⟩;unfold UH;simp only;by_cases d:op=9
 .rw[Ye d];have j:TC op=true:=by rw[d];rfl
  have v:=Je f j;simp_all
 .rw[Yd d];by_cases a:op=10/\Mc m=true
  .rw[Ye a];have j:TC op=true:=by rw[a.1];rfl
   have v:=Je f j;simp_all
  .rw[Yd a];exact⟨X,X,fin _ X<|l d⟩
theorem VC.end_{c:Yb}{L:List Ah}{n:Nat}(h:VC c L){m:MQ}(d:YV n (L.getD c.jz.length Ys).jy (L.getD c.jz.length Ys).jx m):∃v,m.jy=[.inl v]/\WG n v:=by
 have key:∀k,(L.getD c.jz.length Ys).jy=[k]->k=1∨k=2->∃v,m.jy=[.inl v]/\WG n v:=λk f e=>by
  rw[f]at d;obtain⟨y,rs,g,i,j,l⟩:=d.pop;have o:rs=[]:=by
   have:=l.jy;cases rs with
   |nil=>rfl
   |cons a b=>cases this
  subst o;obtain⟨v,rfl⟩:=Pp (y:=y)<|by rw[i];rcases e with rfl|rfl<;>rfl
  exact⟨v,g,j⟩
 rcases h.last.2 with p|p
 .simp_all
 simp_all
theorem VC.start{c:Yb}{L:List Ah}(h:VC c L)(n:Nat):(L.getD 0 Ys).kj=true/\YV n (L.getD 0 Ys).jy (L.getD 0 Ys).jx UW:=by
 rw[h.first];exact⟨C,xg n⟩
end Go.Proofs.YtmfnolgpaoldpaaGreatDoor.LS
