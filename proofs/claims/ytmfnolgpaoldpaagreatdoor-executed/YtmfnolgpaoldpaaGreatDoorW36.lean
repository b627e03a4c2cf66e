/- Parts. -/
import Derived.Test.YtmfnolgpaoldpaaGreatDoorW35
import Derived.Test.YtmfnolgpaoldpaaGreatDoorW34
import Derived.Test.YtmfnolgpaoldpaaGreatDoorW27
set_option linter.all false
set_option maxRecDepth 100000
set_option maxHeartbeats 16000000
namespace Go.Proofs.YtmfnolgpaoldpaaGreatDoor
open Go.RowKit LS Go.Proofs.Tryz
variable {x:CV}{y:Cl}{t:Int}{sl xs:List CV}{l:List PV}{g:List<|Option Addr×Nat×Nat}{m:MQ}{arg cb i mb sc sn:Nat}{sa:Option Addr}{cv gv iv pv st sv:Value}{w w0 wr:World}{c:Yb}
theorem Cu(cb:Nat)(sv:Value)(t:Int)(st:Value)(sl:List CV)(i j:Nat)(a:i<sl.length)(c:j<12):(mC cb sv t st sl)[4+i*12+j]?=(sl.getD i T4).cells[j]?:=by
 unfold mC;rw[SJ<|by simp;omega];rw[show 4+i*12+j-[Value.pointer<|some ⟨cb,0,none⟩,sv,E t,st].length=i*12+j by simp;omega];exact HJ sl i j a c
theorem sO(h:Rc w0 wr c cb mb i 13 arg sv t m cv pv gv iv l g sa sn sc sl xs)(ha:arg<16)(hy:m.jx.getD arg none=some y)(a0:m.jy.length<64):
 CP 17 #[Vp mb,E i] wr λe s=>e=.returned (E (i+1:Nat))/\Hid (RI w0 s mb cb sv t ⟨y::m.jy,m.jx⟩):=by
 obtain⟨i0',L,a1,a2,a3⟩:=Xv Tryz.infoCell;obtain⟨gi,n,ic,⟨m0,c3,i0,i1,a9,mbl,cbl,gil⟩,hn⟩:=h.at;have b0:sn<64:=by have:=h.inv.num;omega
 obtain⟨x,Z⟩:∃x,sl.getD arg T4=x:=⟨_,C⟩;have F:=h.inv.slot arg y hy;rw[Z]at F;have O:Hid<|∀(r:World)(st:Value),Ya r mb (mC cb sv t st sl) 64->∀j,j<12->r.cell? ⟨mb,4+arg*12+j,none⟩=x.cells[j]?:=I λr st M j hj=>by
  rw[M.cell,Cu cb sv t st sl arg j (by rw[h.inv.ls];exact ha) hj,Z]
 have HI:=I h.inv;have P:=I F;clear h a0 Z F hy;have b1:(arg:Int)<16:=X;go_enter func17,ntmps17;go_upto_region 33 with fail;refine Zs λW hW=>?_;have H:BW wr W:=by rw[hW];exact Yc
 have J:Hid<|Ya W wr.heap.size [E 13,E arg] 110:=I<|by rw[hW];exact(show Ya _ _ _ _ from Go.Deep.blk_alloc_new wr _)
 have B:=I<|HI.below H;have a4:=I<|P.below H;clear hW H m0 c3 i0 i1 mbl cbl gil HI P;generalize wr.heap.size=ab at*;have Q:Hid<|∀r,BW W r->r.cell? ⟨mb,3,none⟩=some (.slice sa sn sc)/\r.cell? ⟨ab,1,none⟩=some (E arg)/\r.cell? ⟨mb,4+arg*12,none⟩=some (.bool x.sc)/\r.cell? ⟨mb,4+arg*12+1,none⟩=some (E x.n)/\r.cell? ⟨mb,4+arg*12+2,none⟩=some (.slice x.ea x.en x.ec)/\r.cell? ⟨mb,4+arg*12+3,none⟩=some (.bool x.rg)/\r.cell? ⟨mb,4+arg*12+4,none⟩=some (E x.p.k)/\r.cell? ⟨mb,4+arg*12+5,none⟩=some (E x.p.n)/\r.cell? ⟨mb,4+arg*12+6,none⟩=some (E x.p.op)/\r.cell? ⟨mb,4+arg*12+7,none⟩=some (.string x.p.nm)/\r.cell? ⟨mb,4+arg*12+8,none⟩=some (.slice x.p.ca x.p.cn x.p.cc)/\r.cell? ⟨mb,4+arg*12+9,none⟩=some (.slice x.p.ba x.p.bn x.p.bc)/\r.cell? ⟨mb,4+arg*12+10,none⟩=some (E x.p.a)/\r.cell? ⟨mb,4+arg*12+11,none⟩=some (E x.p.b):=I λr M=>by
  have L:=B.below M;have q:=O.out r _ L.st.box;exact⟨L.st.box.cell 3,(J.below M).cell 1,q 0 N,q 1 N,q 2 N,q 3 N,q 4 N,q 5 N,q 6 N,q 7 N,q 8 N,q 9 N,q 10 N,q 11 N⟩
 have R:Hid<|∀o,(W.drew.alloc o).ownsRow w0.heap.size 61 12 (.slice sa sn sc) sn<|Ui xs.reverse:=I λo=>B.st.own.drew.alloc o;have S:Hid<|∀o,Xd w0 (W.drew.alloc o) mb cb sv t m sa sn sc sl xs:=I λo=>B.below<|((Ym _ _).drew).alloc (Yj _) _;have a5:Hid<|∀o,XZ (W.drew.alloc o) x y:=I λo=>a4.below<|((Ym _ _).drew).alloc (Yj _) _;have a6:Hid<|∀o,Ya (W.drew.alloc o) ab [E 13,E arg] 110:=I λo=>J.below<|((Ym _ _).drew).alloc (Yj _) _;have b2:w0.heap.size<=W.heap.size:=B.bel.size;have mbW:=B.st.box.lt;have abW:=J.lt;refine ZW 16 (λs=>s.cell? ⟨mb,3,none⟩=some (.slice sa sn sc)/\s.cell? ⟨ab,1,none⟩=some (E arg)/\s.cell? ⟨mb,4+arg*12,none⟩=some (.bool x.sc)/\s.cell? ⟨mb,4+arg*12+1,none⟩=some (E x.n)/\s.cell? ⟨mb,4+arg*12+2,none⟩=some (.slice x.ea x.en x.ec)/\s.cell? ⟨mb,4+arg*12+3,none⟩=some (.bool x.rg)/\s.cell? ⟨mb,4+arg*12+4,none⟩=some (E x.p.k)/\s.cell? ⟨mb,4+arg*12+5,none⟩=some (E x.p.n)/\s.cell? ⟨mb,4+arg*12+6,none⟩=some (E x.p.op)/\s.cell? ⟨mb,4+arg*12+7,none⟩=some (.string x.p.nm)/\s.cell? ⟨mb,4+arg*12+8,none⟩=some (.slice x.p.ca x.p.cn x.p.cc)/\s.cell? ⟨mb,4+arg*12+9,none⟩=some (.slice x.p.ba x.p.bn x.p.bc)/\s.cell? ⟨mb,4+arg*12+10,none⟩=some (E x.p.a)/\s.cell? ⟨mb,4+arg*12+11,none⟩=some (E x.p.b)) Kr (by exact Q.out _<|(Ym _ _).drew) λf=>?_;refine Za 0 f (h:=Za 1 f (h:=Za 2 f (h:=Za 3 f (h:=Za 4 f (h:=Za 5 f (h:=Za 6 f (h:=Za 7 f (h:=Za 8 f (h:=Za 9 f (h:=Za 10 f (h:=Za 11 f (h:=?_))))))))))));refine Zz (i:=12) Kr C λK D=>?_;go_simp;refine D.out _ _ (Q.out _<|Yc.drew) λf=>?_;clear D K;try simp only[Act.put,Yt]
 refine Zz (i:=13) Kr C λK D=>?_;refine S3 C (.tmp 192) (.tmp 200) 52 C w0.heap.size 61 i0' _ 12 152 underlying52 L a1 a2 a3 C N (.slice sa sn sc) sn (Ui xs.reverse) (by simp[Act.eval]) (by exact R.out _) ⟨W.heap.size,0,none⟩ 1 1 [.bool x.sc,E x.n,.slice x.ea x.en x.ec,.bool x.rg,E x.p.k,E x.p.n,E x.p.op,.string x.p.nm,.slice x.p.ca x.p.cn x.p.cc,.slice x.p.ba x.p.bn x.p.bc,E x.p.a,E x.p.b] (by simp[Act.eval]) C ?h2 ?h3 ?h4 ?h5 ?h6 ?_;case h2=>exact Z1 C
 case h3=>intro u hu;simp at hu;rcases hu with rfl|rfl|rfl|rfl|rfl|rfl|rfl|rfl|rfl|rfl|rfl|rfl<;>rfl
 case h4=>unfold maxLen;omega
 case h5=>omega
 case h6=>simp;omega
 intro v1 w1 A z _;obtain⟨g1,cp1,a7⟩:=Zm A X;subst a7;obtain⟨G,T,U⟩:=(S.out _).st.app (Ym _ _) (x:=x) (by exact z) A;have V:=I G;have a8:=I<|(S.out _).pushed (a5.out _) T U;have Y:=(a6.out _).ownGrownR (R.out _) z N;have q:=O.out _ _ G;refine D.out _ _ ⟨G.cell 3,Y.cell 1,q 0 N,q 1 N,q 2 N,q 3 N,q 4 N,q 5 N,q 6 N,q 7 N,q 8 N,q 9 N,q 10 N,q 11 N⟩ λf=>?_;clear D K G T U Y A z q;try simp only[Act.put,Of]
 refine Tk (i:=14) (d:=202) (v:=?v14) C C Kr (λ_ _ _ h=>h) (Or.inl ⟨by rfl,?hy14⟩) f ?rs14;case hy14=>(intro w hSw;go_simp;try with_reducible rfl)
 case rs14=>
 refine Tk (i:=15) (d:=203) (v:=?v15) C C Kr (λ_ _ _ h=>h) (Or.inl ⟨by rfl,?hy15⟩) f ?rs15;case hy15=>(intro w hSw;go_simp;try with_reducible rfl)
 case rs15=>
 refine ZS Kr Kr C Kr λK D=>?_;have yc:w1.cell? ⟨mb,3,none⟩=some (.slice sa sn sc):=V.cell 3;have yf:=V.frozen 3;clear f;go_simp;refine D.out _ _ ?_;clear D K yc yf;go_wp2;go_ret;exact⟨by go_num,I ⟨_,_,_,_,_,a8.out⟩⟩
theorem Dw:∀(l:List CV)(i:Nat)(x:CV)(v0 v1 v2 v3 v4 v5 v6 v7 v8 v9 v10 v11:Value),x.cells=[v0,v1,v2,v3,v4,v5,v6,v7,v8,v9,v10,v11]->i<l.length->((((((((((((Ui l).set (i*12) v0).set (i*12+1) v1).set (i*12+2) v2).set (i*12+3) v3).set (i*12+4) v4).set (i*12+5) v5).set (i*12+6) v6).set (i*12+7) v7).set (i*12+8) v8).set (i*12+9) v9).set (i*12+10) v10).set (i*12+11) v11=Ui (l.set i x)
 |[],i,x,_,_,_,_,_,_,_,_,_,_,_,_,_,h=>absurd h<|Tu _
 |a::l,0,x,v0,v1,v2,v3,v4,v5,v6,v7,v8,v9,v10,v11,c,_=>by
  show(((((((((((((a.cells++Ui l)).set (0) v0).set (0+1) v1).set (0+2) v2).set (0+3) v3).set (0+4) v4).set (0+5) v5).set (0+6) v6).set (0+7) v7).set (0+8) v8).set (0+9) v9).set (0+10) v10).set (0+11) v11=x.cells++Ui l;rw[c];rfl
 |a::l,i+1,x,v0,v1,v2,v3,v4,v5,v6,v7,v8,v9,v10,v11,c,h=>by
  have ih:=Dw l i x v0 v1 v2 v3 v4 v5 v6 v7 v8 v9 v10 v11 c<|by simpa using h
  show(((((((((((((a.cells++Ui l)).set ((i+1)*12) v0).set ((i+1)*12+1) v1).set ((i+1)*12+2) v2).set ((i+1)*12+3) v3).set ((i+1)*12+4) v4).set ((i+1)*12+5) v5).set ((i+1)*12+6) v6).set ((i+1)*12+7) v7).set ((i+1)*12+8) v8).set ((i+1)*12+9) v9).set ((i+1)*12+10) v10).set ((i+1)*12+11) v11=a.cells++Ui (l.set i x);rw[Ve _ _<|by rw[Sj];omega,Ve _ _<|by rw[Sj];omega,Ve _ _<|by rw[Sj];omega,Ve _ _<|by rw[Sj];omega,Ve _ _<|by rw[Sj];omega,Ve _ _<|by rw[Sj];omega,Ve _ _<|by rw[Sj];omega,Ve _ _<|by rw[Sj];omega,Ve _ _<|by rw[Sj];omega,Ve _ _<|by rw[Sj];omega,Ve _ _<|by rw[Sj];omega,Ve _ _<|by rw[Sj];omega,Sj,
   show(i+1)*12-12=i*12 by omega,show(i+1)*12+1-12=i*12+1 by omega,show(i+1)*12+2-12=i*12+2 by omega,show(i+1)*12+3-12=i*12+3 by omega,show(i+1)*12+4-12=i*12+4 by omega,show(i+1)*12+5-12=i*12+5 by omega,show(i+1)*12+6-12=i*12+6 by omega,show(i+1)*12+7-12=i*12+7 by omega,show(i+1)*12+8-12=i*12+8 by omega,show(i+1)*12+9-12=i*12+9 by omega,show(i+1)*12+10-12=i*12+10 by omega,show(i+1)*12+11-12=i*12+11 by omega,ih]
def OP(w:World)(g o:Nat)(x:CV):World:=((((((((((((w).setCell ⟨g,o,none⟩<|.bool x.sc).setCell ⟨g,o+1,none⟩<|E x.n).setCell ⟨g,o+2,none⟩<|.slice x.ea x.en x.ec).setCell ⟨g,o+3,none⟩<|.bool x.rg).setCell ⟨g,o+4,none⟩<|E x.p.k).setCell ⟨g,o+5,none⟩<|E x.p.n).setCell ⟨g,o+6,none⟩<|E x.p.op).setCell ⟨g,o+7,none⟩<|.string x.p.nm).setCell ⟨g,o+8,none⟩<|.slice x.p.ca x.p.cn x.p.cc).setCell ⟨g,o+9,none⟩<|.slice x.p.ba x.p.bn x.p.bc).setCell ⟨g,o+10,none⟩<|E x.p.a).setCell ⟨g,o+11,none⟩<|E x.p.b
theorem my(cb:Nat)(sv:Value)(t:Int)(st:Value)(sl:List CV)(i:Nat)(x:CV)(v0 v1 v2 v3 v4 v5 v6 v7 v8 v9 v10 v11:Value)(c:x.cells=[v0,v1,v2,v3,v4,v5,v6,v7,v8,v9,v10,v11])(d:i<sl.length):((((((((((((mC cb sv t st sl).set (4+i*12) v0).set (4+i*12+1) v1).set (4+i*12+2) v2).set (4+i*12+3) v3).set (4+i*12+4) v4).set (4+i*12+5) v5).set (4+i*12+6) v6).set (4+i*12+7) v7).set (4+i*12+8) v8).set (4+i*12+9) v9).set (4+i*12+10) v10).set (4+i*12+11) v11=mC cb sv t st (sl.set i x):=by
 unfold mC;have a:[Value.pointer<|some ⟨cb,0,none⟩,sv,E t,st].length=4:=C;rw[Ve _ _<|by rw[a];omega,Ve _ _<|by rw[a];omega,Ve _ _<|by rw[a];omega,Ve _ _<|by rw[a];omega,Ve _ _<|by rw[a];omega,Ve _ _<|by rw[a];omega,Ve _ _<|by rw[a];omega,Ve _ _<|by rw[a];omega,Ve _ _<|by rw[a];omega,Ve _ _<|by rw[a];omega,Ve _ _<|by rw[a];omega,Ve _ _<|by rw[a];omega,a,
  show 4+i*12-4=i*12 by omega,show 4+i*12+1-4=i*12+1 by omega,show 4+i*12+2-4=i*12+2 by omega,show 4+i*12+3-4=i*12+3 by omega,show 4+i*12+4-4=i*12+4 by omega,show 4+i*12+5-4=i*12+5 by omega,show 4+i*12+6-4=i*12+6 by omega,show 4+i*12+7-4=i*12+7 by omega,show 4+i*12+8-4=i*12+8 by omega,show 4+i*12+9-4=i*12+9 by omega,show 4+i*12+10-4=i*12+10 by omega,show 4+i*12+11-4=i*12+11 by omega,Dw sl i x v0 v1 v2 v3 v4 v5 v6 v7 v8 v9 v10 v11 c d]
theorem hI(h:Ya w mb (mC cb sv t st sl) 64)(d:i<sl.length):Ya (OP w mb (4+i*12) x) mb (mC cb sv t st<|sl.set i x) 64:=by
 have c:=((((((((((((h.setkM (4+i*12)<|.bool x.sc).setkM (4+i*12+1)<|E x.n).setkM (4+i*12+2)<|.slice x.ea x.en x.ec).setkM (4+i*12+3)<|.bool x.rg).setkM (4+i*12+4)<|E x.p.k).setkM (4+i*12+5)<|E x.p.n).setkM (4+i*12+6)<|E x.p.op).setkM (4+i*12+7)<|.string x.p.nm).setkM (4+i*12+8)<|.slice x.p.ca x.p.cn x.p.cc).setkM (4+i*12+9)<|.slice x.p.ba x.p.bn x.p.bc).setkM (4+i*12+10)<|E x.p.a).setkM (4+i*12+11)<|E x.p.b);have e:=my cb sv t st sl i x (.bool x.sc) (E x.n) (.slice x.ea x.en x.ec) (.bool x.rg) (E x.p.k) (E x.p.n) (E x.p.op) (.string x.p.nm) (.slice x.p.ca x.p.cn x.p.cc) (.slice x.p.ba x.p.bn x.p.bc) (E x.p.a) (E x.p.b) C d;rw[e]at c;exact c
theorem hO{a o k:Nat}(x:CV)(c:k≠a):(OP w a o x).heap[k]?=w.heap[k]?:=by
 unfold OP;iterate 12 rw[Go.Deep.blk_setCell_other _ _ _ _ c]
theorem hJ{a o:Nat}(x:CV):w.grownBy (OP w a o x)<|some a:=by
 unfold OP;iterate 12 refine Zn ?_ (Or.inl C) _
 exact Z2 w<|some a
theorem Xd.stored(h:Xd w0 wr mb cb sv t m sa sn sc sl xs)(p:XZ wr x y)(q:i<16)(u:m.jx.length=16):Xd w0 (OP wr mb (4+i*12) x) mb cb sv t ⟨m.jy,m.jx.set i<|some y⟩ sa sn sc (sl.set i x) xs:=by
 have f:=hJ (w:=wr) (a:=mb) (o:=4+i*12) x;have g:YS wr (OP wr mb (4+i*12) x) mb<|.pointer none:=⟨f.os,f.tape,f.output,f.size,λk g r _=>hO x r⟩;have d:=g.rowsP h.st.box;have l:=hI (x:=x) h.st.box<|show i<sl.length by rw[h.ls];exact q
 clear f;generalize OP wr mb (4+i*12) x=W' at*;refine⟨⟨l,d _ _ _ _ _ _ h.st.own N,h.st.len⟩,h.stk.keepR d N N N,by rw[Qw];exact h.ls,λj z s=>?_,g.below h.bel h.lo (λk e=>by cases e),h.lo⟩;have e1:(m.jx.set i<|some y).getD j none=if i=j then some y else m.jx.getD j none:=by
  rw[Y0,Se,Y0];by_cases e:i=j
  .rw[Ye e,Ye e,Ye X];rfl
  .rw[Yd e,Yd e]
 have e2:(sl.set i x).getD j T4=if i=j then x else sl.getD j T4:=by
  rw[Y0,Se,Y0];by_cases e:i=j
  .rw[Ye e,Ye e,Ye<|by rw[h.ls];omega];rfl
  .rw[Yd e,Yd e]
 have c:(m.jx.set i<|some y).getD j none=some z:=s;rw[e1]at c;rw[e2];by_cases e:i=j
 .rw[Ye e]at c⊢;have n:y=z:=Uc c;rw[<-n];exact p.keepR d N N N
 .rw[Yd e]at c⊢;exact(h.slot j z c).keepR d N N N
theorem sS(h:Rc w0 wr c cb mb i 12 arg sv t m cv pv gv iv l g sa sn sc sl xs)(L:arg<16)(M:m.jx.length=16){ys:List Cl}(F:m.jy=y::ys)(O:m.jy.length<=64):
 CP 17 #[Vp mb,E i] wr λe G=>e=.returned (E (i+1:Nat))/\Hid (RI w0 G mb cb sv t ⟨ys,m.jx.set arg<|some y⟩):=by
 obtain⟨gi,n,ic,⟨m0,c3,i0,i1,Y,mbl,cbl,gil⟩,hn⟩:=h.at;obtain⟨x,xs',gs,k,rfl,rfl,rfl,H,_,_⟩:=h.inv.top F;have U:k<=64:=by have:=h.inv.num;omega
 have P:Hid<|Xd w0 wr mb cb sv t ⟨y::ys,m.jx⟩ (some ⟨gs,0,none⟩) (k+1) sc sl<|x::xs':=I<|by have:=h.inv;rw[show m=⟨y::ys,m.jx⟩by rw[<-F]]at this;exact this
 have v:=h.inv.ls;clear h F O;have Z:(arg:Int)<16:=X;go_enter func17,ntmps17;go_upto_region 31 with fail;refine Zs λW J=>?_;have w:BW wr W:=by rw[J];exact Yc
 have z:Hid<|Ya W wr.heap.size [E 12,E arg] 110:=I<|by rw[J];exact(show Ya _ _ _ _ from Go.Deep.blk_alloc_new wr _)
 have f:=I<|(P.below w).below<|(Ym _ _).drew;clear J w m0 c3 i0 i1 mbl cbl gil P;generalize wr.heap.size=ab at*;have o:=I<|z.below<|(Ym _ _).drew;have mbW:mb<W.heap.size:=f.st.box.lt;have abW:=z.lt;refine ZW 8 (λG=>G.cell? ⟨ab,1,none⟩=some (E arg)) Kr (by exact o.cell 1) λa=>?_;refine Za 0 a (h:=Za 1 a (h:=Za 2 a (h:=Za 3 a (h:=Za 5 a (h:=Za 6 a (h:=?_))))));refine Zz (i:=4) Kr C λK p=>?_;go_simp;obtain⟨_,_,_,_,e1,e2,e3,_,_,A⟩:=f.top C;injection e1 with e1 e1';injection e2 with e2;injection e2 with e2 _ _;injection e3 with e3;subst e1 e1' e2 e3;refine(OJ _ mb cb gs k sc sv t sl x f.st.box A U H).mono ?_;rintro e B ⟨rfl,D,r⟩;have s:=I<|f.qx D.out r.out;have d:=I s.1;have Q:=I s.2;have R:Hid<|Ya B ab [E 12,E arg] 110:=I<|o.mkeep f.st.box r.out N;clear f D r A s o;unfold Pw;go_simp;refine p.out _ _ (R.cell 1) λa=>?_;clear p K;try simp only[Act.put,Yt]
 refine Za 7 a (h:=?_);refine ZS Kr Kr C Kr λK p=>?_;have q:∀j,j<12->B.cell? ⟨mb,4+arg*12+j,none⟩=(sl.getD arg T4).cells[j]?:=λj V=>by
  rw[d.st.box.cell,Cu _ _ _ _ sl arg j (by rw[v];exact L) V]
 obtain⟨u,S⟩:∃u,sl.getD arg T4=u:=⟨_,C⟩;rw[S]at q;have z0:=q 0 N;have f0:=d.st.box.frozen<|4+arg*12+0;have z1:=q 1 N;have f1:=d.st.box.frozen<|4+arg*12+1;have z2:=q 2 N;have f2:=d.st.box.frozen<|4+arg*12+2;have z3:=q 3 N;have f3:=d.st.box.frozen<|4+arg*12+3;have z4:=q 4 N;have f4:=d.st.box.frozen<|4+arg*12+4;have z5:=q 5 N;have f5:=d.st.box.frozen<|4+arg*12+5;have z6:=q 6 N;have f6:=d.st.box.frozen<|4+arg*12+6;have z7:=q 7 N;have f7:=d.st.box.frozen<|4+arg*12+7;have z8:=q 8 N;have f8:=d.st.box.frozen<|4+arg*12+8;have z9:=q 9 N;have f9:=d.st.box.frozen<|4+arg*12+9;have z10:=q 10 N;have f10:=d.st.box.frozen<|4+arg*12+10;have z11:=q 11 N;have f11:=d.st.box.frozen<|4+arg*12+11;simp only[CV.cells,Yf,IB]at z0 z1 z2 z3 z4 z5 z6 z7 z8 z9 z10 z11 f0;clear a q S;go_simp;refine p.out _ _ ?_;clear p K z0 f0 z1 f1 z2 f2 z3 f3 z4 f4 z5 f5 z6 f6 z7 f7 z8 f8 z9 f9 z10 f10 z11 f11;have T:=I<|d.stored Q.out L M;go_wp2;go_ret;exact⟨by go_num,I ⟨_,_,_,_,_,T.out⟩⟩
theorem uf{op:Nat}{ss:List SZ}{st tl st' tl':List Nat}(h:Rc w0 wr c cb mb i op arg sv t m cv pv gv iv l g sa sn sc sl xs)(B:UP w0 sv ss)(L:T7 c)(H:-1000000<=t)(J:t<=1000000)(S:op<=13)(A:Zy c i (op,arg)=true)(w:YV (ZH ss).length st tl m)(T:st.length<=64)(f:Zr c (op,arg) st tl=some (st',tl')):
 CP 17 #[Vp mb,E i] wr λe u=>e=.returned (E (UH i (op,arg) m:Nat))/\Hid (RI w0 u mb cb sv t<|XG (ZH ss) t c (op,arg) m):=by
 have P:m.jy.length=st.length:=by rw[<-w.jy,Yz]
 have F:(ZH ss).length<=1000:=by unfold ZH;rw[Yz];have:=B.len;omega
 rcases(X:op=0∨op=1∨op=2∨op=3∨op=4∨op=9∨op=10∨op=11∨op=12∨op=13∨(op=5∨op=6∨op=7∨op=8))with rfl|rfl|rfl|rfl|rfl|rfl|rfl|rfl|rfl|rfl|G
 .have o:arg<c.jq.length:=by simpa [Zy]using A
  exact sJ h o (L.cs _<|M3 o)<|by have:=MB<|show Z4 1 st tl=_ from f;omega
 .have o:arg<c.jw.length:=by simpa [Zy]using A
  have M:=L.ps _<|M3 (d:=VN) o;exact sR h B o M.1 M.2 (by have:=MB<|show Z4 _ st tl=_ from f;omega) H J
 .have o:arg<=4:=by
   have:arg<5:=by simpa [Zy]using A
   omega
  cases st with
  |nil=>cases f
  |cons k r=>
   simp only[Zr]at f;split at f
   .rename_i s;subst s;obtain⟨y,rs,j,p,q,x⟩:=w.pop;obtain⟨a,n,rfl⟩:=Ff p;have e:XG (ZH ss) t c (2,arg) m=⟨.inl (.inr<|Uk (ZH ss) a (some arg) n t)::rs,m.jx⟩:=by simp only[XG,j]
    rw[e];exact sQ h B o j X H J
   .cases f
 .have o:arg<=3:=by
   have:arg<4:=by simpa [Zy]using A
   omega
  cases st with
  |nil=>cases f
  |cons ky r=>
   cases r with
   |nil=>cases f
   |cons kz r=>
    simp only[Zr]at f;split at f
    .rename_i s;rw[Vu]at s;obtain⟨y,rs,j,p,q,x⟩:=w.pop;obtain⟨z,qs,D,Q,O,U⟩:=x.pop;have D:rs=z::qs:=D;subst D;obtain⟨vy,rfl⟩:=Pp<|by rw[p];exact s.2
     obtain⟨vz,rfl⟩:=Pp<|by rw[Q];exact s.1
     have e:XG (ZH ss) t c (3,arg) m=⟨.inl (QK arg vz vy)::qs,m.jx⟩:=by simp only[XG,j];rfl
     rw[e];exact sI h o j X (WG.more F O)<|WG.more F q
    .cases f
 .cases st with
  |nil=>cases f
  |cons ky r=>
   simp only[Zr]at f;split at f
   .rename_i s;obtain⟨y,rs,j,p,q,x⟩:=w.pop;obtain⟨vy,rfl⟩:=Pp<|by rw[p];exact s
    have e:XG (ZH ss) t c (4,arg) m=⟨.inl (TI vy)::rs,m.jx⟩:=by simp only[XG,j];rfl
    rw[e];exact sP h j X<|WG.more F q
   .cases f
 .exact sN h
 .cases st with
  |nil=>cases f
  |cons k r=>
   simp only[Zr]at f;split at f
   .rename_i s;subst s;obtain⟨y,rs,j,p,q,x⟩:=w.pop;obtain⟨v,rfl⟩:=Lb p;have e:UH i (10,arg) m=if v.isEmpty then i+1 else arg:=by
     have x:Mc m=!v.isEmpty:=by unfold Mc;rw[j];rfl
     unfold UH;simp only;rw[Yd N,x];cases v<;>simp
    rw[e];exact sL h j X
   .cases f
 .cases st with
  |nil=>cases f
  |cons k r=>
   obtain⟨y,rs,j,p,q,x⟩:=w.pop;have e:XG (ZH ss) t c (11,arg) m=⟨rs,m.jx⟩:=by simp only[XG,j];rfl
   rw[e];exact sK h j X
 .cases st with
  |nil=>cases f
  |cons k r=>
   have o:arg<16:=by simpa [Zy]using A
   obtain⟨y,rs,j,p,q,x⟩:=w.pop;have e:XG (ZH ss) t c (12,arg) m=⟨rs,m.jx.set arg<|some y⟩:=by simp only[XG,j]
   rw[e];exact sS h o w.len j X
 .have o:arg<16:=by simpa [Zy]using A
  simp only[Zr]at f;split at f
  .cases f
  .rename_i R;obtain⟨y,p,s⟩:=w.jx arg R;have e:XG (ZH ss) t c (13,arg) m=⟨y::m.jy,m.jx⟩:=by simp only[XG,p]
   rw[e];exact sO h o p<|by have:=MB f;omega
 .have key:∃r,st=2::r:=by
   cases st with
  |nil=>rcases G with rfl|rfl|rfl|rfl<;>cases f
  |cons k r=>
   have K:(if k=2 then Z4 2 r tl else none)=some (st',tl'):=by rcases G with rfl|rfl|rfl|rfl<;>exact f
   split at K
   .rename_i s;subst s;exact⟨r,C⟩
   .cases K
  obtain⟨r,rfl⟩:=key;obtain⟨y,rs,j,p,q,x⟩:=w.pop;obtain⟨v,rfl⟩:=Lb p;have o:arg<c.jv.length:=by rcases G with rfl|rfl|rfl|rfl<;>simpa [Zy]using A
  have e:XG (ZH ss) t c (op,arg) m=⟨.inl (.inr<|SB (op-5) (c.jv.getD arg []) v)::rs,m.jx⟩:=by
   rcases G with rfl|rfl|rfl|rfl<;>(simp only[XG,j];rfl)
  have e2:UH i (op,arg) m=i+1:=by
   unfold UH;simp only;rw[Yd X,Yd λV=>X]
  rw[e,e2];exact sM h X X o (L.gs _<|M3 o) j X<|Xb (DV (v:=.inr v) q) F
theorem rm(q s:BA)(f l st fuel:Int)(w:World)(hq:q.size<=maxLen)(hs:s.size<=maxLen):
 CP 7 #[.string q,.string s,.agg #[E f,E l,E st],E fuel] w λe u=>∃(r:BA)(c p:Nat),e=.returned (.tuple #[.string r,E c,E p])/\Hid (UE (bl q) (bl s) f l st fuel=(bl r,c,p))/\BW w u:=by
 have f5:Hid<|∀W,CP 14 #[.string q] W _:=I λW=>mq q W hq;have T:Hid<|∀W,CP 15 #[.string s] W _:=I λW=>uc s W hs;clear hq hs;go_enter func7,ntmps7;go_wp2_with fail;refine Zv λW hW=>?_;have a3:BW w W:=by rw[hW];exact Yc
 have c5:Hid<|Ya W w.heap.size [E f,E l,E st] 32:=I<|by rw[hW];exact(show Ya _ _ _ _ from Go.Deep.blk_alloc_new w _)
 have U:=I a3;clear hW a3;obtain⟨xb,f6⟩:∃xb,xb=w.heap.size:=⟨_,C⟩;rw[<-f6]at c5⊢;clear f6;refine(f5.out W).mono ?_;rintro e w1 ⟨v,a,b,c,p,rfl,G,c6⟩;have b0:Hid<|BW w w1:=I<|U.trans<|c6.mono U.size;have f7:=I<|c5.below c6;clear c6 U c5 f5;cases H:Tj (bl q)with
 |error x=>
  have hr:=G.out;rw[H]at hr;obtain⟨_,_,h1,h2,S⟩:=hr;have J:Hid<|UE (bl q) (bl s) f l st fuel=([],c,p):=I<|by unfold UE;rw[H,h1,h2]
  have hc:((c:Int) !=0)=true:=by rw[Vg];omega
  clear G h1 h2 H;go_wp2;go_ret3;exact⟨_,_,_,C,J,b0.out⟩
 |ok y=>
  have hr:=G.out;rw[H]at hr;obtain⟨_,_,rfl,rfl,cb,cv,pv,gv,iv,pl,gl,rfl,c7⟩:=hr;have a4:=I c7;have b1:=I<|Ct H;obtain⟨co,ym⟩:=y;simp only at a4 b1 c7;have F:Hid<|∀x,(if(ZG<|bl s).1≠0 then([],(ZG<|bl s).1,(ZG<|bl s).2)else match Tl f l st with
   |none=>([],8,0)
   |some ts=>if fuel<0∨1000000<fuel then([],13,0)else match VK (Qh<|bl s) co fuel.toNat ts with
    |none=>([],13,0)
    |some z=>(VX z.1,0,0))=x->UE (bl q) (bl s) f l st fuel=x:=I λx hx=>by unfold UE;rw[H];exact hx
  clear G H c7;go_wp2_with fail;refine(T.out _).mono ?_;rintro e w2 ⟨sv,rfl,b2,b3⟩;have b4:Hid<|BW w w2:=I<|b0.trans<|b2.mono b0.size;have Z:Hid<|SI w2 cb co cv pv gv iv pl gl:=I ⟨a4.code.below b2,a4.ln,a4.op⟩;have a5:=I<|f7.below b2;clear b2 T a4 f7 b0;generalize f8:ZG (bl s)=lr at*;obtain⟨lc,lp⟩:=lr;simp only at b3 F;by_cases hc:lc=0
  .subst hc;obtain⟨f9,g0⟩:=b3.out C;obtain⟨ss,c8,c9,g1,j7⟩:=Pc.sto (by rw[Zb];exact g0) f9;have g2:Hid<|UP w2 sv ss:=c8;have d0:Hid<|ZH ss=Qh (bl s)/\Sx (ZH ss):=I ⟨c9,by rw[c9];exact g1⟩;clear b3 f9 g0 c8 c9 g1 j7 f8;have x0:=a5.cell 0;have x1:=a5.cell 1;have x2:=a5.cell 2;simp only[Yf]at x0 x1 x2;have j8:=a5.lt;go_wp2_with fail;refine(fl f l st).mono ?_;rintro e A ⟨tv,okv,rfl,d1,b5⟩;have M:Hid<|BW w A:=I<|b4.trans<|b5.mono b4.size;have a8:=I<|g2.below b5;have O:Hid<|SI A cb co cv pv gv iv pl gl:=I ⟨Z.code.below b5,Z.ln,Z.op⟩;clear b5 x0 x1 x2 j8 a5 g2 b4 Z;rcases d1.out with⟨rfl,g3⟩|⟨rfl,ts,b6,l9,d2,a2⟩
   .have J:Hid<|UE (bl q) (bl s) f l st fuel=([],8,0):=I<|F.out _<|by rw[Yd Sm,g3]
    clear g3;go_wp2;go_ret3;exact⟨_,8,0,C,J,M.out⟩
   .by_cases V:fuel<0∨1000000<fuel
    .have J:Hid<|UE (bl q) (bl s) f l st fuel=([],13,0):=I<|F.out _<|by rw[Yd Sm,b6];simp only;rw[Ye V]
     clear b6 d2 a2 d1 F;rcases V with V|V
     .go_wp2;go_ret3;exact⟨_,13,0,C,J,M.out⟩
     .have m0:¬fuel<0:=X;go_wp2;go_ret3;exact⟨_,13,0,C,J,M.out⟩
    .obtain⟨fu,rfl⟩:∃fu:Nat,fuel=fu:=⟨fuel.toNat,X⟩;have j1:fu<=1000000:=X;have J:Hid<|UE (bl q) (bl s) f l st fu=match VK (ZH ss) co fu ts with
     |none=>([],13,0)
     |some z=>(VX z.1,0,0):=I<|F.out _<|by rw[Yd Sm,b6];simp only;rw[Yd V,d0.1];rfl
     obtain⟨ta,tc,rfl⟩:=Zd a2;have b7:Hid<|A.ownsRow 0 2 1 (.slice ta ts.length tc) ts.length<|ts.map<|.int .i64:=a2;have j9:Hid<|∀t∈ts,-1000000<=t/\t<=1000000:=d2;obtain⟨L,B⟩:=b1.2;have B:=I B;have k0:=I b1.1;obtain⟨sa,sc,rfl⟩:=Zd a8.own;obtain⟨n,hn⟩:∃n,n=co.jz.length:=⟨_,C⟩;have HN:=I hn;have m1:n<=65535:=by rw[hn];exact O.ln
     clear b6 d2 a2 d1 F b1 hn V;go_wp2;go_loopw [3,19,20] (λfv ov kv wr=>∃(k fk:Nat)(r:BA)(ls:List<|LB),k<=ts.length/\kv=E k/\fv=E fk/\ov=.string r/\fk<=1000000/\r.size<=2000000000001*k/\Hid (VK (ZH ss) co fu (ts.take k)=some (ls,fk))/\Hid (bl r=VX ls/\ls.length=k)/\Hid (BW A wr)) (λ_ _ kv _=>ts.length-(intOf kv).toNat);case atStart=>exact⟨0,fu,⟨#[]⟩,[],Yr _,C,C,C,j1,Yr _,I C,I ⟨C,C⟩,I<|Ym _ _⟩
     case round=>
      obtain⟨k,fk,r,ls,hk,rfl,rfl,rfl,k1,m2,g4,G,P⟩:=hrel;by_cases b8:k<ts.length
      .obtain⟨g,cpx,hg⟩:=Zm b7.out X;injection hg with hg1 _ hg2;subst hg1 hg2;have f4:wr.cell? ⟨g,k,none⟩=some (E ts[k]):=Zc (Ze b7.out P.out) k _<|by rw[Vt,List.getElem?_eq_getElem b8];rfl
       have d4:Hid<|-1000000<=ts[k]/\ts[k]<=1000000:=I<|j9.out _<|List.getElem_mem b8;have g5:Hid<|VK (ZH ss) co fu (ts.take<|k+1)=match Xf (ZH ss) ts[k] co fk 0 UW with
        |none=>none
        |some x=>some (ls++[U9 ts[k]<|TL x.2],x.1):=I<|by rw[List.take_succ_eq_append_getElem b8,Jj,g4.out];rfl
       have k2:Hid<|VK (ZH ss) co fu (ts.take<|k+1)=none->UE (bl q) (bl s) f l st fu=([],13,0):=I λh=>by rw[J.out,zu h]
       have k3:=ZN<|Ze b7.out P.out;have j2:Hid<|(ts.map<|Value.int IntKind.i64)[k]?=some (E ts[k]):=I<|by rw[Vt,List.getElem?_eq_getElem b8];rfl
       generalize ts[k]=tm at*;go_upto_region 17 with fail;refine Zs λW hW=>?_;have a3:BW wr W:=by rw[hW];exact Yc
       have g6:Hid<|Ya W wr.heap.size (mC cb (.slice sa ss.length sc) tm S0<|List.replicate 16 T4) 64:=I<|by rw[hW];exact(show Ya _ _ _ _ from Go.Deep.blk_alloc_new wr _)
       have U:Hid<|BW A W:=I<|P.trans<|a3.mono P.size;have k4:A.heap.size<=wr.heap.size:=P.size;have g7:Hid<|∀W',BW A W'->W'.cell? ⟨g,k,none⟩=some (E tm)/\g<W'.heap.size:=I λW' hb=>by
        have ho:=Ze b7.out hb;refine⟨?_,ZN ho⟩;have h2:(ts.map<|Value.int IntKind.i64)[k]?=some (E tm):=j2.out;exact Zc ho k _ h2
       clear hW a3 f4 k3 P;generalize wr.heap.size=mb at*;have d5:∀j y,UW.jx.getD j none=some y->XZ W ((List.replicate 16 T4).getD j T4) y:=λj y hy=>by
        exfalso;have h2:(List.replicate 16 (none:Option Cl)).getD j none=none:=by rw[Y0,O3];split<;>rfl
        have h3:(UW.jx).getD j none=some y:=hy;unfold UW at h3;rw[h2]at h3;cases h3
       have g8:Hid<|Xd A W mb cb (.slice sa ss.length sc) tm UW none 0 0 (List.replicate 16 T4) []:=I ⟨⟨g6.out,Xm _ _ _ _,C⟩,trivial,Sm,d5,U.out,k4⟩;clear d5;clear g6 U;go_wp2;go_loopw [3,22] (λfv iv wq=>∃(i f1:Nat)(m:MQ)(sa1:Option Addr)(sn sc1:Nat)(sl xs:List CV),i<=n/\iv=E i/\fv=E f1/\f1<=1000000/\Hid (Xf (ZH ss) tm co fk 0 UW=Xf (ZH ss) tm co f1 i m)/\Hid ((L.getD i Ys).kj=true/\YV (ZH ss).length (L.getD i Ys).jy (L.getD i Ys).jx m/\m.jy.length<=64)/\Hid (Xd A wq mb cb (.slice sa ss.length sc) tm m sa1 sn sc1 sl xs)) (λ_ iv _=>n-(intOf iv).toNat);case atStart=>exact⟨0,fk,UW,none,0,0,_,[],Yr _,C,C,k1,I C,I ⟨(B.start (ZH ss).length).1,(B.start (ZH ss).length).2,Yr _⟩,g8⟩
       case round=>
        clear g8;obtain⟨i,f1,m,sa1,sn,sc1,sl,xs,hi,rfl,rfl,k5,a6,o,D⟩:=hrel;have a7:=I<|O.code.below D.bel;obtain⟨ia,ic,d6⟩:=Zd a7.is;have d3:_=some iv:=a7.box.cell 3;rw[d6,<-HN.out]at d3;have d7:=a7.box.lt;by_cases k6:i<n
        .have Q:i<co.jz.length:=by rw[<-HN.out];exact k6
         cases f1 with
         |zero=>
          have HX:Hid<|UE (bl q) (bl s) f l st fu=([],13,0):=I<|k2.out<|by rw[g5.out,a6.out,BO Q]
          have d8:Hid<|BW w wr:=I<|M.trans<|D.bel.mono M.size;go_wp2;go_ret3;exact⟨⟨#[]⟩,13,0,C,HX,d8.out⟩
         |succ f2=>
          have m3:(((f2+1:Nat):Int)==0)=false:=by rw[YB];omega
          have l7:(((f2:Int)+1)==0)=false:=by rw[YB];omega
          obtain⟨op,arg,b9⟩:∃op arg,co.jz[i]?=some (op,arg):=⟨_,_,List.getElem?_eq_getElem Q⟩;have c0:co.jz.getD i (0,0)=(op,arg):=by rw[Y0,b9];rfl
          have c1:=(O.op (op,arg)<|QY b9).1;obtain⟨_,st1,sl1,a9,_,_⟩:=B.step i Q o.1;have R:=B.next d0.2 tm Q (by rw[c0];exact c1) o.1 o.2.1;have Y:=B.len d0.2 tm Q (by rw[c0];exact c1) o.1 o.2.1 o.2.2;have d9:=B.fwd i Q;have e0:=BN (ZH ss) tm co f2 i m Q;rw[c0]at a9 R Y d9 e0;have k7:(L.getD i Ys).jy.length<=64:=by rw[<-o.2.1.jy,Yz];exact o.2.2
          have e1:=I<|uf (ss:=ss) ⟨O.code,D.out,b9,O.ln⟩ a8.out k0.out d4.1 d4.2 c1 d9 o.2.1 k7 a9;have g9:Hid<|Xf (ZH ss) tm co fk 0 UW=Xf (ZH ss) tm co f2 (UH i (op,arg) m) (XG (ZH ss) tm co (op,arg) m):=I<|by rw[a6.out,e0]
          obtain⟨j,hj⟩:∃j,UH i (op,arg) m=j:=⟨_,C⟩;rw[hj]at R g9 e1;have j3:=I<|And.intro R.2.2.1<|And.intro R.2.2.2 Y;have m4:i<j:=R.1;have k8:j<=n:=by rw[HN.out];exact R.2.1
          clear a9 R Y d9 e0 c0 c1 b9 a6 o hj;go_wp2_with fail;refine e1.mono ?_;rintro e w5 ⟨rfl,i0⟩;obtain⟨sa5,sn5,sc5,sl5,xs5,e2⟩:=i0.out;have k9:=I e2;clear e2 i0 e1 D d3 d7 a7 d6;go_wp2;go_roundw;case rel=>exact⟨j,f2,_,sa5,sn5,sc5,sl5,xs5,k8,C,by go_num,X,g9,j3,k9⟩
          case measure=>simp[intOf];omega
        .obtain rfl:i=n:=X;have i1:co.jz.length<=i:=by rw[<-HN.out];exact Yj _
         have i2:Hid<|VK (ZH ss) co fu (ts.take<|k+1)=some (ls++[U9 tm<|TL m],f1):=I<|by rw[g5.out,a6.out,BM i1]
         obtain⟨v,hv,i3⟩:=B.end_ (n:=(ZH ss).length) (m:=m)<|by have:=o.2.1;rw[HN.out]at this;exact this
         have j4:WG 1000 v:=WG.more (by unfold ZH;rw[Yz];have:=a8.len;omega) i3;have e3:TL m=v:=by unfold TL;rw[hv];rfl
         rw[e3]at i2;obtain⟨mst,msl⟩:=m;simp only at hv;subst hv;obtain⟨x,xs',gs,kk,rfl,rfl,rfl,j5,_,hx⟩:=D.top C;have l0:kk<=64:=by have:=D.num;simp at this;omega
         obtain⟨rr,c2⟩:∃rr:BA,rr=if k=0 then r else r++⟨#[10]⟩:=⟨_,C⟩;have l1:Hid<|bl rr=if ls.isEmpty then[]else VX ls++[10]:=I (by
          rw[c2];by_cases S:k=0
          .have e4:ls=[]:=Og.1<|by rw[G.2,S]
           rw[Ye S,G.1,e4];rfl
          .have e4:ls.isEmpty=false:=by
            cases ls with
           |nil=>exact absurd G.2.symm S
           |cons a b=>rfl
           rw[Yd S,e4,PT,G.1];rfl);have l8:rr.size<=2000000000001*k+1:=by
          rw[c2];split
          .omega
          .rw[Xa];show r.size+1<=_;omega
         have e5:=I c2;clear c2 o a6 i1 i3 e3;go_upto_if 88 with fail;clear d3 d7 a7 d6;go_cut [19]from 59 to 101 (λs19 wx=>s19=.string rr/\wx=wr);case first=>
          by_cases S:k=0
          .have c3:rr=r:=by rw[e5.out,Ye S]
           subst S;go_wp2;go_meet;exact⟨by rw[c3],C⟩
          .have c3:rr=r++⟨#[10]⟩:=by rw[e5.out,Yd S]
           have l2:=I c3;have h1:(0:Int)<(k:Int):=X;have a0:∀W,(Op.stringOp .add r ⟨#[10]⟩).run prog W=.ok (.string<|r++⟨#[10]⟩) W:=λW=>XV W _ _<|by show r.size+1<=_;omega
           clear c3 S;go_wp2;go_meet;exact⟨by rw[l2.out],C⟩
         case rest=>
         obtain⟨rfl,rfl⟩:=hcut;rename World=>wr;go_wp2_with fail;refine(OJ _ mb cb gs kk sc1 _ tm sl x D.st.box hx l0 j5).mono ?_;rintro e w6 ⟨rfl,i4,i5⟩;have e6:=I<|D.qx i4.out i5.out;have i6:=I e6.2;have e7:=I e6.1.bel;clear D i4 i5 hx e6;unfold Pw;go_upto_region 26 with fail;refine Zs λW7 e8=>?_;have e9:BW w6 W7:=by rw[e8];exact Yc
         have i7:Hid<|Ya W7 w6.heap.size x.cells 61:=I<|by rw[e8];exact(show Ya _ _ _ _ from Go.Deep.blk_alloc_new w6 _)
         have l3:=I<|i6.below e9;have l4:Hid<|BW A W7:=I<|e7.trans<|e9.mono e7.size;clear e8 e9 i6 e7;generalize w6.heap.size=zb at*;have l5:=I<|l3.below<|(Ym _ _).drew;have c4:=I<|i7.below<|(Ym _ _).drew;have T:Hid<|BW A W7.drew:=I l4.drew;obtain⟨ln,Y⟩:∃ln:BA,ln=⟨(U9 tm v).toArray⟩:=⟨_,C⟩;have i8:Hid<|bl ln=U9 tm v:=I<|by rw[Y,Gt]
         clear Y;obtain⟨gk7,gl7⟩:=g7.out _ T.out;have gl8:g<W7.heap.size:=gl7;have zl7:=i7.lt;refine ZW 9 (λu=>u.cell? ⟨g,k,none⟩=some (E tm)/\u.cell? ⟨zb,0,none⟩=some (.bool x.sc)/\u.cell? ⟨zb,1,none⟩=some (E x.n)/\u.cell? ⟨zb,2,none⟩=some (.slice x.ea x.en x.ec)) Kr (by exact⟨gk7,c4.cell 0,c4.cell 1,c4.cell 2⟩) λd=>?_;clear gk7 gl7;refine Za 0 d (h:=Za 1 d (h:=Za 2 d (h:=Za 3 d (h:=Za 4 d (h:=Za 5 d (h:=Za 6 d (h:=?_)))))));refine Zz (i:=7) Kr C λK hK=>?_;go_simp;refine(vR tm (by have:=d4.out;unfold YD;omega) v l5.2 j4).mono ?_;rintro e w8 ⟨r8,rfl,i9,m5,f0⟩;obtain rfl:r8=ln:=ZbH<|i9.trans i8.symm;have j0:Hid<|BW A w8:=I<|T.trans<|f0.mono T.size;have f3:=I<|c4.below f0;obtain⟨gk8,_⟩:=g7.out _ j0.out;have a1:∀W,(Op.stringOp .add rr r8).run prog W=.ok (.string<|rr++r8) W:=λW=>XV W _ _ X;have j6:(rr++r8:BA).size<=2000000000001*(k+1):=by rw[Xa];omega
         have l6:Hid<|bl (rr++r8)=VX (ls++[U9 tm v])/\(ls++[U9 tm v]).length=k+1:=I ⟨by rw[C2,PT,l1.out,i8.out],by rw[Yv,G.2];rfl⟩;clear f0 i9;go_simp;refine hK.out _ _ ⟨gk8,f3.cell 0,f3.cell 1,f3.cell 2⟩ λd=>?_;clear hK K gk8;try simp only[Act.put,Yt]
         refine Za 8 d (h:=?_);refine ZS Kr Kr C Kr λK hK=>?_;go_simp;refine hK.out _ _ ?_;clear hK K a1;go_wp2;go_roundw;case rel=>exact⟨k+1,f1,_,_,X,by go_num,C,C,k5,j6,i2,l6,j0⟩
         case measure=>simp[intOf];omega
      .obtain rfl:k=ts.length:=X;have HX:Hid<|UE (bl q) (bl s) f l st fu=(bl r,0,0):=I<|by
        have h1:=g4.out;rw[X1]at h1;rw[J.out,h1,G.1]
       have d8:Hid<|BW w wr:=I<|M.trans<|P.mono M.size;go_wp2;go_ret3;exact⟨r,0,0,C,HX,d8.out⟩
  .have J:Hid<|UE (bl q) (bl s) f l st fuel=([],lc,lp):=I<|F.out _<|by rw[Ye hc]
   have m6:((lc:Int) !=0)=true:=by rw[Vg];omega
   clear b3 F f8;go_wp2;go_ret3;exact⟨_,lc,lp,C,J,b4.out⟩
