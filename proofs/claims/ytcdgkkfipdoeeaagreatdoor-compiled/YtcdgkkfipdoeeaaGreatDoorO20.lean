/- Parts. -/
import Derived.Test.YtcdgkkfipdoeeaaGreatDoorO19
import Derived.Test.YtcdgkkfipdoeeaaGreatDoorO15
set_option linter.all false
set_option maxRecDepth 100000
set_option maxHeartbeats 16000000
namespace Go.Proofs.YtcdgkkfipdoeeaaGreatDoor
open Go.RowKit LS Go.Proofs.Tryz
open Go.ChangeMaps (setBlock)
variable {es:Array MapEntry}{c co:CodeQ}{t:Int}{ys ys':List Cl}{l:List El}{ser:List Ser}{ss:List Srs}{vs vs' xs:List Value}{m:MQ}{arg base cl gb gx mb n op sc sn x:Nat}{A:Nat->Addr}{r:Nat×Nat}{a av la sa sa':Option Addr}{err st v:Value}{w w' w0:World}
def ZbL(w w':World):Prop:=∀(b:Nat) (c:Array Value) (T:TypeId) (fr:Nat×Nat),T≠305->T≠196->w.heap[b]?=some (.cells c T fr)->w'.heap[b]?=some (.cells c T fr)
theorem Zo.y(h:Zo w w'):ZbL w w':=fun b c T fr _ _ a=>h b c T _ a
theorem ZbL.trans{z:World}(h:ZbL w w')(k:ZbL w' z):ZbL w z:=fun b c T fr a d e=>k b c T _ a d (h b c T _ a d e)
theorem ZbL.below(h:BW w w'):ZbL w w':=(Zo.below h).y
theorem ZbL.own(h:ZbL w w'){e:TypeId}{size:Nat}(a:w.ownsRow base e size v n xs)(c:e≠305)(d:e≠196):w'.ownsRow base e size v n xs:=by
 refine⟨a.1,?_⟩;rcases a.2 with j|⟨g,cap,cur,f,hg,i,r⟩
 ·simp_all
 ·exact .inr ⟨g,cap,cur,f,hg,h _ _ _ _ c d i,r⟩
theorem SamV.y{l:List (Int×Int)}(h:SamV w av l)(a:ZbL w w'):SamV w' av l:=by
 rcases h with h|⟨g,off,d,c,fr,e,f⟩
 ·exact .inl h
 ·exact .inr ⟨g,off,d,c,fr,a _ _ _ _ Dc Dc e,f⟩
theorem LbOk.y{c:Nat}{tx:BA}{qs:List (BA×BA)}(h:LbOk w a n c tx qs)(d:ZbL w w'):LbOk w' a n c tx qs:=⟨⟨d.own h.row.1 Dc Dc,h.row.2⟩,h.txt,h.wf⟩
theorem StrOk.y{s:Str}(h:StrOk w s)(a:ZbL w w'):StrOk w' s:=⟨h.lb.y a,h.sam.y a,h.ne,h.len,h.ok⟩
theorem RngV.y{rs:List Str}(h:RngV w v rs)(a:ZbL w w'):RngV w' v rs:=⟨a.own h.row Dc Dc,fun s c=>(h.ok s c).y a⟩
theorem VecV.y{is:List Itm}(h:VecV w v l is)(a:ZbL w w'):VecV w' v l is:=⟨a.own h.row Dc Dc,h.els,fun i c=>⟨(h.ok i c).lb.y a,(h.ok i c).vok⟩,h.len⟩
def PelV(w:World)(ser:List Ser)(t:Int)(v:Value):Cl->Prop
 | .inl V=>ValP w v V
 | .inr (a,n)=>∃rv rs,v=.iface 299 rv/\RngV w rv rs/\rs.map Str.pr=ZbH ser a n t
theorem PelV.y(d:ZbL w w'):∀ {y:Cl},PelV w ser t v y->PelV w' ser t v y
 | .inl (.inl _),h=>h
 | .inl (.inr _),⟨s,is,a,c⟩=>⟨s,is,a,c.y d⟩
 | .inr (_,_),⟨rv,rs,a,c,e⟩=>⟨rv,rs,a,c.y d,e⟩
theorem PelV.shape : ∀ {y:Cl},PelV w ser t v y->∃ty u,v=.iface ty u
 | .inl (.inl _),h=>⟨_,_,h.1⟩
 | .inl (.inr _),⟨_,_,a,_⟩=>⟨_,_,a⟩
 | .inr (_,_),⟨_,_,a,_⟩=>⟨_,_,a⟩
def PStk(w:World)(ser:List Ser)(t:Int):List Value->List Cl->Prop
 | [],[]=>True
 | v::vs,y::ys=>PelV w ser t v y/\PStk w ser t vs ys
 | _,_=>False
theorem PStk.y(a:ZbL w w'):∀ {vs:List Value} {ys:List Cl},PStk w ser t vs ys->PStk w' ser t vs ys
 | [],[],h=>h
 | _::_,_::_,⟨c,d⟩=>⟨c.y a,PStk.y a d⟩
theorem PStk.len : ∀ {vs:List Value} {ys:List Cl},PStk w ser t vs ys->vs.length=ys.length
 | [],[],_=>rfl
 | _::vs,_::ys,⟨_,h⟩=>by rw[Yaj,Yaj,PStk.len h]
def PSlo(w:World)(x:Nat)(ser:List Ser)(t:Int)(ss:List (Option Cl)):Prop:=∃gs es cl,MapI w x gs es cl/\∀j y,ss.getD j none=some y->∃v,getI gs j=some v/\PelV w ser t v y
theorem PSlo.y{ss:List (Option Cl)}(h:PSlo w x ser t ss)(c:ZbL w w')(d:w'.heap[x]?=w.heap[x]?):PSlo w' x ser t ss:=by
 obtain⟨gs,es,cl,e,f⟩:=h;exact⟨gs,es,cl,e.moved d,fun j y g=>(f j y g).elim fun v a=>⟨v,a.1,a.2.y c⟩⟩
structure PInv (w0 wk w:World) (mb x gb gx:Nat) (c0 c1 c2 c3 al:Value) (t:Int) (ser:List Ser) (m:MQ) (sa:Option Addr) (sn sc:Nat) (vs:List Value):Prop where
 st:PSt w w0.heap.size mb c0 c1 c2 c3 al t (.map (some x)) (Vp gb) sa sn sc vs.reverse
 slo:PSlo w x ser t m.jy
 gr:BAt w gb [.map (some gx)] 281
 gm:MapX w gx
 stk:PStk w ser t vs m.jz
 bel:BW w0 w
 lm:w0.heap.size<=mb
 lx:w0.heap.size<=x
 lg:w0.heap.size<=gx
 ne:x≠gx
 ky:ZbL wk w
theorem ZjJ  {a b : Nat}   {c : Array Value} {T : TypeId} {fr : Nat × Nat} (h : w.heap[a]? = some (.map es cl)) (k : w.heap[b]? = some (.cells c T fr)) : a ≠ b := fun e => by
  simp_all
theorem Zmh  {a b : Nat}   {e : TypeId} {sz : Nat}    (h : w.heap[a]? = some (.map es cl)) (k : w.ownsRow b e sz v n xs) : some a ≠ v.ownBlock := fun e => by
  rcases k.2 with ⟨k2,_⟩|⟨g,cap,cur,c,_,hg,_⟩
  · rw[k2]at e;cases e
  · rw[c]at e
    have e2:some a=some g:=e;injection e2 with e2
    simp_all
theorem MKeep.y{c:List Value}(h:MKeep w w' mb st)(d:BAt w mb c 305)(f:w.ownsRow base 196 1 st n xs):ZbL w w':=fun b c2 T fr i g a=>
 (h.block b (Yae.1 a).1 (fun e => by
   rw[e]at a;have:=a.symm.trans d
   simp_all) (Zcx f a g)).trans a
theorem MKeep.ofG(h:w.grownBy w' (some mb))(st:Value):MKeep w w' mb st:=⟨h.os,h.tape,h.output,h.size,fun k a c _=>h.block k a (fun e=>c (Yax e))⟩
theorem PInv.below{c:World}{c0 c1 c2 c3 al:Value}(h:PInv w0 c w mb x gb gx c0 c1 c2 c3 al t ser m sa sn sc vs)(a:BW w w'):PInv w0 c w' mb x gb gx c0 c1 c2 c3 al t ser m sa sn sc vs:=by
 have d:x<w.heap.size:=by
  obtain⟨gs,es,cl,e,_⟩:=h.slo;exact(Yae.1 e.heap).1
 exact⟨h.st.below a,h.slo.y (ZbL.below a) (a.block x d),h.gr.below a,h.gm.below a,h.stk.y (ZbL.below a),h.bel.trans (a.mono h.bel.size),h.lm,h.lx,h.lg,h.ne,h.ky.trans (ZbL.below a)⟩
theorem PInv.num{w0 a w:World}{mb x gb gx:Nat}{c0 c1 c2 c3 al:Value}{t:Int}{ser:List Ser}{m:MQ}{sa:Option Addr}{sn sc:Nat}{vs:List Value}(h:PInv w0 a w mb x gb gx c0 c1 c2 c3 al t ser m sa sn sc vs):sn=m.jz.length:=by
 rw[<-h.stk.len,<-h.st.len,List.length_reverse]
theorem PInv.moved{j:World}{c0 c1 c2 c3 al:Value}(h:PInv w0 j w mb x gb gx c0 c1 c2 c3 al t ser m sa sn sc vs)(g:MKeep w w' mb (.slice sa sn sc)){sn' sc':Nat}(l:PSt w' w0.heap.size mb c0 c1 c2 c3 al t (.map (some x)) (Vp gb) sa' sn' sc' vs'.reverse)(n:PStk w ser t vs' ys'):PInv w0 j w' mb x gb gx c0 c1 c2 c3 al t ser ⟨ys',m.jy⟩ sa' sn' sc' vs':=by
 have f:=g.y h.st.box h.st.own;have c:∀ {a:Nat} {es:Array _} {cl:Nat},w.heap[a]?=some (.map es cl)->w'.heap[a]?=w.heap[a]?:=fun i=>g.block _ (Yae.1 i).1 (ZjJ i h.st.box) (Zmh i h.st.own);refine⟨l,?_,f _ _ _ _ Dc Dc h.gr,?_,n.y f,g.below h.bel h.lm (fun k e=>(h.st.own.lt k e).1),h.lm,h.lx,h.lg,h.ne,h.ky.trans f⟩
 ·obtain⟨gs,es,cl,d,o⟩:=h.slo;exact PSlo.y ⟨gs,es,cl,d,o⟩ f (c d.heap)
 ·obtain⟨es,cl,d⟩:=h.gm;exact⟨es,cl,(c d).trans d⟩
theorem PInv.qk{a:World}{c0 c1 c2 c3 al:Value}{y:Cl}{ss:List (Option Cl)}(h:PInv w0 a w mb x gb gx c0 c1 c2 c3 al t ser ⟨y::ys,ss⟩ sa (n+1) sc (v::vs))(c:PSt w' w0.heap.size mb c0 c1 c2 c3 al t (.map (some x)) (Vp gb) sa n sc vs.reverse)(hg:w.grownBy w' (some mb)):PInv w0 a w' mb x gb gx c0 c1 c2 c3 al t ser ⟨ys,ss⟩ sa n sc vs/\PelV w' ser t v y:=
 ⟨h.moved (MKeep.ofG hg _) c h.stk.2,h.stk.1.y ((MKeep.ofG hg _).y h.st.box h.st.own)⟩
theorem PInv.pushed{a:World}{c0 c1 c2 c3 al:Value}(h:PInv w0 a w mb x gb gx c0 c1 c2 c3 al t ser m sa sn sc vs){y:Cl}(c:PelV w ser t v y){ga nc:Nat}(e:PSt w' w0.heap.size mb c0 c1 c2 c3 al t (.map (some x)) (Vp gb) (some ⟨ga,0,none⟩) (sn+1) nc (vs.reverse++[v]))(d:MKeep w w' mb (.slice sa sn sc)):PInv w0 a w' mb x gb gx c0 c1 c2 c3 al t ser ⟨y::m.jz,m.jy⟩ (some ⟨ga,0,none⟩) (sn+1) nc (v::vs):=
 h.moved d (by simp_all) ⟨c,h.stk⟩
theorem PInv.belX{d:World}{c0 c1 c2 c3 al:Value}(h:PInv w0 d w mb x gb gx c0 c1 c2 c3 al t ser m sa sn sc vs)(c:BelX gx w.heap.size w w')(f:MapX w' gx):PInv w0 d w' mb x gb gx c0 c1 c2 c3 al t ser m sa sn sc vs:=by
 have a:=Zo.belX c h.gm
 have e:x<w.heap.size:=by
  obtain⟨gs,es,cl,g,_⟩:=h.slo;exact(Yae.1 g.heap).1
 exact⟨⟨a _ _ _ _ h.st.box,a.own h.st.own,h.st.len⟩,h.slo.y a.y (c.block x e h.ne),a _ _ _ _ h.gr,f,h.stk.y a.y,h.bel.trans ((c.mono h.bel.size).below h.lg),h.lm,h.lx,h.lg,h.ne,h.ky.trans a.y⟩
theorem PInv.stored{f:World}{c0 c1 c2 c3 al:Value}(h:PInv w0 f w mb x gb gx c0 c1 c2 c3 al t ser m sa sn sc vs){o:Obj}(i:w'=setBlock w x o){ss:List (Option Cl)}(j:PSlo w' x ser t ss):PInv w0 f w' mb x gb gx c0 c1 c2 c3 al t ser ⟨m.jz,ss⟩ sa sn sc vs:=by
 have c:=BelX.set x w.heap.size w o;rw[<-i]at c
 have g:MapX w x:=by
  obtain⟨gs,es,cl,d,_⟩:=h.slo;exact⟨es,cl,d.heap⟩
 have a:=Zo.belX c g;refine⟨⟨a _ _ _ _ h.st.box,a.own h.st.own,h.st.len⟩,j,a _ _ _ _ h.gr,?_,h.stk.y a.y,h.bel.trans ((c.mono h.bel.size).below h.lx),h.lm,h.lx,h.lg,h.ne,h.ky.trans a.y⟩;obtain⟨es,cl,d⟩:=h.gm;exact⟨es,cl,(c.block _ (Yae.1 d).1 (fun e=>h.ne e.symm)).trans d⟩
theorem PInv.top{e:World}{c0 c1 c2 c3 al:Value}(h:PInv w0 e w mb x gb gx c0 c1 c2 c3 al t ser m sa sn sc vs){y:Cl}(c:m.jz=y::ys):∃v vs' n,vs=v::vs'/\sn=n+1/\PelV w ser t v y/\n=ys.length:=by
 have a:=h.stk;rw[c]at a;cases vs with
 | nil=>exact absurd a id
 | cons v vs=>
  have d:=h.num;rw[c,Yaj]at d;exact⟨v,vs,ys.length,rfl,d,a.1,rfl⟩
def ZtC(w0 wk w':World)(mb x gb gx:Nat)(c0 c1 c2 c3 al:Value)(t:Int)(ser:List Ser)(m:MQ):Prop:=∃sa sn sc vs,PInv w0 wk w' mb x gb gx c0 c1 c2 c3 al t ser m sa sn sc vs
theorem PInv.re{a:World}{c0 c1 c2 c3 al:Value}(h:PInv w0 a w mb x gb gx c0 c1 c2 c3 al t ser m sa sn sc vs):PInv w0 w w mb x gb gx c0 c1 c2 c3 al t ser m sa sn sc vs:=⟨h.st,h.slo,h.gr,h.gm,h.stk,h.bel,h.lm,h.lx,h.lg,h.ne,ZbL.below (Yaf _ _)⟩
structure PCode (w0:World) (c:CodeQ) (ss:List Srs) (c0 c1 c2 c3 al:Value):Prop where
 cod:CodeV w0 c c0 c1 c2 c3
 sto:StoP w0 al ss
 dst:Dst (ss.map Srs.ser)
theorem Zy3{c0 c1 c2 c3 al st sl gr:Value}(t:Int){nm:BA}{ln lc:Nat}{nd:Nd}(R:BAt w mb (pmC c0 c1 c2 c3 al t st sl gr) 305)(x:StoP w al ss)(G:Dst (ss.map Srs.ser))(H:bl nm=nd.name)(S:ZX w (.slice la ln lc) nd.ku)(hn:n<=1000)(I : -1000000<=t)(J:t<=1000000) :
  CP 163 #[Vp mb,.agg #[.string nm,.slice la ln lc,Vi n]] w fun e u=>∃v,e=.returned v/\Hid (PelV u (ss.map Srs.ser) t v (Zdl (ss.map Srs.ser) t (nd,n)))/\BW w u:=by
 obtain⟨sa,scp,rfl⟩:=Zl x.row;have T:=hid R;have L:=hid x;have U:=hid G;have M:=hid H;have V:=hid S;have N:=hid (fun W=>ZpY nm la ln lc n W);clear R x G H S;go_enter func163,ntmps163
 go_wp2_with fail
 refine Zm fun W P=>?_;have A:Below _ w W:=P▸Zbal;have X:Hid (BAt W _ _ 156):=P▸(show BAt _ _ _ _ from bnw);clear P;refine(N W).mono ?_;rintro e E ⟨rfl,B⟩;have p:=A.trans (B.mono A.size);have k:=hid (T.below p);have f:=hid (X.below B);have C:=hid (L.below p);have O:=hid (V.below p);have r:=hid p;have Z:=k.lt;have Y:=f.lt;clear B A p X T L V N;generalize w.heap.size=xb at f Y ⊢;by_cases s:0<n
 ·rw[decide_eq_true s];have Q:=hid (show Zdl (ss.map Srs.ser) t (nd,n)=.inr (nd,n) by unfold Zdl;rw[if_pos s]);clear s
  go_upto_region 2 with fail
  have d:Hid (BW E _):=hid (Yaf _ _).drew;have l:=hid (k.below d);have g:=hid (f.below d);refine Zbn 14 (fun u=>u.cell? _=some _/\u.cell? _=some _/\u.cell? _=some _/\u.cell? _=some _/\u.cell? _=some _) Kr (⟨l.cell 4,l.cell 5,g.cell 0,g.cell 1,g.cell 2⟩) (fun a=>?_);clear l g;refine Za 0 a (h:=?_);refine Za 1 a (h:=?_);refine Za 2 a (h:=?_);refine Za 3 a (h:=?_);refine Za 4 a (h:=?_);refine Za 5 a (h:=?_);refine Za 6 a (h:=?_);refine Za 7 a (h:=?_);refine Za 8 a (h:=?_);refine Za 9 a (h:=?_);refine Za 10 a (h:=?_);refine Za 11 a (h:=?_);refine Z4 (i:=12) Kr rfl (fun K m=>?_);go_simp;refine(ZmR n t _ (C.below d) M (O.below d) Om Om I J).mono ?_;rintro e z ⟨v,rs,rfl,F,q⟩;go_simp;have c:=d.trans (q.mono d.size);have o:=hid (k.below c);have j:=hid (f.below c);have D:=hid (r.trans (c.mono r.size));refine m _ _ ⟨o.cell 4,o.cell 5,j.cell 0,j.cell 1,j.cell 2⟩ (fun a=>?_);clear m K q c k f o j
  try simp only[Act.put,Zset]
  refine Za 13 a (h:=?_);refine Zbl Kr Kr rfl Kr (fun K m=>?_);go_simp;refine m _ _ ?_;clear m K a;go_wp2;go_ret;exact⟨_,rfl,hid (Q.out▸⟨_,_,rfl,F.1,F.2⟩),D⟩
 ·rw[decide_eq_false s];have Q:=hid (show Zdl (ss.map Srs.ser) t (nd,n)=.inl (.inr (Zc4 _ nd _ _ t)) by unfold Zdl;rw[if_neg s]);clear s
  go_upto_region 3 with fail
  have d:Hid (BW E _):=hid (Yaf _ _).drew;have l:=hid (k.below d);have g:=hid (f.below d);refine Zbn 12 (fun u=>u.cell? _=some _/\u.cell? _=some _/\u.cell? _=some _/\u.cell? _=some _) Kr (⟨l.cell 4,l.cell 5,g.cell 0,g.cell 1⟩) (fun a=>?_);clear l g;refine Za 0 a (h:=?_);refine Za 1 a (h:=?_);refine Za 2 a (h:=?_);refine Za 3 a (h:=?_);refine Za 4 a (h:=?_);refine Za 5 a (h:=?_);refine Za 6 a (h:=?_);refine Za 7 a (h:=?_);refine Za 8 a (h:=?_);refine Za 9 a (h:=?_);refine Z4 (i:=10) Kr rfl (fun K m=>?_);go_simp;refine(ZrF t _ (C.below d) U M (O.below d) I J).mono ?_;rintro e z ⟨v,is,rfl,F,q⟩;go_simp;have c:=d.trans (q.mono d.size);have o:=hid (k.below c);have j:=hid (f.below c);have D:=hid (r.trans (c.mono r.size));refine m _ _ ⟨o.cell 4,o.cell 5,j.cell 0,j.cell 1⟩ (fun a=>?_);clear m K q c k f o j
  try simp only[Act.put,Zset]
  refine Za 11 a (h:=?_);refine Zbl Kr Kr rfl Kr (fun K m=>?_);go_simp;refine m _ _ ?_;clear m K a;go_wp2;go_ret;exact⟨_,rfl,hid (Q.out▸⟨_,_,rfl,F.out⟩),D⟩
theorem ZhN  {a:Nat} {c c' : List Value} {T : TypeId} (h : BAt w a c T) (hg : w.grownBy w' (some mb)) (d : BAt w mb c' 305) (f : T ≠ 305) : BAt w' a c T := h.grown hg (fun e => by
  injection e with e;subst e;have:=h.symm.trans d;injection this with this;injection this with _ this _;exact f this)
def Zcu(w0 wk w:World)(mb x gb gx op arg:Nat)(c0 c1 c2 c3 al:Value)(t:Int)(ser:List Ser)(m:MQ):Prop:=CP 98 #[Vp mb,.agg #[Vi op,Vi arg]] w fun e w'=>e=.returned (.tuple #[])/\Hid (ZtC w0 wk w' mb x gb gx c0 c1 c2 c3 al t ser m)
theorem ZAr{k:World}{c0 c1 c2 c3 al:Value}(h:PInv w0 k w mb x gb gx c0 c1 c2 c3 al t ser m sa sn sc vs){y:Cl}(c:m.jz=y::ys)(d:m.jz.length<=64) :
  Zcu w0 k w mb x gb gx 11 arg c0 c1 c2 c3 al t ser ⟨ys,m.jy⟩:=by
 unfold Zcu;obtain⟨v,vs',n,rfl,rfl,_,r⟩:=h.top c;have s:n<=64:=by rw[c,Yaj]at d;omega
 have l:Hid (PInv _ _ w _ x _ _ _ _ _ _ _ t _ ⟨y::ys,m.jy⟩ _ _ _ _):=hid (by rwa [<-c]);clear h c d r;go_enter func98,ntmps98
 go_wp2_with fail
 refine Zm fun W g=>?_;have f:Below _ w W:=g▸Zbal;have o:Hid (BAt W _ _ 159):=g▸(show BAt _ _ _ _ from bnw);have a:=hid (l.below f);clear g f l;generalize w.heap.size=ab at *
 refine(Zfz W t n v (by have:=a.st;rwa [Ybz]at this) Om).mono ?_;rintro e z ⟨rfl,i,j⟩;have p:=hid (a.qk i j).1;have q:=hid (a.qk i j).2;clear a i j o q;go_wp2;exact bodyPost_end (results_none rfl _ _ _) rfl ⟨rfl,hid ⟨_,_,_,_,p⟩⟩
theorem ZAu{C:World}{c0 c1 c2 c3 al:Value}(h:PInv w0 C w mb x gb gx c0 c1 c2 c3 al t ser m sa sn sc vs){V:VV}(f:m.jz=.inl V::ys)(g:m.jz.length<=64) :
  Zcu w0 C w mb x gb gx 4 arg c0 c1 c2 c3 al t ser ⟨.inl (negV V)::ys,m.jy⟩:=by
 unfold Zcu;obtain⟨v,vs',n,rfl,rfl,_,G⟩:=h.top f;have H:n<=64:=by rw[f,Yaj]at g;omega
 have D:Hid (PInv _ _ w _ x _ _ _ _ _ _ _ t _ ⟨.inl V::ys,m.jy⟩ _ _ _ _):=hid (by rwa [<-f]);clear h f g G;go_enter func98,ntmps98
 go_wp2_with fail
 refine Zm fun W s=>?_;have i:Below _ w W:=s▸Zbal;have E:Hid (BAt W _ _ 159):=s▸(show BAt _ _ _ _ from bnw);have a:=hid (D.below i);clear s i D;generalize w.heap.size=ab at *
 refine(Zfz W t n v (by have:=a.st;rwa [Ybz]at this) Om).mono ?_;rintro e z ⟨rfl,A,B⟩;have j:=hid (a.qk A B).1;have k:=hid (a.qk A B).2;clear a A B E
 go_wp2_with fail
 refine(ZmQ v V k).mono ?_;rintro e I ⟨v3,rfl,l,o⟩;have c:=hid (j.below o);have d:Hid (PelV _ ser t _ (.inl _)):=l;clear j k l o;obtain⟨ty,u,rfl⟩:=d.shape
 go_wp2_with fail
 refine(Zgm t n _ u c.st Om c.bel.size).mono ?_;rintro e J ⟨rfl,p,q⟩;obtain⟨g9,n9,r⟩:=p.out;have F:=hid (c.pushed d r q);clear r p q;clear c d;go_wp2;exact bodyPost_end (results_none rfl _ _ _) rfl ⟨rfl,hid ⟨_,_,_,_,F⟩⟩
theorem ZAv{G:World}{c0 c1 c2 c3 al:Value}(h:PInv w0 G w mb x gb gx c0 c1 c2 c3 al t ser m sa sn sc vs)(hd:Dst ser)(T:ser.length<=30)(P:arg<=4){a:Nd}{k:Nat}(g:m.jz=.inr (a,k)::ys)(j:m.jz.length<=64) :
  Zcu w0 G w mb x gb gx 2 arg c0 c1 c2 c3 al t ser ⟨.inl (.inr (Zc4 ser a (some arg) k t))::ys,m.jy⟩:=by
 unfold Zcu;obtain⟨v,vs',n,rfl,rfl,_,Q⟩:=h.top g;have U:n<=64:=by rw[g,Yaj]at j;omega
 have H:Hid (PInv _ _ w _ x _ _ _ _ _ _ _ t _ ⟨.inr (a,k)::ys,m.jy⟩ _ _ _ _):=hid (by rwa [<-g]);clear h g j Q;have I:=hid hd;clear hd;go_enter func98,ntmps98
 go_wp2_with fail
 refine Zm fun W D=>?_;have l:Below _ w W:=D▸Zbal;have o:Hid (BAt W _ _ 159):=D▸(show BAt _ _ _ _ from bnw);have c:=hid (H.below l);clear D l H;generalize w.heap.size=ab at *
 refine(Zfz W t n v (by have:=c.st;rwa [Ybz]at this) Om).mono ?_;rintro e z ⟨rfl,E,i⟩;have p:=hid (c.qk E i).1;have q:=hid (c.qk E i).2;have f:=hid (ZhN o i c.st.box Dc);clear c E i o;obtain⟨rv,rs,rfl,J,F⟩:=q.out;have K:=hid J;have L:=hid F
 have M:rs.length<=30:=by
  have R:=congrArg List.length F;rw[Yak]at R;have V:=ZmZ ser a k t;omega
 clear J F q;have S:∀W:World,(Instr.typeAssert (.iface 299 rv) 196 299 true).run prog W=.ok (.tuple #[rv,.bool true]) W:=fun W=>by kernel_rfl
 have a1:=f.cell 1;have N:=f.lt;simp only[Zget]at a1
 go_wp2_with fail
 refine(ZrE _ P _ _ _ a k t K L I M).mono ?_;rintro e X ⟨v3,is3,rfl,r,s⟩;have d:=hid (p.below s);have u:Hid (PelV _ ser t _ (.inl (.inr _))):=hid ⟨_,_,rfl,r⟩;clear p r s f K L I a1 N
 go_wp2_with fail
 refine(Zgm t n 284 _ d.st Om d.bel.size).mono ?_;rintro e Y ⟨rfl,A,B⟩;obtain⟨g9,n9,C⟩:=A.out;have O:=hid (d.pushed u C B);clear C A B;clear d u;go_wp2;exact bodyPost_end (results_none rfl _ _ _) rfl ⟨rfl,hid ⟨_,_,_,_,O⟩⟩
theorem ZAp{H:World}{c0 c1 c2 c3 al:Value}(h:PInv w0 H w mb x gb gx c0 c1 c2 c3 al t ser m sa sn sc vs)(O:arg<=3){X Y:VV}(k:m.jz=.inl Y::.inl X::ys)(l:m.jz.length<=64)(J:VOk 1000 Y) :
  Zcu w0 H w mb x gb gx 3 arg c0 c1 c2 c3 al t ser ⟨.inl (Zdg arg X Y)::ys,m.jy⟩:=by
 unfold Zcu;obtain⟨v,vs',n,rfl,rfl,_,P⟩:=h.top k;have Q:n<=64:=by rw[k,Yaj]at l;omega
 have K:Hid (PInv w0 H w mb x gb gx c0 c1 c2 c3 al t ser ⟨.inl Y::.inl X::ys,m.jy⟩ sa (n+1) sc (v::vs')):=by rwa [<-k]
 have L:=hid J;clear h k l P J;go_enter func98,ntmps98
 go_wp2_with fail
 refine Zm fun W I=>?_;have o:Below _ w W:=I▸Zbal;have p:Hid (BAt W _ _ 159):=I▸(show BAt _ _ _ _ from bnw);have d:=hid (K.below o);clear I o K;generalize w.heap.size=ab at *
 refine(Zfz W t n v (by have:=d.st;rwa [Ybz]at this) Om).mono ?_;rintro e z ⟨rfl,f,c⟩;have a:=hid (d.qk f c).1;have q:=hid (d.qk f c).2;have r:=hid (ZhN p c d.st.box Dc);clear d f c p;obtain⟨v1,vs1,n1,rfl,rfl,_,_⟩:=a.top rfl
 go_wp2_with fail
 refine(Zfz _ t _ _ (by have:=a.st;rwa [Ybz]at this) Om).mono ?_;rintro e R ⟨rfl,f,c⟩;have s:=hid (a.qk f c).1;have A:=hid (a.qk f c).2;have B:=hid (q.y ((MKeep.ofG c _).y a.st.box a.st.own));have i:=hid (ZhN r c a.st.box Dc);clear a q f c r;have a1:=i.cell 1;have M:=i.lt;simp only[Zget]at a1;have S:IntKind.i64.wrap (1+(arg))=((arg+1:Nat)):=by rw[Ybo];omega
 go_wp2_with fail
 refine(ZmH _ O _ v X Y _ A B L).mono ?_;rintro e T ⟨v4,rfl,C,D⟩;have g:=hid (s.below D);have j:Hid (PelV _ ser t _ (.inl _)):=C;clear s A B L i a1 M C D;obtain⟨ty,u,rfl⟩:=j.shape
 go_wp2_with fail
 refine(Zgm t _ _ u g.st Om g.bel.size).mono ?_;rintro e U ⟨rfl,E,F⟩;obtain⟨g9,n9,G⟩:=E.out;have N:=hid (g.pushed j G F);clear G E F;clear g j;go_wp2;exact bodyPost_end (results_none rfl _ _ _) rfl ⟨rfl,hid ⟨_,_,_,_,N⟩⟩
theorem ZAt{D:World}{c0 c1 c2 c3 al:Value}(h:PInv w0 D w mb x gb gx c0 c1 c2 c3 al t ser m sa sn sc vs)(M:arg<16){y:Cl}(E:m.jy.getD arg none=some y)(F:m.jz.length<64) :
  Zcu w0 D w mb x gb gx 13 arg c0 c1 c2 c3 al t ser ⟨y::m.jz,m.jy⟩:=by
 unfold Zcu;have O:sn<64:=by have:=h.num;omega
 have G:=hid h;clear h F;go_enter func98,ntmps98
 go_upto_region 25 with fail
 refine ZP fun W A=>?_;have o:Below _ w W:=A▸Zbal;have j:Hid (BAt W _ _ 159):=A▸(show BAt _ _ _ _ from bnw);have c:=hid (G.below (o.drew));clear A o G;generalize w.heap.size=ab at *
 have abW:=j.lt;have mbW:mb<W.heap.size:=c.st.box.lt;obtain⟨gs,es,cl,f,p⟩:=c.slo;obtain⟨v,hg,B⟩:=p _ y E;obtain⟨ty,u,rfl⟩:=B.shape;have H:=hid B;have q:=fun n k=>ZyF f M hg n k;have g:=f.heap;generalize I:Obj.map es cl=ob at g;have l:∀n:World,n.heap[x]?=some _->(Instr.lookup _ _ _ _).run _ _=.ok _ _:=fun n k=>q _ (k.trans g.symm);clear q I f p hg B E;refine Zbn 8 (fun C=>C.cell? _=some _/\C.cell? _=some _/\C.heap[x]?=some _) Kr (⟨c.st.box.cell 7,j.cell 1,g⟩) (fun a=>?_);clear g;refine Za 0 a (h:=?_);refine Za 1 a (h:=?_);refine Za 2 a (h:=?_);refine Za 3 a (h:=?_);refine Za 4 a (h:=?_);refine Za 5 a (h:=?_);refine Za 6 a (h:=?_);refine ZeD (i:=7) (d:=132) (v:=?v7) rfl rfl Kr (fun _ _ _ h=>h) (Or.inl ⟨by rfl,?hy7⟩) a ?rs7
 case hy7=>(intro w hSw;have N:=l w hSw.2.2;go_simp;try with_reducible rfl)
 case rs7=>
 try simp only[Zset]
 refine Zbl Kr Kr rfl Kr (fun K J=>?_);go_simp;refine(Zgm t _ _ u c.st Om c.bel.size).mono ?_;rintro e P ⟨rfl,r,s⟩;obtain⟨g9,n9,z⟩:=r.out;have L:=hid (c.pushed H z s);clear z r s;clear a j c H l;go_simp;refine J _ _ ?_;clear J K;go_wp2;exact bodyPost_end (results_none rfl _ _ _) rfl ⟨rfl,hid ⟨_,_,_,_,L⟩⟩
theorem ZAx{I:World}{c0 c1 c2 c3 al:Value}(h:PInv w0 I w mb x gb gx c0 c1 c2 c3 al t ser m sa sn sc vs)(N:arg<16)(R:m.jy.length=16){y:Cl}(r:m.jz=y::ys)(A:m.jz.length<=64) :
  Zcu w0 I w mb x gb gx 12 arg c0 c1 c2 c3 al t ser ⟨ys,m.jy.set arg (some y)⟩:=by
 unfold Zcu;obtain⟨v,vs',n,rfl,rfl,_,S⟩:=h.top r;have V:n<=64:=by rw[r,Yaj]at A;omega
 have O:Hid (PInv _ _ w _ x _ _ _ _ _ _ _ t _ ⟨y::ys,m.jy⟩ _ _ _ _):=hid (by rwa [<-r]);clear h r A S;go_enter func98,ntmps98
 go_upto_region 23 with fail
 refine ZP fun W J=>?_;have B:Below _ w W:=J▸Zbal;have g:Hid (BAt W _ _ 159):=J▸(show BAt _ _ _ _ from bnw);have c:=hid (O.below (B.drew));have C:=hid (g.below (Yaf _ _).drew);clear J B O;generalize w.heap.size=ab at *
 have abW:=g.lt;have mbW:mb<W.heap.size:=c.st.box.lt;refine Zbn 8 (fun P=>P.cell? _=some _/\P.cell? _=some _) Kr (⟨c.st.box.cell 7,g.cell 1⟩) (fun a=>?_);refine Za 0 a (h:=?_);refine Za 1 a (h:=?_);refine Za 2 a (h:=?_);refine Za 3 a (h:=?_);refine Za 4 a (h:=?_);refine Za 5 a (h:=?_);refine Za 6 a (h:=?_);refine Z4 (i:=7) Kr rfl (fun K p=>?_);go_simp;refine(Zfz _ t n v (by have:=c.st;rwa [Ybz]at this) Om).mono ?_;rintro e o ⟨rfl,L,s⟩;have k:=hid (c.qk L s).1;have D:=hid (c.qk L s).2;have E:=hid (ZhN C s c.st.box Dc);clear L s c g C;go_simp;refine p _ _ ⟨k.st.box.cell 7,E.cell 1⟩ (fun a=>?_);clear p K
 try simp only[Act.put,Zset]
 obtain⟨gs,es,cl,d,F⟩:=k.slo;obtain⟨es2,cl2,gs2,G,l,q⟩:=ZDF d N v;have M:=G _ rfl
 have Q : Hid (PInv w0 I (setBlock o x (.map es2 cl2)) mb x gb gx c0 c1 c2 c3 al t ser ⟨ys, m.jy.set arg (some y)⟩ sa n sc vs') := hid (k.stored rfl ⟨gs2, es2, cl2, l o (Yae.1 d.heap).1, fun j z f => by
   have H:ZbL o (setBlock o x (.map es2 cl2)):=(Zo.belX (BelX.set x o.heap.size o _) ⟨es,cl,d.heap⟩).y;rw[q];rw[Yaa,Ya0]at f;by_cases e:arg=j
   · rw[if_pos e,if_pos (by rw[R];exact N)]at f
     injection f with f;subst f;exact⟨v,if_pos e,D.y H⟩
   · rw[if_neg e]at f
     rw[<-Yaa]at f;obtain⟨u,T,U⟩:=F j z f;exact⟨u,by rw[if_neg e];exact T,U.y H⟩⟩)
 clear G l q d F k E D;refine Zbl Kr Kr rfl Kr (fun K p=>?_);go_simp;refine p _ _ ?_;clear p K a M;go_wp2;exact bodyPost_end (results_none rfl _ _ _) rfl ⟨rfl,hid ⟨_,_,_,_,Q⟩⟩
theorem PCode.below{c0 c1 c2 c3 al:Value}(h:PCode w c ss c0 c1 c2 c3 al)(a:BW w w'):PCode w' c ss c0 c1 c2 c3 al:=⟨h.cod.below a,h.sto.below a,h.dst⟩
theorem ZAq{o:World}{c0 c1 c2 c3 al:Value}(h:PInv w0 o w mb x gb gx c0 c1 c2 c3 al t ser m sa sn sc vs)(p:PCode w0 c ss c0 c1 c2 c3 al)(q:arg<c.jj.length)(r:vOk (c.jj.getD arg 0))(s:m.jz.length<64) :
  Zcu w0 o w mb x gb gx 0 arg c0 c1 c2 c3 al t ser ⟨.inl (.inl (c.jj.getD arg 0))::m.jz,m.jy⟩:=by
 unfold Zcu;have f:=(p.cod.below h.bel).cs;obtain⟨gc,cc,z⟩:=ZF f Om;subst z;have k0:=Zi f _ (.int _ (c.jj.getD _ 0)) (by rw[Ya2,List.getElem?_eq_getElem q,Yaa,List.getElem?_eq_getElem q];rfl);have gcl:=Z1 f;have H:sn<64:=by have:=h.num;omega
 have A:=hid h;have F:=hid r;generalize c.jj.getD arg 0=v at *
 generalize c.jj.length=nc at *
 have I:(arg:Int)<(nc):=by omega
 have B:Hid (∀C:World,Below _ w _->C.cell? _=some _):=hid (fun C G=>(G.cell gcl).trans k0);clear h p f k0 s r;go_enter func98,ntmps98
 go_upto_region 3 with fail
 refine ZP fun W n=>?_;have g:Below _ w W:=n▸Zbal;have i:Hid (BAt W _ _ 159):=n▸(show BAt _ _ _ _ from bnw);have d:=hid (A.below (g.drew));have q2:=B W g;have gcW:=Yaw gcl g.size;clear n g A B gcl;generalize w.heap.size=ab at *
 have abW:=i.lt;have mbW:mb<W.heap.size:=d.st.box.lt;refine Zbn 11 (fun u=>u.cell? _=some _/\u.cell? _=some _/\u.cell? _=some _) Kr (⟨d.st.box.cell 0,i.cell 1,q2⟩) (fun a=>?_);clear q2;refine Za 0 a (h:=?_);refine Za 1 a (h:=?_);refine Za 2 a (h:=?_);refine Za 3 a (h:=?_);refine Za 4 a (h:=?_);refine Za 5 a (h:=?_);refine Za 6 a (h:=?_);refine Za 7 a (h:=?_);refine Za 8 a (h:=?_);refine Za 9 a (h:=?_);refine Za 10 a (h:=?_);refine Zbl Kr Kr rfl Kr (fun K D=>?_);go_simp;refine(Zgm t _ 282 _ d.st Om d.bel.size).mono ?_;rintro e J ⟨rfl,j,k⟩;obtain⟨g9,n9,l⟩:=j.out;have E:=hid (d.pushed (y:=.inl (.inl v)) ⟨rfl,F⟩ l k);clear l j k;clear a i d;go_simp;refine D _ _ ?_;clear D K;go_wp2;exact bodyPost_end (results_none rfl _ _ _) rfl ⟨rfl,hid ⟨_,_,_,_,E⟩⟩
theorem ZAw{U:World}{c0 c1 c2 c3 al:Value}(h:PInv w0 U w mb x gb gx c0 c1 c2 c3 al t ser m sa sn sc vs)(V:PCode w0 c ss c0 c1 c2 c3 al)(he:ser=ss.map Srs.ser)(ha:arg<c.ju.length)(R:(c.ju.getD arg nd00).2<=1000)(X:m.jz.length<64)(Y : -1000000<=t)(Z:t<=1000000) :
  Zcu w0 U w mb x gb gx 1 arg c0 c1 c2 c3 al t ser ⟨Zdl ser t (c.ju.getD arg nd00)::m.jz,m.jy⟩:=by
 unfold Zcu;have l:=V.below h.bel;obtain⟨xs,d,r,G⟩:=l.cod.ps;have H:xs.length=c.ju.length:=by rw[<-r,Yak]
 have o:arg<xs.length:=by omega
 obtain⟨gp,pc,a0⟩:=ZF d Om;subst a0;obtain⟨e0,e1,e2⟩:=ZoU _ _ o;have k0:=Zi d _ _ e0;have k1:=Zi d _ _ e1;have k2:=Zi d _ _ e2;have gpl:=Z1 d;have I:=G _ (List.getElem_mem o);have J:c.ju.getD arg nd00=xs[arg].pr:=by rw[<-r,Yaa,Ya2,List.getElem?_eq_getElem o];rfl
 rw[J]at R ⊢;rw[H]at d;generalize xs[arg]=p at *
 have a3:sn<64:=by have:=h.num;omega
 have HI:=hid h;have L:=hid I;have s:=hid l.sto;have v:=hid l.dst;have a1:p.n<=1000:=R;have a4:=o;generalize xs.length=np at *
 have a5:(arg:Int)<(np):=by omega
 have HK:Hid (∀E:World,Below _ w _->E.cell? _=some _/\E.cell? _=some _/\E.cell? _=some _):=hid (fun E S=>⟨(S.cell gpl).trans k0,(S.cell gpl).trans k1,(S.cell gpl).trans k2⟩);clear h V l d k0 k1 k2 e0 e1 e2 X G I r J R ha H;subst he;go_enter func98,ntmps98
 go_upto_region 5 with fail
 refine ZP fun W T=>?_;have f:Below _ w W:=T▸Zbal;have q:Hid (BAt W _ _ 159):=T▸(show BAt _ _ _ _ from bnw);have j:=hid (HI.below (f.drew));obtain⟨q0,q1,q2⟩:=HK.out W f;have A:=hid (L.below f.drew);have M:=hid (s.below f.drew);have gpW:=Yaw gpl f.size;clear T f HI HK gpl L s;generalize w.heap.size=ab at *
 have abW:=q.lt;have mbW:mb<W.heap.size:=j.st.box.lt;have F:Hid (W.cell? _=some _/\W.cell? _=some _/\W.cell? _=some _):=hid ⟨q0,q1,q2⟩;refine Zbn 12 (fun B=>B.cell? _=some _/\B.cell? _=some _/\B.cell? _=some _/\B.cell? _=some _/\B.cell? _=some _) Kr (⟨j.st.box.cell 1,q.cell 1,q0,q1,q2⟩) (fun a=>?_);clear q0 q1 q2;refine Za 0 a (h:=?_);refine Za 1 a (h:=?_);refine Za 2 a (h:=?_);refine Za 3 a (h:=?_);refine Za 4 a (h:=?_);refine Za 5 a (h:=?_);refine Za 6 a (h:=?_);refine Za 7 a (h:=?_);refine Za 8 a (h:=?_);refine Za 9 a (h:=?_);refine Za 10 a (h:=?_);refine Z4 (i:=11) Kr rfl (fun K C=>?_);go_simp;refine(Zy3 t j.st.box M v A.nm A.cs a1 Y Z).mono ?_;rintro e z ⟨v2,rfl,D,g⟩;obtain⟨ty,u,rfl⟩:=D.shape;go_simp;have k:=hid (j.below g);have N:=hid ((q.below (Yaf _ _).drew).below g);refine C _ _ ⟨k.st.box.cell 1,N.cell 1,(g.cell gpW).trans F.1,(g.cell gpW).trans F.2.1,(g.cell gpW).trans F.2.2⟩ (fun a=>?_);clear C K g j q F A M v
 try simp only[Act.put,Zset]
 refine Zbl Kr Kr rfl Kr (fun K C=>?_);go_simp;refine(Zgm t _ _ u k.st Om k.bel.size).mono ?_;rintro e w9 ⟨rfl,O,P⟩;obtain⟨g9,n9,Q⟩:=O.out;have a2:=hid (k.pushed D Q P);clear Q O P;clear a N k D;go_simp;refine C _ _ ?_;clear C K;go_wp2;exact bodyPost_end (results_none rfl _ _ _) rfl ⟨rfl,hid ⟨_,_,_,_,a2⟩⟩
theorem ZAs{wk:World}{c0 c1 c2 c3 al:Value}(h:PInv w0 wk w mb x gb gx c0 c1 c2 c3 al t ser m sa sn sc vs)(h5:5<=op)(h8:op<=8)(hc:PCode w0 c ss c0 c1 c2 c3 al)(ha:arg<c.jw.length)(J:m.jz=.inl (.inr l)::ys)(N:m.jz.length<=64) :
  Zcu w0 wk w mb x gb gx op arg c0 c1 c2 c3 al t ser ⟨.inl (.inr (Zcv (op - 5) (c.jw.getD arg []) l))::ys,m.jy⟩:=by
 unfold Zcu;have O:=hc;obtain⟨xs,j,r,P⟩:=O.cod.gs;have a3:xs.length=c.jw.length:=by rw[<-r,Yak]
 have s:arg<xs.length:=by omega
 obtain⟨gp,pc,a4⟩:=ZF j Om;subst a4;have k0:=Zi j _ (.slice _ _ _) (by unfold ZfZ;rw[Ya2,List.getElem?_eq_getElem s];rfl);have gpl:=Z1 j;obtain⟨bs,A,k,B,a8⟩:=P _ (List.getElem_mem s);have Q:c.jw.getD arg []=xs[arg].ns:=by rw[<-r,Yaa,Ya2,List.getElem?_eq_getElem s];rfl
 rw[Q,<-ZpJ B];generalize xs[arg]=p at *
 have C:=hid A;have R:Hid (NmS _):=hid (Ybx.1 k);have HK:Hid (∀W':World,Below _ _ _->W'.cell? _=some _):=hid (fun W' hb=>(hb.cell gpl).trans k0);generalize xs.length=np at *
 have a9:(arg:Int)<(np):=by omega
 clear hc O j k0 P r Q A k B ha a3;obtain⟨v,vs',n,rfl,rfl,_,hn⟩:=h.top J;have hk:n<=64:=by rw[J,Yaj]at N;omega
 have HI:Hid (PInv _ _ w _ x _ _ _ _ _ _ _ t _ ⟨.inl _::ys,m.jy⟩ _ _ _ _):=hid (by rwa [<-J]);clear h J N hn;have a7:IntKind.i64.wrap ((op) - 5)=((op - 5:Nat)):=by rw[Ybo];omega
 have a5:op - 5<=3:=by omega
 have o0:¬((op:Int)=0):=by omega
 have o1:¬((op:Int)=1):=by omega
 have o2:¬((op:Int)=2):=by omega
 have o3:¬((op:Int)=3):=by omega
 have o4:¬((op:Int)=4):=by omega
 go_enter func98,ntmps98
 go_upto_region 14 with fail
 refine ZP fun W hW=>?_;have S:Below _ w W:=hW▸Zbal;have T:Hid (BAt W _ _ 159):=hW▸(show BAt _ _ _ _ from bnw);have g:=hid (HI.below S);clear hW S HI o0 o1 o2 o3 o4;generalize w.heap.size=ab at *
 go_upto_if 77 with fail
 go_cut [77] (fun s77 wx=>s77=.bool true/\wx=W)
 case first=>
  rcases(by omega:op=5∨op=6∨op=7∨op=8)with rfl|rfl|rfl|rfl <;> (go_wp2;go_meet;exact⟨rfl,rfl⟩)
 case rest=>
 obtain⟨rfl,rfl⟩:=hcut
 go_wp2_with fail
 refine(Zfz _ t n v (by have:=g.st;rwa [Ybz]at this) Om).mono ?_;rintro e z ⟨rfl,HP,L⟩;have o:=hid (g.qk HP L).1;have U:=hid (g.qk HP L).2;have D:=hid (ZhN T L g.st.box Dc);clear g HP L T;obtain⟨s2,is2,rfl,E⟩:=U.out;obtain⟨ra,rc,rfl⟩:=Zl E.row;have V:=hid E;clear E U;have b0:=asVV (.slice ra is2.length rc)
 go_upto_region 19 with fail
 have M:Hid (BW z _):=hid (Yaf _ _).drew;have d:=hid (o.below M);have q:=hid (D.below M);have q2:=HK _ d.bel;have X:=hid d.bel;have abW:=D.lt;have mbW:=o.st.box.lt;have gpW:=Yaw gpl o.bel.size;have Y:=hid (V.below M);clear o D V M;refine Zbn 20 (fun u=>u.cell? _=some _/\u.cell? _=some _/\u.cell? _=some _/\u.cell? _=some _/\u.cell? _=some _) Kr (⟨d.st.box.cell 8,q.cell 0,d.st.box.cell 2,q.cell 1,q2⟩) (fun a=>?_);clear q2;refine Za 0 a (h:=?_);refine Za 1 a (h:=?_);refine Za 2 a (h:=?_);refine Za 3 a (h:=?_);refine Za 4 a (h:=?_);refine Za 5 a (h:=?_);refine Za 6 a (h:=?_);refine Za 7 a (h:=?_);refine Za 8 a (h:=?_);refine Za 9 a (h:=?_);refine Za 10 a (h:=?_);refine Za 11 a (h:=?_);refine Za 12 a (h:=?_);refine Za 13 a (h:=?_);refine Za 14 a (h:=?_);refine Za 15 a (h:=?_);refine Za 16 a (h:=?_);refine Za 17 a (h:=?_);refine Z4 (i:=18) Kr rfl (fun K F=>?_);go_simp;refine(ZqW _ _ _ a5 _ _ l _ _ d.gr d.gm (Zn C X) Om R Y).mono ?_;rintro e w3 ⟨v3,is3,rfl,G,H⟩;go_simp;have f:=hid (d.belX H G.2);have I:Hid (BAt _ _ _ _):=hid (Zo.belX H d.gm _ _ _ _ q);refine F _ _ ⟨f.st.box.cell 8,I.cell 0,f.st.box.cell 2,I.cell 1,HK _ f.bel⟩ (fun a=>?_);have Z:Hid (PelV _ ser t _ (.inl (.inr _))):=hid ⟨_,_,rfl,G.1⟩;clear F K H G d q Y X HK C R I
 try simp only[Act.put,Zset]
 refine Za 19 a (h:=?_);refine Zbl Kr Kr rfl Kr (fun K F=>?_);go_simp;refine(Zgm t n 284 _ f.st Om f.bel.size).mono ?_;rintro e w9 ⟨rfl,a0,a1⟩;obtain⟨g9,n9,a2⟩:=a0.out;have a6:=hid (f.pushed Z a2 a1);clear a2 a0 a1;clear a f Z;go_simp;refine F _ _ ?_;clear F K;go_wp2;exact bodyPost_end (results_none rfl _ _ _) rfl ⟨rfl,hid ⟨_,_,_,_,a6⟩⟩
theorem ZAo{C:World}{i:Nat}{c0 c1 c2 c3 al:Value}{st tl st' tl':List Nat}(h:PInv w0 C w mb x gb gx c0 c1 c2 c3 al t (ss.map Srs.ser) m sa sn sc vs)(u:PCode w0 c ss c0 c1 c2 c3 al)(D:CodeB c)(E : -1000000<=t)(F:t<=1000000)(L:op<=13)(R:op≠9)(M:op≠10)(p:Zy c i (op,arg)=true)(hT:Typd (ss.map Srs.ser).length st tl m)(N:st.length<=64)(f:Zt c (op,arg) st tl=some (st',tl')) :
  Zcu w0 C w mb x gb gx op arg c0 c1 c2 c3 al t (ss.map Srs.ser) (doE (ss.map Srs.ser) t c (op,arg) m):=by
 have G:m.jz.length=st.length:=by rw[<-hT.jz,Yak]
 have B:(ss.map Srs.ser).length<=30:=by rw[Yak];exact u.sto.len
 have H:(ss.map Srs.ser).length<=1000:=by omega
 rcases(by omega:op=0∨op=1∨op=2∨op=3∨op=4∨op=11∨op=12∨op=13∨(op=5∨op=6∨op=7∨op=8))with rfl|rfl|rfl|rfl|rfl|rfl|rfl|rfl|hg
 ·have j:arg<c.jj.length:=by simpa [Zy] using p
  exact ZAq h u j (D.cs _ (ZpA j)) (by have:=ZmX (f);omega)
 ·have j:arg<c.ju.length:=by simpa [Zy] using p
  have I:=D.ps _ (ZpA (d:=nd00) j);exact ZAw h u rfl j I.1 (by have:=ZmX (f);omega) E F
 ·have j:arg<=4:=by
   have:arg<5:=by simpa [Zy] using p
   omega
  cases st with
  | nil=>cases f
  | cons k r=>
   simp only[Zt]at f;split at f
   ·rename_i q;subst q;obtain⟨y,rs,g,l,o,s⟩:=hT.pop;obtain⟨a,n,rfl⟩:=Zqj l;have e:doE (ss.map Srs.ser) t c (2,arg) m=⟨.inl (.inr (Zc4 (ss.map Srs.ser) a (some arg) n t))::rs,m.jy⟩:=by simp only[doE,g]
    rw[e];exact ZAv h u.dst B j g Om
   simp_all
 ·have j:arg<=3:=by
   have:arg<4:=by simpa [Zy] using p
   omega
  cases st with
  | nil=>cases f
  | cons ky r=>
   cases r with
   | nil=>cases f
   | cons kz r=>
    simp only[Zt]at f;split at f
    ·rename_i q;rw[Yas]at q;obtain⟨y,rs,g,l,o,s⟩:=hT.pop;obtain⟨z,qs,A,J,O,P⟩:=s.pop;have A:rs=z::qs:=A;subst A;obtain⟨vy,rfl⟩:=Zgl (l▸q.2);obtain⟨vz,rfl⟩:=Zgl (J▸q.1);have e:doE (ss.map Srs.ser) t c (3,arg) m=⟨.inl (Zdg arg vz vy)::qs,m.jy⟩:=by simp only[doE,g];rfl
     rw[e];exact ZAp h j g Om (VOk.more H o)
    simp_all
 ·cases st with
  | nil=>cases f
  | cons ky r=>
   simp only[Zt]at f;split at f
   ·rename_i q;obtain⟨y,rs,g,l,o,s⟩:=hT.pop;obtain⟨vy,rfl⟩:=Zgl (by rwa [l]);have e:doE (ss.map Srs.ser) t c (4,arg) m=⟨.inl (negV vy)::rs,m.jy⟩:=by simp only[doE,g];rfl
    rw[e];exact ZAu h g Om
   simp_all
 ·cases st with
  | nil=>cases f
  | cons k r=>
   obtain⟨y,rs,g,l,o,s⟩:=hT.pop;have e:doE (ss.map Srs.ser) t c (11,arg) m=⟨rs,m.jy⟩:=by simp only[doE,g];rfl
   rw[e];exact ZAr h g Om
 ·cases st with
  | nil=>cases f
  | cons k r=>
   have j:arg<16:=by simpa [Zy] using p
   obtain⟨y,rs,g,l,o,s⟩:=hT.pop;have e:doE (ss.map Srs.ser) t c (12,arg) m=⟨rs,m.jy.set arg (some y)⟩:=by simp only[doE,g]
   rw[e];exact ZAx h j hT.len g Om
 ·have j:arg<16:=by simpa [Zy] using p
  simp only[Zt]at f;split at f
  ·cases f
  ·rename_i K;obtain⟨y,l,q⟩:=hT.jy _ K;have e:doE (ss.map Srs.ser) t c (13,arg) m=⟨y::m.jz,m.jy⟩:=by simp only[doE,l]
   rw[e];exact ZAt h j l (by have:=ZmX f;omega)
 ·have key:∃r,st=2::r:=by
   cases st with
   | nil=>rcases hg with rfl|rfl|rfl|rfl <;> cases f
   | cons k r=>
    have Q:(if k=2 then ZE 2 r tl else none)=some (st',tl'):=by rcases hg with rfl|rfl|rfl|rfl <;> exact f
    simp_all
  obtain⟨r,rfl⟩:=key;obtain⟨y,rs,g,l,o,s⟩:=hT.pop;obtain⟨v,rfl⟩:=Zet l;have j:arg<c.jw.length:=by rcases hg with rfl|rfl|rfl|rfl <;> simpa [Zy] using p
  have e:doE (ss.map Srs.ser) t c (op,arg) m=⟨.inl (.inr (Zcv (op - 5) (c.jw.getD arg []) v))::rs,m.jy⟩:=by
   rcases hg with rfl|rfl|rfl|rfl <;> (simp only[doE,g];rfl)
  rw[e];exact ZAs h Om Om u j g Om
def RunC(A:Nat->Addr)(o:Option (List (LB)×Nat))(r:BA)(err:Value):Prop:=match o with
 | none=>r=⟨#[]⟩/\err=.iface 432 (.pointer (some (A 12)))
 | some z=>bl r=Zcn z.1/\err=.nilIface
theorem Zy4(j:Nat)(y:Cl)(c:mq0.jy.getD j none=some y):False:=by
 have d:(List.replicate 16 (none:Option Cl)).getD j none=none:=by rw[Yaa,Ybs];split <;> rfl
 have a:=c;unfold mq0 at a;rw[d]at a;cases a
structure PIdle (w0 w:World) (mb x gb gx:Nat) (c0 c1 c2 c3 al:Value) (t:Int) (sa:Option Addr) (sn sc:Nat) (vs:List Value):Prop where
 st:PSt w w0.heap.size mb c0 c1 c2 c3 al t (.map (some x)) (Vp gb) sa sn sc vs
 mp:∃gs es cl,MapI w x gs es cl
 gr:BAt w gb [.map (some gx)] 281
 gm:MapX w gx
 bel:BW w0 w
 lm:w0.heap.size<=mb
 lx:w0.heap.size<=x
 lg:w0.heap.size<=gx
 ne:x≠gx
theorem PInv.idle{a:World}{c0 c1 c2 c3 al:Value}(h:PInv w0 a w mb x gb gx c0 c1 c2 c3 al t ser m sa sn sc vs):PIdle w0 w mb x gb gx c0 c1 c2 c3 al t sa sn sc vs.reverse:=by
 obtain⟨gs,es,cl,c,_⟩:=h.slo;exact⟨h.st,⟨gs,es,cl,c⟩,h.gr,h.gm,h.bel,h.lm,h.lx,h.lg,h.ne⟩
theorem PIdle.below{c0 c1 c2 c3 al:Value}(h:PIdle w0 w mb x gb gx c0 c1 c2 c3 al t sa sn sc vs)(a:BW w w'):PIdle w0 w' mb x gb gx c0 c1 c2 c3 al t sa sn sc vs:=by
 obtain⟨gs,es,cl,c⟩:=h.mp;exact⟨h.st.below a,⟨gs,es,cl,c.moved (a.block x (Yae.1 c.heap).1)⟩,h.gr.below a,h.gm.below a,h.bel.trans (a.mono h.bel.size),h.lm,h.lx,h.lg,h.ne⟩
theorem PIdle.grown{c0 c1 c2 c3 al:Value}(h:PIdle w0 w mb x gb gx c0 c1 c2 c3 al t sa sn sc vs)(a:w.ownsRow w0.heap.size 9 1 v n xs)(hg:w.grownBy w' v.ownBlock):PIdle w0 w' mb x gb gx c0 c1 c2 c3 al t sa sn sc vs:=by
 obtain⟨gs,es,cl,c⟩:=h.mp;obtain⟨es2,cl2,d⟩:=h.gm;exact⟨⟨h.st.box.ownGrownR a hg Dc,ZmB h.st.own a hg Dc,h.st.len⟩,⟨gs,es,cl,c.moved (hg.block x (Yae.1 c.heap).1 (Zmh c.heap a))⟩,h.gr.ownGrownR a hg Dc,⟨es2,cl2,(hg.block _ (Yae.1 d).1 (Zmh d a)).trans d⟩,h.bel.grown hg h.bel.size (fun q e=>(a.lt q e).1),h.lm,h.lx,h.lg,h.ne⟩
theorem PIdle.begun{c0 c1 c2 c3 al:Value}{t2:Int}(h:PIdle w0 w mb x gb gx c0 c1 c2 c3 al t sa sn sc vs)(ser:List Ser)(g:PSt w' w0.heap.size mb c0 c1 c2 c3 al t2 (.map (some x)) (Vp gb) sa 0 sc [])(i:MapI w' x [] #[] cl)(f:w'.os=w.os/\w'.tape=w.tape/\w'.output=w.output/\w.heap.size<=w'.heap.size/\∀k,k≠mb->k≠x->w'.heap[k]?=w.heap[k]?):PInv w0 w w' mb x gb gx c0 c1 c2 c3 al t2 ser mq0 sa 0 sc []:=by
 obtain⟨k1,k2,k3,k4,k5⟩:=f;obtain⟨es,cg,hg⟩:=h.gm;obtain⟨_,es0,cl0,l⟩:=h.mp
 have a : ZbL w _ := fun b c T fr m _ d => (k5 b (fun e => by
   rw[e]at d;have:=d.symm.trans h.st.box;injection this with this;injection this with _ this _;exact m this) (fun e=>ZjJ l.heap d e.symm)).trans d
 exact⟨g,⟨[],#[],cl,i,fun j y a=>(Zy4 j y a).elim⟩,a _ _ _ _ Dc Dc h.gr,⟨es,cg,(k5 _ (ZjJ hg h.st.box) (fun e=>h.ne e.symm)).trans hg⟩,trivial,⟨k1.trans h.bel.os,k2.trans h.bel.tape,k3.trans h.bel.output,Yah h.bel.size k4,fun k f=>(k5 k (by have:=h.lm;omega) (by have:=h.lx;omega)).trans (h.bel.block k f)⟩,h.lm,h.lx,h.lg,h.ne,a⟩
theorem ZAW(L:List Ah){ts:List Int}{fuel:Int}{c0 c1 c2 c3 al tv:Value}(A:Nat->Addr)(mx:Int)(Z:Vars w A mx)(hc:PCode w co ss c0 c1 c2 c3 al)(g2:CodeB co)(g3:Flow co L)(l5:co.jq.length<=65535)(b7:∀x∈co.jq,x.1<=13/\x.2<65536)(o8:ts.length<=50)(g4:∀t∈ts,-1000000<=t/\t<=1000000)(a2:w.ownsRow 0 3 1 tv ts.length (ts.map (Value.int .i64)))(hp:ZR w)(hB:20<=w.heap.size) :
  CP 43 #[.agg #[c0,c1,c2,c3],al,tv,Vi fuel] w fun e w'=>∃r err,e=.returned (.tuple #[.string r,err])/\Hid (RunC A (if fuel<0∨1000000<fuel then none else ZbO (ss.map Srs.ser) co fuel.toNat ts) r err)/\BW w w':=by
 obtain⟨i0,hi,g5,g6,g7⟩:=info_parts Tryz.infoStrG;obtain⟨ta,tcp,rfl⟩:=Zl a2;obtain⟨aa,acp,rfl⟩:=Zl hc.sto.row;obtain⟨ia,ic,rfl⟩:=Zl hc.cod.is;have HV:=hid Z;have HC:=hid hc;have l6:=hid g2;have G:=hid g3;have k7:=hid b7;have l7:=hid g4;have b8:=hid a2;have HP:=hid hp;have g8:=hid hB;have g12:w.cell? ⟨12,0,none⟩=some _:=Z.sent _ Dc;have b9:=Yai _ _ g12;simp only at b9;have k8:¬w.heap.size=12:=by omega
 have f9:¬12=w.heap.size:=by omega
 clear Z hc g2 g3 b7 g4 a2 hp hB;generalize ho:(if fuel<0∨1000000<fuel then none else ZbO (ss.map Srs.ser) co fuel.toNat ts)=o;have M:=hid ho;clear ho;go_enter func43,ntmps43;go_wp2
 go_step3
 by_cases a5:fuel<0∨1000000<fuel
 ·have g9:Hid (o=none):=hid (by rw[<-M,if_pos a5]);clear M;rcases a5 with hf|hf
  ·go_wp2
   go_region
   all_goals (try go_wp2)
   all_goals ((try rw[Ycl]);go_ret2;exact⟨_,_,rfl,hid (g9.out▸⟨rfl,rfl⟩),belB⟩)
  ·have l8:¬fuel<0:=by omega
   go_wp2
   go_region
   all_goals (try go_wp2)
   all_goals ((try rw[Ycl]);go_ret2;exact⟨_,_,rfl,hid (g9.out▸⟨rfl,rfl⟩),belB⟩)
 ·rw[if_neg a5]at M;obtain⟨fu,rfl⟩:∃fu:Nat,fuel=fu:=⟨fuel.toNat,by omega⟩
  have k9:fu<=1000000:=by omega
  have l8:¬(fu:Int)<0:=by omega
  have i1:¬(1000000:Int)<(fu):=by omega
  have o9:¬1000000<fu:=by omega
  clear a5;rw[Int.toNat_natCast]at M
  go_wp2_with fail
  refine Zm fun W hW=>?_;have i2:Below _ w W:=hW▸Zbal;have c6:Hid (BAt W _ _ 59):=hW▸(show BAt _ _ _ _ from bnw);have B:=hid i2;clear hW i2;refine(ZAM W W.heap.size).mono ?_;rintro e w1 ⟨mb,rfl,K⟩;have l9:=hid (c6.below K.below);obtain⟨x,gb,gx,i3,T,i4,i5,lx,lgb,lgx,c7⟩:=K.ex;have c8:Hid (PIdle W _ _ x _ _ _ _ _ _ _ 0 _ 0 0 _):=hid ⟨i3,⟨_,_,_,T⟩,i4,i5,K.below,K.old,lx,lgx,c7⟩;clear i3 T i4 i5 lx lgb lgx c7 K;have c9:=hid (HC.below B);have S:=hid (Zn b8 B);have m0:=hid (HV.below B);have m1:=hid (HP.low B g8);have i6:=hid (Yah g8 B.size);have d0:=hid c6.out;clear HC b8 HV HP c6 l9 g12 b9 k8 f9;have i7:=c8.bel.size
  go_wp2_with (at_make;refine wpList_make_own _ rfl _ _ 122 rfl W.heap.size 9 i0 _ 1 underlying122 hi g5 g6 _ _ _ ts.length rfl rfl rfl ?b2 ?b3 ?b4 ?_)
  case b2=>rw[g7];omega
  case b3=>unfold maxLen;omega
  case b4=>exact i7
  intro w2 a6 j;have i8:Below _ _ _:=⟨j.os,j.tape,j.output,j.size,fun k hk=>j.block k hk (by simp)⟩
  have d2:=hid (c8.below i8);have i9:=hid a6;clear i8 j a6 c8 i7;obtain⟨n,hn⟩:∃n,n=co.jq.length:=⟨_,rfl⟩
  have K:=hid hn;rw[<-hn]at l5;rw[<-hn]at d2 d0 ⊢;have m2:Hid (W.ownsRow 0 159 2 (.slice ia n ic) n (ZdL co.jq)):=hid (by rw[hn];exact c9.cod.is);have a7:Hid (PCode W co ss c0 c1 c2 (.slice ia n ic) (.slice aa ss.length acp)):=hid (by rw[hn];exact c9.out);clear hn c9;generalize w.heap.size=xb at d0 ⊢;go_wp2
  go_step3
  go_wp2
  go_loopw [3,11,31] (fun fv lv kv wr=>∃(k fk:Nat) (rs:List BA) (t:Int) (sa:Option Addr) (sn sc:Nat) (vs:List Value),k<=ts.length/\kv=Vi k/\fv=Vi fk/\fk<=1000000/\rs.length=k/\Hid (wr.ownsRow W.heap.size 9 1 lv rs.length (Zbc rs))/\Hid (ZbO (ss.map Srs.ser) co fu (ts.take k)=some (rs.map bl,fk))/\Hid (∀r∈rs,r.size<=40000000000)/\Hid (PIdle W wr mb x gb gx c0 c1 c2 (.slice ia n ic) (.slice aa ss.length acp) t sa sn sc vs)) (fun _ _ kv _=>ts.length - (intOf kv).toNat)
  case atStart=>exact⟨0,fu,[],0,_,_,_,_,Yag _,rfl,rfl,k9,rfl,i9,hid rfl,hid (fun r hr=>by cases hr),d2⟩
  case round=>
   clear d2 i9;obtain⟨k,fk,rs,t,sa,sn,sc,vs,hk,rfl,rfl,m3,j0,HO,d3,HZ,HD⟩:=hrel;have N:=hid j0;clear j0;by_cases d4:k<ts.length
   ·obtain⟨tg,tcp',m4⟩:=ZF S.out Om;injection m4 with htg1 _ htg2;subst htg1 htg2;have d1:=Zi (Zn S HD.bel) k _ (by rw[Ya2,List.getElem?_eq_getElem d4];rfl);have d5:=hid (l7 _ (List.getElem_mem d4))
    have U:Hid (ZbO (ss.map Srs.ser) co fu (ts.take (k+1))=match runE (ss.map Srs.ser) ts[k] co fk 0 mq0 with
     | none=>none
     | some z=>some (rs.map bl++[Zel ts[k] (topE z.2)],z.1)):=by rw[List.take_succ_eq_append_getElem d4,Znq,d3];rfl
    generalize ts[k]=tm at *
    have p0:(k:Int)<(ts.length):=by omega
    have m5:=Z1 (Zn S HD.bel);go_wp2
    go_step3
    go_wp2_with fail
    obtain⟨gs,es,cl,T⟩:=HD.mp;refine(ZAn x t HD.st T).mono ?_;rintro e w4 ⟨rfl,j1,j2,j3⟩;have d6:=hid (HD.begun (ss.map Srs.ser) j1 j2 j3);have m6:=hid (d6.ky.own HO Dc Dc);have j4:=hid d6.re;clear j1 j2 j3 d6 T HD HO d1 m5 d3;go_wp2
    go_step3
    go_wp2;obtain⟨L3,d7⟩:∃L3,L3=u11:=⟨_,rfl⟩
    go_loopw [3,11,14] (fun fv lv iv wq=>∃(i f1:Nat) (m:MQ) (sa1:Option Addr) (sn1 sc1:Nat) (vs1:List Value),lv=L3/\i<=n/\iv=Vi i/\fv=Vi f1/\f1<=1000000/\Hid (runE (ss.map Srs.ser) tm co fk 0 mq0=runE (ss.map Srs.ser) tm co f1 i m)/\Hid ((L.getD i ah0).qy=true/\Typd (ss.map Srs.ser).length (L.getD i ah0).jz (L.getD i ah0).jy m/\m.jz.length<=64)/\Hid (PInv W wq wq mb x gb gx c0 c1 c2 (.slice ia n ic) (.slice aa ss.length acp) tm (ss.map Srs.ser) m sa1 sn1 sc1 vs1)/\Hid (wq.ownsRow W.heap.size 9 1 L3 rs.length (Zbc rs))) (fun _ _ iv _=>n - (intOf iv).toNat)
    case atStart=>exact⟨0,fk,mq0,sa,0,sc,[],d7.symm,Yag _,rfl,rfl,m3,hid rfl,hid ⟨(G.start (ss.map Srs.ser).length).1,(G.start _).2,Yag _⟩,j4,by rwa [d7]⟩
    case round=>
     clear j4 m6;obtain⟨i,f1,m,sa1,sn1,sc1,vs1,e3,p1,rfl,rfl,i1,O,c,d,l⟩:=hrel;subst e3;subst d7;obtain⟨la,lc,rfl⟩:=Zl l;have P:=hid (B.trans (d.bel.mono B.size));have d8:=hid (d0.below d.bel);have b3:=d8.cell;have j5:=d8.lt;have s:=hid (Zn m2 d.bel);clear d8;by_cases p2:i<n
     ·have C:i<co.jq.length:=by rwa [<-K.out]
      cases f1 with
      | zero=>
       have HX:=hid (ZDe (by rw[U,O,ZBC C]));have g12:wr.cell? ⟨12,0,none⟩=some _:=(m0.below d.bel).sent _ Dc;have l0:¬((i:Int)=(n)):=by omega
       have m7:(rs.length:Int)<(ts.length):=by have:=N.out;omega
       clear O c d s l U;go_wp2;rw[Exit.noGoto_exit];go_wp2
       go_region
       all_goals (try go_wp2)
       all_goals ((try rw[Ycl]);go_ret2;exact⟨_,_,rfl,hid (M.out▸HX.out▸⟨rfl,rfl⟩),P.drew⟩)
      | succ f2=>
       have c7:¬(((f2+1:Nat):Int)=0):=by omega
       have o6:¬(((f2:Int)+1)=0):=by omega
       have l0:¬((i:Int)=(n)):=by omega
       have p3:(i:Int)<(n):=by omega
       obtain⟨op,arg,a8⟩:∃op arg,co.jq[i]?=some (op,arg):=⟨_,_,List.getElem?_eq_getElem C⟩
       have a9:co.jq.getD i (0,0)=(op,arg):=by rw[Yaa,a8];rfl
       have j6:co.jq[i]=(op,arg):=(Ycm.1 a8).2;have d9:=(k7.out (op,arg) (Ycq a8)).1;obtain⟨_,st1,sl1,a3,_,_⟩:=G.step i C c.1;have f:=G.next a7.dst tm C (a9▸d9) c.1 c.2.1;have a4:=G.len a7.dst tm C (a9▸d9) c.1 c.2.1 c.2.2;have e0:=G.fwd i C;have e1:=Zj4 (ss.map Srs.ser) tm f2 i m C;rw[a9]at a3 f a4 e0 e1;have m8:(L.getD i ah0).jz.length<=64:=by rw[<-c.2.1.jz,Yak];exact c.2.2
       obtain⟨gi,ic',m9⟩:=ZF s.out Om;injection m9 with hgi1 _ hgi2;subst hgi1 hgi2;have q0:=Zi s _ _ (Zfm _ i C).1;have q1:=Zi s _ _ (Zfm _ i C).2;rw[j6]at q0 q1;simp only at q0 q1;have l1:=Z1 s;have p:Hid (runE _ _ _ _ 0 _=runE _ _ _ f2 _ _):=hid (by rw[O,e1]);have g:=hid (And.intro f.2.2.1 (And.intro f.2.2.2 a4));have V:=f.1;have E:Zbj i _ m<=n:=K.out▸f.2.1;have D:=hid a3;have X:=hid e0;clear a3 f a4 e0 e1 a9 a8 O j6 s P U
       go_upto_region 15 with fail
       refine ZP fun W5 e2=>?_;have Q:Below _ _ _:=e2▸Zbal;have R:Hid (BAt _ _ _ 159):=e2▸(show BAt _ _ _ _ from bnw);have F:=hid (d.below Q);have b0:=hid (Zn l Q);clear e2 Q b3 j5 q0 q1 l1;generalize wr.heap.size=ab at *
       have a0:=R.cell 0;have a1:=R.cell 1;simp only[Zget]at a0 a1;have e4:=R.lt;by_cases h9:op=9
       ·subst h9;have H:Hid (runE _ _ _ _ 0 _=runE _ _ _ _ arg m):=p;have I:Hid ((L.getD arg _).qy=true/\Typd _ (L.getD arg _).jz (L.getD arg _).jy m/\m.jz.length<=64):=g;have p4:i<arg:=V;have n0:arg<=n:=E;have q:=hid F.re;clear p g V E d l F D X c;go_wp2
        go_roundw
        case rel=>exact⟨arg,f2,m,sa1,sn1,sc1,vs1,rfl,n0,rfl,by go_num,by omega,H,I,q,b0⟩
        case measure=>simp[intOf];omega
       ·have p5:¬((op:Int)=9):=by omega
        by_cases e5:op=10
        ·subst e5
         have n2:∃v ys,m.jz=.inl (.inr v)::ys:=by
          have hs:=D.out;have hT:=c.2.1;generalize(L.getD i ah0).jz=st at hs hT;cases st with
          | nil=>cases hs
          | cons kk r=>
           simp only[Zt]at hs;split at hs
           ·rename_i n3;subst n3;obtain⟨y,rs',hm,hy,_,_⟩:=hT.pop;obtain⟨v,rfl⟩:=Zet hy;exact⟨v,rs',hm⟩
           ·cases hs
         obtain⟨v,ys,hm⟩:=n2;obtain⟨v1,vs',n1,rfl,rfl,n4,e6⟩:=F.top hm;have l2:n1<=64:=by have:=c.2.2;rw[hm,Yaj]at this;omega
         obtain⟨s1,is1,rfl,e7⟩:=n4;obtain⟨va,vc,rfl⟩:=Zl e7.row;have n5:=e7.len';clear e7
         go_wp2_with fail
         refine(ZAz (by have:=F.st;rwa [Ybz]at this) l2).mono ?_;rintro e w6 ⟨rfl,b1⟩;have q:=hid (F.below b1).re;have b5:=hid (Zn b0 b1);have j7:=hid (R.below b1);clear b1 F b0 R a0 a1 e4;have a1:=j7.cell;have e4:=j7.lt;have b6:ZiG m=!v.isEmpty:=by unfold ZiG;rw[hm];rfl
         by_cases h0:is1.length=0
         ·have e8:v=[]:=Ya3 Om;have f:Zbj i (10,arg) m=i+1:=by unfold Zbj;simp only;rw[if_neg Dc,if_neg (by rw[b6,e8];simp)]
          rw[f]at p g E;have H:Hid (runE _ _ _ _ 0 _=runE _ _ _ _ _ m):=p;have I:Hid ((L.getD _ _).qy=true/\Typd _ _ _ m/\m.jz.length<=64):=g;rw[decide_eq_false Om];clear p g V d l D X c hm f b6;go_wp2
          go_roundw
          case rel=>exact⟨i+1,f2,m,_,_,_,_,rfl,E,by go_num,by go_num,by omega,H,I,q,b5⟩
          case measure=>simp[intOf];omega
         ·have e8:v.isEmpty=false:=by
           cases v with
           | nil=>exact absurd n5.symm h0
           | cons a b=>rfl
          have f:Zbj i (10,arg) m=arg:=by unfold Zbj;simp only;rw[if_neg Dc,if_pos ⟨trivial,by rw[b6,e8];rfl⟩]
          rw[f]at p g E V;have H:Hid (runE _ _ _ _ 0 _=runE _ _ _ _ _ m):=p;have I:Hid ((L.getD _ _).qy=true/\Typd _ _ _ m/\m.jz.length<=64):=g;rw[decide_eq_true Om];clear p g d l D X c hm f b6;go_wp2
          go_roundw
          case rel=>exact⟨arg,f2,m,_,_,_,_,rfl,E,rfl,by go_num,by omega,H,I,q,b5⟩
          case measure=>simp[intOf];omega
        ·have o7:¬((op:Int)=10):=by omega
         have f:Zbj i (op,arg) m=i+1:=by unfold Zbj;simp only;rw[if_neg h9,if_neg (fun hh=>e5 hh.1)]
         have j8:=hid (ZAo F a7 l6 d5.1 d5.2 d9 h9 e5 X c.2.1 m8 D);rw[f]at p g E;clear V d D X c F b0
         go_wp2_with fail
         refine j8.mono ?_;rintro e w6 ⟨rfl,J⟩;obtain⟨sa6,sn6,sc6,vs6,e9⟩:=J.out;have b5:=hid (e9.ky.own l Dc Dc);have q:=hid e9.re;clear e9 J j8 l R a0 a1 e4;go_wp2
         go_roundw
         case rel=>exact⟨i+1,f2,_,sa6,sn6,sc6,vs6,rfl,E,by go_num,by go_num,by omega,p,g,q,b5⟩
         case measure=>simp[intOf];omega
     ·obtain rfl:i=n:=by omega
      have j9:co.jq.length<=i:=K.out▸Yac _;obtain⟨v,Z,k0⟩:=G.end_ (n:=(ss.map Srs.ser).length) (m:=m) (by have:=c.2.1;rw[K.out]at this;exact this);have f0:=VOk.more (by rw[Yak];exact a7.sto.len) k0;have f3:topE m=v:=by unfold topE;rw[Z];rfl
      have k1:Hid (ZbO _ _ _ _=some (rs.map _++[Zel _ v],f1)):=hid (by rw[U,O,Zg5 j9,<-f3]);have k2:=hid f0;obtain⟨mst,msl⟩:=m;simp only at Z;subst Z;obtain⟨v1,vs',n1,rfl,rfl,_,e6⟩:=d.top rfl;have n6:n1<=64:=e6▸Yag _;clear c O j9 k0 f0 f3 U s e6 P
      go_wp2_with fail
      refine(Zfz _ _ _ _ (by have:=d.st;rwa [Ybz]at this) n6).mono ?_;rintro e w6 ⟨rfl,q,f4⟩;have f5:=hid (d.qk q f4).1;have k3:Hid (ValP _ _ v):=hid (d.qk q f4).2;have k4:=hid (f5.ky.own l Dc Dc);have J:=hid f5.idle;clear q f4 d l f5 b3 j5
      go_wp2_with fail
      refine(ZqI (by have:=d5.out;unfold vOk;omega) v k3 k2 (m1.low J.bel i6) (Yah i6 J.bel.size)).mono ?_;rintro e w7 ⟨r7,rfl,k5,k6,f6⟩;have f7:=hid (Zn k4 f6);have f8:=hid (J.below f6);have n7:=hid k6;have n8:=f8.bel.size;clear f6 k6 k4 J k3 k2
      go_wp2_with (at_builtin;refine wpList_append_own _ rfl (.tmp 43) (.tmp 48) 122 rfl W.heap.size 9 i0 (.string ByteArray.empty) 1 16 underlying122 hi g5 g6 g7 rfl Dc _ _ _ rfl (f7.alloc _) ⟨w7.heap.size,0,none⟩ 1 1 [.string r7] rfl rfl ?c1 ?c2 ?c3 ?c4 ?c5 ?_)
      case c1=>exact ZcY rfl
      case c2=>intro u hu;simp at hu;subst hu;rfl
      case c3=>have:=N.out;unfold maxLen;omega
      case c4=>have:=N.out;omega
      case c5=>simp;omega
      intro v8 w8 g1 Y _;have n9:Hid (w8.ownsRow W.heap.size 9 1 v8 (rs++[r7]).length (Zbc (rs++[r7]))):=by rwa [Zh2,Yab]
      have o0:=hid ((f8.below Zbal).grown (f7.alloc _) Y);have o1:Hid (ZbO _ _ _ _=some ((rs++[r7]).map bl,f1)):=hid (by rw[k1,Yaq,Yco,k5])
      have o2 : Hid (∀ r ∈ rs ++ [r7], r.size <= 40000000000) := hid (fun r hr => by
        rcases Yar.1 hr with h|h
        · exact HZ r h
        · rw[Yap]at h;subst h;exact n7)
      clear Y g1 k1 k5 f8 f7 n8;go_wp2;rw[Exit.noGoto_exit];go_wp2
      go_roundw
      case rel=>exact⟨k+1,f1,rs++[r7],tm,_,_,_,_,by omega,by go_num,rfl,i1,by have:=N.out;simp;omega,n9,o1,o2,o0⟩
      case measure=>simp[intOf];omega
   ·obtain rfl:k=ts.length:=by omega
    have l3:Hid (ZbO (ss.map Srs.ser) co fu ts=some (rs.map bl,fk)):=by have:=d3.out;rwa [Ya4]at this
    obtain⟨la,lc,o3⟩:=Zl HO;subst o3;have m7:¬((rs.length:Int)<(ts.length)):=by have:=N.out;omega
    have l4:rs.length<=50:=by have:=N.out;omega
    have P:=hid (B.trans (HD.bel.mono B.size))
    go_wp2_with fail
    refine(Zqb HO l4 HZ).mono ?_;rintro e w5 ⟨r5,rfl,o4,Q⟩;have o5:=hid (P.trans (Q.mono P.size));clear Q;go_wp2
    try rw[Ycl]
    go_ret2;exact⟨_,_,rfl,hid (M.out▸l3.out▸⟨o4.out,rfl⟩),o5⟩
theorem Zei.asks{m:Int}(h:Zei w A v r)(f:Vars w A m):Asks w v r.1 r.2:=by
 intro W e;have a:=f.below e;have mv:∀ {fa i:Nat} {u:Value},w.cell? _=some u->W.cell? ⟨fa,i,none⟩=some u:=fun {fa i u} h=>(e.cell (Yai _ _ h)).trans h;rcases h with ⟨rfl,rfl⟩|⟨rfl,rfl⟩|⟨rfl,rfl⟩|⟨i,fa,rfl,rfl,c,d⟩|⟨i,fa,rfl,rfl,c,d⟩
 ·exact⟨Zik A m W a,Ziq W⟩
 ·exact⟨ZjQ A m W a,Zdm A m W a⟩
 ·exact⟨Zrk A m W a,Zdm A m W a⟩
 ·exact⟨Zrl A m W a _ (mv d),ZdB A m _ _ W a (mv c)⟩
 ·exact⟨Zrn A m W a _ (mv d),ZdB A m _ _ W a (mv c)⟩
theorem Zei.shape(h:Zei w A v r)(a:r.1≠0):∃ty u,v=.iface ty u:=by
 rcases h with ⟨rfl,rfl⟩|⟨rfl,rfl⟩|⟨rfl,rfl⟩|⟨i,fa,rfl,rfl,c,d⟩|⟨i,fa,rfl,rfl,c,d⟩
 ·exact absurd rfl a
 ·exact⟨_,_,rfl⟩
 ·exact⟨_,_,rfl⟩
 ·exact⟨_,_,rfl⟩
 ·exact⟨_,_,rfl⟩
theorem Asks.below{c p:Nat}(h:Asks w err c p)(a:BW w w'):Asks w' err c p:=fun W d=>h W (a.trans (d.mono a.size))
theorem ZyH{l:LB}{y:CodeQ×Nat×Nat}(h:ZcR l=.ok y):y.1.jq.length<=65535/\∀x∈y.1.jq,x.1<=13/\x.2<65536:=by
 unfold ZcR at h;cases hd:Zb7 l with
 | error e=>rw[hd]at h;cases h
 | ok c=>
  rw[hd]at h;simp only at h;cases a:ZcT c with
  | error e=>rw[a]at h;cases h
  | ok x=>
   rw[a]at h;injection h with h;subst h;exact Zll hd
theorem ZvV(q s:BA)(f l st fuel:Int)(A:Nat->Addr)(m:Int)(w:World)(S:Vars w A m)(ht:ZR w)(hB:20<=w.heap.size)(hq:q.size<=maxLen)(hs:s.size<=maxLen) :
  CP 24 #[.string q,.string s,.agg #[Vi f,Vi l,Vi st],Vi fuel] w fun e w'=>∃(r:BA) (err:Value) (c p:Nat),e=.returned (.tuple #[.string r,err])/\Hid (Asks w' err c p)/\Hid (Zdy (bl q) (bl s) f l st fuel=(bl r,c,p))/\BW w w':=by
 have b8:=hid (fun W g=>ZqK q A m W (S.below g) (ht.low g hB) (Yah hB g.size) hq);have b9:=hid (fun W g=>Zss s A m W (S.below g) hs);have c1:=hid (fun W g=>ZrI f l st W ((S.below g).sent _ Dc));have Q:=hid S;have HT:=hid ht;have c2:=hid hB;clear S ht hB hq hs;go_enter func24,ntmps24
 go_wp2_with fail
 refine Zm fun W hW=>?_;have O:Below _ w W:=hW▸Zbal;have c3:Hid (BAt W _ _ 23):=hW▸bnw;refine(b8 W O).mono ?_;rintro e w1 ⟨v,n,err,rfl,HC,⟨a0,a1,a2,a3,n0,n1,n2,n3,e0,e1,e2,e3,rfl⟩,T⟩;have U:=hid (O.trans (T.mono O.size));have V:=hid (c3.below T);clear T b8 O hW c3;obtain⟨a,b,c,p,rfl,X,HA⟩:=HC.asks (Q.below U.out)
 go_upto_region 2 with fail
 refine ZP fun W2 Y=>?_;have d:Below _ _ _:=Y▸Zbal.alloc (by simp) _;have Z:Hid (BAt _ _ _ 59):=Y▸(Zbal.block _ (by simp)).trans bnw;have B:=hid (U.trans (d.mono U.size));have M:=hid (V.below d);have a4:=hid (HA.below d);have F:=hid (HC.below d);clear d Y HA HC V;generalize w1.heap.size=xb at Z ⊢;generalize w.heap.size=sb at M ⊢;cases C:ZcR (bl q)with
 | error x=>
  have i:Hid (Zdy _ (bl s) f l st fuel=([],x.1,x.2)):=hid (by unfold Zdy;rw[C]);have k:=F.out;rw[C]at k X;have G:(0,0,x.1,x.2)=(a,b,c,p):=X;injection G with _ G;injection G with _ G;injection G with hr3 hr4;subst hr3 hr4;rcases BadV.shape k.2 with ⟨fa,rfl⟩|rfl
  ·clear k F X;go_wp2;go_ret2;exact⟨_,_,_,_,rfl,a4,i,B⟩
  ·clear k F X;go_wp2;go_ret2;exact⟨_,_,_,_,rfl,a4,i,B⟩
 | ok y=>
  have k:=F.out;rw[C]at k;obtain⟨a5,_,rfl⟩:=k;have a6:=hid a5;have a7:=hid C
  have c4:Hid (∀z,(if (Zbp _).1≠0 then ([],(Zbp _).1,(Zbp _).2)else match Zdr f l _ with
   | none=>([],8,0)
   | some _ => if fuel < 0 ∨ 1000000 < fuel then ([], 13, 0) else match ZbO _ _ _ _ with
     | none=>([],13,0)
     | some z=>(Zcn _,0,0))=z->Zdy _ (bl s) f l st _=z):=hid (fun z hz=>by unfold Zdy;rw[C];exact hz)
  clear a5 C F X a4
  go_wp2_with fail
  refine(b9 _ B).mono ?_;rintro e w2 ⟨sv,err,rfl,H,d,a8⟩;have D:=hid (B.trans (d.mono B.size));have t:=hid (M.below d);have c5:=hid (Z.below d);have P:Hid (CodV w2 y.1 (.agg #[.slice a0 n0 e0,.slice a1 n1 e1,.slice a2 n2 e2,.slice a3 n3 e3])):=by obtain⟨cv,pv,gv,iv,E,R⟩:=a6.out;exact⟨cv,pv,gv,iv,E,R.below d⟩
  have c6:=hid (H.asks (Q.below D));clear d b9 M Z a6 B;by_cases I:(Zbp (bl s)).1=0
  ·have d2:err=.nilIface:=by
    rcases Zfb.ld H.out with ⟨_,h⟩|⟨h,_⟩
    ·exact h
    ·exact absurd I h
   subst d2;obtain⟨ss,N,a9,b0,d3⟩:=(a8.out I).sto I;obtain⟨sa,scp,rfl⟩:=Zl N.row;have c7:=hid N;have d6:=hid a9;have d7:=hid b0;have H0:=hid I;clear H a8 N a9 b0 d3 I c6;have x0:=t.cell 0;have x1:=t.cell 1;have x2:=t.cell 2;simp only[Zget]at x0 x1 x2;have b1:=t.lt
   go_wp2_with fail
   clear x0 x1 x2 b1;refine(c1 _ D).mono ?_;rintro e w3 ⟨tv,ev,rfl,b2,J⟩;have j:=hid (D.trans (J.mono D.size));have d4:=hid (c7.below J);have c8:=hid (c5.below J);have b7:Hid (CodV w3 y.1 (.agg #[.slice a0 n0 e0,.slice a1 n1 e1,.slice a2 n2 e2,.slice a3 n3 e3])):=by obtain⟨cv,pv,gv,iv,E,R⟩:=P.out;exact⟨cv,pv,gv,iv,E,R.below J⟩
   clear J c1 c7 t D c5 P;rcases b2.out with ⟨E,rfl,rfl⟩|⟨ts,E,R,h3,rfl,h4⟩
   ·have i:Hid (Zdy _ _ f l _ _=([],8,0)):=hid (c4 _ (by rw[if_neg (by rw[H0];simp),E]));have K:Hid (Asks _ _ 8 0):=hid (fun W g=>⟨Zrm A m W ((Q.below j).below g),Zdm A m W ((Q.below j).below g)⟩);clear b2 E;go_wp2;go_ret2;exact⟨_,_,8,0,rfl,K,i,j⟩
   ·obtain⟨ta,tcp,rfl⟩:=Zl h4;obtain⟨o,ho⟩:∃o,o=(if fuel<0∨1000000<fuel then none else ZbO (ss.map Srs.ser) y.1 fuel.toNat ts):=⟨_,rfl⟩
    have i:Hid _:=ho▸d6.out▸ZvU fuel a7.out H0.out E
    have b3 : Hid (CP 43 #[.agg #[.slice a0 n0 e0, .slice a1 n1 e1, .slice a2 n2 e2, .slice a3 n3 e3], .slice sa ss.length scp, .slice ta ts.length tcp, Vi fuel] w3 fun e w' => ∃ r err, e = .returned (.tuple #[.string r, err]) /\ Hid (RunC A o r err) /\ BW w3 w') := by
      obtain⟨cv,pv,gv,iv,b4,d8⟩:=b7.out;injection b4 with b4;have h5:=congrArg Array.toList b4;simp only[Yfd,and_true]at h5;obtain⟨rfl,rfl,rfl,rfl⟩:=h5;obtain⟨d9,L,e4⟩:=ZyI a7;have c9:=ZyH a7;rw[ho];exact ZAW L A m (Q.below j) ⟨d8,d4,d7⟩ d9 e4 c9.1 c9.2 R h3 h4 (HT.low j c2) (Yah c2 j.size)
    have e5:=hid (Q.below j);have x0:=c8.cell;have b1:=c8.lt;clear b2 E R h3 h4 ho
    go_wp2_with fail
    clear x0 b1;refine b3.mono ?_;rintro e w4 ⟨r4,err4,rfl,d0,b5⟩;have d1:=hid (j.trans (b5.mono j.size));have b6:=hid (e5.below b5);clear b5 b3;cases o with
    | none=>
     obtain⟨rfl,rfl⟩:=d0.out;have K:Hid (Asks _ _ 13 0):=hid (fun W g=>⟨Zzu A m W (b6.below g),Zdm A m W (b6.below g)⟩);go_wp2;go_ret2;exact⟨_,_,13,0,rfl,K,i,d1⟩
    | some z=>
     obtain⟨h6,rfl⟩:=d0.out;have K:Hid (Asks _ _ 0 0):=hid (fun W g=>⟨Zik A m W (b6.below g),Ziq W⟩);have d5:Hid (Zdy (bl q) (bl s) f l st fuel=(bl r4,0,0)):=by rw[i,h6];rfl
     clear h6;go_wp2;go_ret2;exact⟨_,_,0,0,rfl,K,d5,d1⟩
  ·have i:=hid (c4 _ (by rw[if_pos I]));obtain⟨ty,u,rfl⟩:=H.shape I;clear H a8 I;go_wp2;go_ret2;exact⟨_,_,_,_,rfl,c6,i,D⟩
theorem Zwp(q s:BA)(f l st fuel:Int)(A:Nat->Addr)(m:Int)(w:World)(n:Vars w A m)(o:ZR w)(j:20<=w.heap.size)(t:q.size<=maxLen)(v:s.size<=maxLen) :
  CP 12 #[.string q,.string s,.agg #[Vi f,Vi l,Vi st],Vi fuel] w fun e u=>∃(r:BA) (c p:Nat),e=.returned (.tuple #[.string r,Vi c,Vi p])/\Hid (Zdy (bl q) (bl s) f l st fuel=(bl r,c,p))/\BW w u:=by
 have x:=hid (fun W d=>ZvV q s f l st fuel A m W (n.below d) (o.low d j) (Yah j d.size) t v);clear n o j t v;go_enter func12,ntmps12
 go_wp2_with fail
 refine Zm fun W B=>?_;have a:Below _ w W:=B▸Zbal;refine(x W a).mono ?_;rintro e G ⟨r,err,c,p,rfl,k,D,g⟩;have h:=hid (a.trans (g.mono a.size));clear g a B x;have E:=hid (k _ (Yaf _ _)).1;have F:=hid (fun W d=>(k W d).2);clear k
 go_wp2_with fail
 refine E.mono ?_;rintro e H ⟨rfl,rfl⟩
 go_wp2_with fail
 refine(F _ (Yaf _ _)).mono ?_;rintro e z ⟨rfl,i⟩;have C:=hid (h.trans (i.mono h.size));clear i;go_wp2
 go_ret3
 exact⟨r,_,_,rfl,D,C⟩
