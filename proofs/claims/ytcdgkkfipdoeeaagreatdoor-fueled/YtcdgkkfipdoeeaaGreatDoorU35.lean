/- Parts. -/
import Derived.Test.YtcdgkkfipdoeeaaGreatDoorU34
import Derived.Test.YtcdgkkfipdoeeaaGreatDoorU25
set_option linter.all false
set_option maxRecDepth 100000
set_option maxHeartbeats 16000000
namespace Go.Proofs.YtcdgkkfipdoeeaaGreatDoor
open Go.RowKit LS Go.Proofs.Tryz
variable {es:Array MapEntry}{c:CodeQ}{t:Int}{ys ys':List Cl}{l:List El}{ser:List Ser}{ss:List Srs}{vs vs' xs:List Value}{m:MQ}{arg base cl gb gx mb n sc sn x:Nat}{aa av la sa sa':Option Addr}{st v:Value}{a w w' w0:World}
section
theorem Zpy(q s:BA)(f l st:Int)(A:Nat->Addr)(m:Int)(w:World)(C:Vars w A m)(F:ZR w)(D:20<=w.heap.size)(G:q.size<=9223372036854775807)(H:s.size<=maxLen) :
  CP 11 #[.string q,.string s,.agg #[Vi f,Vi l,Vi st]] w fun e u=>∃(r:BA) (c p:Nat),e=.returned (.tuple #[.string r,Vi c,Vi p])/\Hid (ZdK (bl q) (bl s) f l st=(bl r,c,p))/\BW w u:=by
 have I:Hid (Vars w A m):=C;have J:Hid (∀W,BW w W->CP 23 #[.string q,.string s,.agg #[Vi f,Vi l,Vi st]] W _):=hid (fun W E=>ZvS q s f l st A m W (C.below E) (F.low E D) (Yah D E.size) G H);clear C F D G H;go_enter func11,ntmps11
 go_wp2_with fail
 refine Zm fun W K=>?_;have v:BW w W:=by rw[K];exact Zbal
 refine(J.out W v).mono ?_;rintro e L ⟨r,err,c,p,rfl,j,o,B⟩;have d:Hid (BW w L):=hid (v.trans (B.mono v.size));have g:=hid (I.below d.out);clear B v K J I;rcases j.out with ⟨rfl,rfl,rfl⟩|⟨rfl,rfl,rfl⟩|⟨rfl,rfl,rfl⟩|⟨rfl,rfl,rfl⟩|⟨rfl,rfl,rfl⟩|⟨fa,rfl,M,h⟩
 ·clear j
  go_wp2_with fail
  refine(Zik A m _ g.out).mono ?_;rintro e t ⟨rfl,rfl⟩
  go_wp2_with fail
  refine(Ziq _).mono ?_;rintro e z ⟨rfl,a⟩;have i:Hid (BW w z):=hid (d.trans (a.mono d.size));clear a;go_wp2
  go_ret3
  exact⟨r,_,_,rfl,o,i.out⟩
 ·clear j
  go_wp2_with fail
  refine(ZjQ A m _ g.out).mono ?_;rintro e t ⟨rfl,rfl⟩
  go_wp2_with fail
  refine(Zdm A m _ g.out).mono ?_;rintro e z ⟨rfl,a⟩;have i:Hid (BW w z):=hid (d.trans (a.mono d.size));clear a;go_wp2
  go_ret3
  exact⟨r,_,_,rfl,o,i.out⟩
 ·clear j
  go_wp2_with fail
  refine(Zmu A m g.out).mono ?_;rintro e t ⟨rfl,rfl⟩
  go_wp2_with fail
  refine(Zdm A m _ g.out).mono ?_;rintro e z ⟨rfl,a⟩;have i:Hid (BW w z):=hid (d.trans (a.mono d.size));clear a;go_wp2
  go_ret3
  exact⟨r,_,_,rfl,o,i.out⟩
 ·clear j
  go_wp2_with fail
  refine(Zrk A m _ g.out).mono ?_;rintro e t ⟨rfl,rfl⟩
  go_wp2_with fail
  refine(Zdm A m _ g.out).mono ?_;rintro e z ⟨rfl,a⟩;have i:Hid (BW w z):=hid (d.trans (a.mono d.size));clear a;go_wp2
  go_ret3
  exact⟨r,_,_,rfl,o,i.out⟩
 ·clear j
  go_wp2_with fail
  refine(Zrm A m _ g.out).mono ?_;rintro e t ⟨rfl,rfl⟩
  go_wp2_with fail
  refine(Zdm A m _ g.out).mono ?_;rintro e z ⟨rfl,a⟩;have i:Hid (BW w z):=hid (d.trans (a.mono d.size));clear a;go_wp2
  go_ret3
  exact⟨r,_,_,rfl,o,i.out⟩
 ·have x:Hid (L.cell? ⟨fa,1,none⟩=some (Vi p)):=M;clear j M;rcases h with ⟨rfl,k⟩|⟨rfl,k⟩|⟨rfl,k⟩|⟨rfl,k⟩
  ·have n:=hid k;clear k
   go_wp2_with fail
   refine(Zmt A m g.out fa n.out).mono ?_;rintro e t ⟨rfl,rfl⟩
   go_wp2_with fail
   refine(ZdB A m fa p _ g.out x.out).mono ?_;rintro e z ⟨rfl,a⟩;have i:Hid (BW w z):=hid (d.trans (a.mono d.size));clear a;go_wp2
   go_ret3
   exact⟨r,_,_,rfl,o,i.out⟩
  ·have n:=hid k;clear k
   go_wp2_with fail
   refine(Zms A m g.out fa n.out).mono ?_;rintro e t ⟨rfl,rfl⟩
   go_wp2_with fail
   refine(ZdB A m fa p _ g.out x.out).mono ?_;rintro e z ⟨rfl,a⟩;have i:Hid (BW w z):=hid (d.trans (a.mono d.size));clear a;go_wp2
   go_ret3
   exact⟨r,_,_,rfl,o,i.out⟩
  ·have n:=hid k;clear k
   go_wp2_with fail
   refine(Zrl A m _ g.out fa n.out).mono ?_;rintro e t ⟨rfl,rfl⟩
   go_wp2_with fail
   refine(ZdB A m fa p _ g.out x.out).mono ?_;rintro e z ⟨rfl,a⟩;have i:Hid (BW w z):=hid (d.trans (a.mono d.size));clear a;go_wp2
   go_ret3
   exact⟨r,_,_,rfl,o,i.out⟩
  ·have n:=hid k;clear k
   go_wp2_with fail
   refine(Zrn A m _ g.out fa n.out).mono ?_;rintro e t ⟨rfl,rfl⟩
   go_wp2_with fail
   refine(ZdB A m fa p _ g.out x.out).mono ?_;rintro e z ⟨rfl,a⟩;have i:Hid (BW w z):=hid (d.trans (a.mono d.size));clear a;go_wp2
   go_ret3
   exact⟨r,_,_,rfl,o,i.out⟩
def awQ:LB:=[97,43,98,42,99]
def awP:LB:=[97,32,43,32,98,32,42,32,99]
def awE:LB:=[99,32,43,32,100]
def awS:LB:=[99,123,104,61,97,125,32,49,58,53,32,52,58,56,10,99,123,104,61,98,125,32,52,58,50,10,100,123,104,61,97,125,32,52,58,51]
def awA:LB:=[49,10,52,32,123,104,61,97,125,49,49]
theorem ZtT:Zey awQ=(awP,0,0):=by kernel_rfl
theorem ZtS:ZdK awE awS 1 4 3=(awA,0,0):=by kernel_rfl
theorem ZgF{r:BA}{l:LB}(h:bl r=l):r=⟨l.toArray⟩:=ZcW (by rw[h,ZbF])
theorem ZtU(A:Nat->Addr)(m:Int)(w:World)(l:Vars w A m)(n:ZR w)(f:20<=w.heap.size) :
  CP 6 #[] w fun e u=>e=.returned (.bool true)/\BW w u:=by
 have s : Hid (∀ W, Below _ w W -> Calls _ 7 _ W fun e u => e = .returned (.tuple #[.string _, .int _ 0, .int _ 0]) /\ Below _ W _) := hid (fun W d => (Zpz ⟨awQ.toArray⟩ A m W (l.below d) (n.low d f) (Yah f d.size) Dc).mono (fun e u ⟨r, c, p, g, o, _, q⟩ => by
   have h:=o.out;rw[ZbF,ZtT]at h;injection h with k1 k2;injection k2 with k2 k3;subst k2 k3;rw[ZgF k1.symm]at g;exact⟨g,q⟩))
 have t : Hid (∀ W, Below _ w W -> Calls _ _ _ W fun e u => e = .returned (.tuple #[.string _, .int _ 0, .int _ 0]) /\ Below _ W _) := hid (fun W d => (Zpy ⟨awE.toArray⟩ ⟨awS.toArray⟩ 1 4 3 A m W (l.below d) (n.low d f) (Yah f d.size) Dc Dc).mono (fun e u ⟨r, c, p, g, o, q⟩ => by
   have h:=o.out;rw[ZbF,ZbF,ZtS]at h;injection h with k1 k2;injection k2 with k2 k3;subst k2 k3;rw[ZgF k1.symm]at g;exact⟨g,q⟩))
 clear l n f;go_enter func6,ntmps6
 go_wp2_with fail
 refine Zm fun W i=>?_;have a:BW w W:=i▸Yaf _ _;refine(s W a).mono ?_;rintro e B ⟨rfl,j⟩;have v:=hid (a.trans (j.mono a.size));clear j a i s
 go_wp2_with fail
 refine Zm fun W i=>?_;have a:BW w W:=by rwa [i]
 refine(t W a).mono ?_;rintro e z ⟨rfl,k⟩;have x:=hid (a.trans (k.mono a.size));clear k a i t v;go_wp2;go_ret;exact⟨rfl,x⟩
section
variable {P:Program} {ops:Array Oper} {Q:Exit->Act->World->Prop} {md:Region.Mode} {S:World->Prop} {k:Nat}
theorem ZCM{i j:Nat}{o p:Oper}{f:Nat}{ls:Array Bool}{a:Act}(l:Region.ready md ops ls=[i,j])(n:ops[i]?=some o)(q:ops[j]?=some p)
  (h:∀K':Act->World->Prop,Shut (∀a w,S w->(S w->ZcJ P md ops Q S k f (ls.setIfInBounds i true) a w)->K' a w)->if Region.wanted o (yielded ops a.tmps)=true then Oper.wp P o a w K' Q else K' (a.put o.dst undef) w)
  (r:∀K':Act->World->Prop,Shut (∀a w,S w->(S w->ZcJ P md ops Q S k f (ls.setIfInBounds j true) a w)->K' a w)->if Region.wanted p (yielded ops a.tmps)=true then Oper.wp P p a w K' Q else K' (a.put p.dst undef) w):ZcJ P md ops Q S k (f+1) ls a w:=by
 refine⟨fun m=>(by rw[l]at m;cases m),fun x d=>?_⟩;rw[l]at d;simp only[Yau,Ye2,or_false]at d;rcases d with rfl|rfl
 ·exact wpOp_step n (fun K' e=>h _ (fun a w c g=>e a w ⟨fun _=>c,g c⟩))
 ·exact wpOp_step q (fun K' e=>r _ (fun a w c g=>e a w ⟨fun _=>c,g c⟩))
end
structure NewM (w w':World) (base mb:Nat) (c0 c1 c2 c3 al:Value):Prop where
 ex:∃x gb gx,PSt w' base mb c0 c1 c2 c3 al 0 (.map (some x)) (Vp gb) none 0 0 []/\MapI w' x [] #[] 0/\BAt w' gb [.map (some gx)] 281/\MapX w' gx/\w.heap.size<=x/\w.heap.size<=gb/\w.heap.size<=gx/\x≠gx
 old:w.heap.size<=mb
 below:BW w w'
theorem NewM.made(base:Nat)(c0 c1 c2 c3 al:Value)(f:a.heap[x]?=some (.map #[] 0))(d:BAt a gb [.map (some gx)] 281)(h:MapX a gx)(i:w.heap.size<=x)(j:w.heap.size<=gb)(l:w.heap.size<=gx)(m:x≠gx)(e:BW w a) :
  NewM w (a.alloc (.cells #[c0,c1,c2,c3,al,Vi 0,S0,.map (some x),Vp gb] 305)) base a.heap.size c0 c1 c2 c3 al:=by
 have c:∀o,Below _ _ (a.alloc o):=fun o=>Zbal;refine⟨⟨x,gb,gx,⟨bnw,⟨by simp,.inl ⟨rfl,rfl⟩⟩,rfl⟩,⟨((c _).block x (Yae.1 f).1).trans f,⟨by simp,by simp,by simp⟩,rfl,fun g d=>(by cases d)⟩,d.below (c _),h.below (c _),i,j,l,m⟩,e.size,e.trans ((c _).mono e.size)⟩
theorem ZAM(w:World)(base:Nat){c0 c1 c2 c3:Value}{an ac:Nat} :
  CP 94 #[.agg #[c0,c1,c2,c3],.slice aa an ac] w fun e u=>∃mb,e=.returned (Vp mb)/\Hid (NewM w u base mb c0 c1 c2 c3 (.slice aa an ac)):=by
 have C:=@run_makeMap prog;have n:Hid (BAt (w.alloc (.cells #[c0,c1,c2,c3] 59)).drew _ _ _):=hid (BAt.below bnw (Yaf _ _).drew);have r:Hid (Below _ w (w.alloc (.cells #[c0,c1,c2,c3] 59)).drew):=hid Zbal.drew;go_enter func94,ntmps94
 go_upto_region 1 with fail
 refine Zbn 6 (fun u=>u.cell? _=some _/\u.cell? _=some _/\u.cell? _=some _/\u.cell? _=some _) Kr ⟨n.cell 0,n.cell 1,n.cell 2,n.cell 3⟩ (fun a=>?_);generalize B:(w.alloc (.cells #[c0,c1,c2,c3] 59)).drew=W at n r a ⊢;clear B;refine Za 0 a (h:=?_);refine Za 1 a (h:=?_);refine ZCM (i:=2) (j:=3) Kr rfl rfl (fun K c=>?_) (fun K c=>?_)
 ·go_simp;have m:=r.size;have f:Hid (BAt (W.alloc (.map #[] 0)) _ _ _):=hid (n.below Zbal);refine c _ _ ⟨f.cell 0,f.cell 1,f.cell 2,f.cell 3⟩ (fun a=>?_);clear c K
  try simp only[Act.put,Zset]
  refine Z4 (i:=3) Kr rfl (fun K c=>?_);go_simp;refine(Zmp _).mono ?_;rintro e A ⟨rfl,s,t,v,l⟩;go_simp;have d:=hid (f.below l);refine c _ _ ⟨d.cell 0,d.cell 1,d.cell 2,d.cell 3⟩ (fun a=>?_);clear c K
  try simp only[Act.put,Zset]
  have p:(W.alloc (.map #[] 0)).heap.size=W.heap.size+1:=Go.Deep.nblk_alloc _ _;have q:=hid (NewM.made base c0 c1 c2 c3 (.slice aa an ac) ((l.block _ Om).trans bnw) t s m Om Om Om ((r.alloc m _).trans (l.mono Om)));refine Za 4 a (h:=?_);refine Z4 (i:=5) Kr rfl (fun K c=>?_);go_simp;have g:Hid (∀o,BAt (A.alloc o) _ _ _):=hid (fun o=>d.below Zbal);refine c _ _ ⟨(g _).cell 0,(g _).cell 1,(g _).cell 2,(g _).cell 3⟩ (fun a=>?_);clear c K
  try simp only[Act.put,Zset]
  refine Zbl Kr Kr rfl Kr (fun K c=>?_);go_simp;refine c _ _ ?_;clear c K;go_wp2;go_ret;simp only[v,p]at q;exact⟨_,rfl,q⟩
 ·go_simp;have m:=r.size;refine(Zmp _).mono ?_;rintro e z ⟨rfl,s,t,v,l⟩;go_simp;have f:=hid (n.below l);refine c _ _ ⟨f.cell 0,f.cell 1,f.cell 2,f.cell 3⟩ (fun a=>?_);clear c K
  try simp only[Act.put,Zset]
  refine Z4 (i:=2) Kr rfl (fun K c=>?_);go_simp;have x:Below _ _ (z.alloc (.map #[] 0)):=Zbal;have d:=hid (f.below x);refine c _ _ ⟨d.cell 0,d.cell 1,d.cell 2,d.cell 3⟩ (fun a=>?_);clear c K
  try simp only[Act.put,Zset]
  have p:(z.alloc (.map #[] 0)).heap.size=z.heap.size+1:=Go.Deep.nblk_alloc _ _;have q:=hid (NewM.made base c0 c1 c2 c3 (.slice aa an ac) bnw (t.below x) (s.below x) Om Om m Om ((r.trans (l.mono m)).trans (x.mono Om)));clear x;generalize z.alloc (.map #[] 0)=A at q d a p ⊢;refine Za 4 a (h:=?_);refine Z4 (i:=5) Kr rfl (fun K c=>?_);go_simp;have g:Hid (∀o,BAt (A.alloc o) _ _ _):=hid (fun o=>d.below Zbal);refine c _ _ ⟨(g _).cell 0,(g _).cell 1,(g _).cell 2,(g _).cell 3⟩ (fun a=>?_);clear c K
  try simp only[Act.put,Zset]
  refine Zbl Kr Kr rfl Kr (fun K c=>?_);go_simp;refine c _ _ ?_;clear c K;go_wp2;go_ret;simp only[v,p]at q;exact⟨_,rfl,q⟩
end
section
open Go.ChangeMaps (setBlock)
def ZbL(w w':World):Prop:=∀(b:Nat) (c:Array Value) (T:TypeId) (fr:Nat×Nat),T≠305->T≠196->w.heap[b]?=some (.cells c T fr)->w'.heap[b]?=some (.cells c T fr)
theorem Zo.y(h:Zo w w'):ZbL w w':=fun b c T fr _ _ a=>h b c T _ a
theorem ZbL.trans{z:World}(h:ZbL w w')(k:ZbL w' z):ZbL w z:=fun b c T fr a d e=>k b c T _ a d (h b c T _ a d e)
theorem ZbL.below(h:BW w w'):ZbL w w':=(Zo.below h).y
theorem ZbL.own(h:ZbL w w'){e:TypeId}{size:Nat}(a:w.ownsRow base e size v n xs)(c:e≠305)(d:e≠196):w'.ownsRow base e size v n xs:=by
 refine⟨a.1,?_⟩;rcases a.2 with k|⟨g,cap,cur,f,i,j,r⟩
 ·simp_all
 ·exact .inr ⟨g,cap,cur,f,i,h _ _ _ _ c d j,r⟩
theorem SamV.y{l:List (Int×Int)}(h:SamV w av l)(a:ZbL w w'):SamV w' av l:=by
 rcases h with h|⟨g,off,d,c,fr,e,f⟩
 ·exact .inl h
 ·exact .inr ⟨g,off,d,c,fr,a _ _ _ _ Dc Dc e,f⟩
theorem LbOk.y{a:Option Addr}{c:Nat}{tx:BA}{qs:List (BA×BA)}(h:LbOk w a n c tx qs)(d:ZbL w w'):LbOk w' a n c tx qs:=⟨⟨d.own h.row.1 Dc Dc,h.row.2⟩,h.txt,h.wf⟩
theorem StrOk.y{s:Str}(h:StrOk w s)(a:ZbL w w'):StrOk w' s:=⟨h.lb.y a,h.sam.y a,h.ne,h.len,h.ok⟩
theorem RngV.y{rs:List Str}(h:RngV w v rs)(a:ZbL w w'):RngV w' v rs:=⟨a.own h.row Dc Dc,fun s c=>(h.ok s c).y a⟩
theorem VecV.y{is:List Itm}(h:VecV w v l is)(a:ZbL w w'):VecV w' v l is:=⟨a.own h.row Dc Dc,h.els,fun i c=>⟨(h.ok i c).lb.y a,(h.ok i c).vok⟩,h.len⟩
def PelV(w:World)(ser:List Ser)(t:Int)(v:Value):Cl->Prop
 | .inl V=>ValP w v V
 | .inr (a,n)=>∃rv rs,v=.iface 299 rv/\RngV w rv rs/\rs.map Str.pr=ZbH ser a n t
theorem PelV.y(d:ZbL w w'):∀ {y:Cl},PelV w ser t v y->PelV w' ser t v y
 | .inl (.inl _),h=>h
 | .inl (.inr _),⟨s,is,a,c⟩=>⟨s,is,a,c.y d⟩
 | .inr (_,_),⟨rv,rs,a,c,e⟩=>⟨rv,rs,a,c.y d,e⟩
theorem PelV.shape : ∀ {y:Cl},PelV w ser t v y->∃ty u,v=.iface ty u
 | .inl (.inl _),h=>⟨_,_,h.1⟩
 | .inl (.inr _),⟨_,_,a,_⟩=>⟨_,_,a⟩
 | .inr (_,_),⟨_,_,a,_⟩=>⟨_,_,a⟩
def PStk(w:World)(ser:List Ser)(t:Int):List Value->List Cl->Prop
 | [],[]=>True
 | v::vs,y::ys=>PelV w ser t v y/\PStk w ser t vs ys
 | _,_=>False
theorem PStk.y(a:ZbL w w'):∀ {vs:List Value} {ys:List Cl},PStk w ser t vs ys->PStk w' ser t vs ys
 | [],[],h=>h
 | _::_,_::_,⟨c,d⟩=>⟨c.y a,PStk.y a d⟩
theorem PStk.len : ∀ {vs:List Value} {ys:List Cl},PStk w ser t vs ys->vs.length=ys.length
 | [],[],_=>rfl
 | _::vs,_::ys,⟨_,h⟩=>by rw[Yaj,Yaj,PStk.len h]
def PSlo(w:World)(x:Nat)(ser:List Ser)(t:Int)(ss:List (Option Cl)):Prop:=∃gs es cl,MapI w x gs es cl/\∀j y,ss.getD j none=some y->∃v,getI gs j=some v/\PelV w ser t v y
theorem PSlo.y{ss:List (Option Cl)}(h:PSlo w x ser t ss)(c:ZbL w w')(d:w'.heap[x]?=w.heap[x]?):PSlo w' x ser t ss:=by
 obtain⟨gs,es,cl,e,f⟩:=h;exact⟨gs,es,cl,e.moved d,fun j y g=>(f j y g).elim fun v a=>⟨v,a.1,a.2.y c⟩⟩
structure PInv (w0 wk w:World) (mb x gb gx:Nat) (c0 c1 c2 c3 al:Value) (t:Int) (ser:List Ser) (m:MQ) (sa:Option Addr) (sn sc:Nat) (vs:List Value):Prop where
 st:PSt w w0.heap.size mb c0 c1 c2 c3 al t (.map (some x)) (Vp gb) sa sn sc vs.reverse
 slo:PSlo w x ser t m.jy
 gr:BAt w gb [.map (some gx)] 281
 gm:MapX w gx
 stk:PStk w ser t vs m.jz
 bel:BW w0 w
 lm:w0.heap.size<=mb
 lx:w0.heap.size<=x
 lg:w0.heap.size<=gx
 ne:x≠gx
 ky:ZbL wk w
theorem ZjJ  {a b : Nat}   {c : Array Value} {T : TypeId} {fr : Nat × Nat} (h : w.heap[a]? = some (.map es cl)) (k : w.heap[b]? = some (.cells c T fr)) : a ≠ b := fun e => by
  simp_all
theorem Zmh  {a b : Nat}   {e : TypeId} {sz : Nat}    (h : w.heap[a]? = some (.map es cl)) (k : w.ownsRow b e sz v n xs) : some a ≠ v.ownBlock := fun e => by
  rcases k.2 with ⟨k2,_⟩|⟨g,cap,cur,c,_,d,_⟩
  · rw[k2]at e;cases e
  · rw[c]at e
    have e2:some a=some g:=e;injection e2 with e2
    simp_all
theorem MKeep.y{c:List Value}(h:MKeep w w' mb st)(d:BAt w mb c 305)(f:w.ownsRow base 196 1 st n xs):ZbL w w':=fun b c2 T fr i g a=>
 (h.block b (Yae.1 a).1 (fun e => by
   rw[e]at a;have:=a.symm.trans d
   simp_all) (Zcx f a g)).trans a
theorem MKeep.ofG(h:w.grownBy w' (some mb))(st:Value):MKeep w w' mb st:=⟨h.os,h.tape,h.output,h.size,fun k a c _=>h.block k a (fun e=>c (Yax e))⟩
theorem PInv.below{c:World}{c0 c1 c2 c3 al:Value}(h:PInv w0 c w mb x gb gx c0 c1 c2 c3 al t ser m sa sn sc vs)(a:BW w w'):PInv w0 c w' mb x gb gx c0 c1 c2 c3 al t ser m sa sn sc vs:=by
 have d:x<w.heap.size:=by
  obtain⟨gs,es,cl,e,_⟩:=h.slo;exact(Yae.1 e.heap).1
 exact⟨h.st.below a,h.slo.y (ZbL.below a) (a.block x d),h.gr.below a,h.gm.below a,h.stk.y (ZbL.below a),h.bel.trans (a.mono h.bel.size),h.lm,h.lx,h.lg,h.ne,h.ky.trans (ZbL.below a)⟩
theorem PInv.num{c0 c1 c2 c3 al:Value}(h:PInv w0 a w mb x gb gx c0 c1 c2 c3 al t ser m sa sn sc vs):sn=m.jz.length:=by
 rw[<-h.stk.len,<-h.st.len,List.length_reverse]
theorem PInv.moved{j:World}{c0 c1 c2 c3 al:Value}(h:PInv w0 j w mb x gb gx c0 c1 c2 c3 al t ser m sa sn sc vs)(g:MKeep w w' mb (.slice sa sn sc)){sn' sc':Nat}(l:PSt w' w0.heap.size mb c0 c1 c2 c3 al t (.map (some x)) (Vp gb) sa' sn' sc' vs'.reverse)(n:PStk w ser t vs' ys'):PInv w0 j w' mb x gb gx c0 c1 c2 c3 al t ser ⟨ys',m.jy⟩ sa' sn' sc' vs':=by
 have f:=g.y h.st.box h.st.own;have c:∀ {a:Nat} {es:Array _} {cl:Nat},w.heap[a]?=some (.map es cl)->w'.heap[a]?=w.heap[a]?:=fun i=>g.block _ (Yae.1 i).1 (ZjJ i h.st.box) (Zmh i h.st.own);refine⟨l,?_,f _ _ _ _ Dc Dc h.gr,?_,n.y f,g.below h.bel h.lm (fun k e=>(h.st.own.lt k e).1),h.lm,h.lx,h.lg,h.ne,h.ky.trans f⟩
 ·obtain⟨gs,es,cl,d,o⟩:=h.slo;exact PSlo.y ⟨gs,es,cl,d,o⟩ f (c d.heap)
 ·obtain⟨es,cl,d⟩:=h.gm;exact⟨es,cl,(c d).trans d⟩
theorem PInv.qk{c0 c1 c2 c3 al:Value}{y:Cl}{ss:List (Option Cl)}(h:PInv w0 a w mb x gb gx c0 c1 c2 c3 al t ser ⟨y::ys,ss⟩ sa (n+1) sc (v::vs))(c:PSt w' w0.heap.size mb c0 c1 c2 c3 al t (.map (some x)) (Vp gb) sa n sc vs.reverse)(d:w.grownBy w' (some mb)):PInv w0 a w' mb x gb gx c0 c1 c2 c3 al t ser ⟨ys,ss⟩ sa n sc vs/\PelV w' ser t v y:=
 ⟨h.moved (MKeep.ofG d _) c h.stk.2,h.stk.1.y ((MKeep.ofG d _).y h.st.box h.st.own)⟩
theorem PInv.pushed{c0 c1 c2 c3 al:Value}(h:PInv w0 a w mb x gb gx c0 c1 c2 c3 al t ser m sa sn sc vs){y:Cl}(c:PelV w ser t v y){ga nc:Nat}(e:PSt w' w0.heap.size mb c0 c1 c2 c3 al t (.map (some x)) (Vp gb) (some ⟨ga,0,none⟩) (sn+1) nc (vs.reverse++[v]))(d:MKeep w w' mb (.slice sa sn sc)):PInv w0 a w' mb x gb gx c0 c1 c2 c3 al t ser ⟨y::m.jz,m.jy⟩ (some ⟨ga,0,none⟩) (sn+1) nc (v::vs):=
 h.moved d (by simp_all) ⟨c,h.stk⟩
theorem PInv.belX{d:World}{c0 c1 c2 c3 al:Value}(h:PInv w0 d w mb x gb gx c0 c1 c2 c3 al t ser m sa sn sc vs)(c:BelX gx w.heap.size w w')(f:MapX w' gx):PInv w0 d w' mb x gb gx c0 c1 c2 c3 al t ser m sa sn sc vs:=by
 have a:=Zo.belX c h.gm
 have e:x<w.heap.size:=by
  obtain⟨gs,es,cl,g,_⟩:=h.slo;exact(Yae.1 g.heap).1
 exact⟨⟨a _ _ _ _ h.st.box,a.own h.st.own,h.st.len⟩,h.slo.y a.y (c.block x e h.ne),a _ _ _ _ h.gr,f,h.stk.y a.y,h.bel.trans ((c.mono h.bel.size).below h.lg),h.lm,h.lx,h.lg,h.ne,h.ky.trans a.y⟩
theorem PInv.stored{f:World}{c0 c1 c2 c3 al:Value}(h:PInv w0 f w mb x gb gx c0 c1 c2 c3 al t ser m sa sn sc vs){o:Obj}(i:w'=setBlock w x o){ss:List (Option Cl)}(j:PSlo w' x ser t ss):PInv w0 f w' mb x gb gx c0 c1 c2 c3 al t ser ⟨m.jz,ss⟩ sa sn sc vs:=by
 have c:=BelX.set x w.heap.size w o;rw[<-i]at c
 have g:MapX w x:=by
  obtain⟨gs,es,cl,d,_⟩:=h.slo;exact⟨es,cl,d.heap⟩
 have a:=Zo.belX c g;refine⟨⟨a _ _ _ _ h.st.box,a.own h.st.own,h.st.len⟩,j,a _ _ _ _ h.gr,?_,h.stk.y a.y,h.bel.trans ((c.mono h.bel.size).below h.lx),h.lm,h.lx,h.lg,h.ne,h.ky.trans a.y⟩;obtain⟨es,cl,d⟩:=h.gm;exact⟨es,cl,(c.block _ (Yae.1 d).1 (fun e=>h.ne e.symm)).trans d⟩
theorem PInv.top{e:World}{c0 c1 c2 c3 al:Value}(h:PInv w0 e w mb x gb gx c0 c1 c2 c3 al t ser m sa sn sc vs){y:Cl}(c:m.jz=y::ys):∃v vs' n,vs=v::vs'/\sn=n+1/\PelV w ser t v y/\n=ys.length:=by
 have a:=h.stk;rw[c]at a;cases vs with
 | nil=>exact absurd a id
 | cons v vs=>
  have d:=h.num;rw[c,Yaj]at d;exact⟨v,vs,ys.length,rfl,d,a.1,rfl⟩
def ZtC(w0 wk w':World)(mb x gb gx:Nat)(c0 c1 c2 c3 al:Value)(t:Int)(ser:List Ser)(m:MQ):Prop:=∃sa sn sc vs,PInv w0 wk w' mb x gb gx c0 c1 c2 c3 al t ser m sa sn sc vs
theorem PInv.re{c0 c1 c2 c3 al:Value}(h:PInv w0 a w mb x gb gx c0 c1 c2 c3 al t ser m sa sn sc vs):PInv w0 w w mb x gb gx c0 c1 c2 c3 al t ser m sa sn sc vs:=⟨h.st,h.slo,h.gr,h.gm,h.stk,h.bel,h.lm,h.lx,h.lg,h.ne,ZbL.below (Yaf _ _)⟩
structure PCode (w0:World) (c:CodeQ) (ss:List Srs) (c0 c1 c2 c3 al:Value):Prop where
 cod:CodeV w0 c c0 c1 c2 c3
 sto:StoP w0 al ss
 dst:Dst (ss.map Srs.ser)
theorem Zy3{c0 c1 c2 c3 al st sl gr:Value}(t:Int){nm:BA}{ln lc:Nat}{nd:Nd}(R:BAt w mb (pmC c0 c1 c2 c3 al t st sl gr) 305)(x:StoP w al ss)(G:Dst (ss.map Srs.ser))(H:bl nm=nd.name)(S:ZX w (.slice la ln lc) nd.ku)(hn:n<=1000)(I : -1000000<=t)(J:t<=1000000) :
  CP 163 #[Vp mb,.agg #[.string nm,.slice la ln lc,Vi n]] w fun e u=>∃v,e=.returned v/\Hid (PelV u (ss.map Srs.ser) t v (Zdl (ss.map Srs.ser) t (nd,n)))/\BW w u:=by
 obtain⟨sa,scp,rfl⟩:=Zl x.row;have T:=hid R;have L:=hid x;have U:=hid G;have M:=hid H;have V:=hid S;have N:=hid (fun W=>ZpY nm la ln lc n W);clear R x G H S;go_enter func163,ntmps163
 go_wp2_with fail
 refine Zm fun W P=>?_;have A:Below _ w W:=P▸Zbal;have X:Hid (BAt W _ _ 156):=P▸(show BAt _ _ _ _ from bnw);clear P;refine(N W).mono ?_;rintro e E ⟨rfl,B⟩;have p:=A.trans (B.mono A.size);have k:=hid (T.below p);have f:=hid (X.below B);have C:=hid (L.below p);have O:=hid (V.below p);have r:=hid p;have Z:=k.lt;have Y:=f.lt;clear B A p X T L V N;generalize w.heap.size=xb at f Y ⊢;by_cases s:0<n
 ·rw[decide_eq_true s];have Q:=hid (show Zdl (ss.map Srs.ser) t (nd,n)=.inr (nd,n) by unfold Zdl;rw[if_pos s]);clear s
  go_upto_region 2 with fail
  have d:Hid (BW E _):=hid (Yaf _ _).drew;have l:=hid (k.below d);have g:=hid (f.below d);refine Zbn 14 (fun u=>u.cell? _=some _/\u.cell? _=some _/\u.cell? _=some _/\u.cell? _=some _/\u.cell? _=some _) Kr (⟨l.cell 4,l.cell 5,g.cell 0,g.cell 1,g.cell 2⟩) (fun a=>?_);clear l g;refine Za 0 a (h:=?_);refine Za 1 a (h:=?_);refine Za 2 a (h:=?_);refine Za 3 a (h:=?_);refine Za 4 a (h:=?_);refine Za 5 a (h:=?_);refine Za 6 a (h:=?_);refine Za 7 a (h:=?_);refine Za 8 a (h:=?_);refine Za 9 a (h:=?_);refine Za 10 a (h:=?_);refine Za 11 a (h:=?_);refine Z4 (i:=12) Kr rfl (fun K m=>?_);go_simp;refine(ZmR n t _ (C.below d) M (O.below d) Om Om I J).mono ?_;rintro e z ⟨v,rs,rfl,F,q⟩;go_simp;have c:=d.trans (q.mono d.size);have o:=hid (k.below c);have j:=hid (f.below c);have D:=hid (r.trans (c.mono r.size));refine m _ _ ⟨o.cell 4,o.cell 5,j.cell 0,j.cell 1,j.cell 2⟩ (fun a=>?_);clear m K q c k f o j
  try simp only[Act.put,Zset]
  refine Za 13 a (h:=?_);refine Zbl Kr Kr rfl Kr (fun K m=>?_);go_simp;refine m _ _ ?_;clear m K a;go_wp2;go_ret;exact⟨_,rfl,hid (Q.out▸⟨_,_,rfl,F.1,F.2⟩),D⟩
 ·rw[decide_eq_false s];have Q:=hid (show Zdl (ss.map Srs.ser) t (nd,n)=.inl (.inr (Zc4 _ nd _ _ t)) by unfold Zdl;rw[if_neg s]);clear s
  go_upto_region 3 with fail
  have d:Hid (BW E _):=hid (Yaf _ _).drew;have l:=hid (k.below d);have g:=hid (f.below d);refine Zbn 12 (fun u=>u.cell? _=some _/\u.cell? _=some _/\u.cell? _=some _/\u.cell? _=some _) Kr (⟨l.cell 4,l.cell 5,g.cell 0,g.cell 1⟩) (fun a=>?_);clear l g;refine Za 0 a (h:=?_);refine Za 1 a (h:=?_);refine Za 2 a (h:=?_);refine Za 3 a (h:=?_);refine Za 4 a (h:=?_);refine Za 5 a (h:=?_);refine Za 6 a (h:=?_);refine Za 7 a (h:=?_);refine Za 8 a (h:=?_);refine Za 9 a (h:=?_);refine Z4 (i:=10) Kr rfl (fun K m=>?_);go_simp;refine(ZrF t _ (C.below d) U M (O.below d) I J).mono ?_;rintro e z ⟨v,is,rfl,F,q⟩;go_simp;have c:=d.trans (q.mono d.size);have o:=hid (k.below c);have j:=hid (f.below c);have D:=hid (r.trans (c.mono r.size));refine m _ _ ⟨o.cell 4,o.cell 5,j.cell 0,j.cell 1⟩ (fun a=>?_);clear m K q c k f o j
  try simp only[Act.put,Zset]
  refine Za 11 a (h:=?_);refine Zbl Kr Kr rfl Kr (fun K m=>?_);go_simp;refine m _ _ ?_;clear m K a;go_wp2;go_ret;exact⟨_,rfl,hid (Q.out▸⟨_,_,rfl,F.out⟩),D⟩
theorem ZhN  {a:Nat} {c c' : List Value} {T : TypeId} (h : BAt w a c T) (d : w.grownBy w' (some mb)) (f : BAt w mb c' 305) (g : T ≠ 305) : BAt w' a c T := h.grown d (fun e => by
  injection e with e;subst e;have:=h.symm.trans f;injection this with this;injection this with _ this _;exact g this)
def Zcu(w0 wk w:World)(mb x gb gx op arg:Nat)(c0 c1 c2 c3 al:Value)(t:Int)(ser:List Ser)(m:MQ):Prop:=CP 98 #[Vp mb,.agg #[Vi op,Vi arg]] w fun e w'=>e=.returned (.tuple #[])/\Hid (ZtC w0 wk w' mb x gb gx c0 c1 c2 c3 al t ser m)
theorem ZAr{k:World}{c0 c1 c2 c3 al:Value}(h:PInv w0 k w mb x gb gx c0 c1 c2 c3 al t ser m sa sn sc vs){y:Cl}(c:m.jz=y::ys)(d:m.jz.length<=64) :
  Zcu w0 k w mb x gb gx 11 arg c0 c1 c2 c3 al t ser ⟨ys,m.jy⟩:=by
 unfold Zcu;obtain⟨v,vs',n,rfl,rfl,_,r⟩:=h.top c;have s:n<=64:=by rw[c,Yaj]at d;omega
 have l:Hid (PInv _ _ w _ x _ _ _ _ _ _ _ t _ ⟨y::ys,m.jy⟩ _ _ _ _):=hid (by rwa [<-c]);clear h c d r;go_enter func98,ntmps98
 go_wp2_with fail
 refine Zm fun W g=>?_;have f:Below _ w W:=g▸Zbal;have o:Hid (BAt W _ _ 159):=g▸(show BAt _ _ _ _ from bnw);have a:=hid (l.below f);clear g f l;generalize w.heap.size=ab at *
 refine(Zfz W t n v (by have:=a.st;rwa [Ybz]at this) Om).mono ?_;rintro e z ⟨rfl,i,j⟩;have p:=hid (a.qk i j).1;have q:=hid (a.qk i j).2;clear a i j o q;go_wp2;exact bodyPost_end (results_none rfl _ _ _) rfl ⟨rfl,hid ⟨_,_,_,_,p⟩⟩
theorem ZAu{C:World}{c0 c1 c2 c3 al:Value}(h:PInv w0 C w mb x gb gx c0 c1 c2 c3 al t ser m sa sn sc vs){V:VV}(f:m.jz=.inl V::ys)(g:m.jz.length<=64) :
  Zcu w0 C w mb x gb gx 4 arg c0 c1 c2 c3 al t ser ⟨.inl (negV V)::ys,m.jy⟩:=by
 unfold Zcu;obtain⟨v,vs',n,rfl,rfl,_,G⟩:=h.top f;have H:n<=64:=by rw[f,Yaj]at g;omega
 have D:Hid (PInv _ _ w _ x _ _ _ _ _ _ _ t _ ⟨.inl V::ys,m.jy⟩ _ _ _ _):=hid (by rwa [<-f]);clear h f g G;go_enter func98,ntmps98
 go_wp2_with fail
 refine Zm fun W s=>?_;have i:Below _ w W:=s▸Zbal;have E:Hid (BAt W _ _ 159):=s▸(show BAt _ _ _ _ from bnw);have a:=hid (D.below i);clear s i D;generalize w.heap.size=ab at *
 refine(Zfz W t n v (by have:=a.st;rwa [Ybz]at this) Om).mono ?_;rintro e z ⟨rfl,A,B⟩;have j:=hid (a.qk A B).1;have k:=hid (a.qk A B).2;clear a A B E
 go_wp2_with fail
 refine(ZmQ v V k).mono ?_;rintro e I ⟨v3,rfl,l,o⟩;have c:=hid (j.below o);have d:Hid (PelV _ ser t _ (.inl _)):=l;clear j k l o;obtain⟨ty,u,rfl⟩:=d.shape
 go_wp2_with fail
 refine(Zgm t n _ u c.st Om c.bel.size).mono ?_;rintro e J ⟨rfl,p,q⟩;obtain⟨g9,n9,r⟩:=p.out;have F:=hid (c.pushed d r q);clear r p q;clear c d;go_wp2;exact bodyPost_end (results_none rfl _ _ _) rfl ⟨rfl,hid ⟨_,_,_,_,F⟩⟩
theorem ZAv{G:World}{c0 c1 c2 c3 al:Value}(h:PInv w0 G w mb x gb gx c0 c1 c2 c3 al t ser m sa sn sc vs)(hd:Dst ser)(T:ser.length<=30)(P:arg<=4){a:Nd}{k:Nat}(g:m.jz=.inr (a,k)::ys)(j:m.jz.length<=64) :
  Zcu w0 G w mb x gb gx 2 arg c0 c1 c2 c3 al t ser ⟨.inl (.inr (Zc4 ser a (some arg) k t))::ys,m.jy⟩:=by
 unfold Zcu;obtain⟨v,vs',n,rfl,rfl,_,Q⟩:=h.top g;have U:n<=64:=by rw[g,Yaj]at j;omega
 have H:Hid (PInv _ _ w _ x _ _ _ _ _ _ _ t _ ⟨.inr (a,k)::ys,m.jy⟩ _ _ _ _):=hid (by rwa [<-g]);clear h g j Q;have I:=hid hd;clear hd;go_enter func98,ntmps98
 go_wp2_with fail
 refine Zm fun W D=>?_;have l:Below _ w W:=D▸Zbal;have o:Hid (BAt W _ _ 159):=D▸(show BAt _ _ _ _ from bnw);have c:=hid (H.below l);clear D l H;generalize w.heap.size=ab at *
 refine(Zfz W t n v (by have:=c.st;rwa [Ybz]at this) Om).mono ?_;rintro e z ⟨rfl,E,i⟩;have p:=hid (c.qk E i).1;have q:=hid (c.qk E i).2;have f:=hid (ZhN o i c.st.box Dc);clear c E i o;obtain⟨rv,rs,rfl,J,F⟩:=q.out;have K:=hid J;have L:=hid F
 have M:rs.length<=30:=by
  have R:=congrArg List.length F;rw[Yak]at R;have V:=ZmZ ser a k t;omega
 clear J F q;have S:∀W:World,(Instr.typeAssert (.iface 299 rv) 196 299 true).run prog W=.ok (.tuple #[rv,.bool true]) W:=fun W=>by kernel_rfl
 have a1:=f.cell 1;have N:=f.lt;simp only[Zget]at a1
 go_wp2_with fail
 refine(ZrE _ P _ _ _ a k t K L I M).mono ?_;rintro e X ⟨v3,is3,rfl,r,s⟩;have d:=hid (p.below s);have u:Hid (PelV _ ser t _ (.inl (.inr _))):=hid ⟨_,_,rfl,r⟩;clear p r s f K L I a1 N
 go_wp2_with fail
 refine(Zgm t n 284 _ d.st Om d.bel.size).mono ?_;rintro e Y ⟨rfl,A,B⟩;obtain⟨g9,n9,C⟩:=A.out;have O:=hid (d.pushed u C B);clear C A B;clear d u;go_wp2;exact bodyPost_end (results_none rfl _ _ _) rfl ⟨rfl,hid ⟨_,_,_,_,O⟩⟩
theorem ZAp{H:World}{c0 c1 c2 c3 al:Value}(h:PInv w0 H w mb x gb gx c0 c1 c2 c3 al t ser m sa sn sc vs)(O:arg<=3){X Y:VV}(k:m.jz=.inl Y::.inl X::ys)(l:m.jz.length<=64)(J:VOk 1000 Y) :
  Zcu w0 H w mb x gb gx 3 arg c0 c1 c2 c3 al t ser ⟨.inl (Zdg arg X Y)::ys,m.jy⟩:=by
 unfold Zcu;obtain⟨v,vs',n,rfl,rfl,_,P⟩:=h.top k;have Q:n<=64:=by rw[k,Yaj]at l;omega
 have K:Hid (PInv w0 H w mb x gb gx c0 c1 c2 c3 al t ser ⟨.inl Y::.inl X::ys,m.jy⟩ sa (n+1) sc (v::vs')):=by rwa [<-k]
 have L:=hid J;clear h k l P J;go_enter func98,ntmps98
 go_wp2_with fail
 refine Zm fun W I=>?_;have o:Below _ w W:=I▸Zbal;have p:Hid (BAt W _ _ 159):=I▸(show BAt _ _ _ _ from bnw);have d:=hid (K.below o);clear I o K;generalize w.heap.size=ab at *
 refine(Zfz W t n v (by have:=d.st;rwa [Ybz]at this) Om).mono ?_;rintro e z ⟨rfl,f,c⟩;have a:=hid (d.qk f c).1;have q:=hid (d.qk f c).2;have r:=hid (ZhN p c d.st.box Dc);clear d f c p;obtain⟨v1,vs1,n1,rfl,rfl,_,_⟩:=a.top rfl
 go_wp2_with fail
 refine(Zfz _ t _ _ (by have:=a.st;rwa [Ybz]at this) Om).mono ?_;rintro e R ⟨rfl,f,c⟩;have s:=hid (a.qk f c).1;have A:=hid (a.qk f c).2;have B:=hid (q.y ((MKeep.ofG c _).y a.st.box a.st.own));have i:=hid (ZhN r c a.st.box Dc);clear a q f c r;have a1:=i.cell 1;have M:=i.lt;simp only[Zget]at a1;have S:IntKind.i64.wrap (1+(arg))=((arg+1:Nat)):=by rw[Ybo];omega
 go_wp2_with fail
 refine(ZmH _ O _ v X Y _ A B L).mono ?_;rintro e T ⟨v4,rfl,C,D⟩;have g:=hid (s.below D);have j:Hid (PelV _ ser t _ (.inl _)):=C;clear s A B L i a1 M C D;obtain⟨ty,u,rfl⟩:=j.shape
 go_wp2_with fail
 refine(Zgm t _ _ u g.st Om g.bel.size).mono ?_;rintro e U ⟨rfl,E,F⟩;obtain⟨g9,n9,G⟩:=E.out;have N:=hid (g.pushed j G F);clear G E F;clear g j;go_wp2;exact bodyPost_end (results_none rfl _ _ _) rfl ⟨rfl,hid ⟨_,_,_,_,N⟩⟩
theorem ZAt{D:World}{c0 c1 c2 c3 al:Value}(h:PInv w0 D w mb x gb gx c0 c1 c2 c3 al t ser m sa sn sc vs)(N:arg<16){y:Cl}(E:m.jy.getD arg none=some y)(F:m.jz.length<64) :
  Zcu w0 D w mb x gb gx 13 arg c0 c1 c2 c3 al t ser ⟨y::m.jz,m.jy⟩:=by
 unfold Zcu;have P:sn<64:=by have:=h.num;omega
 have G:=hid h;clear h F;go_enter func98,ntmps98
 go_upto_region 25 with fail
 refine ZP fun W A=>?_;have o:Below _ w W:=A▸Zbal;have j:Hid (BAt W _ _ 159):=A▸(show BAt _ _ _ _ from bnw);have c:=hid (G.below (o.drew));clear A o G;generalize w.heap.size=ab at *
 have abW:=j.lt;have mbW:mb<W.heap.size:=c.st.box.lt;obtain⟨gs,es,cl,f,p⟩:=c.slo;obtain⟨v,H,B⟩:=p _ y E;obtain⟨ty,u,rfl⟩:=B.shape;have I:=hid B;have q:=fun n k=>ZyF f N H n k;have g:=f.heap;generalize J:Obj.map es cl=ob at g;have l:∀n:World,n.heap[x]?=some _->(Instr.lookup _ _ _ _).run _ _=.ok _ _:=fun n k=>q _ (k.trans g.symm);clear q J f p H B E;refine Zbn 8 (fun C=>C.cell? _=some _/\C.cell? _=some _/\C.heap[x]?=some _) Kr (⟨c.st.box.cell 7,j.cell 1,g⟩) (fun a=>?_);clear g;refine Za 0 a (h:=?_);refine Za 1 a (h:=?_);refine Za 2 a (h:=?_);refine Za 3 a (h:=?_);refine Za 4 a (h:=?_);refine Za 5 a (h:=?_);refine Za 6 a (h:=?_);refine ZeD (i:=7) (d:=132) (v:=?v7) rfl rfl Kr (fun _ _ _ h=>h) (Or.inl ⟨by rfl,?hy7⟩) a ?rs7
 case hy7=>(intro w hSw;have O:=l w hSw.2.2;go_simp;try with_reducible rfl)
 case rs7=>
 try simp only[Zset]
 refine Zbl Kr Kr rfl Kr (fun K L=>?_);go_simp;refine(Zgm t _ _ u c.st Om c.bel.size).mono ?_;rintro e Q ⟨rfl,r,s⟩;obtain⟨g9,n9,z⟩:=r.out;have M:=hid (c.pushed I z s);clear z r s;clear a j c I l;go_simp;refine L _ _ ?_;clear L K;go_wp2;exact bodyPost_end (results_none rfl _ _ _) rfl ⟨rfl,hid ⟨_,_,_,_,M⟩⟩
theorem ZAx{I:World}{c0 c1 c2 c3 al:Value}(h:PInv w0 I w mb x gb gx c0 c1 c2 c3 al t ser m sa sn sc vs)(N:arg<16)(R:m.jy.length=16){y:Cl}(r:m.jz=y::ys)(A:m.jz.length<=64) :
  Zcu w0 I w mb x gb gx 12 arg c0 c1 c2 c3 al t ser ⟨ys,m.jy.set arg (some y)⟩:=by
 unfold Zcu;obtain⟨v,vs',n,rfl,rfl,_,S⟩:=h.top r;have V:n<=64:=by rw[r,Yaj]at A;omega
 have O:Hid (PInv _ _ w _ x _ _ _ _ _ _ _ t _ ⟨y::ys,m.jy⟩ _ _ _ _):=hid (by rwa [<-r]);clear h r A S;go_enter func98,ntmps98
 go_upto_region 23 with fail
 refine ZP fun W J=>?_;have B:Below _ w W:=J▸Zbal;have g:Hid (BAt W _ _ 159):=J▸(show BAt _ _ _ _ from bnw);have c:=hid (O.below (B.drew));have C:=hid (g.below (Yaf _ _).drew);clear J B O;generalize w.heap.size=ab at *
 have abW:=g.lt;have mbW:mb<W.heap.size:=c.st.box.lt;refine Zbn 8 (fun P=>P.cell? _=some _/\P.cell? _=some _) Kr (⟨c.st.box.cell 7,g.cell 1⟩) (fun a=>?_);refine Za 0 a (h:=?_);refine Za 1 a (h:=?_);refine Za 2 a (h:=?_);refine Za 3 a (h:=?_);refine Za 4 a (h:=?_);refine Za 5 a (h:=?_);refine Za 6 a (h:=?_);refine Z4 (i:=7) Kr rfl (fun K p=>?_);go_simp;refine(Zfz _ t n v (by have:=c.st;rwa [Ybz]at this) Om).mono ?_;rintro e o ⟨rfl,L,s⟩;have k:=hid (c.qk L s).1;have D:=hid (c.qk L s).2;have E:=hid (ZhN C s c.st.box Dc);clear L s c g C;go_simp;refine p _ _ ⟨k.st.box.cell 7,E.cell 1⟩ (fun a=>?_);clear p K
 try simp only[Act.put,Zset]
 obtain⟨gs,es,cl,d,F⟩:=k.slo;obtain⟨es2,cl2,gs2,G,l,q⟩:=ZDF d N v;have M:=G _ rfl
 have Q : Hid (PInv w0 I (setBlock o x (.map es2 cl2)) mb x gb gx c0 c1 c2 c3 al t ser ⟨ys, m.jy.set arg (some y)⟩ sa n sc vs') := hid (k.stored rfl ⟨gs2, es2, cl2, l o (Yae.1 d.heap).1, fun j z f => by
   have H:ZbL o (setBlock o x (.map es2 cl2)):=(Zo.belX (BelX.set x o.heap.size o _) ⟨es,cl,d.heap⟩).y;rw[q];rw[Yaa,Ya0]at f;by_cases e:arg=j
   · rw[if_pos e,if_pos (by rw[R];exact N)]at f
     injection f with f;subst f;exact⟨v,if_pos e,D.y H⟩
   · rw[if_neg e]at f
     rw[<-Yaa]at f;obtain⟨u,T,U⟩:=F j z f;exact⟨u,by rw[if_neg e];exact T,U.y H⟩⟩)
 clear G l q d F k E D;refine Zbl Kr Kr rfl Kr (fun K p=>?_);go_simp;refine p _ _ ?_;clear p K a M;go_wp2;exact bodyPost_end (results_none rfl _ _ _) rfl ⟨rfl,hid ⟨_,_,_,_,Q⟩⟩
theorem CodeV.below{cv pv gv iv:Value}(h:CodeV w c cv pv gv iv)(a:BW w w'):CodeV w' c cv pv gv iv:=
 ⟨Zn h.cs a,(by obtain⟨xs,d,e,f⟩:=h.ps;exact⟨xs,Zn d a,e,fun x g=>(f x g).below a⟩),(by obtain⟨xs,d,e,f⟩:=h.gs;exact⟨xs,Zn d a,e,fun x g=>(f x g).below a⟩),Zn h.is a⟩
theorem PCode.below{c0 c1 c2 c3 al:Value}(h:PCode w c ss c0 c1 c2 c3 al)(a:BW w w'):PCode w' c ss c0 c1 c2 c3 al:=⟨h.cod.below a,h.sto.below a,h.dst⟩
theorem ZAq{o:World}{c0 c1 c2 c3 al:Value}(h:PInv w0 o w mb x gb gx c0 c1 c2 c3 al t ser m sa sn sc vs)(p:PCode w0 c ss c0 c1 c2 c3 al)(q:arg<c.jj.length)(r:vOk (c.jj.getD arg 0))(s:m.jz.length<64) :
  Zcu w0 o w mb x gb gx 0 arg c0 c1 c2 c3 al t ser ⟨.inl (.inl (c.jj.getD arg 0))::m.jz,m.jy⟩:=by
 unfold Zcu;have f:=(p.cod.below h.bel).cs;obtain⟨gc,cc,z⟩:=ZF f Om;subst z;have k0:=Zi f _ (.int _ (c.jj.getD _ 0)) (by rw[Ya2,List.getElem?_eq_getElem q,Yaa,List.getElem?_eq_getElem q];rfl);have gcl:=Z1 f;have H:sn<64:=by have:=h.num;omega
 have A:=hid h;have F:=hid r;generalize c.jj.getD arg 0=v at *
 generalize c.jj.length=nc at *
 have I:(arg:Int)<(nc):=by omega
 have B:Hid (∀C:World,Below _ w _->C.cell? _=some _):=hid (fun C G=>(G.cell gcl).trans k0);clear h p f k0 s r;go_enter func98,ntmps98
 go_upto_region 3 with fail
 refine ZP fun W n=>?_;have g:Below _ w W:=n▸Zbal;have i:Hid (BAt W _ _ 159):=n▸(show BAt _ _ _ _ from bnw);have d:=hid (A.below (g.drew));have q2:=B W g;have gcW:=Yaw gcl g.size;clear n g A B gcl;generalize w.heap.size=ab at *
 have abW:=i.lt;have mbW:mb<W.heap.size:=d.st.box.lt;refine Zbn 11 (fun u=>u.cell? _=some _/\u.cell? _=some _/\u.cell? _=some _) Kr (⟨d.st.box.cell 0,i.cell 1,q2⟩) (fun a=>?_);clear q2;refine Za 0 a (h:=?_);refine Za 1 a (h:=?_);refine Za 2 a (h:=?_);refine Za 3 a (h:=?_);refine Za 4 a (h:=?_);refine Za 5 a (h:=?_);refine Za 6 a (h:=?_);refine Za 7 a (h:=?_);refine Za 8 a (h:=?_);refine Za 9 a (h:=?_);refine Za 10 a (h:=?_);refine Zbl Kr Kr rfl Kr (fun K D=>?_);go_simp;refine(Zgm t _ 282 _ d.st Om d.bel.size).mono ?_;rintro e J ⟨rfl,j,k⟩;obtain⟨g9,n9,l⟩:=j.out;have E:=hid (d.pushed (y:=.inl (.inl v)) ⟨rfl,F⟩ l k);clear l j k;clear a i d;go_simp;refine D _ _ ?_;clear D K;go_wp2;exact bodyPost_end (results_none rfl _ _ _) rfl ⟨rfl,hid ⟨_,_,_,_,E⟩⟩
theorem ZAw{U:World}{c0 c1 c2 c3 al:Value}(h:PInv w0 U w mb x gb gx c0 c1 c2 c3 al t ser m sa sn sc vs)(V:PCode w0 c ss c0 c1 c2 c3 al)(he:ser=ss.map Srs.ser)(ha:arg<c.ju.length)(R:(c.ju.getD arg nd00).2<=1000)(X:m.jz.length<64)(Y : -1000000<=t)(Z:t<=1000000) :
  Zcu w0 U w mb x gb gx 1 arg c0 c1 c2 c3 al t ser ⟨Zdl ser t (c.ju.getD arg nd00)::m.jz,m.jy⟩:=by
 unfold Zcu;have l:=V.below h.bel;obtain⟨xs,d,r,G⟩:=l.cod.ps;have H:xs.length=c.ju.length:=by rw[<-r,Yak]
 have o:arg<xs.length:=by omega
 obtain⟨gp,pc,a0⟩:=ZF d Om;subst a0;obtain⟨e0,e1,e2⟩:=ZoU _ _ o;have k0:=Zi d _ _ e0;have k1:=Zi d _ _ e1;have k2:=Zi d _ _ e2;have gpl:=Z1 d;have I:=G _ (List.getElem_mem o);have J:c.ju.getD arg nd00=xs[arg].pr:=by rw[<-r,Yaa,Ya2,List.getElem?_eq_getElem o];rfl
 rw[J]at R ⊢;rw[H]at d;generalize xs[arg]=p at *
 have a3:sn<64:=by have:=h.num;omega
 have HI:=hid h;have L:=hid I;have s:=hid l.sto;have v:=hid l.dst;have a1:p.n<=1000:=R;have a4:=o;generalize xs.length=np at *
 have a5:(arg:Int)<(np):=by omega
 have HK:Hid (∀E:World,Below _ w _->E.cell? _=some _/\E.cell? _=some _/\E.cell? _=some _):=hid (fun E S=>⟨(S.cell gpl).trans k0,(S.cell gpl).trans k1,(S.cell gpl).trans k2⟩);clear h V l d k0 k1 k2 e0 e1 e2 X G I r J R ha H;subst he;go_enter func98,ntmps98
 go_upto_region 5 with fail
 refine ZP fun W T=>?_;have f:Below _ w W:=T▸Zbal;have q:Hid (BAt W _ _ 159):=T▸(show BAt _ _ _ _ from bnw);have j:=hid (HI.below (f.drew));obtain⟨q0,q1,q2⟩:=HK.out W f;have A:=hid (L.below f.drew);have M:=hid (s.below f.drew);have gpW:=Yaw gpl f.size;clear T f HI HK gpl L s;generalize w.heap.size=ab at *
 have abW:=q.lt;have mbW:mb<W.heap.size:=j.st.box.lt;have F:Hid (W.cell? _=some _/\W.cell? _=some _/\W.cell? _=some _):=hid ⟨q0,q1,q2⟩;refine Zbn 12 (fun B=>B.cell? _=some _/\B.cell? _=some _/\B.cell? _=some _/\B.cell? _=some _/\B.cell? _=some _) Kr (⟨j.st.box.cell 1,q.cell 1,q0,q1,q2⟩) (fun a=>?_);clear q0 q1 q2;refine Za 0 a (h:=?_);refine Za 1 a (h:=?_);refine Za 2 a (h:=?_);refine Za 3 a (h:=?_);refine Za 4 a (h:=?_);refine Za 5 a (h:=?_);refine Za 6 a (h:=?_);refine Za 7 a (h:=?_);refine Za 8 a (h:=?_);refine Za 9 a (h:=?_);refine Za 10 a (h:=?_);refine Z4 (i:=11) Kr rfl (fun K C=>?_);go_simp;refine(Zy3 t j.st.box M v A.nm A.cs a1 Y Z).mono ?_;rintro e z ⟨v2,rfl,D,g⟩;obtain⟨ty,u,rfl⟩:=D.shape;go_simp;have k:=hid (j.below g);have N:=hid ((q.below (Yaf _ _).drew).below g);refine C _ _ ⟨k.st.box.cell 1,N.cell 1,(g.cell gpW).trans F.1,(g.cell gpW).trans F.2.1,(g.cell gpW).trans F.2.2⟩ (fun a=>?_);clear C K g j q F A M v
 try simp only[Act.put,Zset]
 refine Zbl Kr Kr rfl Kr (fun K C=>?_);go_simp;refine(Zgm t _ _ u k.st Om k.bel.size).mono ?_;rintro e w9 ⟨rfl,O,P⟩;obtain⟨g9,n9,Q⟩:=O.out;have a2:=hid (k.pushed D Q P);clear Q O P;clear a N k D;go_simp;refine C _ _ ?_;clear C K;go_wp2;exact bodyPost_end (results_none rfl _ _ _) rfl ⟨rfl,hid ⟨_,_,_,_,a2⟩⟩
theorem ZAs{wk:World}{c0 c1 c2 c3 al:Value}(h:PInv w0 wk w mb x gb gx c0 c1 c2 c3 al t ser m sa sn sc vs){op:Nat}(h5:5<=op)(h8:op<=8)(hc:PCode w0 c ss c0 c1 c2 c3 al)(ha:arg<c.jw.length)(J:m.jz=.inl (.inr l)::ys)(N:m.jz.length<=64) :
  Zcu w0 wk w mb x gb gx op arg c0 c1 c2 c3 al t ser ⟨.inl (.inr (Zcv (op - 5) (c.jw.getD arg []) l))::ys,m.jy⟩:=by
 unfold Zcu;have O:=hc;obtain⟨xs,j,r,P⟩:=O.cod.gs;have a3:xs.length=c.jw.length:=by rw[<-r,Yak]
 have s:arg<xs.length:=by omega
 obtain⟨gp,pc,a4⟩:=ZF j Om;subst a4;have k0:=Zi j _ (.slice _ _ _) (by unfold ZfZ;rw[Ya2,List.getElem?_eq_getElem s];rfl);have gpl:=Z1 j;obtain⟨bs,A,k,B,a8⟩:=P _ (List.getElem_mem s);have Q:c.jw.getD arg []=xs[arg].ns:=by rw[<-r,Yaa,Ya2,List.getElem?_eq_getElem s];rfl
 rw[Q,<-ZpJ B];generalize xs[arg]=p at *
 have C:=hid A;have R:Hid (NmS _):=hid (Ybx.1 k);have HK:Hid (∀W':World,Below _ _ _->W'.cell? _=some _):=hid (fun W' hb=>(hb.cell gpl).trans k0);generalize xs.length=np at *
 have a9:(arg:Int)<(np):=by omega
 clear hc O j k0 P r Q A k B ha a3;obtain⟨v,vs',n,rfl,rfl,_,hn⟩:=h.top J;have hk:n<=64:=by rw[J,Yaj]at N;omega
 have HI:Hid (PInv _ _ w _ x _ _ _ _ _ _ _ t _ ⟨.inl _::ys,m.jy⟩ _ _ _ _):=hid (by rwa [<-J]);clear h J N hn;have a7:IntKind.i64.wrap ((op) - 5)=((op - 5:Nat)):=by rw[Ybo];omega
 have a5:op - 5<=3:=by omega
 have o0:¬((op:Int)=0):=by omega
 have o1:¬((op:Int)=1):=by omega
 have o2:¬((op:Int)=2):=by omega
 have o3:¬((op:Int)=3):=by omega
 have o4:¬((op:Int)=4):=by omega
 go_enter func98,ntmps98
 go_upto_region 14 with fail
 refine ZP fun W hW=>?_;have S:Below _ w W:=hW▸Zbal;have T:Hid (BAt W _ _ 159):=hW▸(show BAt _ _ _ _ from bnw);have g:=hid (HI.below S);clear hW S HI o0 o1 o2 o3 o4;generalize w.heap.size=ab at *
 go_upto_if 77 with fail
 go_cut [77] (fun s77 wx=>s77=.bool true/\wx=W)
 case first=>
  rcases(by omega:op=5∨op=6∨op=7∨op=8)with rfl|rfl|rfl|rfl <;> (go_wp2;go_meet;exact⟨rfl,rfl⟩)
 case rest=>
 obtain⟨rfl,rfl⟩:=hcut
 go_wp2_with fail
 refine(Zfz _ t n v (by have:=g.st;rwa [Ybz]at this) Om).mono ?_;rintro e z ⟨rfl,HP,L⟩;have o:=hid (g.qk HP L).1;have U:=hid (g.qk HP L).2;have D:=hid (ZhN T L g.st.box Dc);clear g HP L T;obtain⟨s2,is2,rfl,E⟩:=U.out;obtain⟨ra,rc,rfl⟩:=Zl E.row;have V:=hid E;clear E U;have b0:=asVV (.slice ra is2.length rc)
 go_upto_region 19 with fail
 have M:Hid (BW z _):=hid (Yaf _ _).drew;have d:=hid (o.below M);have q:=hid (D.below M);have q2:=HK _ d.bel;have X:=hid d.bel;have abW:=D.lt;have mbW:=o.st.box.lt;have gpW:=Yaw gpl o.bel.size;have Y:=hid (V.below M);clear o D V M;refine Zbn 20 (fun u=>u.cell? _=some _/\u.cell? _=some _/\u.cell? _=some _/\u.cell? _=some _/\u.cell? _=some _) Kr (⟨d.st.box.cell 8,q.cell 0,d.st.box.cell 2,q.cell 1,q2⟩) (fun a=>?_);clear q2;refine Za 0 a (h:=?_);refine Za 1 a (h:=?_);refine Za 2 a (h:=?_);refine Za 3 a (h:=?_);refine Za 4 a (h:=?_);refine Za 5 a (h:=?_);refine Za 6 a (h:=?_);refine Za 7 a (h:=?_);refine Za 8 a (h:=?_);refine Za 9 a (h:=?_);refine Za 10 a (h:=?_);refine Za 11 a (h:=?_);refine Za 12 a (h:=?_);refine Za 13 a (h:=?_);refine Za 14 a (h:=?_);refine Za 15 a (h:=?_);refine Za 16 a (h:=?_);refine Za 17 a (h:=?_);refine Z4 (i:=18) Kr rfl (fun K F=>?_);go_simp;refine(ZqW _ _ _ a5 _ _ l _ _ d.gr d.gm (Zn C X) Om R Y).mono ?_;rintro e w3 ⟨v3,is3,rfl,G,H⟩;go_simp;have f:=hid (d.belX H G.2);have I:Hid (BAt _ _ _ _):=hid (Zo.belX H d.gm _ _ _ _ q);refine F _ _ ⟨f.st.box.cell 8,I.cell 0,f.st.box.cell 2,I.cell 1,HK _ f.bel⟩ (fun a=>?_);have Z:Hid (PelV _ ser t _ (.inl (.inr _))):=hid ⟨_,_,rfl,G.1⟩;clear F K H G d q Y X HK C R I
 try simp only[Act.put,Zset]
 refine Za 19 a (h:=?_);refine Zbl Kr Kr rfl Kr (fun K F=>?_);go_simp;refine(Zgm t n 284 _ f.st Om f.bel.size).mono ?_;rintro e w9 ⟨rfl,a0,a1⟩;obtain⟨g9,n9,a2⟩:=a0.out;have a6:=hid (f.pushed Z a2 a1);clear a2 a0 a1;clear a f Z;go_simp;refine F _ _ ?_;clear F K;go_wp2;exact bodyPost_end (results_none rfl _ _ _) rfl ⟨rfl,hid ⟨_,_,_,_,a6⟩⟩
