/- Parts. -/
import Derived.Test.YtkodhpilkaihjaaGreatDoorF27
set_option linter.all false
set_option maxRecDepth 100000
set_option maxHeartbeats 16000000
namespace Go.Proofs.YtkodhpilkaihjaaGreatDoor
open Go.RowKit LS Go.Proofs.Tryz
variable {y:Cl}{c:CodeQ}{t:Int}{ys:List Cl}{ser:List Ser}{ss:List Srs}{vs xs:List Value}{m:MQ}{arg gb gx mb op sc sn x:Nat}{sa:Option Addr}{al c0 c1 c2 c3 v:Value}{w w' w0:World}
structure PCode (w0:World) (c:CodeQ) (ss:List Srs) (c0 c1 c2 c3 al:Value):Prop where
 cod:CodeV w0 c c0 c1 c2 c3
 sto:StoP w0 al ss
 dst:Dst (ss.map Srs.ser)
theorem Zy3(mb:Nat)(c0 c1 c2 c3 al:Value){st sl gr:Value}(t:Int)(ss:List Srs)(nm:BA)(la:Option Addr)(ln lc n:Nat)(nd:Nd)(R:BAt w mb (pmC c0 c1 c2 c3 al t st sl gr) 365)(A:StoP w al ss)(G:Dst (ss.map Srs.ser))(H:bl nm=nd.name)(S:ZX w (.slice la ln lc) nd.kq)(hn:n<=1000)(I : -1000000<=t)(J:t<=1000000) :
  CP 173 #[Vp mb,.agg #[.string nm,.slice la ln lc,Vi n]] w fun e u=>∃v,e=.returned v/\Hid (PelV u (ss.map Srs.ser) t v (Zdl (ss.map Srs.ser) t (nd,n)))/\BW w u:=by
 obtain⟨sa,scp,rfl⟩:=Zl A.row;have T:=hid R;have L:=hid A;have U:=hid G;have M:=hid H;have V:=hid S;have N:=hid (fun W=>ZpY nm la ln lc n W);clear R A G H S;go_enter func173,ntmps173
 go_wp2_with fail
 refine Zm fun W P=>?_;have B:BW w W:=by rw[P];exact Zbal
 have X:Hid (BAt W w.heap.size [.string nm,.slice la ln lc,Vi n] 294):=hid (by rw[P];exact(show BAt _ _ _ _ from Go.Deep.blk_alloc_new w _));clear P;refine(N.out W).mono ?_;rintro e s ⟨rfl,C⟩;have p:=B.trans (C.mono B.size);have k:=hid (T.below p);have f:=hid (X.below C);have D:=hid (L.below p);have O:=hid (V.below p);have r:=hid p;have Z:=k.lt;have Y:=f.lt;clear C B p X T L V N;generalize w.heap.size=xb at f Y ⊢;by_cases x:0<n
 ·rw[decide_eq_true x];have Q:=hid (show Zdl (ss.map Srs.ser) t (nd,n)=.inr (nd,n) by unfold Zdl;rw[if_pos x]);clear x
  go_upto_region 2 with fail
  have d:Hid (BW s s.drew):=hid (Yaf _ _).drew;have l:=hid (k.below d.out);have g:=hid (f.below d.out);refine Zbn 14 (fun u=>u.cell? ⟨mb,4,none⟩=some (.slice sa ss.length scp)/\u.cell? ⟨mb,5,none⟩=some (Vi t)/\u.cell? ⟨xb,0,none⟩=some (.string nm)/\u.cell? ⟨xb,1,none⟩=some (.slice la ln lc)/\u.cell? ⟨xb,2,none⟩=some (Vi n)) Kr (by exact⟨l.cell 4,l.cell 5,g.cell 0,g.cell 1,g.cell 2⟩) (fun a=>?_);clear l g;refine Za 0 a (h:=?_);refine Za 1 a (h:=?_);refine Za 2 a (h:=?_);refine Za 3 a (h:=?_);refine Za 4 a (h:=?_);refine Za 5 a (h:=?_);refine Za 6 a (h:=?_);refine Za 7 a (h:=?_);refine Za 8 a (h:=?_);refine Za 9 a (h:=?_);refine Za 10 a (h:=?_);refine Za 11 a (h:=?_);refine Z4 (i:=12) Kr rfl (fun K m=>?_);go_simp;refine(ZmR (.slice sa ss.length scp) ss nm la ln lc nd n t _ (D.below d.out) M.out (O.below d.out) Om Om I J).mono ?_;rintro e z ⟨v,rs,rfl,F,q⟩;go_simp;have c:=d.trans (q.mono d.size);have o:=hid (k.below c);have j:=hid (f.below c);have E:=hid (r.trans (c.mono r.size));refine m.out _ _ ⟨o.cell 4,o.cell 5,j.cell 0,j.cell 1,j.cell 2⟩ (fun a=>?_);clear m K q c k f o j
  try simp only[Act.put,Zset]
  refine Za 13 a (h:=?_);refine Zbl Kr Kr rfl Kr (fun K m=>?_);go_simp;refine m.out _ _ ?_;clear m K a;go_wp2;go_ret;exact⟨_,rfl,hid (by rw[Q.out];exact⟨_,_,rfl,F.1,F.2⟩),E.out⟩
 ·rw[decide_eq_false x];have Q:=hid (show Zdl (ss.map Srs.ser) t (nd,n)=.inl (.inr (Zc4 (ss.map Srs.ser) nd none 10 t)) by unfold Zdl;rw[if_neg x]);clear x
  go_upto_region 3 with fail
  have d:Hid (BW s s.drew):=hid (Yaf _ _).drew;have l:=hid (k.below d.out);have g:=hid (f.below d.out);refine Zbn 12 (fun u=>u.cell? ⟨mb,4,none⟩=some (.slice sa ss.length scp)/\u.cell? ⟨mb,5,none⟩=some (Vi t)/\u.cell? ⟨xb,0,none⟩=some (.string nm)/\u.cell? ⟨xb,1,none⟩=some (.slice la ln lc)) Kr (by exact⟨l.cell 4,l.cell 5,g.cell 0,g.cell 1⟩) (fun a=>?_);clear l g;refine Za 0 a (h:=?_);refine Za 1 a (h:=?_);refine Za 2 a (h:=?_);refine Za 3 a (h:=?_);refine Za 4 a (h:=?_);refine Za 5 a (h:=?_);refine Za 6 a (h:=?_);refine Za 7 a (h:=?_);refine Za 8 a (h:=?_);refine Za 9 a (h:=?_);refine Z4 (i:=10) Kr rfl (fun K m=>?_);go_simp;refine(ZrF (.slice sa ss.length scp) ss nm la ln lc nd t _ (D.below d.out) U.out M.out (O.below d.out) I J).mono ?_;rintro e z ⟨v,is,rfl,F,q⟩;go_simp;have c:=d.trans (q.mono d.size);have o:=hid (k.below c);have j:=hid (f.below c);have E:=hid (r.trans (c.mono r.size));refine m.out _ _ ⟨o.cell 4,o.cell 5,j.cell 0,j.cell 1⟩ (fun a=>?_);clear m K q c k f o j
  try simp only[Act.put,Zset]
  refine Za 11 a (h:=?_);refine Zbl Kr Kr rfl Kr (fun K m=>?_);go_simp;refine m.out _ _ ?_;clear m K a;go_wp2;go_ret;exact⟨_,rfl,hid (by rw[Q.out];exact⟨_,_,rfl,F.out⟩),E.out⟩
theorem ZhN  {a:Nat} {c c' : List Value} {T : TypeId} (h : BAt w a c T) (d : w.grownBy w' (some mb)) (f : BAt w mb c' 365) (g : T ≠ 365) : BAt w' a c T := h.grown d (fun e => by
  injection e with e;subst e;have:=h.symm.trans f;injection this with this;injection this with _ this _;exact g this)
def Zcu(w0 wk w:World)(mb x gb gx op arg:Nat)(c0 c1 c2 c3 al:Value)(t:Int)(ser:List Ser)(m:MQ):Prop:=CP 101 #[Vp mb,.agg #[Vi op,Vi arg]] w fun e w'=>e=.returned (.tuple #[])/\Hid (ZtC w0 wk w' mb x gb gx c0 c1 c2 c3 al t ser m)
theorem ZAr{g:World}(h:PInv w0 g w mb x gb gx c0 c1 c2 c3 al t ser m sa sn sc vs)(c:m.jy=y::ys)(d:m.jy.length<=64) :
  Zcu w0 g w mb x gb gx 11 arg c0 c1 c2 c3 al t ser ⟨ys,m.jx⟩:=by
 unfold Zcu;obtain⟨v,vs',n,rfl,rfl,_,r⟩:=h.top c;have s:n<=64:=by rw[c,Yaj]at d;omega
 have l:Hid (PInv w0 g w mb x gb gx _ _ _ _ al t ser ⟨y::ys,m.jx⟩ sa (n+1) sc (v::vs')):=hid (by rw[<-c];exact h);clear h c d r;go_enter func101,ntmps101
 go_wp2_with fail
 refine Zm fun W i=>?_;have f:BW w W:=by rw[i];exact Zbal
 have o:Hid (BAt W w.heap.size [Vi 11,Vi arg] 184):=hid (by rw[i];exact(show BAt _ _ _ _ from Go.Deep.blk_alloc_new w _));have a:=hid (l.below f);clear i f l;generalize w.heap.size=ab at *
 refine(Zfz W w0.heap.size mb _ _ _ _ al t (.map (some x)) (Vp gb) sa n sc vs'.reverse v (by have:=a.st;rwa [Ybz]at this) Om).mono ?_;rintro e z ⟨rfl,j,k⟩;have p:=hid (a.kn j.out k.out).1;have q:=hid (a.kn j.out k.out).2;clear a j k o q;go_wp2;exact bodyPost_end (v:=.tuple #[]) (results_none rfl _ _ _) rfl ⟨rfl,hid ⟨_,_,_,_,p.out⟩⟩
theorem ZAu{s:World}(h:PInv w0 s w mb x gb gx c0 c1 c2 c3 al t ser m sa sn sc vs){V:VV}(f:m.jy=.inl V::ys)(g:m.jy.length<=64) :
  Zcu w0 s w mb x gb gx 4 arg c0 c1 c2 c3 al t ser ⟨.inl (negV V)::ys,m.jx⟩:=by
 unfold Zcu;obtain⟨v,vs',n,rfl,rfl,_,H⟩:=h.top f;have I:n<=64:=by rw[f,Yaj]at g;omega
 have D:Hid (PInv w0 s w mb x gb gx _ _ _ _ al t ser ⟨.inl V::ys,m.jx⟩ sa (n+1) sc (v::vs')):=hid (by rw[<-f];exact h);clear h f g H;go_enter func101,ntmps101
 go_wp2_with fail
 refine Zm fun W A=>?_;have i:BW w W:=by rw[A];exact Zbal
 have E:Hid (BAt W w.heap.size [Vi 4,Vi arg] 184):=hid (by rw[A];exact(show BAt _ _ _ _ from Go.Deep.blk_alloc_new w _));have a:=hid (D.below i);clear A i D;generalize w.heap.size=ab at *
 refine(Zfz W w0.heap.size mb _ _ _ _ al t (.map (some x)) (Vp gb) sa n sc vs'.reverse v (by have:=a.st;rwa [Ybz]at this) Om).mono ?_;rintro e z ⟨rfl,B,C⟩;have j:=hid (a.kn B.out C.out).1;have k:=hid (a.kn B.out C.out).2;clear a B C E
 go_wp2_with fail
 refine(ZmQ v V z k.out).mono ?_;rintro e F ⟨v3,rfl,l,o⟩;have c:=hid (j.below o);have d:Hid (PelV F ser t v3 (.inl (negV V))):=l;clear j k l o;obtain⟨ty,u,rfl⟩:=d.shape
 go_wp2_with fail
 refine(Zgm F w0.heap.size mb al t (.map (some x)) (Vp gb) n vs'.reverse ty u c.st Om c.bel.size).mono ?_;rintro e J ⟨rfl,p,q⟩;obtain⟨g9,n9,r⟩:=p.out;have G:=hid (c.pushed d.out r q.out);clear r p q;clear c d;go_wp2;exact bodyPost_end (v:=.tuple #[]) (results_none rfl _ _ _) rfl ⟨rfl,hid ⟨_,_,_,_,G.out⟩⟩
theorem ZAv{D:World}(h:PInv w0 D w mb x gb gx c0 c1 c2 c3 al t ser m sa sn sc vs)(hd:Dst ser)(U:ser.length<=30)(Q:arg<=4){a:Nd}{k:Nat}(g:m.jy=.inr (a,k)::ys)(j:m.jy.length<=64) :
  Zcu w0 D w mb x gb gx 2 arg c0 c1 c2 c3 al t ser ⟨.inl (.inr (Zc4 ser a (some arg) k t))::ys,m.jx⟩:=by
 unfold Zcu;obtain⟨v,vs',n,rfl,rfl,_,R⟩:=h.top g;have V:n<=64:=by rw[g,Yaj]at j;omega
 have H:Hid (PInv w0 D w mb x gb gx _ _ _ _ al t ser ⟨.inr (a,k)::ys,m.jx⟩ sa (n+1) sc (v::vs')):=hid (by rw[<-g];exact h);clear h g j R;have I:=hid hd;clear hd;go_enter func101,ntmps101
 go_wp2_with fail
 refine Zm fun W E=>?_;have l:BW w W:=by rw[E];exact Zbal
 have o:Hid (BAt W w.heap.size [Vi 2,Vi arg] 184):=hid (by rw[E];exact(show BAt _ _ _ _ from Go.Deep.blk_alloc_new w _));have c:=hid (H.below l);clear E l H;generalize w.heap.size=ab at *
 refine(Zfz W w0.heap.size mb _ _ _ _ al t (.map (some x)) (Vp gb) sa n sc vs'.reverse v (by have:=c.st;rwa [Ybz]at this) Om).mono ?_;rintro e z ⟨rfl,F,i⟩;have p:=hid (c.kn F.out i.out).1;have q:=hid (c.kn F.out i.out).2;have f:Hid (BAt z ab [Vi 2,Vi arg] 184):=hid (ZhN o.out i.out c.st.box Dc);clear c F i o;obtain⟨rv,rs,rfl,J,G⟩:=q.out;have K:=hid J;have L:=hid G
 have M:rs.length<=30:=by
  have S:=congrArg List.length G;rw[Yak]at S;have X:=ZmZ ser a k t;omega
 clear J G q;have T:∀W:World,(Instr.typeAssert (.iface 359 rv) 223 359 true).run prog W=.ok (.tuple #[rv,.bool true]) W:=fun W=>by kernel_rfl
 have a1:=f.cell 1;have N:=f.lt;simp only[Zget]at a1
 go_wp2_with fail
 refine(ZrE arg Q rv rs ser a k t z K.out L.out I.out M).mono ?_;rintro e O ⟨v3,is3,rfl,r,s⟩;have d:=hid (p.below s);have u:Hid (PelV O ser t (.iface 342 v3) (.inl (.inr (Zc4 ser a (some arg) k t)))):=hid ⟨_,_,rfl,r.out⟩;clear p r s f K L I a1 N
 go_wp2_with fail
 refine(Zgm O w0.heap.size mb al t (.map (some x)) (Vp gb) n vs'.reverse 342 v3 d.st Om d.bel.size).mono ?_;rintro e Y ⟨rfl,A,B⟩;obtain⟨g9,n9,C⟩:=A.out;have P:=hid (d.pushed u.out C B.out);clear C A B;clear d u;go_wp2;exact bodyPost_end (v:=.tuple #[]) (results_none rfl _ _ _) rfl ⟨rfl,hid ⟨_,_,_,_,P.out⟩⟩
theorem ZAp{H:World}(h:PInv w0 H w mb x gb gx c0 c1 c2 c3 al t ser m sa sn sc vs)(Q:arg<=3){X Y:VV}(k:m.jy=.inl Y::.inl X::ys)(l:m.jy.length<=64)(K:VOk 1000 Y) :
  Zcu w0 H w mb x gb gx 3 arg c0 c1 c2 c3 al t ser ⟨.inl (Zdg arg X Y)::ys,m.jx⟩:=by
 unfold Zcu;obtain⟨v,vs',n,rfl,rfl,_,R⟩:=h.top k;have S:n<=64:=by rw[k,Yaj]at l;omega
 have L:Hid (PInv w0 H w mb x gb gx c0 c1 c2 c3 al t ser ⟨.inl Y::.inl X::ys,m.jx⟩ sa (n+1) sc (v::vs')):=hid (by rw[<-k];exact h);have M:=hid K;clear h k l R K;go_enter func101,ntmps101
 go_wp2_with fail
 refine Zm fun W I=>?_;have o:BW w W:=by rw[I];exact Zbal
 have p:Hid (BAt W w.heap.size [Vi 3,Vi arg] 184):=hid (by rw[I];exact(show BAt _ _ _ _ from Go.Deep.blk_alloc_new w _));have d:=hid (L.below o);clear I o L;generalize w.heap.size=ab at *
 refine(Zfz W w0.heap.size mb _ _ _ _ al t (.map (some x)) (Vp gb) sa n sc vs'.reverse v (by have:=d.st;rwa [Ybz]at this) Om).mono ?_;rintro e z ⟨rfl,f,c⟩;have a:=hid (d.kn f.out c.out).1;have q:=hid (d.kn f.out c.out).2;have r:Hid (BAt z ab [Vi 3,Vi arg] 184):=hid (ZhN p.out c.out d.st.box Dc);clear d f c p;obtain⟨v1,vs1,n1,rfl,rfl,_,_⟩:=a.top rfl
 go_wp2_with fail
 refine(Zfz z w0.heap.size mb _ _ _ _ al t (.map (some x)) (Vp gb) sa n1 sc vs1.reverse v1 (by have:=a.st;rwa [Ybz]at this) Om).mono ?_;rintro e J ⟨rfl,f,c⟩;have s:=hid (a.kn f.out c.out).1;have A:=hid (a.kn f.out c.out).2;have B:Hid (PelV J ser t v (.inl Y)):=hid (q.y ((MKeep.ofG c.out _).y a.st.box a.st.own));have i:Hid (BAt J ab [Vi 3,Vi arg] 184):=hid (ZhN r.out c.out a.st.box Dc);clear a q f c r;have a1:=i.cell 1;have N:=i.lt;simp only[Zget]at a1;have T:IntKind.i64.wrap (1+(arg:Int))=((arg+1:Nat):Int):=by rw[Ybo];omega
 go_wp2_with fail
 refine(ZmH arg Q v1 v X Y J A.out B.out M.out).mono ?_;rintro e O ⟨v4,rfl,C,D⟩;have g:=hid (s.below D);have j:Hid (PelV O ser t v4 (.inl (Zdg arg X Y))):=C;clear s A B M i a1 N C D;obtain⟨ty,u,rfl⟩:=j.shape
 go_wp2_with fail
 refine(Zgm O w0.heap.size mb al t (.map (some x)) (Vp gb) n1 vs1.reverse ty u g.st Om g.bel.size).mono ?_;rintro e U ⟨rfl,E,F⟩;obtain⟨g9,n9,G⟩:=E.out;have P:=hid (g.pushed j.out G F.out);clear G E F;clear g j;go_wp2;exact bodyPost_end (v:=.tuple #[]) (results_none rfl _ _ _) rfl ⟨rfl,hid ⟨_,_,_,_,P.out⟩⟩
open Go.ChangeMaps (setBlock)
theorem ZAt{D:World}(h:PInv w0 D w mb x gb gx c0 c1 c2 c3 al t ser m sa sn sc vs)(N:arg<16)(E:m.jx.getD arg none=some y)(F:m.jy.length<64) :
  Zcu w0 D w mb x gb gx 13 arg c0 c1 c2 c3 al t ser ⟨y::m.jy,m.jx⟩:=by
 unfold Zcu;have P:sn<64:=by have:=h.num;omega
 have G:=hid h;clear h F;go_enter func101,ntmps101
 go_upto_region 25 with fail
 refine ZP fun W A=>?_;have o:BW w W:=by rw[A];exact Zbal
 have k:Hid (BAt W w.heap.size [Vi 13,Vi arg] 184):=hid (by rw[A];exact(show BAt _ _ _ _ from Go.Deep.blk_alloc_new w _));have c:=hid (G.below (o.drew));clear A o G;generalize w.heap.size=ab at *
 have abW:=k.lt;have mbW:mb<W.heap.size:=c.st.box.lt;obtain⟨gs,es,cl,f,p⟩:=c.slo;obtain⟨v,H,B⟩:=p arg y E;obtain⟨ty,u,rfl⟩:=B.shape;have I:=hid B;have q:=fun g l=>ZyF f N H g l;have j:=f.heap;generalize J:Obj.map es cl=ob at j;have n:∀g:World,g.heap[x]?=some ob->(Instr.lookup 362 (.map (some x)) (Vi arg) false).run prog g=.ok (.iface ty u) g:=fun g l=>q g (l.trans j.symm);clear q J f p H B E;refine Zbn 8 (fun C=>C.cell? ⟨mb,7,none⟩=some (.map (some x))/\C.cell? ⟨ab,1,none⟩=some (Vi arg)/\C.heap[x]?=some ob) Kr (by exact⟨c.st.box.cell 7,k.cell 1,j⟩) (fun a=>?_);clear j;refine Za 0 a (h:=?_);refine Za 1 a (h:=?_);refine Za 2 a (h:=?_);refine Za 3 a (h:=?_);refine Za 4 a (h:=?_);refine Za 5 a (h:=?_);refine Za 6 a (h:=?_);refine ZeD (i:=7) (d:=132) (v:=?v7) rfl rfl Kr (fun _ _ _ h=>h) (Or.inl ⟨by rfl,?hy7⟩) a ?rs7
 case hy7=>(intro w hSw;have O:=n w hSw.2.2;go_simp;try with_reducible rfl)
 case rs7=>
 try simp only[Zset]
 refine Zbl Kr Kr rfl Kr (fun K L=>?_);go_simp;refine(Zgm _ w0.heap.size mb al t (.map (some x)) (Vp gb) sn vs.reverse ty u c.st Om c.bel.size).mono ?_;rintro e Q ⟨rfl,r,s⟩;obtain⟨g9,n9,z⟩:=r.out;have M:=hid (c.pushed I.out z s.out);clear z r s;clear a k c I n;go_simp;refine L.out _ _ ?_;clear L K;go_wp2;exact bodyPost_end (v:=.tuple #[]) (results_none rfl _ _ _) rfl ⟨rfl,hid ⟨_,_,_,_,M.out⟩⟩
theorem ZAx{r:World}(h:PInv w0 r w mb x gb gx c0 c1 c2 c3 al t ser m sa sn sc vs)(N:arg<16)(R:m.jx.length=16)(s:m.jy=y::ys)(B:m.jy.length<=64) :
  Zcu w0 r w mb x gb gx 12 arg c0 c1 c2 c3 al t ser ⟨ys,m.jx.set arg (some y)⟩:=by
 unfold Zcu;obtain⟨v,vs',n,rfl,rfl,_,S⟩:=h.top s;have V:n<=64:=by rw[s,Yaj]at B;omega
 have O:Hid (PInv w0 r w mb x gb gx _ _ _ _ al t ser ⟨y::ys,m.jx⟩ sa (n+1) sc (v::vs')):=hid (by rw[<-s];exact h);clear h s B S;go_enter func101,ntmps101
 go_upto_region 23 with fail
 refine ZP fun W J=>?_;have C:BW w W:=by rw[J];exact Zbal
 have k:Hid (BAt W w.heap.size [Vi 12,Vi arg] 184):=hid (by rw[J];exact(show BAt _ _ _ _ from Go.Deep.blk_alloc_new w _));have c:=hid (O.below (C.drew));have D:=hid (k.below (Yaf _ _).drew);clear J C O;generalize w.heap.size=ab at *
 have abW:=k.lt;have mbW:mb<W.heap.size:=c.st.box.lt;refine Zbn 8 (fun P=>P.cell? ⟨mb,7,none⟩=some (.map (some x))/\P.cell? ⟨ab,1,none⟩=some (Vi arg)) Kr (by exact⟨c.st.box.cell 7,k.cell 1⟩) (fun a=>?_);refine Za 0 a (h:=?_);refine Za 1 a (h:=?_);refine Za 2 a (h:=?_);refine Za 3 a (h:=?_);refine Za 4 a (h:=?_);refine Za 5 a (h:=?_);refine Za 6 a (h:=?_);refine Z4 (i:=7) Kr rfl (fun K p=>?_);go_simp;refine(Zfz _ w0.heap.size mb _ _ _ _ al t (.map (some x)) (Vp gb) sa n sc vs'.reverse v (by have:=c.st;rwa [Ybz]at this) Om).mono ?_;rintro e f ⟨rfl,L,A⟩;have l:=hid (c.kn L.out A.out).1;have E:=hid (c.kn L.out A.out).2;have F:Hid (BAt f ab [Vi 12,Vi arg] 184):=hid (ZhN D.out A.out c.st.box Dc);clear L A c k D;go_simp;refine p.out _ _ ⟨l.st.box.cell 7,F.cell 1⟩ (fun a=>?_);clear p K
 try simp only[Act.put,Zset]
 obtain⟨gs,es,cl,d,G⟩:=l.slo;obtain⟨es2,cl2,gs2,H,o,q⟩:=ZDF d N v;have M:=H f rfl
 have Q : Hid (PInv w0 r (setBlock f x (.map es2 cl2)) mb x gb gx c0 c1 c2 c3 al t ser ⟨ys, m.jx.set arg (some y)⟩ sa n sc vs') := hid (l.stored rfl ⟨gs2, es2, cl2, o f (Yae.1 d.heap).1, fun j z g => by
   have I:ZbL f (setBlock f x (.map es2 cl2)):=(Zo.belX (BelX.set x f.heap.size f _) ⟨es,cl,d.heap⟩).y;rw[q];rw[Yaa,Ya0]at g;by_cases e:arg=j
   · rw[if_pos e,if_pos (by rw[R];exact N)]at g
     injection g with g;subst g;exact⟨v,if_pos e,E.y I⟩
   · rw[if_neg e]at g
     rw[<-Yaa]at g;obtain⟨u,T,U⟩:=G j z g;exact⟨u,by rw[if_neg e];exact T,U.y I⟩⟩)
 clear H o q d G l F E;refine Zbl Kr Kr rfl Kr (fun K p=>?_);go_simp;refine p.out _ _ ?_;clear p K a M;go_wp2;exact bodyPost_end (v:=.tuple #[]) (results_none rfl _ _ _) rfl ⟨rfl,hid ⟨_,_,_,_,Q.out⟩⟩
theorem CodeV.below{cv pv gv iv:Value}(h:CodeV w c cv pv gv iv)(a:BW w w'):CodeV w' c cv pv gv iv:=
 ⟨Zn h.cs a,(by obtain⟨xs,d,e,f⟩:=h.ps;exact⟨xs,Zn d a,e,fun x g=>(f x g).below a⟩),(by obtain⟨xs,d,e,f⟩:=h.gs;exact⟨xs,Zn d a,e,fun x g=>(f x g).below a⟩),Zn h.is a⟩
theorem PCode.below(h:PCode w c ss c0 c1 c2 c3 al)(a:BW w w'):PCode w' c ss c0 c1 c2 c3 al:=⟨h.cod.below a,h.sto.below a,h.dst⟩
theorem ZAq{q:World}(h:PInv w0 q w mb x gb gx c0 c1 c2 c3 al t ser m sa sn sc vs)(r:PCode w0 c ss c0 c1 c2 c3 al)(s:arg<c.jq.length)(z:vOk (c.jq.getD arg 0))(A:m.jy.length<64) :
  Zcu w0 q w mb x gb gx 0 arg c0 c1 c2 c3 al t ser ⟨.inl (.inl (c.jq.getD arg 0))::m.jy,m.jx⟩:=by
 unfold Zcu;have f:=(r.cod.below h.bel).cs;obtain⟨gc,cc,B⟩:=ZF f Om;subst B;have k0:=Zi f arg (Vi (c.jq.getD arg 0)) (by rw[Ya2,List.getElem?_eq_getElem s,Yaa,List.getElem?_eq_getElem s];rfl);have gcl:=Z1 f;have I:sn<64:=by have:=h.num;omega
 have C:=hid h;have G:=hid z;generalize c.jq.getD arg 0=v at *
 generalize c.jq.length=nc at *
 have J:(arg:Int)<(nc:Int):=by omega
 have D:Hid (∀n:World,BW w n->n.cell? ⟨gc,arg,none⟩=some (Vi v)):=hid (fun n H=>(H.cell (p:=⟨gc,arg,none⟩) gcl).trans k0);clear h r f k0 A z;go_enter func101,ntmps101
 go_upto_region 3 with fail
 refine ZP fun W o=>?_;have g:BW w W:=by rw[o];exact Zbal
 have i:Hid (BAt W w.heap.size [Vi 0,Vi arg] 184):=hid (by rw[o];exact(show BAt _ _ _ _ from Go.Deep.blk_alloc_new w _));have d:=hid (C.below (g.drew));have q2:=D.out W g;have gcW:gc<W.heap.size:=Yaw gcl g.size;clear o g C D gcl;generalize w.heap.size=ab at *
 have abW:=i.lt;have mbW:mb<W.heap.size:=d.st.box.lt;refine Zbn 11 (fun u=>u.cell? ⟨mb,0,none⟩=some (.slice (some ⟨gc,0,none⟩) nc cc)/\u.cell? ⟨ab,1,none⟩=some (Vi arg)/\u.cell? ⟨gc,arg,none⟩=some (Vi v)) Kr (by exact⟨d.st.box.cell 0,i.cell 1,q2⟩) (fun a=>?_);clear q2;refine Za 0 a (h:=?_);refine Za 1 a (h:=?_);refine Za 2 a (h:=?_);refine Za 3 a (h:=?_);refine Za 4 a (h:=?_);refine Za 5 a (h:=?_);refine Za 6 a (h:=?_);refine Za 7 a (h:=?_);refine Za 8 a (h:=?_);refine Za 9 a (h:=?_);refine Za 10 a (h:=?_);refine Zbl Kr Kr rfl Kr (fun K E=>?_);go_simp;refine(Zgm _ w0.heap.size mb al t (.map (some x)) (Vp gb) sn vs.reverse 340 (Vi v) d.st Om d.bel.size).mono ?_;rintro e L ⟨rfl,j,k⟩;obtain⟨g9,n9,l⟩:=j.out;have F:=hid (d.pushed (v:=.iface 340 (Vi v)) (y:=.inl (.inl v)) ⟨rfl,G.out⟩ l k.out);clear l j k;clear a i d;go_simp;refine E.out _ _ ?_;clear E K;go_wp2;exact bodyPost_end (v:=.tuple #[]) (results_none rfl _ _ _) rfl ⟨rfl,hid ⟨_,_,_,_,F.out⟩⟩
theorem ZAw{V:World}(h:PInv w0 V w mb x gb gx c0 c1 c2 c3 al t ser m sa sn sc vs)(X:PCode w0 c ss c0 c1 c2 c3 al)(he:ser=ss.map Srs.ser)(ha:arg<c.jw.length)(S:(c.jw.getD arg nd00).2<=1000)(Y:m.jy.length<64)(Z : -1000000<=t)(a0:t<=1000000) :
  Zcu w0 V w mb x gb gx 1 arg c0 c1 c2 c3 al t ser ⟨Zdl ser t (c.jw.getD arg nd00)::m.jy,m.jx⟩:=by
 unfold Zcu;have l:=X.below h.bel;obtain⟨xs,d,r,H⟩:=l.cod.ps;have I:xs.length=c.jw.length:=by rw[<-r,Yak]
 have o:arg<xs.length:=by omega
 obtain⟨gp,pc,a1⟩:=ZF d Om;subst a1;obtain⟨e0,e1,e2⟩:=ZoU xs arg o;have k0:=Zi d _ _ e0;have k1:=Zi d _ _ e1;have k2:=Zi d _ _ e2;have gpl:=Z1 d;have J:=H _ (List.getElem_mem o);have L:c.jw.getD arg nd00=xs[arg].pr:=by rw[<-r,Yaa,Ya2,List.getElem?_eq_getElem o];rfl
 rw[L]at S ⊢;rw[I]at d;generalize xs[arg]=p at *
 have a4:sn<64:=by have:=h.num;omega
 have HI:=hid h;have M:=hid J;have s:=hid l.sto;have A:=hid l.dst;have a2:p.n<=1000:=S;have a5:arg<xs.length:=o;generalize xs.length=np at *
 have a6:(arg:Int)<(np:Int):=by omega
 have HK:Hid (∀B:World,BW w B->B.cell? ⟨gp,arg*3,none⟩=some (.string p.nm)/\B.cell? ⟨gp,arg*3+1,none⟩=some (.slice p.la p.ln p.lc)/\B.cell? ⟨gp,arg*3+2,none⟩=some (Vi p.n)):=hid (fun B T=>⟨(T.cell (p:=⟨gp,arg*3,none⟩) gpl).trans k0,(T.cell (p:=⟨gp,arg*3+1,none⟩) gpl).trans k1,(T.cell (p:=⟨gp,arg*3+2,none⟩) gpl).trans k2⟩);clear h X l d k0 k1 k2 e0 e1 e2 Y H J r L S ha I;subst he;go_enter func101,ntmps101
 go_upto_region 5 with fail
 refine ZP fun W U=>?_;have f:BW w W:=by rw[U];exact Zbal
 have q:Hid (BAt W w.heap.size [Vi 1,Vi arg] 184):=hid (by rw[U];exact(show BAt _ _ _ _ from Go.Deep.blk_alloc_new w _));have j:=hid (HI.below (f.drew));obtain⟨q0,q1,q2⟩:=HK.out W f;have C:=hid (M.below f.drew);have N:=hid (s.below f.drew);have gpW:gp<W.heap.size:=Yaw gpl f.size;clear U f HI HK gpl M s;generalize w.heap.size=ab at *
 have abW:=q.lt;have mbW:mb<W.heap.size:=j.st.box.lt;have G:Hid (W.cell? ⟨gp,arg*3,none⟩=some (.string p.nm)/\W.cell? ⟨gp,arg*3+1,none⟩=some (.slice p.la p.ln p.lc)/\W.cell? ⟨gp,arg*3+2,none⟩=some (Vi p.n)):=hid ⟨q0,q1,q2⟩;refine Zbn 12 (fun D=>D.cell? ⟨mb,1,none⟩=some (.slice (some ⟨gp,0,none⟩) np pc)/\D.cell? ⟨ab,1,none⟩=some (Vi arg)/\D.cell? ⟨gp,arg*3,none⟩=some (.string p.nm)/\D.cell? ⟨gp,arg*3+1,none⟩=some (.slice p.la p.ln p.lc)/\D.cell? ⟨gp,arg*3+2,none⟩=some (Vi p.n)) Kr (by exact⟨j.st.box.cell 1,q.cell 1,q0,q1,q2⟩) (fun a=>?_);clear q0 q1 q2;refine Za 0 a (h:=?_);refine Za 1 a (h:=?_);refine Za 2 a (h:=?_);refine Za 3 a (h:=?_);refine Za 4 a (h:=?_);refine Za 5 a (h:=?_);refine Za 6 a (h:=?_);refine Za 7 a (h:=?_);refine Za 8 a (h:=?_);refine Za 9 a (h:=?_);refine Za 10 a (h:=?_);refine Z4 (i:=11) Kr rfl (fun K E=>?_);go_simp;refine(Zy3 mb c0 (.slice (some ⟨gp,0,none⟩) np pc) c2 c3 al t ss p.nm p.la p.ln p.lc p.n p.nd j.st.box N.out A.out C.nm C.cs a2 Z a0).mono ?_;rintro e z ⟨v2,rfl,F,g⟩;obtain⟨ty,u,rfl⟩:=F.shape;go_simp;have k:=hid (j.below g);have O:=hid ((q.below (Yaf _ _).drew).below g);refine E.out _ _ ⟨k.st.box.cell 1,O.cell 1,(g.cell (p:=⟨gp,arg*3,none⟩) gpW).trans G.1,(g.cell (p:=⟨gp,arg*3+1,none⟩) gpW).trans G.2.1,(g.cell (p:=⟨gp,arg*3+2,none⟩) gpW).trans G.2.2⟩ (fun a=>?_);clear E K g j q G C N A
 try simp only[Act.put,Zset]
 refine Zbl Kr Kr rfl Kr (fun K E=>?_);go_simp;refine(Zgm _ w0.heap.size mb al t (.map (some x)) (Vp gb) sn vs.reverse ty u k.st Om k.bel.size).mono ?_;rintro e w9 ⟨rfl,P,Q⟩;obtain⟨g9,n9,R⟩:=P.out;have a3:=hid (k.pushed F.out R Q.out);clear R P Q;clear a O k F;go_simp;refine E.out _ _ ?_;clear E K;go_wp2;exact bodyPost_end (v:=.tuple #[]) (results_none rfl _ _ _) rfl ⟨rfl,hid ⟨_,_,_,_,a3.out⟩⟩
theorem ZAs{wk:World}(h:PInv w0 wk w mb x gb gx c0 c1 c2 c3 al t ser m sa sn sc vs)(h5:5<=op)(h8:op<=8)(hc:PCode w0 c ss c0 c1 c2 c3 al)(ha:arg<c.jv.length){l:List El}(J:m.jy=.inl (.inr l)::ys)(N:m.jy.length<=64) :
  Zcu w0 wk w mb x gb gx op arg c0 c1 c2 c3 al t ser ⟨.inl (.inr (Zcv (op - 5) (c.jv.getD arg []) l))::ys,m.jx⟩:=by
 unfold Zcu;have O:=hc;obtain⟨xs,j,r,P⟩:=O.cod.gs;have a3:xs.length=c.jv.length:=by rw[<-r,Yak]
 have s:arg<xs.length:=by omega
 obtain⟨gp,pc,a4⟩:=ZF j Om;subst a4;have k0:=Zi j arg (.slice xs[arg].la xs[arg].ln xs[arg].lc) (by unfold ZfZ;rw[Ya2,List.getElem?_eq_getElem s];rfl);have gpl:=Z1 j;obtain⟨bs,A,k,B,a8⟩:=P _ (List.getElem_mem s);have Q:c.jv.getD arg []=xs[arg].ns:=by rw[<-r,Yaa,Ya2,List.getElem?_eq_getElem s];rfl
 rw[Q,<-ZpJ B];generalize xs[arg]=p at *
 have C:=hid A;have R:Hid (NmS bs):=hid (Ybx.1 k);have HK:Hid (∀W':World,BW w0 W'->W'.cell? ⟨gp,arg,none⟩=some (.slice p.la p.ln p.lc)):=hid (fun W' hb=>(hb.cell (p:=⟨gp,arg,none⟩) gpl).trans k0);generalize xs.length=np at *
 have a9:(arg:Int)<(np:Int):=by omega
 clear hc O j k0 P r Q A k B ha a3;obtain⟨v,vs',n,rfl,rfl,_,hn⟩:=h.top J;have hk:n<=64:=by rw[J,Yaj]at N;omega
 have HI:Hid (PInv w0 wk w mb x gb gx _ _ _ _ al t ser ⟨.inl (.inr l)::ys,m.jx⟩ sa (n+1) sc (v::vs')):=hid (by rw[<-J];exact h);clear h J N hn;have a7:IntKind.i64.wrap ((op:Int) - 5)=((op - 5:Nat):Int):=by rw[Ybo];omega
 have a5:op - 5<=3:=by omega
 have o0:¬((op:Int)=0):=by omega
 have o1:¬((op:Int)=1):=by omega
 have o2:¬((op:Int)=2):=by omega
 have o3:¬((op:Int)=3):=by omega
 have o4:¬((op:Int)=4):=by omega
 go_enter func101,ntmps101
 go_upto_region 14 with fail
 refine ZP fun W hW=>?_;have S:BW w W:=by rw[hW];exact Zbal
 have T:Hid (BAt W w.heap.size [Vi op,Vi arg] 184):=hid (by rw[hW];exact(show BAt _ _ _ _ from Go.Deep.blk_alloc_new w _));have g:=hid (HI.below S);clear hW S HI o0 o1 o2 o3 o4;generalize w.heap.size=ab at *
 go_upto_if 77 with fail
 go_cut [77] (fun s77 wx=>s77=.bool true/\wx=W)
 case first=>
  rcases(by omega:op=5∨op=6∨op=7∨op=8)with rfl|rfl|rfl|rfl <;> (go_wp2;go_meet;exact⟨rfl,rfl⟩)
 case rest=>
 obtain⟨rfl,rfl⟩:=hcut
 go_wp2_with fail
 refine(Zfz _ w0.heap.size mb _ _ _ _ al t (.map (some x)) (Vp gb) sa n sc vs'.reverse v (by have:=g.st;rwa [Ybz]at this) Om).mono ?_;rintro e z ⟨rfl,HP,L⟩;have o:=hid (g.kn HP.out L.out).1;have U:=hid (g.kn HP.out L.out).2;have D:Hid (BAt z ab [Vi op,Vi arg] 184):=hid (ZhN T.out L.out g.st.box Dc);clear g HP L T;obtain⟨s2,is2,rfl,E⟩:=U.out;obtain⟨ra,rc,rfl⟩:=Zl E.row;have V:=hid E;clear E U;have b0:=asVV (.slice ra is2.length rc)
 go_upto_region 19 with fail
 have M:Hid (BW z z.drew):=hid (Yaf _ _).drew;have d:=hid (o.below M.out);have q:=hid (D.below M.out);have q2:=HK.out z.drew d.bel;have X:=hid d.bel;have abW:=D.lt;have mbW:mb<z.heap.size:=o.st.box.lt;have gpW:gp<z.heap.size:=Yaw gpl o.bel.size;have Y:=hid (V.below M.out);clear o D V M;refine Zbn 20 (fun u=>u.cell? ⟨mb,8,none⟩=some (Vp gb)/\u.cell? ⟨ab,0,none⟩=some (Vi op)/\u.cell? ⟨mb,2,none⟩=some (.slice (some ⟨gp,0,none⟩) np pc)/\u.cell? ⟨ab,1,none⟩=some (Vi arg)/\u.cell? ⟨gp,arg,none⟩=some (.slice p.la p.ln p.lc)) Kr (by exact⟨d.st.box.cell 8,q.cell 0,d.st.box.cell 2,q.cell 1,q2⟩) (fun a=>?_);clear q2;refine Za 0 a (h:=?_);refine Za 1 a (h:=?_);refine Za 2 a (h:=?_);refine Za 3 a (h:=?_);refine Za 4 a (h:=?_);refine Za 5 a (h:=?_);refine Za 6 a (h:=?_);refine Za 7 a (h:=?_);refine Za 8 a (h:=?_);refine Za 9 a (h:=?_);refine Za 10 a (h:=?_);refine Za 11 a (h:=?_);refine Za 12 a (h:=?_);refine Za 13 a (h:=?_);refine Za 14 a (h:=?_);refine Za 15 a (h:=?_);refine Za 16 a (h:=?_);refine Za 17 a (h:=?_);refine Z4 (i:=18) Kr rfl (fun K F=>?_);go_simp;refine(ZqW gb gx (op - 5) a5 (.slice p.la p.ln p.lc) bs (.slice ra is2.length rc) l is2 _ d.gr d.gm (Zn C.out X.out) Om R.out Y.out).mono ?_;rintro e w3 ⟨v3,is3,rfl,G,H⟩;go_simp;have f:=hid (d.belX H G.2);have I:Hid (BAt w3 ab [Vi op,Vi arg] 184):=hid (Zo.belX H d.gm _ _ _ _ q.out);refine F.out _ _ ⟨f.st.box.cell 8,I.cell 0,f.st.box.cell 2,I.cell 1,HK.out w3 f.bel⟩ (fun a=>?_);have Z:Hid (PelV w3 ser t (.iface 342 v3) (.inl (.inr (Zcv (op - 5) (bs.map bl) l)))):=hid ⟨_,_,rfl,G.1⟩;clear F K H G d q Y X HK C R I
 try simp only[Act.put,Zset]
 refine Za 19 a (h:=?_);refine Zbl Kr Kr rfl Kr (fun K F=>?_);go_simp;refine(Zgm _ w0.heap.size mb al t (.map (some x)) (Vp gb) n vs'.reverse 342 v3 f.st Om f.bel.size).mono ?_;rintro e w9 ⟨rfl,a0,a1⟩;obtain⟨g9,n9,a2⟩:=a0.out;have a6:=hid (f.pushed Z.out a2 a1.out);clear a2 a0 a1;clear a f Z;go_simp;refine F.out _ _ ?_;clear F K;go_wp2;exact bodyPost_end (v:=.tuple #[]) (results_none rfl _ _ _) rfl ⟨rfl,hid ⟨_,_,_,_,a6.out⟩⟩
theorem ZAo{F:World}{i:Nat}{st tl st' tl':List Nat}(h:PInv w0 F w mb x gb gx c0 c1 c2 c3 al t (ss.map Srs.ser) m sa sn sc vs)(A:PCode w0 c ss c0 c1 c2 c3 al)(G:CodeB c)(H : -1000000<=t)(I:t<=1000000)(O:op<=13)(T:op≠9)(P:op≠10)(s:Zy c i (op,arg)=true)(q:Typd (ss.map Srs.ser).length st tl m)(Q:st.length<=64)(f:Zt c (op,arg) st tl=some (st',tl')) :
  Zcu w0 F w mb x gb gx op arg c0 c1 c2 c3 al t (ss.map Srs.ser) (doE (ss.map Srs.ser) t c (op,arg) m):=by
 have J:m.jy.length=st.length:=by rw[<-q.jy,Yak]
 have E:(ss.map Srs.ser).length<=30:=by rw[Yak];exact A.sto.len
 have K:(ss.map Srs.ser).length<=1000:=by omega
 rcases(by omega:op=0∨op=1∨op=2∨op=3∨op=4∨op=11∨op=12∨op=13∨(op=5∨op=6∨op=7∨op=8))with rfl|rfl|rfl|rfl|rfl|rfl|rfl|rfl|C
 ·have j:arg<c.jq.length:=by simpa [Zy] using s
  exact ZAq h A j (G.cs _ (ZpA j)) (by have:=ZmX (show ZE 1 st tl=_ from f);omega)
 ·have j:arg<c.jw.length:=by simpa [Zy] using s
  have L:=G.ps _ (ZpA (d:=nd00) j);exact ZAw h A rfl j L.1 (by have:=ZmX (show ZE _ st tl=_ from f);omega) H I
 ·have j:arg<=4:=by
   have:arg<5:=by simpa [Zy] using s
   omega
  cases st with
  | nil=>cases f
  | cons k r=>
   simp only[Zt]at f;split at f
   ·rename_i o;subst o;obtain⟨y,rs,g,l,p,u⟩:=q.pop;obtain⟨a,n,rfl⟩:=Zqj l;have e:doE (ss.map Srs.ser) t c (2,arg) m=⟨.inl (.inr (Zc4 (ss.map Srs.ser) a (some arg) n t))::rs,m.jx⟩:=by simp only[doE,g]
    rw[e];exact ZAv h A.dst E j g Om
   ·cases f
 ·have j:arg<=3:=by
   have:arg<4:=by simpa [Zy] using s
   omega
  cases st with
  | nil=>cases f
  | cons ky r=>
   cases r with
   | nil=>cases f
   | cons kz r=>
    simp only[Zt]at f;split at f
    ·rename_i o;rw[Yas]at o;obtain⟨y,rs,g,l,p,u⟩:=q.pop;obtain⟨z,qs,B,M,R,S⟩:=u.pop;have B:rs=z::qs:=B;subst B;obtain⟨vy,rfl⟩:=Zgl (by rw[l];exact o.2);obtain⟨vz,rfl⟩:=Zgl (by rw[M];exact o.1);have e:doE (ss.map Srs.ser) t c (3,arg) m=⟨.inl (Zdg arg vz vy)::qs,m.jx⟩:=by simp only[doE,g];rfl
     rw[e];exact ZAp h j g Om (VOk.more K p)
    ·cases f
 ·cases st with
  | nil=>cases f
  | cons ky r=>
   simp only[Zt]at f;split at f
   ·rename_i o;obtain⟨y,rs,g,l,p,u⟩:=q.pop;obtain⟨vy,rfl⟩:=Zgl (by rw[l];exact o);have e:doE (ss.map Srs.ser) t c (4,arg) m=⟨.inl (negV vy)::rs,m.jx⟩:=by simp only[doE,g];rfl
    rw[e];exact ZAu h g Om
   ·cases f
 ·cases st with
  | nil=>cases f
  | cons k r=>
   obtain⟨y,rs,g,l,p,u⟩:=q.pop;have e:doE (ss.map Srs.ser) t c (11,arg) m=⟨rs,m.jx⟩:=by simp only[doE,g];rfl
   rw[e];exact ZAr h g Om
 ·cases st with
  | nil=>cases f
  | cons k r=>
   have j:arg<16:=by simpa [Zy] using s
   obtain⟨y,rs,g,l,p,u⟩:=q.pop;have e:doE (ss.map Srs.ser) t c (12,arg) m=⟨rs,m.jx.set arg (some y)⟩:=by simp only[doE,g]
   rw[e];exact ZAx h j q.len g Om
 ·have j:arg<16:=by simpa [Zy] using s
  simp only[Zt]at f;split at f
  ·cases f
  ·rename_i N;obtain⟨y,l,o⟩:=q.jx arg N;have e:doE (ss.map Srs.ser) t c (13,arg) m=⟨y::m.jy,m.jx⟩:=by simp only[doE,l]
   rw[e];exact ZAt h j l (by have:=ZmX f;omega)
 ·have key:∃r,st=2::r:=by
   cases st with
   | nil=>rcases C with rfl|rfl|rfl|rfl <;> cases f
   | cons k r=>
    have D:(if k=2 then ZE 2 r tl else none)=some (st',tl'):=by rcases C with rfl|rfl|rfl|rfl <;> exact f
    split at D
    ·rename_i o;subst o;exact⟨r,rfl⟩
    ·cases D
  obtain⟨r,rfl⟩:=key;obtain⟨y,rs,g,l,p,u⟩:=q.pop;obtain⟨v,rfl⟩:=Zet l;have j:arg<c.jv.length:=by rcases C with rfl|rfl|rfl|rfl <;> simpa [Zy] using s
  have e:doE (ss.map Srs.ser) t c (op,arg) m=⟨.inl (.inr (Zcv (op - 5) (c.jv.getD arg []) v))::rs,m.jx⟩:=by
   rcases C with rfl|rfl|rfl|rfl <;> (simp only[doE,g];rfl)
  rw[e];exact ZAs h Om Om A j g Om
def RunC(A:Nat->Addr)(o:Option (List (LB)×Nat))(r:BA)(err:Value):Prop:=match o with
 | none=>r=⟨#[]⟩/\err=.iface 491 (.pointer (some (A 12)))
 | some z=>bl r=Zcn z.1/\err=.nilIface
theorem Zy4(j:Nat)(y:Cl)(c:mq0.jx.getD j none=some y):False:=by
 have d:(List.replicate 16 (none:Option Cl)).getD j none=none:=by rw[Yaa,Ybs];split <;> rfl
 have a:(mq0.jx).getD j none=some y:=c;unfold mq0 at a;rw[d]at a;cases a
structure PIdle (w0 w:World) (mb x gb gx:Nat) (c0 c1 c2 c3 al:Value) (t:Int) (sa:Option Addr) (sn sc:Nat) (vs:List Value):Prop where
 st:PSt w w0.heap.size mb c0 c1 c2 c3 al t (.map (some x)) (Vp gb) sa sn sc vs
 mp:∃gs es cl,MapI w x gs es cl
 gr:BAt w gb [.map (some gx)] 339
 gm:MapX w gx
 bel:BW w0 w
 lm:w0.heap.size<=mb
 lx:w0.heap.size<=x
 lg:w0.heap.size<=gx
 ne:x≠gx
theorem PInv.idle{a:World}(h:PInv w0 a w mb x gb gx c0 c1 c2 c3 al t ser m sa sn sc vs):PIdle w0 w mb x gb gx c0 c1 c2 c3 al t sa sn sc vs.reverse:=by
 obtain⟨gs,es,cl,c,_⟩:=h.slo;exact⟨h.st,⟨gs,es,cl,c⟩,h.gr,h.gm,h.bel,h.lm,h.lx,h.lg,h.ne⟩
theorem PIdle.below(h:PIdle w0 w mb x gb gx c0 c1 c2 c3 al t sa sn sc vs)(a:BW w w'):PIdle w0 w' mb x gb gx c0 c1 c2 c3 al t sa sn sc vs:=by
 obtain⟨gs,es,cl,c⟩:=h.mp;exact⟨h.st.below a,⟨gs,es,cl,c.moved (a.block x (Yae.1 c.heap).1)⟩,h.gr.below a,h.gm.below a,h.bel.trans (a.mono h.bel.size),h.lm,h.lx,h.lg,h.ne⟩
theorem PIdle.grown(h:PIdle w0 w mb x gb gx c0 c1 c2 c3 al t sa sn sc vs){n:Nat}(a:w.ownsRow w0.heap.size 9 1 v n xs)(c:w.grownBy w' v.ownBlock):PIdle w0 w' mb x gb gx c0 c1 c2 c3 al t sa sn sc vs:=by
 obtain⟨gs,es,cl,d⟩:=h.mp;obtain⟨es2,cl2,e⟩:=h.gm;exact⟨⟨h.st.box.ownGrownR a c Dc,ZmB h.st.own a c Dc,h.st.len⟩,⟨gs,es,cl,d.moved (c.block x (Yae.1 d.heap).1 (Zmh d.heap a))⟩,h.gr.ownGrownR a c Dc,⟨es2,cl2,(c.block gx (Yae.1 e).1 (Zmh e a)).trans e⟩,h.bel.grown c h.bel.size (fun q f=>(a.lt q f).1),h.lm,h.lx,h.lg,h.ne⟩
theorem PIdle.begun{t2:Int}{cl:Nat}(h:PIdle w0 w mb x gb gx c0 c1 c2 c3 al t sa sn sc vs)(ser:List Ser)(i:PSt w' w0.heap.size mb c0 c1 c2 c3 al t2 (.map (some x)) (Vp gb) sa 0 sc [])(l:MapI w' x [] #[] cl)(f:w'.os=w.os/\w'.tape=w.tape/\w'.output=w.output/\w.heap.size<=w'.heap.size/\∀k,k≠mb->k≠x->w'.heap[k]?=w.heap[k]?):PInv w0 w w' mb x gb gx c0 c1 c2 c3 al t2 ser mq0 sa 0 sc []:=by
 obtain⟨k1,k2,k3,k4,k5⟩:=f;obtain⟨es,cg,g⟩:=h.gm;obtain⟨_,es0,cl0,m⟩:=h.mp
 have a : ZbL w w' := fun b c T fr n _ d => (k5 b (fun e => by
   rw[e]at d;have:=d.symm.trans h.st.box;injection this with this;injection this with _ this _;exact n this) (fun e=>ZjJ m.heap d e.symm)).trans d
 exact⟨i,⟨[],#[],cl,l,fun j y a=>(Zy4 j y a).elim⟩,a _ _ _ _ Dc Dc h.gr,⟨es,cg,(k5 gx (ZjJ g h.st.box) (fun e=>h.ne e.symm)).trans g⟩,trivial,⟨k1.trans h.bel.os,k2.trans h.bel.tape,k3.trans h.bel.output,Yah h.bel.size k4,fun k f=>(k5 k (by have:=h.lm;omega) (by have:=h.lx;omega)).trans (h.bel.block k f)⟩,h.lm,h.lx,h.lg,h.ne,a⟩
theorem ZAW(co:CodeQ)(L:List Ah)(ss:List Srs)(ts:List Int)(fuel:Int){tv:Value}(A:Nat->Addr)(mx:Int)(w:World)(Z:Vars w A mx)(hc:PCode w co ss c0 c1 c2 c3 al)(g1:CodeB co)(g2:Flow co L)(l5:co.jz.length<=65535)(b8:∀x∈co.jz,x.1<=13/\x.2<65536)(o8:ts.length<=50)(g3:∀t∈ts,-1000000<=t/\t<=1000000)(a2:w.ownsRow 0 3 1 tv ts.length (ts.map (Value.int .i64)))(hp:ZR w)(hB:20<=w.heap.size) :
  CP 48 #[.agg #[c0,c1,c2,c3],al,tv,Vi fuel] w fun e w'=>∃r err,e=.returned (.tuple #[.string r,err])/\Hid (RunC A (if fuel<0∨1000000<fuel then none else ZbO (ss.map Srs.ser) co fuel.toNat ts) r err)/\BW w w':=by
 obtain⟨i0,hi,g4,g5,g6⟩:=info_parts Tryz.infoStrG;obtain⟨ta,tcp,rfl⟩:=Zl a2;obtain⟨aa,acp,rfl⟩:=Zl hc.sto.row;obtain⟨ia,ic,rfl⟩:=Zl hc.cod.is;have HV:=hid Z;have HC:=hid hc;have l6:=hid g1;have G:=hid g2;have k7:=hid b8;have l7:=hid g3;have b9:=hid a2;have HP:=hid hp;have g7:=hid hB;have g12:w.cell? ⟨12,0,none⟩=some (.iface 491 (.pointer (some (A 12)))):=Z.sent _ Dc;have c6:=Yai _ _ g12;simp only at c6;have k8:¬w.heap.size=12:=by omega
 have g0:¬12=w.heap.size:=by omega
 clear Z hc g1 g2 b8 g3 a2 hp hB;generalize ho:(if fuel<0∨1000000<fuel then none else ZbO (ss.map Srs.ser) co fuel.toNat ts)=o;have M:=hid ho;clear ho;go_enter func48,ntmps48;go_wp2
 go_step3
 by_cases a5:fuel<0∨1000000<fuel
 ·have g8:Hid (o=none):=hid (by rw[<-M.out,if_pos a5]);clear M;rcases a5 with hf|hf
  ·go_wp2
   go_region
   all_goals (try go_wp2)
   all_goals ((try rw[Ycl]);go_ret2;exact⟨_,_,rfl,hid (by rw[g8.out];exact⟨rfl,rfl⟩),belB⟩)
  ·have l8:¬fuel<0:=by omega
   go_wp2
   go_region
   all_goals (try go_wp2)
   all_goals ((try rw[Ycl]);go_ret2;exact⟨_,_,rfl,hid (by rw[g8.out];exact⟨rfl,rfl⟩),belB⟩)
 ·rw[if_neg a5]at M;obtain⟨fu,rfl⟩:∃fu:Nat,fuel=fu:=⟨fuel.toNat,by omega⟩
  have k9:fu<=1000000:=by omega
  have l8:¬(fu:Int)<0:=by omega
  have g9:¬(1000000:Int)<(fu:Int):=by omega
  have o9:¬1000000<fu:=by omega
  clear a5;rw[Int.toNat_natCast]at M
  go_wp2_with fail
  refine Zm fun W hW=>?_;have i1:BW w W:=by rw[hW];exact Zbal
  have c7:Hid (BAt W w.heap.size [c0,c1,c2,.slice ia co.jz.length ic] 58):=hid (by rw[hW];exact(show BAt _ _ _ _ from Go.Deep.blk_alloc_new w _));have B:=hid i1;clear hW i1;refine(ZAM W W.heap.size c0 c1 c2 (.slice ia co.jz.length ic) aa ss.length acp).mono ?_;rintro e w1 ⟨mb,rfl,K⟩;have l9:=hid (c7.below K.below);obtain⟨x,gb,gx,i2,T,i3,i4,lx,lgb,lgx,c8⟩:=K.ex;have c9:Hid (PIdle W w1 mb x gb gx c0 c1 c2 (.slice ia co.jz.length ic) (.slice aa ss.length acp) 0 none 0 0 []):=hid ⟨i2,⟨_,_,_,T⟩,i3,i4,K.below,K.old,lx,lgx,c8⟩;clear i2 T i3 i4 lx lgb lgx c8 K;have d0:=hid (HC.below B.out);have S:=hid (Zn b9.out B.out);have m0:=hid (HV.below B.out);have m1:=hid (HP.low B.out g7.out);have i5:=hid (Yah g7.out B.size);have d2:=hid c7.out;clear HC b9 HV HP c7 l9 g12 c6 k8 g0;have i6:=c9.bel.size
  go_wp2_with (at_make;refine wpList_make_own _ rfl _ _ 90 rfl W.heap.size 9 i0 _ 1 underlying90 hi g4 g5 _ _ _ ts.length rfl rfl rfl ?b2 ?b3 ?b4 ?_)
  case b2=>rw[g6];omega
  case b3=>unfold maxLen;omega
  case b4=>exact i6
  intro w2 a6 j;have i7:BW w1 w2:=⟨j.os,j.tape,j.output,j.size,fun k hk=>j.block k hk (by simp)⟩
  have d3:=hid (c9.below i7);have i8:=hid a6;clear i7 j a6 c9 i6;obtain⟨n,hn⟩:∃n,n=co.jz.length:=⟨_,rfl⟩
  have K:=hid hn;rw[<-hn]at l5;rw[<-hn]at d3 d2 ⊢;have m2:Hid (W.ownsRow 0 184 2 (.slice ia n ic) n (ZdL co.jz)):=hid (by rw[hn];exact d0.cod.is);have a7:Hid (PCode W co ss c0 c1 c2 (.slice ia n ic) (.slice aa ss.length acp)):=hid (by rw[hn];exact d0.out);clear hn d0;generalize w.heap.size=xb at d2 ⊢;go_wp2
  go_step3
  go_wp2
  go_loopw [3,11,31] (fun fv lv kv wr=>∃(k fk:Nat) (rs:List BA) (t:Int) (sa:Option Addr) (sn sc:Nat) (vs:List Value),k<=ts.length/\kv=Vi k/\fv=Vi fk/\fk<=1000000/\rs.length=k/\Hid (wr.ownsRow W.heap.size 9 1 lv rs.length (Zbc rs))/\Hid (ZbO (ss.map Srs.ser) co fu (ts.take k)=some (rs.map bl,fk))/\Hid (∀r∈rs,r.size<=40000000000)/\Hid (PIdle W wr mb x gb gx c0 c1 c2 (.slice ia n ic) (.slice aa ss.length acp) t sa sn sc vs)) (fun _ _ kv _=>ts.length - (intOf kv).toNat)
  case atStart=>exact⟨0,fu,[],0,_,_,_,_,Yag _,rfl,rfl,k9,rfl,i8,hid rfl,hid (fun r hr=>by cases hr),d3⟩
  case round=>
   clear d3 i8;obtain⟨k,fk,rs,t,sa,sn,sc,vs,hk,rfl,rfl,m3,i9,HO,d4,HZ,HD⟩:=hrel;have N:=hid i9;clear i9;by_cases d5:k<ts.length
   ·obtain⟨tg,tcp',m4⟩:=ZF S.out Om;injection m4 with htg1 _ htg2;subst htg1 htg2;have d1:=Zi (Zn S.out HD.bel) k (Vi ts[k]) (by rw[Ya2,List.getElem?_eq_getElem d5];rfl);have d6:=hid (l7.out _ (List.getElem_mem d5))
    have U:Hid (ZbO (ss.map Srs.ser) co fu (ts.take (k+1))=match runE (ss.map Srs.ser) ts[k] co fk 0 mq0 with
     | none=>none
     | some z=>some (rs.map bl++[Zel ts[k] (topE z.2)],z.1)):=hid (by rw[List.take_succ_eq_append_getElem d5,Znq,d4.out];rfl)
    generalize ts[k]=tm at *
    have p0:(k:Int)<(ts.length:Int):=by omega
    have m5:=Z1 (Zn S.out HD.bel);go_wp2
    go_step3
    go_wp2_with fail
    obtain⟨gs,es,cl,T⟩:=HD.mp;refine(ZAn W.heap.size mb x c0 c1 c2 (.slice ia n ic) (.slice aa ss.length acp) t tm (Vp gb) sa sn sc vs gs es cl HD.st T).mono ?_;rintro e w4 ⟨rfl,j0,j1,j2⟩;have d7:=hid (HD.begun (ss.map Srs.ser) j0.out j1.out j2.out);have j3:=hid (d7.ky.own HO.out Dc Dc);have j4:=hid d7.re;clear j0 j1 j2 d7 T HD HO d1 m5 d4;go_wp2
    go_step3
    go_wp2;obtain⟨L3,d8⟩:∃L3,L3=u11:=⟨_,rfl⟩
    go_loopw [3,11,14] (fun fv lv iv wq=>∃(i f1:Nat) (m:MQ) (sa1:Option Addr) (sn1 sc1:Nat) (vs1:List Value),lv=L3/\i<=n/\iv=Vi i/\fv=Vi f1/\f1<=1000000/\Hid (runE (ss.map Srs.ser) tm co fk 0 mq0=runE (ss.map Srs.ser) tm co f1 i m)/\Hid ((L.getD i ah0).kj=true/\Typd (ss.map Srs.ser).length (L.getD i ah0).jy (L.getD i ah0).jx m/\m.jy.length<=64)/\Hid (PInv W wq wq mb x gb gx c0 c1 c2 (.slice ia n ic) (.slice aa ss.length acp) tm (ss.map Srs.ser) m sa1 sn1 sc1 vs1)/\Hid (wq.ownsRow W.heap.size 9 1 L3 rs.length (Zbc rs))) (fun _ _ iv _=>n - (intOf iv).toNat)
    case atStart=>exact⟨0,fk,mq0,sa,0,sc,[],d8.symm,Yag _,rfl,rfl,m3,hid rfl,hid ⟨(G.start (ss.map Srs.ser).length).1,(G.start (ss.map Srs.ser).length).2,Yag _⟩,j4,by rw[d8];exact j3⟩
    case round=>
     clear j4 j3;obtain⟨i,f1,m,sa1,sn1,sc1,vs1,e3,p1,rfl,rfl,g9,O,c,d,l⟩:=hrel;subst e3;subst d8;obtain⟨la,lc,rfl⟩:=Zl l.out;have P:=hid (B.trans (d.bel.mono B.size));have d9:=hid (d2.below d.bel);have b3:=d9.cell 3;simp only[Zget]at b3;have j5:=d9.lt;have s:=hid (Zn m2.out d.bel);clear d9;by_cases m6:i<n
     ·have C:i<co.jz.length:=by rw[<-K.out];exact m6
      cases f1 with
      | zero=>
       have HX:Hid (ZbO (ss.map Srs.ser) co fu ts=none):=hid (ZDe (k:=k+1) (by rw[U.out,O.out,ZBC C]));have g12:wr.cell? ⟨12,0,none⟩=some (.iface 491 (.pointer (some (A 12)))):=(m0.below d.bel).sent _ Dc;have l0:¬((i:Int)=(n:Int)):=by omega
       have m7:(rs.length:Int)<(ts.length:Int):=by have:=N.out;omega
       clear O c d s l U;go_wp2;rw[Exit.noGoto_exit];go_wp2
       go_region
       all_goals (try go_wp2)
       all_goals ((try rw[Ycl]);go_ret2;exact⟨_,_,rfl,hid (by rw[<-M.out,HX.out];exact⟨rfl,rfl⟩),P.drew⟩)
      | succ f2=>
       have c8:¬(((f2+1:Nat):Int)=0):=by omega
       have o6:¬(((f2:Int)+1)=0):=by omega
       have l0:¬((i:Int)=(n:Int)):=by omega
       have p2:(i:Int)<(n:Int):=by omega
       obtain⟨op,arg,a8⟩:∃op arg,co.jz[i]?=some (op,arg):=⟨_,_,List.getElem?_eq_getElem C⟩
       have a9:co.jz.getD i (0,0)=(op,arg):=by rw[Yaa,a8];rfl
       have j6:co.jz[i]=(op,arg):=(Ycm.1 a8).2;have e0:=(k7.out (op,arg) (Ycq a8)).1;obtain⟨_,st1,sl1,a3,_,_⟩:=G.step i C c.1;have f:=G.next a7.dst tm C (by rw[a9];exact e0) c.1 c.2.1;have a4:=G.len a7.dst tm C (by rw[a9];exact e0) c.1 c.2.1 c.2.2;have e1:=G.fwd i C;have e2:=Zj4 (ss.map Srs.ser) tm co f2 i m C;rw[a9]at a3 f a4 e1 e2;have m8:(L.getD i ah0).jy.length<=64:=by rw[<-c.2.1.jy,Yak];exact c.2.2
       obtain⟨gi,ic',m9⟩:=ZF s.out Om;injection m9 with hgi1 _ hgi2;subst hgi1 hgi2;have q0:=Zi s.out _ _ (Zfm co.jz i C).1;have q1:=Zi s.out _ _ (Zfm co.jz i C).2;rw[j6]at q0 q1;simp only at q0 q1;have l1:=Z1 s.out;have p:Hid (runE (ss.map Srs.ser) tm co fk 0 mq0=runE (ss.map Srs.ser) tm co f2 (Zbj i (op,arg) m) (doE (ss.map Srs.ser) tm co (op,arg) m)):=hid (by rw[O.out,e2]);have g:=hid (And.intro f.2.2.1 (And.intro f.2.2.2 a4));have V:i<Zbj i (op,arg) m:=f.1;have E:Zbj i (op,arg) m<=n:=by rw[K.out];exact f.2.1
       have D:=hid a3;have X:=hid e1;clear a3 f a4 e1 e2 a9 a8 O j6 s P U
       go_upto_region 15 with fail
       refine ZP fun W5 e4=>?_;have Q:BW wr W5:=by rw[e4];exact Zbal
       have R:Hid (BAt W5 wr.heap.size [Vi op,Vi arg] 184):=hid (by rw[e4];exact(show BAt _ _ _ _ from Go.Deep.blk_alloc_new wr _));have F:=hid (d.below Q);have b0:=hid (Zn l.out Q);clear e4 Q b3 j5 q0 q1 l1;generalize wr.heap.size=ab at *
       have a0:=R.cell 0;have a1:=R.cell 1;simp only[Zget]at a0 a1;have e5:=R.lt;by_cases h9:op=9
       ·subst h9;have H:Hid (runE (ss.map Srs.ser) tm co fk 0 mq0=runE (ss.map Srs.ser) tm co f2 arg m):=p;have I:Hid ((L.getD arg ah0).kj=true/\Typd (ss.map Srs.ser).length (L.getD arg ah0).jy (L.getD arg ah0).jx m/\m.jy.length<=64):=g;have p3:i<arg:=V;have n0:arg<=n:=E;have q:=hid F.re;clear p g V E d l F D X c;go_wp2
        go_roundw
        case rel=>exact⟨arg,f2,m,sa1,sn1,sc1,vs1,rfl,n0,rfl,by go_num,by omega,H,I,q,b0⟩
        case measure=>simp[intOf];omega
       ·have p4:¬((op:Int)=9):=by omega
        by_cases e6:op=10
        ·subst e6
         have n2:∃v ys,m.jy=.inl (.inr v)::ys:=by
          have hs:=D.out;have hT:=c.2.1;generalize(L.getD i ah0).jy=st at hs hT;cases st with
          | nil=>cases hs
          | cons kk r=>
           simp only[Zt]at hs;split at hs
           ·rename_i n3;subst n3;obtain⟨y,rs',hm,hy,_,_⟩:=hT.pop;obtain⟨v,rfl⟩:=Zet hy;exact⟨v,rs',hm⟩
           ·cases hs
         obtain⟨v,ys,hm⟩:=n2;obtain⟨v1,vs',n1,rfl,rfl,n4,e7⟩:=F.top hm;have l2:n1<=64:=by have:=c.2.2;rw[hm,Yaj]at this;omega
         obtain⟨s1,is1,rfl,e8⟩:=n4;obtain⟨va,vc,rfl⟩:=Zl e8.row;have n5:=e8.len';clear e8
         go_wp2_with fail
         refine(ZAz W5 W.heap.size mb c0 c1 c2 (.slice (some ⟨gi,0,none⟩) n ic) (.slice aa ss.length acp) tm (.map (some x)) (Vp gb) sa1 n1 sc1 vs'.reverse va is1.length vc (by have:=F.st;rwa [Ybz]at this) l2).mono ?_;rintro e w6 ⟨rfl,b1⟩;have q:=hid (F.below b1.out).re;have b5:=hid (Zn b0.out b1.out);have j7:=hid (R.below b1.out);clear b1 F b0 R a0 a1 e5;have a1:=j7.cell 1;simp only[Zget]at a1;have e5:=j7.lt;have b6:ZiG m=!v.isEmpty:=by unfold ZiG;rw[hm];rfl
         by_cases h0:is1.length=0
         ·have e9:v=[]:=Ya3 Om;have f:Zbj i (10,arg) m=i+1:=by unfold Zbj;simp only;rw[if_neg Dc,if_neg (by rw[b6,e9];simp)]
          rw[f]at p g E;have H:Hid (runE (ss.map Srs.ser) tm co fk 0 mq0=runE (ss.map Srs.ser) tm co f2 (i+1) m):=p;have I:Hid ((L.getD (i+1) ah0).kj=true/\Typd (ss.map Srs.ser).length (L.getD (i+1) ah0).jy (L.getD (i+1) ah0).jx m/\m.jy.length<=64):=g;rw[show decide ((0:Int)<(is1.length:Int))=false from decide_eq_false Om];clear p g V d l D X c hm f b6;go_wp2
          go_roundw
          case rel=>exact⟨i+1,f2,m,_,_,_,_,rfl,E,by go_num,by go_num,by omega,H,I,q,b5⟩
          case measure=>simp[intOf];omega
         ·have e9:v.isEmpty=false:=by
           cases v with
           | nil=>exact absurd n5.symm h0
           | cons a b=>rfl
          have f:Zbj i (10,arg) m=arg:=by unfold Zbj;simp only;rw[if_neg Dc,if_pos ⟨trivial,by rw[b6,e9];rfl⟩]
          rw[f]at p g E V;have H:Hid (runE (ss.map Srs.ser) tm co fk 0 mq0=runE (ss.map Srs.ser) tm co f2 arg m):=p;have I:Hid ((L.getD arg ah0).kj=true/\Typd (ss.map Srs.ser).length (L.getD arg ah0).jy (L.getD arg ah0).jx m/\m.jy.length<=64):=g;rw[show decide ((0:Int)<(is1.length:Int))=true from decide_eq_true Om];clear p g d l D X c hm f b6;go_wp2
          go_roundw
          case rel=>exact⟨arg,f2,m,_,_,_,_,rfl,E,rfl,by go_num,by omega,H,I,q,b5⟩
          case measure=>simp[intOf];omega
        ·have o7:¬((op:Int)=10):=by omega
         have f:Zbj i (op,arg) m=i+1:=by unfold Zbj;simp only;rw[if_neg h9,if_neg (fun hh=>e6 hh.1)]
         have j8:=hid (ZAo F.out a7.out l6.out d6.1 d6.2 e0 h9 e6 X.out c.2.1 m8 D.out);rw[f]at p g E;clear V d D X c F b0
         go_wp2_with fail
         refine j8.mono ?_;rintro e w6 ⟨rfl,J⟩;obtain⟨sa6,sn6,sc6,vs6,f0⟩:=J.out;have b5:=hid (f0.ky.own l.out Dc Dc);have q:=hid f0.re;clear f0 J j8 l R a0 a1 e5;go_wp2
         go_roundw
         case rel=>exact⟨i+1,f2,_,sa6,sn6,sc6,vs6,rfl,E,by go_num,by go_num,by omega,p,g,q,b5⟩
         case measure=>simp[intOf];omega
     ·obtain rfl:i=n:=by omega
      have j9:co.jz.length<=i:=by rw[<-K.out];exact Yac _
      obtain⟨v,Z,k0⟩:=G.end_ (n:=(ss.map Srs.ser).length) (m:=m) (by have:=c.2.1;rw[K.out]at this;exact this);have f3:VOk 30 v:=VOk.more (by rw[Yak];exact a7.sto.len) k0;have f4:topE m=v:=by unfold topE;rw[Z];rfl
      have k1:Hid (ZbO (ss.map Srs.ser) co fu (ts.take (k+1))=some (rs.map bl++[Zel tm v],f1)):=hid (by rw[U.out,O.out,Zg5 j9,<-f4]);have k2:=hid f3;obtain⟨mst,msl⟩:=m;simp only at Z;subst Z;obtain⟨v1,vs',n1,rfl,rfl,_,e7⟩:=d.top rfl;have n6:n1<=64:=by rw[e7];exact Yag _
      clear c O j9 k0 f3 f4 U s e7 P
      go_wp2_with fail
      refine(Zfz _ W.heap.size mb c0 c1 c2 (.slice ia i ic) (.slice aa ss.length acp) tm (.map (some x)) (Vp gb) sa1 n1 sc1 vs'.reverse v1 (by have:=d.st;rwa [Ybz]at this) n6).mono ?_;rintro e w6 ⟨rfl,q,f5⟩;have f6:=hid (d.kn q.out f5.out).1;have k3:Hid (ValP w6 v1 v):=hid (d.kn q.out f5.out).2;have k4:=hid (f6.ky.own l.out Dc Dc);have J:=hid f6.idle;clear q f5 d l f6 b3 j5
      go_wp2_with fail
      refine(ZqI tm (by have:=d6.out;unfold vOk;omega) v1 v w6 k3.out k2.out (m1.low J.bel i5.out) (Yah i5.out J.bel.size)).mono ?_;rintro e w7 ⟨r7,rfl,k5,k6,f7⟩;have f8:=hid (Zn k4.out f7);have f9:=hid (J.below f7);have n7:=hid k6;have n8:=f9.bel.size;clear f7 k6 k4 J k3 k2
      go_wp2_with (at_builtin;refine wpList_append_own _ rfl (.tmp 43) (.tmp 48) 90 rfl W.heap.size 9 i0 (.string ByteArray.empty) 1 16 underlying90 hi g4 g5 g6 rfl Dc _ _ _ rfl (f8.alloc _) ⟨w7.heap.size,0,none⟩ 1 1 [.string r7] rfl rfl ?c1 ?c2 ?c3 ?c4 ?c5 ?_)
      case c1=>exact ZcY rfl
      case c2=>intro u hu;simp at hu;subst hu;rfl
      case c3=>have:=N.out;unfold maxLen;omega
      case c4=>have:=N.out;omega
      case c5=>simp;omega
      intro v8 w8 b7 Y _;have n9:Hid (w8.ownsRow W.heap.size 9 1 v8 (rs++[r7]).length (Zbc (rs++[r7]))):=hid (by rw[Zh2,Yab];exact b7);have o0:=hid ((f9.below Zbal).grown (f8.alloc _) Y);have o1:Hid (ZbO (ss.map Srs.ser) co fu (ts.take (k+1))=some ((rs++[r7]).map bl,f1)):=hid (by rw[k1.out,Yaq,Yco,k5.out])
      have o2 : Hid (∀ r ∈ rs ++ [r7], r.size <= 40000000000) := hid (fun r hr => by
        rcases Yar.1 hr with h|h
        · exact HZ.out r h
        · rw[Yap]at h;subst h;exact n7.out)
      clear Y b7 k1 k5 f9 f8 n8;go_wp2;rw[Exit.noGoto_exit];go_wp2
      go_roundw
      case rel=>exact⟨k+1,f1,rs++[r7],tm,_,_,_,_,by omega,by go_num,rfl,g9,by have:=N.out;simp;omega,n9,o1,o2,o0⟩
      case measure=>simp[intOf];omega
   ·obtain rfl:k=ts.length:=by omega
    have l3:Hid (ZbO (ss.map Srs.ser) co fu ts=some (rs.map bl,fk)):=hid (by have:=d4.out;rwa [Ya4]at this);obtain⟨la,lc,o3⟩:=Zl HO.out;subst o3;have m7:¬((rs.length:Int)<(ts.length:Int)):=by have:=N.out;omega
    have l4:rs.length<=50:=by have:=N.out;omega
    have P:=hid (B.trans (HD.bel.mono B.size))
    go_wp2_with fail
    refine(Zqb rs HO.out l4 HZ.out).mono ?_;rintro e w5 ⟨r5,rfl,o4,Q⟩;have o5:=hid (P.trans (Q.mono P.size));clear Q;go_wp2
    try rw[Ycl]
    go_ret2;exact⟨_,_,rfl,hid (by rw[<-M.out,l3.out];exact⟨o4.out,rfl⟩),o5.out⟩
