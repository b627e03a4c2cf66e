/- Parts. -/
import Derived.Test.YtcdgkkfipdoeeaaGreatDoorT07
set_option linter.all false
set_option maxRecDepth 100000
set_option maxHeartbeats 16000000
namespace Go.Proofs.YtcdgkkfipdoeeaaGreatDoor
open Go.RowKit LS Go.Proofs.Tryz
variable {a:LB}{ts:List Tok}{deep n o:Nat}{s:Sh}{c:UInt8}
section
section
variable {α β:Type}
def ZGq(x y:Out α):Prop:=∀z,x=.ok z->y=.ok z∨∃p,y=.error (3,p)
theorem ZGq.refl(x:Out α):ZGq x x:=fun _ h=>Or.inl h
theorem ZGq.bnd{x y:Out α}{f g:α->List Tok->Out β}(h:ZGq x y)(d:∀a r,ZGq (f a r) (g a r)):ZGq (LS.bnd x f) (LS.bnd y g):=by
 intro z i;obtain⟨a,r,j,k⟩:=Ze i;rcases h _ j with e|⟨p,e⟩
 ·rw[e];exact d a r z k
 ·rw[e];exact Or.inr ⟨p,rfl⟩
theorem ZH8{rec:Nat->List Tok->Nat->Out Tr}(a:∀lv ts d d',ZGq (rec lv ts d) (rec lv ts d'))(ts:List Tok){d d':Nat}:ZGq (Zbw rec ts d) (Zbw rec ts d'):=by
 have e:∀ts,ZGq (Zbu rec ts d) (Zbu rec ts d'):=fun ts=>(ZGq.refl _).bnd fun _ r=>(a 0 r d d').bnd fun _ _=>ZGq.refl _;unfold Zbw;split
 ·exact ZGq.refl _
 ·split
  ·exact(a 3 _ d d').bnd fun _ _=>ZGq.refl _
  ·split
   ·exact e ts
   ·split
    ·exact(ZGq.refl _).bnd fun _ _=>(ZGq.refl _).bnd fun _ _=>(ZGq.refl _).bnd fun _ r=>(e r).bnd fun _ _=>ZGq.refl _
    ·split <;> exact ZGq.refl _
theorem ZGH:∀(n:Nat) (m:Bool) (lv:Nat) (a:Tr) (ts:List Tok) (d d':Nat),ZGq (Zs n m lv a ts d) (Zs n m lv a ts d')
 | 0,_,_,_,_,_,_=>fun _ h=>by cases h
 | n + 1, false, lv, a, ts, d, d' => by
   rw[Zs,Zs];split
   · unfold Zb9
     split
     · intro z e
       split at e
       · cases e
       · split
         · exact Or.inr ⟨_,rfl⟩
         · exact ZH8 (fun lv ts d d'=>ZGH n false lv .nil ts d d') ts z e
     · exact ZGq.refl _
   · exact(ZGH n false (lv+1) .nil ts d d').bnd fun a r=>ZGH n true lv a r d d'
 | n + 1, true, lv, a, ts, d, d' => by
   rw[Zs,Zs];split
   · exact ZGq.refl _
   · exact(ZGH n false (lv+1) .nil ts.tail d d').bnd fun b r=>ZGH n true lv _ r d d'
end
section
variable {x y:List Sh} {t l r:Tr} {lv:Nat}
def Rd(x:List Sh)(t:Tr)(lv:Nat):Prop:=∀n ts rs deep,ts.map sh=x++rs->stops lv rs->5*x.length+4<=n+lv->(∃r,r.map sh=rs/\Zs n false lv .nil ts deep=.ok (t,r))∨∃p,Zs n false lv .nil ts deep=.error (3,p)
def Rc(x:List Sh)(t:Tr)(lv:Nat):Prop:=∀n ts rs deep,ts.map sh=x++rs->stops (lv+1) rs->5*x.length+4<=n+lv->(∃r n',r.map sh=rs/\n<=n'+5*x.length/\1<=n'/\Zs n false lv .nil ts deep=Zs n' true lv t r deep)∨∃p,Zs n false lv .nil ts deep=.error (3,p)
theorem ZHI(h:DP t lv)(g:nd t (lv+1)<=20):Rd (toks t (lv+1)) t lv:=by
 intro n ts rs deep a d f;obtain⟨r,e1,e2⟩:=h n ts rs 0 a d f Om;rcases ZGH n false lv .nil ts 0 deep _ e2 with e|e
 ·exact Or.inl ⟨r,e1,e⟩
 ·exact Or.inr e
theorem ZGA(a:lv<=2)(h:Rc x t lv):Rd x t lv:=by
 intro n ts rs deep f d g;rcases h n ts rs deep f (ZCU d) g with ⟨r,n',e1,e2,e3,e4⟩|e
 ·refine Or.inl ⟨r,e1,?_⟩;obtain⟨n',rfl⟩:∃k,n'=k+1:=⟨n' - 1,by omega⟩
  rw[e4,Zs,Zrq,ZlH,e1,d.2 lv (Yac _) a]
 ·exact Or.inr e
theorem ZGI(g:lv<=2)(i:1<=x.length)(h:Rd x t (lv+1)):Rc x t lv:=by
 intro n ts rs deep d f j;obtain⟨n,rfl⟩:∃k,n=k+1:=⟨n - 1,by omega⟩
 have e:Zs (n+1) false lv .nil ts deep=bnd (Zs n false (lv+1) .nil ts deep) fun a r=>Zs n true lv a r deep:=by rw[Zs,if_neg Om]
 rcases h n ts rs deep d f (by omega)with ⟨r,e1,e2⟩|⟨p,e1⟩
 ·refine Or.inl ⟨r,n,e1,by omega,by omega,?_⟩;rw[e,e2];rfl
 ·exact Or.inr ⟨p,by rw[e,e1];rfl⟩
theorem ZGu(a:lv<=2)(d:1<=x.length)(h:Rd x t (lv+1)):Rd x t lv:=ZGA a (ZGI a d h)
theorem ZGX{p:Nat×Nat}(u:lv<=2)(f:opSh lv s=some p)(a:∀S,stops (lv+1) (s::S))(h:Rc x l lv)(i:Rd y r (lv+1)):Rc (x++s::y) (.node 0 0 (nd0 p.1 p.2) l r) lv:=by
 intro n ts rs deep d j o;rw[Yan,Yby]at d;rw[Yab,Yaj]at o ⊢;rcases h n ts _ deep d (a _) (by omega)with ⟨r1,n1,e1,e2,e3,e4⟩|e
 ·obtain⟨f1,f2,_⟩:=ZbB e1;obtain⟨m,rfl⟩:∃k,n1=k+1:=⟨n1 - 1,by omega⟩
  have e5:Zs n false lv .nil ts deep=bnd (Zs m false (lv+1) .nil r1.tail deep) fun b r=>Zs m true lv (.node 0 0 (nd0 p.1 p.2) l b) r deep:=by rw[e4,Zs,Zrq,f1,f]
  rcases i m r1.tail rs deep f2 j (by omega)with ⟨r2,g1,g2⟩|⟨q,g⟩
  ·refine Or.inl ⟨r2,m,g1,by omega,by omega,?_⟩;rw[e5,g2];rfl
  ·exact Or.inr ⟨q,by rw[e5,g];rfl⟩
 ·exact Or.inr e
theorem ZHS (h : Rd x t 0)   {rs : List Sh}  (f : ts.map sh = (4, [40]) :: (x ++ (4, [41]) :: rs)) (i : 5 * x.length + 4 <= n) : (∃ r, r.map sh = rs /\ Zbu (fun lv ts d => Zs n false lv .nil ts d) ts deep = .ok (t, r)) ∨ ∃ p, Zbu (fun lv ts d => Zs n false lv .nil ts d) ts deep = .error (3, p) := by
  obtain⟨_,g,_⟩:=ZbB f
  have e : Zbu (fun lv ts d => Zs n false lv .nil ts d) ts deep = bnd (Zs n false 0 .nil ts.tail deep) fun a r => bnd (Zq [41] r) fun _ r => .ok (a, r) := by
    unfold Zbu;rw[ZeE f (by rfl)];rfl
  rcases h n ts.tail _ deep g (ZCT 0 rs) (by omega)with ⟨r,e1,e2⟩|⟨p,e1⟩
  · obtain⟨_,e3,_⟩:=ZbB e1
    refine Or.inl ⟨r.tail,e3,?_⟩;rw[e,e2];show(bnd (Zq [41] r) fun _ r=>.ok (t,r))=_;rw[ZeE e1 (by rfl)];rfl
  · exact Or.inr ⟨p,by rw[e,e1];rfl⟩
theorem ZHp    (a : ZdD (hd ts) = true) : (∃ p, Zs (n + 1) false 3 .nil ts deep = .error (3, p)) ∨ Zs (n + 1) false 3 .nil ts deep = Zbw (fun lv ts d => Zs n false lv .nil ts d) ts (deep + 1) := by
  rw[Zs,if_pos rfl,Zb9,if_pos a];split
  · exact Or.inl ⟨_,rfl⟩
  · exact Or.inr rfl
theorem ZIn(h:Rd x t 0):Rd (ZeL true x) t 3:=by
 intro n ts rs deep d f g;have a:ts.map sh=(4,[40])::(x++(4,[41])::rs):=by rw[d];simp[ZeL]
 have i:(ZeL true x).length=x.length+2:=by simp[ZeL]
 obtain⟨n,rfl⟩:∃k,n=k+1:=⟨n - 1,by omega⟩
 rcases ZHp (n:=n) (deep:=deep) (Zhf a (by rfl))with e|e
 ·exact Or.inr e
 ·rw[e,Zxb a];exact ZHS h a Om
def ZGy(x:List Sh):List Sh:=(2,ZW.getD 0 [])::(2,wBy)::(4,[40])::(4,[41])::ZeL true x
theorem ZIo(h:Rd x t 0):Rd (ZGy x) (.node 0 0 ⟨5,0,0,[],[],[]⟩ t .nil) 3:=by
 intro n ts rs deep m s u;have g:ts.map sh=(2,ZW.getD 0 [])::(2,wBy)::(4,[40])::(4,[41])::(4,[40])::(x++(4,[41])::rs):=by rw[m];simp[ZGy,ZeL]
 have v:(ZGy x).length=x.length+6:=by simp[ZGy,ZeL]
 obtain⟨n,rfl⟩:∃k,n=k+1:=⟨n - 1,by omega⟩
 obtain⟨g1,g2,g3⟩:=ZwH 0 Dc;rcases ZHp (n:=n) (deep:=deep) (Zhf g (ZnA g2 g3))with e|e
 ·exact Or.inr e
 ·rw[e,ZlP g (ZpL 0 Dc),g1];obtain⟨_,i,_⟩:=ZbB g;obtain⟨_,j,_⟩:=ZbB i;obtain⟨_,o,_⟩:=ZbB j;obtain⟨q1,q,_⟩:=ZbB o
  have e2 : Zcb (fun lv ts d => Zs n false lv .nil ts d) 0 ts.tail (deep + 1) = bnd (Zbu (fun lv ts d => Zs n false lv .nil ts d) ts.tail.tail.tail.tail (deep + 1)) fun a r => .ok (.node 0 0 ⟨5, 0, 0, [], [], []⟩ a .nil, r) := by
    unfold Zcb;rw[ZeE i (by rfl)];show(bnd (Zq [40] ts.tail.tail) _)=_;rw[ZeE j (by rfl)];show(bnd (ZS (ZH 2) [41] (ts.tail.tail.tail.length+1) [] ts.tail.tail.tail) _)=_;rw[ZS,Zc9,q1,if_pos (by rfl)];rfl
  simp only;rw[e2];rcases ZHS h (n:=n) (deep:=deep+1) q (by omega)with ⟨r,f1,f2⟩|⟨p,f⟩
  ·exact Or.inl ⟨r,f1,by rw[f2];rfl⟩
  ·exact Or.inr ⟨p,by rw[f];rfl⟩
def Rt(s:LB)(t:Tr):Prop:=ZD s=.error (1,0)∨(∃p,ZD s=.error (3,p))∨ZD s=if Zf t=0 then .error (4,0)else .ok t
theorem ZGJ{s:LB}(f:LxP s x)(h:Rd x t 0):Rt s t:=by
 unfold Rt ZD;split
 ·exact Or.inl rfl
 ·have d:=ZyL (by have:=f [] _ ZCR Lx.nil;rw[Yca]at this;exact this) s 0 (s.length+1) rfl (Yag _) (Yac _);have a:=congrArg List.length d;rw[Yak,Yab,Ybj]at a;rcases h (10*(ZN s (s.length+1) 0).length+5) _ _ 0 d (ZCS 0) (by omega)with ⟨r',e1,e2⟩|⟨p,e⟩
  ·rw[e2];have g:(hd r').jj=0:=congrArg Prod.fst (ZbB e1).1;simp only;rw[if_pos g];exact Or.inr (Or.inr rfl)
  ·rw[e];exact Or.inr (Or.inl ⟨p,rfl⟩)
theorem ZGN {b:LB}  (d : c ∈ Zdq) (e : LxP a x) (f : LxP b y) : LxP (a ++ 32 :: c :: 32 :: b) (x ++ (4, [c]) :: y) := fun r T g h => by
  have e1:a++32::c::32::b++r=a++32::c::32::(b++r):=by simp
  have e2:x++(4,[c])::y++T=x++(4,[c])::(y++T):=by simp
  rw[e1,e2];exact e _ _ (Zc3 Dc Dc) (Lx.skip (Lx.sign d (Lx.skip (f _ _ g h))))
theorem ZHD {b:LB} (d : LxP a x) (e : LxP b y) : LxP (a ++ 32 :: 111 :: 114 :: 32 :: b) (x ++ (2, wOr) :: y) := fun r T f g => by
  have e1:a++32::111::114::32::b++r=a++32::(wOr++32::(b++r)):=by simp[wOr]
  have e2:x++(2,wOr)::y++T=x++(2,wOr)::(y++T):=by simp
  rw[e1,e2];exact d _ _ (Zc3 Dc Dc) (Lx.skip (ZeW Dc (Zc3 Dc Dc) (Lx.skip (e _ _ f g))))
theorem ZGF(h:Zx a=true):LxP a [(2,a)]:=fun _ _ d e=>ZeW h d e
def sumB(s:LB):LB:=[115,117,109,32,98,121,32,40,41,32,40]++s++[41]
theorem ZId {s : LB} (h : LxP s x) : LxP (sumB s) (ZGy x) := fun r T d a => by
  have e1:sumB s++r=ZW.getD 0 []++32::(wBy++32::40::41::32::40::(s++41::r)):=by simp[sumB,ZW,wBy]
  have e2:ZGy x++T=(2,ZW.getD 0 [])::(2,wBy)::(4,[40])::(4,[41])::(4,[40])::(x++(4,[41])::T):=by simp[ZGy,ZeL]
  rw[e1,e2];exact ZeW (ZpL 0 Dc) (Zc3 Dc Dc) (Lx.skip (ZeW Dc (Zc3 Dc Dc) (Lx.skip (Lx.sign Dc (Lx.sign Dc (Lx.skip (Lx.sign Dc (h _ _ (Zc3 Dc Dc) (Lx.sign Dc a)))))))))
def selX(c:UInt8):Tr:=Zbg ⟨1,0,0,[c],[],[]⟩
theorem ZGD:GT (selX 120)/\GT (selX 121):=by
 refine⟨GT.sel [120] [] ⟨by decide,by decide,by decide,by decide,by decide,fun _ h=>by cases h⟩,GT.sel [121] [] ⟨by decide,by decide,by decide,by decide,by decide,fun _ h=>by cases h⟩⟩
theorem ZGY(h:GT (selX c))(lv:Nat)(a:lv<=3):Rd [(2,[c])] (selX c) lv:=by
 have e:toks (selX c) (lv+1)=[(2,[c])]:=by rw[Zko (by show lv+1<=4;omega)];rfl
 rw[<-e];exact ZHI ((ZAf h).1 lv a) (by rw[ZgU (by show lv+1<=4;omega)];show 1<=20;omega)
structure Prd (t:Tr):Prop where
 gt:GT t
 nd:nd t 1<=20
theorem ZmU{q:LB}{t:Tr}(h:ZD q=.ok t):Prd t/\Zf t≠0:=by
 unfold ZD at h;split at h
 ·cases h
 split at h
 ·cases h
 rename_i t' r d;split at h
 ·split at h
  ·cases h
  ·rename_i a;cases h;obtain⟨g1,g2,_⟩:=Zg2 _ false 0 .nil _ 0 _ Om (ZqC q _ _) (fun _=>by omega) (fun h=>by cases h) d;simp only at g1 g2;exact⟨⟨g1,by simp_all⟩,a⟩
 ·cases h
theorem Prd.rd(h:Prd t):Rd (ZeL true (toks t 1)) t 3:=ZIn (ZHI ((ZAf h.gt).1 0 Om) h.nd)
theorem Prd.len(_:Prd t):1<=(ZeL true (toks t 1)).length:=by simp[ZeL]
theorem Prd.rd2(h:Prd t):Rd (ZeL true (toks t 1)) t 2:=ZGu Om h.len h.rd
theorem Prd.rd1(h:Prd t):Rd (ZeL true (toks t 1)) t 1:=ZGu Om h.len h.rd2
theorem Prd.lx(h:Prd t):LxP (ZeK true (Zu t 1)) (ZeL true (toks t 1)):=Zgd (ZyN h.gt 1)
def brT(t:Tr):LB:=ZeK true (Zu t 1)
def binT(o:Nat)(l r:Tr):Tr:=.node 0 0 (nd0 4 o) l r
def orT(l r:Tr):Tr:=.node 0 0 (nd0 6 0) l r
def sumT(l:Tr):Tr:=.node 0 0 ⟨5,0,0,[],[],[]⟩ l .nil
variable {c:UInt8}
theorem ZHh(h:GT (selX c))(lv:Nat)(a:lv<=2):Rc [(2,[c])] (selX c) lv:=ZGI a (by simp) (ZGY h (lv+1) Om)
theorem ZIr(h:Prd t):Rt (brT t++32::111::114::32::[120]) (orT t (selX 120)):=
 ZGJ (ZHD h.lx (ZGF Dc)) (ZGA Om (ZGX (p:=(6,0)) Om (by rfl) ZzS (ZGI Om h.len h.rd1) (ZGY ZGD.1 1 Om)))
theorem bin1(e:o<2)(f:Rc x l 1)(g:Rd y r 2):Rc (x++opTk o::y) (binT o l r) 1:=by
 have a:=ZzI o Om;have d:=ZzO o Om;rw[if_pos e]at a d;exact ZGX (p:=(4,o)) Om a d f g
theorem bin2(h:o<4)(g:2<=o)(e:Rc x l 2)(f:Rd y r 3):Rc (x++opTk o::y) (binT o l r) 2:=by
 have a:=ZzI o Om;have d:=ZzO o Om;rw[if_neg Om]at a d;exact ZGX (p:=(4,o)) Om a d e f
theorem ZGB:1<=(x++s::y).length:=by simp;omega
theorem ZIv(h:Prd t):Rt ([120]++32::43::32::brT t) (binT 0 (selX 120) t):=
 ZGJ (ZGN Dc (ZGF Dc) h.lx) (ZGu Om (ZGB) (ZGA Om (bin1 (o:=0) Om (ZHh ZGD.1 1 Om) h.rd2)))
theorem ZIq(h:Prd t):Rt (brT t++32::42::32::[120]) (binT 2 t (selX 120)):=
 ZGJ (ZGN Dc h.lx (ZGF Dc)) (ZGu Om (ZGB) (ZGu Om (ZGB) (ZGA Om (bin2 (o:=2) Om Om (ZGI Om h.len h.rd) (ZGY ZGD.1 3 Om)))))
theorem ZIt(h:Prd t):Rt (sumB ([120]++32::45::32::brT t)) (sumT (binT 1 (selX 120) t)):=
 ZGJ (ZId (ZGN Dc (ZGF Dc) h.lx)) (by
   have d:=ZIo (ZGu (lv:=0) Om (ZGB) (ZGA Om (bin1 (o:=1) Om (ZHh ZGD.1 1 Om) h.rd2)));have a:∀x:List Sh,1<=(ZGy x).length:=fun x=>by simp[ZGy]
   exact ZGu Om (a _) (ZGu Om (a _) (ZGu Om (a _) d)))
theorem ZIp(h:Prd t):Rt ([120]++32::111::114::32::(brT t++32::47::32::[121])) (orT (selX 120) (binT 3 t (selX 121))):=
 ZGJ (ZHD (ZGF Dc) (ZGN Dc h.lx (ZGF Dc))) (ZGA Om (ZGX (p:=(6,0)) Om (by rfl) ZzS (ZHh ZGD.1 0 Om) (ZGu Om (ZGB) (ZGA Om (bin2 (o:=3) Om Om (ZGI Om h.len h.rd) (ZGY ZGD.2 3 Om))))))
theorem ZIu(h:Prd t):Rt (brT t++32::43::32::brT t) (binT 0 t t):=
 ZGJ (ZGN Dc h.lx h.lx) (ZGu Om (ZGB) (ZGA Om (bin1 (o:=0) Om (ZGI Om h.len h.rd2) h.rd2)))
end
end
section
def Zd6(c n:Int):Int:=if c<0 then -((c+1).tmod n)else c % n
theorem ZmM(c n:Int)(a:1<=n):0<=Zd6 c n/\Zd6 c n<n:=by
 unfold Zd6;split
 ·rw[<-Int.neg_tmod,Int.tmod_eq_emod_of_nonneg Om];exact⟨Int.emod_nonneg _ Om,Int.emod_lt_of_pos _ Om⟩
 ·exact⟨Int.emod_nonneg _ Om,Int.emod_lt_of_pos _ Om⟩
theorem ZAC(c n:Int)(f : -9223372036854775808<=c)(g:c<=9223372036854775807)(a:1<=n)(i:n<=9223372036854775807)(w:World) :
  Cz 9 #[Vi c,Vi n] w fun e u=>e=.returned (Vi (Zd6 c n))/\u=w:=by
 have d:=ZmM c n a;have j:¬n=0:=by omega
 go_enter func9,ntmps9;by_cases h:c<0
 ·have e:Zd6 c n=-((c+1).tmod n):=by unfold Zd6;rw[if_pos h]
  rw[e]at d;rw[e];go_wp2;go_ret;exact⟨rfl,rfl⟩
 ·have e:Zd6 c n=c % n:=by unfold Zd6;rw[if_neg h]
  rw[e]at d;rw[e];go_wp2;go_ret;exact⟨rfl,rfl⟩
