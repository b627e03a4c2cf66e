/- Parts. -/
import Derived.Test.YtcdgkkfipdoeeaaGreatDoorT15
set_option linter.all false
set_option maxRecDepth 100000
set_option maxHeartbeats 16000000
namespace Go.Proofs.YtcdgkkfipdoeeaaGreatDoor
open Go.RowKit LS Go.Proofs.Tryz
variable {c:Array Value}{nm s tx:BA}{l:LB}{ps:List (LB)}{rs:List (Value×Value×Value×Value)}{es:List Entry}{ss:List Srs}{bs xs:List Value}{B a b n sn:Nat}{fr:Nat×Nat}{lv p sv v what:Value}{W w w':World}
structure Str where
 a:Option Addr
 n:Nat
 c:Nat
 tx:BA
 qs:List (BA×BA)
 sa:Option Addr
 sc:Nat
 ju:List (Int×Int)
def Str.enc(s:Str):List Value:=[.slice s.a s.n s.c,.string s.tx,.slice s.sa s.ju.length s.sc]
def Str.pr(s:Str):List Lab×List (Int×Int):=(s.qs.map blP,s.ju)
structure StrOk (w:World) (s:Str):Prop where
 lb:LbOk w s.a s.n s.c s.tx s.qs
 sam:SamV w s.sa s.ju
 ne:s.ju≠[]
 len:s.ju.length<=6001
 ok:∀x∈s.ju,smOk x
theorem StrOk.kb{t:TypeId}{s:Str}(h:StrOk w s)(a:Z5 t w w')(c:378≠t)(d:358≠t):StrOk w' s:=⟨h.lb.kb a c,h.sam.kb a d,h.ne,h.len,h.ok⟩
theorem StrOk.jk{s:Str}(h:StrOk w s)(a:Zo w w'):StrOk w' s:=⟨h.lb.jk a,h.sam.jk a,h.ne,h.len,h.ok⟩
def encR(l:List Str):List Value:=(l.map Str.enc).flatten
theorem ZvN(l m:List Str):encR (l++m)=encR l++encR m:=by unfold encR;rw[Yaq,List.flatten_append]
theorem ZoV(l:List Str)(j:Nat)(d:j<l.length):(encR l)[j*3]?=some (.slice l[j].a l[j].n l[j].c)/\(encR l)[j*3+1]?=some (.string l[j].tx)/\(encR l)[j*3+2]?=some (.slice l[j].sa l[j].ju.length l[j].sc):=by
 induction l generalizing j with
 | nil=>simp at d
 | cons a l ih=>
  have e:encR (a::l)=.slice _ _ _::.string _::.slice _ _ _::encR l:=rfl;cases j with
  | zero=>rw[e];exact⟨rfl,rfl,rfl⟩
  | succ j=>
   have h:=ih j (by simpa using d);rw[e,show(j+1)*3=j*3+1+1+1 by omega];simpa using h
structure RngV (w:World) (v:Value) (rs:List Str):Prop where
 row:w.ownsRow 0 356 3 v rs.length (encR rs)
 ok:∀s∈rs,StrOk w s
theorem RngV.jk{rs:List Str}(h:RngV w v rs)(a:Zo w w'):RngV w' v rs:=⟨a.own h.row,fun s c=>(h.ok s c).jk a⟩
theorem RngV.below{rs:List Str}(h:RngV w v rs)(a:BW w w'):RngV w' v rs:=h.jk (Zo.below a)
def ZbH(st:List Ser)(a:Nd)(n t:Int):List (List Lab×List (Int×Int)):=(st.filter fun s=>Zc1 a s && !(Zb6 s.ju n t).isEmpty).map fun s=>(s.labs,Zb6 s.ju n t)
theorem ZA3{st:List Ser}{s:Ser}{a:Nd}{n t:Int}:ZbH (st++[s]) a n t=if Zc1 a s && !(Zb6 s.ju n t).isEmpty then ZbH st a n t++[(s.labs,Zb6 s.ju n t)] else ZbH st a n t:=by
 unfold ZbH;rw[List.filter_append,Yaq];split
 ·rename_i h;rw[Yda (by simpa using h)];rfl
 ·rename_i h;rw[Ydb (by simpa using h)];simp
theorem ZmZ(st:List Ser)(a:Nd)(n t:Int):(ZbH st a n t).length<=st.length:=by
 unfold ZbH;rw[Yak];exact Ydj _ _
theorem ZAI (st : List Ser) (a : Nd) (op : Option Nat) (n t : Int) : ZeZ st a op n t = (ZbH st a n t).map fun p => (p.1, oneV op p.2) := by
  unfold ZeZ ZbH;rw[Yb1];rfl
def encS(l:List Srs):List Value:=(l.map Srs.enc).flatten
theorem ZvO(l:List Srs)(j:Nat)(d:j<l.length):(encS l)[j*4]?=some (.string l[j].nm)/\(encS l)[j*4+1]?=some (.slice l[j].a l[j].n l[j].c)/\(encS l)[j*4+2]?=some (.string l[j].tx)/\(encS l)[j*4+3]?=some (.slice l[j].sa l[j].ju.length l[j].sc):=by
 induction l generalizing j with
 | nil=>simp at d
 | cons a l ih=>
  have e:encS (a::l)=.string _::.slice _ _ _::.string _::.slice _ _ _::encS l:=rfl;cases j with
  | zero=>rw[e];exact⟨rfl,rfl,rfl,rfl⟩
  | succ j=>
   have h:=ih j (by simpa using d);rw[e,show(j+1)*4=j*4+1+1+1+1 by omega];simpa using h
structure StoP (w:World) (v:Value) (ss:List Srs):Prop where
 row:w.ownsRow 0 271 4 v ss.length (encS ss)
 ok:∀s∈ss,SrsOk w s
 len:ss.length<=30
theorem StoP.jk(h:StoP w v ss)(a:Zo w w'):StoP w' v ss:=⟨a.own h.row,fun s c=>(h.ok s c).jk a,h.len⟩
theorem StoP.below(h:StoP w v ss)(a:BW w w'):StoP w' v ss:=h.jk (Zo.below a)
theorem Tryz.infoStretch:(Tryz.prog.info? 356).map (fun i=>(i.zero,i.size,i.bytes))=some (some (.agg #[S0,.string ByteArray.empty,S0]),3,64):=by kernel_rfl
theorem ZmR{la:Option Addr}{ln lc:Nat}{nd:Nd}(n t:Int)(w:World)(O:StoP w sv ss)(a6:bl nm=nd.name)(hc:ZX w (.slice la ln lc) nd.jn)(b4:0<=n)(b5:n<=1000)(b6 : -1000000<=t)(b7:t<=1000000) :
  Cz 160 #[sv,.agg #[.string nm,.slice la ln lc],Vi n,Vi t] w fun e w'=>∃v rs,e=.returned v/\Hid (RngV w' v rs/\rs.map Str.pr=ZbH (ss.map Srs.ser) nd n t)/\BW w w':=by
 obtain⟨i0,hi,b8,b9,c6⟩:=info_parts Tryz.infoStretch;obtain⟨sa,scp,rfl⟩:=Zl O.row;have a7:=hid O;have d6:=O.len;have c7:=hid a6;have HC:=hid hc;clear O a6 hc;go_enter func160,ntmps160;go_wp2
 go_loopw [9, 15] (fun v i wr => ∃ (k : Nat) (rs : List Str), k <= ss.length /\ i = Vi k /\ rs.length <= k /\ wr.ownsRow (w.heap.size + 1) 356 3 v rs.length (encR rs) /\ Hid ((∀ s ∈ rs, StrOk wr s) /\ rs.map Str.pr = ZbH ((ss.take k).map Srs.ser) nd n t) /\ Hid (BAt wr w.heap.size [.string nm, .slice la ln lc] 148) /\ Hid (BW w wr))
   (fun _ i _=>ss.length - (intOf i).toNat)
 case atStart=>exact⟨0,[],Yag _,rfl,Yag _,Ybc _ _ _ _,hid ⟨(by intro s I;cases I),by simp[ZbH]⟩,hid bnw,hid Zbal⟩
 case round=>
  obtain⟨k,rs,hk,rfl,d7,J,X,E,Y⟩:=hrel;by_cases Z:k<ss.length
  ·have hg:∃g,sa=some ⟨g,0,none⟩:=by
    obtain⟨g,cp',h⟩:=ZF a7.row Om;injection h with h1;exact⟨g,h1⟩
   obtain⟨g,rfl⟩:=hg;have r:=hid (a7.below Y);obtain⟨f1,f2,f3,f4⟩:=ZvO _ k Z;have d1:=Zi r.row _ f1;have d2:=Zi r.row _ f2;have d3:=Zi r.row _ f3;have d4:=Zi r.row _ f4;have a8:=hid (r.ok _ (List.getElem_mem Z));have F:Hid (ZbH ((ss.take (k+1)).map Srs.ser) nd n t=if Zc1 nd (ss[k]).ser && !(Zb6 (ss[k]).ju n t).isEmpty then ZbH ((ss.take k).map Srs.ser) nd n t++[((ss[k]).qs.map blP,Zb6 (ss[k]).ju n t)] else ZbH ((ss.take k).map Srs.ser) nd n t):=List.take_succ_eq_append_getElem Z▸Yaq▸ZA3;generalize ss[k]=s at *
   clear f1 f2 f3 f4 r;have d8:(k:Int)<(ss.length):=by omega
   have x0:=E.cell 0;have x1:=E.cell 1;simp only[Zget]at x0 x1;have d9:=E.lt
   go_wp2_with fail
   refine Zm fun W hW=>?_;have A:Below _ _ W:=hW▸Zbal;have P:=hid (Y.trans (A.mono Y.size));have a9:Hid (BAt W _ [.string _,.slice _ _ _,.string _,.slice _ _ _] 271):=hW▸bnw;have a0:=hid (E.below A);have Q:=Zn J A;have a1:Hid ((∀s∈rs,StrOk W s)/\rs.map _=ZbH _ _ n t):=hid ⟨fun s I=>(X.1 s I).jk (Zo.below A),X.2⟩;have K:=hid (a8.jk (Zo.below A));clear hW A J X E x0 x1 d1 d2 d3 d4 a8 Y;refine(ZAR s c7 (HC.below P) K.lb).mono ?_;rintro e y ⟨rfl,m⟩;have R:=hid (P.trans (m.mono P.size));have f:=hid (a9.below m);have L:=hid (a0.below m);have B:=Zn Q m;have G:Hid ((∀s∈rs,StrOk _ s)/\rs.map _=ZbH _ _ n t):=hid ⟨fun s I=>(a1.1 s I).jk (Zo.below m),a1.2⟩;have j:=hid (K.jk (Zo.below m));clear m P a9 a0 Q a1 K;cases hp:Zc1 nd s.ser with
   | false=>
    have H:Hid ((∀s∈rs,StrOk _ s)/\rs.map Str.pr=ZbH ((ss.take (k+1)).map Srs.ser) nd n t):=hid ⟨G.1,F.out▸hp▸G.2⟩;clear hp;go_wp2
    go_roundw
    case rel=>exact⟨k+1,rs,by omega,by go_num,by omega,B,H,L,R⟩
    case measure=>simp[intOf];omega
   | true=>
    have HP:=hid hp;clear hp;have x0:=f.cell 0;have x1:=f.cell 1;have x2:=f.cell 2;have x3:=f.cell 3;simp only[Zget]at x0 x1 x2 x3
    go_wp2_with fail
    refine(ZA1 n t j.tm j.len j.cap b4 b5 b6 b7 j.sam).mono ?_;rintro e w2 ⟨av',cp',rfl,a2,p⟩;have a3:=hid (R.trans (p.mono R.size));have b2:=hid (f.below p);have M:=hid (L.below p);have d:=Zn B p;have S:Hid ((∀s∈rs,StrOk _ s)/\rs.map _=ZbH _ _ n t):=hid ⟨fun s I=>(G.1 s I).jk (Zo.below p),G.2⟩;have N:=hid (j.jk (Zo.below p));clear p R f L B G j x0 x1 x2 x3;obtain⟨l,T⟩:∃l,Zb6 s.ju n t=l:=⟨_,rfl⟩
    rw[T]at a2 F ⊢;by_cases U:l=[]
    ·have H:Hid ((∀s∈rs,StrOk _ s)/\rs.map _=ZbH _ _ n t):=hid ⟨S.1,by rw[F,U];simpa using S.2⟩;subst U;go_wp2
     go_roundw
     case rel=>exact⟨k+1,rs,by omega,by go_num,by omega,d,H,M,a3⟩
     case measure=>simp[intOf];omega
    ·have d5:=Ycj.2 U
     have c8:Hid (ZbH _ _ n t=ZbH ((ss.take k).map _) _ n t++[(s.qs.map blP,l)]):=hid (by
      rw[F,HP,if_pos];simpa using U)
     have c9:Hid (StrOk _ ⟨s.a,s.n,s.c,s.tx,s.qs,av',cp',l⟩):=hid ⟨N.lb,a2,U,by
      have:l.length<=s.ju.length:=T▸Ydj _ _;have:=N.len;show l.length<=6001;omega,fun x hx=>N.ok x (by rw[<-T]at hx;exact(Ycg.1 hx).1)⟩
     have e0:(0:Int)<(l.length):=by omega
     have x0:=b2.cell;have e1:=a3.size;have e2:=M.lt;clear T U F HP a2
     go_wp2_with (at_builtin;refine wpList_append_own _ rfl (.tmp 31) (.tmp 36) 299 rfl (w.heap.size+1) 356 i0 (.agg #[S0,.string ByteArray.empty,S0]) 3 64 underlying299 hi b8 b9 c6 rfl Dc _ _ _ rfl (d.alloc _) ⟨w2.heap.size,0,none⟩ 1 1 [.slice s.a s.n s.c,.string s.tx,.slice av' l.length cp'] rfl rfl ?c1 ?c2 ?c3 ?c4 ?c5 ?_)
     case c1=>exact Zuy (by simp) (by simp) (by simp)
     case c2=>intro u hu;simp at hu;rcases hu with rfl|rfl|rfl <;> rfl
     case c3=>unfold maxLen;omega
     case c4=>omega
     case c5=>simp;omega
     intro v' w3 a4 C _;have b0:=(a3.alloc Om _).grown C (by simp;omega) (fun q hq=>by have:=(d.lt q hq).1;omega);have b1:∀o,Z5 356 _ (w2.alloc o):=fun o=>Z5.below Zbal _;have D:=(b1 _).trans (Z5.grown C (d.alloc _));have a5:w3.ownsRow (w.heap.size+1) 356 3 v' (rs++[(⟨s.a,s.n,s.c,s.tx,s.qs,av',cp',l⟩:Str)]).length (encR (rs++[(⟨s.a,s.n,s.c,s.tx,s.qs,av',cp',l⟩)])):=by rwa [ZvN,Yab]
     have H : Hid ((∀ z ∈ rs ++ [(⟨s.a, s.n, s.c, s.tx, s.qs, av', cp', l⟩)], StrOk _ z) /\ (rs ++ [(⟨s.a, s.n, s.c, s.tx, s.qs, av', cp', l⟩ : Str)]).map _ = ZbH _ _ n t) := hid ⟨fun z V => by
       rcases Yar.1 V with V|V
       · exact(S.1 z V).kb D Dc Dc
       · rw[Yap]at V;subst V;exact c9.kb D Dc Dc,by rw[c8,Yaq,S.2];rfl⟩
     have b3:Hid (BAt _ _ _ _):=hid (D _ _ _ _ Dc M);clear d C a4 b1 D x0;have d0:=hid b0;clear b0;go_wp2
     go_roundw
     case rel=>exact⟨k+1,_,by omega,by go_num,by simp;omega,a5,H,b3,d0⟩
     case measure=>simp[intOf];omega
  ·obtain rfl:k=ss.length:=by omega
   have H:Hid ((∀s∈rs,StrOk _ s)/\rs.map _=ZbH _ _ n t):=hid ⟨X.1,by have:=X.2;rwa [Ya4]at this⟩;go_wp2;go_ret;exact⟨_,rs,rfl,hid ⟨⟨J.mono (Yag _),H.1⟩,H.2⟩,Y⟩
theorem ZrL(s:BA)(m:Int)(w:World)(g:s.size<=6000)(h:w.cell? ⟨14,0,none⟩=some (Vi m)) :
  Cz 192 #[.string s] w fun e u => ∃ (a : Option Addr) (n cap : Nat) (ok : Bool), e = .returned (.tuple #[.slice a n cap, .bool ok]) /\
    Hid (ok=(Zcc (bl s)).isSome/\(ok=true->∃qs,ZcB u 0 (.slice a n cap) n qs/\Zcc (bl s)=some (qs.map blP)))/\BW w u:=by
 cases c:s.toList.isEmpty
 ·have d:=Zij c;have i:Zcc (bl s)=ZbS [] [] (split 44 (bl s)):=by unfold Zcc;rw[if_neg d]
  rw[i];exact ZBg s m w g h c
 ·have f:Hid (Zcc (bl s)=some []):=by rw[ZgW c];rfl
  go_enter func192,ntmps192;go_wp2;go_ret2;exact⟨none,0,0,true,rfl,⟨by rw[f];rfl,fun _=>⟨[],⟨Ybc _ _ _ _,by omega,fun p j=>(by cases j)⟩,f⟩⟩,Yaf _ _⟩
theorem ZBe(m:Int)(d:s.size<=6000)(f:w.cell? ⟨14,0,none⟩=some (Vi m))(h:(Zcc (bl s)).isSome=false) :
  Cz 192 #[.string s] w fun e u=>∃(a:Option Addr) (n cap:Nat),e=.returned (.tuple #[.slice a n cap,.bool false])/\BW w u:=by
 refine(ZrL s m w d f).mono ?_;rintro e u ⟨a,n,cap,ok,rfl,c,g⟩;exact⟨a,n,cap,by rw[c.1,h],g⟩
theorem ZBf(m:Int)(d:s.size<=6000)(f:w.cell? ⟨14,0,none⟩=some (Vi m))(h:(Zcc (bl s)).isSome=true) :
  Cz 192 #[.string s] w fun e u=>∃(a:Option Addr) (n cap:Nat) (qs:List (BA×BA)),e=.returned (.tuple #[.slice a n cap,.bool true])/\Hid (ZcB u 0 (.slice a n cap) n qs/\Zcc (bl s)=some (qs.map blP))/\BW w u:=by
 refine(ZrL s m w d f).mono ?_;rintro e u ⟨a,n,cap,ok,rfl,c,g⟩;have e:ok=true:=by rw[c.1,h]
 subst e;obtain⟨qs,i,j⟩:=c.2 rfl;exact⟨a,n,cap,qs,rfl,⟨i,j⟩,g⟩
theorem box4{a:World}{x y z u:Value}{t:TypeId}(c:Below (w.heap.size+1) (w.alloc (.cells #[x,y,z,u] t)) a) :
  a.cell? ⟨w.heap.size,0,none⟩=some x/\a.cell? ⟨w.heap.size,1,none⟩=some y/\a.cell? ⟨w.heap.size,2,none⟩=some z/\a.cell? ⟨w.heap.size,3,none⟩=some u/\
  a.frozen? ⟨w.heap.size,0,none⟩=false/\a.frozen? ⟨w.heap.size,1,none⟩=false/\a.frozen? ⟨w.heap.size,2,none⟩=false/\a.frozen? ⟨w.heap.size,3,none⟩=false:=by
 have h:=(c.block _ Om).trans bnw;refine⟨?_,?_,?_,?_,?_,?_,?_,?_⟩ <;> simp[World.cell?,World.frozen?,h]
theorem ZBm(m:Int)(d:s.size<=6000)(f:w.cell? ⟨14,0,none⟩=some (Vi m))(h:Zcz (bl s)=none) :
  Cz 193 #[.string s] w fun e u=>∃sv:Value,e=.returned (.tuple #[sv,.bool false])/\BW w u:=by
 refine(ZrN s m w d f).mono ?_;rintro e u ⟨sv,ok,rfl,c,g⟩;rcases c.out with ⟨_,_,_,_,_,a,_⟩|⟨a,_⟩
 ·rw[h]at a;cases a
 ·exact⟨sv,by rw[a],g⟩
theorem ZBn(m:Int)(g:s.size<=6000)(i:w.cell? ⟨14,0,none⟩=some (Vi m))(h:Zcz (bl s)=some n) :
  Cz 193 #[.string s] w fun e u=>∃a cap,e=.returned (.tuple #[.slice a n cap,.bool true])/\Hid (u.ownsRow w.heap.size 358 2 (.slice a n cap) n (Zca (Zez (bl s))))/\BW w u:=by
 refine(ZrN s m w g i).mono ?_;rintro e u ⟨sv,ok,rfl,d,j⟩;rcases d.out with ⟨k,a,n',cap,f,c,l⟩|⟨_,c⟩
 ·rw[h]at c;obtain rfl:=Yax c;exact⟨a,cap,by rw[k,f],by rwa [<-f],j⟩
 ·rw[h]at c;cases c
def Zc6(w:World)(l:LB)(nm:BA)(lv:Value)(tx:BA)(sv:Value)(sn:Nat):Prop:=∃(inside:LB) (qs:List (BA×BA)),line l=some (bl nm,inside,sn)/\Zcc inside=some (qs.map blP)/\ZcB w 0 lv qs.length qs/\bl tx=Zbf qs/\w.ownsRow 0 358 2 sv sn (Zca (Zdo l))
theorem Zc6.below(h:Zc6 w l nm lv tx sv sn)(a:BW w w'):Zc6 w' l nm lv tx sv sn:=by
 obtain⟨i,qs,c,d,e,f,g⟩:=h;exact⟨i,qs,c,d,e.below a,f,Zn g a⟩
theorem Zc6.other(h:Zc6 w l nm lv tx sv sn)(g:w.heap[a]?=some (.cells c 271 fr))(k:∀j,j≠a->w'.heap[j]?=w.heap[j]?):Zc6 w' l nm lv tx sv sn:=by
 obtain⟨i,qs,n,o,d,p,m⟩:=h;exact⟨i,qs,n,o,⟨Zim d.1 (fun j f=>k j (fun e=>Zcx d.1 g Dc (by rw[f,e]))),d.2⟩,p,Zim m (fun j f=>k j (fun e=>Zcx m g Dc (by rw[f,e])))⟩
def Zgx(w:World)(l:LB)(nm:BA)(lv:Value)(tx:BA)(sv:Value)(sn:Nat)(ok:Bool):Prop:=(ok=true/\Zc6 w l nm lv tx sv sn)∨(ok=false/\line l=none)
theorem Zw1{m:Int}(a:w.cell? ⟨14,0,none⟩=some (Vi m))(c:Below B w w')(d:14<B):w'.cell? ⟨14,0,none⟩=some (Vi m):=
 (c.cell d).trans a
theorem ZBo(m:Int)(Q:s.size<=6000)(Y:w.cell? ⟨14,0,none⟩=some (Vi m)) :
  Cz 148 #[.string s] w fun e u => ∃ (nm : BA) (a : Option Addr) (n cap : Nat) (tx : BA) (sa : Option Addr) (sn sc : Nat) (ok : Bool), e = .returned (.tuple #[.agg #[.string nm, .slice a n cap, .string tx, .slice sa sn sc], .bool ok]) /\
    Hid (Zgx u (bl s) nm (.slice a n cap) tx (.slice sa sn sc) sn ok)/\BW w u:=by
 have Z:=Yai _ _ Y;have E:∀o,(w.alloc o).cell? _=some _:=fun o=>Ybm _ _ _ Z▸Y;have k:∀o (j:Nat),((w.alloc o).drewN j).cell? _=some _:=fun o j=>E o;cases J:cut 123 (bl s)with
 | none=>
  have l:Hid (∀W nm lv tx sv,Zgx W _ nm lv tx sv 0 _):=hid (fun _ _ _ _ _=>.inr ⟨rfl,ZjF J⟩);have F:=hid J;clear J;go_enter func148,ntmps148
  go_wp2_with fail
  refine(ZgH m _ Q (E _) F).mono ?_;rintro e u ⟨a,b,rfl,c,j,rfl⟩;have t:b.size<=6000:=by rw[ZU c.2];simp
  go_wp2_with fail
  refine(ZgH m _ t (k _ _) (by rw[c.2];rfl)).mono ?_;rintro e u ⟨a2,b2,rfl,d,j2,rfl⟩;go_wp2;exact bodyPost_ret (v:=.tuple #[.agg #[.string ⟨#[]⟩,S0,.string ⟨#[]⟩,S0],.bool false]) (by simp[results,results148,go_sem]) rfl ⟨⟨#[]⟩,none,0,0,⟨#[]⟩,none,0,0,false,rfl,hid (l.out _ _ _ _ _),belB⟩
 | some p=>
  obtain⟨x,r⟩:=p;have a5:x.length<=s.size/\r.length<=s.size:=by rw[<-Zd,(Zdx J).1];simp;omega
  have F:=hid J;clear J;cases A:cut 125 r with
  | none=>
   have l:Hid (∀W nm lv tx sv,Zgx W _ nm lv tx sv 0 _):=hid (fun _ _ _ _ _=>.inr ⟨rfl,ZjE F A⟩);have R:=hid A;clear A;go_enter func148,ntmps148
   go_wp2_with fail
   refine(Zep m _ Q (E _) F).mono ?_;rintro e u ⟨a,b,rfl,c,j,rfl⟩;have t:b.size<=6000:=by rw[ZU c.2];omega
   go_wp2_with fail
   refine(ZgH m _ t (k _ _) (by rwa [c.2])).mono ?_;rintro e u ⟨a2,b2,rfl,d,j2,rfl⟩;go_wp2;exact bodyPost_ret (v:=.tuple #[.agg #[.string ⟨#[]⟩,S0,.string ⟨#[]⟩,S0],.bool false]) (by simp[results,results148,go_sem]) rfl ⟨⟨#[]⟩,none,0,0,⟨#[]⟩,none,0,0,false,rfl,hid (l.out _ _ _ _ _),belB⟩
  | some q=>
   obtain⟨y,z⟩:=q;have a6:y.length<=r.length/\z.length<=r.length:=by rw[(Zdx A).1];simp;omega
   have R:=hid A;have g:=ZjG F A;clear A;cases K:Zx x
   ·have l:Hid (∀W nm lv tx sv,Zgx W _ nm lv tx sv 0 _):=hid (fun _ _ _ _ _=>.inr ⟨rfl,by rw[g,K];rfl⟩);have HN:=hid K;clear K g;go_enter func148,ntmps148
    go_wp2_with fail
    refine(Zep m _ Q (E _) F).mono ?_;rintro e u ⟨a,b,rfl,c,j,rfl⟩;have L:a.size<=6000:=by rw[ZU c.1];omega
    have t:b.size<=6000:=by rw[ZU c.2];omega
    go_wp2_with fail
    refine(Zep m _ t (k _ _) (by rwa [c.2])).mono ?_;rintro e u ⟨a2,b2,rfl,d,j2,rfl⟩
    go_wp2_with fail
    refine(Zku (b:=false) L (by rwa [c.1])).mono ?_;rintro e u ⟨rfl,rfl⟩;go_wp2;exact bodyPost_ret (v:=.tuple #[.agg #[.string ⟨#[]⟩,S0,.string ⟨#[]⟩,S0],.bool false]) (by simp[results,results148,go_sem]) rfl ⟨⟨#[]⟩,none,0,0,⟨#[]⟩,none,0,0,false,rfl,hid (l.out _ _ _ _ _),belB⟩
   ·have HN:=hid K;rw[K]at g;clear K;go_enter func148,ntmps148;have i:=hid g;clear g
    go_wp2_with fail
    refine(Zep m _ Q (E _) F).mono ?_;rintro e u ⟨a,b,rfl,c,j,rfl⟩;have L:a.size<=6000:=by rw[ZU c.1];omega
    have t:b.size<=6000:=by rw[ZU c.2];omega
    go_wp2_with fail
    refine(Zep m _ t (k _ _) (by rwa [c.2])).mono ?_;rintro e u ⟨a2,b2,rfl,d,j2,rfl⟩;have M:a2.size<=6000:=by rw[ZU d.1];omega
    have N:b2.size<=6000:=by rw[ZU d.2];omega
    go_wp2_with fail
    refine(Zku (b:=true) L (by rwa [c.1])).mono ?_;rintro e u ⟨rfl,rfl⟩;cases C:(Zcc y).isSome
    ·have l:Hid (∀W nm lv tx sv,Zgx W _ nm lv tx sv 0 _):=hid (fun _ _ _ _ _=>.inr ⟨rfl,by rw[i,C];rfl⟩);have HL:=hid C;clear C
     go_wp2_with fail
     refine(ZBe m M (k _ _) (by rwa [d.1])).mono ?_;rintro e w3 ⟨la,ln,lc,rfl,B⟩;have f:Below (w.heap.size+1) (w.alloc (.cells _ 271)) _:=(ZkW B).mono (by simp);have G:=((Yaf _ w).alloc (Yac _) _).trans (f.mono Om);obtain⟨k0,k1,k2,k3,g0,g1,g2,g3⟩:=box4 f;clear B f;go_wp2;exact bodyPost_ret (v:=.tuple #[.agg #[.string ⟨#[]⟩,S0,.string ⟨#[]⟩,S0],.bool false]) (by simp[results,results148,go_sem,k0,k1,k2,k3]) rfl ⟨⟨#[]⟩,none,0,0,⟨#[]⟩,none,0,0,false,rfl,hid (l.out _ _ _ _ _),belB⟩
    ·have HL:=hid C;rw[C]at i;clear C
     go_wp2_with fail
     refine(ZBf m M (k _ _) (by rwa [d.1])).mono ?_;rintro e w3 ⟨la,ln,lc,qs,rfl,HQ,B⟩;have O:w.heap.size+1<=w3.heap.size:=by have:=B.size;simp at this;omega
     have S:=Zw1 (k _ _) B (by simp;omega);have f:Below (w.heap.size+1) (w.alloc (.cells _ 271)) _:=(ZkW B).mono (by simp);have G:=((Yaf _ w).alloc (Yac _) _).trans (f.mono Om);clear B;cases D:Zcz z with
     | none=>
      have l:Hid (∀W nm lv tx sv,Zgx W _ nm lv tx sv 0 _):=hid (fun _ _ _ _ _=>.inr ⟨rfl,by rw[i,D];rfl⟩);have HM:=hid D;clear D
      go_wp2_with fail
      refine(ZBm m N S (by rwa [d.2])).mono ?_;rintro e w4 ⟨sv,rfl,h⟩;obtain⟨k0,k1,k2,k3,g0,g1,g2,g3⟩:=box4 (f.trans (h.mono O));have P:=G.trans (h.mono Om);clear f h G;go_wp2;exact bodyPost_ret (v:=.tuple #[.agg #[.string ⟨#[]⟩,S0,.string ⟨#[]⟩,S0],.bool false]) (by simp[results,results148,go_sem,k0,k1,k2,k3]) rfl ⟨⟨#[]⟩,none,0,0,⟨#[]⟩,none,0,0,false,rfl,hid (l.out _ _ _ _ _),belB⟩
     | some n=>
      have l:Hid (line (bl s)=some (x,y,n)):=by rw[i,D];rfl
      have a0:=hid (Zr1 HN F R);have HM:=hid D;clear D
      go_wp2_with fail
      refine(ZBn m N S (by rwa [d.2])).mono ?_;rintro e w4 ⟨sa,sc,rfl,a1,h⟩;have T:=hid (ZcB.below HQ.1 h);have I:=f.trans (h.mono O);have U:=Yah O h.size;have P:=G.trans (h.mono Om);clear f h G
      go_wp2_with fail
      refine(Zro T).mono ?_;rintro e w5 ⟨oa,oc,rfl,V,H⟩;have X:qs.length=ln:=by have:=T.1.1;rw[Zi9]at this;omega
      have a3:Hid (Zc6 w5 _ a (.slice oa ln oc) _ _ n):=hid ⟨y,qs,by rw[l,c.1],d.1▸HQ.2,X▸V,ZbF _,a0.out▸d.2▸Zn (ZmF a1.out) H⟩;clear X;obtain⟨k0,k1,k2,k3,g0,g1,g2,g3⟩:=box4 (I.trans (H.mono U));have a4:=hid (((I.trans (H.mono U)).block _ Om).trans bnw);have a7:=P.trans (H.mono Om);clear I H V P;go_wp2;exact bodyPost_ret (v:=.tuple #[.agg #[.string a,.slice oa ln oc,.string ⟨(Zbf qs).toArray⟩,.slice sa n sc],.bool true]) (by simp[results,results148,go_sem,k0,k1,k2,k3]) rfl ⟨a,oa,ln,oc,_,sa,n,sc,true,rfl,hid (Or.inl ⟨rfl,a3.other a4.out (fun j hj=>by first|rfl|(repeat rw[Go.Deep.blk_setCell_other _ _ _ _ (by exact hj)]))⟩),belB⟩
theorem ZnV{i:Int} :
  Cz 149 #[Vi i,.iface 432 what] w fun e u=>e=.returned (.iface 81 (Vp w.heap.size))/\u=w.alloc (.cells #[.string ⟨#[108,105,110,101]⟩,Vi i,.iface 432 what] 85):=by
 go_enter func149,ntmps149;go_wp2;go_ret;exact⟨rfl,rfl⟩
theorem Tryz.infoSeries:(Tryz.prog.info? 271).map (fun i=>(i.zero,i.size,i.bytes))=some (some (.agg #[.string ByteArray.empty,S0,.string ByteArray.empty,S0]),4,80):=by kernel_rfl
theorem Zux{u x z:Value}(d:W.cell? ⟨a,0,none⟩=some u)(e:W.cell? ⟨a,1,none⟩=some v)(f:W.cell? ⟨a,2,none⟩=some x)(g:W.cell? ⟨a,3,none⟩=some z):∀j y,[u,v,x,z][j]?=some y->W.cell? ((⟨a,0,none⟩:Addr).add j)=some y:=by
 intro j y c;rw[ZfO]
 match j,c with
 | 0,c=>simp at c;subst c;exact d
 | 1,c=>simp at c;subst c;exact e
 | 2,c=>simp at c;subst c;exact f
 | 3,c=>simp at c;subst c;exact g
def ZbP:List (Value×Value×Value×Value)->List Value
 | []=>[]
 | r::rs=>r.1::r.2.1::r.2.2.1::r.2.2.2::ZbP rs
theorem Zv8(a b:List (Value×Value×Value×Value)):ZbP (a++b)=ZbP a++ZbP b:=by
 induction a with
 | nil=>rfl
 | cons r a ih=>simp[ZbP,ih]
theorem Zv9(rs:List (Value×Value×Value×Value))(j:Nat):(ZbP rs)[j*4]?=rs[j]?.map (·.1)/\(ZbP rs)[j*4+1]?=rs[j]?.map (·.2.1)/\(ZbP rs)[j*4+2]?=rs[j]?.map (·.2.2.1)/\(ZbP rs)[j*4+3]?=rs[j]?.map (·.2.2.2):=by
 induction rs generalizing j with
 | nil=>simp[ZbP]
 | cons r rs ih=>
  cases j with
  | zero=>simp[ZbP]
  | succ j=>
   obtain⟨a,c,d,e⟩:=ih j;refine⟨?_,?_,?_,?_⟩
   ·rw[show(j+1)*4=j*4+1+1+1+1 by omega];simpa [ZbP] using a
   ·rw[show(j+1)*4+1=j*4+1+1+1+1+1 by omega];simpa [ZbP] using c
   ·rw[show(j+1)*4+2=j*4+2+1+1+1+1 by omega];simpa [ZbP] using d
   ·rw[show(j+1)*4+3=j*4+3+1+1+1+1 by omega];simpa [ZbP] using e
def ZeP(rs:List (Value×Value×Value×Value))(es:List Entry):Prop:=rs.length=es.length/\∀j (h:j<es.length),∃nm a n c tx sa sc,rs[j]?=some (.string nm,.slice a n c,.string tx,.slice sa (es[j]).count sc)
theorem ZeP.snoc(h:ZeP rs es)(x:Entry)(nm:BA)(a:Option Addr)(n c:Nat)(tx:BA)(sa:Option Addr)(sc:Nat) :
  ZeP (rs++[(.string nm,.slice a n c,.string tx,.slice sa x.count sc)]) (es++[x]):=by
 refine⟨by simp[h.1],fun j g=>?_⟩;by_cases d:j<es.length
 ·obtain⟨nm',a',n',c',tx',sa',sc',e⟩:=h.2 j d;exact⟨nm',a',n',c',tx',sa',sc',by rw[Ybr (h.1▸d),e,List.getElem_append_left _]⟩
 ·have f:j=es.length:=by simp at g;omega
  subst f;refine⟨nm,a,n,c,tx,sa,sc,?_⟩;rw[Yb3 (h.1▸Yac _),h.1];simp
theorem Zc6.grown(h:Zc6 w l nm lv tx sv sn){e:TypeId}{s:Nat}(a:w.grownBy w' v.ownBlock)(c:w.ownsRow b e s v n xs)(d:378≠e)(f:358≠e):Zc6 w' l nm lv tx sv sn:=by
 obtain⟨i,qs,e1,e2,e3,e4,e5⟩:=h;exact⟨i,qs,e1,e2,⟨e3.1.kept a (ZmC e3.1 c d),e3.2⟩,e4,e5.kept a (ZmC e5 c f)⟩
def AllV(w:World)(rs:List (Value×Value×Value×Value))(es:List Entry)(ps:List (LB)):Prop:=∀j (h:j<es.length),∃(nm:BA) (a:Option Addr) (n c:Nat) (tx:BA) (sa:Option Addr) (sc:Nat),rs[j]?=some (.string nm,.slice a n c,.string tx,.slice sa (es[j]).count sc)/\Zc6 w (ps.getD (es[j]).at_ []) nm (.slice a n c) tx (.slice sa (es[j]).count sc) (es[j]).count/\line (ps.getD (es[j]).at_ [])=some ((es[j]).name,(es[j]).inside,(es[j]).count)
theorem AllV.below  {rs : List (Value × Value × Value × Value)}   (h : AllV w rs es ps) (d : BW w w') : AllV w' rs es ps := fun j e => by
  obtain⟨nm,a,n,c,tx,sa,sc,e1,e2,e3⟩:=h j e;exact⟨nm,a,n,c,tx,sa,sc,e1,e2.below d,e3⟩
theorem AllV.grown  {rs : List (Value × Value × Value × Value)}   (h : AllV w rs es ps)  {e : TypeId} {s : Nat}    (d : w.grownBy w' v.ownBlock) (f : w.ownsRow b e s v n xs) (g : 378 ≠ e) (i : 358 ≠ e) : AllV w' rs es ps := fun j k => by
  obtain⟨nm,a,n,c,tx,sa,sc,e1,e2,e3⟩:=h j k;exact⟨nm,a,n,c,tx,sa,sc,e1,e2.grown d f g i,e3⟩
theorem AllV.snoc(e:rs.length=es.length)(h:AllV w rs es ps)(z:Entry)(nm:BA)(a:Option Addr)(n c:Nat)(tx:BA)(sa:Option Addr)(sc:Nat)
  (g:Zc6 w (ps.getD z.at_ []) nm (.slice a n c) tx (.slice sa z.count sc) z.count) (i:line (ps.getD z.at_ [])=some (z.name,z.inside,z.count)):AllV w (rs++[(.string nm,.slice a n c,.string tx,.slice sa z.count sc)]) (es++[z]) ps:=fun j k=>by
 by_cases d:j<es.length
 ·obtain⟨nm',a',n',c',tx',sa',sc',e1,e2⟩:=h j d;refine⟨nm',a',n',c',tx',sa',sc',?_⟩;rw[Ybr (e▸d),List.getElem_append_left d];exact⟨e1,e2⟩
 ·have f:j=es.length:=by simp at k;omega
  subst f;refine⟨nm,a,n,c,tx,sa,sc,?_⟩;rw[Yb3 (e▸Yac _),e];simp only[Yfw,Ycy,List.getElem_append_right (Yac _),List.getElem_cons_zero];exact⟨trivial,g,i⟩
theorem ZBh{g:Nat}(n:Nat)(A:Nat->Addr)(m:Int)(R:Hid (n=ps.length))(a4:n<=6001)(S:Hid (∀i,i<ps.length->(ps.getD i []).length<=6000))(D:ZfN w g ps)(hv:Vars w A m) :
  Cz 87 #[.slice (some ⟨g, 0, none⟩) n n] w fun e E => BW w E /\
    ((∃(i:Nat) (fa:Nat),e=.returned (.tuple #[S0,.iface 81 (Vp fa)])/\E.heap[fa]?=some (.cells #[.string ⟨#[108,105,110,101]⟩,Vi i,.iface 432 (.pointer (some (A 4)))] 85 (0,0))/\Hid (Zbh 0 [] ps=.inl i))∨
     (∃(v:Value) (es:List Entry) (rs:List (Value×Value×Value×Value)),e=.returned (.tuple #[v,.nilIface])/\E.ownsRow 0 271 4 v es.length (ZbP rs)/\Hid (ZeP rs es/\Zbh 0 [] ps=.inr es)/\Hid (AllV E rs es ps))):=by
 obtain⟨i0,hi,T,U,V⟩:=info_parts Tryz.infoSeries;have W:=D.1;go_enter func87,ntmps87;go_wp2
 go_loopw [4, 11] (fun v i wr => ∃ (k : Nat) (es : List Entry) (rs : List (Value × Value × Value × Value)), k <= n /\ i = Vi k /\ es.length <= k /\ wr.ownsRow w.heap.size 271 4 v es.length (ZbP rs) /\ Hid (ZeP rs es /\ Zbh 0 [] ps = Zbh k es (ps.drop k)) /\ Hid (AllV wr rs es ps) /\ BW w wr)
   (fun _ i _=>n - (intOf i).toNat)
 case atStart=>exact⟨0,[],[],Yag _,rfl,Yag _,Ybc _ _ _ _,⟨⟨rfl,fun j h=>by simp at h⟩,rfl⟩,hid (fun j h=>by simp at h),Yaf _ _⟩
 case round=>
  obtain⟨k,es,rs,hk,rfl,a5,f,p,F,d⟩:=hrel;have X:=d.size;have r:=hv.below d;by_cases Y:k<n
  ·have s:k<ps.length:=by rwa [<-R.out]
   obtain⟨sk,a6,G⟩:=(D.below d W).2 k s;have O:sk.size<=6000:=ZU G▸S.out k s;have C:=hid G;clear G;cases Z:sk.toList.isEmpty
   ·have J:Hid (ps.getD k _≠[]):=C.out▸Zij Z;have K:=r.max;have a0:=r.sent 4 Dc
    go_wp2_with fail
    refine(ZBo m O K).mono ?_;rintro e z ⟨nm,la,ln,lc,tx,sa,sn,sc,ok,rfl,x,t⟩;have a2:z.cell? ⟨4,0,none⟩=some _:=(r.below t).sent _ Dc;have a3:∀o,(z.alloc o).cell? ⟨4,0,none⟩=some _:=fun o=>((r.below t).alloc o).sent _ Dc;have L:=d.trans (t.mono X);have a7:=L.size;have c:=Zn f t;clear a0 K r;cases ok
    ·have y:Hid (Zbh 0 [] ps=.inl k):=by
      rw[p.2];refine Zyu s J ?_;rw[<-C];rcases x.out with ⟨h,_⟩|⟨_,h⟩
      ·cases h
      ·exact h
     go_wp2_with (go_at_call 149;refine(ZnV).mono ?_;rintro e E ⟨rfl,rfl⟩)
     go_ret2;refine⟨belB,.inl ⟨k,z.heap.size+1,rfl,?_,y⟩⟩;rw[show z.heap.size+1=(z.alloc (.cells #[.string nm,.slice la ln lc,.string tx,.slice sa sn sc] 271)).heap.size by simp];exact Ye3
    ·have M:Hid (Zc6 z (bl sk) nm (.slice la ln lc) tx (.slice sa sn sc) sn):=by
      rcases x.out with ⟨_,h⟩|⟨h,_⟩
      ·exact h
      ·cases h
     obtain⟨na,a,N⟩:∃name inside,line _=some (name,inside,sn):=by
      obtain⟨a,qs,h,_⟩:=M.out;exact⟨_,a,h⟩
     have P:Hid (AllV z (rs++[(.string nm,.slice la ln lc,.string tx,.slice sa sn sc)]) (es++[⟨k,na,a,sn⟩]) ps):=hid (AllV.snoc p.1.1 (F.below t) ⟨k,na,a,sn⟩ nm la ln lc tx sa sc (by show Zc6 z (ps.getD k []) nm (.slice la ln lc) tx (.slice sa sn sc) sn;rw[<-C];exact M) (by show line (ps.getD k [])=some (na,a,sn);rw[<-C];exact N))
     have y:Hid (ZeP (rs++[(.string nm,.slice la ln lc,.string tx,.slice sa sn sc)]) (es++[⟨k,na,a,sn⟩])/\Zbh 0 [] ps=Zbh (k+1) (es++[⟨k,na,a,sn⟩]) (ps.drop (k+1))):=
      ⟨p.1.snoc ⟨k,na,a,sn⟩ nm la ln lc tx sa sc,by rw[p.2];exact Zyv s J (by rwa [<-C.out])⟩
     clear N x
     go_wp2_with (at_builtin;refine wpList_append_own _ rfl (.tmp 28) (.tmp 30) 98 rfl w.heap.size 271 i0 (.agg #[.string ByteArray.empty,S0,.string ByteArray.empty,S0]) 4 80 underlying98 hi T U V rfl Dc _ _ _ rfl ((c.alloc _).alloc _) ⟨z.heap.size+1,0,none⟩ 1 1 [.string nm,.slice la ln lc,.string tx,.slice sa sn sc] rfl rfl ?c1 ?c2 ?c3 ?c4 ?c5 ?_)
     case c1=>exact Zux (by simp) (by simp) (by simp) (by simp)
     case c2=>intro u hu;simp at hu;rcases hu with rfl|rfl|rfl|rfl <;> rfl
     case c3=>unfold maxLen;omega
     case c4=>omega
     case c5=>simp;omega
     intro v' w3 B l _;have a1:=((L.alloc Om _).alloc (by simp;omega) _).grown l (by simp;omega) (fun q hq=>(c.lt q hq).1)
     have I:w3.ownsRow w.heap.size 271 4 v' (es++[(⟨k,na,a,sn⟩:Entry)]).length (ZbP (rs++[(.string nm,.slice la ln lc,.string tx,.slice sa sn sc)])):=by
      rw[Zv8,Yab];exact B
     have H:∀o o':Obj,Below _ _ ((z.alloc o).alloc o'):=fun o o'=>Zbal.alloc (by simp) _;have Q:Hid (AllV w3 (rs++[(.string nm,.slice la ln lc,.string tx,.slice sa sn sc)]) (es++[⟨k,na,a,sn⟩]) ps):=hid ((P.below (H _ _)).grown l ((c.alloc _).alloc _) Dc Dc);clear c f l B H;go_wp2
     go_roundw
     case rel=>exact⟨k+1,_,_,by omega,by go_num,by simp;omega,I,y,Q,a1⟩
     case measure=>simp[intOf];omega
   ·have y:Hid (ZeP _ _/\Zbh 0 _ _=Zbh _ _ _):=
     ⟨p.1,p.2▸Zyw s (by rw[<-C.out];exact ZgW Z)⟩
    go_wp2
    go_roundw
    case rel=>exact⟨k+1,es,rs,by omega,by go_num,by omega,f,y,F,d⟩
    case measure=>simp[intOf];omega
  ·have y:Hid (ZeP _ _/\Zbh 0 [] ps=.inr es):=⟨p.1,p.2▸Zyx (by rw[<-R.out];exact Y)⟩
   go_wp2;go_ret2;exact⟨d,.inr ⟨_,es,rs,rfl,f.mono (Yag _),y,F⟩⟩
def ZcS(es:List Entry)(k:Nat):Nat:=((es.take k).map (·.count)).sum
theorem ZsB(k:Nat)(h:k<es.length):ZcS es (k+1)=ZcS es k+(es[k]).count:=by
 unfold ZcS;rw[List.take_succ_eq_append_getElem h,Yaq,List.sum_append];rfl
theorem ZsA(es:List Entry)(h:∀e∈es,e.count<=6001)(k:Nat):ZcS es k<=6001*k:=by
 induction k with
 | zero=>simp[ZcS]
 | succ k ih=>
  by_cases a:k<es.length
  ·rw[ZsB k a];have:=h _ (List.getElem_mem a);omega
  ·have:ZcS es (k+1)=ZcS es k:=by unfold ZcS;rw[Ya5 Om,Ya5 Om]
   omega
theorem Zvm(d:w.ownsRow 0 271 4 v es.length (ZbP rs))(p:Hid (ZeP rs es))(m:Hid (∀e∈es,e.count<=6001))(y:es.length<=6001) :
  Cz 89 #[v] w fun e u=>e=.returned (Vi (ZcS es es.length))/\BW w u:=by
 obtain⟨av,cp,rfl⟩:=Zl d;go_enter func89,ntmps89;go_wp2
 go_loopw [3,8] (fun c i wr=>∃k:Nat,k<=es.length/\i=Vi k/\c=Vi (ZcS es k)/\BW w wr) (fun _ i _=>es.length - (intOf i).toNat)
 case atStart=>exact⟨0,Yag _,rfl,by simp[ZcS],Yaf _ _⟩
 case round=>
  obtain⟨k,z,rfl,rfl,f⟩:=hrel;have s:=f.size;have t:=ZsA _ m k;by_cases l:k<es.length
  ·have q:=hid (ZsB k l);have x:=m _ (List.getElem_mem l);obtain⟨nm,a,n,c,tx,sa,sc,o⟩:=p.2 k l;obtain⟨f1,f2,f3,f4⟩:=Zv9 rs k;rw[o]at f1 f2 f3 f4
   have r:∃g,av=some ⟨g,0,none⟩:=by
    obtain⟨g,cp',h⟩:=ZF d Om;injection h with h1;exact⟨g,h1⟩
   obtain⟨g,rfl⟩:=r;have j:=Z1 d;have c1:wr.cell? _=some (.string _):=(f.cell j).trans (Zi d _ f1);have c2:wr.cell? _=some (.slice a n c):=(f.cell j).trans (Zi d _ f2);have c3:wr.cell? _=some (.string _):=(f.cell j).trans (Zi d _ f3);have c4:wr.cell? _=some (.slice _ _ _):=(f.cell j).trans (Zi d _ f4);generalize(es[k]).count=cnt at *
   clear o f1 f2 f3 f4;go_wp2
   go_roundw
   case rel=>exact⟨k+1,by omega,by go_num,by rw[q];go_num,belB⟩
   case measure=>simp[intOf];omega
  ·obtain rfl:k=es.length:=by omega
   go_wp2;go_ret;exact⟨rfl,f⟩
def ZfK(ps:List (LB×LB)):Nat->LB
 | 0=>[]
 | k+1=>(if 0<k then ZfK ps k++[44] else ZfK ps k)++(ps.getD k ([],[])).1++[61]++(ps.getD k ([],[])).2
theorem ZcW{a b:BA}(h:bl a=bl b):a=b:=by
 cases a with | mk x => cases b with | mk y =>
   have:x=y:=by
     have c:x.toList=y.toList:=h;exact Array.toList_inj.mp c
   rw[this]
theorem Ztm(l:List Lab):∀k,k<=l.length->ZfK l k=wrt (l.take k)
 | 0,_=>rfl
 | k + 1, h => by
   have a:k<l.length:=h;rw[ZfK,Ztm l k Om];unfold wrt;rw[List.take_succ_eq_append_getElem a,Yaq,Yco,Zlc];have c:l.getD k ([],[])=l[k]:=by rw[Yaa,List.getElem?_eq_getElem a];rfl
   rw[c];by_cases d:0<k
   · rw[if_pos d,if_neg]
     · simp[lab1]
     · rw[Ydl]
       intro e;have:=congrArg List.length e;rw[Yak,Ya7,Ybq]at this;omega
   · obtain rfl:k=0:=by omega
     rfl
theorem ZoJ(n:Nat):(decS n).length<=n+1:=by
 induction n using Nat.strongRecOn with
 | ind n ih=>
  by_cases h:n<=9
  ·rw[Zh0 h];simp
  ·rw[Zi6 h,Yab];have:=ih (n / 10) Om;simp only[Yaj,Ybq];omega
theorem Zlj(n:Int)(h:vOk n):(decI n).length<=1000000002:=by
 unfold vOk at h;unfold decI;split
 ·have:=ZoJ n.natAbs;rw[Yab,Ybj];omega
 ·have:=ZoJ n.toNat;omega
theorem ZnW{T e:TypeId}(h:Lib.BuilderAtF T e B b p bs w)(a:BW w w'):Lib.BuilderAtF T e B b p bs w':=by
 obtain⟨i,v,c,⟨j,k⟩,l⟩:=h;refine⟨i,v,(a.block b (Yae.1 c).1).trans c,⟨j,?_⟩,l⟩;rcases k with d|⟨g,cap,cur,fz,d,m,f,n⟩
 ·simp_all
 ·exact .inr ⟨g,cap,cur,fz,d,m,(a.block g (Yae.1 f).1).trans f,n⟩
theorem Zt7{T e:TypeId}(h:Lib.IsBuilderF T e B b bs w)(a:BW w w'):Lib.IsBuilderF T e B b bs w':=by
 rcases h with h|h
 ·exact .inl (ZnW h a)
 ·exact .inr (ZnW h a)
theorem ZzT{e:TypeId}{b:Option Nat}(h:BW w w'):Lib.OthersKept e b w w':=fun k _ a _ _=>(h.block k (Yae.1 a).1).trans a
structure WB (w:World) (B b:Nat) (l:LB):Prop where
 bd:Lib.IsBuilderF 89 5 B b (Lib.byteCells l) w
 le:B<=w.heap.size
structure WK (B b:Nat) (w w':World):Prop where
 low:Below B w w'
 kept:Lib.OthersKept 5 (some b) w w'
theorem WK.trans{y z a:World}(h:WK B b y z)(c:WK B b z a):WK B b y a:=⟨h.low.trans c.low,h.kept.trans c.kept⟩
theorem WK.below(h:BW w w')(a:B<=w.heap.size):WK B b w w':=⟨h.mono a,ZzT h⟩
theorem WB.below(h:WB w B b l)(a:BW w w'):WB w' B b l:=⟨Zt7 h.bd a,Yah h.le a.size⟩
theorem WB.ne{w:World}{B b:Nat}{l:LB}(h:WB w B b l):b<w.heap.size/\∃c,w.heap[b]?=some (.cells c 89 (0,0)):=by
 rcases h.bd with h|h
 ·obtain⟨_,v,a,_⟩:=h;exact⟨(Yae.1 a).1,_,a⟩
 ·obtain⟨_,v,a,_⟩:=h;exact⟨(Yae.1 a).1,_,a⟩
theorem WK.block(d:WB w B b l)(h:WK B b w w'){t:TypeId}(f:w.heap[a]?=some (.cells c t fr))(g:t≠89)(i:t≠5):w'.heap[a]?=some (.cells c t fr):=by
 refine h.kept a _ f ?_ ?_
 ·intro e;injection e with e;subst e;obtain⟨_,c',j⟩:=d.ne
  simp_all
 simp_all
theorem WK.bat(d:WB w B b l)(h:WK B b w w'){c:List Value}{t:TypeId}(e:BAt w a c t)(f:t≠89)(g:t≠5):BAt w' a c t:=WK.block d h e f g
theorem WK.own(d:WB w B b l)(h:WK B b w w'){base:Nat}{e:TypeId}{size:Nat}(a:w.ownsRow base e size v n xs)(f:e≠89)(i:e≠5):w'.ownsRow base e size v n xs:=by
 refine⟨a.1,?_⟩;rcases a.2 with c|⟨g,cap,cur,c,j,k,m⟩
 ·simp_all
 ·exact .inr ⟨g,cap,cur,c,j,WK.block d h k f i,m⟩
theorem Zh.wrote(d:WB w B b l)(h:WK B b w w'){t:Tr}(e:Zh w t v):Zh w' t v:=
 Zh.mono (fun _ _ ⟨bs,a,c⟩=>⟨bs,WK.own d h a Dc Dc,c⟩) (fun _ _ ⟨bs,a,c⟩=>⟨bs,WK.own d h a Dc Dc,c⟩) t v e
theorem ZX.wrote(a:WB w B b l)(h:WK B b w w'){cs:List (LB×LB×Bool)}(c:ZX w v cs):ZX w' v cs:=by
 obtain⟨bs,d,e⟩:=c;exact⟨bs,WK.own a h d Dc Dc,e⟩
theorem Zn4(l:LB)(s:BA):Lib.byteCells l++Lib.strCells s=Lib.byteCells (l++bl s):=by
 unfold Lib.byteCells Lib.strCells bl;simp
def big:Nat:=1000000
theorem Zda(h:WB w B b l)(s:BA)(d:l.length+s.size<=big) :
  Cz 63 #[Vp b,.string s] w fun e u=>e=.returned (.tuple #[Vi s.size,.nilIface])/\Hid (WB u B b (l++bl s))/\Hid (WK B b w u):=by
 refine(ZhR B b s w h.bd (by rw[Lib.byteCells_length];unfold big at d;omega) h.le).mono ?_;rintro e u ⟨rfl,a,c,f⟩;rw[Zn4]at a;exact⟨rfl,⟨.inr a,Yah h.le c.size⟩,⟨c,f⟩⟩
theorem Zlk(n:Nat):Lib.decDigits n=decS n:=by
 induction n using Nat.strongRecOn with
 | _ n ih=>
  by_cases h:n<=9
  ·rw[Zh0 h,Lib.decDigits,dif_pos Om];rfl
  ·rw[Zi6 h,Lib.decDigits,dif_neg Om,ih _ Om];rfl
def ZR (w : World) : Prop := Lib.TabIs Tryz.prog w "internal/strconv.uint64pow10" .u64 Lib.pow10Tab
theorem Tryz.gPow : Tryz.prog.globalNamed "internal/strconv.uint64pow10" = some 15 := by rfl
theorem ZR.low(h:ZR w)(a:Below B w w')(c:20<=B):ZR w':=var?_below a Tryz.gPow (Yaw Dc c) h
theorem ZlT(h:ZR w)(n:Int)(c:0<=n)(d:n<=1000000000) :
  Cz 64 #[Vi n] w fun e u=>∃s:BA,e=.returned (.string s)/\Hid (bl s=decS n.toNat)/\BW w u:=by
 refine(strconv_Itoa n Om Om w h).mono ?_;rintro e u ⟨rfl,k,os,rfl⟩;refine⟨_,rfl,hid ?_,?_⟩
 ·rw[ZbF];unfold Lib.itoa;rw[if_neg Om,Zlk]
 ·exact⟨rfl,rfl,rfl,by simp,fun k a=>by simp[Go.Sort.grow,World.drewN,Yfo,a]⟩
attribute [local go_sem ↓] Go.wp_at_zero Go.wp_at_succ
theorem ZoC(x y:BA)(ng:Bool) :
  Cz 115 #[.agg #[.string x,.bool ng,.string y]] w fun e u=>e=.returned (.string (if ng then ⟨#[33,61]⟩else ⟨#[61]⟩))/\BW w u:=by
 cases ng
 ·go_enter func115,ntmps115;go_wp2;go_ret;exact⟨rfl,belB⟩
 ·go_enter func115,ntmps115;go_wp2;go_ret;exact⟨rfl,belB⟩
theorem Zwc (l : List (BA × BA × Bool)) (j : Nat) : (Zb1 l)[j * 3]? = l[j]?.map (fun t => .string t.1) /\ (Zb1 l)[j * 3 + 1]? = l[j]?.map (fun t => .bool t.2.2) /\ (Zb1 l)[j * 3 + 2]? = l[j]?.map (fun t => .string t.2.1) := by
  induction l generalizing j with
  | nil=>simp[Zb1]
  | cons r l ih=>
    cases j with
    | zero=>simp[Zb1]
    | succ j=>
      obtain⟨a,c,d⟩:=ih j;refine⟨?_,?_,?_⟩
      · rw[show(j+1)*3=j*3+1+1+1 by omega];simpa [Zb1] using a
      · rw[show(j+1)*3+1=j*3+1+1+1+1 by omega];simpa [Zb1] using c
      · rw[show(j+1)*3+2=j*3+1+1+1+1+1 by omega];simpa [Zb1] using d
def ZcN(bs:List (BA×BA×Bool))(k:Nat):LB:=commas ((bs.take k).map fun c=>Z8 (Z7 c))
theorem Zvc{bs:List (BA×BA×Bool)}(k:Nat)(h:k<bs.length):ZcN bs (k+1)=(if k=0 then [] else ZcN bs k++[44])++Z8 (Z7 bs[k]):=by
 unfold ZcN;rw[List.take_succ_eq_append_getElem h,Yaq,Yco,Zlc];by_cases a:k=0
 ·subst a;rfl
 ·rw[if_neg a,if_neg (by rw[Ydl,Ydt];intro e;have:=congrArg List.length e;rw[Ya7,Ybq]at this;omega)]
theorem Zld(bs:List (BA×BA×Bool))(k:Nat):(ZcN bs k).length<=cw (bs.map Z7):=by
 unfold ZcN;refine Yah (ZeS _) ?_;rw[show(fun c=>Z8 _)=Z8 ∘ Z7 from rfl,<-Yb1];refine Yah (Zmv _) ?_;rw[Yer];have:=ZoG ((bs.map Z7).take k) ((bs.map Z7).drop k);rw[Ycn]at this;omega
theorem Zvb(bs:List (BA×BA×Bool)):ZcN bs bs.length=commas ((bs.map Z7).map Z8):=by
 unfold ZcN;rw[Ya4,Yb1];rfl
theorem Zu7(c:BA×BA×Bool):Z8 (Z7 c)=bl c.1++(if c.2.2 then [33,61] else [61])++[34]++bl c.2.1++[34]:=rfl
theorem Ztq(h:WB w B b l)(nm:BA)(la:Option Addr)(ln lc:Nat)(a:Nd)(T:bl nm=a.name)(hc:ZX w (.slice la ln lc) a.jn)(c9:l.length+a.name.length+cw a.jn+10<=big) :
  Cz 69 #[Vp b,.agg #[.string nm,.slice la ln lc]] w fun e u=>e=.returned (.tuple #[])/\Hid (WB u B b (l++selS a))/\Hid (WK B b w u):=by
 obtain⟨bs,v,I⟩:=hc;have d5:ln=bs.length:=by obtain⟨_,_,e⟩:=Zl v;injection e
 subst d5;have HW:=hid h;have b7:=hid T;have J:=hid I;have o:Hid (l.length+nm.size+cw (bs.map Z7)+10<=big):=by rwa [I,ZU T]
 have HO:=hid v
 have e6:bs.length<=1000000:=by
  have j:=o.out
  have S:bs.length<=cw (bs.map Z7):=by
   clear j o HO J v I
   induction bs with
   | nil=>exact Yag _
   | cons c l ih=>simp only[Ybb,cw,Yaj];omega
  unfold big at j;omega
 clear h T I c9 v;go_enter func69,ntmps69
 go_upto_region 1 with fail
 refine ZP fun W0 U=>?_;have K:Below _ w _:=U▸Zbal;have L:Hid (BAt _ _ _ 148):=U▸bnw;have M:=hid (HW.below K);have b8:Hid (WK B b w _):=WK.below K HW.le;have b9:=hid (Zn HO K);clear U K;have s0:=L.cell 0;have s1:=L.cell 1;simp only[Zget]at s0 s1
 go_wp2_with fail
 refine(Zda M _ (by have:=o.out;omega)).mono ?_;rintro e w1 ⟨rfl,N,A⟩;have V:=hid (b8.trans A);have X:=hid (WK.bat M A L Dc Dc);have Y:=hid (WK.own M A b9 Dc Dc);clear A s0 s1 L b8 M b9;have s1:=X.cell 1;simp only[Zget]at s1;by_cases hz:bs.length=0
 ·have HE:Hid (selS a=bl nm):=by
   have:=Ya3 hz;unfold selS;rw[<-J,this,b7];rfl
  rw[hz]at s1;go_wp2;exact bodyPost_ret (results_none rfl _ _ _) rfl ⟨rfl,by rwa [HE.out],V⟩
 ·have hp:0<bs.length:=by omega
  have HE:Hid (selS a=bl _++[123]++ZcN _ _++[125]):=hid (by
   unfold selS;rw[if_neg (by rw[<-J];intro e;rw[Ydt]at e;subst e;exact hz rfl),Zvb,J,b7])
  have e7:((bs.length:Int) == 0)=false:=by rw[beq_eq_false_iff_ne];omega
  obtain⟨g,cp,hg⟩:=ZF Y.out hp;injection hg with hg1 _ hg2;subst hg1 hg2
  go_wp2_with fail
  refine(Zda N _ (by rw[Yab,Zd];have:=o.out;show _+1<=_;omega)).mono ?_;rintro e z ⟨rfl,d6,C⟩;have c3:=hid (V.trans C);have c4:=hid (WK.bat N C X Dc Dc);have c5:=hid (WK.own N C Y Dc Dc);have d7:Hid (l++bl nm++[123]++ZcN bs 0=l++bl nm++[123]):=by show _++commas ([]:List (LB))=_;simp[commas]
  clear C s1 X V N Y;have s1:=c4.cell;go_wp2
  go_loopg [19] bs.length (fun gk v19 wr=>∃k:Nat,k<=bs.length/\gk=bs.length - k/\v19=Vi k/\Hid (WB wr B b (l++bl nm++[123]++ZcN bs k))/\Hid (WK B b w wr)/\Hid (wr.ownsRow 0 224 3 (.slice (some ⟨g,0,none⟩) bs.length lc) bs.length (Zb1 bs)))
  case atStart=>exact⟨0,Yag _,rfl,rfl,by rwa [d7.out],c3,c5⟩
  case round=>
   obtain⟨k,hk,e8,rfl,O,Z,s⟩:=hrel;clear d6 c3 c5 s1 c4;by_cases c6:k<bs.length
   ·have E:=hid (Zvc k c6);have c7:=hid (Zld bs (k+1));have p:=hid (Zu7 bs[k]);obtain⟨f1,f2,f3⟩:=Zwc bs k;rw[List.getElem?_eq_getElem c6]at f1 f2 f3;simp only[Ybf]at f1 f2 f3;have r0:=Zi s _ f1;have r1:=Zi s _ f2;have r2:=Zi s _ f3;clear f1 f2 f3;obtain⟨⟨x,y,ng⟩,hc⟩:∃c,c=bs[k]:=⟨_,rfl⟩
    rw[<-hc]at r0 r1 r2 E p;simp only at r0 r1 r2 p;have e9:=Z1 s;clear hc
    go_upto_region 7 with fail
    refine ZP fun W3 a0=>?_;have P:Below _ _ _:=a0▸Zbal;have F:Hid (BAt _ _ _ 224):=a0▸bnw;have t:=hid (O.below P);have Q:=hid (Z.trans (WK.below P O.le));have R:=hid (Zn s P);clear a0 P O Z s r0 r1 r2;have d8:Hid (k=0∨0<k):=hid Om;rcases d8.out with a5|a5
    ·have m:Hid (WB W3 B b (l++bl nm++[123]++(if k=0 then [] else ZcN bs k++[44]))):=by
      rw[if_pos a5,Yca];have h3:=t.out;rw[a5,show ZcN _ 0=[] from rfl,Yca]at h3;exact h3
     have n:=F;have a6:=Q;have a7:=R;clear t F Q R;have d9:¬(0:Int)<k:=by omega
     go_upto_region 9 with fail
     have c0:=n.cell 0;have c1:=n.cell 1;have c2:=n.cell 2;simp only[Zget]at c0 c1 c2;obtain⟨sg,q⟩:∃sg:BA,sg=(if ng then ⟨#[33,61]⟩else ⟨#[61]⟩):=⟨_,rfl⟩
     have a8:=hid q;have r:Hid (bl sg=(if ng then [33,61] else [61])):=by rw[q];cases ng <;> rfl
     have G:Hid (l.length+nm.size+1+(if k=0 then [] else ZcN bs k++[44]).length+(Z8 (Z7 (x,y,ng))).length+8<=big):=hid (by
      have j:=o.out;have S:=c7.out;rw[E,Yab]at S;omega)
     have a9:x.size+sg.size+y.size+2<=1000000:=by
      have j:=G.out;rw[p,<-r]at j;simp only[Yab,Zd,Yaj,Ybq]at j;unfold big at j;omega
     clear q;have a1:∀W,(Op.stringOp _ x sg).run prog W=.ok _ W:=fun W=>run_string_add_sum W _ _ Om;have y1:(x++sg).size=x.size+sg.size:=by rw[Yaz]
     have a2:∀W,(Op.stringOp _ _ ⟨#[34]⟩).run prog W=.ok _ W:=fun W=>run_string_add_sum W _ _ (by rw[y1];show _+1<=_;omega);have y2:((x++sg)++⟨#[34]⟩).size=x.size+sg.size+1:=by rw[Yaz,y1];rfl
     have a3:∀W,(Op.stringOp _ _ y).run prog W=.ok _ W:=fun W=>run_string_add_sum W _ _ (by rw[y2];omega);have y3:(((x++sg)++⟨#[34]⟩)++y).size=x.size+sg.size+1+y.size:=by rw[Yaz,y2]
     have a4:∀W,(Op.stringOp _ _ ⟨#[34]⟩).run prog W=.ok _ W:=fun W=>run_string_add_sum W _ _ (by rw[y3];show _+1<=_;omega)
     have b0:Hid (((((x++sg)++⟨#[34]⟩)++y)++⟨#[34]⟩).size=(Z8 (Z7 (x,y,ng))).length):=by
      rw[p,<-r];simp only[Yab,Zd,Yaz];rfl
     have b1:Hid (bl ((((x++sg)++⟨#[34]⟩)++y)++⟨#[34]⟩)=Z8 (Z7 (x,y,ng))):=by
      rw[p,<-r,ZcV,ZcV,ZcV,ZcV];rfl
     clear y1 y2 y3 a9
     go_region_held3 (fun u => u.cell? ⟨wr.heap.size, 0, none⟩ = some (.string x) /\ u.cell? ⟨wr.heap.size, 1, none⟩ = some (.bool ng) /\ u.cell? ⟨wr.heap.size, 2, none⟩ = some (.string y)) (first | exact ⟨e0, e1, e2⟩ | exact ⟨d0, d1, d2⟩ | exact ⟨c0, c1, c2⟩ | go_keep) (first
       | (go_at_call 115
          refine(ZoC x y ng).mono ?_;rintro e w5 ⟨rfl,d⟩;rw[<-a8.out];have f:Hid (BW W3 w5):=hid ⟨d.os,d.tape,d.output,d.size,d.block⟩;have H:=hid (n.below f.out);have d0:=H.cell;clear d)
       | (go_at_call 63
          refine(Zda (m.below f.out) _ (by rw[b0.out];have:=G.out;simp only[Yab,Zd,Yaj,Ybq];omega)).mono ?_;rintro e w6 ⟨rfl,e3,i⟩;have b2:=hid (WK.bat (m.below f.out) i.out H.out Dc Dc);have e0:=b2.cell;have b3:Hid (WK B b w w6):=a6.trans ((WK.below f.out m.le).trans i.out);have b4:=hid (WK.own (m.below f.out) i.out (Zn a7.out f.out) Dc Dc);clear i))
     have b5:Hid (WB w6 B b (l++bl nm++[123]++ZcN bs (k+1))):=by rwa [E.out,<-b1.out,<-Yan]
     go_wp2
     go_roundg (bs.length - (k+1))
     case measure=>omega
     case rel=>exact⟨k+1,by omega,rfl,by go_num,b5,b3,b4⟩
    ·have d3:=F;have d9:(0:Int)<k:=by omega
     go_wp2_with fail
     refine(Zda t _ (by have j:=o.out;have S:=Zld bs k;simp only[Yab,Zd];show _+1<=_;simp only[Yaj,Ybq];omega)).mono ?_;rintro e w4 ⟨rfl,d4,D⟩;have m:Hid (WB w4 B b (l++bl nm++[123]++(if k=0 then [] else ZcN bs k++[44]))):=by rwa [if_neg Om,<-Yan]
     have n:=hid (WK.bat t D F Dc Dc);have a6:=hid (Q.trans D);have a7:=hid (WK.own t D R Dc Dc);clear t F Q R D d4 d3
     go_upto_region 9 with fail
     have c0:=n.cell 0;have c1:=n.cell 1;have c2:=n.cell 2;simp only[Zget]at c0 c1 c2;obtain⟨sg,q⟩:∃sg:BA,sg=(if ng then ⟨#[33,61]⟩else ⟨#[61]⟩):=⟨_,rfl⟩
     have a8:=hid q;have r:Hid (bl sg=(if ng then [33,61] else [61])):=by rw[q];cases ng <;> rfl
     have G:Hid (l.length+nm.size+1+(if k=0 then [] else ZcN bs k++[44]).length+(Z8 (Z7 (x,y,ng))).length+8<=big):=hid (by
      have j:=o.out;have S:=c7.out;rw[E,Yab]at S;omega)
     have a9:x.size+sg.size+y.size+2<=1000000:=by
      have j:=G.out;rw[p,<-r]at j;simp only[Yab,Zd,Yaj,Ybq]at j;unfold big at j;omega
     clear q;have a1:∀W,(Op.stringOp _ x sg).run prog W=.ok _ W:=fun W=>run_string_add_sum W _ _ Om;have y1:(x++sg).size=x.size+sg.size:=by rw[Yaz]
     have a2:∀W,(Op.stringOp _ _ ⟨#[34]⟩).run prog W=.ok _ W:=fun W=>run_string_add_sum W _ _ (by rw[y1];show _+1<=_;omega);have y2:((x++sg)++⟨#[34]⟩).size=x.size+sg.size+1:=by rw[Yaz,y1];rfl
     have a3:∀W,(Op.stringOp _ _ y).run prog W=.ok _ W:=fun W=>run_string_add_sum W _ _ (by rw[y2];omega);have y3:(((x++sg)++⟨#[34]⟩)++y).size=x.size+sg.size+1+y.size:=by rw[Yaz,y2]
     have a4:∀W,(Op.stringOp _ _ ⟨#[34]⟩).run prog W=.ok _ W:=fun W=>run_string_add_sum W _ _ (by rw[y3];show _+1<=_;omega)
     have b0:Hid (((((x++sg)++⟨#[34]⟩)++y)++⟨#[34]⟩).size=(Z8 (Z7 (x,y,ng))).length):=by
      rw[p,<-r];simp only[Yab,Zd,Yaz];rfl
     have b1:Hid (bl ((((x++sg)++⟨#[34]⟩)++y)++⟨#[34]⟩)=Z8 (Z7 (x,y,ng))):=by
      rw[p,<-r,ZcV,ZcV,ZcV,ZcV];rfl
     clear y1 y2 y3 a9
     go_region_held3 (fun u => u.cell? ⟨wr.heap.size, 0, none⟩ = some (.string x) /\ u.cell? ⟨wr.heap.size, 1, none⟩ = some (.bool ng) /\ u.cell? ⟨wr.heap.size, 2, none⟩ = some (.string y)) (first | exact ⟨e0, e1, e2⟩ | exact ⟨d0, d1, d2⟩ | exact ⟨c0, c1, c2⟩ | go_keep) (first
       | (go_at_call 115
          refine(ZoC x y ng).mono ?_;rintro e w5 ⟨rfl,d⟩;rw[<-a8.out];have f:Hid (BW w4 w5):=hid ⟨d.os,d.tape,d.output,d.size,d.block⟩;have H:=hid (n.below f.out);have d0:=H.cell;clear d)
       | (go_at_call 63
          refine(Zda (m.below f.out) _ (by rw[b0.out];have:=G.out;simp only[Yab,Zd,Yaj,Ybq];omega)).mono ?_;rintro e w6 ⟨rfl,e3,i⟩;have b2:=hid (WK.bat (m.below f.out) i.out H.out Dc Dc);have e0:=b2.cell;have b3:Hid (WK B b w w6):=a6.trans ((WK.below f.out m.le).trans i.out);have b4:=hid (WK.own (m.below f.out) i.out (Zn a7.out f.out) Dc Dc);clear i))
     have b5:Hid (WB w6 B b (l++bl nm++[123]++ZcN bs (k+1))):=by rwa [E.out,<-b1.out,<-Yan]
     go_wp2
     go_roundg (bs.length - (k+1))
     case measure=>omega
     case rel=>exact⟨k+1,by omega,rfl,by go_num,b5,b3,b4⟩
   ·obtain rfl:k=bs.length:=by omega
    go_wp2_with fail
    refine(Zda O _ (by have j:=o.out;have S:=Zld bs bs.length;simp only[Yab,Zd,Yaj,Ybq];show _+1<=_;omega)).mono ?_;rintro e w8 ⟨rfl,c8,b6⟩;have e4:=hid (Z.trans b6);have e5:Hid (WB w8 B b (l++selS a)):=by rw[HE];have:=c8.out;simp only[Yan]at this ⊢;exact this
    clear b6 c8;go_wp2
    go_end0
    exact⟨rfl,e5,e4⟩
