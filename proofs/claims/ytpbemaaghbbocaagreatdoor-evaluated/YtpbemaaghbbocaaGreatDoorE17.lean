/- Parts. -/
import Derived.Test.YtpbemaaghbbocaaGreatDoorE16
set_option linter.all false
set_option maxRecDepth 100000
set_option maxHeartbeats 16000000
namespace Go.Proofs.YtpbemaaghbbocaaGreatDoor
open Go.RowKit LS Go.Proofs.Tryz
variable {d nm s tx:BA}{l:LB}{ps:List (LB)}{rs:List (Value × Value × Value × Value)}{es:List Entry}{ss:List Srs}{xs:List Value}{a b n sn:Nat}{lv sv v what:Value}{W w w':World}
structure Str where
 a:Option Addr
 n:Nat
 c:Nat
 tx:BA
 qs:List (BA×BA)
 sa:Option Addr
 sc:Nat
 jz:List (Int×Int)
def Str.enc(s:Str):List Value:=[.slice s.a s.n s.c,.string s.tx,.slice s.sa s.jz.length s.sc]
def Str.pr(s:Str):List Lab×List (Int×Int):=(s.qs.map blP,s.jz)
structure StrOk (w:World) (s:Str):Prop where
 lb:LbOk w s.a s.n s.c s.tx s.qs
 sam:SamV w s.sa s.jz
 ne:s.jz≠[]
 len:s.jz.length<=6001
 ok:∀x∈s.jz,smOk x
theorem StrOk.kb{t:TypeId}{s:Str}(h:StrOk w s)(a:Z5 t w w')(c:320≠t)(d:313≠t):StrOk w' s:=⟨h.lb.kb a c,h.sam.kb a d,h.ne,h.len,h.ok⟩
theorem StrOk.jy{s:Str}(h:StrOk w s)(a:Zo w w'):StrOk w' s:=⟨h.lb.jy a,h.sam.jy a,h.ne,h.len,h.ok⟩
def encR(l:List Str):List Value:=(l.map Str.enc).flatten
theorem ZvN(l m:List Str):encR (l++m)=encR l++encR m:=by unfold encR;rw[Yaq,Ygi]
theorem ZoV(l:List Str)(j:Nat)(d:j<l.length):(encR l)[j*3]?=some (.slice l[j].a l[j].n l[j].c)/\(encR l)[j*3+1]?=some (.string l[j].tx)/\(encR l)[j*3+2]?=some (.slice l[j].sa l[j].jz.length l[j].sc):=by
 induction l generalizing j with
 | nil=>simp at d
 | cons a l ih=>
  have e:encR (a::l)=.slice a.a a.n a.c::.string a.tx::.slice a.sa a.jz.length a.sc::encR l:=rfl;cases j with
  | zero=>rw[e];exact⟨rfl,rfl,rfl⟩
  | succ j=>
   have h:=ih j (by simpa using d);rw[e,show(j+1)*3=j*3+1+1+1 by omega];simpa using h
structure RngV (w:World) (v:Value) (rs:List Str):Prop where
 row:w.ownsRow 0 311 3 v rs.length (encR rs)
 ok:∀s∈rs,StrOk w s
theorem RngV.jy{rs:List Str}(h:RngV w v rs)(a:Zo w w'):RngV w' v rs:=⟨a.own h.row,fun s c=>(h.ok s c).jy a⟩
theorem RngV.below{rs:List Str}(h:RngV w v rs)(a:BW w w'):RngV w' v rs:=h.jy (Zo.below a)
def ZbH(st:List Ser)(a:Nd)(n t:Int):List (List Lab×List (Int×Int)):=(st.filter fun s=>Zc1 a s && !(Zb6 s.jz n t).isEmpty).map fun s=>(s.labs,Zb6 s.jz n t)
theorem ZA3{st:List Ser}{s:Ser}{a:Nd}{n t:Int}:ZbH (st++[s]) a n t=if Zc1 a s && !(Zb6 s.jz n t).isEmpty then ZbH st a n t++[(s.labs,Zb6 s.jz n t)] else ZbH st a n t:=by
 unfold ZbH;rw[Ygd,Yaq];split
 ·rename_i h;rw[Yda (by simpa using h)];rfl
 ·rename_i h;rw[Ydb (by simpa using h)];simp
theorem ZmZ(st:List Ser)(a:Nd)(n t:Int):(ZbH st a n t).length<=st.length:=by
 unfold ZbH;rw[Yak];exact Ydj _ _
theorem ZAI (st : List Ser) (a : Nd) (op : Option Nat) (n t : Int) : ZeZ st a op n t = (ZbH st a n t).map fun p => (p.1, oneV op p.2) := by
  unfold ZeZ ZbH;rw[Yb1];rfl
def encS(l:List Srs):List Value:=(l.map Srs.enc).flatten
theorem ZvO(l:List Srs)(j:Nat)(d:j<l.length):(encS l)[j*4]?=some (.string l[j].nm)/\(encS l)[j*4+1]?=some (.slice l[j].a l[j].n l[j].c)/\(encS l)[j*4+2]?=some (.string l[j].tx)/\(encS l)[j*4+3]?=some (.slice l[j].sa l[j].jz.length l[j].sc):=by
 induction l generalizing j with
 | nil=>simp at d
 | cons a l ih=>
  have e:encS (a::l)=.string a.nm::.slice a.a a.n a.c::.string a.tx::.slice a.sa a.jz.length a.sc::encS l:=rfl;cases j with
  | zero=>rw[e];exact⟨rfl,rfl,rfl,rfl⟩
  | succ j=>
   have h:=ih j (by simpa using d);rw[e,show(j+1)*4=j*4+1+1+1+1 by omega];simpa using h
structure StoP (w:World) (v:Value) (ss:List Srs):Prop where
 row:w.ownsRow 0 199 4 v ss.length (encS ss)
 ok:∀s∈ss,SrsOk w s
 len:ss.length<=30
theorem StoP.jy(h:StoP w v ss)(a:Zo w w'):StoP w' v ss:=⟨a.own h.row,fun s c=>(h.ok s c).jy a,h.len⟩
theorem StoP.below(h:StoP w v ss)(a:BW w w'):StoP w' v ss:=h.jy (Zo.below a)
theorem Tryz.infoStretch:(Tryz.prog.info? 311).map (fun i=>(i.zero,i.size,i.bytes))=some (some (.agg #[S0,.string ByteArray.empty,S0]),3,64):=by kernel_rfl
theorem ZmR(sv:Value)(ss:List Srs)(nm:BA)(la:Option Addr)(ln lc:Nat)(nd:Nd)(n t:Int)(w:World)(Q:StoP w sv ss)(a6:bl nm=nd.name)(hc:ZX w (.slice la ln lc) nd.jq)(b3:0<=n)(b4:n<=1000)(b5 : -1000000<=t)(b6:t<=1000000) :
  CP 134 #[sv,.agg #[.string nm,.slice la ln lc],Vi n,Vi t] w fun e w'=>∃v rs,e=.returned v/\Hid (RngV w' v rs/\rs.map Str.pr=ZbH (ss.map Srs.ser) nd n t)/\BW w w':=by
 obtain⟨i0,hi,b7,b8,b9⟩:=info_parts Tryz.infoStretch;obtain⟨sa,scp,rfl⟩:=Zl Q.row;have a7:Hid (StoP w (.slice sa ss.length scp) ss):=Q;have d0:ss.length<=30:=Q.len;have c0:Hid (bl nm=nd.name):=a6;have HC:Hid (ZX w (.slice la ln lc) nd.jq):=hc;clear Q a6 hc;go_enter func134,ntmps134;go_wp2
 go_loopw [9, 15] (fun v i wr => ∃ (k : Nat) (rs : List Str), k <= ss.length /\ i = Vi k /\ rs.length <= k /\ wr.ownsRow (w.heap.size + 1) 311 3 v rs.length (encR rs) /\ Hid ((∀ s ∈ rs, StrOk wr s) /\ rs.map Str.pr = ZbH ((ss.take k).map Srs.ser) nd n t) /\ Hid (BAt wr w.heap.size [.string nm, .slice la ln lc] 179) /\ Hid (BW w wr))
   (fun _ i _=>ss.length - (intOf i).toNat)
 case atStart=>exact⟨0,[],Yag _,rfl,Yag _,Ybc _ _ _ _,hid ⟨(by intro s J;cases J),by simp[ZbH]⟩,hid (Go.Deep.blk_alloc_new w _),hid Zbal⟩
 case round=>
  obtain⟨k,rs,hk,rfl,d5,K,HR,F,HB⟩:=hrel;by_cases a0:k<ss.length
  ·have hg:∃g,sa=some ⟨g,0,none⟩:=by
    obtain⟨g,cp',h⟩:=ZF a7.row Om;injection h with h1;exact⟨g,h1⟩
   obtain⟨g,rfl⟩:=hg;have r:=hid (a7.below HB.out);obtain⟨f1,f2,f3,f4⟩:=ZvO ss k a0;have d1:=Zi r.row _ _ f1;have d2:=Zi r.row _ _ f2;have d3:=Zi r.row _ _ f3;have d4:=Zi r.row _ _ f4;have a8:Hid (SrsOk wr ss[k]):=hid (r.ok _ (List.getElem_mem a0))
   have G:Hid (ZbH ((ss.take (k+1)).map Srs.ser) nd n t=if Zc1 nd (ss[k]).ser && !(Zb6 (ss[k]).jz n t).isEmpty then ZbH ((ss.take k).map Srs.ser) nd n t++[((ss[k]).qs.map blP,Zb6 (ss[k]).jz n t)] else ZbH ((ss.take k).map Srs.ser) nd n t):=hid (by
    rw[List.take_succ_eq_append_getElem a0,Yaq];exact ZA3)
   generalize ss[k]=s at *
   clear f1 f2 f3 f4 r;have d6:(k:Int)<(ss.length:Int):=by omega
   have x0:=F.cell 0;have x1:=F.cell 1;simp only[Zget]at x0 x1;have d7:=F.lt
   go_wp2_with fail
   refine Zm fun W hW=>?_;have A:BW wr W:=by rw[hW];exact Zbal
   have R:Hid (BW w W):=HB.trans (A.mono HB.size);have a9:Hid (BAt W wr.heap.size [.string s.nm,.slice s.a s.n s.c,.string s.tx,.slice s.sa s.jz.length s.sc] 199):=hid (by rw[hW];exact Go.Deep.blk_alloc_new _ _);have a1:=hid (F.below A);have S:=Zn K A;have a2:Hid ((∀s∈rs,StrOk W s)/\rs.map Str.pr=ZbH ((ss.take k).map Srs.ser) nd n t):=hid ⟨fun s J=>(HR.1 s J).jy (Zo.below A),HR.2⟩;have L:=hid (a8.jy (Zo.below A));clear hW A K HR F x0 x1 d1 d2 d3 d4 a8 HB;refine(ZAR nm la ln lc nd s c0.out (HC.below R.out) L.lb).mono ?_;rintro e y ⟨rfl,m⟩;have T:Hid (BW w y):=R.trans (m.mono R.size);have j:=hid (a9.below m);have M:=hid (a1.below m);have B:=Zn S m;have H:Hid ((∀s∈rs,StrOk y s)/\rs.map Str.pr=ZbH ((ss.take k).map Srs.ser) nd n t):=hid ⟨fun s J=>(a2.1 s J).jy (Zo.below m),a2.2⟩;have l:=hid (L.jy (Zo.below m));clear m R a9 a1 S a2 L;cases hp:Zc1 nd s.ser with
   | false=>
    have I:Hid ((∀s∈rs,StrOk y s)/\rs.map Str.pr=ZbH ((ss.take (k+1)).map Srs.ser) nd n t):=hid ⟨H.1,by rw[G.out,hp];exact H.2⟩;clear hp;go_wp2
    go_roundw
    case rel=>exact⟨k+1,rs,by omega,by go_num,by omega,B,I,M,T⟩
    case measure=>simp[intOf];omega
   | true=>
    have HP:Hid (Zc1 nd s.ser=true):=hp;clear hp;have x0:=j.cell 0;have x1:=j.cell 1;have x2:=j.cell 2;have x3:=j.cell 3;simp only[Zget]at x0 x1 x2 x3
    go_wp2_with fail
    refine(ZA1 s.sc s.sa s.jz n t y l.tm l.len l.cap b3 b4 b5 b6 l.sam).mono ?_;rintro e N ⟨av',cp',rfl,a3,p⟩;have a4:Hid (BW w N):=T.trans (p.mono T.size);have C:=hid (j.below p);have O:=hid (M.below p);have d:=Zn B p;have U:Hid ((∀s∈rs,StrOk N s)/\rs.map Str.pr=ZbH ((ss.take k).map Srs.ser) nd n t):=hid ⟨fun s J=>(H.1 s J).jy (Zo.below p),H.2⟩;have P:=hid (l.jy (Zo.below p));clear p T j M B H l x0 x1 x2 x3;obtain⟨f,V⟩:∃f,Zb6 s.jz n t=f:=⟨_,rfl⟩
    rw[V]at a3 G ⊢;by_cases Y:f=[]
    ·have I:Hid ((∀s∈rs,StrOk N s)/\rs.map Str.pr=ZbH ((ss.take (k+1)).map Srs.ser) nd n t):=hid ⟨U.1,by rw[G.out,Y];simpa using U.2⟩;subst Y;go_wp2
     go_roundw
     case rel=>exact⟨k+1,rs,by omega,by go_num,by omega,d,I,O,a4⟩
     case measure=>simp[intOf];omega
    ·have c9:0<f.length:=Ycj.2 Y
     have c6:Hid (ZbH ((ss.take (k+1)).map Srs.ser) nd n t=ZbH ((ss.take k).map Srs.ser) nd n t++[(s.qs.map blP,f)]):=hid (by
      rw[G.out,HP.out,if_pos];simpa using Y)
     have c7:Hid (StrOk N ⟨s.a,s.n,s.c,s.tx,s.qs,av',cp',f⟩):=hid ⟨P.lb,a3.out,Y,by
      have:f.length<=s.jz.length:=by rw[<-V];exact Ydj _ _
      have:=P.len;show f.length<=6001;omega,fun x hx=>P.ok x (by rw[<-V]at hx;exact(Ycg.1 hx).1)⟩
     have d8:(0:Int)<(f.length:Int):=by omega
     have x0:=C.cell 0;have x1:=C.cell 1;have x2:=C.cell 2;have x3:=C.cell 3;simp only[Zget]at x0 x1 x2 x3;have d9:=a4.size;have e0:=O.lt;clear V Y G HP a3
     go_wp2_with (at_builtin;refine wpList_append_own _ rfl (.tmp 31) (.tmp 36) 270 rfl (w.heap.size+1) 311 i0 (.agg #[S0,.string ByteArray.empty,S0]) 3 64 underlying270 hi b7 b8 b9 rfl Dc _ _ _ rfl (d.alloc _) ⟨N.heap.size,0,none⟩ 1 1 [.slice s.a s.n s.c,.string s.tx,.slice av' f.length cp'] rfl rfl ?c1 ?c2 ?c3 ?c4 ?c5 ?_)
     case c1=>exact Zuy (by simp) (by simp) (by simp)
     case c2=>intro u hu;simp at hu;rcases hu with rfl|rfl|rfl <;> rfl
     case c3=>unfold maxLen;omega
     case c4=>omega
     case c5=>simp;omega
     intro v' w3 X D _;have b0:BW w w3:=(a4.alloc Om _).grown D (by simp;omega) (fun q hq=>by have:=(d.lt q hq).1;omega);have b1:∀o,Z5 311 N (N.alloc o):=fun o=>Z5.below Zbal _;have E:=(b1 _).trans (Z5.grown D (d.alloc _))
     have a5:w3.ownsRow (w.heap.size+1) 311 3 v' (rs++[(⟨s.a,s.n,s.c,s.tx,s.qs,av',cp',f⟩:Str)]).length (encR (rs++[(⟨s.a,s.n,s.c,s.tx,s.qs,av',cp',f⟩:Str)])):=by
      rw[ZvN,Yab];exact X
     have I : Hid ((∀ z ∈ rs ++ [(⟨s.a, s.n, s.c, s.tx, s.qs, av', cp', f⟩ : Str)], StrOk w3 z) /\ (rs ++ [(⟨s.a, s.n, s.c, s.tx, s.qs, av', cp', f⟩ : Str)]).map Str.pr = ZbH ((ss.take (k + 1)).map Srs.ser) nd n t) := hid ⟨fun z Z => by
       rcases Yar.1 Z with Z|Z
       · exact(U.1 z Z).kb E Dc Dc
       · rw[Yap]at Z;subst Z;exact c7.kb E Dc Dc,by rw[c6.out,Yaq,U.2];rfl⟩
     have b2:Hid (BAt w3 w.heap.size [.string nm,.slice la ln lc] 179):=hid (E _ _ _ _ Dc O.out);clear d D X b1 E x0 x1 x2 x3;have c8:Hid _:=hid b0;clear b0;go_wp2
     go_roundw
     case rel=>exact⟨k+1,_,by omega,by go_num,by simp;omega,a5,I,b2,c8⟩
     case measure=>simp[intOf];omega
  ·obtain rfl:k=ss.length:=by omega
   have I:Hid ((∀s∈rs,StrOk wr s)/\rs.map Str.pr=ZbH (ss.map Srs.ser) nd n t):=hid ⟨HR.1,by have:=HR.2;rwa [Ya4]at this⟩;go_wp2;go_ret;exact⟨_,rs,rfl,hid ⟨⟨K.mono (Yag _),I.1⟩,I.2⟩,HB.out⟩
theorem ZrL(s:BA)(m:Int)(w:World)(g:s.size<=6000)(h:w.cell? ⟨14,0,none⟩=some (Vi m)) :
  CP 139 #[.string s] w fun e u => ∃ (a : Option Addr) (n cap : Nat) (ok : Bool), e = .returned (.tuple #[.slice a n cap, .bool ok]) /\
    Hid (ok=(Zcc (bl s)).isSome/\(ok=true->∃qs,ZcB u 0 (.slice a n cap) n qs/\Zcc (bl s)=some (qs.map blP)))/\BW w u:=by
 cases c:s.toList.isEmpty
 ·have d:=Zij c;have i:Zcc (bl s)=ZbS [] [] (split 44 (bl s)):=by unfold Zcc;rw[if_neg d]
  rw[i];exact ZBg s m w g h c
 ·have f:Hid (Zcc (bl s)=some []):=hid (by rw[ZgW c];rfl);go_enter func139,ntmps139;go_wp2;go_ret2;exact⟨none,0,0,true,rfl,⟨by rw[f.out];rfl,fun _=>⟨[],⟨Ybc _ _ _ _,by omega,fun p j=>(by cases j)⟩,f.out⟩⟩,Yaf _ _⟩
theorem ZBe(m:Int)(d:s.size<=6000)(f:w.cell? ⟨14,0,none⟩=some (Vi m))(h:(Zcc (bl s)).isSome=false) :
  CP 139 #[.string s] w fun e u=>∃(a:Option Addr) (n cap:Nat),e=.returned (.tuple #[.slice a n cap,.bool false])/\BW w u:=by
 refine(ZrL s m w d f).mono ?_;rintro e u ⟨a,n,cap,ok,rfl,c,g⟩;exact⟨a,n,cap,by rw[c.1,h],g⟩
theorem ZBf(m:Int)(d:s.size<=6000)(f:w.cell? ⟨14,0,none⟩=some (Vi m))(h:(Zcc (bl s)).isSome=true) :
  CP 139 #[.string s] w fun e u=>∃(a:Option Addr) (n cap:Nat) (qs:List (BA×BA)),e=.returned (.tuple #[.slice a n cap,.bool true])/\Hid (ZcB u 0 (.slice a n cap) n qs/\Zcc (bl s)=some (qs.map blP))/\BW w u:=by
 refine(ZrL s m w d f).mono ?_;rintro e u ⟨a,n,cap,ok,rfl,c,g⟩;have e:ok=true:=by rw[c.1,h]
 subst e;obtain⟨qs,i,j⟩:=c.2 rfl;exact⟨a,n,cap,qs,rfl,⟨i,j⟩,g⟩
theorem box4{a:World}{x y z u:Value}{t:TypeId}(c:Below (w.heap.size+1) (w.alloc (.cells #[x,y,z,u] t)) a) :
  a.cell? ⟨w.heap.size,0,none⟩=some x/\a.cell? ⟨w.heap.size,1,none⟩=some y/\a.cell? ⟨w.heap.size,2,none⟩=some z/\a.cell? ⟨w.heap.size,3,none⟩=some u/\
  a.frozen? ⟨w.heap.size,0,none⟩=false/\a.frozen? ⟨w.heap.size,1,none⟩=false/\a.frozen? ⟨w.heap.size,2,none⟩=false/\a.frozen? ⟨w.heap.size,3,none⟩=false:=by
 have h:a.heap[w.heap.size]?=some (.cells #[x,y,z,u] t (0,0)):=(c.block _ Om).trans (Go.Deep.blk_alloc_new _ _);refine⟨?_,?_,?_,?_,?_,?_,?_,?_⟩ <;> simp[World.cell?,World.frozen?,h]
theorem ZBm(m:Int)(d:s.size<=6000)(f:w.cell? ⟨14,0,none⟩=some (Vi m))(h:Zcz (bl s)=none) :
  CP 140 #[.string s] w fun e u=>∃sv:Value,e=.returned (.tuple #[sv,.bool false])/\BW w u:=by
 refine(ZrN s m w d f).mono ?_;rintro e u ⟨sv,ok,rfl,c,g⟩;rcases c.out with ⟨_,_,_,_,_,a,_⟩|⟨a,_⟩
 ·rw[h]at a;cases a
 ·exact⟨sv,by rw[a],g⟩
theorem ZBn(m:Int)(g:s.size<=6000)(i:w.cell? ⟨14,0,none⟩=some (Vi m))(h:Zcz (bl s)=some n) :
  CP 140 #[.string s] w fun e u=>∃a cap,e=.returned (.tuple #[.slice a n cap,.bool true])/\Hid (u.ownsRow w.heap.size 313 2 (.slice a n cap) n (Zca (Zez (bl s))))/\BW w u:=by
 refine(ZrN s m w g i).mono ?_;rintro e u ⟨sv,ok,rfl,d,j⟩;rcases d.out with ⟨k,a,n',cap,f,c,l⟩|⟨_,c⟩
 ·rw[h]at c;obtain rfl:=Yax c;exact⟨a,cap,by rw[k,f],by rw[<-f];exact l,j⟩
 ·rw[h]at c;cases c
def Zc6(w:World)(l:LB)(nm:BA)(lv:Value)(tx:BA)(sv:Value)(sn:Nat):Prop:=∃(inside:LB) (qs:List (BA×BA)),line l=some (bl nm,inside,sn)/\Zcc inside=some (qs.map blP)/\ZcB w 0 lv qs.length qs/\bl tx=Zbf qs/\w.ownsRow 0 313 2 sv sn (Zca (Zdo l))
theorem Zc6.below(h:Zc6 w l nm lv tx sv sn)(a:BW w w'):Zc6 w' l nm lv tx sv sn:=by
 obtain⟨i,qs,c,d,e,f,g⟩:=h;exact⟨i,qs,c,d,e.below a,f,Zn g a⟩
theorem Zc6.other(h:Zc6 w l nm lv tx sv sn){c:Array Value}{fr:Nat×Nat}(g:w.heap[a]?=some (.cells c 199 fr))(k:∀j,j≠a->w'.heap[j]?=w.heap[j]?):Zc6 w' l nm lv tx sv sn:=by
 obtain⟨i,qs,n,o,d,p,m⟩:=h;exact⟨i,qs,n,o,⟨Zim d.1 (fun j f=>k j (fun e=>Zcx d.1 g Dc (by rw[f,e]))),d.2⟩,p,Zim m (fun j f=>k j (fun e=>Zcx m g Dc (by rw[f,e])))⟩
def Zgx(w:World)(l:LB)(nm:BA)(lv:Value)(tx:BA)(sv:Value)(sn:Nat)(ok:Bool):Prop:=(ok=true/\Zc6 w l nm lv tx sv sn)∨(ok=false/\line l=none)
theorem Zw1{m:Int}{B:Nat}(a:w.cell? ⟨14,0,none⟩=some (Vi m))(c:Below B w w')(d:14<B):w'.cell? ⟨14,0,none⟩=some (Vi m):=
 (c.cell (p:=⟨_,0,none⟩) d).trans a
theorem ZBo(s:BA)(m:Int)(T:s.size<=6000)(hm:w.cell? ⟨14,0,none⟩=some (Vi m)) :
  CP 89 #[.string s] w fun e u => ∃ (nm : BA) (a : Option Addr) (n cap : Nat) (tx : BA) (sa : Option Addr) (sn sc : Nat) (ok : Bool), e = .returned (.tuple #[.agg #[.string nm, .slice a n cap, .string tx, .slice sa sn sc], .bool ok]) /\
    Hid (Zgx u (bl s) nm (.slice a n cap) tx (.slice sa sn sc) sn ok)/\BW w u:=by
 have a1:=Yai _ _ hm
 have E : ∀ o, (w.alloc o).cell? ⟨14, 0, none⟩ = some (Vi m) := fun o => by
   rw[Ybm _ _ _ a1];exact hm
 have k:∀o (j:Nat),((w.alloc o).drewN j).cell? ⟨14,0,none⟩=some (Vi m):=fun o j=>E o;cases L:cut 123 (bl s)with
 | none=>
  have l:Hid (∀W nm lv tx sv,Zgx W (bl s) nm lv tx sv 0 false):=hid (fun _ _ _ _ _=>Or.inr ⟨rfl,ZjF L⟩);have F:Hid (cut 123 (bl s)=none):=L;clear L;go_enter func89,ntmps89
  go_wp2_with fail
  refine(ZgH m _ T (E _) F.out).mono ?_;rintro e u ⟨a,b,rfl,c,j,rfl⟩;have t:b.size<=6000:=by rw[ZU c.2];simp
  go_wp2_with fail
  refine(ZgH m _ t (k _ _) (by rw[c.2];rfl)).mono ?_;rintro e u ⟨a2,b2,rfl,d,j2,rfl⟩;go_wp2;exact bodyPost_ret (v:=.tuple #[.agg #[.string ⟨#[]⟩,S0,.string ⟨#[]⟩,S0],.bool false]) (by simp[results,results89,go_sem]) rfl ⟨⟨#[]⟩,none,0,0,⟨#[]⟩,none,0,0,false,rfl,hid (l.out _ _ _ _ _),belB⟩
 | some p=>
  obtain⟨x,r⟩:=p;have a7:x.length<=s.size/\r.length<=s.size:=by rw[<-Zd,(Zdx L).1];simp;omega
  have F:Hid (cut 123 (bl s)=some (x,r)):=L;clear L;cases A:cut 125 r with
  | none=>
   have l:Hid (∀W nm lv tx sv,Zgx W (bl s) nm lv tx sv 0 false):=hid (fun _ _ _ _ _=>Or.inr ⟨rfl,ZjE F.out A⟩);have G:Hid (cut 125 r=none):=A;clear A;go_enter func89,ntmps89
   go_wp2_with fail
   refine(Zep m _ T (E _) F.out).mono ?_;rintro e u ⟨a,b,rfl,c,j,rfl⟩;have t:b.size<=6000:=by rw[ZU c.2];omega
   go_wp2_with fail
   refine(ZgH m _ t (k _ _) (by rw[c.2];exact G.out)).mono ?_;rintro e u ⟨a2,b2,rfl,d,j2,rfl⟩;go_wp2;exact bodyPost_ret (v:=.tuple #[.agg #[.string ⟨#[]⟩,S0,.string ⟨#[]⟩,S0],.bool false]) (by simp[results,results89,go_sem]) rfl ⟨⟨#[]⟩,none,0,0,⟨#[]⟩,none,0,0,false,rfl,hid (l.out _ _ _ _ _),belB⟩
  | some q=>
   obtain⟨y,z⟩:=q;have a8:y.length<=r.length/\z.length<=r.length:=by rw[(Zdx A).1];simp;omega
   have G:Hid (cut 125 r=some (y,z)):=A;have g:=ZjG F.out A;clear A;cases M:Zx x
   ·have l:Hid (∀W nm lv tx sv,Zgx W (bl s) nm lv tx sv 0 false):=hid (fun _ _ _ _ _=>Or.inr ⟨rfl,by rw[g,M];rfl⟩);have U:Hid (Zx x=false):=M;clear M g;go_enter func89,ntmps89
    go_wp2_with fail
    refine(Zep m _ T (E _) F.out).mono ?_;rintro e u ⟨a,b,rfl,c,j,rfl⟩;have O:a.size<=6000:=by rw[ZU c.1];omega
    have t:b.size<=6000:=by rw[ZU c.2];omega
    go_wp2_with fail
    refine(Zep m _ t (k _ _) (by rw[c.2];exact G.out)).mono ?_;rintro e u ⟨a2,b2,rfl,d,j2,rfl⟩
    go_wp2_with fail
    refine(Zku (b:=false) O (by rw[c.1];exact U.out)).mono ?_;rintro e u ⟨rfl,rfl⟩;go_wp2;exact bodyPost_ret (v:=.tuple #[.agg #[.string ⟨#[]⟩,S0,.string ⟨#[]⟩,S0],.bool false]) (by simp[results,results89,go_sem]) rfl ⟨⟨#[]⟩,none,0,0,⟨#[]⟩,none,0,0,false,rfl,hid (l.out _ _ _ _ _),belB⟩
   ·have U:Hid (Zx x=true):=M;rw[M]at g;clear M;go_enter func89,ntmps89;have i:Hid _:=g;clear g
    go_wp2_with fail
    refine(Zep m _ T (E _) F.out).mono ?_;rintro e u ⟨a,b,rfl,c,j,rfl⟩;have O:a.size<=6000:=by rw[ZU c.1];omega
    have t:b.size<=6000:=by rw[ZU c.2];omega
    go_wp2_with fail
    refine(Zep m _ t (k _ _) (by rw[c.2];exact G.out)).mono ?_;rintro e u ⟨a2,b2,rfl,d,j2,rfl⟩;have P:a2.size<=6000:=by rw[ZU d.1];omega
    have Q:b2.size<=6000:=by rw[ZU d.2];omega
    go_wp2_with fail
    refine(Zku (b:=true) O (by rw[c.1];exact U.out)).mono ?_;rintro e u ⟨rfl,rfl⟩;cases C:(Zcc y).isSome
    ·have l:Hid (∀W nm lv tx sv,Zgx W (bl s) nm lv tx sv 0 false):=hid (fun _ _ _ _ _=>Or.inr ⟨rfl,by rw[i.out,C];rfl⟩);have HL:Hid ((Zcc y).isSome=false):=C;clear C
     go_wp2_with fail
     refine(ZBe m P (k _ _) (by rw[d.1];exact HL.out)).mono ?_;rintro e J ⟨la,ln,lc,rfl,B⟩;have f:Below (w.heap.size+1) (w.alloc (.cells #[.string ⟨#[]⟩,S0,.string ⟨#[]⟩,S0] 199)) J:=(ZkW B).mono (B':=w.heap.size+1) (by simp);have H:BW w J:=((Yaf w.heap.size w).alloc (Yac _) _).trans (f.mono Om);obtain⟨k0,k1,k2,k3,g0,g1,g2,g3⟩:=box4 f;clear B f;go_wp2;exact bodyPost_ret (v:=.tuple #[.agg #[.string ⟨#[]⟩,S0,.string ⟨#[]⟩,S0],.bool false]) (by simp[results,results89,go_sem,k0,k1,k2,k3]) rfl ⟨⟨#[]⟩,none,0,0,⟨#[]⟩,none,0,0,false,rfl,hid (l.out _ _ _ _ _),belB⟩
    ·have HL:Hid ((Zcc y).isSome=true):=C;rw[C]at i;clear C
     go_wp2_with fail
     refine(ZBf m P (k _ _) (by rw[d.1];exact HL.out)).mono ?_;rintro e J ⟨la,ln,lc,qs,rfl,HQ,B⟩;have R:w.heap.size+1<=J.heap.size:=by have:=B.size;simp at this;omega
     have V:J.cell? ⟨14,0,none⟩=some (Vi m):=Zw1 (k _ _) B (by simp;omega);have f:Below (w.heap.size+1) (w.alloc (.cells #[.string ⟨#[]⟩,S0,.string ⟨#[]⟩,S0] 199)) J:=(ZkW B).mono (B':=w.heap.size+1) (by simp);have H:BW w J:=((Yaf w.heap.size w).alloc (Yac _) _).trans (f.mono Om);clear B;cases D:Zcz z with
     | none=>
      have l:Hid (∀W nm lv tx sv,Zgx W (bl s) nm lv tx sv 0 false):=hid (fun _ _ _ _ _=>Or.inr ⟨rfl,by rw[i.out,D];rfl⟩);have HM:Hid (Zcz z=none):=D;clear D
      go_wp2_with fail
      refine(ZBm m Q V (by rw[d.2];exact HM.out)).mono ?_;rintro e N ⟨sv,rfl,h⟩;obtain⟨k0,k1,k2,k3,g0,g1,g2,g3⟩:=box4 (f.trans (h.mono R));have S:BW w N:=H.trans (h.mono Om);clear f h H;go_wp2;exact bodyPost_ret (v:=.tuple #[.agg #[.string ⟨#[]⟩,S0,.string ⟨#[]⟩,S0],.bool false]) (by simp[results,results89,go_sem,k0,k1,k2,k3]) rfl ⟨⟨#[]⟩,none,0,0,⟨#[]⟩,none,0,0,false,rfl,hid (l.out _ _ _ _ _),belB⟩
     | some n=>
      have l:Hid (line (bl s)=some (x,y,n)):=hid (by rw[i.out,D];rfl);have a3:Hid (Zdo (bl s)=Zez z):=hid (Zr1 U.out F.out G.out);have HM:Hid (Zcz z=some n):=D;clear D
      go_wp2_with fail
      refine(ZBn m Q V (by rw[d.2];exact HM.out)).mono ?_;rintro e N ⟨sa,sc,rfl,a4,h⟩;have X:Hid (ZcB N 0 (.slice la ln lc) ln qs):=ZcB.below HQ.1 h;have K:=f.trans (h.mono R);have Y:w.heap.size+1<=N.heap.size:=Yah R h.size;have S:BW w N:=H.trans (h.mono Om);clear f h H
      go_wp2_with fail
      refine(Zro _ _ _ N qs X.out).mono ?_;rintro e w5 ⟨oa,oc,rfl,Z,I⟩;have a0:qs.length=ln:=by have:=X.1.1;rw[Zi9]at this;omega
      have a5:Hid (Zc6 w5 (bl s) a (.slice oa ln oc) ⟨(Zbf qs).toArray⟩ (.slice sa n sc) n):=hid ⟨y,qs,by rw[l.out,c.1],by rw[<-d.1];exact HQ.2,by rw[a0];exact Z,ZbF _,by rw[a3.out,<-d.2];exact Zn (ZmF a4.out) I⟩;clear a0;obtain⟨k0,k1,k2,k3,g0,g1,g2,g3⟩:=box4 (K.trans (I.mono Y));have a6:Hid (w5.heap[w.heap.size]?=some (.cells #[.string ⟨#[]⟩,S0,.string ⟨#[]⟩,S0] 199 (0,0))):=hid (((K.trans (I.mono Y)).block _ Om).trans (Go.Deep.blk_alloc_new _ _));have a9:BW w w5:=S.trans (I.mono Om);clear K I Z S;go_wp2;exact bodyPost_ret (v:=.tuple #[.agg #[.string a,.slice oa ln oc,.string ⟨(Zbf qs).toArray⟩,.slice sa n sc],.bool true]) (by simp[results,results89,go_sem,k0,k1,k2,k3]) rfl ⟨a,oa,ln,oc,_,sa,n,sc,true,rfl,hid (Or.inl ⟨rfl,a5.other a6.out (fun j hj=>by first|rfl|(repeat rw[Go.Deep.blk_setCell_other _ _ _ _ (by exact hj)]))⟩),belB⟩
theorem ZnV{i:Int} :
  CP 90 #[Vi i,.iface 389 what] w fun e u=>e=.returned (.iface 94 (Vp w.heap.size))/\u=w.alloc (.cells #[.string ⟨#[108,105,110,101]⟩,Vi i,.iface 389 what] 98):=by
 go_enter func90,ntmps90;go_wp2;go_ret;exact⟨rfl,rfl⟩
theorem Tryz.infoSeries:(Tryz.prog.info? 199).map (fun i=>(i.zero,i.size,i.bytes))=some (some (.agg #[.string ByteArray.empty,S0,.string ByteArray.empty,S0]),4,80):=by kernel_rfl
theorem Zux{u x z:Value}(d:W.cell? ⟨a,0,none⟩=some u)(e:W.cell? ⟨a,1,none⟩=some v)(f:W.cell? ⟨a,2,none⟩=some x)(g:W.cell? ⟨a,3,none⟩=some z):∀j y,[u,v,x,z][j]?=some y->W.cell? ((⟨a,0,none⟩:Addr).add j)=some y:=by
 intro j y c;rw[ZfO]
 match j,c with
 | 0,c=>simp at c;subst c;exact d
 | 1,c=>simp at c;subst c;exact e
 | 2,c=>simp at c;subst c;exact f
 | 3,c=>simp at c;subst c;exact g
def ZJD:List (Value×Value×Value)->List Value
 | []=>[]
 | r::rs=>r.1::r.2.1::r.2.2::ZJD rs
theorem ZMr(a b:List (Value×Value×Value)):ZJD (a++b)=ZJD a++ZJD b:=by
 induction a with
 | nil=>rfl
 | cons r a ih=>simp[ZJD,ih]
theorem ZKY(rs:List (Value×Value×Value))(j:Nat):(ZJD rs)[j*3]?=rs[j]?.map (·.1)/\(ZJD rs)[j*3+1]?=rs[j]?.map (·.2.1)/\(ZJD rs)[j*3+2]?=rs[j]?.map (·.2.2):=by
 induction rs generalizing j with
 | nil=>simp[ZJD]
 | cons r rs ih=>
  cases j with
  | zero=>simp[ZJD]
  | succ j=>
   obtain⟨a,c,d⟩:=ih j;refine⟨?_,?_,?_⟩
   ·rw[show(j+1)*3=j*3+1+1+1 by omega];simpa [ZJD] using a
   ·rw[show(j+1)*3+1=j*3+1+1+1+1 by omega];simpa [ZJD] using c
   ·rw[show(j+1)*3+2=j*3+2+1+1+1 by omega];simpa [ZJD] using d
def ZbP:List (Value×Value×Value×Value)->List Value
 | []=>[]
 | r::rs=>r.1::r.2.1::r.2.2.1::r.2.2.2::ZbP rs
theorem Zv8(a b:List (Value×Value×Value×Value)):ZbP (a++b)=ZbP a++ZbP b:=by
 induction a with
 | nil=>rfl
 | cons r a ih=>simp[ZbP,ih]
theorem Zv9(rs:List (Value×Value×Value×Value))(j:Nat):(ZbP rs)[j*4]?=rs[j]?.map (·.1)/\(ZbP rs)[j*4+1]?=rs[j]?.map (·.2.1)/\(ZbP rs)[j*4+2]?=rs[j]?.map (·.2.2.1)/\(ZbP rs)[j*4+3]?=rs[j]?.map (·.2.2.2):=by
 induction rs generalizing j with
 | nil=>simp[ZbP]
 | cons r rs ih=>
  cases j with
  | zero=>simp[ZbP]
  | succ j=>
   obtain⟨a,c,d,e⟩:=ih j;refine⟨?_,?_,?_,?_⟩
   ·rw[show(j+1)*4=j*4+1+1+1+1 by omega];simpa [ZbP] using a
   ·rw[show(j+1)*4+1=j*4+1+1+1+1+1 by omega];simpa [ZbP] using c
   ·rw[show(j+1)*4+2=j*4+2+1+1+1+1 by omega];simpa [ZbP] using d
   ·rw[show(j+1)*4+3=j*4+3+1+1+1+1 by omega];simpa [ZbP] using e
def ZeP(rs:List (Value×Value×Value×Value))(es:List Entry):Prop:=rs.length=es.length/\∀j (h:j<es.length),∃nm a n c tx sa sc,rs[j]?=some (.string nm,.slice a n c,.string tx,.slice sa (es[j]).count sc)
theorem ZeP.snoc{rs:List (Value×Value×Value×Value)}(h:ZeP rs es)(x:Entry)(nm:BA)(a:Option Addr)(n c:Nat)(tx:BA)(sa:Option Addr)(sc:Nat) :
  ZeP (rs++[(.string nm,.slice a n c,.string tx,.slice sa x.count sc)]) (es++[x]):=by
 refine⟨by simp[h.1],fun j g=>?_⟩;by_cases d:j<es.length
 ·obtain⟨nm',a',n',c',tx',sa',sc',e⟩:=h.2 j d;exact⟨nm',a',n',c',tx',sa',sc',by rw[Ybr (by rw[h.1];exact d),e,List.getElem_append_left d]⟩
 ·have f:j=es.length:=by simp at g;omega
  subst f;refine⟨nm,a,n,c,tx,sa,sc,?_⟩;rw[Yb3 (by rw[h.1];exact Yac _),h.1];simp
theorem Zc6.grown(h:Zc6 w l nm lv tx sv sn){e:TypeId}{s:Nat}(a:w.grownBy w' v.ownBlock)(c:w.ownsRow b e s v n xs)(d:320≠e)(f:313≠e):Zc6 w' l nm lv tx sv sn:=by
 obtain⟨i,qs,e1,e2,e3,e4,e5⟩:=h;exact⟨i,qs,e1,e2,⟨e3.1.kept a (ZmC e3.1 c d),e3.2⟩,e4,e5.kept a (ZmC e5 c f)⟩
def AllV(w:World)(rs:List (Value×Value×Value×Value))(es:List Entry)(ps:List (LB)):Prop:=∀j (h:j<es.length),∃(nm:BA) (a:Option Addr) (n c:Nat) (tx:BA) (sa:Option Addr) (sc:Nat),rs[j]?=some (.string nm,.slice a n c,.string tx,.slice sa (es[j]).count sc)/\Zc6 w (ps.getD (es[j]).at_ []) nm (.slice a n c) tx (.slice sa (es[j]).count sc) (es[j]).count/\line (ps.getD (es[j]).at_ [])=some ((es[j]).name,(es[j]).inside,(es[j]).count)
theorem AllV.below     (h : AllV w rs es ps) (d : BW w w') : AllV w' rs es ps := fun j e => by
  obtain⟨nm,a,n,c,tx,sa,sc,e1,e2,e3⟩:=h j e;exact⟨nm,a,n,c,tx,sa,sc,e1,e2.below d,e3⟩
theorem AllV.grown     (h : AllV w rs es ps)  {e : TypeId} {s : Nat}    (d : w.grownBy w' v.ownBlock) (f : w.ownsRow b e s v n xs) (g : 320 ≠ e) (i : 313 ≠ e) : AllV w' rs es ps := fun j k => by
  obtain⟨nm,a,n,c,tx,sa,sc,e1,e2,e3⟩:=h j k;exact⟨nm,a,n,c,tx,sa,sc,e1,e2.grown d f g i,e3⟩
theorem AllV.snoc{rs:List (Value×Value×Value×Value)}(e:rs.length=es.length)(h:AllV w rs es ps)(z:Entry)(nm:BA)(a:Option Addr)(n c:Nat)(tx:BA)(sa:Option Addr)(sc:Nat)
  (g:Zc6 w (ps.getD z.at_ []) nm (.slice a n c) tx (.slice sa z.count sc) z.count) (i:line (ps.getD z.at_ [])=some (z.name,z.inside,z.count)):AllV w (rs++[(.string nm,.slice a n c,.string tx,.slice sa z.count sc)]) (es++[z]) ps:=fun j k=>by
 by_cases d:j<es.length
 ·obtain⟨nm',a',n',c',tx',sa',sc',e1,e2⟩:=h j d;refine⟨nm',a',n',c',tx',sa',sc',?_⟩;rw[Ybr (by rw[e];exact d),List.getElem_append_left d];exact⟨e1,e2⟩
 ·have f:j=es.length:=by simp at k;omega
  subst f;refine⟨nm,a,n,c,tx,sa,sc,?_⟩;rw[Yb3 (by rw[e];exact Yac _),e];simp only[Yfw,Ycy,List.getElem_append_right (Yac _),List.getElem_cons_zero];exact⟨trivial,g,i⟩
theorem ZBh(g:Nat)(ps:List (LB))(n:Nat)(A:Nat->Addr)(m:Int)(T:Hid (n=ps.length))(a4:n<=6001)(U:Hid (∀i,i<ps.length->(ps.getD i []).length<=6000))(D:ZfN w g ps)(hv:Vars w A m) :
  CP 43 #[.slice (some ⟨g, 0, none⟩) n n] w fun e E => BW w E /\
    ((∃(i:Nat) (fa:Nat),e=.returned (.tuple #[S0,.iface 94 (Vp fa)])/\E.heap[fa]?=some (.cells #[.string ⟨#[108,105,110,101]⟩,Vi i,.iface 389 (.pointer (some (A 4)))] 98 (0,0))/\Hid (Zbh 0 [] ps=.inl i))∨
     (∃(v:Value) (es:List Entry) (rs:List (Value×Value×Value×Value)),e=.returned (.tuple #[v,.nilIface])/\E.ownsRow 0 199 4 v es.length (ZbP rs)/\Hid (ZeP rs es/\Zbh 0 [] ps=.inr es)/\Hid (AllV E rs es ps))):=by
 obtain⟨i0,hi,V,W,X⟩:=info_parts Tryz.infoSeries;have Y:g<w.heap.size:=D.1;go_enter func43,ntmps43;go_wp2
 go_loopw [4, 11] (fun v i wr => ∃ (k : Nat) (es : List Entry) (rs : List (Value × Value × Value × Value)), k <= n /\ i = Vi k /\ es.length <= k /\ wr.ownsRow w.heap.size 199 4 v es.length (ZbP rs) /\ Hid (ZeP rs es /\ Zbh 0 [] ps = Zbh k es (ps.drop k)) /\ Hid (AllV wr rs es ps) /\ BW w wr)
   (fun _ i _=>n - (intOf i).toNat)
 case atStart=>exact⟨0,[],[],Yag _,rfl,Yag _,Ybc _ _ _ _,⟨⟨rfl,fun j h=>by simp at h⟩,rfl⟩,hid (fun j h=>by simp at h),Yaf _ _⟩
 case round=>
  obtain⟨k,es,rs,hk,rfl,a5,f,p,F,d⟩:=hrel;have Z:w.heap.size<=wr.heap.size:=d.size;have r:=hv.below d;by_cases K:k<n
  ·have s:k<ps.length:=by rw[<-T.out];exact K
   obtain⟨sk,a6,G⟩:=(D.below d Y).2 k s;have P:sk.size<=6000:=by rw[ZU G];exact U.out k s
   have C:Hid (bl sk=ps.getD k []):=G;clear G;cases he:sk.toList.isEmpty
   ·have L:Hid (ps.getD k []≠[]):=by rw[<-C.out];exact Zij he
    have M:=r.max;have a0:=r.sent 4 Dc
    go_wp2_with fail
    refine(ZBo sk m P M).mono ?_;rintro e z ⟨nm,la,ln,lc,tx,sa,sn,sc,ok,rfl,x,t⟩;have a2:z.cell? ⟨4,0,none⟩=some (.iface 389 (.pointer (some (A 4)))):=(r.below t).sent _ Dc;have a3:∀o,(z.alloc o).cell? ⟨4,0,none⟩=some (.iface 389 (.pointer (some (A 4)))):=fun o=>((r.below t).alloc o).sent _ Dc;have N:BW w z:=d.trans (t.mono Z);have a7:w.heap.size<=z.heap.size:=N.size;have c:=Zn f t;clear a0 M r;cases ok
    ·have y:Hid (Zbh 0 [] ps=.inl k):=hid (by
      rw[p.2];refine Zyu s L.out ?_;rw[<-C.out];rcases x.out with ⟨h,_⟩|⟨_,h⟩
      ·cases h
      ·exact h)
     go_wp2_with (go_at_call 90;refine(ZnV).mono ?_;rintro e E ⟨rfl,rfl⟩)
     go_ret2;refine⟨belB,Or.inl ⟨k,z.heap.size+1,rfl,?_,y⟩⟩;rw[show z.heap.size+1=(z.alloc (.cells #[.string nm,.slice la ln lc,.string tx,.slice sa sn sc] 199)).heap.size by simp];exact Ye3
    ·have O:Hid (Zc6 z (bl sk) nm (.slice la ln lc) tx (.slice sa sn sc) sn):=hid (by
      rcases x.out with ⟨_,h⟩|⟨h,_⟩
      ·exact h
      ·cases h)
     obtain⟨na,a,H⟩:∃name inside,line (bl sk)=some (name,inside,sn):=by
      obtain⟨a,qs,h,_⟩:=O.out;exact⟨_,a,h⟩
     have Q:Hid (AllV z (rs++[(.string nm,.slice la ln lc,.string tx,.slice sa sn sc)]) (es++[⟨k,na,a,sn⟩]) ps):=hid (AllV.snoc p.1.1 (F.below t) ⟨k,na,a,sn⟩ nm la ln lc tx sa sc (by show Zc6 z (ps.getD k []) nm (.slice la ln lc) tx (.slice sa sn sc) sn;rw[<-C.out];exact O.out) (by show line (ps.getD k [])=some (na,a,sn);rw[<-C.out];exact H))
     have y:Hid (ZeP (rs++[(.string nm,.slice la ln lc,.string tx,.slice sa sn sc)]) (es++[⟨k,na,a,sn⟩])/\Zbh 0 [] ps=Zbh (k+1) (es++[⟨k,na,a,sn⟩]) (ps.drop (k+1))):=
      ⟨p.1.snoc ⟨k,na,a,sn⟩ nm la ln lc tx sa sc,by rw[p.2];exact Zyv s L.out (by rw[<-C.out];exact H)⟩
     clear H x
     go_wp2_with (at_builtin;refine wpList_append_own _ rfl (.tmp 28) (.tmp 30) 60 rfl w.heap.size 199 i0 (.agg #[.string ByteArray.empty,S0,.string ByteArray.empty,S0]) 4 80 underlying60 hi V W X rfl Dc _ _ _ rfl ((c.alloc _).alloc _) ⟨z.heap.size+1,0,none⟩ 1 1 [.string nm,.slice la ln lc,.string tx,.slice sa sn sc] rfl rfl ?c1 ?c2 ?c3 ?c4 ?c5 ?_)
     case c1=>exact Zux (by simp) (by simp) (by simp) (by simp)
     case c2=>intro u hu;simp at hu;rcases hu with rfl|rfl|rfl|rfl <;> rfl
     case c3=>unfold maxLen;omega
     case c4=>omega
     case c5=>simp;omega
     intro v' R B l _;have a1:BW w R:=((N.alloc Om _).alloc (by simp;omega) _).grown l (by simp;omega) (fun q hq=>(c.lt q hq).1)
     have J:R.ownsRow w.heap.size 199 4 v' (es++[(⟨k,na,a,sn⟩:Entry)]).length (ZbP (rs++[(.string nm,.slice la ln lc,.string tx,.slice sa sn sc)])):=by
      rw[Zv8,Yab];exact B
     have I:∀o o':Obj,BW z ((z.alloc o).alloc o'):=fun o o'=>Zbal.alloc (by simp) _;have S:Hid (AllV R (rs++[(.string nm,.slice la ln lc,.string tx,.slice sa sn sc)]) (es++[⟨k,na,a,sn⟩]) ps):=hid ((Q.below (I _ _)).grown l ((c.alloc _).alloc _) Dc Dc);clear c f l B I;go_wp2
     go_roundw
     case rel=>exact⟨k+1,_,_,by omega,by go_num,by simp;omega,J,y,S,a1⟩
     case measure=>simp[intOf];omega
   ·have y:Hid (ZeP rs es/\Zbh 0 [] ps=Zbh (k+1) es (ps.drop (k+1))):=
     ⟨p.1,by rw[p.2];exact Zyw s (by rw[<-C.out];exact ZgW he)⟩
    go_wp2
    go_roundw
    case rel=>exact⟨k+1,es,rs,by omega,by go_num,by omega,f,y,F,d⟩
    case measure=>simp[intOf];omega
  ·have y:Hid (ZeP rs es/\Zbh 0 [] ps=.inr es):=⟨p.1,by rw[p.2];exact Zyx (by rw[<-T.out];exact K)⟩
   go_wp2;go_ret2;exact⟨d,Or.inr ⟨_,es,rs,rfl,f.mono (Yag _),y,F⟩⟩
def ZcS(es:List Entry)(k:Nat):Nat:=((es.take k).map (·.count)).sum
theorem ZsB(es:List Entry)(k:Nat)(h:k<es.length):ZcS es (k+1)=ZcS es k+(es[k]).count:=by
 unfold ZcS;rw[List.take_succ_eq_append_getElem h,Yaq,Ygh];rfl
theorem ZsA(es:List Entry)(h:∀e∈es,e.count<=6001)(k:Nat):ZcS es k<=6001*k:=by
 induction k with
 | zero=>simp[ZcS]
 | succ k ih=>
  by_cases a:k<es.length
  ·rw[ZsB es k a];have:=h _ (List.getElem_mem a);omega
  ·have:ZcS es (k+1)=ZcS es k:=by unfold ZcS;rw[Ya5 Om,Ya5 Om]
   omega
theorem Zvm(es:List Entry)(rs:List (Value×Value×Value×Value))(d:w.ownsRow 0 199 4 v es.length (ZbP rs))(q:Hid (ZeP rs es))(m:Hid (∀e∈es,e.count<=6001))(z:es.length<=6001) :
  CP 45 #[v] w fun e u=>e=.returned (Vi (ZcS es es.length))/\BW w u:=by
 obtain⟨av,cp,rfl⟩:=Zl d;go_enter func45,ntmps45;go_wp2
 go_loopw [3,8] (fun c i wr=>∃k:Nat,k<=es.length/\i=Vi k/\c=Vi (ZcS es k)/\BW w wr) (fun _ i _=>es.length - (intOf i).toNat)
 case atStart=>exact⟨0,Yag _,rfl,by simp[ZcS],Yaf _ _⟩
 case round=>
  obtain⟨k,A,rfl,rfl,f⟩:=hrel;have t:w.heap.size<=wr.heap.size:=f.size;have x:=ZsA es m.out k;by_cases l:k<es.length
  ·have r:Hid (ZcS es (k+1)=ZcS es k+(es[k]).count):=ZsB es k l;have y:=m.out _ (List.getElem_mem l);obtain⟨nm,a,n,c,tx,sa,sc,o⟩:=q.2 k l;obtain⟨f1,f2,f3,f4⟩:=Zv9 rs k;rw[o]at f1 f2 f3 f4
   have s:∃g,av=some ⟨g,0,none⟩:=by
    obtain⟨g,cp',h⟩:=ZF d Om;injection h with h1;exact⟨g,h1⟩
   obtain⟨g,rfl⟩:=s;have j:=Z1 d;have c1:wr.cell? ⟨g,k*4,none⟩=some (.string nm):=(f.cell (p:=⟨g,k*4,none⟩) j).trans (Zi d _ _ f1);have c2:wr.cell? ⟨g,k*4+1,none⟩=some (.slice a n c):=(f.cell (p:=⟨g,k*4+1,none⟩) j).trans (Zi d _ _ f2);have c3:wr.cell? ⟨g,k*4+2,none⟩=some (.string tx):=(f.cell (p:=⟨g,k*4+2,none⟩) j).trans (Zi d _ _ f3);have c4:wr.cell? ⟨g,k*4+3,none⟩=some (.slice sa (es[k]).count sc):=(f.cell (p:=⟨g,k*4+3,none⟩) j).trans (Zi d _ _ f4);generalize(es[k]).count=cnt at *
   clear o f1 f2 f3 f4;go_wp2
   go_roundw
   case rel=>exact⟨k+1,by omega,by go_num,by rw[r.out];go_num,belB⟩
   case measure=>simp[intOf];omega
  ·obtain rfl:k=es.length:=by omega
   go_wp2;go_ret;exact⟨rfl,f⟩
theorem Tryz.infoRLabel:(Tryz.prog.info? 216).map (fun i=>(i.zero,i.size,i.bytes))=some (some (.agg #[.string ByteArray.empty,.string ByteArray.empty]),2,32):=by kernel_rfl
def ZJt:List (BA×BA)->List Value
 | []=>[]
 | r::rs=>.string r.1::.string r.2::ZJt rs
theorem ZKX(a b:List (BA×BA)):ZJt (a++b)=ZJt a++ZJt b:=by
 induction a with
 | nil=>rfl
 | cons r a ih=>simp[ZJt,ih]
theorem ZKc (rs : List (BA × BA)) (j : Nat) : (ZJt rs)[j * 2]? = rs[j]?.map (fun r => .string r.1) /\ (ZJt rs)[j * 2 + 1]? = rs[j]?.map (fun r => .string r.2) := by
  induction rs generalizing j with
  | nil=>simp[ZJt]
  | cons r rs ih=>
    cases j with
    | zero=>simp[ZJt]
    | succ j=>
      obtain⟨a,c⟩:=ih j;refine⟨?_,?_⟩
      · rw[show(j+1)*2=j*2+1+1 by omega];simpa [ZJt] using a
      · rw[show(j+1)*2+1=j*2+1+1+1 by omega];simpa [ZJt] using c
def bl2(r:BA×BA):LB×LB:=(bl r.1,bl r.2)
theorem ZKJ{b:Bool}(a:s.size<=6000)(h:Zx (bl s)=b) :
  CP 97 #[.string s] w fun e u=>e=.returned (.bool b)/\u=w:=by
 have:=ZNi s w a;rwa [h]at this
theorem ZNm(s:BA)(w:World)(hs:s.size<=6000)(a3:s.toList.isEmpty=false) :
  CP 98 #[.string s] w fun e I => ∃ (a : Option Addr) (n cap : Nat) (ok : Bool), e = .returned (.tuple #[.slice a n cap, .bool ok]) /\
    ((ok=true/\∃qs,I.ownsRow w.heap.size 216 2 (.slice a n cap) qs.length (ZJt qs)/\Hid (ZbS [] [] (split 44 (bl s))=some (qs.map bl2)))∨(ok=false/\Hid (ZbS [] [] (split 44 (bl s))=none)))/\BW w I:=by
 obtain⟨i0,hi,X,Y,Z⟩:=info_parts Tryz.infoRLabel;go_enter func98,ntmps98
 go_wp2_with fail
 refine(ZKh s 44 rfl hs).mono ?_;rintro e y ⟨g,n,cp,bs,rfl,hn,a4,Q,J,D,j⟩;have HN:Hid (n=bs.length):=hn
 have a5:n<=6001:=by
  have:=Zhd 44 (bl s);rw[<-D.out,Yak,Zd]at this;omega
 clear hn;go_wp2
 go_loopw [4, 6, 7] (fun v last i wr => ∃ (k : Nat) (ls : BA) (qs : List (BA × BA)), k <= n /\ i = Vi k /\ last = .string ls /\ qs.length = k /\ wr.ownsRow y.heap.size 216 2 v qs.length (ZJt qs) /\ Hid (ZbS [] [] (split 44 (bl s)) = ZbS (bl ls) (qs.map bl2) ((split 44 (bl s)).drop k)) /\ BW y wr)
   (fun _ _ i _=>n - (intOf i).toNat)
 case atStart=>exact⟨0,⟨#[]⟩,[],Yag _,rfl,rfl,rfl,Ybc _ _ _ _,rfl,Yaf _ _⟩
 case round=>
  obtain⟨k,ls,qs,hk,rfl,rfl,R,d,K,l⟩:=hrel;have HQ:Hid (qs.length=k):=R;have a6:qs.length<=6001:=by omega
  clear R;have E:y.heap.size<=wr.heap.size:=l.size;by_cases S:k<n
  ·have L:k<bs.length:=by rw[<-HN.out];exact S
   have F:k<(split 44 (bl s)).length:=by rw[<-D.out,Yak];exact L
   have T:wr.cell? ⟨g,k,none⟩=some (.string bs[k]):=(l.cell (p:=⟨g,k,none⟩) Q).trans (J.out k L);have M:Hid (bl bs[k]=(split 44 (bl s)).getD k []):=ZJ6 D.out k L;generalize bs[k]=sk at T M;have m:sk.size<=6000:=by rw[ZU M.out];have:=Zkd 44 (bl s) k F;rw[Zd]at this;omega
   cases r:LS.seek 61 (bl sk)with
   | none=>
    have t:Hid (ZbS [] [] (split 44 (bl s))=none):=hid (by rw[K.out];exact Zqq F M.out (ZxF (ZKl r)));have O:Hid (LS.seek 61 (bl sk)=none):=r;clear r
    go_wp2_with fail
    refine(ZJ0 (c:=61) rfl m O.out).mono ?_;rintro e z ⟨rfl,rfl⟩;go_wp2;go_ret2;exact⟨none,0,0,false,rfl,Or.inr ⟨rfl,t⟩,j.trans (l.mono j.size)⟩
   | some p=>
    have hp:p<sk.size:=by rw[<-Zd];exact ZBY r
    have f:=ZxE (last:=bl ls) (ZKb r);have O:Hid (LS.seek 61 (bl sk)=some p):=r;clear r;have e1:bl (sk.extract 0 p)=(bl sk).take p:=by rw[Zfh];simp
    have e2:bl (sk.extract (p+1) sk.size)=(bl sk).drop (p+1):=by rw[Zfh,Ya5 (by rw[Zd];exact Yac _)]
    rw[<-e1,<-e2]at f;have U:(sk.extract 0 p).size<=6000:=by rw[<-Zd,e1,Ya7,Zd];omega
    have V:(sk.extract (p+1) sk.size).size<=6000:=by rw[<-Zd,e2,Ybv,Zd];omega
    clear e1 e2;have a7:p<=sk.size:=Ygo hp;have a8:p+1<=sk.size:=hp;have a9:(p:Int)+1<=(sk.size:Int):=by omega
    have W : ∀ o, (wr.alloc o).cell? ⟨g, k, none⟩ = some (.string sk) := fun o => by
      rw[Ybm _ _ _ (by exact Yaw Q E)];exact T
    have a2:∀o,(wr.alloc o).drew.cell? ⟨g,k,none⟩=some (.string sk):=W;obtain⟨b1,x⟩:∃b,Zx (bl (sk.extract 0 p))=b:=⟨_,rfl⟩
    obtain⟨b2,A⟩:∃b,Z3 (bl (sk.extract (p+1) sk.size))=b:=⟨_,rfl⟩
    obtain⟨b3,B⟩:∃b,(bl (sk.extract (p+1) sk.size)).isEmpty=b:=⟨_,rfl⟩
    obtain⟨b4,C⟩:∃b,leS (bl (sk.extract 0 p)) (bl ls)=b:=⟨_,rfl⟩
    rw[x,A,B,C]at f;have f1:Hid (Zx (bl (sk.extract 0 p))=b1):=x;have f2:Hid (Z3 (bl (sk.extract (p+1) sk.size))=b2):=A;have f3:(sk.extract (p+1) sk.size).toList.isEmpty=b3:=by rw[Zbt];exact B
    have f4:(Op.bytesLess (sk.extract 0 p).toList ls.toList || (sk.extract 0 p).toList == ls.toList)=b4:=by rw[Zqz];exact C
    clear x A B C
    have h:(b1=true/\b2=true/\b3=false/\b4=false)∨(b1=false∨(b1=true/\b2=false)∨(b1=true/\b2=true/\b3=true)∨(b1=true/\b2=true/\b3=false/\b4=true)):=by
     cases b1 <;> cases b2 <;> cases b3 <;> cases b4 <;> simp
    rcases h with ⟨rfl,rfl,rfl,rfl⟩|h
    ·have t:Hid (ZbS [] [] (split 44 (bl s))=ZbS (bl (sk.extract 0 p)) ((qs++[(sk.extract 0 p,sk.extract (p+1) sk.size)]).map bl2) ((split 44 (bl s)).drop (k+1))):=hid (by
      rw[K.out,Yaq];exact ZxH F M.out (by simpa using f))
     clear f K
     go_wp2_with fail
     refine(ZJN (c:=61) rfl m O.out).mono ?_;rintro e z ⟨rfl,N⟩;subst N;go_wp2
     go_region
     have a0:BW y (z.alloc (.cells #[.string (sk.extract 0 p),.string (sk.extract (p+1) sk.size)] 216)):=l.alloc E _
     go_wp2_with (first|(go_at_call 97;refine(ZKJ U f1.out).mono ?_;rintro e I ⟨rfl,rfl⟩)|(go_at_call 147;refine(ZKs V f2.out).mono ?_;rintro e I ⟨rfl,rfl⟩)|(at_builtin;refine wpList_append_own _ rfl (.tmp 69) (.tmp 71) 119 rfl y.heap.size 216 i0 (.agg #[.string ByteArray.empty,.string ByteArray.empty]) 2 32 underlying119 hi X Y Z rfl Dc _ _ _ rfl (World.ownsRow.drew ((d.alloc _).alloc _)) ⟨z.heap.size+1,0,none⟩ 1 1 [.string (sk.extract 0 p),.string (sk.extract (p+1) sk.size)] rfl rfl ?c1 ?c2 ?c3 ?c4 ?c5 ?_))
     case c1=>exact Zn9 (by first|simp|exact(Ydm _ _ _ _ (by simp)).trans rfl) (by first|simp|exact(Ydm _ _ _ _ (by simp)).trans rfl)
     case c2=>intro u hu;simp at hu;rcases hu with rfl|rfl <;> rfl
     case c3=>unfold maxLen;omega
     case c4=>omega
     case c5=>simp;omega
     intro v' w3 G H _;have a1:BW y w3:=(Below.drew ((l.alloc E _).alloc (by simp;omega) _)).grown H (by simp;omega) (fun q hq=>(d.lt q hq).1)
     have P:w3.ownsRow y.heap.size 216 2 v' (qs++[(sk.extract 0 p,sk.extract (p+1) sk.size)]).length (ZJt (qs++[(sk.extract 0 p,sk.extract (p+1) sk.size)])):=by
      rw[ZKX,Yab];exact G
     clear d H G a0;go_wp2
     go_roundw
     case rel=>exact⟨k+1,_,_,by omega,by go_num,rfl,by rw[Yab,HQ.out];rfl,P,t,a1⟩
     case measure=>simp[intOf];omega
    ·have t:Hid (ZbS [] [] (split 44 (bl s))=none):=hid (by
      rw[K.out];refine Zqq F M.out ?_;rw[f];rcases h with rfl|⟨rfl,rfl⟩|⟨rfl,rfl,rfl⟩|⟨rfl,rfl,rfl,rfl⟩ <;> simp)
     clear f
     go_wp2_with fail
     refine(ZJN (c:=61) rfl m O.out).mono ?_;rintro e z ⟨rfl,N⟩;subst N;go_wp2
     go_region
     rcases h with rfl|⟨rfl,rfl⟩|⟨rfl,rfl,rfl⟩|⟨rfl,rfl,rfl,rfl⟩
     all_goals
      go_wp2_with (first|(go_at_call 97;refine(ZKJ U f1.out).mono ?_;rintro e I ⟨rfl,rfl⟩)|(go_at_call 147;refine(ZKs V f2.out).mono ?_;rintro e I ⟨rfl,rfl⟩))
      go_ret2;exact⟨none,0,0,false,rfl,Or.inr ⟨rfl,t⟩,j.trans ((Below.drew (l.alloc E _)).mono j.size)⟩
  ·have t:Hid (ZbS [] [] (split 44 (bl s))=some (qs.map bl2)):=hid (by
    rw[K.out];exact ZxI (by rw[<-D.out,Yak,<-HN.out];exact S))
   obtain⟨av,cp,hv⟩:=Zl d;rw[hv]at d ⊢;go_wp2;go_ret2;exact⟨_,_,_,true,rfl,Or.inl ⟨rfl,qs,d.mono j.size,t⟩,j.trans (l.mono j.size)⟩
theorem Tryz.infoRSample:(Tryz.prog.info? 220).map (fun i=>(i.zero,i.size,i.bytes))=some (some (.agg #[Vi 0,Vi 0]),2,16):=by kernel_rfl
theorem ZKK{x a d:LB}{t v:Int}{less:Bool}{d':LB}(g:cut 58 x=some (a,d))(c:ZbI 45 d=(d',less))(i:numI 1000000 a=t)(e:numI 1000000000 d'=v) :
  (0<=t/\0<=v/\(less=true->v≠0)->Zdn x=some t.toNat)/\((t<0∨v<0∨(less=true/\v=0))->Zdn x=none):=by
 constructor
 ·rintro⟨j,k,l⟩;unfold Zdn;rw[g];simp only[ZKE i j]
  have:Zds d=true:=by
   unfold Zds;rw[c];simp only[ZKE e k];cases less
   ·rfl
   ·have:=l rfl;simp;omega
  rw[this];rfl
 ·intro h;unfold Zdn;rw[g];cases f:ZQ 1000000 a with
  | none=>simp only[f]
  | some tm=>
   rw[ZgX f]at i
   have:Zds d=false:=by
    unfold Zds;rw[c];rcases h with h|h|⟨h,m⟩
    ·omega
    ·simp only[ZM5 e h]
    ·simp only[ZKE e Om];subst h;subst m;rfl
   simp[f,this]
theorem ZNH(a:0<d.size)(h:d[0].toNat=45):ZbI 45 (bl d)=(bl (d.extract 1 d.size),true):=by
 have e:=ZdW d 0 a;rw[Ygr]at e;have e2:bl (d.extract 1 d.size)=(bl d).drop 1:=by rw[Zfh,Ya5 (by rw[Zd];exact Yac _)]
 have e3:d[0]=45:=Ydf.1 h;rw[e2,e,e3];rfl
theorem ZLj(h:d.size<1∨∃a:0<d.size,d[0].toNat≠45):ZbI 45 (bl d)=(bl d,false):=by
 rcases h with h|⟨a,h⟩
 ·have:bl d=[]:=Ygc.1 (by rw[Zd];omega);rw[this];rfl
 ·have e:=ZdW d 0 a;rw[Ygr]at e
  have e3:(d[0] == 45)=false:=by
   rw[beq_eq_false_iff_ne];intro c;rw[c]at h;exact h rfl
  rw[e];simp[ZbI,e3]
theorem ZNt(s:BA)(t0:LB)(w:World)(hs:s.size<=6000)(c6:s.toList.isEmpty=false)(a9:Hid (bl s=32::t0)) :
  CP 99 #[.string s] w fun e w' => ∃ (a : Option Addr) (n cap : Nat) (ok : Bool), e = .returned (.tuple #[.slice a n cap, .bool ok]) /\
    Hid ((ok=true/\Zcq (-1) 0 (split 32 t0)=some n)∨(ok=false/\Zcq (-1) 0 (split 32 t0)=none))/\Hid (ok=true->w'.ownsRow w.heap.size 220 2 (.slice a n cap) n (Zca ((split 32 t0).map smV)))/\BW w w':=by
 obtain⟨i0,hi,a2,a3,a4⟩:=info_parts Tryz.infoRSample;have HS:Hid (split 32 (bl s)=[]::split 32 t0):=hid (by rw[a9.out,Zhc]);go_enter func99,ntmps99
 go_wp2_with fail
 refine(ZKh s 32 rfl hs).mono ?_;rintro e y ⟨g,n,cp,bs,rfl,hn,c7,b3,N,a0,o⟩;have HN:Hid (n=bs.length):=hn
 have c8:n<=6001:=by
  have:=Zhd 32 (bl s);rw[<-a0.out,Yak,Zd]at this;omega
 have a1:Hid (n=(split 32 t0).length+1):=hid (by
  rw[hn,show bs.length=(split 32 (bl s)).length by rw[<-a0.out,Yak],HS.out];rfl)
 have b0:1<=n:=by rw[a1.out];omega
 clear hn;have b1:0<bs.length:=by rw[<-HN.out];exact b0
 have b4:y.cell? ⟨g,0,none⟩=some (.string bs[0]):=N.out 0 b1
 have b5:bs[0].toList.isEmpty=true:=by
  rw[Zbt,ZJ6 a0.out 0 b1,HS.out];rfl
 generalize bs[0]=s0 at b4 b5;go_wp2
 go_loopw [4, 6, 7] (fun v last i wr => ∃ (k : Nat) (L : Int), k + 1 <= n /\ i = Vi ((k : Int) + 1) /\ last = Vi L /\ -1 <= L /\ L <= 1000000 /\ wr.ownsRow y.heap.size 220 2 v k (Zca (((split 32 t0).map smV).take k)) /\ Hid (Zcq (-1) 0 (split 32 t0) = Zcq L k ((split 32 t0).drop k)) /\ BW y wr)
   (fun _ _ i _=>n - (intOf i).toNat)
 case atStart=>exact⟨0,-1,b0,rfl,rfl,by omega,by omega,Ybc _ _ _ _,rfl,Yaf _ _⟩
 case round=>
  obtain⟨k,L,hk,rfl,rfl,c9,d0,f,O,A⟩:=hrel;have a5:y.heap.size<=wr.heap.size:=A.size;by_cases b6:k+1<n
  ·have b2:k+1<bs.length:=by rw[<-HN.out];exact b6
   have r:k<(split 32 t0).length:=by have:=a1.out;omega
   have b7:wr.cell? ⟨g,k+1,none⟩=some (.string bs[k+1]):=(A.cell (p:=⟨g,k+1,none⟩) b3).trans (N.out (k+1) b2)
   have G:Hid (bl bs[k+1]=(split 32 t0).getD k []):=hid (by
    rw[ZJ6 a0.out (k+1) b2,HS.out];rfl)
   have Y:bs[k+1].size<=6000:=by
    have I:=Zkd 32 t0 k r;have Z:s.size=t0.length+1:=by rw[ZU a9.out];rfl
    rw[ZU G.out];omega
   generalize bs[k+1]=sk at b7 G Y;cases hc:LS.seek 58 (bl sk)with
   | none=>
    have B:Hid (Zcq (-1) 0 (split 32 t0)=none):=hid (by
     rw[O.out];refine ZrZ r G.out (Or.inl ?_);unfold Zdn;rw[ZKl hc])
    have HC:Hid (LS.seek 58 (bl sk)=none):=hc;clear hc
    go_wp2_with fail
    refine(ZJ0 (c:=58) rfl Y HC.out).mono ?_;rintro e z ⟨rfl,a6⟩;subst a6;go_wp2;go_ret2;exact⟨none,0,0,false,rfl,Or.inr ⟨rfl,B.out⟩,hid (fun h=>by cases h),o.trans (A.mono o.size)⟩
   | some p=>
    have hp:p<sk.size:=by rw[<-Zd];exact ZBY hc
    have hcut:=ZKb hc;have HC:Hid (LS.seek 58 (bl sk)=some p):=hc;clear hc;have e1:bl (sk.extract 0 p)=(bl sk).take p:=by rw[Zfh];simp
    have e2:bl (sk.extract (p+1) sk.size)=(bl sk).drop (p+1):=by rw[Zfh,Ya5 (by rw[Zd];exact Yac _)]
    rw[<-e1,<-e2]at hcut;have b8:(sk.extract 0 p).size<=6000:=by rw[<-Zd,e1,Ya7,Zd];omega
    have a7:(sk.extract (p+1) sk.size).size<=6000:=by rw[<-Zd,e2,Ybv,Zd];omega
    clear e1 e2;have d1:p<=sk.size:=Ygo hp;have d2:p+1<=sk.size:=hp;have d3:(p:Int)+1<=(sk.size:Int):=by omega
    go_wp2_with fail
    refine(ZJN (c:=58) rfl Y HC.out).mono ?_;rintro e z ⟨rfl,a6⟩;subst a6;have C:Hid _:=hcut;clear hcut
    go_wp2_with fail
    refine(ZJ2 1000000 rfl b8 Om).mono ?_;rintro e w3 ⟨rfl,b9⟩;subst b9;have hT:=Zmr 1000000 (bl (sk.extract 0 p));obtain⟨T,a8⟩:∃T,numI 1000000 (bl (sk.extract 0 p))=T:=⟨_,rfl⟩
    rw[a8]at hT ⊢;have HT:Hid _:=a8;clear a8;obtain⟨d,hd⟩:∃d,sk.extract (p+1) sk.size=d:=⟨_,rfl⟩
    rw[hd]at a7 C
    have hD:(∃I:0<d.size,((d[0].toNat:Int) == 45)=true)∨(∃I:0<d.size,((d[0].toNat:Int) == 45)=false)∨¬0<d.size:=by
     by_cases I:0<d.size
     ·cases Z:((d[0].toNat:Int) == 45)
      ·exact Or.inr (Or.inl ⟨I,Z⟩)
      ·exact Or.inl ⟨I,Z⟩
     ·exact Or.inr (Or.inr I)
    rcases hD with ⟨I,Z⟩|⟨I,Z⟩|I
    ·have E:Hid (ZbI 45 (bl d)=(bl (d.extract 1 d.size),true)):=ZNH I (by have:=beq_iff_eq.1 Z;omega);have P:(d.extract 1 d.size).size<=6000:=by rw[Yga];omega
     go_wp2_with fail
     refine(ZJ2 1000000000 rfl P Om).mono ?_;rintro e w4 ⟨rfl,Q⟩;subst Q;have hV:=Zmr 1000000000 (bl (d.extract 1 d.size));obtain⟨V,x⟩:∃V,numI 1000000000 (bl (d.extract 1 d.size))=V:=⟨_,rfl⟩
     rw[x]at hV ⊢;have R:Hid _:=x;clear x;have J:=ZKK C.out E.out HT.out R.out;have F:Hid _:=J.1;have S:Hid _:=J.2;have U:=hid (Zwi r G.out (t:=T) (v:=-V) ((ZKL C.out E.out HT.out R.out).trans rfl));clear J;by_cases j:0<=T/\0<=V/\L<T/\V≠0
     ·obtain⟨q1,q2,q3,q4⟩:=j
      have B:Hid (Zcq (-1) 0 (split 32 t0)=Zcq T (k+1) ((split 32 t0).drop (k+1))):=hid (by
       rw[O.out];have hh:=ZBG (n:=k) (last:=L) r G.out (F.out ⟨q1,q2,fun _=>q4⟩) Om;rw[hh,Yge q1])
      have q5:¬T<0:=by omega
      have q6:¬V<0:=by omega
      have q7:¬T<=L:=by omega
      have q8:(V == 0)=false:=by rw[beq_eq_false_iff_ne];exact q4
      clear q4
      go_wp2_with (at_builtin;refine wpList_append_own _ rfl (.tmp 84) (.tmp 88) 120 rfl y.heap.size 220 i0 (.agg #[Vi 0,Vi 0]) 2 16 underlying120 hi a2 a3 a4 rfl Dc _ _ _ rfl (f.alloc _) ⟨w4.heap.size,0,none⟩ 1 1 [Vi T,Vi (-V)] rfl rfl ?c1 ?c2 ?c3 ?c4 ?c5 ?_)
      case c1=>exact Zn9 (by simp) (by simp)
      case c2=>intro u W;simp at W;rcases W with rfl|rfl <;> rfl
      case c3=>unfold maxLen;omega
      case c4=>omega
      case c5=>simp;omega
      intro v' w5 l m _;rw[<-U.out]at l;have X:BW y w5:=(A.alloc a5 _).grown m (by simp;omega) (fun q hq=>(f.lt q hq).1);clear f m;go_wp2
      go_roundw
      case rel=>exact⟨k+1,T,by omega,by go_num,rfl,by omega,by omega,l,B,X⟩
      case measure=>simp[intOf];omega
     ·have B:Hid (Zcq (-1) 0 (split 32 t0)=none):=hid (by
       rw[O.out];refine ZrZ r G.out ?_;by_cases H:0<=T/\0<=V/\V≠0
       ·exact Or.inr ⟨T.toNat,F.out ⟨H.1,H.2.1,fun _=>H.2.2⟩,by rw[Yge H.1];omega⟩
       ·refine Or.inl (S.out ?_);by_cases K:T<0
        ·exact Or.inl K
        ·by_cases M:V<0
         ·exact Or.inr (Or.inl M)
         ·exact Or.inr (Or.inr ⟨rfl,by omega⟩))
      have D:T<0∨(0<=T/\V<0)∨(0<=T/\0<=V/\T<=L)∨(0<=T/\0<=V/\¬T<=L/\(V == 0)=true):=by
       by_cases K:T<0
       ·exact Or.inl K
       ·by_cases M:V<0
        ·exact Or.inr (Or.inl ⟨by omega,M⟩)
        ·by_cases ha:T<=L
         ·exact Or.inr (Or.inr (Or.inl ⟨by omega,by omega,ha⟩))
         ·exact Or.inr (Or.inr (Or.inr ⟨by omega,by omega,ha,by rw[beq_iff_eq];omega⟩))
      clear j;rcases D with q1|⟨q1,q2⟩|⟨q1,q2,q3⟩|⟨q1,q2,q3,q4⟩
      all_goals
       go_wp2;go_ret2;exact⟨none,0,0,false,rfl,Or.inr ⟨rfl,B.out⟩,hid (fun h=>by cases h),o.trans (A.mono o.size)⟩
    ·have E:Hid (ZbI 45 (bl d)=(bl d,false)):=ZLj (Or.inr ⟨I,by have:=beq_eq_false_iff_ne.1 Z;omega⟩);have P:d.size<=6000:=a7
     go_wp2_with fail
     refine(ZJ2 1000000000 rfl P Om).mono ?_;rintro e w4 ⟨rfl,Q⟩;subst Q;have hV:=Zmr 1000000000 (bl d);obtain⟨V,x⟩:∃V,numI 1000000000 (bl d)=V:=⟨_,rfl⟩
     rw[x]at hV ⊢;have R:Hid _:=x;clear x;have J:=ZKK C.out E.out HT.out R.out;have F:Hid _:=J.1;have S:Hid _:=J.2;have U:=hid (Zwi r G.out (t:=T) (v:=V) ((ZKL C.out E.out HT.out R.out).trans rfl));clear J;by_cases j:0<=T/\0<=V/\L<T
     ·obtain⟨q1,q2,q3⟩:=j
      have B:Hid (Zcq (-1) 0 (split 32 t0)=Zcq T (k+1) ((split 32 t0).drop (k+1))):=hid (by
       rw[O.out];have hh:=ZBG (n:=k) (last:=L) r G.out (F.out ⟨q1,q2,fun h=>by cases h⟩) Om;rw[hh,Yge q1])
      have q5:¬T<0:=by omega
      have q6:¬V<0:=by omega
      have q7:¬T<=L:=by omega
      go_wp2_with (at_builtin;refine wpList_append_own _ rfl (.tmp 84) (.tmp 88) 120 rfl y.heap.size 220 i0 (.agg #[Vi 0,Vi 0]) 2 16 underlying120 hi a2 a3 a4 rfl Dc _ _ _ rfl (f.alloc _) ⟨w4.heap.size,0,none⟩ 1 1 [Vi T,Vi V] rfl rfl ?c1 ?c2 ?c3 ?c4 ?c5 ?_)
      case c1=>exact Zn9 (by simp) (by simp)
      case c2=>intro u W;simp at W;rcases W with rfl|rfl <;> rfl
      case c3=>unfold maxLen;omega
      case c4=>omega
      case c5=>simp;omega
      intro v' w5 l m _;rw[<-U.out]at l;have X:BW y w5:=(A.alloc a5 _).grown m (by simp;omega) (fun q hq=>(f.lt q hq).1);clear f m;go_wp2
      go_roundw
      case rel=>exact⟨k+1,T,by omega,by go_num,rfl,by omega,by omega,l,B,X⟩
      case measure=>simp[intOf];omega
     ·have B:Hid (Zcq (-1) 0 (split 32 t0)=none):=hid (by
       rw[O.out];refine ZrZ r G.out ?_;by_cases H:0<=T/\0<=V
       ·exact Or.inr ⟨T.toNat,F.out ⟨H.1,H.2,fun h=>by cases h⟩,by rw[Yge H.1];omega⟩
       ·refine Or.inl (S.out ?_);by_cases K:T<0
        ·exact Or.inl K
        ·by_cases M:V<0
         ·exact Or.inr (Or.inl M)
         ·omega)
      have D:T<0∨(0<=T/\V<0)∨(0<=T/\0<=V/\T<=L):=by
       by_cases K:T<0
       ·exact Or.inl K
       ·by_cases M:V<0
        ·exact Or.inr (Or.inl ⟨by omega,M⟩)
        ·exact Or.inr (Or.inr ⟨by omega,by omega,by omega⟩)
      clear j;rcases D with q1|⟨q1,q2⟩|⟨q1,q2,q3⟩
      all_goals
       go_wp2;go_ret2;exact⟨none,0,0,false,rfl,Or.inr ⟨rfl,B.out⟩,hid (fun h=>by cases h),o.trans (A.mono o.size)⟩
    ·have E:Hid (ZbI 45 (bl d)=(bl d,false)):=ZLj (Or.inl Om);have P:d.size<=6000:=a7
     go_wp2_with fail
     refine(ZJ2 1000000000 rfl P Om).mono ?_;rintro e w4 ⟨rfl,Q⟩;subst Q;have hV:=Zmr 1000000000 (bl d);obtain⟨V,x⟩:∃V,numI 1000000000 (bl d)=V:=⟨_,rfl⟩
     rw[x]at hV ⊢;have R:Hid _:=x;clear x;have J:=ZKK C.out E.out HT.out R.out;have F:Hid _:=J.1;have S:Hid _:=J.2;have U:=hid (Zwi r G.out (t:=T) (v:=V) ((ZKL C.out E.out HT.out R.out).trans rfl));clear J;by_cases j:0<=T/\0<=V/\L<T
     ·obtain⟨q1,q2,q3⟩:=j
      have B:Hid (Zcq (-1) 0 (split 32 t0)=Zcq T (k+1) ((split 32 t0).drop (k+1))):=hid (by
       rw[O.out];have hh:=ZBG (n:=k) (last:=L) r G.out (F.out ⟨q1,q2,fun h=>by cases h⟩) Om;rw[hh,Yge q1])
      have q5:¬T<0:=by omega
      have q6:¬V<0:=by omega
      have q7:¬T<=L:=by omega
      go_wp2_with (at_builtin;refine wpList_append_own _ rfl (.tmp 84) (.tmp 88) 120 rfl y.heap.size 220 i0 (.agg #[Vi 0,Vi 0]) 2 16 underlying120 hi a2 a3 a4 rfl Dc _ _ _ rfl (f.alloc _) ⟨w4.heap.size,0,none⟩ 1 1 [Vi T,Vi V] rfl rfl ?c1 ?c2 ?c3 ?c4 ?c5 ?_)
      case c1=>exact Zn9 (by simp) (by simp)
      case c2=>intro u W;simp at W;rcases W with rfl|rfl <;> rfl
      case c3=>unfold maxLen;omega
      case c4=>omega
      case c5=>simp;omega
      intro v' w5 l m _;rw[<-U.out]at l;have X:BW y w5:=(A.alloc a5 _).grown m (by simp;omega) (fun q hq=>(f.lt q hq).1);clear f m;go_wp2
      go_roundw
      case rel=>exact⟨k+1,T,by omega,by go_num,rfl,by omega,by omega,l,B,X⟩
      case measure=>simp[intOf];omega
     ·have B:Hid (Zcq (-1) 0 (split 32 t0)=none):=hid (by
       rw[O.out];refine ZrZ r G.out ?_;by_cases H:0<=T/\0<=V
       ·exact Or.inr ⟨T.toNat,F.out ⟨H.1,H.2,fun h=>by cases h⟩,by rw[Yge H.1];omega⟩
       ·refine Or.inl (S.out ?_);by_cases K:T<0
        ·exact Or.inl K
        ·by_cases M:V<0
         ·exact Or.inr (Or.inl M)
         ·omega)
      have D:T<0∨(0<=T/\V<0)∨(0<=T/\0<=V/\T<=L):=by
       by_cases K:T<0
       ·exact Or.inl K
       ·by_cases M:V<0
        ·exact Or.inr (Or.inl ⟨by omega,M⟩)
        ·exact Or.inr (Or.inr ⟨by omega,by omega,by omega⟩)
      clear j;rcases D with q1|⟨q1,q2⟩|⟨q1,q2,q3⟩
      all_goals
       go_wp2;go_ret2;exact⟨none,0,0,false,rfl,Or.inr ⟨rfl,B.out⟩,hid (fun h=>by cases h),o.trans (A.mono o.size)⟩
  ·have B:Hid (Zcq (-1) 0 (split 32 t0)=some k):=hid (by
    rw[O.out];exact ZBH (by have:=a1.out;omega))
   obtain⟨av,cp,hv⟩:=Zl f;rw[hv]at f;rw[hv]
   have c0:Hid (wr.ownsRow w.heap.size 220 2 (.slice av k cp) k (Zca ((split 32 t0).map smV))):=hid (by
    rw[Ya5 (by rw[Yak];have:=a1.out;omega)]at f;exact f.mono o.size)
   clear f;go_wp2;go_ret2;exact⟨av,k,cp,true,rfl,Or.inl ⟨rfl,B.out⟩,hid (fun _=>c0.out),o.trans (A.mono o.size)⟩
