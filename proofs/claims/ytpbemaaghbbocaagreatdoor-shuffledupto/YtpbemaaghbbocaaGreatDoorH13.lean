/- Parts. -/
import Derived.Test.YtpbemaaghbbocaaGreatDoorH12
set_option linter.all false
set_option maxRecDepth 100000
set_option maxHeartbeats 16000000
namespace Go.Proofs.YtpbemaaghbbocaaGreatDoor
open Go.RowKit LS Go.Proofs.Tryz
variable {nm s tx:BA}{l last:LB}{ps seen:List (LB)}{rs:List (Value × Value × Value × Value)}{acc es:List Entry}{ss:List Srs}{xs:List Value}{a b i n sn:Nat}{lv sv v what x z:Value}{W w w':World}
structure Str where
 a:Option Addr
 n:Nat
 c:Nat
 tx:BA
 qs:List (BA×BA)
 sa:Option Addr
 sc:Nat
 jz:List (Int×Int)
def Str.enc(s:Str):List Value:=[.slice s.a s.n s.c,.string s.tx,.slice s.sa s.jz.length s.sc]
def Str.pr(s:Str):List Lab×List (Int×Int):=(s.qs.map blP,s.jz)
structure StrOk (w:World) (s:Str):Prop where
 lb:LbOk w s.a s.n s.c s.tx s.qs
 sam:SamV w s.sa s.jz
 ne:s.jz≠[]
 len:s.jz.length<=6001
 ok:∀x∈s.jz,smOk x
theorem StrOk.kb{t:TypeId}{s:Str}(h:StrOk w s)(a:Z5 t w w')(c:320≠t)(d:313≠t):StrOk w' s:=⟨h.lb.kb a c,h.sam.kb a d,h.ne,h.len,h.ok⟩
theorem StrOk.jy{s:Str}(h:StrOk w s)(a:Zo w w'):StrOk w' s:=⟨h.lb.jy a,h.sam.jy a,h.ne,h.len,h.ok⟩
def encR(l:List Str):List Value:=(l.map Str.enc).flatten
theorem ZvN(l m:List Str):encR (l++m)=encR l++encR m:=by unfold encR;rw[Yaq,List.flatten_append]
theorem ZoV(l:List Str)(j:Nat)(d:j<l.length):(encR l)[j*3]?=some (.slice l[j].a l[j].n l[j].c)/\(encR l)[j*3+1]?=some (.string l[j].tx)/\(encR l)[j*3+2]?=some (.slice l[j].sa l[j].jz.length l[j].sc):=by
 induction l generalizing j with
 | nil=>simp at d
 | cons a l ih=>
  have e:encR (a::l)=.slice a.a a.n a.c::.string a.tx::.slice a.sa a.jz.length a.sc::encR l:=rfl;cases j with
  | zero=>rw[e];exact⟨rfl,rfl,rfl⟩
  | succ j=>
   have h:=ih j (by simpa using d);rw[e,show(j+1)*3=j*3+1+1+1 by omega];simpa using h
structure RngV (w:World) (v:Value) (rs:List Str):Prop where
 row:w.ownsRow 0 311 3 v rs.length (encR rs)
 ok:∀s∈rs,StrOk w s
theorem RngV.jy{rs:List Str}(h:RngV w v rs)(a:Zo w w'):RngV w' v rs:=⟨a.own h.row,fun s c=>(h.ok s c).jy a⟩
theorem RngV.below{rs:List Str}(h:RngV w v rs)(a:BW w w'):RngV w' v rs:=h.jy (Zo.below a)
def ZbH(st:List Ser)(a:Nd)(n t:Int):List (List Lab×List (Int×Int)):=(st.filter fun s=>Zc1 a s && !(Zb6 s.jz n t).isEmpty).map fun s=>(s.labs,Zb6 s.jz n t)
theorem ZA3{st:List Ser}{s:Ser}{a:Nd}{n t:Int}:ZbH (st++[s]) a n t=if Zc1 a s && !(Zb6 s.jz n t).isEmpty then ZbH st a n t++[(s.labs,Zb6 s.jz n t)] else ZbH st a n t:=by
 unfold ZbH;rw[Ygd,Yaq];split
 ·rename_i h;rw[Yda (by simpa using h)];rfl
 ·rename_i h;rw[Ydb (by simpa using h)];simp
theorem ZmZ(st:List Ser)(a:Nd)(n t:Int):(ZbH st a n t).length<=st.length:=by
 unfold ZbH;rw[Yak];exact Ydj _ _
theorem ZAI (st : List Ser) (a : Nd) (op : Option Nat) (n t : Int) : ZeZ st a op n t = (ZbH st a n t).map fun p => (p.1, oneV op p.2) := by
  unfold ZeZ ZbH;rw[Yb1];rfl
def encS(l:List Srs):List Value:=(l.map Srs.enc).flatten
theorem ZvO(l:List Srs)(j:Nat)(d:j<l.length):(encS l)[j*4]?=some (.string l[j].nm)/\(encS l)[j*4+1]?=some (.slice l[j].a l[j].n l[j].c)/\(encS l)[j*4+2]?=some (.string l[j].tx)/\(encS l)[j*4+3]?=some (.slice l[j].sa l[j].jz.length l[j].sc):=by
 induction l generalizing j with
 | nil=>simp at d
 | cons a l ih=>
  have e:encS (a::l)=.string a.nm::.slice a.a a.n a.c::.string a.tx::.slice a.sa a.jz.length a.sc::encS l:=rfl;cases j with
  | zero=>rw[e];exact⟨rfl,rfl,rfl,rfl⟩
  | succ j=>
   have h:=ih j (by simpa using d);rw[e,show(j+1)*4=j*4+1+1+1+1 by omega];simpa using h
structure StoP (w:World) (v:Value) (ss:List Srs):Prop where
 row:w.ownsRow 0 199 4 v ss.length (encS ss)
 ok:∀s∈ss,SrsOk w s
 len:ss.length<=30
theorem StoP.jy(h:StoP w v ss)(a:Zo w w'):StoP w' v ss:=⟨a.own h.row,fun s c=>(h.ok s c).jy a,h.len⟩
theorem StoP.below(h:StoP w v ss)(a:BW w w'):StoP w' v ss:=h.jy (Zo.below a)
theorem Tryz.infoStretch:(Tryz.prog.info? 311).map (fun i=>(i.zero,i.size,i.bytes))=some (some (.agg #[S0,.string ByteArray.empty,S0]),3,64):=by kernel_rfl
theorem ZmR(sv:Value)(ss:List Srs)(nm:BA)(la:Option Addr)(ln lc:Nat)(nd:Nd)(n t:Int)(w:World)(Q:StoP w sv ss)(a6:bl nm=nd.name)(hc:ZX w (.slice la ln lc) nd.jq)(b3:0<=n)(b4:n<=1000)(b5 : -1000000<=t)(b6:t<=1000000) :
  CP 134 #[sv,.agg #[.string nm,.slice la ln lc],Vi n,Vi t] w fun e w'=>∃v rs,e=.returned v/\Hid (RngV w' v rs/\rs.map Str.pr=ZbH (ss.map Srs.ser) nd n t)/\BW w w':=by
 obtain⟨i0,hi,b7,b8,b9⟩:=info_parts Tryz.infoStretch;obtain⟨sa,scp,rfl⟩:=Zl Q.row;have a7:Hid (StoP w (.slice sa ss.length scp) ss):=Q;have d0:ss.length<=30:=Q.len;have c0:Hid (bl nm=nd.name):=a6;have HC:Hid (ZX w (.slice la ln lc) nd.jq):=hc;clear Q a6 hc;go_enter func134,ntmps134;go_wp2
 go_loopw [9, 15] (fun v i wr => ∃ (k : Nat) (rs : List Str), k <= ss.length /\ i = Vi k /\ rs.length <= k /\ wr.ownsRow (w.heap.size + 1) 311 3 v rs.length (encR rs) /\ Hid ((∀ s ∈ rs, StrOk wr s) /\ rs.map Str.pr = ZbH ((ss.take k).map Srs.ser) nd n t) /\ Hid (BAt wr w.heap.size [.string nm, .slice la ln lc] 179) /\ Hid (BW w wr))
   (fun _ i _=>ss.length - (intOf i).toNat)
 case atStart=>exact⟨0,[],Yag _,rfl,Yag _,Ybc _ _ _ _,hid ⟨(by intro s J;cases J),by simp[ZbH]⟩,hid (Go.Deep.blk_alloc_new w _),hid Zbal⟩
 case round=>
  obtain⟨k,rs,hk,rfl,d5,K,HR,F,HB⟩:=hrel;by_cases a0:k<ss.length
  ·have hg:∃g,sa=some ⟨g,0,none⟩:=by
    obtain⟨g,cp',h⟩:=ZF a7.row Om;injection h with h1;exact⟨g,h1⟩
   obtain⟨g,rfl⟩:=hg;have r:=hid (a7.below HB.out);obtain⟨f1,f2,f3,f4⟩:=ZvO ss k a0;have d1:=Zi r.row _ _ f1;have d2:=Zi r.row _ _ f2;have d3:=Zi r.row _ _ f3;have d4:=Zi r.row _ _ f4;have a8:Hid (SrsOk wr ss[k]):=hid (r.ok _ (List.getElem_mem a0))
   have G:Hid (ZbH ((ss.take (k+1)).map Srs.ser) nd n t=if Zc1 nd (ss[k]).ser && !(Zb6 (ss[k]).jz n t).isEmpty then ZbH ((ss.take k).map Srs.ser) nd n t++[((ss[k]).qs.map blP,Zb6 (ss[k]).jz n t)] else ZbH ((ss.take k).map Srs.ser) nd n t):=hid (by
    rw[List.take_succ_eq_append_getElem a0,Yaq];exact ZA3)
   generalize ss[k]=s at *
   clear f1 f2 f3 f4 r;have d6:(k:Int)<(ss.length:Int):=by omega
   have x0:=F.cell 0;have x1:=F.cell 1;simp only[Zget]at x0 x1;have d7:=F.lt
   go_wp2_with fail
   refine Zm fun W hW=>?_;have A:BW wr W:=by rw[hW];exact Zbal
   have R:Hid (BW w W):=HB.trans (A.mono HB.size);have a9:Hid (BAt W wr.heap.size [.string s.nm,.slice s.a s.n s.c,.string s.tx,.slice s.sa s.jz.length s.sc] 199):=hid (by rw[hW];exact Go.Deep.blk_alloc_new _ _);have a1:=hid (F.below A);have S:=Zn K A;have a2:Hid ((∀s∈rs,StrOk W s)/\rs.map Str.pr=ZbH ((ss.take k).map Srs.ser) nd n t):=hid ⟨fun s J=>(HR.1 s J).jy (Zo.below A),HR.2⟩;have L:=hid (a8.jy (Zo.below A));clear hW A K HR F x0 x1 d1 d2 d3 d4 a8 HB;refine(ZAR nm la ln lc nd s c0.out (HC.below R.out) L.lb).mono ?_;rintro e y ⟨rfl,m⟩;have T:Hid (BW w y):=R.trans (m.mono R.size);have j:=hid (a9.below m);have M:=hid (a1.below m);have B:=Zn S m;have H:Hid ((∀s∈rs,StrOk y s)/\rs.map Str.pr=ZbH ((ss.take k).map Srs.ser) nd n t):=hid ⟨fun s J=>(a2.1 s J).jy (Zo.below m),a2.2⟩;have l:=hid (L.jy (Zo.below m));clear m R a9 a1 S a2 L;cases hp:Zc1 nd s.ser with
   | false=>
    have I:Hid ((∀s∈rs,StrOk y s)/\rs.map Str.pr=ZbH ((ss.take (k+1)).map Srs.ser) nd n t):=hid ⟨H.1,by rw[G.out,hp];exact H.2⟩;clear hp;go_wp2
    go_roundw
    case rel=>exact⟨k+1,rs,by omega,by go_num,by omega,B,I,M,T⟩
    case measure=>simp[intOf];omega
   | true=>
    have HP:Hid (Zc1 nd s.ser=true):=hp;clear hp;have x0:=j.cell 0;have x1:=j.cell 1;have x2:=j.cell 2;have x3:=j.cell 3;simp only[Zget]at x0 x1 x2 x3
    go_wp2_with fail
    refine(ZA1 s.sc s.sa s.jz n t y l.tm l.len l.cap b3 b4 b5 b6 l.sam).mono ?_;rintro e N ⟨av',cp',rfl,a3,p⟩;have a4:Hid (BW w N):=T.trans (p.mono T.size);have C:=hid (j.below p);have O:=hid (M.below p);have d:=Zn B p;have U:Hid ((∀s∈rs,StrOk N s)/\rs.map Str.pr=ZbH ((ss.take k).map Srs.ser) nd n t):=hid ⟨fun s J=>(H.1 s J).jy (Zo.below p),H.2⟩;have P:=hid (l.jy (Zo.below p));clear p T j M B H l x0 x1 x2 x3;obtain⟨f,V⟩:∃f,Zb6 s.jz n t=f:=⟨_,rfl⟩
    rw[V]at a3 G ⊢;by_cases Y:f=[]
    ·have I:Hid ((∀s∈rs,StrOk N s)/\rs.map Str.pr=ZbH ((ss.take (k+1)).map Srs.ser) nd n t):=hid ⟨U.1,by rw[G.out,Y];simpa using U.2⟩;subst Y;go_wp2
     go_roundw
     case rel=>exact⟨k+1,rs,by omega,by go_num,by omega,d,I,O,a4⟩
     case measure=>simp[intOf];omega
    ·have c9:0<f.length:=Ycj.2 Y
     have c6:Hid (ZbH ((ss.take (k+1)).map Srs.ser) nd n t=ZbH ((ss.take k).map Srs.ser) nd n t++[(s.qs.map blP,f)]):=hid (by
      rw[G.out,HP.out,if_pos];simpa using Y)
     have c7:Hid (StrOk N ⟨s.a,s.n,s.c,s.tx,s.qs,av',cp',f⟩):=hid ⟨P.lb,a3.out,Y,by
      have:f.length<=s.jz.length:=by rw[<-V];exact Ydj _ _
      have:=P.len;show f.length<=6001;omega,fun x hx=>P.ok x (by rw[<-V]at hx;exact(Ycg.1 hx).1)⟩
     have d8:(0:Int)<(f.length:Int):=by omega
     have x0:=C.cell 0;have x1:=C.cell 1;have x2:=C.cell 2;have x3:=C.cell 3;simp only[Zget]at x0 x1 x2 x3;have d9:=a4.size;have e0:=O.lt;clear V Y G HP a3
     go_wp2_with (at_builtin;refine wpList_append_own _ rfl (.tmp 31) (.tmp 36) 270 rfl (w.heap.size+1) 311 i0 (.agg #[S0,.string ByteArray.empty,S0]) 3 64 underlying270 hi b7 b8 b9 rfl Dc _ _ _ rfl (d.alloc _) ⟨N.heap.size,0,none⟩ 1 1 [.slice s.a s.n s.c,.string s.tx,.slice av' f.length cp'] rfl rfl ?c1 ?c2 ?c3 ?c4 ?c5 ?_)
     case c1=>exact Zuy (by simp) (by simp) (by simp)
     case c2=>intro u hu;simp at hu;rcases hu with rfl|rfl|rfl <;> rfl
     case c3=>unfold maxLen;omega
     case c4=>omega
     case c5=>simp;omega
     intro v' w3 X D _;have b0:BW w w3:=(a4.alloc Om _).grown D (by simp;omega) (fun q hq=>by have:=(d.lt q hq).1;omega);have b1:∀o,Z5 311 N (N.alloc o):=fun o=>Z5.below Zbal _;have E:=(b1 _).trans (Z5.grown D (d.alloc _))
     have a5:w3.ownsRow (w.heap.size+1) 311 3 v' (rs++[(⟨s.a,s.n,s.c,s.tx,s.qs,av',cp',f⟩:Str)]).length (encR (rs++[(⟨s.a,s.n,s.c,s.tx,s.qs,av',cp',f⟩:Str)])):=by
      rw[ZvN,Yab];exact X
     have I : Hid ((∀ z ∈ rs ++ [(⟨s.a, s.n, s.c, s.tx, s.qs, av', cp', f⟩ : Str)], StrOk w3 z) /\ (rs ++ [(⟨s.a, s.n, s.c, s.tx, s.qs, av', cp', f⟩ : Str)]).map Str.pr = ZbH ((ss.take (k + 1)).map Srs.ser) nd n t) := hid ⟨fun z Z => by
       rcases Yar.1 Z with Z|Z
       · exact(U.1 z Z).kb E Dc Dc
       · rw[Yap]at Z;subst Z;exact c7.kb E Dc Dc,by rw[c6.out,Yaq,U.2];rfl⟩
     have b2:Hid (BAt w3 w.heap.size [.string nm,.slice la ln lc] 179):=hid (E _ _ _ _ Dc O.out);clear d D X b1 E x0 x1 x2 x3;have c8:Hid _:=hid b0;clear b0;go_wp2
     go_roundw
     case rel=>exact⟨k+1,_,by omega,by go_num,by simp;omega,a5,I,b2,c8⟩
     case measure=>simp[intOf];omega
  ·obtain rfl:k=ss.length:=by omega
   have I:Hid ((∀s∈rs,StrOk wr s)/\rs.map Str.pr=ZbH (ss.map Srs.ser) nd n t):=hid ⟨HR.1,by have:=HR.2;rwa [Ya4]at this⟩;go_wp2;go_ret;exact⟨_,rs,rfl,hid ⟨⟨K.mono (Yag _),I.1⟩,I.2⟩,HB.out⟩
theorem ZrL(s:BA)(m:Int)(w:World)(g:s.size<=6000)(h:w.cell? ⟨14,0,none⟩=some (Vi m)) :
  CP 139 #[.string s] w fun e u => ∃ (a : Option Addr) (n cap : Nat) (ok : Bool), e = .returned (.tuple #[.slice a n cap, .bool ok]) /\
    Hid (ok=(Zcc (bl s)).isSome/\(ok=true->∃qs,ZcB u 0 (.slice a n cap) n qs/\Zcc (bl s)=some (qs.map blP)))/\BW w u:=by
 cases c:s.toList.isEmpty
 ·have d:=Zij c;have i:Zcc (bl s)=ZbS [] [] (split 44 (bl s)):=by unfold Zcc;rw[if_neg d]
  rw[i];exact ZBg s m w g h c
 ·have f:Hid (Zcc (bl s)=some []):=hid (by rw[ZgW c];rfl);go_enter func139,ntmps139;go_wp2;go_ret2;exact⟨none,0,0,true,rfl,⟨by rw[f.out];rfl,fun _=>⟨[],⟨Ybc _ _ _ _,by omega,fun p j=>(by cases j)⟩,f.out⟩⟩,Yaf _ _⟩
theorem ZBe(m:Int)(d:s.size<=6000)(f:w.cell? ⟨14,0,none⟩=some (Vi m))(h:(Zcc (bl s)).isSome=false) :
  CP 139 #[.string s] w fun e u=>∃(a:Option Addr) (n cap:Nat),e=.returned (.tuple #[.slice a n cap,.bool false])/\BW w u:=by
 refine(ZrL s m w d f).mono ?_;rintro e u ⟨a,n,cap,ok,rfl,c,g⟩;exact⟨a,n,cap,by rw[c.1,h],g⟩
theorem ZBf(m:Int)(d:s.size<=6000)(f:w.cell? ⟨14,0,none⟩=some (Vi m))(h:(Zcc (bl s)).isSome=true) :
  CP 139 #[.string s] w fun e u=>∃(a:Option Addr) (n cap:Nat) (qs:List (BA×BA)),e=.returned (.tuple #[.slice a n cap,.bool true])/\Hid (ZcB u 0 (.slice a n cap) n qs/\Zcc (bl s)=some (qs.map blP))/\BW w u:=by
 refine(ZrL s m w d f).mono ?_;rintro e u ⟨a,n,cap,ok,rfl,c,g⟩;have e:ok=true:=by rw[c.1,h]
 subst e;obtain⟨qs,i,j⟩:=c.2 rfl;exact⟨a,n,cap,qs,rfl,⟨i,j⟩,g⟩
theorem box4{a:World}{y u:Value}{t:TypeId}(c:Below (w.heap.size+1) (w.alloc (.cells #[x,y,z,u] t)) a) :
  a.cell? ⟨w.heap.size,0,none⟩=some x/\a.cell? ⟨w.heap.size,1,none⟩=some y/\a.cell? ⟨w.heap.size,2,none⟩=some z/\a.cell? ⟨w.heap.size,3,none⟩=some u/\
  a.frozen? ⟨w.heap.size,0,none⟩=false/\a.frozen? ⟨w.heap.size,1,none⟩=false/\a.frozen? ⟨w.heap.size,2,none⟩=false/\a.frozen? ⟨w.heap.size,3,none⟩=false:=by
 have h:a.heap[w.heap.size]?=some (.cells #[x,y,z,u] t (0,0)):=(c.block _ Om).trans (Go.Deep.blk_alloc_new _ _);refine⟨?_,?_,?_,?_,?_,?_,?_,?_⟩ <;> simp[World.cell?,World.frozen?,h]
theorem ZBm(m:Int)(d:s.size<=6000)(f:w.cell? ⟨14,0,none⟩=some (Vi m))(h:Zcz (bl s)=none) :
  CP 140 #[.string s] w fun e u=>∃sv:Value,e=.returned (.tuple #[sv,.bool false])/\BW w u:=by
 refine(ZrN s m w d f).mono ?_;rintro e u ⟨sv,ok,rfl,c,g⟩;rcases c.out with ⟨_,_,_,_,_,a,_⟩|⟨a,_⟩
 ·rw[h]at a;cases a
 ·exact⟨sv,by rw[a],g⟩
theorem ZBn(m:Int)(g:s.size<=6000)(i:w.cell? ⟨14,0,none⟩=some (Vi m))(h:Zcz (bl s)=some n) :
  CP 140 #[.string s] w fun e u=>∃a cap,e=.returned (.tuple #[.slice a n cap,.bool true])/\Hid (u.ownsRow w.heap.size 313 2 (.slice a n cap) n (Zca (Zez (bl s))))/\BW w u:=by
 refine(ZrN s m w g i).mono ?_;rintro e u ⟨sv,ok,rfl,d,j⟩;rcases d.out with ⟨k,a,n',cap,f,c,l⟩|⟨_,c⟩
 ·rw[h]at c;obtain rfl:=Yax c;exact⟨a,cap,by rw[k,f],by rw[<-f];exact l,j⟩
 ·rw[h]at c;cases c
def Zc6(w:World)(l:LB)(nm:BA)(lv:Value)(tx:BA)(sv:Value)(sn:Nat):Prop:=∃(inside:LB) (qs:List (BA×BA)),line l=some (bl nm,inside,sn)/\Zcc inside=some (qs.map blP)/\ZcB w 0 lv qs.length qs/\bl tx=Zbf qs/\w.ownsRow 0 313 2 sv sn (Zca (Zdo l))
theorem Zc6.below(h:Zc6 w l nm lv tx sv sn)(a:BW w w'):Zc6 w' l nm lv tx sv sn:=by
 obtain⟨i,qs,c,d,e,f,g⟩:=h;exact⟨i,qs,c,d,e.below a,f,Zn g a⟩
theorem Zc6.other(h:Zc6 w l nm lv tx sv sn){c:Array Value}{fr:Nat×Nat}(g:w.heap[a]?=some (.cells c 199 fr))(k:∀j,j≠a->w'.heap[j]?=w.heap[j]?):Zc6 w' l nm lv tx sv sn:=by
 obtain⟨i,qs,n,o,d,p,m⟩:=h;exact⟨i,qs,n,o,⟨Zim d.1 (fun j f=>k j (fun e=>Zcx d.1 g Dc (by rw[f,e]))),d.2⟩,p,Zim m (fun j f=>k j (fun e=>Zcx m g Dc (by rw[f,e])))⟩
def Zgx(w:World)(l:LB)(nm:BA)(lv:Value)(tx:BA)(sv:Value)(sn:Nat)(ok:Bool):Prop:=(ok=true/\Zc6 w l nm lv tx sv sn)∨(ok=false/\line l=none)
theorem Zw1{m:Int}{B:Nat}(a:w.cell? ⟨14,0,none⟩=some (Vi m))(c:Below B w w')(d:14<B):w'.cell? ⟨14,0,none⟩=some (Vi m):=
 (c.cell (p:=⟨_,0,none⟩) d).trans a
theorem ZBo(s:BA)(m:Int)(T:s.size<=6000)(hm:w.cell? ⟨14,0,none⟩=some (Vi m)) :
  CP 89 #[.string s] w fun e u => ∃ (nm : BA) (a : Option Addr) (n cap : Nat) (tx : BA) (sa : Option Addr) (sn sc : Nat) (ok : Bool), e = .returned (.tuple #[.agg #[.string nm, .slice a n cap, .string tx, .slice sa sn sc], .bool ok]) /\
    Hid (Zgx u (bl s) nm (.slice a n cap) tx (.slice sa sn sc) sn ok)/\BW w u:=by
 have a1:=Yai _ _ hm
 have E : ∀ o, (w.alloc o).cell? ⟨14, 0, none⟩ = some (Vi m) := fun o => by
   rw[Ybm _ _ _ a1];exact hm
 have k:∀o (j:Nat),((w.alloc o).drewN j).cell? ⟨14,0,none⟩=some (Vi m):=fun o j=>E o;cases L:cut 123 (bl s)with
 | none=>
  have l:Hid (∀W nm lv tx sv,Zgx W (bl s) nm lv tx sv 0 false):=hid (fun _ _ _ _ _=>Or.inr ⟨rfl,ZjF L⟩);have F:Hid (cut 123 (bl s)=none):=L;clear L;go_enter func89,ntmps89
  go_wp2_with fail
  refine(ZgH m _ T (E _) F.out).mono ?_;rintro e u ⟨a,b,rfl,c,j,rfl⟩;have t:b.size<=6000:=by rw[ZU c.2];simp
  go_wp2_with fail
  refine(ZgH m _ t (k _ _) (by rw[c.2];rfl)).mono ?_;rintro e u ⟨a2,b2,rfl,d,j2,rfl⟩;go_wp2;exact bodyPost_ret (v:=.tuple #[.agg #[.string ⟨#[]⟩,S0,.string ⟨#[]⟩,S0],.bool false]) (by simp[results,results89,go_sem]) rfl ⟨⟨#[]⟩,none,0,0,⟨#[]⟩,none,0,0,false,rfl,hid (l.out _ _ _ _ _),belB⟩
 | some p=>
  obtain⟨x,r⟩:=p;have a7:x.length<=s.size/\r.length<=s.size:=by rw[<-Zd,(Zdx L).1];simp;omega
  have F:Hid (cut 123 (bl s)=some (x,r)):=L;clear L;cases A:cut 125 r with
  | none=>
   have l:Hid (∀W nm lv tx sv,Zgx W (bl s) nm lv tx sv 0 false):=hid (fun _ _ _ _ _=>Or.inr ⟨rfl,ZjE F.out A⟩);have G:Hid (cut 125 r=none):=A;clear A;go_enter func89,ntmps89
   go_wp2_with fail
   refine(Zep m _ T (E _) F.out).mono ?_;rintro e u ⟨a,b,rfl,c,j,rfl⟩;have t:b.size<=6000:=by rw[ZU c.2];omega
   go_wp2_with fail
   refine(ZgH m _ t (k _ _) (by rw[c.2];exact G.out)).mono ?_;rintro e u ⟨a2,b2,rfl,d,j2,rfl⟩;go_wp2;exact bodyPost_ret (v:=.tuple #[.agg #[.string ⟨#[]⟩,S0,.string ⟨#[]⟩,S0],.bool false]) (by simp[results,results89,go_sem]) rfl ⟨⟨#[]⟩,none,0,0,⟨#[]⟩,none,0,0,false,rfl,hid (l.out _ _ _ _ _),belB⟩
  | some q=>
   obtain⟨y,z⟩:=q;have a8:y.length<=r.length/\z.length<=r.length:=by rw[(Zdx A).1];simp;omega
   have G:Hid (cut 125 r=some (y,z)):=A;have g:=ZjG F.out A;clear A;cases M:Zx x
   ·have l:Hid (∀W nm lv tx sv,Zgx W (bl s) nm lv tx sv 0 false):=hid (fun _ _ _ _ _=>Or.inr ⟨rfl,by rw[g,M];rfl⟩);have U:Hid (Zx x=false):=M;clear M g;go_enter func89,ntmps89
    go_wp2_with fail
    refine(Zep m _ T (E _) F.out).mono ?_;rintro e u ⟨a,b,rfl,c,j,rfl⟩;have O:a.size<=6000:=by rw[ZU c.1];omega
    have t:b.size<=6000:=by rw[ZU c.2];omega
    go_wp2_with fail
    refine(Zep m _ t (k _ _) (by rw[c.2];exact G.out)).mono ?_;rintro e u ⟨a2,b2,rfl,d,j2,rfl⟩
    go_wp2_with fail
    refine(Zku (b:=false) O (by rw[c.1];exact U.out)).mono ?_;rintro e u ⟨rfl,rfl⟩;go_wp2;exact bodyPost_ret (v:=.tuple #[.agg #[.string ⟨#[]⟩,S0,.string ⟨#[]⟩,S0],.bool false]) (by simp[results,results89,go_sem]) rfl ⟨⟨#[]⟩,none,0,0,⟨#[]⟩,none,0,0,false,rfl,hid (l.out _ _ _ _ _),belB⟩
   ·have U:Hid (Zx x=true):=M;rw[M]at g;clear M;go_enter func89,ntmps89;have i:Hid _:=g;clear g
    go_wp2_with fail
    refine(Zep m _ T (E _) F.out).mono ?_;rintro e u ⟨a,b,rfl,c,j,rfl⟩;have O:a.size<=6000:=by rw[ZU c.1];omega
    have t:b.size<=6000:=by rw[ZU c.2];omega
    go_wp2_with fail
    refine(Zep m _ t (k _ _) (by rw[c.2];exact G.out)).mono ?_;rintro e u ⟨a2,b2,rfl,d,j2,rfl⟩;have P:a2.size<=6000:=by rw[ZU d.1];omega
    have Q:b2.size<=6000:=by rw[ZU d.2];omega
    go_wp2_with fail
    refine(Zku (b:=true) O (by rw[c.1];exact U.out)).mono ?_;rintro e u ⟨rfl,rfl⟩;cases C:(Zcc y).isSome
    ·have l:Hid (∀W nm lv tx sv,Zgx W (bl s) nm lv tx sv 0 false):=hid (fun _ _ _ _ _=>Or.inr ⟨rfl,by rw[i.out,C];rfl⟩);have HL:Hid ((Zcc y).isSome=false):=C;clear C
     go_wp2_with fail
     refine(ZBe m P (k _ _) (by rw[d.1];exact HL.out)).mono ?_;rintro e J ⟨la,ln,lc,rfl,B⟩;have f:Below (w.heap.size+1) (w.alloc (.cells #[.string ⟨#[]⟩,S0,.string ⟨#[]⟩,S0] 199)) J:=(ZkW B).mono (B':=w.heap.size+1) (by simp);have H:BW w J:=((Yaf w.heap.size w).alloc (Yac _) _).trans (f.mono Om);obtain⟨k0,k1,k2,k3,g0,g1,g2,g3⟩:=box4 f;clear B f;go_wp2;exact bodyPost_ret (v:=.tuple #[.agg #[.string ⟨#[]⟩,S0,.string ⟨#[]⟩,S0],.bool false]) (by simp[results,results89,go_sem,k0,k1,k2,k3]) rfl ⟨⟨#[]⟩,none,0,0,⟨#[]⟩,none,0,0,false,rfl,hid (l.out _ _ _ _ _),belB⟩
    ·have HL:Hid ((Zcc y).isSome=true):=C;rw[C]at i;clear C
     go_wp2_with fail
     refine(ZBf m P (k _ _) (by rw[d.1];exact HL.out)).mono ?_;rintro e J ⟨la,ln,lc,qs,rfl,HQ,B⟩;have R:w.heap.size+1<=J.heap.size:=by have:=B.size;simp at this;omega
     have V:J.cell? ⟨14,0,none⟩=some (Vi m):=Zw1 (k _ _) B (by simp;omega);have f:Below (w.heap.size+1) (w.alloc (.cells #[.string ⟨#[]⟩,S0,.string ⟨#[]⟩,S0] 199)) J:=(ZkW B).mono (B':=w.heap.size+1) (by simp);have H:BW w J:=((Yaf w.heap.size w).alloc (Yac _) _).trans (f.mono Om);clear B;cases D:Zcz z with
     | none=>
      have l:Hid (∀W nm lv tx sv,Zgx W (bl s) nm lv tx sv 0 false):=hid (fun _ _ _ _ _=>Or.inr ⟨rfl,by rw[i.out,D];rfl⟩);have HM:Hid (Zcz z=none):=D;clear D
      go_wp2_with fail
      refine(ZBm m Q V (by rw[d.2];exact HM.out)).mono ?_;rintro e N ⟨sv,rfl,h⟩;obtain⟨k0,k1,k2,k3,g0,g1,g2,g3⟩:=box4 (f.trans (h.mono R));have S:BW w N:=H.trans (h.mono Om);clear f h H;go_wp2;exact bodyPost_ret (v:=.tuple #[.agg #[.string ⟨#[]⟩,S0,.string ⟨#[]⟩,S0],.bool false]) (by simp[results,results89,go_sem,k0,k1,k2,k3]) rfl ⟨⟨#[]⟩,none,0,0,⟨#[]⟩,none,0,0,false,rfl,hid (l.out _ _ _ _ _),belB⟩
     | some n=>
      have l:Hid (line (bl s)=some (x,y,n)):=hid (by rw[i.out,D];rfl);have a3:Hid (Zdo (bl s)=Zez z):=hid (Zr1 U.out F.out G.out);have HM:Hid (Zcz z=some n):=D;clear D
      go_wp2_with fail
      refine(ZBn m Q V (by rw[d.2];exact HM.out)).mono ?_;rintro e N ⟨sa,sc,rfl,a4,h⟩;have X:Hid (ZcB N 0 (.slice la ln lc) ln qs):=ZcB.below HQ.1 h;have K:=f.trans (h.mono R);have Y:w.heap.size+1<=N.heap.size:=Yah R h.size;have S:BW w N:=H.trans (h.mono Om);clear f h H
      go_wp2_with fail
      refine(Zro _ _ _ N qs X.out).mono ?_;rintro e w5 ⟨oa,oc,rfl,Z,I⟩;have a0:qs.length=ln:=by have:=X.1.1;rw[Zi9]at this;omega
      have a5:Hid (Zc6 w5 (bl s) a (.slice oa ln oc) ⟨(Zbf qs).toArray⟩ (.slice sa n sc) n):=hid ⟨y,qs,by rw[l.out,c.1],by rw[<-d.1];exact HQ.2,by rw[a0];exact Z,ZbF _,by rw[a3.out,<-d.2];exact Zn (ZmF a4.out) I⟩;clear a0;obtain⟨k0,k1,k2,k3,g0,g1,g2,g3⟩:=box4 (K.trans (I.mono Y));have a6:Hid (w5.heap[w.heap.size]?=some (.cells #[.string ⟨#[]⟩,S0,.string ⟨#[]⟩,S0] 199 (0,0))):=hid (((K.trans (I.mono Y)).block _ Om).trans (Go.Deep.blk_alloc_new _ _));have a9:BW w w5:=S.trans (I.mono Om);clear K I Z S;go_wp2;exact bodyPost_ret (v:=.tuple #[.agg #[.string a,.slice oa ln oc,.string ⟨(Zbf qs).toArray⟩,.slice sa n sc],.bool true]) (by simp[results,results89,go_sem,k0,k1,k2,k3]) rfl ⟨a,oa,ln,oc,_,sa,n,sc,true,rfl,hid (Or.inl ⟨rfl,a5.other a6.out (fun j hj=>by first|rfl|(repeat rw[Go.Deep.blk_setCell_other _ _ _ _ (by exact hj)]))⟩),belB⟩
theorem ZnV{i:Int} :
  CP 90 #[Vi i,.iface 389 what] w fun e u=>e=.returned (.iface 94 (Vp w.heap.size))/\u=w.alloc (.cells #[.string ⟨#[108,105,110,101]⟩,Vi i,.iface 389 what] 98):=by
 go_enter func90,ntmps90;go_wp2;go_ret;exact⟨rfl,rfl⟩
theorem Tryz.infoSeries:(Tryz.prog.info? 199).map (fun i=>(i.zero,i.size,i.bytes))=some (some (.agg #[.string ByteArray.empty,S0,.string ByteArray.empty,S0]),4,80):=by kernel_rfl
theorem Zux{u:Value}(d:W.cell? ⟨a,0,none⟩=some u)(e:W.cell? ⟨a,1,none⟩=some v)(f:W.cell? ⟨a,2,none⟩=some x)(g:W.cell? ⟨a,3,none⟩=some z):∀j y,[u,v,x,z][j]?=some y->W.cell? ((⟨a,0,none⟩:Addr).add j)=some y:=by
 intro j y c;rw[ZfO]
 match j,c with
 | 0,c=>simp at c;subst c;exact d
 | 1,c=>simp at c;subst c;exact e
 | 2,c=>simp at c;subst c;exact f
 | 3,c=>simp at c;subst c;exact g
def ZJD:List (Value×Value×Value)->List Value
 | []=>[]
 | r::rs=>r.1::r.2.1::r.2.2::ZJD rs
def ZbP:List (Value×Value×Value×Value)->List Value
 | []=>[]
 | r::rs=>r.1::r.2.1::r.2.2.1::r.2.2.2::ZbP rs
theorem Zv8(a b:List (Value×Value×Value×Value)):ZbP (a++b)=ZbP a++ZbP b:=by
 induction a with
 | nil=>rfl
 | cons r a ih=>simp[ZbP,ih]
theorem Zv9(rs:List (Value×Value×Value×Value))(j:Nat):(ZbP rs)[j*4]?=rs[j]?.map (·.1)/\(ZbP rs)[j*4+1]?=rs[j]?.map (·.2.1)/\(ZbP rs)[j*4+2]?=rs[j]?.map (·.2.2.1)/\(ZbP rs)[j*4+3]?=rs[j]?.map (·.2.2.2):=by
 induction rs generalizing j with
 | nil=>simp[ZbP]
 | cons r rs ih=>
  cases j with
  | zero=>simp[ZbP]
  | succ j=>
   obtain⟨a,c,d,e⟩:=ih j;refine⟨?_,?_,?_,?_⟩
   ·rw[show(j+1)*4=j*4+1+1+1+1 by omega];simpa [ZbP] using a
   ·rw[show(j+1)*4+1=j*4+1+1+1+1+1 by omega];simpa [ZbP] using c
   ·rw[show(j+1)*4+2=j*4+2+1+1+1+1 by omega];simpa [ZbP] using d
   ·rw[show(j+1)*4+3=j*4+3+1+1+1+1 by omega];simpa [ZbP] using e
def ZeP(rs:List (Value×Value×Value×Value))(es:List Entry):Prop:=rs.length=es.length/\∀j (h:j<es.length),∃nm a n c tx sa sc,rs[j]?=some (.string nm,.slice a n c,.string tx,.slice sa (es[j]).count sc)
theorem ZeP.snoc{rs:List (Value×Value×Value×Value)}(h:ZeP rs es)(x:Entry)(nm:BA)(a:Option Addr)(n c:Nat)(tx:BA)(sa:Option Addr)(sc:Nat) :
  ZeP (rs++[(.string nm,.slice a n c,.string tx,.slice sa x.count sc)]) (es++[x]):=by
 refine⟨by simp[h.1],fun j g=>?_⟩;by_cases d:j<es.length
 ·obtain⟨nm',a',n',c',tx',sa',sc',e⟩:=h.2 j d;exact⟨nm',a',n',c',tx',sa',sc',by rw[Ybr (by rw[h.1];exact d),e,List.getElem_append_left d]⟩
 ·have f:j=es.length:=by simp at g;omega
  subst f;refine⟨nm,a,n,c,tx,sa,sc,?_⟩;rw[Yb3 (by rw[h.1];exact Yac _),h.1];simp
theorem Zc6.grown(h:Zc6 w l nm lv tx sv sn){e:TypeId}{s:Nat}(a:w.grownBy w' v.ownBlock)(c:w.ownsRow b e s v n xs)(d:320≠e)(f:313≠e):Zc6 w' l nm lv tx sv sn:=by
 obtain⟨i,qs,e1,e2,e3,e4,e5⟩:=h;exact⟨i,qs,e1,e2,⟨e3.1.kept a (ZmC e3.1 c d),e3.2⟩,e4,e5.kept a (ZmC e5 c f)⟩
def AllV(w:World)(rs:List (Value×Value×Value×Value))(es:List Entry)(ps:List (LB)):Prop:=∀j (h:j<es.length),∃(nm:BA) (a:Option Addr) (n c:Nat) (tx:BA) (sa:Option Addr) (sc:Nat),rs[j]?=some (.string nm,.slice a n c,.string tx,.slice sa (es[j]).count sc)/\Zc6 w (ps.getD (es[j]).at_ []) nm (.slice a n c) tx (.slice sa (es[j]).count sc) (es[j]).count/\line (ps.getD (es[j]).at_ [])=some ((es[j]).name,(es[j]).inside,(es[j]).count)
theorem AllV.below     (h : AllV w rs es ps) (d : BW w w') : AllV w' rs es ps := fun j e => by
  obtain⟨nm,a,n,c,tx,sa,sc,e1,e2,e3⟩:=h j e;exact⟨nm,a,n,c,tx,sa,sc,e1,e2.below d,e3⟩
theorem AllV.grown     (h : AllV w rs es ps)  {e : TypeId} {s : Nat}    (d : w.grownBy w' v.ownBlock) (f : w.ownsRow b e s v n xs) (g : 320 ≠ e) (i : 313 ≠ e) : AllV w' rs es ps := fun j k => by
  obtain⟨nm,a,n,c,tx,sa,sc,e1,e2,e3⟩:=h j k;exact⟨nm,a,n,c,tx,sa,sc,e1,e2.grown d f g i,e3⟩
theorem AllV.snoc{rs:List (Value×Value×Value×Value)}(e:rs.length=es.length)(h:AllV w rs es ps)(z:Entry)(nm:BA)(a:Option Addr)(n c:Nat)(tx:BA)(sa:Option Addr)(sc:Nat)
  (g:Zc6 w (ps.getD z.at_ []) nm (.slice a n c) tx (.slice sa z.count sc) z.count) (i:line (ps.getD z.at_ [])=some (z.name,z.inside,z.count)):AllV w (rs++[(.string nm,.slice a n c,.string tx,.slice sa z.count sc)]) (es++[z]) ps:=fun j k=>by
 by_cases d:j<es.length
 ·obtain⟨nm',a',n',c',tx',sa',sc',e1,e2⟩:=h j d;refine⟨nm',a',n',c',tx',sa',sc',?_⟩;rw[Ybr (by rw[e];exact d),List.getElem_append_left d];exact⟨e1,e2⟩
 ·have f:j=es.length:=by simp at k;omega
  subst f;refine⟨nm,a,n,c,tx,sa,sc,?_⟩;rw[Yb3 (by rw[e];exact Yac _),e];simp only[Yfw,Ycy,List.getElem_append_right (Yac _),List.getElem_cons_zero];exact⟨trivial,g,i⟩
theorem ZBh(g:Nat)(ps:List (LB))(n:Nat)(A:Nat->Addr)(m:Int)(T:Hid (n=ps.length))(a4:n<=6001)(U:Hid (∀i,i<ps.length->(ps.getD i []).length<=6000))(D:ZfN w g ps)(hv:Vars w A m) :
  CP 43 #[.slice (some ⟨g, 0, none⟩) n n] w fun e E => BW w E /\
    ((∃(i:Nat) (fa:Nat),e=.returned (.tuple #[S0,.iface 94 (Vp fa)])/\E.heap[fa]?=some (.cells #[.string ⟨#[108,105,110,101]⟩,Vi i,.iface 389 (.pointer (some (A 4)))] 98 (0,0))/\Hid (Zbh 0 [] ps=.inl i))∨
     (∃(v:Value) (es:List Entry) (rs:List (Value×Value×Value×Value)),e=.returned (.tuple #[v,.nilIface])/\E.ownsRow 0 199 4 v es.length (ZbP rs)/\Hid (ZeP rs es/\Zbh 0 [] ps=.inr es)/\Hid (AllV E rs es ps))):=by
 obtain⟨i0,hi,V,W,X⟩:=info_parts Tryz.infoSeries;have Y:g<w.heap.size:=D.1;go_enter func43,ntmps43;go_wp2
 go_loopw [4, 11] (fun v i wr => ∃ (k : Nat) (es : List Entry) (rs : List (Value × Value × Value × Value)), k <= n /\ i = Vi k /\ es.length <= k /\ wr.ownsRow w.heap.size 199 4 v es.length (ZbP rs) /\ Hid (ZeP rs es /\ Zbh 0 [] ps = Zbh k es (ps.drop k)) /\ Hid (AllV wr rs es ps) /\ BW w wr)
   (fun _ i _=>n - (intOf i).toNat)
 case atStart=>exact⟨0,[],[],Yag _,rfl,Yag _,Ybc _ _ _ _,⟨⟨rfl,fun j h=>by simp at h⟩,rfl⟩,hid (fun j h=>by simp at h),Yaf _ _⟩
 case round=>
  obtain⟨k,es,rs,hk,rfl,a5,f,p,F,d⟩:=hrel;have Z:w.heap.size<=wr.heap.size:=d.size;have r:=hv.below d;by_cases K:k<n
  ·have s:k<ps.length:=by rw[<-T.out];exact K
   obtain⟨sk,a6,G⟩:=(D.below d Y).2 k s;have P:sk.size<=6000:=by rw[ZU G];exact U.out k s
   have C:Hid (bl sk=ps.getD k []):=G;clear G;cases he:sk.toList.isEmpty
   ·have L:Hid (ps.getD k []≠[]):=by rw[<-C.out];exact Zij he
    have M:=r.max;have a0:=r.sent 4 Dc
    go_wp2_with fail
    refine(ZBo sk m P M).mono ?_;rintro e z ⟨nm,la,ln,lc,tx,sa,sn,sc,ok,rfl,x,t⟩;have a2:z.cell? ⟨4,0,none⟩=some (.iface 389 (.pointer (some (A 4)))):=(r.below t).sent _ Dc;have a3:∀o,(z.alloc o).cell? ⟨4,0,none⟩=some (.iface 389 (.pointer (some (A 4)))):=fun o=>((r.below t).alloc o).sent _ Dc;have N:BW w z:=d.trans (t.mono Z);have a7:w.heap.size<=z.heap.size:=N.size;have c:=Zn f t;clear a0 M r;cases ok
    ·have y:Hid (Zbh 0 [] ps=.inl k):=hid (by
      rw[p.2];refine Zyu s L.out ?_;rw[<-C.out];rcases x.out with ⟨h,_⟩|⟨_,h⟩
      ·cases h
      ·exact h)
     go_wp2_with (go_at_call 90;refine(ZnV).mono ?_;rintro e E ⟨rfl,rfl⟩)
     go_ret2;refine⟨belB,Or.inl ⟨k,z.heap.size+1,rfl,?_,y⟩⟩;rw[show z.heap.size+1=(z.alloc (.cells #[.string nm,.slice la ln lc,.string tx,.slice sa sn sc] 199)).heap.size by simp];exact Ye3
    ·have O:Hid (Zc6 z (bl sk) nm (.slice la ln lc) tx (.slice sa sn sc) sn):=hid (by
      rcases x.out with ⟨_,h⟩|⟨h,_⟩
      ·exact h
      ·cases h)
     obtain⟨na,a,H⟩:∃name inside,line (bl sk)=some (name,inside,sn):=by
      obtain⟨a,qs,h,_⟩:=O.out;exact⟨_,a,h⟩
     have Q:Hid (AllV z (rs++[(.string nm,.slice la ln lc,.string tx,.slice sa sn sc)]) (es++[⟨k,na,a,sn⟩]) ps):=hid (AllV.snoc p.1.1 (F.below t) ⟨k,na,a,sn⟩ nm la ln lc tx sa sc (by show Zc6 z (ps.getD k []) nm (.slice la ln lc) tx (.slice sa sn sc) sn;rw[<-C.out];exact O.out) (by show line (ps.getD k [])=some (na,a,sn);rw[<-C.out];exact H))
     have y:Hid (ZeP (rs++[(.string nm,.slice la ln lc,.string tx,.slice sa sn sc)]) (es++[⟨k,na,a,sn⟩])/\Zbh 0 [] ps=Zbh (k+1) (es++[⟨k,na,a,sn⟩]) (ps.drop (k+1))):=
      ⟨p.1.snoc ⟨k,na,a,sn⟩ nm la ln lc tx sa sc,by rw[p.2];exact Zyv s L.out (by rw[<-C.out];exact H)⟩
     clear H x
     go_wp2_with (at_builtin;refine wpList_append_own _ rfl (.tmp 28) (.tmp 30) 60 rfl w.heap.size 199 i0 (.agg #[.string ByteArray.empty,S0,.string ByteArray.empty,S0]) 4 80 underlying60 hi V W X rfl Dc _ _ _ rfl ((c.alloc _).alloc _) ⟨z.heap.size+1,0,none⟩ 1 1 [.string nm,.slice la ln lc,.string tx,.slice sa sn sc] rfl rfl ?c1 ?c2 ?c3 ?c4 ?c5 ?_)
     case c1=>exact Zux (by simp) (by simp) (by simp) (by simp)
     case c2=>intro u hu;simp at hu;rcases hu with rfl|rfl|rfl|rfl <;> rfl
     case c3=>unfold maxLen;omega
     case c4=>omega
     case c5=>simp;omega
     intro v' R B l _;have a1:BW w R:=((N.alloc Om _).alloc (by simp;omega) _).grown l (by simp;omega) (fun q hq=>(c.lt q hq).1)
     have J:R.ownsRow w.heap.size 199 4 v' (es++[(⟨k,na,a,sn⟩:Entry)]).length (ZbP (rs++[(.string nm,.slice la ln lc,.string tx,.slice sa sn sc)])):=by
      rw[Zv8,Yab];exact B
     have I:∀o o':Obj,BW z ((z.alloc o).alloc o'):=fun o o'=>Zbal.alloc (by simp) _;have S:Hid (AllV R (rs++[(.string nm,.slice la ln lc,.string tx,.slice sa sn sc)]) (es++[⟨k,na,a,sn⟩]) ps):=hid ((Q.below (I _ _)).grown l ((c.alloc _).alloc _) Dc Dc);clear c f l B I;go_wp2
     go_roundw
     case rel=>exact⟨k+1,_,_,by omega,by go_num,by simp;omega,J,y,S,a1⟩
     case measure=>simp[intOf];omega
   ·have y:Hid (ZeP rs es/\Zbh 0 [] ps=Zbh (k+1) es (ps.drop (k+1))):=
     ⟨p.1,by rw[p.2];exact Zyw s (by rw[<-C.out];exact ZgW he)⟩
    go_wp2
    go_roundw
    case rel=>exact⟨k+1,es,rs,by omega,by go_num,by omega,f,y,F,d⟩
    case measure=>simp[intOf];omega
  ·have y:Hid (ZeP rs es/\Zbh 0 [] ps=.inr es):=⟨p.1,by rw[p.2];exact Zyx (by rw[<-T.out];exact K)⟩
   go_wp2;go_ret2;exact⟨d,Or.inr ⟨_,es,rs,rfl,f.mono (Yag _),y,F⟩⟩
def ZcS(es:List Entry)(k:Nat):Nat:=((es.take k).map (·.count)).sum
theorem ZsB(es:List Entry)(k:Nat)(h:k<es.length):ZcS es (k+1)=ZcS es k+(es[k]).count:=by
 unfold ZcS;rw[List.take_succ_eq_append_getElem h,Yaq,List.sum_append];rfl
theorem ZsA(es:List Entry)(h:∀e∈es,e.count<=6001)(k:Nat):ZcS es k<=6001*k:=by
 induction k with
 | zero=>simp[ZcS]
 | succ k ih=>
  by_cases a:k<es.length
  ·rw[ZsB es k a];have:=h _ (List.getElem_mem a);omega
  ·have:ZcS es (k+1)=ZcS es k:=by unfold ZcS;rw[Ya5 Om,Ya5 Om]
   omega
theorem Zvm(es:List Entry)(rs:List (Value×Value×Value×Value))(d:w.ownsRow 0 199 4 v es.length (ZbP rs))(q:Hid (ZeP rs es))(m:Hid (∀e∈es,e.count<=6001))(z:es.length<=6001) :
  CP 45 #[v] w fun e u=>e=.returned (Vi (ZcS es es.length))/\BW w u:=by
 obtain⟨av,cp,rfl⟩:=Zl d;go_enter func45,ntmps45;go_wp2
 go_loopw [3,8] (fun c i wr=>∃k:Nat,k<=es.length/\i=Vi k/\c=Vi (ZcS es k)/\BW w wr) (fun _ i _=>es.length - (intOf i).toNat)
 case atStart=>exact⟨0,Yag _,rfl,by simp[ZcS],Yaf _ _⟩
 case round=>
  obtain⟨k,A,rfl,rfl,f⟩:=hrel;have t:w.heap.size<=wr.heap.size:=f.size;have x:=ZsA es m.out k;by_cases l:k<es.length
  ·have r:Hid (ZcS es (k+1)=ZcS es k+(es[k]).count):=ZsB es k l;have y:=m.out _ (List.getElem_mem l);obtain⟨nm,a,n,c,tx,sa,sc,o⟩:=q.2 k l;obtain⟨f1,f2,f3,f4⟩:=Zv9 rs k;rw[o]at f1 f2 f3 f4
   have s:∃g,av=some ⟨g,0,none⟩:=by
    obtain⟨g,cp',h⟩:=ZF d Om;injection h with h1;exact⟨g,h1⟩
   obtain⟨g,rfl⟩:=s;have j:=Z1 d;have c1:wr.cell? ⟨g,k*4,none⟩=some (.string nm):=(f.cell (p:=⟨g,k*4,none⟩) j).trans (Zi d _ _ f1);have c2:wr.cell? ⟨g,k*4+1,none⟩=some (.slice a n c):=(f.cell (p:=⟨g,k*4+1,none⟩) j).trans (Zi d _ _ f2);have c3:wr.cell? ⟨g,k*4+2,none⟩=some (.string tx):=(f.cell (p:=⟨g,k*4+2,none⟩) j).trans (Zi d _ _ f3);have c4:wr.cell? ⟨g,k*4+3,none⟩=some (.slice sa (es[k]).count sc):=(f.cell (p:=⟨g,k*4+3,none⟩) j).trans (Zi d _ _ f4);generalize(es[k]).count=cnt at *
   clear o f1 f2 f3 f4;go_wp2
   go_roundw
   case rel=>exact⟨k+1,by omega,by go_num,by rw[r.out];go_num,belB⟩
   case measure=>simp[intOf];omega
  ·obtain rfl:k=es.length:=by omega
   go_wp2;go_ret;exact⟨rfl,f⟩
def ZJt:List (BA×BA)->List Value
 | []=>[]
 | r::rs=>.string r.1::.string r.2::ZJt rs
def bl2(r:BA×BA):LB×LB:=(bl r.1,bl r.2)
def ZfK(ps:List (LB×LB)):Nat->LB
 | 0=>[]
 | k+1=>(if 0<k then ZfK ps k++[44] else ZfK ps k)++(ps.getD k ([],[])).1++[61]++(ps.getD k ([],[])).2
open Go.Proofs.Tryz
open Go.RowKit Go.Maps Go.WideMaps LS
def Zdz(l:LB):LB:=match cut 125 l with|some p=>p.1|none=>l
def ZbZ:Nat->List (LB)->List (LB)->Option Nat
 | _,_,[]=>none
 | i,seen,x::xs=>if x=[] then ZbZ (i+1) seen xs else if seen.contains (Zdz x)then some i else ZbZ (i+1) (seen++[Zdz x]) xs
theorem ZDq(a:i<ps.length)(h:ps.getD i []=[]):ZbZ i seen (ps.drop i)=ZbZ (i+1) seen (ps.drop (i+1)):=by
 have e:ps.getD i []=ps[i]:=by simp[a]
 rw[List.drop_eq_getElem_cons a,ZbZ,<-e,if_pos h]
theorem ZDs(a:i<ps.length)(h:ps.getD i []≠[])(c:seen.contains (Zdz (ps.getD i []))=true):ZbZ i seen (ps.drop i)=some i:=by
 have e:ps.getD i []=ps[i]:=by simp[a]
 rw[List.drop_eq_getElem_cons a,ZbZ,<-e,if_neg h,if_pos c]
theorem ZDt(a:i<ps.length)(h:ps.getD i []≠[])(c:seen.contains (Zdz (ps.getD i []))=false):ZbZ i seen (ps.drop i)=ZbZ (i+1) (seen++[Zdz (ps.getD i [])]) (ps.drop (i+1)):=by
 have e:ps.getD i []=ps[i]:=by simp[a]
 rw[List.drop_eq_getElem_cons a,ZbZ,<-e,if_neg h,if_neg (by rw[c];exact Ycv)]
theorem ZDr(a:¬i<ps.length):ZbZ i seen (ps.drop i)=none:=by
 rw[Yb8 Om];rfl
theorem law9:Keyed prog 9:=string_keyed underlying9
theorem Ztz:(zeroValue 205).run prog w=.ok (.agg #[]) w:=by kernel_rfl
def Sd(seen:List (LB)):DataW Unit:=setOf (.agg []) (seen.map Lit.string)
theorem ZtD(seen:List (LB))(x:LB):Sd (seen++[x])=(Sd seen).put (.string x) (.agg []):=by
 unfold Sd;rw[Yaq,Ybb,Ydg,setOf_snoc]
theorem Zxh(seen:List (LB)):∀x∈seen.map Lit.string,WideAt.IsKeyLit x:=by
 intro x a;obtain⟨y,_,rfl⟩:=Ybe.1 a
 trivial
theorem ZwR(seen:List (LB))(x:LB):Maps.has (Sd seen) (.string x)=seen.contains x:=by
 unfold Sd;rw[has_setOf _ _ _ (Zxh seen)]
 induction seen with
 | nil=>rfl
 | cons a l ih=>
  rw[Ybb,List.any_cons,ih,List.contains_cons]
  congr 1
  show(a == x)=(x == a)
  exact BEq.comm
theorem Zvp(m:Int)(g:s.size<=6000)(i:w.cell? ⟨14,0,none⟩=some (Vi m)) :
  CP 91 #[.string s,.string ⟨#[125]⟩] w fun e u=>∃(a b:BA) (f:Bool),e=.returned (.tuple #[.string a,.string b,.bool f])/\Hid (bl a=Zdz (bl s))/\a.size<=6000/\∃n,u=w.drewN n:=by
 cases d:cut 125 (bl s)with
 | none=>
  refine(ZgH m w g i d).mono ?_;rintro e u ⟨a,b,rfl,c,h⟩;exact⟨a,b,_,rfl,hid (by unfold Zdz;rw[d];exact c.1),by rw[ZU c.1,Zd];exact g,h⟩
 | some p=>
  obtain⟨x,y⟩:=p;refine(Zep m w g i d).mono ?_;rintro e u ⟨a,b,rfl,c,h⟩;refine⟨a,b,_,rfl,hid (by unfold Zdz;rw[d];exact c.1),?_,h⟩;have:(bl s).length=x.length+(y.length+1):=by rw[(Zdx d).1];simp
  rw[ZU c.1];rw[Zd]at this;omega
theorem ZyC(g:Nat)(ps:List (LB))(n:Nat)(A:Nat->Addr)(m:Int)(L:Hid (n=ps.length))(W:n<=6001)(M:Hid (∀i,i<ps.length->(ps.getD i []).length<=6000))(v:ZfN w g ps)(R:Vars w A m) :
  CP 44 #[.slice (some ⟨g, 0, none⟩) n n] w fun e u => BW w u /\
    ((∃(i:Nat) (fa:Nat),e=.returned (.iface 94 (Vp fa))/\u.heap[fa]?=some (.cells #[.string ⟨#[108,105,110,101]⟩,Vi i,.iface 389 (.pointer (some (A 5)))] 98 (0,0))/\Hid (ZbZ 0 [] ps=some i))∨
     (e=.returned .nilIface/\Hid (ZbZ 0 [] ps=none))):=by
 have X:=@run_makeMap prog;have N:g<w.heap.size:=v.1;go_enter func44,ntmps44;go_wp2
 go_loopw [14] (fun i wr => ∃ (k : Nat) (seen : List (LB)), k <= n /\ i = Vi k /\ wr.ownsMap prog 9 unitElem w.heap.size k (Sd seen) /\ Hid (ZbZ 0 [] ps = ZbZ k seen (ps.drop k)) /\ BW w wr /\ w.heap.size + 1 <= wr.heap.size)
   (fun i _=>n - (intOf i).toNat)
 case atStart=>exact⟨0,[],Yag _,rfl,World.ownsMap_made _ _ _ _,rfl,Zbal,by simp⟩
 case round=>
  obtain⟨k,seen,hk,rfl,x,D,d,O⟩:=hrel;have h:=R.below d;by_cases G:k<n
  ·have l:k<ps.length:=by rw[<-L.out];exact G
   obtain⟨sk,Y,B⟩:=(v.below d N).2 k l;have K:sk.size<=6000:=by rw[ZU B];exact M.out k l
   have E:Hid (bl sk=ps.getD k []):=B;clear B;cases P:sk.toList.isEmpty
   ·have I:Hid (ps.getD k []≠[]):=by rw[<-E.out];exact Zij P
    have J:=h.max
    go_wp2_with fail
    refine(Zvp m K J).mono ?_;rintro e z ⟨a,b,f,rfl,Q,Z,j,rfl⟩;have S:∀o,((wr.alloc o).drewN j).cell? ⟨5,0,none⟩=some (.iface 389 (.pointer (some (A 5)))):=fun o=>(h.alloc o).sent _ Dc;have T:∀o,(wr.alloc o).cell? ⟨5,0,none⟩=some (.iface 389 (.pointer (some (A 5)))):=fun o=>(h.alloc o).sent _ Dc;have U:∀o,((wr.drewN j).alloc o).cell? ⟨5,0,none⟩=some (.iface 389 (.pointer (some (A 5)))):=fun o=>((h.drewN j).alloc o).sent _ Dc;have r:keyOf prog 9 (.string a)=some (.string a.data.toList):=keyOf_string_mk underlying9 (by unfold maxLen;omega)
    have C:Maps.has (Sd seen) (.string a.data.toList)=seen.contains (Zdz (ps.getD k [])):=by
     rw[ZwR];show seen.contains (bl a)=_;rw[Q.out,E.out]
    have c:(wr.drewN j).ownsMap prog 9 unitElem w.heap.size k (Sd seen):=x;clear J h;cases t:seen.contains (Zdz (ps.getD k []))
    ·have s:Hid (ZbZ 0 [] ps=ZbZ (k+1) (seen++[Zdz (ps.getD k [])]) (ps.drop (k+1))):=hid (by rw[D.out];exact ZDt l I.out t);rw[t]at C;clear t
     go_wp2_with (first
       | (at_lookup;refine wpList_lookup_own_unit _ rfl _ _ 202 rfl 9 205 law9 underlying202 (Ztz) w.heap.size k _ rfl c _ _ rfl r ?_)
       | (at_mapUpdate;refine wpList_mapUpdate_own _ rfl _ _ _ 202 rfl 9 205 law9 underlying202 (unitElem (H:=Unit)) w.heap.size k _ rfl (c.alloc _) (by unfold maxLen;omega) _ _ _ rfl rfl r _ [] unitElem_mk ?_;intro y F p))
     have s1:=p.size;simp at s1
     go_roundw
     case rel=>
      refine⟨k+1,_,by omega,by go_num,?_,s,?_,by omega⟩
      ·rw[ZtD,<-E.out,<-Q.out];exact F
      ·exact((ZhQ d j).alloc (by simp;omega) _).grown p (by simp;omega) (fun q V=>by cases V;exact Yac _)
     case measure=>simp[intOf];omega
    ·have s:Hid (ZbZ 0 [] ps=some k):=hid (by rw[D.out];exact ZDs l I.out t);rw[t]at C;clear t
     go_wp2_with (first
       | (at_lookup;refine wpList_lookup_own_unit _ rfl _ _ 202 rfl 9 205 law9 underlying202 (Ztz) w.heap.size k _ rfl c _ _ rfl r ?_)
       | (go_at_call 90;refine(ZnV).mono ?_;rintro e u ⟨rfl,rfl⟩))
     go_ret;refine⟨belB,Or.inl ⟨k,wr.heap.size+1,rfl,?_,s⟩⟩;rw[show wr.heap.size+1=(wr.alloc (.cells #[] 205)).heap.size by simp];exact Ye3
   ·have s:Hid (ZbZ 0 [] ps=ZbZ (k+1) seen (ps.drop (k+1))):=hid (by rw[D.out];exact ZDq l (by rw[<-E.out];exact ZgW P));go_wp2
    go_roundw
    case rel=>exact⟨k+1,seen,by omega,by go_num,x.mono (Nat.le_succ _),s,d,O⟩
    case measure=>simp[intOf];omega
  ·have s:Hid (ZbZ 0 [] ps=none):=hid (by rw[D.out];exact ZDr (by rw[<-L.out];exact G));go_wp2;go_ret;exact⟨d,Or.inr ⟨rfl,s⟩⟩
def Zbp(l:LB):Nat×Nat:=
 if 6000<l.length then (1,0)else match Zbh 0 [] (split 10 l)with
  | .inl i=>(5,i)
  | .inr es => match ZbZ 0 [] (split 10 l) with
    | some i=>(6,i)
    | none=>if 30<es.length∨200<ZcS es es.length then (7,0)else (0,0)
def Zei(w:World)(A:Nat->Addr)(err:Value)(r:Nat×Nat):Prop:=
 (err=.nilIface/\r=(0,0))∨
 (err=.iface 389 (.pointer (some (A 0)))/\r=(1,0))∨
 (err=.iface 389 (.pointer (some (A 6)))/\r=(7,0))∨
 (∃i fa:Nat,err=.iface 94 (Vp fa)/\r=(5,i)/\w.cell? ⟨fa,1,none⟩=some (Vi i)/\w.cell? ⟨fa,2,none⟩=some (.iface 389 (.pointer (some (A 4)))))∨
 (∃i fa:Nat,err=.iface 94 (Vp fa)/\r=(6,i)/\w.cell? ⟨fa,1,none⟩=some (Vi i)/\w.cell? ⟨fa,2,none⟩=some (.iface 389 (.pointer (some (A 5)))))
theorem Zn8{fa:Nat}{y:Value}{t:TypeId}(h:w.heap[fa]?=some (.cells #[x,y,z] t (0,0))):w.cell? ⟨fa,1,none⟩=some y/\w.cell? ⟨fa,2,none⟩=some z:=by
 simp[World.cell?,h]
theorem ZRN(s:BA)(A:Nat->Addr)(m:Int)(r:Nat×Nat)(w:World)(k:Vars w A m)
  (f:Hid (CP 24 #[.string s] w fun e u=>∃sv err,e=.returned (.tuple #[sv,err])/\Hid (Zei u A err r)/\BW w u)) :
  CP 13 #[.string s] w fun e u=>e=.returned (.tuple #[Vi r.1,Vi r.2])/\BW w u:=by
 go_enter func13,ntmps13
 go_wp2_with fail
 refine f.mono ?_;rintro e y ⟨sv,err,rfl,g,a⟩;have c:=k.below a;rcases g.out with ⟨rfl,rfl⟩|⟨rfl,rfl⟩|⟨rfl,rfl⟩|⟨i,fa,rfl,rfl,h,j⟩|⟨i,fa,rfl,rfl,h,j⟩
 ·go_wp2_with (first|(go_at_call 20;refine(Zik A m c).mono ?_;rintro e u ⟨rfl,rfl⟩)|(go_at_call 21;refine(Ziq).mono ?_;rintro e u ⟨rfl,d⟩))
  go_ret2;exact⟨rfl,a.trans (d.mono a.size)⟩
 ·go_wp2_with (first|(go_at_call 20;refine(ZjQ A m c).mono ?_;rintro e u ⟨rfl,rfl⟩)|(go_at_call 21;refine(Zdm A m c).mono ?_;rintro e u ⟨rfl,d⟩))
  go_ret2;exact⟨rfl,a.trans (d.mono a.size)⟩
 ·go_wp2_with (first|(go_at_call 20;refine(Zrk A m c).mono ?_;rintro e u ⟨rfl,rfl⟩)|(go_at_call 21;refine(Zdm A m c).mono ?_;rintro e u ⟨rfl,d⟩))
  go_ret2;exact⟨rfl,a.trans (d.mono a.size)⟩
 ·go_wp2_with (first|(go_at_call 20;refine(Zrl A m c fa j).mono ?_;rintro e u ⟨rfl,rfl⟩)|(go_at_call 21;refine(ZdB A m fa i c h).mono ?_;rintro e u ⟨rfl,d⟩))
  go_ret2;exact⟨rfl,a.trans (d.mono a.size)⟩
 ·go_wp2_with (first|(go_at_call 20;refine(Zrn A m c fa j).mono ?_;rintro e u ⟨rfl,rfl⟩)|(go_at_call 21;refine(ZdB A m fa i c h).mono ?_;rintro e u ⟨rfl,d⟩))
  go_ret2;exact⟨rfl,a.trans (d.mono a.size)⟩
theorem ZBI{last:Int}{k:Nat}(h:Zcq last n ps=some k):k<=n+ps.length:=by
 induction ps generalizing last n with
 | nil=>simp[Zcq]at h;omega
 | cons x xs ih=>
  unfold Zcq at h;cases a:Zdn x with
  | none=>rw[a]at h;cases h
  | some t=>
   rw[a]at h;simp only at h;split at h
   ·cases h
   ·have:=ih h;simp;omega
theorem ZBK(h:Zcz l=some n):n<=l.length+1:=by
 unfold Zcz at h;have a:=Znm 32 l;generalize ZbI 32 l=st at h a;obtain⟨r,f⟩:=st;simp only at h a;split at h
 ·have:=Yax h;omega
 ·split at h
  ·have c:=ZBI h;have d:=Zhd 32 r;omega
  ·cases h
theorem Zys{a b:LB}(h:line l=some (a,b,n)):n<=l.length+1:=by
 cases d:cut 123 l with
 | none=>rw[ZjF d]at h;cases h
 | some p=>
  obtain⟨x,r⟩:=p;cases c:cut 125 r with
  | none=>rw[ZjE d c]at h;cases h
  | some q=>
   obtain⟨y,z⟩:=q;rw[ZjG d c]at h
   have f:z.length<=l.length:=by
    rw[(Zdx d).1,(Zdx c).1];simp;omega
   split at h
   ·cases e:Zcz z with
    | none=>rw[e]at h;cases h
    | some k=>
     rw[e]at h;simp at h;have:=ZBK e;omega
   ·cases h
theorem ZqJ(h:Zbh i acc ps=.inr es)(f:∀e∈acc,e.count<=6001)(g:∀p∈ps,p.length<=6000) :
  es.length<=acc.length+ps.length/\∀e∈es,e.count<=6001:=by
 induction ps generalizing i acc with
 | nil=>
  simp only[Zbh,Sum.inr.injEq]at h;subst h;exact⟨by simp,f⟩
 | cons x xs ih=>
  unfold Zbh at h;split at h
  ·have:=ih h f (fun p d=>g p (by simp[d]));exact⟨by simp;omega,this.2⟩
  ·cases j:line x with
   | none=>rw[j]at h;cases h
   | some t=>
    obtain⟨a,b,n⟩:=t;rw[j]at h;simp only at h;have k:=g x (by simp);have l:=Zys j
    have := ih h (fun e c => by
      rcases Yar.1 c with c|c
      · exact f e c
      · simp at c;subst c;show n<=6001;omega) (fun p d=>g p (by simp[d]))
    exact⟨by have:=this.1;simp at this ⊢;omega,this.2⟩
theorem ZBr(s:BA)(A:Nat->Addr)(m:Int)(w:World)(c:Vars w A m)(d:6000<s.size)(a:s.size<=maxLen) :
  CP 24 #[.string s] w fun e u=>∃sv err,e=.returned (.tuple #[sv,err])/\Hid (Zei u A err (1,0))/\BW w u:=by
 unfold maxLen at a;have f:=c.sent 0 Dc;go_enter func24,ntmps24;go_wp2
 go_region
 all_goals (try go_wp2)
 all_goals (go_ret2;exact⟨_,_,rfl,Or.inr (Or.inl ⟨rfl,rfl⟩),belB⟩)
def ZiM(w:World)(v:Value)(l:LB):Prop:=∃(es:List Entry) (rs:List (Value×Value×Value×Value)),Zbh 0 [] (split 10 l)=.inr es/\es.length<=30/\w.ownsRow 0 199 4 v es.length (ZbP rs)/\AllV w rs es (split 10 l)
theorem ZiM.below(h:ZiM w v l)(a:BW w w'):ZiM w' v l:=by
 obtain⟨es,rs,c,d,e,f⟩:=h;exact⟨es,rs,c,d,Zn e a,f.below a⟩
theorem ZBt(s:BA)(A:Nat->Addr)(m:Int)(w:World)(R:Vars w A m)(hs:s.size<=6000) :
  CP 24 #[.string s] w fun e u=>∃sv err,e=.returned (.tuple #[sv,err])/\Hid (Zei u A err (Zbp (bl s)))/\BW w u/\Hid ((Zbp (bl s)).1=0->ZiM u sv (bl s)):=by
 have q:Hid (∀x,(match Zbh 0 [] (split 10 (bl s))with
  | .inl i=>(5,i)
  | .inr es => match ZbZ 0 [] (split 10 (bl s)) with
    | some i=>(6,i)
    | none=>if 30<es.length∨200<ZcS es es.length then (7,0)else (0,0))=x->Zbp (bl s)=x):=by
  intro x hx;unfold Zbp;rw[if_neg (by rw[Zd];omega)];exact hx
 have S:(split 10 (bl s)).length<=6001:=by have:=Zhd 10 (bl s);rw[Zd]at this;omega
 have H : Hid (∀ i, i < (split 10 (bl s)).length -> ((split 10 (bl s)).getD i []).length <= 6000) := fun i hi => by
   have:=Zkd 10 (bl s) i hi;rw[Zd]at this;omega
 go_enter func24,ntmps24
 go_wp2_with fail
 refine(Znd 10 s m hs R.max).mono ?_;rintro e y ⟨n,rfl,T,f,r⟩;have M:Hid (n=(split 10 (bl s)).length):=T;have I:n<=6001:=by omega
 have U:w.heap.size<y.heap.size:=f.1;clear T S;have J:=R.below r
 go_wp2_with fail
 refine(ZBh w.heap.size (split 10 (bl s)) n A m M I H f J).mono ?_;rintro e z ⟨t,E⟩;have K:=J.below t;have B:BW w z:=r.trans (t.mono r.size);rcases E with ⟨i,fa,rfl,d,c⟩|⟨v,es,rs,rfl,g,c,V⟩
 ·obtain⟨c1,c2⟩:=Zn8 d;have N:Hid (Zbp (bl s)=(5,i)):=hid (q.out (5,i) (by rw[c.out]))
  have a:Hid (Zei z A (.iface 94 (Vp fa)) (Zbp (bl s))):=by
   rw[q.out (5,i) (by rw[c.out])];exact Or.inr (Or.inr (Or.inr (Or.inl ⟨i,fa,rfl,rfl,c1,c2⟩)))
  clear c1 c2 d;go_wp2;go_ret2;exact⟨_,_,rfl,a,B,hid (fun h=>by rw[N.out]at h;cases h)⟩
 ·have j := ZqJ c.2 (fun e he => by simp at he) (fun p hp => by
    have:=Zne 10 (bl s) p hp;rw[Zd]at this;omega)
  have F:=f.below t U
  go_wp2_with fail
  refine(ZyC w.heap.size (split 10 (bl s)) n A m M I H F K).mono ?_;rintro e W ⟨k,C⟩;have L:=K.below k;have D:BW w W:=B.trans (k.mono B.size);rcases C with ⟨i,fa,rfl,d,G⟩|⟨rfl,G⟩
  ·obtain⟨c1,c2⟩:=Zn8 d;have N:Hid (Zbp (bl s)=(6,i)):=hid (q.out (6,i) (by rw[c.2];simp only[G.out]))
   have a:Hid (Zei W A (.iface 94 (Vp fa)) (Zbp (bl s))):=by
    rw[q.out (6,i) (by rw[c.2];simp only[G.out])];exact Or.inr (Or.inr (Or.inr (Or.inr ⟨i,fa,rfl,rfl,c1,c2⟩)))
   clear c1 c2 d;go_wp2;go_ret2;exact⟨_,_,rfl,a,D,hid (fun h=>by rw[N.out]at h;cases h)⟩
  ·have l:=Zn g k;have X:es.length<=6001:=by have:=j.1;simp at this;have:=M.out;omega
   have HC:Hid (∀e∈es,e.count<=6001):=j.2;have a2:=ZsA es j.2 es.length;have O:Hid (Zbp (bl s)=if 30<es.length∨200<ZcS es es.length then (7,0)else (0,0)):=q.out _ (by rw[c.2];simp only[G.out]);have hR:Hid (ZeP rs es):=c.1;have a3:=L.sent 6 Dc;obtain⟨av,cp,rfl⟩:=Zl g;have Y:Hid (Zbh 0 [] (split 10 (bl s))=.inr es):=c.2;have P:=hid (V.below k);clear j g c;by_cases Z:30<es.length
   ·have hd:decide (30<(es.length:Int))=true:=by simp;omega
    have a:Hid (Zbp (bl s)=(7,0)):=hid (by rw[O.out,if_pos (Or.inl Z)]);go_wp2
    go_region
    all_goals (try go_wp2)
    all_goals (go_ret2;exact⟨_,_,rfl,(by rw[a.out];exact Or.inr (Or.inr (Or.inl ⟨rfl,rfl⟩))),belB,hid (fun h=>by rw[a.out]at h;cases h)⟩)
   ·have hd:decide (30<(es.length:Int))=false:=by simp;omega
    go_wp2_with fail
    refine(Zvm es rs l hR HC X).mono ?_;rintro e w4 ⟨rfl,o⟩;have a0:BW w w4:=D.trans (o.mono D.size);have a4:=(L.below o).sent 6 Dc;by_cases Q:200<ZcS es es.length
    ·have a:Hid (Zbp (bl s)=(7,0)):=hid (by rw[O.out,if_pos (Or.inr Q)]);have a1:decide (200<(ZcS es es.length:Int))=true:=by simp;omega
     go_wp2
     go_region
     all_goals (try go_wp2)
     all_goals (go_ret2;exact⟨_,_,rfl,(by rw[a.out];exact Or.inr (Or.inr (Or.inl ⟨rfl,rfl⟩))),belB,hid (fun h=>by rw[a.out]at h;cases h)⟩)
    ·have a:Hid (Zbp (bl s)=(0,0)):=hid (by rw[O.out,if_neg (by rintro(h|h) <;> omega)]);have a1:decide (200<(ZcS es es.length:Int))=false:=by simp;omega
     go_wp2;go_ret2;exact⟨_,_,rfl,(by rw[a.out];exact Or.inl ⟨rfl,rfl⟩),a0,hid (fun _=>⟨es,rs,Y.out,by omega,Zn l o,P.below o⟩)⟩
def Zd4:List (LB)->LB
 | []=>[]
 | [x]=>x
 | x::y::r=>x++44::Zd4 (y::r)
theorem ZlU(x:LB)(l:List (LB))(h:l≠[]):Zd4 (x::l)=x++44::Zd4 l:=by
 cases l with
 | nil=>exact absurd rfl h
 | cons y r=>rfl
theorem Zxp{p:LB}{l:List (LB)}(h:l≠[]):Zd4 (pre p l)=p++Zd4 l:=by
 cases l with
 | nil=>exact absurd rfl h
 | cons y r=>
  cases r with
  | nil=>rfl
  | cons z t=>simp[pre,Zd4]
theorem Zxr(l:LB):Zd4 (split 44 l)=l:=by
 induction l with
 | nil=>rfl
 | cons b l ih=>
  by_cases a:b=44
  ·subst a;rw[Zhc,ZlU _ _ (Zix 44 l),ih];rfl
  ·rw[Zke 44 b l (by simp[a]),Zxp (Zix 44 l),ih];rfl
theorem Zxq(xs:List (LB))(x:LB)(h:xs≠[]):Zd4 (xs++[x])=Zd4 xs++44::x:=by
 induction xs with
 | nil=>exact absurd rfl h
 | cons y r ih=>
  cases r with
  | nil=>rfl
  | cons z t=>
   rw[Yby,ZlU y (z::t++[x]) (by simp),ih (by simp),ZlU y (z::t) (by simp)];simp
def wr1(p:LB×LB):LB:=p.1++[61]++p.2
theorem ZE0(ps:List (LB×LB))(k:Nat)(d:k<=ps.length):ZfK ps k=Zd4 ((ps.take k).map wr1):=by
 induction k with
 | zero=>rfl
 | succ k ih=>
  have ih':=ih Om;have e:ps.getD k ([],[])=ps[k]:=by simp[show k<ps.length by omega]
  rw[ZfK,e,List.take_succ_eq_append_getElem Om,Yaq,Ybb,Ydg];by_cases c:0<k
  ·rw[if_pos c,Zxq _ _ (by intro h;have a:=congrArg List.length h;rw[Yak,Ya7]at a;simp only[Ybq]at a;omega),ih'];simp[wr1]
  ·obtain rfl:k=0:=by omega
   simp[ZfK,Zd4,wr1]
theorem ZxG{x:LB}{p:LB×LB}(h:Zd5 last x=some p):x=wr1 p:=by
 unfold Zd5 at h;cases a:cut 61 x with
 | none=>rw[a]at h;cases h
 | some q=>
  obtain⟨n,v⟩:=q;rw[a]at h;simp only at h;split at h
  ·have:=Yax h;subst this;rw[(Zdx a).1];simp[wr1]
  ·cases h
theorem ZxJ{acc ps:List (LB×LB)}{xs:List (LB)}(h:ZbS last acc xs=some ps):∃qs,ps=acc++qs/\xs=qs.map wr1:=by
 induction xs generalizing last acc with
 | nil=>simp only[ZbS,Yci]at h;exact⟨[],by simp[h],rfl⟩
 | cons x xs ih=>
  unfold ZbS at h;cases a:Zd5 last x with
  | none=>rw[a]at h;cases h
  | some p=>
   rw[a]at h;obtain⟨qs,e1,e2⟩:=ih h;exact⟨p::qs,by rw[e1];simp,by rw[e2,Ybb,ZxG a]⟩
theorem ZE1{ps:List (LB×LB)}(h:Zcc l=some ps):ZfK ps ps.length=l:=by
 unfold Zcc at h;split at h
 ·rename_i a;have:=Yax h;subst this;rw[a];rfl
 ·obtain⟨qs,e1,e2⟩:=ZxJ h;simp at e1;subst e1;rw[ZE0 _ _ (Yac _),Ya4,<-e2,Zxr]
def ZdO(e:Entry):LB:=e.name++123::e.inside
theorem Zrf{n:LB}(h:Zx n=true):(123:UInt8)∉n:=by
 intro a;unfold Zx at h;rw[Yas]at h;have:=Ybu.1 h.1 _ a;exact absurd this Dc
theorem Zxv{e f:Entry}(d:Zx e.name=true)(g:Zx f.name=true):ZdO e=ZdO f ↔ e.name=f.name/\e.inside=f.inside:=by
 constructor
 ·intro h;have a:=Zgq 123 e.name e.inside (Zrf d);have c:=Zgq 123 f.name f.inside (Zrf g);unfold ZdO at h;rw[h,c]at a;have i:=Yax a;have:=List.append_inj h i.symm;exact⟨this.1,(List.cons.inj this.2).2⟩
 ·rintro⟨a,c⟩;unfold ZdO;rw[a,c]
theorem Zyt{a b:LB}(h:line l=some (a,b,n)):Zx a=true/\(Zcc b).isSome=true/\Zdz l=a++123::b:=by
 cases e:cut 123 l with
 | none=>rw[ZjF e]at h;cases h
 | some p=>
  obtain⟨x,r⟩:=p;cases c:cut 125 r with
  | none=>rw[ZjE e c]at h;cases h
  | some q=>
   obtain⟨y,z⟩:=q;rw[ZjG e c]at h;split at h
   ·rename_i d;rw[Yas]at d;cases g:Zcz z with
    | none=>rw[g]at h;cases h
    | some k=>
     rw[g]at h;simp only[Ybf,Yci,Yc5]at h;obtain⟨rfl,rfl,rfl⟩:=h;refine⟨d.1,d.2,?_⟩;have j:l=(x++123::y)++125::z:=by rw[(Zdx e).1,(Zdx c).1];simp
     have i:(125:UInt8)∉x:=by
      intro m;have f:=d.1;unfold Zx at f;rw[Yas]at f;exact absurd (Ybu.1 f.1 _ m) Dc
     have o:(125:UInt8)∉x++123::y:=by
      simp only[Yar,Yau,not_or];exact⟨i,by decide,(Zdx c).2⟩
     unfold Zdz;rw[j,ZoE o]
   ·cases h
def Zfk:List Entry->List Entry->Option Nat
 | _,[]=>none
 | seen,e::r=>if (seen.map ZdO).contains (ZdO e)then some e.at_ else Zfk (seen++[e]) r
theorem ZDu(h:Zbh i acc ps=.inr es):∃rest,es=acc++rest/\ZbZ i (acc.map ZdO) ps=Zfk acc rest:=by
 induction ps generalizing i acc with
 | nil=>simp only[Zbh,Sum.inr.injEq]at h;exact⟨[],by simp[h],rfl⟩
 | cons x xs ih=>
  unfold Zbh at h;unfold ZbZ;split at h
  ·rename_i c;rw[if_pos c];exact ih h
  ·rename_i c;rw[if_neg c];cases d:line x with
   | none=>rw[d]at h;cases h
   | some t=>
    obtain⟨a,b,n⟩:=t;rw[d]at h;simp only at h;obtain⟨rest,e1,e2⟩:=ih h;refine⟨⟨i,a,b,n⟩::rest,by rw[e1];simp,?_⟩;have e:Zdz x=ZdO ⟨i,a,b,n⟩:=(Zyt d).2.2;rw[e,Zfk];split
    ·rfl
    ·rw[Yaq]at e2;exact e2
theorem ZDv(h:Zbh 0 [] ps=.inr es):ZbZ 0 [] ps=Zfk [] es:=by
 obtain⟨rest,e1,e2⟩:=ZDu h;simp at e1;subst e1;exact e2
