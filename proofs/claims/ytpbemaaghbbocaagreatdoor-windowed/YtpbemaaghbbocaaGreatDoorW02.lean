/- Parts. -/
import Derived.Test.YtpbemaaghbbocaaGreatDoorW01
set_option linter.all false
set_option maxRecDepth 100000
set_option maxHeartbeats 16000000
namespace Go.Proofs.YtpbemaaghbbocaaGreatDoor
open Go.RowKit LS Go.Proofs.Tryz
variable {sy:Addr}{s y:BA}{x:Bool}{p:Int}{l:LB}{ts ts0:List Tok}{c xs:List Value}{a at_ b cp g k n q:Nat}{e fr:Nat×Nat}{r:Option Nat}{P:Program}{t:Tok}{v what:Value}{w w' w0:World}
structure PTok where
 kd:Nat
 at_:Nat
 tx:BA
 v:Nat
def ZbC:List PTok->List Value
 | []=>[]
 | t::l=>.int .i64 t.kd::.int .i64 t.at_::.string t.tx::.int .i64 t.v::ZbC l
theorem Zer(l m:List PTok):ZbC (l++m)=ZbC l++ZbC m:=by
 induction l with
 | nil=>rfl
 | cons a l ih=>simp[ZbC,ih]
theorem Zwj (l : List PTok) (j : Nat) : (ZbC l)[j * 4]? = l[j]?.map (fun t => Vi t.kd) /\ (ZbC l)[j * 4 + 1]? = l[j]?.map (fun t => Vi t.at_) /\ (ZbC l)[j * 4 + 2]? = l[j]?.map (fun t => .string t.tx) /\ (ZbC l)[j * 4 + 3]? = l[j]?.map (fun t => Vi t.v) := by
  induction l generalizing j with
  | nil=>simp[ZbC]
  | cons r l ih=>
    cases j with
    | zero=>simp[ZbC]
    | succ j=>
      obtain⟨a,c,d,e⟩:=ih j;refine⟨?_,?_,?_,?_⟩
      · rw[show(j+1)*4=j*4+1+1+1+1 by omega];simpa [ZbC] using a
      · rw[show(j+1)*4+1=j*4+1+1+1+1+1 by omega];simpa [ZbC] using c
      · rw[show(j+1)*4+2=j*4+2+1+1+1+1 by omega];simpa [ZbC] using d
      · rw[show(j+1)*4+3=j*4+3+1+1+1+1 by omega];simpa [ZbC] using e
def pk(k:Nat):Nat:=if k=0 then 4 else if k=1 then 0 else if k=2 then 1 else if k=3 then 2 else if k=4 then 3 else 5
def Zdf(p:PTok)(t:Tok):Prop:=p.kd=pk t.jx/\p.at_=t.at_/\bl p.tx=t.txt/\(t.jx=1->(p.v:Int)=numV t.txt)
structure RD (w:World) (b g cp:Nat) (ps:List PTok) (k:Nat):Prop where
 cells:w.heap[b]?=some (.cells #[.slice (some ⟨g,0,none⟩) ps.length cp,Vi k] 82 (0,0))
 own:w.ownsRow 0 87 4 (.slice (some ⟨g,0,none⟩) ps.length cp) ps.length (ZbC ps)
 lt:k<ps.length
theorem RD.below{ps:List PTok}(h:RD w b g cp ps k)(a:BW w w'):RD w' b g cp ps k:=
 ⟨(a.block b (Yae.1 h.cells).1).trans h.cells,Zn h.own a,h.lt⟩
theorem RD.all{ps:List PTok}(h:RD w b g cp ps k) :
  w.cell? ⟨b,0,none⟩=some (.slice (some ⟨g,0,none⟩) ps.length cp)/\w.cell? ⟨b,1,none⟩=some (Vi k)/\w.frozen? ⟨b,1,none⟩=false/\b<w.heap.size/\g<w.heap.size/\
  w.cell? ⟨g,k*4,none⟩=some (Vi (ps[k]'h.lt).kd)/\w.cell? ⟨g,k*4+1,none⟩=some (Vi (ps[k]'h.lt).at_)/\w.cell? ⟨g,k*4+2,none⟩=some (.string (ps[k]'h.lt).tx)/\w.cell? ⟨g,k*4+3,none⟩=some (Vi (ps[k]'h.lt).v):=by
 obtain⟨f1,f2,f3,f4⟩:=Zwj ps k;rw[List.getElem?_eq_getElem h.lt]at f1 f2 f3 f4;refine⟨by simp[World.cell?,h.cells],by simp[World.cell?,h.cells],by simp[World.frozen?,h.cells],(Yae.1 h.cells).1,Z1 h.own,Zi h.own _ _ f1,Zi h.own _ _ f2,Zi h.own _ _ f3,Zi h.own _ _ f4⟩
theorem ZiF{ps:List PTok}(h:RD w b g cp ps k) :
  Cq 33 #[Vp b] w fun e u=>e=.returned (.agg #[Vi (ps[k]'h.lt).kd,Vi (ps[k]'h.lt).at_,.string (ps[k]'h.lt).tx,Vi (ps[k]'h.lt).v])/\BW w u:=by
 obtain⟨c0,c1,_,a,c,d0,d1,d2,d3⟩:=h.all;have d:=h.lt;generalize ps[k]'h.lt=t at *
 obtain⟨kd,at_,tx,v⟩:=t;simp only at d0 d1 d2 d3 ⊢;generalize ps.length=n at *
 clear h;go_enter func33,ntmps33;go_wp2
 go_region
 all_goals
  go_wp2;exact bodyPost_ret (v:=.agg #[Vi kd,Vi at_,.string tx,Vi v]) (by simp[results,results33,go_sem]) rfl ⟨rfl,belB⟩
theorem ZlS(t:PTok)(s:BA)(w:World) :
  Cq 110 #[.agg #[Vi t.kd,Vi t.at_,.string t.tx,Vi t.v],.string s] w fun e u=>e=.returned (.bool (((t.kd:Int) == 3) && (t.tx.toList == s.toList)))/\BW w u:=by
 obtain⟨kd,at_,tx,v⟩:=t;simp only;generalize a:((kd:Int) == 3)=x;cases x
 ·go_enter func110,ntmps110;go_wp2;go_ret;exact⟨rfl,belB⟩
 ·go_enter func110,ntmps110;go_wp2;go_ret;exact⟨rfl,belB⟩
theorem Zp0(t:PTok)(s:BA)(w:World) :
  Cq 117 #[.agg #[Vi t.kd,Vi t.at_,.string t.tx,Vi t.v],.string s] w fun e u=>e=.returned (.bool (((t.kd:Int) == 1) && (t.tx.toList == s.toList)))/\BW w u:=by
 obtain⟨kd,at_,tx,v⟩:=t;simp only;generalize a:((kd:Int) == 1)=x;cases x
 ·go_enter func117,ntmps117;go_wp2;go_ret;exact⟨rfl,belB⟩
 ·go_enter func117,ntmps117;go_wp2;go_ret;exact⟨rfl,belB⟩
def ZM(w:World)(v:Value)(at_:Int)(what:Addr):Prop:=∃fa:Nat,v=.iface 94 (Vp fa)/\w.heap[fa]?=some (.cells #[.string ⟨#[98,121,116,101]⟩,Vi at_,.iface 389 (.pointer (some what))] 98 (0,0))
theorem ZM.below{at_:Int}{what:Addr}(h:ZM w v at_ what)(c:BW w w'):ZM w' v at_ what:=by
 obtain⟨fa,d,a⟩:=h;exact⟨fa,d,(c.block fa (Yae.1 a).1).trans a⟩
theorem ZkT{i:Int} :
  Cq 68 #[Vi i,.iface 389 what] w fun e u=>e=.returned (.iface 94 (Vp w.heap.size))/\u=w.alloc (.cells #[.string ⟨#[98,121,116,101]⟩,Vi i,.iface 389 what] 98):=by
 go_enter func68,ntmps68;go_wp2;go_ret;exact⟨rfl,rfl⟩
theorem ZiZ{ps:List PTok}(h:RD w b g cp ps k)(d:w.cell? ⟨1,0,none⟩=some (.iface 389 (.pointer (some sy)))) :
  Cq 34 #[Vp b] w fun e u=>∃v,e=.returned v/\Hid (ZM u v (ps[k]'h.lt).at_ sy)/\BW w u:=by
 have H:Hid (RD w b g cp ps k):=h;have j:Hid (RD w.drew b g cp ps k):=RD.below h ((Yaf _ _).drew);have i:1<w.heap.size:=Yai _ _ d;obtain⟨t,f⟩:∃t,t=ps[k]'h.lt:=⟨_,rfl⟩
 have l:Hid (∀m:k<ps.length,ps[k]'m=t):=fun _=>f.symm;rw[<-f];clear f h;have o:∀W:World,(Instr.field 87 (.agg #[Vi t.kd,Vi t.at_,.string t.tx,Vi t.v]) 1).run prog W=.ok (Vi t.at_) W:=fun _=>rfl;go_enter func34,ntmps34;go_wp2
 go_region_with (first
   | (go_at_call 33
      refine(ZiF j.out).mono ?_;rintro e y ⟨rfl,a⟩;rw[l.out];have c:Hid (BW w y):=⟨a.os,a.tape,a.output,a.size,a.block⟩
      have n:y.cell? ⟨1,0,none⟩=some (.iface 389 (.pointer (some sy))):=(c.cell (p:=⟨_,0,none⟩) i).trans d;clear a)
   | (go_at_call 68
      refine(ZkT).mono ?_;rintro e z ⟨rfl,rfl⟩))
 all_goals
  go_wp2;go_ret;exact⟨_,rfl,⟨y.heap.size,rfl,Go.Deep.blk_alloc_new _ _⟩,c.alloc c.size _⟩
def ZJo:List (BA×BA×Bool)->List Value
 | []=>[]
 | (a,b,c)::l=>.string a::.string b::.bool c::ZJo l
def blC(c:BA×BA×Bool):LB×LB×Bool:=(bl c.1,bl c.2.1,c.2.2)
theorem Zjr{z:LB×List Tok}(a:k≠0)(h:ZH k ts=.ok z):z.2.length+1=ts.length/\z.1=(hd ts).txt/\z.2=ts.tail:=by
 unfold ZH at h;split at h
 ·rename_i e;injection h with h;subst h;cases ts with
  | nil=>exact absurd e.symm a
  | cons t r=>exact⟨rfl,rfl,rfl⟩
 ·cases h
theorem ZeB{c:LB}{z:Unit×List Tok}(h:Zq c ts=.ok z):z.2.length+1=ts.length:=by
 unfold Zq at h;split at h
 ·rename_i e;injection h with h;subst h;cases ts with
  | nil=>exact absurd (Or.inl rfl) (Zib e)
  | cons t r=>rfl
 ·cases h
theorem Zxj{c:LB}(e:isT c (hd ts)=true):ts.tail.length+1=ts.length:=by
 cases ts with
 | nil=>exact absurd (Or.inl rfl) (Zib e)
 | cons t r=>rfl
def ZJu{α β:Type}(item:List Tok->Out α)(close:LB)(f:β->α)(N:Nat)(ts0:List Tok)(qs:List β)(rr:Out Unit):Prop:=
 (∀e,rr=.error e->ZS item close N [] ts0=.error e)/\(∀ts,rr=.ok ((),ts)->∃m,ZS item close N [] ts0=ZS item close m (qs.map f) ts/\ts.length+1<=m/\qs.length+ts.length<=ts0.length)/\qs.length<=ts0.length+1
theorem ZJu.start{α β:Type}(item:List Tok->Out α)(close:LB)(f:β->α)(N:Nat)(ts0:List Tok)(a:ts0.length+1<=N):ZJu item close f N ts0 [] (.ok ((),ts0)):=
 ⟨fun e h=>(by cases h),fun ts h=>by injection h with h;injection h with _ h;subst h;exact⟨N,rfl,a,by simp⟩,by simp⟩
theorem ZJu.done{α β:Type}{item:List Tok->Out α}{close:LB}{f:β->α}{N:Nat}{qs:List β}{rr:Out Unit}(h:ZJu item close f N ts0 qs rr)(hd:isR close rr=true∨∃e,rr=.error e) :
  ZJm (ZS item close N [] ts0)=(bnd rr fun _ ts=>Zq close ts)/\∀z,ZS item close N [] ts0=.ok z->qs.map f=z.1:=by
 cases rr with
 | error e=>rw[h.1 e rfl];exact⟨rfl,fun z a=>(by cases a)⟩
 | ok y=>
  obtain⟨⟨⟩,ts⟩:=y;rcases hd with hd|⟨e,hd⟩
  ·obtain⟨m,d,g,i⟩:=h.2.1 ts rfl;obtain⟨k,rfl⟩:∃k,m=k+1:=⟨m - 1,by omega⟩
   have c:isT close (LS.hd ts)=true:=hd
   have e1:ZS item close (k+1) (qs.map f) ts=.ok (qs.map f,ts.tail):=by
    show(if isT close (LS.hd ts)then _ else _)=_;rw[c];rfl
   rw[d,e1];refine⟨?_,fun z a=>by injection a with a;subst a;rfl⟩;show _=Zq close ts;unfold Zq;rw[c];rfl
  ·cases hd
theorem Zos(t:List Tok)(z:(LB×LB×Bool)×List Tok)(h:ZV t=.ok z):z.2.length+1<=t.length:=by
 unfold ZV at h;cases d:ZH 2 t with
 | error e=>rw[d]at h;cases h
 | ok y=>
  have l1:=(Zjr Dc d).1;rw[d]at h;simp only[bnd]at h;cases a:Zdc y.2 with
  | error e=>rw[a]at h;cases h
  | ok u=>
   have l2:u.2.length<=y.2.length:=by
    unfold Zdc at a;split at a
    ·injection a with a;subst a;simp
    ·cases c:Zq [61] y.2 with
     | error e=>rw[c]at a;cases a
     | ok q=>rw[c]at a;injection a with a;subst a;have:=ZeB c;show q.2.length<=_;omega
   rw[a]at h;simp only at h;cases c:ZH 3 u.2 with
   | error e=>rw[c]at h;cases h
   | ok q=>
    have l3:=(Zjr Dc c).1;rw[c]at h;injection h with h;subst h;show q.2.length+1<=_;omega
def CAt(w:World)(a:Nat)(x y:BA)(v:Bool):Prop:=w.heap[a]?=some (.cells #[.string x,.string y,.bool v] 283 (0,0))
theorem CAt.lt{x:BA}{v:Bool}(h:CAt w a x y v):a<w.heap.size:=(Yae.1 h).1
theorem CAt.all{x:BA}{v:Bool}(h:CAt w a x y v):w.cell? ⟨a,0,none⟩=some (.string x)/\w.cell? ⟨a,1,none⟩=some (.string y)/\w.cell? ⟨a,2,none⟩=some (.bool v):=by
 unfold CAt at h;refine⟨?_,?_,?_⟩ <;> simp[World.cell?,h]
theorem CAt.frozen{x:BA}{v:Bool}(h:CAt w a x y v)(o:Nat):w.frozen? ⟨a,o,none⟩=false:=by
 unfold CAt at h;simp[World.frozen?,h]
theorem CAt.grown{x:BA}{v:Bool}(h:CAt w a x y v)(c:w.grownBy w' r)(d:some a≠r):CAt w' a x y v:=(c.block a h.lt d).trans h
theorem ZdA{base:Nat}{e:TypeId}{size:Nat}(h:w.ownsRow base e size v n xs)(a:∀k,v.ownBlock=some k->w'.heap[k]?=w.heap[k]?):w'.ownsRow base e size v n xs:=by
 refine⟨h.1,?_⟩;rcases h.2 with c|⟨g,cap,cur,rfl,d,f,r⟩
 ·exact Or.inl c
 ·exact Or.inr ⟨g,cap,cur,rfl,d,(a g rfl).trans f,r⟩
def ZJq(w:World)(base:Nat)(p:PV)(cs:List (LB×LB×Bool)):Prop:=∃qs:List (BA×BA×Bool),w.ownsRow base 283 3 (.slice p.ca p.cn p.cc) qs.length (ZJo qs)/\qs.map blC=cs
theorem ZJq.nil(w:World)(base:Nat)(p:PV)(a:p.ca=none)(c:p.cn=0)(d:p.cc=0):ZJq w base p []:=⟨[],by rw[a,c,d];exact Ybc _ _ _ _,rfl⟩
theorem RD.step{ps:List PTok}(h:RD w b g cp ps k)(c:k+1<ps.length):RD (w.setCell ⟨b,1,none⟩ (Vi ((k+1:Nat):Int))) b g cp ps (k+1):=by
 have a:b≠g:=by
  rintro rfl;exact Zcx h.own h.cells Dc rfl
 refine⟨?_,ZdA h.own (fun j d=>Go.Deep.blk_setCell_other _ _ _ _ ?_),c⟩
 ·have:=h.cells;simp only[World.setCell,Ybn,this,if_true,Ybf];rfl
 ·have:j=g:=by simpa [Value.ownBlock] using d.symm
  rw[this];exact fun e=>a e.symm
theorem RD.kept{ps:List PTok}(h:RD w b g cp ps k)(a:∀j,j<w.heap.size->w'.heap[j]?=w.heap[j]?):RD w' b g cp ps k:=
 ⟨(a b (Yae.1 h.cells).1).trans h.cells,ZdA h.own (fun j c=>a j (h.own.lt j c).2),h.lt⟩
def ZY(t:PTok)(s:BA):Bool:=((t.kd:Int) == 3) && (t.tx.toList == s.toList)
def ZdF(t:PTok)(s:BA):Bool:=((t.kd:Int) == 1) && (t.tx.toList == s.toList)
def Took(w':World)(b g cp:Nat)(ps:List PTok)(k:Nat)(sy:Addr)(at_:Int)(ok:Bool)(v:Value):Prop:=(ok=true/\v=.nilIface/\RD w' b g cp ps (k+1))∨(ok=false/\ZM w' v at_ sy/\RD w' b g cp ps k)
theorem ZC5{ps:List PTok}(h:RD w b g cp ps k)(s:BA)(B:ZY (ps[k]'h.lt) s=true->k+1<ps.length)(J:ps.length<=6002)(i:w.cell? ⟨1,0,none⟩=some (.iface 389 (.pointer (some sy)))) :
  Cq 152 #[Vp b,.string s] w fun e u=>∃v,e=.returned v/\Hid (Took u b g cp ps k sy (ps[k]'h.lt).at_ (ZY (ps[k]'h.lt) s) v)/\w.grownBy u (some b):=by
 have H:Hid (RD w b g cp ps k):=h;have I:=h.lt;have C:1<w.heap.size:=Yai _ _ i;obtain⟨t,m⟩:∃t,t=ps[k]'h.lt:=⟨_,rfl⟩
 have D:Hid (∀G:k<ps.length,ps[k]'G=t):=fun _=>m.symm;rw[<-m]at B ⊢;clear m h;go_enter func152,ntmps152
 go_wp2_with fail
 refine(ZiF H.out).mono ?_;rintro e y ⟨rfl,j⟩;rw[D.out];have d:Hid (BW w y):=j;clear j
 go_wp2_with fail
 refine(ZlS t s y).mono ?_;rintro e z ⟨rfl,l⟩;have a:Hid (BW w z):=d.trans (l.mono d.size);have c:Hid (RD z b g cp ps k):=RD.below H.out a.out;have n:z.cell? ⟨1,0,none⟩=some (.iface 389 (.pointer (some sy))):=(a.cell (p:=⟨_,0,none⟩) C).trans i;obtain⟨c0,c1,fz,_⟩:=c.all;rw[show(((t.kd:Int) == 3) && (t.tx.toList == s.toList))=ZY t s from rfl];clear l d;cases o:ZY t s
 ·have q:Hid (ZY t s=false):=o
  go_wp2_with fail
  refine(ZiZ c.out n).mono ?_;rintro e E ⟨v,rfl,r,f⟩;rw[D.out]at r;have x:Hid (Took E b g cp ps k sy t.at_ false v):=Or.inr ⟨rfl,r.out,RD.below c.out f⟩;have A:Hid (w.grownBy E (some b)):=Zw (a.trans (f.mono a.size));clear r f;go_wp2;go_ret;exact⟨_,rfl,by rw[q.out];exact x,A.out⟩
 ·have F:=B o;have q:Hid (ZY t s=true):=o;have x:Hid (Took (z.setCell ⟨b,1,none⟩ (Vi ((k+1:Nat):Int))) b g cp ps k sy t.at_ true .nilIface):=Or.inl ⟨rfl,rfl,c.step F⟩;have A:Hid (w.grownBy (z.setCell ⟨b,1,none⟩ (Vi ((k+1:Nat):Int))) (some b)):=ZA (Zw a.out) (Or.inl rfl);go_wp2;go_ret;exact⟨_,rfl,by rw[q.out];exact x,A.out⟩
theorem ZC7{ps:List PTok}(h:RD w b g cp ps k)(s:BA)(B:ZdF (ps[k]'h.lt) s=true->k+1<ps.length)(J:ps.length<=6002)(i:w.cell? ⟨1,0,none⟩=some (.iface 389 (.pointer (some sy)))) :
  Cq 153 #[Vp b,.string s] w fun e u=>∃v,e=.returned v/\Hid (Took u b g cp ps k sy (ps[k]'h.lt).at_ (ZdF (ps[k]'h.lt) s) v)/\w.grownBy u (some b):=by
 have H:Hid (RD w b g cp ps k):=h;have I:=h.lt;have C:1<w.heap.size:=Yai _ _ i;obtain⟨t,m⟩:∃t,t=ps[k]'h.lt:=⟨_,rfl⟩
 have D:Hid (∀G:k<ps.length,ps[k]'G=t):=fun _=>m.symm;rw[<-m]at B ⊢;clear m h;go_enter func153,ntmps153
 go_wp2_with fail
 refine(ZiF H.out).mono ?_;rintro e y ⟨rfl,j⟩;rw[D.out];have d:Hid (BW w y):=j;clear j
 go_wp2_with fail
 refine(Zp0 t s y).mono ?_;rintro e z ⟨rfl,l⟩;have a:Hid (BW w z):=d.trans (l.mono d.size);have c:Hid (RD z b g cp ps k):=RD.below H.out a.out;have n:z.cell? ⟨1,0,none⟩=some (.iface 389 (.pointer (some sy))):=(a.cell (p:=⟨_,0,none⟩) C).trans i;obtain⟨c0,c1,fz,_⟩:=c.all;rw[show(((t.kd:Int) == 1) && (t.tx.toList == s.toList))=ZdF t s from rfl];clear l d;cases o:ZdF t s
 ·have q:Hid (ZdF t s=false):=o
  go_wp2_with fail
  refine(ZiZ c.out n).mono ?_;rintro e E ⟨v,rfl,r,f⟩;rw[D.out]at r;have x:Hid (Took E b g cp ps k sy t.at_ false v):=Or.inr ⟨rfl,r.out,RD.below c.out f⟩;have A:Hid (w.grownBy E (some b)):=Zw (a.trans (f.mono a.size));clear r f;go_wp2;go_ret;exact⟨_,rfl,by rw[q.out];exact x,A.out⟩
 ·have F:=B o;have q:Hid (ZdF t s=true):=o;have x:Hid (Took (z.setCell ⟨b,1,none⟩ (Vi ((k+1:Nat):Int))) b g cp ps k sy t.at_ true .nilIface):=Or.inl ⟨rfl,rfl,c.step F⟩;have A:Hid (w.grownBy (z.setCell ⟨b,1,none⟩ (Vi ((k+1:Nat):Int))) (some b)):=ZA (Zw a.out) (Or.inl rfl);go_wp2;go_ret;exact⟨_,rfl,by rw[q.out];exact x,A.out⟩
def ZeX(t:PTok):Bool:=(t.kd:Int) == 1
theorem ZC6{ps:List PTok}(h:RD w b g cp ps k)(z:ZeX (ps[k]'h.lt)=true->k+1<ps.length)(O:ps.length<=6002)(m:w.cell? ⟨1,0,none⟩=some (.iface 389 (.pointer (some sy)))) :
  Cq 155 #[Vp b] w fun e u=>∃(x:BA) (v:Value),e=.returned (.tuple #[.string x,v])/\Hid (Took u b g cp ps k sy (ps[k]'h.lt).at_ (ZeX (ps[k]'h.lt)) v/\(ZeX (ps[k]'h.lt)=true->x=(ps[k]'h.lt).tx))/\w.grownBy u (some b):=by
 have H:Hid (RD w b g cp ps k):=h;have L:=h.lt;have A:1<w.heap.size:=Yai _ _ m;obtain⟨t,o⟩:∃t,t=ps[k]'h.lt:=⟨_,rfl⟩
 have B:Hid (∀I:k<ps.length,ps[k]'I=t):=fun _=>o.symm;rw[<-o]at z ⊢;clear o h;go_enter func155,ntmps155
 go_wp2_with fail
 refine(ZiF H.out).mono ?_;rintro e y ⟨rfl,a⟩;rw[B.out];obtain⟨kd,at_,tx,v⟩:=t;obtain⟨W,l⟩:∃W,W=y.alloc (.cells #[Vi kd,Vi at_,.string tx,Vi v] 87):=⟨_,rfl⟩
 have C:Hid (W=y.alloc (.cells #[Vi kd,Vi at_,.string tx,Vi v] 87)):=l;have n:W.heap[y.heap.size]?=some (.cells #[Vi kd,Vi at_,.string tx,Vi v] 87 (0,0)):=by rw[l];exact Go.Deep.blk_alloc_new _ _
 have c:Hid (BW w W):=hid (by rw[l];exact a.alloc a.size _);have d:Hid (RD W b g cp ps k):=RD.below H.out c.out;have q:W.cell? ⟨1,0,none⟩=some (.iface 389 (.pointer (some sy))):=(c.cell (p:=⟨_,0,none⟩) A).trans m;obtain⟨c0,c1,fz,M,_⟩:=d.all;have N:b<y.heap.size:=Yaw (Yae.1 H.cells).1 a.size
 have k2:(W.setCell ⟨b,1,none⟩ (Vi ((k+1:Nat):Int))).cell? ⟨y.heap.size,2,none⟩=some (.string tx):=by
  have:(W.setCell ⟨b,1,none⟩ (Vi ((k+1:Nat):Int))).heap[y.heap.size]?=W.heap[y.heap.size]?:=Go.Deep.blk_setCell_other _ _ _ _ (by show y.heap.size≠b;omega);unfold World.cell?;rw[this,n];rfl
 have D:Hid (k+1<ps.length->Took ((y.setCell ⟨b,1,none⟩ (Vi ((k+1:Nat):Int))).alloc (.cells #[Vi kd,Vi at_,.string tx,Vi v] 87)) b g cp ps k sy at_ true .nilIface):=fun f=>Or.inl ⟨rfl,rfl,(RD.step (RD.below H.out a) f).below Zbal⟩;have E:Hid (w.grownBy ((y.setCell ⟨b,1,none⟩ (Vi ((k+1:Nat):Int))).alloc (.cells #[Vi kd,Vi at_,.string tx,Vi v] 87)) (some b)):=ZbR (ZA (Zw a) (Or.inl rfl));clear a l n;generalize i:((kd:Int) == 1)=nb at *
 cases nb
 ·have r:Hid (ZeX ⟨kd,at_,tx,v⟩=false):=i;have F:((kd:Int) != 1)=true:=by rw[bne,i];rfl
  go_wp2_with fail
  rw[<-C.out];refine(ZiZ d.out q).mono ?_;rintro e G ⟨v3,rfl,s,j⟩;rw[B.out]at s;have J:Hid (Took G b g cp ps k sy at_ false v3):=Or.inr ⟨rfl,s.out,RD.below d.out j⟩;have K:Hid (w.grownBy G (some b)):=Zw (c.trans (j.mono c.size));clear s j;go_wp2;go_ret2;exact⟨_,_,rfl,by rw[r.out];exact⟨J.out,fun h=>(by cases h)⟩,K.out⟩
 ·have r:Hid (ZeX ⟨kd,at_,tx,v⟩=true):=i;have F:((kd:Int) != 1)=false:=by rw[bne,i];rfl
  have f:=z i;rw[C.out]at k2 c0 c1 fz;go_wp2;go_ret2;exact⟨_,_,rfl,by rw[r.out];exact⟨D.out f,fun _=>rfl⟩,E.out⟩
def opOf(t:PTok):Option Nat:=if ZdF t ⟨#[111,114]⟩then some 0 else if ZY t ⟨#[43]⟩then some 1 else if ZY t ⟨#[45]⟩then some 2 else if ZY t ⟨#[42]⟩then some 3 else if ZY t ⟨#[47]⟩then some 4 else none
def TAt(w:World)(a:Nat)(t:PTok):Prop:=w.heap[a]?=some (.cells #[Vi t.kd,Vi t.at_,.string t.tx,Vi t.v] 87 (0,0))
theorem TAt.all{t:PTok}(h:TAt w a t):w.cell? ⟨a,0,none⟩=some (Vi t.kd)/\w.cell? ⟨a,1,none⟩=some (Vi t.at_)/\w.cell? ⟨a,2,none⟩=some (.string t.tx)/\w.cell? ⟨a,3,none⟩=some (Vi t.v):=by
 unfold TAt at h;refine⟨?_,?_,?_,?_⟩ <;> simp[World.cell?,h]
theorem TAt.below{t:PTok}(h:TAt w a t)(c:BW w w'):TAt w' a t:=(c.block a (Yae.1 h).1).trans h
theorem ZgT(t:PTok)(f:ZY t s=x)(w0 w:World)(a:Nat)(g:TAt w a t)(d:BW w0 w) :
  Cq 110 #[.agg #[Vi t.kd,Vi t.at_,.string t.tx,Vi t.v],.string s] w fun e u=>e=.returned (.bool x)/\Hid (TAt u a t)/\Hid (BW w0 u):=by
 subst f;refine(ZlS t s w).mono ?_;rintro e u ⟨rfl,c⟩;exact⟨rfl,g.below c,d.trans (c.mono d.size)⟩
theorem ZEP(t:PTok)(f:ZdF t s=x)(w0:World)(a:Nat)(g:TAt w a t)(d:BW w0 w) :
  Cq 117 #[.agg #[Vi t.kd,Vi t.at_,.string t.tx,Vi t.v],.string s] w fun e u=>e=.returned (.bool x)/\Hid (TAt u a t)/\Hid (BW w0 u):=by
 subst f;refine(Zp0 t s w).mono ?_;rintro e u ⟨rfl,c⟩;exact⟨rfl,g.below c,d.trans (c.mono d.size)⟩
theorem ZzQ(t:PTok) :
  Cq 66 #[.agg #[Vi t.kd,Vi t.at_,.string t.tx,Vi t.v]] w fun e u=>e=.returned (.tuple #[Vi ((opOf t).getD 0:Nat),.bool (opOf t).isSome])/\BW w u:=by
 obtain⟨b1,n⟩:∃x,ZdF t ⟨#[111,114]⟩=x:=⟨_,rfl⟩
 obtain⟨b2,o⟩:∃x,ZY t ⟨#[43]⟩=x:=⟨_,rfl⟩
 obtain⟨b3,p⟩:∃x,ZY t ⟨#[45]⟩=x:=⟨_,rfl⟩
 obtain⟨b4,q⟩:∃x,ZY t ⟨#[42]⟩=x:=⟨_,rfl⟩
 obtain⟨b5,r⟩:∃x,ZY t ⟨#[47]⟩=x:=⟨_,rfl⟩
 have s:Hid (opOf t=if b1 then some 0 else if b2 then some 1 else if b3 then some 2 else if b4 then some 3 else if b5 then some 4 else none):=hid (by unfold opOf;rw[n,o,p,q,r]);have H:Hid (ZdF t ⟨#[111,114]⟩=b1/\ZY t ⟨#[43]⟩=b2/\ZY t ⟨#[45]⟩=b3/\ZY t ⟨#[42]⟩=b4/\ZY t ⟨#[47]⟩=b5):=⟨n,o,p,q,r⟩
 have a:Hid (TAt (w.alloc (.cells #[Vi t.kd,Vi t.at_,.string t.tx,Vi t.v] 87)) w.heap.size t):=Go.Deep.blk_alloc_new _ _;have c:Hid (BW w (w.alloc (.cells #[Vi t.kd,Vi t.at_,.string t.tx,Vi t.v] 87))):=Zbal;rw[s.out];clear n o p q r s;go_enter func66,ntmps66
 go_wp2_with fail
 refine(ZEP t H.1 w w.heap.size a.out c.out).mono ?_;rintro e y ⟨rfl,d,f⟩;clear a c;cases b1
 ·obtain⟨k0,k1,k2,k3⟩:=TAt.all d.out
  go_wp2_with fail
  clear k0 k1 k2 k3;refine(ZgT t H.2.1 w y w.heap.size d.out f.out).mono ?_;rintro e z ⟨rfl,g,h⟩;cases b2
  ·obtain⟨k0,k1,k2,k3⟩:=TAt.all g.out
   go_wp2_with fail
   clear k0 k1 k2 k3;refine(ZgT t H.2.2.1 w z w.heap.size g.out h.out).mono ?_;rintro e A ⟨rfl,i,j⟩;cases b3
   ·obtain⟨k0,k1,k2,k3⟩:=TAt.all i.out
    go_wp2_with fail
    clear k0 k1 k2 k3;refine(ZgT t H.2.2.2.1 w A w.heap.size i.out j.out).mono ?_;rintro e B ⟨rfl,k,l⟩;cases b4
    ·obtain⟨k0,k1,k2,k3⟩:=TAt.all k.out
     go_wp2_with fail
     clear k0 k1 k2 k3;refine(ZgT t H.2.2.2.2 w B w.heap.size k.out l.out).mono ?_;rintro e D ⟨rfl,C,m⟩;cases b5
     ·go_wp2;go_ret2;exact⟨rfl,m.out⟩
     ·go_wp2;go_ret2;exact⟨rfl,m.out⟩
    ·go_wp2;go_ret2;exact⟨rfl,l.out⟩
   ·go_wp2;go_ret2;exact⟨rfl,j.out⟩
  ·go_wp2;go_ret2;exact⟨rfl,h.out⟩
 ·go_wp2;go_ret2;exact⟨rfl,f.out⟩
def Zci:List PTok->List Tok->Prop
 | [],[]=>True
 | p::ps,t::ts=>Zdf p t/\Zci ps ts
 | _,_=>False
theorem Zci.snoc:∀ {ps:List PTok} {ts:List Tok} {p:PTok} {t:Tok},Zci ps ts->Zdf p t->Zci (ps++[p]) (ts++[t])
 | [],[],_,_,_,h=>⟨h,trivial⟩
 | _::ps,_::ts,_,_,h,a=>⟨h.1,Zci.snoc (ps:=ps) (ts:=ts) h.2 a⟩
 | [],_::_,_,_,h,_=>h.elim
 | _::_,[],_,_,h,_=>h.elim
theorem Zci.length:∀ {ps:List PTok} {ts:List Tok},Zci ps ts->ps.length=ts.length
 | [],[],_=>rfl
 | _::ps,_::ts,h=>by rw[Yaj,Yaj,Zci.length (ps:=ps) (ts:=ts) h.2]
 | [],_::_,h=>h.elim
 | _::_,[],h=>h.elim
theorem Zci.get:∀ {ps:List PTok} {ts:List Tok},Zci ps ts->∀(k:Nat) (a:k<ps.length) (c:k<ts.length),Zdf ps[k] ts[k]
 | _::_,_::_,h,0,_,_=>h.1
 | _::ps,_::ts,h,k+1,a,c=>Zci.get (ps:=ps) (ts:=ts) h.2 k (by simpa using a) (by simpa using c)
 | [],[],_,_,a,_=>absurd a (Ya1 _)
 | [],_::_,h,_,_,_=>h.elim
 | _::_,[],h,_,_,_=>h.elim
theorem Zx1{i:Nat}{e:Nat}(a:Zk l i=(t,e))(c:¬(t.jx=0∨t.jx=5)):ZN l (n+1) i=t::ZN l n e:=by
 show(if (Zk l i).1.jx=0∨(Zk l i).1.jx=5 then [(Zk l i).1] else (Zk l i).1::ZN l n (Zk l i).2)=_;rw[a,if_neg c]
theorem Zx0{i:Nat}{e:Nat}(a:Zk l i=(t,e))(c:t.jx=0∨t.jx=5):ZN l (n+1) i=[t]:=by
 show(if (Zk l i).1.jx=0∨(Zk l i).1.jx=5 then [(Zk l i).1] else (Zk l i).1::ZN l n (Zk l i).2)=_;rw[a,if_pos c]
def Zct(s:BA)(ps:List PTok)(at_:Nat):Prop:=at_<=s.size/\ps.length<=at_/\∃ts m,ZN (bl s) ((bl s).length+1) 0=ts++ZN (bl s) m at_/\s.size+1<=m+at_/\Zci ps ts
theorem Zct.start(s:BA):Zct s [] 0:=⟨Yag _,Yac _,[],(bl s).length+1,rfl,by rw[Zd];omega,trivial⟩
theorem Zct.skip{s:BA}{ps:List PTok}{at_:Nat}(h:Zct s ps at_)(a:at_<s.size)(c:s[at_]=32):Zct s ps (at_+1):=by
 obtain⟨_,f,ts,m,d,g,e⟩:=h;refine⟨a,by omega,ts,m,?_,by omega,e⟩;rw[d]
 congr 1
 cases m with
 | zero=>rfl
 | succ m=>
  show(if (Zk (bl s) at_).1.jx=0∨(Zk (bl s) at_).1.jx=5 then [(Zk (bl s) at_).1] else (Zk (bl s) at_).1::ZN (bl s) m (Zk (bl s) at_).2)=_;rw[Zx9 s at_ a c];rfl
theorem Zct.token{ps:List PTok}(h:Zct s ps at_){e:Nat}(d:Zk (bl s) at_=(t,e))(f:¬(t.jx=0∨t.jx=5)){p:PTok}(i:Zdf p t):Zct s (ps++[p]) e:=by
 obtain⟨j,n,ts,m,k,o,l⟩:=h;have c:=Zig (bl s) at_ (by rw[Zd];exact j);rw[d]at c;have g:=c.1 (fun h=>f (Or.inl h));have a:=c.2;rw[Zd]at a;simp only at g a;obtain⟨m',rfl⟩:∃m',m=m'+1:=⟨m - 1,by omega⟩
 refine⟨a,by simp;omega,ts++[t],m',?_,by omega,l.snoc i⟩;rw[k,Zx1 d f,Yan];rfl
theorem Zct.done{ps:List PTok}(h:Zct s ps at_){e:Nat}(a:Zk (bl s) at_=(t,e))(c:t.jx=0∨t.jx=5){p:PTok}(d:Zdf p t):Zci (ps++[p]) (ZN (bl s) ((bl s).length+1) 0):=by
 obtain⟨i,j,ts,m,f,k,g⟩:=h;obtain⟨m',rfl⟩:∃m',m=m'+1:=⟨m - 1,by omega⟩
 rw[f,Zx0 a c];exact g.snoc d
theorem ZqF(s:BA):Zk (bl s) s.size=(⟨0,[],s.size⟩,s.size):=by
 unfold Zk;have hd:(bl s).drop s.size=[]:=Yb8 (by rw[Zd];exact Yac _);rw[hd];show lexJ (bl s) s.size=_;unfold lexJ;rw[hd]
theorem Zx2(h:k<s.size)(hd:ZC s[k]=true):Zk (bl s) k=(if (ZQ 1000000000 (((bl s).drop k).take (run ZC ((bl s).drop k)))).isSome then ⟨1,((bl s).drop k).take (run ZC ((bl s).drop k)),k⟩else ⟨5,[],k⟩,k+run ZC ((bl s).drop k)):=by
 have a:s[k]≠32:=by rintro e;rw[e]at hd;revert hd;decide
 rw[ZjD s k h a];unfold lexC;rw[if_pos hd,<-ZdW s k h]
theorem Zx3(h:k<s.size)(hd:ZC s[k]=false)(a:Zp s[k]=true):Zk (bl s) k=(if 8<run Zp ((bl s).drop k)then ⟨5,[],k⟩else ⟨2,((bl s).drop k).take (run Zp ((bl s).drop k)),k⟩,k+run Zp ((bl s).drop k)):=by
 have c:s[k]≠32:=by rintro e;rw[e]at a;revert a;decide
 rw[ZjD s k h c];unfold lexC;rw[if_neg (by rw[hd];exact Ycv),if_pos a,<-ZdW s k h]
theorem ZdY(s:BA)(l:LB):(s.toList == l)=decide (l=bl s):=by
 rw[Zbt,Ybh,beq_iff_eq,decide_eq_true_iff];exact⟨fun h=>h.symm,fun h=>h.symm⟩
theorem ZlO (w : LB) : ∀ l : List (LB), (idx w l).isSome = l.any (fun x => decide (x = w))
  | []=>rfl
  | x :: l => by
    unfold idx;rw[List.any_cons];by_cases h:x=w
    · rw[if_pos h];simp[h]
    · rw[if_neg h,Option.isSome_map,ZlO w l];simp[h]
theorem ZpX(s:BA)(w:World) :
  Cq 112 #[.string s] w fun e u=>e=.returned (.bool (idx (bl s) ZW).isSome)/\u=w:=by
 have e1:=ZdY s [115,117,109];have e2:=ZdY s [109,97,120];have e3:=ZdY s [109,105,110];have e4:=ZdY s [99,111,117,110,116];have a:Hid ((idx (bl s) ZW).isSome=(decide ([115,117,109]=bl s) || (decide ([109,97,120]=bl s) || (decide ([109,105,110]=bl s) || (decide ([99,111,117,110,116]=bl s) || false))))):=ZlO _ _;rw[a.out];clear a;generalize decide ([115,117,109]=bl s)=b1 at *
 generalize decide ([109,97,120]=bl s)=b2 at *
 generalize decide ([109,105,110]=bl s)=b3 at *
 generalize decide ([99,111,117,110,116]=bl s)=b4 at *
 cases b1
 ·cases b2
  ·cases b3
   ·cases b4
    ·go_enter func112,ntmps112;go_wp2;go_ret;exact⟨rfl,rfl⟩
    ·go_enter func112,ntmps112;go_wp2;go_ret;exact⟨rfl,rfl⟩
   ·go_enter func112,ntmps112;go_wp2;go_ret;exact⟨rfl,rfl⟩
  ·go_enter func112,ntmps112;go_wp2;go_ret;exact⟨rfl,rfl⟩
 ·go_enter func112,ntmps112;go_wp2;go_ret;exact⟨rfl,rfl⟩
theorem ZpZ(s:BA)(w:World) :
  Cq 114 #[.string s] w fun e u=>e=.returned (.bool (idx (bl s) Z0).isSome)/\u=w:=by
 have e1:=ZdY s [116,111,116,97,108];have e2:=ZdY s [112,101,97,107];have e3:=ZdY s [108,111,119];have e4:=ZdY s [115,105,122,101];have e5:=ZdY s [114,105,115,101];have a:Hid ((idx (bl s) Z0).isSome=(decide ([116,111,116,97,108]=bl s) || (decide ([112,101,97,107]=bl s) || (decide ([108,111,119]=bl s) || (decide ([115,105,122,101]=bl s) || (decide ([114,105,115,101]=bl s) || false)))))):=ZlO _ _;rw[a.out];clear a;generalize decide ([116,111,116,97,108]=bl s)=b1 at *
 generalize decide ([112,101,97,107]=bl s)=b2 at *
 generalize decide ([108,111,119]=bl s)=b3 at *
 generalize decide ([115,105,122,101]=bl s)=b4 at *
 generalize decide ([114,105,115,101]=bl s)=b5 at *
 cases b1
 ·cases b2
  ·cases b3
   ·cases b4
    ·cases b5
     ·go_enter func114,ntmps114;go_wp2;go_ret;exact⟨rfl,rfl⟩
     ·go_enter func114,ntmps114;go_wp2;go_ret;exact⟨rfl,rfl⟩
    ·go_enter func114,ntmps114;go_wp2;go_ret;exact⟨rfl,rfl⟩
   ·go_enter func114,ntmps114;go_wp2;go_ret;exact⟨rfl,rfl⟩
  ·go_enter func114,ntmps114;go_wp2;go_ret;exact⟨rfl,rfl⟩
 ·go_enter func114,ntmps114;go_wp2;go_ret;exact⟨rfl,rfl⟩
theorem Zur(s:BA)(w:World) :
  Cq 157 #[.string s] w fun e u=>e=.returned (.bool (!decide (wOr=bl s) && !decide (wBy=bl s) && !(idx (bl s) ZW).isSome && !(idx (bl s) Z0).isSome))/\u=w:=by
 have e1:=ZdY s [111,114];have e2:=ZdY s [98,121];have a:Hid (∀w,Cq 112 #[.string s] w fun e u=>e=.returned (.bool (idx (bl s) ZW).isSome)/\u=w):=ZpX s;have c:Hid (∀w,Cq 114 #[.string s] w fun e u=>e=.returned (.bool (idx (bl s) Z0).isSome)/\u=w):=ZpZ s;show Calls _ _ _ _ fun e u=>e=.returned (.bool (!decide ([111,114]=bl s) && !decide ([98,121]=bl s) && !(idx (bl s) ZW).isSome && !(idx (bl s) Z0).isSome))/\u=w;generalize decide ([111,114]=bl s)=b1 at *
 generalize decide ([98,121]=bl s)=b2 at *
 generalize(idx (bl s) ZW).isSome=b3 at *
 generalize(idx (bl s) Z0).isSome=b4 at *
 cases b1 <;> cases b2 <;> cases b3 <;> cases b4
 all_goals
  go_enter func157,ntmps157
  go_wp2_with (first|(go_at_call 112;refine(a.out _).mono ?_;rintro e u ⟨rfl,rfl⟩)|(go_at_call 114;refine(c.out _).mono ?_;rintro e u ⟨rfl,rfl⟩))
  go_ret;exact⟨rfl,rfl⟩
def Zdt(t:Tok):Prop:=(t.jx=2->t.txt.all Zp=true)/\(t.jx=4->t.txt.all (fun c=>!Zp c)=true)
def ZeQ:List Tok->Prop
 | []=>False
 | [t]=>t.jx=0∨t.jx=5
 | t::u::l=>(t.jx=1∨t.jx=2∨t.jx=3∨t.jx=4)/\Zdt t/\ZeQ (u::l)
theorem ZeQ.tail(h:ZeQ ts)(a:¬((hd ts).jx=0∨(hd ts).jx=5)):ZeQ ts.tail/\1<ts.length:=by
 match ts,h with
 | [t],h=>exact absurd h a
 | t::u::l,h=>exact⟨h.2.2,by simp⟩
theorem ZeQ.head(h:ZeQ ts):Zdt (hd ts)/\0<ts.length/\(hd ts).jx<=5:=by
 match ts,h with
 | [t],h=>
  have a:t.jx=0∨t.jx=5:=h;refine⟨⟨fun e=>?_,fun e=>?_⟩,by simp,?_⟩
  ·exact absurd (show t.jx=2 from e) Om
  ·exact absurd (show t.jx=4 from e) Om
  ·show t.jx<=5;omega
 | t::u::l,h=>exact⟨h.2.1,by simp,by have:=h.1;show t.jx<=5;omega⟩
theorem ZkF{p:PTok}{l:List PTok}(h:Zci (p::l) ts):Zdf p (hd ts)/\Zci l ts.tail:=by
 match ts,h with
 | t::m,h=>exact h
structure RS where
 b:Nat
 g:Nat
 cp:Nat
 ps:List PTok
 sy:Addr
 dp:Addr
structure RK (w:World) (R:RS) (k:Nat) (ts:List Tok):Prop where
 rd:RD w R.b R.g R.cp R.ps k
 all:Zci (R.ps.drop k) ts
 wf:ZeQ ts
 len:R.ps.length<=302
 sy:w.cell? ⟨1,0,none⟩=some (.iface 389 (.pointer (some R.sy)))
 dp:w.cell? ⟨2,0,none⟩=some (.iface 389 (.pointer (some R.dp)))
theorem RK.lt{R:RS}(h:RK w R k ts):k<R.ps.length:=h.rd.lt
theorem RK.tok{R:RS}(h:RK w R k ts):Zdf (R.ps[k]'h.lt) (hd ts):=by
 have a:=h.all;rw[List.drop_eq_getElem_cons h.lt]at a;exact(ZkF a).1
theorem RK.size{R:RS}(h:RK w R k ts):k+ts.length=R.ps.length:=by
 have:=h.all.length;rw[Ybv]at this;have:=h.lt;omega
theorem Zn6{c0 c1:Value}{u:Value}{t:TypeId}(d:w.heap[b]?=some (.cells #[c0,c1] t (0,0)))(a:w.cell? ⟨g,0,none⟩=some v)(c:c0≠v)(_:u=u):g≠b:=by
 rintro rfl;simp[World.cell?,d]at a;exact c a
theorem RK.glob{R:RS}(h:RK w R k ts):1≠R.b/\2≠R.b:=
 ⟨Zn6 (u:=.nilIface) h.rd.cells h.sy (by intro e;cases e) rfl,Zn6 (u:=.nilIface) h.rd.cells h.dp (by intro e;cases e) rfl⟩
theorem RK.below{R:RS}(h:RK w R k ts)(a:BW w w'):RK w' R k ts:=
 ⟨h.rd.below a,h.all,h.wf,h.len,(a.cell (p:=⟨_,0,none⟩) (Yai _ _ h.sy)).trans h.sy,(a.cell (p:=⟨_,0,none⟩) (Yai _ _ h.dp)).trans h.dp⟩
theorem RK.blocks{R:RS}(h:RK w R k ts)(c:∀j,j<w.heap.size->(j=R.b∨j=R.g∨j=1∨j=2)->w'.heap[j]?=w.heap[j]?):RK w' R k ts:=by
 have d:=Yai _ _ h.sy;have e:=Yai _ _ h.dp;refine⟨⟨?_,?_,h.lt⟩,h.all,h.wf,h.len,?_,?_⟩
 ·exact(c _ (Yae.1 h.rd.cells).1 (Or.inl rfl)).trans h.rd.cells
 ·exact ZdA h.rd.own (fun j f => by
    have:j=R.g:=by simpa [Value.ownBlock] using f.symm
    subst this;exact c _ (Z1 h.rd.own) (Or.inr (Or.inl rfl)))
 ·exact(Ycc (a:=⟨1,0,none⟩) (c _ d (Or.inr (Or.inr (Or.inl rfl))))).trans h.sy
 ·exact(Ycc (a:=⟨2,0,none⟩) (c _ e (Or.inr (Or.inr (Or.inr rfl))))).trans h.dp
theorem RK.step{R:RS}(h:RK w R k ts)(d:¬((hd ts).jx=0∨(hd ts).jx=5)):RK (w.setCell ⟨R.b,1,none⟩ (Vi ((k+1:Nat):Int))) R (k+1) ts.tail:=by
 obtain⟨e,f⟩:=h.wf.tail d;have g:=h.size;obtain⟨g1,g2⟩:=h.glob;refine⟨h.rd.step Om,?_,e,h.len,?_,?_⟩
 ·have c:=h.all;rw[List.drop_eq_getElem_cons h.lt]at c;exact(ZkF c).2
 ·exact(Ycc (a:=⟨1,0,none⟩) (Go.Deep.blk_setCell_other _ _ _ _ g1)).trans h.sy
 ·exact(Ycc (a:=⟨2,0,none⟩) (Go.Deep.blk_setCell_other _ _ _ _ g2)).trans h.dp
theorem ZM.lt{a:Addr}(h:ZM w v p a):∃fa:Nat,v=.iface 94 (Vp fa):=by
 obtain⟨fa,c,_⟩:=h;exact⟨fa,c⟩
theorem ZM.set{a:Addr}(h:ZM w v p a){c:Array Value}{t:TypeId}(d:w.heap[q]?=some (.cells c t fr))(f:t≠98)(o:Nat)(x:Value):ZM (w.setCell ⟨q,o,none⟩ x) v p a:=by
 obtain⟨fa,g,e⟩:=h;refine⟨fa,g,(Go.Deep.blk_setCell_other _ _ _ _ ?_).trans e⟩;show fa≠q;rintro rfl;rw[e]at d;injection d with h3;injection h3 with _ h4;exact f h4.symm
theorem ZM.grown{a:Addr}(h:ZM w v p a)(g:w.grownBy w' (some b)){c:Array Value}{t:TypeId}(f:w.heap[b]?=some (.cells c t fr))(i:t≠98):ZM w' v p a:=by
 obtain⟨fa,j,d⟩:=h;refine⟨fa,j,(g.block fa (Yae.1 d).1 ?_).trans d⟩;intro e;injection e with e;subst e;rw[d]at f;injection f with h3;injection h3 with _ h4;exact i h4.symm
def Z9(w:World)(R:RS)(e:Nat×Nat)(v:Value):Prop:=(e.1=2/\ZM w v e.2 R.sy)∨(e.1=3/\ZM w v e.2 R.dp)
theorem Z9.below{R:RS}(h:Z9 w R e v)(d:BW w w'):Z9 w' R e v:=by
 rcases h with ⟨a,c⟩|⟨a,c⟩
 ·exact Or.inl ⟨a,c.below d⟩
 ·exact Or.inr ⟨a,c.below d⟩
theorem Z9.set{R:RS}(h:Z9 w R e v){c:Array Value}{t:TypeId}(f:w.heap[q]?=some (.cells c t fr))(g:t≠98)(o:Nat)(x:Value):Z9 (w.setCell ⟨q,o,none⟩ x) R e v:=by
 rcases h with ⟨a,d⟩|⟨a,d⟩
 ·exact Or.inl ⟨a,d.set f g o x⟩
 ·exact Or.inr ⟨a,d.set f g o x⟩
theorem Z9.shape{R:RS}(h:Z9 w R e v):∃fa:Nat,v=.iface 94 (Vp fa):=by
 rcases h with ⟨_,a⟩|⟨_,a⟩ <;> exact a.lt
def Res{α:Type}(R:RS)(V:World->α->Prop)(w:World)(r:Out α)(v:Value):Prop:=match r with
 | .error e=>Z9 w R e v
 | .ok x=>v=.nilIface/\(∃k,RK w R k x.2)/\V w x.1
theorem Ze0(h:k<=5):(pk k=3 ↔ k=4)/\(pk k=1 ↔ k=2)/\(pk k=2 ↔ k=3)/\(pk k=0 ↔ k=1)/\(pk k=4 ↔ k=0):=by
 unfold pk
 match k,h with
 | 0,_=>decide
 | 1,_=>decide
 | 2,_=>decide
 | 3,_=>decide
 | 4,_=>decide
 | 5,_=>decide
theorem Zrg  (e : l.all Zp = true) (d : l.all (fun c => !Zp c) = true) : l = [] := by
  cases l with
  | nil=>rfl
  | cons a l=>
    simp at e d;rw[e.1]at d;exact absurd d.1 Dc
theorem ZdP {p : PTok}  (h : Zdf p t) (g : Zdt t) (i : t.jx <= 5)  (j : (bl s).all (fun c => !Zp c) = true) (d : bl s ≠ []) : ZY p s = isT (bl s) t := by
  obtain⟨k,_,l,_⟩:=h;unfold ZY isT;rw[k,Zbt,Zbt,l];have f:=(Ze0 i).1;by_cases a:t.txt=bl s
  · rw[beq_iff_eq.2 a,Yd3,Yd3]
    have m:t.jx≠2:=fun e=>d (by rw[<-a];exact Zrg (g.1 e) (by rw[a];exact j));rw[beq_eq_false_iff_ne.2 m,Yft,Ybh,beq_iff_eq,beq_iff_eq];exact⟨fun e=>f.1 Om,fun e=>by rw[f.2 e];rfl⟩
  · rw[beq_eq_false_iff_ne.2 a,Ydi,Ydi]
theorem Znz{p:PTok}(h:Zdf p t)(f:Zdt t)(g:t.jx<=5)(i:(bl s).all Zp=true)(c:bl s≠[]):ZdF p s=isT (bl s) t:=by
 obtain⟨j,_,k,_⟩:=h;unfold ZdF isT;rw[j,Zbt,Zbt,k];have d:=(Ze0 g).2.1;by_cases a:t.txt=bl s
 ·rw[beq_iff_eq.2 a,Yd3,Yd3];have l:t.jx≠4:=fun e=>c (by rw[<-a];exact Zrg (by rw[a];exact i) (f.2 e));rw[beq_eq_false_iff_ne.2 l,Bool.or_false,Ybh,beq_iff_eq,beq_iff_eq];exact⟨fun e=>d.1 Om,fun e=>by rw[d.2 e];rfl⟩
 ·rw[beq_eq_false_iff_ne.2 a,Ydi,Ydi]
theorem Zd3{s:LB}(h:isT s t=true):¬(t.jx=0∨t.jx=5):=by
 unfold isT at h;rw[Yas,Yct,beq_iff_eq,beq_iff_eq]at h;omega
theorem Took.res{R:RS}{ok:Bool}(h:RK w R k ts)(c:w.grownBy w' (some R.b))(m:Took w' R.b R.g R.cp R.ps k R.sy (R.ps[k]'h.lt).at_ ok v)(n:ok=true->¬((hd ts).jx=0∨(hd ts).jx=5)){α:Type}{V:World->α->Prop}{a:α}(o:ok=true->V w' a) :
  Res R V w' (if ok then .ok (a,ts.tail)else .error (2,(hd ts).at_)) v:=by
 have d:(R.ps[k]'h.lt).at_=(hd ts).at_:=h.tok.2.1;rcases m with ⟨rfl,rfl,f⟩|⟨rfl,i,f⟩
 ·have j:=n rfl;obtain⟨p,q⟩:=h.wf.tail j;obtain⟨g1,g2⟩:=h.glob;refine⟨rfl,⟨k+1,f,?_,p,h.len,?_,?_⟩,o rfl⟩
  ·have l:=h.all;rw[List.drop_eq_getElem_cons h.lt]at l;exact(ZkF l).2
  ·exact(Ycc (a:=⟨1,0,none⟩) (c.block _ (Yai _ _ h.sy) (fun e=>g1 (Yax e)))).trans h.sy
  ·exact(Ycc (a:=⟨2,0,none⟩) (c.block _ (Yai _ _ h.dp) (fun e=>g2 (Yax e)))).trans h.dp
 ·rw[d]at i;exact Or.inl ⟨rfl,i⟩
theorem ZdT  {R : RS}   (h : RK w R k ts) (s : BA) (i : (bl s).all (fun c => !Zp c) = true) (f : bl s ≠ []) :
    Cq 152 #[Vp R.b,.string s] w fun e u=>∃v,e=.returned v/\Hid (Res R (fun _ (_:Unit)=>True) u (Zq (bl s) ts) v)/\w.grownBy u (some R.b):=by
  have d:=ZdP h.tok h.wf.head.1 h.wf.head.2.2 i f
  have j : ZY (R.ps[k]'h.lt) s = true -> k + 1 < R.ps.length := fun e => by
    have:=(h.wf.tail (Zd3 (d.symm.trans e))).2;have:=h.size;omega
  refine(ZC5 h.rd s j (by have:=h.len;omega) h.sy).mono ?_;rintro e u ⟨v,rfl,l,g⟩;refine⟨v,rfl,?_,g⟩;have:=l.res (α:=Unit) (V:=fun _ _=>True) (a:=()) h g (fun e=>Zd3 (d.symm.trans e)) (fun _=>trivial);rw[d]at this;exact this
theorem ZC8{R:RS}(h:RK w R k ts)(s:BA)(g:(bl s).all Zp=true)(d:bl s≠[]) :
  Cq 153 #[Vp R.b,.string s] w fun e u=>∃v,e=.returned v/\Hid (Res R (fun _ (_:Unit)=>True) u (Zq (bl s) ts) v)/\w.grownBy u (some R.b):=by
 have c:=Znz h.tok h.wf.head.1 h.wf.head.2.2 g d
 have i : ZdF (R.ps[k]'h.lt) s = true -> k + 1 < R.ps.length := fun e => by
   have:=(h.wf.tail (Zd3 (c.symm.trans e))).2;have:=h.size;omega
 refine(ZC7 h.rd s i (by have:=h.len;omega) h.sy).mono ?_;rintro e u ⟨v,rfl,j,f⟩;refine⟨v,rfl,?_,f⟩;have:=j.res (α:=Unit) (V:=fun _ _=>True) (a:=()) h f (fun e=>Zd3 (c.symm.trans e)) (fun _=>trivial);rw[c]at this;exact this
theorem Zzc{p:PTok}(h:Zdf p t)(c:t.jx<=5):ZeX p=decide (t.jx=2):=by
 unfold ZeX;rw[h.1,Ybh,beq_iff_eq,decide_eq_true_iff];have a:=(Ze0 c).2.1;exact⟨fun e=>a.1 Om,fun e=>by rw[a.2 e];rfl⟩
theorem Zkk{R:RS}(h:RK w R k ts) :
  Cq 155 #[Vp R.b] w fun e u=>∃(x:BA) (v:Value),e=.returned (.tuple #[.string x,v])/\Hid (Res R (fun _ a=>bl x=a) u (ZH 2 ts) v)/\w.grownBy u (some R.b):=by
 have f:=Zzc h.tok h.wf.head.2.2
 have d : ZeX (R.ps[k]'h.lt) = true -> ¬ ((hd ts).jx = 0 ∨ (hd ts).jx = 5) := fun e => by
   have:(hd ts).jx=2:=of_decide_eq_true (f.symm.trans e);omega
 have j : ZeX (R.ps[k]'h.lt) = true -> k + 1 < R.ps.length := fun e => by
   have:=(h.wf.tail (d e)).2;have:=h.size;omega
 refine(ZC6 h.rd j (by have:=h.len;omega) h.sy).mono ?_;rintro e u ⟨x,v,rfl,g,i⟩;refine⟨x,v,rfl,?_,i⟩;have:=g.1.res (α:=LB) (V:=fun _ a=>bl x=a) (a:=(hd ts).txt) h i d (fun e=>by rw[g.2 e];exact h.tok.2.2.1);rw[f]at this;unfold ZH;by_cases c:(hd ts).jx=2
 ·rw[if_pos c];rw[decide_eq_true c]at this;exact this
 ·rw[if_neg c];rw[decide_eq_false c]at this;exact this
theorem Zfi{R:RS}(h:RK w R k ts) :
  Cq 34 #[Vp R.b] w fun e u=>∃v,e=.returned v/\Hid (Z9 u R (2,(hd ts).at_) v)/\BW w u:=by
 refine(ZiZ h.rd h.sy).mono ?_;rintro e u ⟨v,rfl,a,c⟩;refine⟨v,rfl,Or.inl ⟨rfl,?_⟩,c⟩;have:=a.out;rw[h.tok.2.1]at this;exact this
theorem Zee{R:RS}(h:RK w R k ts) :
  Cq 33 #[Vp R.b] w fun e u=>∃t:PTok,e=.returned (.agg #[Vi t.kd,Vi t.at_,.string t.tx,Vi t.v])/\Hid (Zdf t (hd ts))/\BW w u:=by
 refine(ZiF h.rd).mono ?_;rintro e u ⟨rfl,a⟩;exact⟨_,rfl,h.tok,a⟩
theorem Zf6 {t : PTok} {u : Tok} (h : Zdf t u) (d : Zdt u) (f : u.jx <= 5) (s : BA) (g : (bl s).all (fun c => !Zp c) = true) (a : bl s ≠ []) (w : World) :
    Cq 110 #[.agg #[Vi t.kd,Vi t.at_,.string t.tx,Vi t.v],.string s] w fun e i=>e=.returned (.bool (isT (bl s) u))/\BW w i:=by
  rw[<-ZdP h d f g a];exact ZlS t s w
theorem Z9.grown{R:RS}(h:Z9 w R e v)(f:w.grownBy w' (some b)){c:Array Value}{t:TypeId}(g:w.heap[b]?=some (.cells c t fr))(i:t≠98):Z9 w' R e v:=by
 rcases h with ⟨a,d⟩|⟨a,d⟩
 ·exact Or.inl ⟨a,d.grown f g i⟩
 ·exact Or.inr ⟨a,d.grown f g i⟩
def BAt(w:World)(a:Nat)(c:List Value)(t:TypeId):Prop:=w.heap[a]?=some (.cells ⟨c⟩ t (0,0))
theorem BAt.cell{t:TypeId}(h:BAt w a c t)(i:Nat):w.cell? ⟨a,i,none⟩=c[i]?:=by
 unfold BAt at h;simp[World.cell?,h]
theorem BAt.frozen{t:TypeId}(h:BAt w a c t)(i:Nat):w.frozen? ⟨a,i,none⟩=false:=by
 unfold BAt at h;simp[World.frozen?,h]
theorem BAt.lt{t:TypeId}(h:BAt w a c t):a<w.heap.size:=(Yae.1 h).1
theorem BAt.grown{t:TypeId}(h:BAt w a c t)(d:w.grownBy w' r)(e:some a≠r):BAt w' a c t:=(d.block a h.lt e).trans h
theorem BAt.below{t:TypeId}(h:BAt w a c t)(d:BW w w'):BAt w' a c t:=(d.block a h.lt).trans h
theorem BAt.other{t:TypeId}(h:BAt w a c t){p:Addr}(d:a≠p.block)(v:Value):BAt (w.setCell p v) a c t:=(Go.Deep.blk_setCell_other _ _ _ _ d).trans h
def set3(w:World)(a:Nat)(x y z:Value):World:=((w.setCell ⟨a,0,none⟩ x).setCell ⟨a,1,none⟩ y).setCell ⟨a,2,none⟩ z
theorem Zcr{p q r x y z:Value}{t:TypeId}(h:BAt w a [p,q,r] t):BAt (set3 w a x y z) a [x,y,z] t:=by
 unfold BAt at h;unfold BAt set3;simp only[World.setCell,Ybn,h,if_true,Ybf];rfl
theorem ret3{fn:Func}{R:Ending->World->Prop}{a:Act}{v:World}{p q u x y z r:Value}{t:TypeId}(c:∀W:World,W.cell? ⟨b,0,none⟩=some x->W.cell? ⟨b,1,none⟩=some y->W.cell? ⟨b,2,none⟩=some z->(results fn a.tmps).run P W=.ok r W)(hd:a.defers=[])(d:BAt v b [p,q,u] t)(e:R (.returned r) (set3 v b x y z)):bodyPost P fn R .ret a (set3 v b x y z):=by
 have s:=Zcr d (x:=x) (y:=y) (z:=z);exact bodyPost_ret (c _ (s.cell 0) (s.cell 1) (s.cell 2)) hd e
theorem Zsf{x y z:Value}(c:b≠a):(set3 w a x y z).heap[b]?=w.heap[b]?:=by
 unfold set3;rw[Go.Deep.blk_setCell_other _ _ _ _ c,Go.Deep.blk_setCell_other _ _ _ _ c,Go.Deep.blk_setCell_other _ _ _ _ c]
theorem Ze4(h:w0.grownBy w (some b))(c:w0.heap.size<=a){x y z:Value}:w0.grownBy (set3 w a x y z) (some b):=
 ZA (ZA (ZA h (Or.inr c)) (Or.inr c)) (Or.inr c)
theorem RK.fresh{R:RS}{k0:Nat}(c:RK w0 R k0 ts0)(h:RK w R k ts)(m:w0.heap.size<=a)(d:∀j,j≠a->w'.heap[j]?=w.heap[j]?):RK w' R k ts:=by
 refine h.blocks (fun j _ e=>d j ?_);have n:=(Yae.1 c.rd.cells).1;have o:=Z1 c.rd.own;have f:=Yai _ _ c.sy;have g:=Yai _ _ c.dp;have i:1<w0.heap.size:=f;have l:2<w0.heap.size:=g;rcases e with rfl|rfl|rfl|rfl <;> omega
theorem Z9.set3{R:RS}(h:Z9 w R e v){t:TypeId}(d:BAt w a c t)(f:t≠98)(x y z:Value):Z9 (set3 w a x y z) R e v:=by
 refine h.grown (b:=a) ?_ d f;exact ZA (ZA (ZA (ZbM w (some a)) (Or.inl rfl)) (Or.inl rfl)) (Or.inl rfl)
theorem Zfr(h:(hd ts).jx=k):ZH k ts=.ok ((hd ts).txt,ts.tail):=if_pos h
theorem Zgb(h:¬(hd ts).jx=k):ZH k ts=.error (2,(hd ts).at_):=if_neg h
theorem Zic{s:LB}(h:isT s t=true):t.txt=s:=by
 unfold isT at h;rw[Yas,beq_iff_eq]at h;exact h.2
theorem ZeV{s u:LB}(h:isT s t=true)(a:s≠u):isT u t=false:=by
 have:=Zic h;unfold isT;rw[this,beq_eq_false_iff_ne.2 a,Ydi]
theorem ZP{c:Code}{Q:Exit->Act->World->Prop}{a:Act}(h:∀W,W=w->Code.wp P c Q a W):Code.wp P c Q a w:=h w rfl
theorem Zm{f:FuncId}{args:Array Value}{Q:Ending->World->Prop}(h:∀W,W=w->Calls P f args W Q):Calls P f args w Q:=h w rfl
theorem Zou{R:RS}(h:RK w R k ts) :
  Cq 159 #[Vp R.b] w fun e u=>∃(x:BA) (ng:Bool) (y:BA) (v:Value),e=.returned (.tuple #[.agg #[.string x,.bool ng,.string y],v])/\Hid (Res R (fun _ c=>bl x=c.1/\bl y=c.2.1/\ng=c.2.2) u (ZV ts) v)/\w.grownBy u (some R.b):=by
 have H:Hid (RK w R k ts):=h;have e6:R.b<w.heap.size:=(Yae.1 h.rd.cells).1;clear h;go_enter func159,ntmps159
 go_wp2_with fail
 refine Zm fun W0 a5=>?_;have d7:Hid (RK W0 R k ts):=hid (by rw[a5];exact H.below Zbal);have d8:Hid (BAt W0 w.heap.size [.string ByteArray.empty,.bool false,.string ByteArray.empty] 247):=hid (by rw[a5];exact Go.Deep.blk_alloc_new _ _);have d9:Hid (w.grownBy W0 (some R.b)):=hid (by rw[a5];exact ZbR (ZbM _ _));clear a5;refine(Zkk d7.out).mono ?_;rintro e w1 ⟨x,v,rfl,q,hg⟩;have s:Hid (BAt w1 w.heap.size [.string ByteArray.empty,.bool false,.string ByteArray.empty] 247):=d8.grown hg (by simp;omega);have c6:Hid (w.grownBy w1 (some R.b)):=Zj d9.out hg;clear hg;by_cases J:(hd ts).jx=2
 ·rw[Zfr J]at q;obtain⟨rfl,⟨k1,c7⟩,hx⟩:=q.out;have c8:Hid (RK w1 R k1 ts.tail):=c7;have HX:Hid (bl x=(hd ts).txt):=hx;clear q c7 hx
  go_wp2_with fail
  refine(Zee c8.out).mono ?_;rintro e z ⟨⟨kd,at_,tx,tv⟩,rfl,ht,a6⟩;have e0:=hid (s.below a6);have N:Hid (w.grownBy z (some R.b)):=Zj c6.out (Zw a6);have e1:Hid (RK z R k1 ts.tail):=c8.below a6;clear a6
  go_wp2_with fail
  refine Zm fun W1 b3=>?_;have a7:BW z W1:=by rw[b3];exact Zbal
  have c9:Hid (BAt W1 z.heap.size [Vi kd,Vi at_,.string tx,Vi tv] 87):=hid (by rw[b3];exact Go.Deep.blk_alloc_new _ _);have d4:=hid (e0.below a7);have d5:Hid (w.grownBy W1 (some R.b)):=Zj N.out (Zw a7);have a8:Hid (RK W1 R k1 ts.tail):=e1.below a7;clear a7 b3;refine(Zf6 ht.out a8.wf.head.1 a8.wf.head.2.2 ⟨#[61]⟩ Dc Dc W1).mono ?_;rintro e w3 ⟨rfl,O⟩;have A:=hid (c9.below O);have a9:=hid (d4.below O);have b0:Hid (w.grownBy w3 (some R.b)):=Zj d5.out (Zw O);have K:Hid (RK w3 R k1 ts.tail):=a8.below O;clear O c9 d4 d5 a8;by_cases G:isT [61] (hd ts.tail)=true
  ·rw[show isT (bl ⟨#[61]⟩) (hd ts.tail)=true from G];have b4:tx=⟨#[61]⟩:=ZcW (ht.2.2.1.trans (Zic G));subst b4;have HD:Hid (¬((hd ts.tail).jx=0∨(hd ts.tail).jx=5)):=Zd3 G;have P:Hid (ZV ts=bnd (ZH 3 ts.tail.tail) fun b r=>.ok (((hd ts).txt,b,false),r)):=hid (by unfold ZV;rw[Zfr J];show bnd (Zdc ts.tail) _=_;unfold Zdc;rw[if_neg (by rw[ZeV G Dc];decide)];unfold Zq;rw[if_pos G];rfl);have p:=K;have b1:=b0;have b2:=a9;have b5:=A;clear K b0 a9 A;clear G;obtain⟨rc0,rc1,rfz,_⟩:=p.rd.all;have e3:=p.lt;have e4:=p.len
   go_wp2_with fail
   refine Zm fun L g=>?_;have B:Hid (RK L R (k1+1) ts.tail.tail):=hid (by rw[g];exact p.step HD.out);have Q:Hid (w.grownBy L (some R.b)):=hid (by rw[g];exact ZA b1.out (Or.inl rfl));have S:Hid (BAt L w.heap.size [.string ByteArray.empty,.bool false,.string ByteArray.empty] 247):=hid (by rw[g];exact b2.other (by show w.heap.size≠R.b;omega) _);have T:Hid (BAt L z.heap.size [Vi kd,Vi at_,.string ⟨#[61]⟩,Vi tv] 87):=hid (by rw[g];exact b5.other (by show z.heap.size≠R.b;have:=N.size;omega) _);clear g rc0 rc1 rfz;refine(Zee B.out).mono ?_;rintro e i ⟨⟨kd2,at2,tx2,tv2⟩,rfl,C,l⟩;have U:=hid (S.below l);have V:=hid (T.below l);have D:Hid (w.grownBy i (some R.b)):=Zj Q.out (Zw l);have X:Hid (RK i R (k1+1) ts.tail.tail):=B.below l;clear l B Q S T
   go_upto_region 9 with fail
   refine ZP fun M E=>?_;have m:BW i M:=by rw[E];exact Zbal
   have Y:Hid (BAt M i.heap.size [Vi kd2,Vi at2,.string tx2,Vi tv2] 87):=hid (by rw[E];exact Go.Deep.blk_alloc_new _ _);have Z:=hid (U.below m);have b6:=hid (V.below m);have a0:Hid (w.grownBy M (some R.b)):=Zj D.out (Zw m);have n:Hid (RK M R (k1+1) ts.tail.tail):=X.below m;have e5:R.b<i.heap.size:=by have:=D.size;omega
   clear E m U V X D;have t0:=Y.cell 0;simp only[Ycy]at t0;by_cases t:(hd ts.tail.tail).jx=3
   ·have a1:kd2=2:=by have:=C.1;rw[t]at this;exact this
    subst a1;have b7:Hid (ZV ts=.ok (((hd ts).txt,(hd ts.tail.tail).txt,false),ts.tail.tail.tail)):=hid (by rw[P.out,Zfr t];rfl);have b8:Hid (bl tx2=(hd ts.tail.tail).txt):=C.2.2.1;obtain⟨rc0,rc1,rfz,_⟩:=n.rd.all;have d6:=n.lt
    go_upto_region 12 with fail
    refine ZP fun F f=>?_;have b9:Hid (RK F R (k1+1+1) ts.tail.tail.tail):=hid (by rw[f];exact n.step Om);have c3:Hid (w.grownBy F (some R.b)):=hid (by rw[f];exact ZA a0.out (Or.inl rfl));have d:Hid (BAt F w.heap.size [.string ByteArray.empty,.bool false,.string ByteArray.empty] 247):=hid (by rw[f];exact Z.other (by show w.heap.size≠R.b;omega) _);have c4:Hid (BAt F z.heap.size [Vi kd,Vi at_,.string ⟨#[61]⟩,Vi tv] 87):=hid (by rw[f];exact b6.other (by show z.heap.size≠R.b;have:=N.size;omega) _);have c5:Hid (BAt F i.heap.size [Vi 2,Vi at2,.string tx2,Vi tv2] 87):=hid (by rw[f];exact Y.other (by show i.heap.size≠R.b;omega) _);clear f rc0 rc1 rfz t0;have f0:=d.frozen 0;have f1:=d.frozen 1;have f2:=d.frozen 2;have c0:=d.cell 0;have c1:=d.cell 1;have c2:=d.cell 2;have d2:=c4.cell 2;have e2:=c5.cell 2;simp only[Zget]at c0 c1 c2 d2 e2;go_wp2;exact ret3 (r:=.tuple #[.agg #[.string x,.bool false,.string tx2],.nilIface]) (fun W s0 s1 s2=>by simp[results,results159,go_sem,s0,s1,s2]) rfl d.out ⟨_,_,_,_,rfl,by rw[b7.out];exact⟨rfl,⟨_,(RK.fresh H.out b9.out (Yac _) (fun j hj=>Zsf hj))⟩,HX.out,b8.out,rfl⟩,Ze4 c3.out (Yac _)⟩
   ·have a1:((kd2:Int) != 2)=true:=by
     rw[bne_iff_ne];intro e;exact t ((Ze0 n.wf.head.2.2).2.2.1.1 (by have:=C.1;simp only at this;omega))
    have a2:Hid (ZV ts=.error (2,(hd ts.tail.tail).at_)):=hid (by rw[P.out,Zgb t];rfl)
    go_wp2_with fail
    refine(Zfi n.out).mono ?_;rintro e wE ⟨v,rfl,I,o⟩;obtain⟨fa,rfl⟩:=I.shape;have a:=hid (Z.below o);have a3:Hid (w.grownBy wE (some R.b)):=Zj a0.out (Zw o);clear o;have f0:=a.frozen 0;have f1:=a.frozen 1;have f2:=a.frozen 2;have c0:=a.cell 0;have c1:=a.cell 1;have c2:=a.cell 2;simp only[Zget]at c0 c1 c2;go_wp2;exact ret3 (r:=.tuple #[.agg #[.string ⟨#[]⟩,.bool false,.string ⟨#[]⟩],.iface 94 (Vp fa)]) (fun W s0 s1 s2=>by simp[results,results159,go_sem,s0,s1,s2]) rfl a.out ⟨_,_,_,_,rfl,by rw[a2.out];exact I.set3 a.out Dc _ _ _,Ze4 a3.out (Yac _)⟩
  ·rw[show isT (bl ⟨#[61]⟩) (hd ts.tail)=false from Yce.2 G];have d0:=A.cell 0;have d1:=A.cell 1;have d2:=A.cell 2;have d3:=A.cell 3;simp only[Zget]at d0 d1 d2 d3
   go_wp2_with fail
   clear d0 d1 d2 d3;refine(Zf6 ht.out K.wf.head.1 K.wf.head.2.2 ⟨#[33,61]⟩ Dc Dc w3).mono ?_;rintro e w4 ⟨rfl,a4⟩;have b5:=hid (A.below a4);have b2:=hid (a9.below a4);have b1:Hid (w.grownBy w4 (some R.b)):=Zj b0.out (Zw a4);have p:Hid (RK w4 R k1 ts.tail):=K.below a4;clear a4 A a9 b0 K;by_cases hB:isT [33,61] (hd ts.tail)=true
   ·rw[show isT (bl ⟨#[33,61]⟩) (hd ts.tail)=true from hB];have b4:tx=⟨#[33,61]⟩:=ZcW (ht.2.2.1.trans (Zic hB));subst b4;have HD:Hid (¬((hd ts.tail).jx=0∨(hd ts.tail).jx=5)):=Zd3 hB;have P:Hid (ZV ts=bnd (ZH 3 ts.tail.tail) fun b r=>.ok (((hd ts).txt,b,true),r)):=hid (by unfold ZV;rw[Zfr J];show bnd (Zdc ts.tail) _=_;unfold Zdc;rw[if_pos hB];rfl);clear G hB;obtain⟨rc0,rc1,rfz,_⟩:=p.rd.all;have e3:=p.lt;have e4:=p.len
    go_wp2_with fail
    refine Zm fun L g=>?_;have B:Hid (RK L R (k1+1) ts.tail.tail):=hid (by rw[g];exact p.step HD.out);have Q:Hid (w.grownBy L (some R.b)):=hid (by rw[g];exact ZA b1.out (Or.inl rfl));have S:Hid (BAt L w.heap.size [.string ByteArray.empty,.bool false,.string ByteArray.empty] 247):=hid (by rw[g];exact b2.other (by show w.heap.size≠R.b;omega) _);have T:Hid (BAt L z.heap.size [Vi kd,Vi at_,.string ⟨#[33,61]⟩,Vi tv] 87):=hid (by rw[g];exact b5.other (by show z.heap.size≠R.b;have:=N.size;omega) _);clear g rc0 rc1 rfz;refine(Zee B.out).mono ?_;rintro e i ⟨⟨kd2,at2,tx2,tv2⟩,rfl,C,l⟩;have U:=hid (S.below l);have V:=hid (T.below l);have D:Hid (w.grownBy i (some R.b)):=Zj Q.out (Zw l);have X:Hid (RK i R (k1+1) ts.tail.tail):=B.below l;clear l B Q S T
    go_upto_region 9 with fail
    refine ZP fun M E=>?_;have m:BW i M:=by rw[E];exact Zbal
    have Y:Hid (BAt M i.heap.size [Vi kd2,Vi at2,.string tx2,Vi tv2] 87):=hid (by rw[E];exact Go.Deep.blk_alloc_new _ _);have Z:=hid (U.below m);have b6:=hid (V.below m);have a0:Hid (w.grownBy M (some R.b)):=Zj D.out (Zw m);have n:Hid (RK M R (k1+1) ts.tail.tail):=X.below m;have e5:R.b<i.heap.size:=by have:=D.size;omega
    clear E m U V X D;have t0:=Y.cell 0;simp only[Ycy]at t0;by_cases t:(hd ts.tail.tail).jx=3
    ·have a1:kd2=2:=by have:=C.1;rw[t]at this;exact this
     subst a1;have b7:Hid (ZV ts=.ok (((hd ts).txt,(hd ts.tail.tail).txt,true),ts.tail.tail.tail)):=hid (by rw[P.out,Zfr t];rfl);have b8:Hid (bl tx2=(hd ts.tail.tail).txt):=C.2.2.1;obtain⟨rc0,rc1,rfz,_⟩:=n.rd.all;have d6:=n.lt
     go_upto_region 12 with fail
     refine ZP fun F f=>?_;have b9:Hid (RK F R (k1+1+1) ts.tail.tail.tail):=hid (by rw[f];exact n.step Om);have c3:Hid (w.grownBy F (some R.b)):=hid (by rw[f];exact ZA a0.out (Or.inl rfl));have d:Hid (BAt F w.heap.size [.string ByteArray.empty,.bool false,.string ByteArray.empty] 247):=hid (by rw[f];exact Z.other (by show w.heap.size≠R.b;omega) _);have c4:Hid (BAt F z.heap.size [Vi kd,Vi at_,.string ⟨#[33,61]⟩,Vi tv] 87):=hid (by rw[f];exact b6.other (by show z.heap.size≠R.b;have:=N.size;omega) _);have c5:Hid (BAt F i.heap.size [Vi 2,Vi at2,.string tx2,Vi tv2] 87):=hid (by rw[f];exact Y.other (by show i.heap.size≠R.b;omega) _);clear f rc0 rc1 rfz t0;have f0:=d.frozen 0;have f1:=d.frozen 1;have f2:=d.frozen 2;have c0:=d.cell 0;have c1:=d.cell 1;have c2:=d.cell 2;have d2:=c4.cell 2;have e2:=c5.cell 2;simp only[Zget]at c0 c1 c2 d2 e2;go_wp2;exact ret3 (r:=.tuple #[.agg #[.string x,.bool true,.string tx2],.nilIface]) (fun W s0 s1 s2=>by simp[results,results159,go_sem,s0,s1,s2]) rfl d.out ⟨_,_,_,_,rfl,by rw[b7.out];exact⟨rfl,⟨_,(RK.fresh H.out b9.out (Yac _) (fun j hj=>Zsf hj))⟩,HX.out,b8.out,rfl⟩,Ze4 c3.out (Yac _)⟩
    ·have a1:((kd2:Int) != 2)=true:=by
      rw[bne_iff_ne];intro e;exact t ((Ze0 n.wf.head.2.2).2.2.1.1 (by have:=C.1;simp only at this;omega))
     have a2:Hid (ZV ts=.error (2,(hd ts.tail.tail).at_)):=hid (by rw[P.out,Zgb t];rfl)
     go_wp2_with fail
     refine(Zfi n.out).mono ?_;rintro e wE ⟨v,rfl,I,o⟩;obtain⟨fa,rfl⟩:=I.shape;have a:=hid (Z.below o);have a3:Hid (w.grownBy wE (some R.b)):=Zj a0.out (Zw o);clear o;have f0:=a.frozen 0;have f1:=a.frozen 1;have f2:=a.frozen 2;have c0:=a.cell 0;have c1:=a.cell 1;have c2:=a.cell 2;simp only[Zget]at c0 c1 c2;go_wp2;exact ret3 (r:=.tuple #[.agg #[.string ⟨#[]⟩,.bool false,.string ⟨#[]⟩],.iface 94 (Vp fa)]) (fun W s0 s1 s2=>by simp[results,results159,go_sem,s0,s1,s2]) rfl a.out ⟨_,_,_,_,rfl,by rw[a2.out];exact I.set3 a.out Dc _ _ _,Ze4 a3.out (Yac _)⟩
   ·rw[show isT (bl ⟨#[33,61]⟩) (hd ts.tail)=false from Yce.2 hB];have a2:Hid (ZV ts=.error (2,(hd ts.tail).at_)):=hid (by unfold ZV;rw[Zfr J];show bnd (Zdc ts.tail) _=_;unfold Zdc;rw[if_neg hB];unfold Zq;rw[if_neg G];rfl);clear G hB
    go_wp2_with fail
    refine(Zfi p.out).mono ?_;rintro e wE ⟨v,rfl,I,o⟩;obtain⟨fa,rfl⟩:=I.shape;have a:=hid (b2.below o);have a3:Hid (w.grownBy wE (some R.b)):=Zj b1.out (Zw o);clear o;have f0:=a.frozen 0;have f1:=a.frozen 1;have f2:=a.frozen 2;have c0:=a.cell 0;have c1:=a.cell 1;have c2:=a.cell 2;simp only[Zget]at c0 c1 c2;go_wp2;exact ret3 (r:=.tuple #[.agg #[.string ⟨#[]⟩,.bool false,.string ⟨#[]⟩],.iface 94 (Vp fa)]) (fun W s0 s1 s2=>by simp[results,results159,go_sem,s0,s1,s2]) rfl a.out ⟨_,_,_,_,rfl,by rw[a2.out];exact I.set3 a.out Dc _ _ _,Ze4 a3.out (Yac _)⟩
 ·rw[Zgb J]at q;obtain⟨fa,rfl⟩:=q.shape;have I:Hid (Z9 w1 R (2,(hd ts).at_) _):=q.out;have HP:Hid (ZV ts=.error (2,(hd ts).at_)):=hid (by unfold ZV;rw[Zgb J];rfl);have f0:=s.frozen 0;have f1:=s.frozen 1;have f2:=s.frozen 2;have c0:=s.cell 0;have c1:=s.cell 1;have c2:=s.cell 2;simp only[Zget]at c0 c1 c2;clear q;go_wp2;exact ret3 (r:=.tuple #[.agg #[.string ⟨#[]⟩,.bool false,.string ⟨#[]⟩],.iface 94 (Vp fa)]) (fun W s0 s1 s2=>by simp[results,results159,go_sem,s0,s1,s2]) rfl s.out ⟨_,_,_,_,rfl,by rw[HP.out];exact I.set3 s.out Dc _ _ _,Ze4 c6.out (Yac _)⟩
