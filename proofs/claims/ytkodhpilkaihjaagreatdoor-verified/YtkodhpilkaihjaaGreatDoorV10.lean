/- Parts. -/
import Derived.BigQuiet
import Derived.Test.YtkodhpilkaihjaaGreatDoorV09
set_option linter.all false
set_option maxRecDepth 100000
set_option maxHeartbeats 16000000
namespace Go.Proofs.YtkodhpilkaihjaaGreatDoor
open Go.RowKit LS Go.Proofs.Tryz
variable {S W:BA}{c:CodeQ}{g:List (Option Addr×Nat×Nat)}{sl st:List Nat}{l:List PV}{a arg cb:Nat}{p:PV}{b:UInt8}{cv gv iv pv:Value}{w w':World}
def ZTx:List PV->List Value
 | []=>[]
 | p::l=>p.cells++ZTx l
structure PkOk (w:World) (x:Nd×Nat) (p:PV):Prop where
 k:p.k=if 0<x.2 then 2 else 1
 n:0<x.2->p.n=x.2
 nm:bl p.nm=x.1.name
 cs:ZJq w 0 p x.1.jn
structure RCode (w:World) (cb:Nat) (c:CodeQ) (cv pv gv iv:Value) (l:List PV) (g:List (Option Addr×Nat×Nat)):Prop where
 box:BAt w cb [cv,pv,gv,iv] 101
 cs:w.ownsRow 0 2 1 cv c.jq.length (c.jq.map (.int .i64))
 ps:w.ownsRow 0 92 8 pv c.jv.length (ZTx l)
 pl:l.length=c.jv.length
 pk:∀(i:Nat) (x:Nd×Nat) (p:PV),c.jv[i]?=some x->l[i]?=some p->PkOk w x p
 gs:w.ownsRow 0 90 1 gv c.jk.length (g.map fun y=>.slice y.1 y.2.1 y.2.2)
 gl:g.length=c.jk.length
 gk:∀(i:Nat) (x:List (LB)) (y:Option Addr×Nat×Nat),c.jk[i]?=some x->g[i]?=some y->∃bs:List BA,w.ownsRow 0 9 1 (.slice y.1 y.2.1 y.2.2) bs.length (bs.map .string)/\bs.map bl=x
 is:w.ownsRow 0 136 2 iv c.jz.length (ZdL c.jz)
theorem ZJq.below'{cs:List (LB×LB×Bool)}(h:ZJq w 0 p cs)(a:BW w w'):ZJq w' 0 p cs:=by
 obtain⟨qs,b,c⟩:=h;exact⟨qs,Zn b a,c⟩
theorem PkOk.below{x:Nd×Nat}(h:PkOk w x p)(a:BW w w'):PkOk w' x p:=⟨h.k,h.n,h.nm,h.cs.below' a⟩
theorem RCode.below(h:RCode w cb c cv pv gv iv l g)(a:BW w w'):RCode w' cb c cv pv gv iv l g:=
 ⟨h.box.below a, Zn h.cs a, Zn h.ps a, h.pl, fun i x p b d => (h.pk i x p b d).below a, Zn h.gs a, h.gl, fun i x y b d => by
   obtain⟨bs,e,f⟩:=h.gk i x y b d;exact⟨bs,Zn e a,f⟩,Zn h.is a⟩
theorem ZTp{a b:Bool}(h:a=b):Ending.returned (.bool a)=.returned (.bool b):=by rw[h]
def ZTg(nc np ng ni i op arg:Nat):Bool:=match op with
 | 0=>decide (arg<nc)
 | 1=>decide (arg<np)
 | 2=>decide (arg<5)
 | 3=>decide (arg<4)
 | 4=>decide (arg=0)
 | 9=>decide (i<arg/\arg<=ni)
 | 10=>decide (i<arg/\arg<=ni)
 | 11=>decide (arg=0)
 | 12=>decide (arg<16)
 | 13=>decide (arg<16)
 | _=>decide (arg<ng)
theorem ZVY(c:CodeQ)(i op arg:Nat):Zy c i (op,arg)=ZTg c.jq.length c.jv.length c.jk.length c.jz.length i op arg:=rfl
structure InsAt (w:World) (cb i op arg nc np ngr ni:Nat) (ca pa ga:Option Addr) (cc pc gc ic g:Nat):Prop where
 box:BAt w cb [.slice ca nc cc,.slice pa np pc,.slice ga ngr gc,.slice (some ⟨g,0,none⟩) ni ic] 101
 lt:i<ni
 c0:w.cell? ⟨g,i*2,none⟩=some (Vi op)
 c1:w.cell? ⟨g,i*2+1,none⟩=some (Vi arg)
theorem ZV0(w:World)(cb i op arg nc np ngr ni:Nat)(ca pa ga:Option Addr)(cc pc gc ic g:Nat)(h:InsAt w cb i op arg nc np ngr ni ca pa ga cc pc gc ic g)(l:op<=13)(j:arg<65536)(c:CodeQ)(e1:c.jq.length=nc)(e2:c.jv.length=np)(e3:c.jk.length=ngr)(e4:c.jz.length=ni) :
  CP 53 #[Vp cb,Vi i] w fun e u=>e=.returned (.bool (Zy c i (op,arg)))/\BW w u:=by
 rw[ZVY,e1,e2,e3,e4];have o:=hid h.box;have m:=h.lt;have c0:=h.c0;have c1:=h.c1;have b0:=h.box.cell 0;have b1:=h.box.cell 1;have b2:=h.box.cell 2;have b3:=h.box.cell 3;simp only[Zget]at b0 b1 b2 b3;have n:=h.box.lt;have d:=Yai _ _ c0;simp only at d;clear e1 e2 e3 e4 h;rcases(by omega:op=0∨op=1∨op=2∨op=3∨op=4∨op=5∨op=6∨op=7∨op=8∨op=9∨op=10∨op=11∨op=12∨op=13)with rfl|rfl|rfl|rfl|rfl|rfl|rfl|rfl|rfl|rfl|rfl|rfl|rfl|rfl
 ·go_enter func53,ntmps53;go_wp2
  go_quiet (fail)
  go_wp2
  all_goals
   go_ret;refine⟨ZTp ?_,belB⟩
   first
    | (simp only[ZTg];done)
    | (simp only[ZTg];rw[Ybh];simp;done)
    | (simp only[ZTg];rw[Ybh];simp;omega)
 ·go_enter func53,ntmps53;go_wp2
  go_quiet (fail)
  go_wp2
  all_goals
   go_ret;refine⟨ZTp ?_,belB⟩
   first
    | (simp only[ZTg];done)
    | (simp only[ZTg];rw[Ybh];simp;done)
    | (simp only[ZTg];rw[Ybh];simp;omega)
 ·go_enter func53,ntmps53;go_wp2
  all_goals
   go_ret;refine⟨ZTp ?_,belB⟩
   first
    | (simp only[ZTg];done)
    | (simp only[ZTg];rw[Ybh];simp;done)
    | (simp only[ZTg];rw[Ybh];simp;omega)
 ·go_enter func53,ntmps53;go_wp2
  all_goals
   go_ret;refine⟨ZTp ?_,belB⟩
   first
    | (simp only[ZTg];done)
    | (simp only[ZTg];rw[Ybh];simp;done)
    | (simp only[ZTg];rw[Ybh];simp;omega)
 ·go_enter func53,ntmps53;go_wp2
  all_goals
   go_ret;refine⟨ZTp ?_,belB⟩
   first
    | (simp only[ZTg];done)
    | (simp only[ZTg];rw[Ybh];simp;done)
    | (simp only[ZTg];rw[Ybh];simp;omega)
 ·go_enter func53,ntmps53;go_wp2
  go_quiet (fail)
  go_wp2
  all_goals
   go_ret;refine⟨ZTp ?_,belB⟩
   first
    | (simp only[ZTg];done)
    | (simp only[ZTg];rw[Ybh];simp;done)
    | (simp only[ZTg];rw[Ybh];simp;omega)
 ·go_enter func53,ntmps53;go_wp2
  go_quiet (fail)
  go_wp2
  all_goals
   go_ret;refine⟨ZTp ?_,belB⟩
   first
    | (simp only[ZTg];done)
    | (simp only[ZTg];rw[Ybh];simp;done)
    | (simp only[ZTg];rw[Ybh];simp;omega)
 ·go_enter func53,ntmps53;go_wp2
  go_quiet (fail)
  go_wp2
  all_goals
   go_ret;refine⟨ZTp ?_,belB⟩
   first
    | (simp only[ZTg];done)
    | (simp only[ZTg];rw[Ybh];simp;done)
    | (simp only[ZTg];rw[Ybh];simp;omega)
 ·go_enter func53,ntmps53;go_wp2
  go_quiet (fail)
  go_wp2
  all_goals
   go_ret;refine⟨ZTp ?_,belB⟩
   first
    | (simp only[ZTg];done)
    | (simp only[ZTg];rw[Ybh];simp;done)
    | (simp only[ZTg];rw[Ybh];simp;omega)
 ·have f:(i:Int)<ni:=by omega
  by_cases k:i<arg
  ·have a:(i:Int)<arg:=by omega
   have b:decide ((i:Int)<arg)=true:=decide_eq_true a;go_enter func53,ntmps53;go_wp2
   go_quiet (fail)
   go_wp2
   all_goals
    go_ret;refine⟨ZTp ?_,belB⟩
    first
     | (simp only[ZTg];done)
     | (simp only[ZTg];rw[Ybh];simp;done)
     | (simp only[ZTg];rw[Ybh];simp;omega)
  ·have a:¬(i:Int)<arg:=by omega
   have b:decide ((i:Int)<arg)=false:=decide_eq_false a;go_enter func53,ntmps53;go_wp2
   go_quiet (fail)
   go_wp2
   all_goals
    go_ret;refine⟨ZTp ?_,belB⟩
    first
     | (simp only[ZTg];done)
     | (simp only[ZTg];rw[Ybh];simp;done)
     | (simp only[ZTg];rw[Ybh];simp;omega)
 ·have f:(i:Int)<ni:=by omega
  by_cases k:i<arg
  ·have a:(i:Int)<arg:=by omega
   have b:decide ((i:Int)<arg)=true:=decide_eq_true a;go_enter func53,ntmps53;go_wp2
   go_quiet (fail)
   go_wp2
   all_goals
    go_ret;refine⟨ZTp ?_,belB⟩
    first
     | (simp only[ZTg];done)
     | (simp only[ZTg];rw[Ybh];simp;done)
     | (simp only[ZTg];rw[Ybh];simp;omega)
  ·have a:¬(i:Int)<arg:=by omega
   have b:decide ((i:Int)<arg)=false:=decide_eq_false a;go_enter func53,ntmps53;go_wp2
   go_quiet (fail)
   go_wp2
   all_goals
    go_ret;refine⟨ZTp ?_,belB⟩
    first
     | (simp only[ZTg];done)
     | (simp only[ZTg];rw[Ybh];simp;done)
     | (simp only[ZTg];rw[Ybh];simp;omega)
 ·go_enter func53,ntmps53;go_wp2
  all_goals
   go_ret;refine⟨ZTp ?_,belB⟩
   first
    | (simp only[ZTg];done)
    | (simp only[ZTg];rw[Ybh];simp;done)
    | (simp only[ZTg];rw[Ybh];simp;omega)
 ·go_enter func53,ntmps53;go_wp2
  all_goals
   go_ret;refine⟨ZTp ?_,belB⟩
   first
    | (simp only[ZTg];done)
    | (simp only[ZTg];rw[Ybh];simp;done)
    | (simp only[ZTg];rw[Ybh];simp;omega)
 ·go_enter func53,ntmps53;go_wp2
  all_goals
   go_ret;refine⟨ZTp ?_,belB⟩
   first
    | (simp only[ZTg];done)
    | (simp only[ZTg];rw[Ybh];simp;done)
    | (simp only[ZTg];rw[Ybh];simp;omega)
theorem ZVZ(w:World)(cb:Nat)(c:CodeQ)(h:RCode w cb c cv pv gv iv l g)(i:Nat)(a:i<c.jz.length)(d:∀x∈c.jz,x.1<=13/\x.2<65536) :
  CP 53 #[Vp cb,Vi i] w fun e u=>e=.returned (.bool (Zy c i c.jz[i]))/\BW w u:=by
 obtain⟨ca,cc,rfl⟩:=Zl h.cs;obtain⟨pa,pc,rfl⟩:=Zl h.ps;obtain⟨ga,gc,rfl⟩:=Zl h.gs;obtain⟨gi,ic,rfl⟩:=ZF h.is Om;have c0:=Zi h.is _ _ (Zfm c.jz i a).1;have c1:=Zi h.is _ _ (Zfm c.jz i a).2;have b:=d c.jz[i] (List.getElem_mem a);exact ZV0 w cb i c.jz[i].1 c.jz[i].2 _ _ _ _ ca pa ga cc pc gc ic gi ⟨h.box,a,c0,c1⟩ b.1 b.2 c rfl rfl rfl rfl
def ZTT(op:Nat):BA:=match op with
 | 0=>⟨#[]⟩
 | 1=>⟨#[]⟩
 | 2=>⟨#[114]⟩
 | 3=>⟨#[110,110]⟩
 | 4=>⟨#[110]⟩
 | 9=>⟨#[]⟩
 | 11=>⟨#[97]⟩
 | 12=>⟨#[97]⟩
 | 13=>⟨#[]⟩
 | _=>⟨#[118]⟩
theorem ZWy(op:Nat)(a:op<=13) :
  CP 54 #[Vi op] w fun e u=>e=.returned (.string (ZTT op))/\u=w:=by
 rcases(by omega:op=0∨op=1∨op=2∨op=3∨op=4∨op=5∨op=6∨op=7∨op=8∨op=9∨op=10∨op=11∨op=12∨op=13)with rfl|rfl|rfl|rfl|rfl|rfl|rfl|rfl|rfl|rfl|rfl|rfl|rfl|rfl
 all_goals
  go_enter func54,ntmps54;go_wp2;go_ret;exact⟨rfl,rfl⟩
def kl(k:Nat):UInt8:=match k with
 | 1=>115
 | 2=>118
 | 3=>114
 | _=>45
theorem ZT7{x y:Nat}(a:x<=3)(b:y<=3)(h:kl x=kl y):x=y:=by
 rcases(by omega:x=0∨x=1∨x=2∨x=3)with rfl|rfl|rfl|rfl <;> rcases(by omega:y=0∨y=1∨y=2∨y=3)with rfl|rfl|rfl|rfl <;> first|rfl|exact absurd h Dc
def baOf(l:LB):BA:=⟨l.toArray⟩
theorem ZTV{l:LB}:bl (baOf l)=l:=ZbF l
theorem ZUf(l:LB):(baOf l).size=l.length:=by rw[<-Zd,ZTV]
def stL(st:List Nat):LB:=(st.map kl).reverse
def stB(st:List Nat):BA:=baOf (stL st)
def slB(sl:List Nat):BA:=baOf (sl.map kl)
theorem ZUK(st:List Nat):(stL st).length=st.length:=by simp[stL]
theorem ZTq(st:List Nat):(stB st).size=st.length:=by unfold stB;rw[ZUf,ZUK]
theorem ZTQ(sl:List Nat):(slB sl).size=sl.length:=by unfold slB;rw[ZUf,Yak]
theorem ZTr(st:List Nat):bl (stB st)=stL st:=ZTV
theorem ZTR(sl:List Nat):bl (slB sl)=sl.map kl:=ZTV
theorem ZUx:∀ {x y:List Nat},(∀k∈x,k<=3)->(∀k∈y,k<=3)->x.map kl=y.map kl->x=y
 | [],[],_,_,_=>rfl
 | [],_::_,_,_,h=>(by cases h)
 | _::_,[],_,_,h=>(by cases h)
 | a :: x, b :: y, d, e, h => by
   rw[Ybb,Ybb]at h;injection h with h1 h2;rw[ZT7 (d a (by simp)) (e b (by simp)) h1,ZUx (fun k c=>d k (by simp[c])) (fun k c=>e k (by simp[c])) h2]
theorem ZUc{x y:List Nat}(a:∀k∈x,k<=3)(b:∀k∈y,k<=3):stB x=stB y ↔ x=y:=by
 constructor
 ·intro h;have c:stL x=stL y:=by rw[<-ZTr,<-ZTr,h]
  exact ZUx a b (List.reverse_inj.1 c)
 ·intro h;rw[h]
theorem ZTJ(a b:BA):(a.toList == b.toList)=decide (a=b):=by
 by_cases h:a=b
 ·subst h;simp
 ·rw[decide_eq_false h,beq_eq_false_iff_ne];intro e;exact h (ZcW (by rw[<-Zbt,<-Zbt,e]))
theorem ZWl(st:List Nat)(m:Nat):(stL st).take (st.length - m)=stL (st.drop m):=by
 unfold stL;rw[List.take_reverse,Yak,List.map_drop];by_cases h:m<=st.length
 ·congr 2;omega
 ·rw[Yb8 (by rw[Yak];omega),Yb8 (by rw[Yak];omega)]
theorem ZWk(st:List Nat)(m:Nat)(h:m<=st.length):(stL st).drop (st.length - m)=stL (st.take m):=by
 unfold stL;rw[List.drop_reverse,Yak,Yer]
 congr 2;omega
theorem ZUd(st:List Nat)(m:Nat):(stB st).extract 0 (st.length - m)=stB (st.drop m):=ZcW (by rw[Zfh,ZTr,ZTr,Ygr,ZWl])
theorem ZTY(st:List Nat){m:Nat}(h:m<=st.length):(stB st).extract (st.length - m) st.length=stB (st.take m):=ZcW (by
 rw[Zfh,ZTr,ZTr,Ya5 (by rw[ZUK];exact Yac _),ZWk st m h])
theorem ZUb(x y:List Nat):stB x++stB y=stB (y++x):=ZcW (by rw[ZTF,ZTr,ZTr,ZTr];simp[stL])
def okL(a b:UInt8):Bool:=a == 97 || (a == b || (a == 110 && b != 114))
def ZTi(s w:BA):Bool:=decide (w.size<=s.size) && (List.range w.size).all fun j=>okL ((bl w).getD j 0) ((bl s).getD (s.size - w.size+j) 0)
def fitK(op:Nat)(st:List Nat):Bool:=match op with
 | 0=>true
 | 1=>true
 | 2 => match st with
   | k::_=>decide (k=3)
   | []=>false
 | 3 => match st with
   | y::k::_=>Zby k && Zby y
   | _=>false
 | 4 => match st with
   | k::_=>Zby k
   | []=>false
 | 9=>true
 | 11 => match st with
   | _::_=>true
   | []=>false
 | 12 => match st with
   | _::_=>true
   | []=>false
 | 13=>true
 | _ => match st with
   | k::_=>decide (k=2)
   | []=>false
theorem ZWr(k:Nat)(r:List Nat):(bl (stB (k::r))).getD ((stB (k::r)).size - 1+0) 0=kl k:=by
 rw[ZTr,ZTq];simp[stL,Yaa]
theorem ZWs(y k:Nat)(r:List Nat):(bl (stB (y::k::r))).getD ((stB (y::k::r)).size - 2+0) 0=kl k:=by
 rw[ZTr,ZTq];simp[stL,Yaa]
theorem ZWt(y k:Nat)(r:List Nat):(bl (stB (y::k::r))).getD ((stB (y::k::r)).size - 2+1) 0=kl y:=by
 rw[ZTr,ZTq];simp[stL,Yaa]
theorem ZVm{s w:BA}(h:w.size=0):ZTi s w=true:=by unfold ZTi;rw[h];rfl
theorem ZUm{w:BA}(h:0<w.size):ZTi (stB []) w=false:=by
 unfold ZTi;rw[show(stB []).size=0 from rfl,decide_eq_false Om];rfl
theorem ZTW(a:UInt8)(k:Nat)(r:List Nat):ZTi (stB (k::r)) ⟨#[a]⟩=okL a (kl k):=by
 unfold ZTi;rw[show(⟨#[a]⟩:BA).size=1 from rfl,decide_eq_true (by rw[ZTq,Yaj];omega),show List.range 1=[0] from rfl];simp only[Yep,List.all_nil,Yd3,Bool.true_and];rw[ZWr];rfl
theorem ok_r(k:Nat)(h:k<=3):okL 114 (kl k)=decide (k=3):=by
 rcases(by omega:k=0∨k=1∨k=2∨k=3)with rfl|rfl|rfl|rfl <;> rfl
theorem ok_v(k:Nat)(h:k<=3):okL 118 (kl k)=decide (k=2):=by
 rcases(by omega:k=0∨k=1∨k=2∨k=3)with rfl|rfl|rfl|rfl <;> rfl
theorem ok_n(k:Nat)(h:k<=3)(a:k≠0):okL 110 (kl k)=Zby k:=by
 rcases(by omega:k=1∨k=2∨k=3)with rfl|rfl|rfl <;> rfl
theorem ok_a:okL 97 b=true:=rfl
theorem ZUl(op:Nat)(st:List Nat)(d:op<=13)(b:∀k∈st,k≠0/\k<=3):ZTi (stB st) (ZTT op)=fitK op st:=by
 rcases(by omega:op=0∨op=1∨op=2∨op=3∨op=4∨op=5∨op=6∨op=7∨op=8∨op=9∨op=10∨op=11∨op=12∨op=13)with rfl|rfl|rfl|rfl|rfl|rfl|rfl|rfl|rfl|rfl|rfl|rfl|rfl|rfl
 case inr.inr.inr.inl=>
  cases st with
  | nil=>exact ZUm Dc
  | cons y r=>
   cases r with
   | nil=>rfl
   | cons k r=>
    show ZTi (stB (y::k::r)) ⟨#[110,110]⟩=(Zby k && Zby y)
    unfold ZTi;rw[show(⟨#[110,110]⟩:BA).size=2 from rfl,decide_eq_true (by rw[ZTq,Yaj,Yaj];omega),show List.range 2=[0,1] from rfl];simp only[Yep,List.all_nil,Yd3,Bool.true_and];rw[ZWs,ZWt];have a:=b k (by simp);have c:=b y (by simp);show(okL 110 (kl k) && okL 110 (kl y))=_;rw[ok_n k a.2 a.1,ok_n y c.2 c.1]
 all_goals first
  | exact ZVm rfl
  | (cases st with
     | nil=>exact ZUm Dc
     | cons k r=>
       have a:=b k (by simp)
       first
         | exact(ZTW 114 k r).trans (ok_r k a.2)
         | exact(ZTW 110 k r).trans (ok_n k a.2 a.1)
         | exact(ZTW 97 k r).trans (ok_a)
         | exact(ZTW 118 k r).trans (ok_v k a.2))
def ZTt(c:CodeQ)(op arg:Nat)(took sl:BA):BA:=match op with
 | 0=>⟨#[115]⟩
 | 1=>if (c.jv[arg]?.map Zb3).getD 0=3 then ⟨#[114]⟩else ⟨#[118]⟩
 | 3=>if took=⟨#[115,115]⟩then ⟨#[115]⟩else ⟨#[118]⟩
 | 4=>took
 | 9=>⟨#[]⟩
 | 10=>took
 | 11=>⟨#[]⟩
 | 12=>⟨#[]⟩
 | 13=>sl.extract arg (arg+1)
 | _=>⟨#[118]⟩
def hasB(op arg:Nat)(took sl:BA):BA:=if op=12 then sl.extract 0 arg++took++sl.extract (arg+1) sl.size else sl
theorem ZVN(c:CodeQ)(arg:Nat)(h:arg<c.jv.length):(c.jv[arg]?.map Zb3).getD 0=3∨(c.jv[arg]?.map Zb3).getD 0=2:=by
 rw[List.getElem?_eq_getElem h];show Zb3 _=3∨Zb3 _=2;unfold Zb3;split <;> simp
theorem ZWi(sl:List Nat)(a:Nat)(h:a<sl.length):(slB sl).extract a (a+1)=stB [sl.getD a 0]:=ZcW (by
 rw[Zfh,ZTR,ZTr,Yc8];rw[show a+1 - a=1 by omega,List.drop_eq_getElem_cons (by rw[Yak];exact h)];simp[stL,Yaa,h])
theorem ZWh(sl:List Nat)(a:Nat)(h:a<sl.length):(bl (slB sl)).getD a 0=kl (sl.getD a 0):=by
 rw[ZTR];simp[Yaa,h]
theorem ZWj(sl:List Nat)(a k:Nat)(h:a<sl.length):(slB sl).extract 0 a++stB [k]++(slB sl).extract (a+1) (slB sl).size=slB (sl.set a k):=ZcW (by
 rw[ZTF,ZTF,Zfh,Zfh,ZTr,ZTR,ZTR,ZTQ,Ygr,Ya5 (i:=sl.length) (by rw[Yak];exact Yac _)];rw[List.set_eq_take_append_cons_drop,if_pos h,Yaq,Ybb,Yer,List.map_drop];simp[stL])
structure DocStep (c:CodeQ) (op arg:Nat) (st sl:List Nat) (S L W:BA):Prop where
 wle:W.size<=2
 no:ZTi S W=false->Zt c (op,arg) st sl=none
 le:ZTi S W=true->W.size<=S.size
 ld:op=13->arg<L.size
 no2:op=13->(bl L).getD arg 0=45->Zt c (op,arg) st sl=none
 big:ZTi S W=true->(op=13->¬(bl L).getD arg 0=45)->64<(S.extract 0 (S.size - W.size)++ZTt c op arg (S.extract (S.size - W.size) S.size) L).size->Zt c (op,arg) st sl=none
 ok:ZTi S W=true->(op=13->¬(bl L).getD arg 0=45)->¬64<(S.extract 0 (S.size - W.size)++ZTt c op arg (S.extract (S.size - W.size) S.size) L).size->∃st' sl',Zt c (op,arg) st sl=some (st',sl')/\S.extract 0 (S.size - W.size)++ZTt c op arg (S.extract (S.size - W.size) S.size) L=stB st'/\hasB op arg (S.extract (S.size - W.size) S.size) L=slB sl'
theorem ZWx(op:Nat):(ZTT op).size<=2:=by unfold ZTT;split <;> decide
theorem ZT2(h:ZTi S W=true):W.size<=S.size:=by
 unfold ZTi at h;rw[Yas]at h;exact of_decide_eq_true h.1
theorem ZU1{op:Nat}(o:W.size<=2)(p:ZTi (stB st) W=false->Zt c (op,arg) st sl=none)
  (f:op=13->arg<sl.length/\(sl.getD arg 0=0->Zt c (op,arg) st sl=none))
  (h:ZTi (stB st) W=true->(op=13->sl.getD arg 0≠0)->∃P sl',ZTt c op arg (stB (st.take W.size)) (slB sl)=stB P/\hasB op arg (stB (st.take W.size)) (slB sl)=slB sl'/\Zt c (op,arg) st sl=if 64<(P++st.drop W.size).length then none else some (P++st.drop W.size,sl'))
  (q:∀k∈sl,k<=3) :
  DocStep c op arg st sl (stB st) (slB sl) W:=by
 have j : op = 13 -> ((bl (slB sl)).getD arg 0 = 45 ↔ sl.getD arg 0 = 0) := fun e => by
   rw[ZWh sl arg (f e).1]
   have b:sl.getD arg 0<=3:=by
     rw[Yaa,List.getElem?_eq_getElem (f e).1];exact q _ (List.getElem_mem _)
   constructor
   · intro g;exact ZT7 b Dc g
   · intro g;rw[g];rfl
 refine⟨o,p,ZT2,fun e=>by rw[ZTQ];exact(f e).1,fun e d=>(f e).2 ((j e).1 d),fun d l b=>?_,fun d l b=>?_⟩
 ·obtain⟨P,sl',i,_,m⟩:=h d (fun e n=>l e ((j e).2 n));have a:=ZT2 d;rw[ZTq]at a;rw[ZTq,ZUd,ZTY st a,i,ZUb,ZTq]at b;rw[m,if_pos b]
 ·obtain⟨P,sl',i,g,m⟩:=h d (fun e n=>l e ((j e).2 n));have a:=ZT2 d;rw[ZTq]at a;rw[ZTq,ZUd,ZTY st a,i,ZUb,ZTq]at b;refine⟨P++st.drop W.size,sl',?_,?_,?_⟩
  ·rw[m,if_neg b]
  ·rw[ZTq,ZUd,ZTY st a,i,ZUb]
  ·rw[ZTq,ZTY st a,g]
theorem ZTG{k:Nat}(h:st.length<=64):ZE k st sl=if 64<([k]++st).length then none else some ([k]++st,sl):=by
 unfold ZE;by_cases a:st.length=64
 ·rw[if_pos a,if_pos (by simp;omega)]
 ·rw[if_neg a,if_neg (by simp;omega)];rfl
theorem ZT6(h:st.length<=64):some (st,sl)=if 64<([]++st).length then none else some ([]++st,sl):=by
 rw[if_neg (by simp;omega)];rfl
theorem ZU2(c:CodeQ)(i op arg:Nat)(st sl:List Nat)(n:op<=13)(j:Zy c i (op,arg)=true)(b:st.length<=64)(p:∀k∈st,k≠0/\k<=3)(v:sl.length=16)(s:∀k∈sl,k<=3) :
  DocStep c op arg st sl (stB st) (slB sl) (ZTT op):=by
 refine ZU1 (ZWx op) ?_ ?_ ?_ s
 ·intro a;rw[ZUl op st n p]at a;rcases(by omega:(op=0∨op=1∨op=9∨op=13)∨op=2∨op=3∨op=4∨(op=11∨op=12)∨(op=5∨op=6∨op=7∨op=8∨op=10))with d|rfl|rfl|rfl|d|d
  ·rcases d with rfl|rfl|rfl|rfl <;> cases a
  ·cases st with
   | nil=>rfl
   | cons k r=>
    have a:=of_decide_eq_false a;simp only[Zt];rw[if_neg a]
  ·cases st with
   | nil=>rfl
   | cons y r=>
    cases r with
    | nil=>rfl
    | cons k r=>
     have a:(Zby k && Zby y)=false:=a;show(if (Zby k && Zby y)=true then _ else none)=none;rw[a];rfl
  ·cases st with
   | nil=>rfl
   | cons k r=>
    have a:Zby k=false:=a;show(if Zby k=true then _ else none)=none;rw[a];rfl
  ·cases st with
   | nil=>rcases d with rfl|rfl <;> rfl
   | cons k r=>rcases d with rfl|rfl <;> cases a
  ·cases st with
   | nil=>rcases d with rfl|rfl|rfl|rfl|rfl <;> rfl
   | cons k r=>
    have q:¬k=2:=by rcases d with rfl|rfl|rfl|rfl|rfl <;> exact of_decide_eq_false a
    rcases d with rfl|rfl|rfl|rfl|rfl <;> (show(if k=2 then _ else none)=none;rw[if_neg q])
 ·rintro rfl;have l:arg<16:=by simpa [Zy] using j
  refine⟨by omega,fun d=>?_⟩;simp only[Zt];rw[if_pos d]
 ·intro a o;rw[ZUl op st n p]at a;rcases(by omega:op=0∨op=1∨op=2∨op=3∨op=4∨op=9∨op=10∨op=11∨op=12∨op=13∨(op=5∨op=6∨op=7∨op=8))with rfl|rfl|rfl|rfl|rfl|rfl|rfl|rfl|rfl|rfl|f
  ·exact⟨[1],sl,rfl,rfl,ZTG b⟩
  ·have l:arg<c.jv.length:=by simpa [Zy] using j
   rcases ZVN c arg l with m|m
   ·exact ⟨[3], sl, by show (if _ then _ else _) = _; rw [if_pos m]; rfl, rfl, by
      simp only[Zt];rw[m];exact ZTG b⟩
   ·exact ⟨[2], sl, by show (if _ then _ else _) = _; rw [if_neg Om]; rfl, rfl, by
      simp only[Zt];rw[m];exact ZTG b⟩
  ·cases st with
   | nil=>cases a
   | cons k r=>
    have e:k=3:=of_decide_eq_true a
    exact⟨[2],sl,rfl,rfl,by
     simp only[Zt];rw[if_pos e];exact ZTG (by simp only[Yaj]at b;omega)⟩
  ·cases st with
   | nil=>cases a
   | cons y r=>
    cases r with
    | nil=>cases a
    | cons k r=>
     have a:(Zby k && Zby y)=true:=a;have g:=a;rw[Yas]at g;have t:k=1∨k=2:=by simpa [Zby] using g.1
     have u:y=1∨y=2:=by simpa [Zby] using g.2
     have h:r.length<=64:=by simp only[Yaj]at b;omega
     refine⟨[max k y],sl,?_,rfl,?_⟩
     ·rcases t with rfl|rfl <;> rcases u with rfl|rfl <;> rfl
     ·simp only[Zt];rw[if_pos a];exact ZTG h
  ·cases st with
   | nil=>cases a
   | cons k r=>
    have g:Zby k=true:=a
    exact⟨[k],sl,rfl,rfl,by
     simp only[Zt];rw[if_pos g];exact ZTG (by simp only[Yaj]at b;omega)⟩
  ·exact⟨[],sl,rfl,rfl,ZT6 b⟩
  ·cases st with
   | nil=>cases a
   | cons k r=>
    have e:k=2:=of_decide_eq_true a;subst e
    exact⟨[2],sl,rfl,rfl,by
     simp only[Zt];exact ZTG (by simp only[Yaj]at b;omega)⟩
  ·cases st with
   | nil=>cases a
   | cons k r=>exact⟨[],sl,rfl,rfl,ZT6 (by simp only[Yaj]at b;omega)⟩
  ·cases st with
   | nil=>cases a
   | cons k r=>
    have l:arg<16:=by simpa [Zy] using j
    exact⟨[],sl.set arg k,rfl,by
     unfold hasB;rw[if_pos rfl];exact ZWj sl arg k Om,ZT6 (by simp only[Yaj]at b;omega)⟩
  ·have l:arg<16:=by simpa [Zy] using j
   have d:=o rfl
   exact ⟨[sl.getD arg 0], sl, ZWi sl arg Om, rfl, by
     simp only[Zt];rw[if_neg d];exact ZTG b⟩
  ·cases st with
   | nil=>rcases f with rfl|rfl|rfl|rfl <;> cases a
   | cons k r=>
    have e:k=2:=by rcases f with rfl|rfl|rfl|rfl <;> exact of_decide_eq_true a
    subst e;have h:r.length<=64:=by simp only[Yaj]at b;omega
    rcases f with rfl|rfl|rfl|rfl <;> exact⟨[2],sl,rfl,rfl,by
     simp only[Zt];exact ZTG h⟩
theorem ZWm{x:Nat×Nat}{st' sl':List Nat}(a:∀k∈st,k<=3)(d:∀k∈sl,k<=3)(h:Zt c x st sl=some (st',sl')):(∀k∈st',k<=3)/\(∀k∈sl',k<=3):=by
 have push : ∀ {k : Nat} {r s : List Nat}, k <= 3 -> (∀ k ∈ r, k <= 3) -> (∀ k ∈ s, k <= 3) -> ZE k r s = some (st', sl') -> (∀ k ∈ st', k <= 3) /\ (∀ k ∈ sl', k <= 3) := fun {k r s} b f g h => by
   unfold ZE at h;split at h
   · cases h
   · injection h with h;injection h with e1 e2;subst e1;subst e2
     exact ⟨fun x e => by
       rcases Yau.1 e with rfl|e
       · exact b
       · exact f x e,g⟩
 have keep : ∀ {r s : List Nat}, (∀ k ∈ r, k <= 3) -> (∀ k ∈ s, k <= 3) -> some (r, s) = some (st', sl') -> (∀ k ∈ st', k <= 3) /\ (∀ k ∈ sl', k <= 3) := fun {r s} f g h => by
   injection h with h;injection h with e1 e2;subst e1;subst e2;exact⟨f,g⟩
 obtain⟨op,arg⟩:=x;unfold Zt at h;simp only at h;split at h
 ·exact push Dc a d h
 ·refine push ?_ a d h;cases c.jv[arg]? with
  | none=>decide
  | some y=>show Zb3 y<=3;unfold Zb3;split <;> decide
 ·split at h
  ·split at h
   ·exact push Dc (fun k b=>a k (by simp[b])) d h
   ·cases h
  ·cases h
 ·split at h
  ·rename_i y k r;split at h
   ·exact push (by have:=a y (by simp);have:=a k (by simp);omega) (fun k b=>a k (by simp[b])) d h
   ·cases h
  ·cases h
 ·split at h
  ·rename_i k r;split at h
   ·exact push (a k (by simp)) (fun k b=>a k (by simp[b])) d h
   ·cases h
  ·cases h
 ·exact keep a d h
 ·split at h
  ·exact keep (fun k b=>a k (by simp[b])) d h
  ·cases h
 ·split at h
  ·rename_i k r
   exact keep (fun k b => a k (by simp [b])) (fun x e => by
     rcases Yck e with e|e
     · exact d x e
     · rw[e];exact a k (by simp)) h
  ·cases h
 ·split at h
  ·cases h
  ·refine push ?_ a d h;rw[Yaa];cases i:sl[arg]? with
   | none=>decide
   | some k=>exact d k (Ycq i)
 ·split at h
  ·split at h
   ·exact push Dc (fun k b=>a k (by simp[b])) d h
   ·cases h
  ·cases h
def ahC(a:Ah):List Value:=[.bool a.kz,.bool a.kq,.string (stB a.jy),.string (if a.kz then slB a.jx else ⟨#[]⟩)]
def ZTn(x y:LB):LB:=List.zipWith (fun a b=>if a=b then b else 45) x y
theorem ZUh{x y:LB}(h:x.length=y.length):(ZTn x y).length=y.length:=by unfold ZTn;rw[List.length_zipWith];omega
theorem ZUg:∀(x y:List Nat),(∀k∈x,k<=3)->(∀k∈y,k<=3)->ZTn (x.map kl) (y.map kl)=(both x y).map kl
 | [],y,_,_=>by simp[ZTn,both]
 | a::x,[],_,_=>by simp[ZTn,both]
 | a :: x, b :: y, d, f => by
   have ih:=ZUg x y (fun k c=>d k (by simp[c])) (fun k c=>f k (by simp[c]));unfold ZTn both at ih ⊢;rw[Ybb,Ybb,Yg6,Yg6,Ybb,ih]
   congr 1
   by_cases e:a=b
   · subst e;rw[if_pos rfl,if_pos rfl]
   · rw[if_neg e,if_neg (fun h=>e (ZT7 (d a (by simp)) (f b (by simp)) h))];rfl
theorem ZUL{a:UInt8} : ((a.toNat:Nat):Int)=((b.toNat:Nat):Int) ↔ a=b:=by
 constructor
 ·intro h;exact Ydf.1 Om
 ·intro h;rw[h]
theorem ZUR(L1 L:BA)(k:Nat)(a:k<L1.size)(b:k<L.size):(ZTn (bl L1) (bl L)).take (k+1)=(ZTn (bl L1) (bl L)).take k++[if L1[k]=L[k] then L[k] else 45]:=by
 have c:k<(ZTn (bl L1) (bl L)).length:=by unfold ZTn;rw[List.length_zipWith,Zd,Zd];omega
 rw[List.take_succ_eq_append_getElem c]
 congr 2
 simp only[ZTn,List.getElem_zipWith,ZgE L1 k a,ZgE L k b]
theorem BAt.setkM{c:List Value}{t:TypeId}(h:BAt w a c t)(i:Nat)(v:Value):BAt (w.setCell ⟨a,i,none⟩ v) a (c.set i v) t:=by
 unfold BAt at h ⊢;simp only[World.setCell,Ybn,h,if_true,Ybf];show some (Obj.cells (c.toArray.setIfInBounds i v) t (0,0))=_;rw[Yc4]
def ZTX(w:World)(a:Nat)(x y z u:Value):World:=(((w.setCell ⟨a,0,none⟩ x).setCell ⟨a,1,none⟩ y).setCell ⟨a,2,none⟩ z).setCell ⟨a,3,none⟩ u
theorem ZWc{p0 p1 p2 p3 x y z u:Value}{t:TypeId}(h:BAt w a [p0,p1,p2,p3] t):BAt (ZTX w a x y z u) a [x,y,z,u] t:=
 (((h.setkM 0 x).setkM 1 y).setkM 2 z).setkM 3 u
theorem ZWd{w0:World}(h:BW w0 w)(b:w0.heap.size<=a)(x y z u:Value):BW w0 (ZTX w a x y z u):=
 (((h.setCell (p:=⟨a,0,none⟩) b _).setCell (p:=⟨a,1,none⟩) b _).setCell (p:=⟨a,2,none⟩) b _).setCell (p:=⟨a,3,none⟩) b _
theorem ZUG(kn cl:Bool)(S1 L1 S L:BA)(w:World)(E:kn=true->L1.size=L.size)(Q:L.size<=16) :
  CP 57 #[.agg #[.bool kn,.bool cl,.string S1,.string L1],.string S,.string L] w fun e M=>e=.returned (if kn then .agg #[.bool true,.bool (cl || decide (S1≠S)),.string S1,.string (baOf (ZTn (bl L1) (bl L)))] else .agg #[.bool true,.bool false,.string S,.string L])/\BW w M:=by
 cases kn with
 | false=>
  go_enter func57,ntmps57;go_wp2
  have f:BAt ((w.alloc (.cells #[.bool false,.bool cl,.string S1,.string L1] 139)).alloc (.cells #[.bool true,.bool false,.string S,.string L] 139)) (w.heap.size+1) [.bool true,.bool false,.string S,.string L] 139:=by
   have:=Go.Deep.blk_alloc_new (w.alloc (.cells #[.bool false,.bool cl,.string S1,.string L1] 139)) (.cells #[.bool true,.bool false,.string S,.string L] 139);rw[Go.Deep.nblk_alloc]at this;exact this
  have s0:=f.cell 0;have s1:=f.cell 1;have s2:=f.cell 2;have s3:=f.cell 3;simp only[Zget]at s0 s1 s2 s3;have i:Hid (BW w ((w.alloc (.cells #[.bool false,.bool cl,.string S1,.string L1] 139)).alloc (.cells #[.bool true,.bool false,.string S,.string L] 139))):=hid (((Yaf _ w).alloc (Yac _) _).alloc (by simp) _);clear f;generalize(w.alloc (.cells #[.bool false,.bool cl,.string S1,.string L1] 139)).alloc (.cells #[.bool true,.bool false,.string S,.string L] 139)=WX at *
  exact bodyPost_ret (v:=.agg #[.bool true,.bool false,.string S,.string L]) (by simp[results,results57,go_sem,s0,s1,s2,s3]) rfl ⟨rfl,i.out⟩
 | true=>
  have r:=E rfl;clear E;obtain⟨cl2,d⟩:∃cl2,cl2=(cl || decide (S1≠S)):=⟨_,rfl⟩
  rw[if_pos rfl,<-d];by_cases j:S1=S
  case' pos=>
   have F:(S1.toList == S.toList)=true:=by rw[ZTJ];exact decide_eq_true j
   have l:cl2=cl:=by rw[d];simp[j]
  case' neg=>
   have F:(S1.toList == S.toList)=false:=by rw[ZTJ];exact decide_eq_false j
   have l:cl2=true:=by rw[d];simp[j]
  all_goals
   clear d j;have G:=hid l;clear l;go_enter func57,ntmps57
   go_upto_region 5 with fail
   refine ZP fun W q=>?_
   have H:Hid (BAt W w.heap.size [.bool true,.bool cl2,.string S1,.string L1] 139):=hid (by
    rw[q,G.out];exact BAt.below (show BAt _ _ _ _ from Go.Deep.blk_alloc_new w _) Zbal)
   have f:Hid (BAt W (w.heap.size+1) [.bool false,.bool false,.string ⟨#[]⟩,.string ⟨#[]⟩] 139):=hid (by
    rw[q];have:=fun o=>Go.Deep.blk_alloc_new (w.alloc o) (.cells #[.bool false,.bool false,.string ⟨#[]⟩,.string ⟨#[]⟩] 139);simp only[Go.Deep.nblk_alloc]at this;exact this _)
   have I:Hid (BW w W):=hid (by rw[q];exact belB);clear q F;go_wp2
   go_loopw [7,8] (fun bv iv wr=>∃(k:Nat) (B:BA),k<=L.size/\iv=Vi k/\bv=.string B/\Hid (bl B=(ZTn (bl L1) (bl L)).take k)/\Hid (BAt wr w.heap.size [.bool true,.bool cl2,.string S1,.string L1] 139)/\Hid (BAt wr (w.heap.size+1) [.bool false,.bool false,.string ⟨#[]⟩,.string ⟨#[]⟩] 139)/\Hid (BW w wr)) (fun _ iv _=>L.size - (intOf iv).toNat)
   case atStart=>exact⟨0,⟨#[]⟩,Yag _,rfl,rfl,hid rfl,H,f,I⟩
   case round=>
    obtain⟨k,B,R,rfl,rfl,g,c,b,m⟩:=hrel;clear H f I
    have s:B.size=k:=by
     rw[<-Zd,g.out,Ya7,ZUh (by rw[Zd,Zd];exact r),Zd];omega
    have N:B.size<=16:=by omega
    have P:=hid s;clear s;have a0:=c.cell 0;have a1:=c.cell 1;have a2:=c.cell 2;have a3:=c.cell 3;simp only[Zget]at a0 a1 a2 a3;by_cases n:k<L.size
    ·have C:k<L1.size:=by omega
     have t:=hid (ZUR L1 L k C n)
     have A:bl (L.extract k (k+1))=[L[k]]:=by
      rw[Zfh,Yc8,show k+1 - k=1 by omega,List.drop_eq_getElem_cons (by rw[Zd];exact n),ZgE L k n];rfl
     have J:=hid A;clear A;have q1:¬9223372036854775807<B.size+1:=by omega
     by_cases h:L1[k]=L[k]
     ·have d1:(((L1[k].toNat:Nat):Int) == ((L[k].toNat:Nat):Int))=true:=beq_iff_eq.2 (ZUL.2 h);have D:Hid (bl (B++L.extract k (k+1))=(ZTn (bl L1) (bl L)).take (k+1)):=hid (by rw[ZTF,g.out,J.out,t.out,if_pos h]);go_wp2
      go_quiet (fail)
      go_wp2
      go_roundw
      case rel=>exact⟨k+1,_,by omega,by go_num,rfl,D,hid (c.below (ZhQ (Yaf _ _) _)),hid (b.below (ZhQ (Yaf _ _) _)),hid (ZhQ m.out _)⟩
      case measure=>simp[intOf];omega
     ·have d1:(((L1[k].toNat:Nat):Int) == ((L[k].toNat:Nat):Int))=false:=beq_eq_false_iff_ne.2 (fun e=>h (ZUL.1 e));have D:Hid (bl (B++⟨#[45]⟩)=(ZTn (bl L1) (bl L)).take (k+1)):=hid (by rw[ZTF,g.out,t.out,if_neg h];rfl);go_wp2
      go_quiet (fail)
      go_wp2
      go_roundw
      case rel=>exact⟨k+1,_,by omega,by go_num,rfl,D,hid (c.below (ZhQ (Yaf _ _) _)),hid (b.below (ZhQ (Yaf _ _) _)),hid (ZhQ m.out _)⟩
      case measure=>simp[intOf];omega
    ·obtain rfl:k=L.size:=by omega
     have O:Hid (baOf (ZTn (bl L1) (bl L))=B):=hid (ZcW (by
      rw[ZTV,g.out,Ya5 (by rw[ZUh (by rw[Zd,Zd];exact r),Zd];exact Yac _)]))
     have f3:=c.frozen 3;have r0:=b.cell 0;have r1:=b.cell 1;have r2:=b.cell 2;have r3:=b.cell 3;simp only[Zget]at r0 r1 r2 r3;have g0:=b.frozen 0;have g1:=b.frozen 1;have g2:=b.frozen 2;have g3:=b.frozen 3;go_wp2;change bodyPost _ _ _ _ _ (ZTX (wr.setCell ⟨w.heap.size,3,none⟩ (.string B)) (w.heap.size+1) (.bool true) (.bool cl2) (.string S1) (.string B));have K:=(b.other (p:=⟨w.heap.size,3,none⟩) (by show w.heap.size+1≠w.heap.size;omega) (.string B))
     have st:=ZWc K (x:=.bool true) (y:=.bool cl2) (z:=.string S1) (u:=.string B);have s0:=st.cell 0;have s1:=st.cell 1;have s2:=st.cell 2;have s3:=st.cell 3;simp only[Zget]at s0 s1 s2 s3;have i:=hid (ZWd (w0:=w) (a:=w.heap.size+1) (m.setCell (p:=⟨w.heap.size,3,none⟩) (Yac _) (.string B)) Om (.bool true) (.bool cl2) (.string S1) (.string B));clear a0 a1 a2 a3 f3 r0 r1 r2 r3 g0 g1 g2 g3;generalize ZTX (wr.setCell ⟨w.heap.size,3,none⟩ (.string B)) (w.heap.size+1) (.bool true) (.bool cl2) (.string S1) (.string B)=WX at *
     exact bodyPost_ret (v:=.agg #[.bool true,.bool cl2,.string S1,.string B]) (by simp[results,results57,go_sem,s0,s1,s2,s3]) rfl ⟨by rw[O.out],i.out⟩
theorem ZVk(a:W.size<=S.size)(h:∀j,j<W.size->okL ((bl W).getD j 0) ((bl S).getD (S.size - W.size+j) 0)=true):ZTi S W=true:=by
 unfold ZTi;rw[Yas];exact⟨decide_eq_true a,Ybu.2 (fun j b=>h j (Yb9.1 b))⟩
theorem ZUn(j:Nat)(a:j<W.size)(h:okL ((bl W).getD j 0) ((bl S).getD (S.size - W.size+j) 0)=false):ZTi S W=false:=by
 unfold ZTi;rw[Yfm];refine Or.inr (Yce.2 (fun b=>?_));have:=Ybu.1 b j (Yb9.2 a);simp only[h]at this;exact Bool.noConfusion this
theorem ZTC{a:UInt8} : ((a.toNat:Nat):Int)=((b.toNat:Nat):Int) ↔ a=b:=by
 constructor
 ·intro h;exact Ydf.1 Om
 ·intro h;rw[h]
theorem ZVG(a b:UInt8):(a=97/\okL a b=true)∨(a≠97/\a=b/\okL a b=true)∨(a≠97/\a≠b/\a=110/\b≠114/\okL a b=true)∨(a≠97/\a≠b/\a=110/\b=114/\okL a b=false)∨(a≠97/\a≠b/\a≠110/\okL a b=false):=by
 unfold okL;by_cases c:a=97
 ·subst c;exact Or.inl ⟨rfl,rfl⟩
 ·by_cases e:a=b
  ·subst e;exact Or.inr (Or.inl ⟨c,rfl,by simp⟩)
  ·by_cases d:a=110
   ·by_cases f:b=114
    ·exact Or.inr (Or.inr (Or.inr (Or.inl ⟨c,e,d,f,by subst d;subst f;rfl⟩)))
    ·exact Or.inr (Or.inr (Or.inl ⟨c,e,d,f,by simp[d,f]⟩))
   ·exact Or.inr (Or.inr (Or.inr (Or.inr ⟨c,e,d,by simp[c,e,d]⟩)))
theorem ZVl(S W:BA)(A:S.size<=70000)(B:W.size<=2) :
  CP 55 #[.string S,.string W] w fun e u=>e=.returned (.bool (ZTi S W))/\BW w u:=by
 by_cases r:W.size<=S.size
 ·obtain⟨T,q⟩:∃T,T=S.extract (S.size - W.size) S.size:=⟨_,rfl⟩
  have z:T.size=W.size:=by rw[q,Yga];omega
  have x : Hid (∀ j (i : j < T.size) (m : j < W.size), okL W[j] T[j] = okL ((bl W).getD j 0) ((bl S).getD (S.size - W.size + j) 0)) := hid (fun j i m => by
    congr 1
    · rw[Yaa,List.getElem?_eq_getElem (by rw[Zd];exact m),ZgE W j m];rfl
    · have a:(bl T)[j]?=some T[j]:=by rw[List.getElem?_eq_getElem (by rw[Zd];exact i),ZgE T j i]
      have c:bl T=(bl S).drop (S.size - W.size):=by rw[q,Zfh,Ya5 (by rw[Zd];exact Yac _)]
      rw[c,Ygv]at a;rw[Yaa,a];rfl)
  have y:=hid q;go_enter func55,ntmps55;go_wp2;rw[<-y.out];clear q
  go_loopw [6] (fun iv wr=>∃k:Nat,k<=W.size/\iv=Vi k/\Hid (∀j,j<k->okL ((bl W).getD j 0) ((bl S).getD (S.size - W.size+j) 0)=true)/\Hid (BW w wr)) (fun iv _=>W.size - (intOf iv).toNat)
  case atStart=>exact⟨0,Yag _,rfl,hid (fun j i=>absurd i (Ya1 _)),hid (Yaf _ _)⟩
  case round=>
   obtain⟨k,C,rfl,v,l⟩:=hrel;by_cases n:k<W.size
   ·have t:k<T.size:=by omega
    have s:=x.out k t n;have o:=hid s;clear s
    have go (h : okL W[k] T[k] = true) : Hid (∀ j, j < k + 1 -> okL ((bl W).getD j 0) ((bl S).getD (S.size - W.size + j) 0) = true) := hid (fun j i => by
      by_cases e:j=k
      · subst e;rw[<-o.out];exact h
      · exact v.out j Om)
    have f:=hid go;clear go;rcases ZVG W[k] T[k]with ⟨a,b⟩|⟨a,c,b⟩|⟨a,c,g,p,b⟩|⟨a,c,g,p,b⟩|⟨a,c,g,b⟩
    ·have d:=f.out b;have d1:(((W[k].toNat:Nat):Int) == 97)=true:=by rw[a];rfl
     clear b f;go_wp2
     go_quiet (fail)
     go_wp2
     go_roundw
     case rel=>exact⟨k+1,by omega,by go_num,d,hid ((by have:=l.out;first|exact this|exact this.drew|exact ZhQ this _))⟩
     case measure=>simp[intOf];omega
    ·have d:=f.out b;have d1:(((W[k].toNat:Nat):Int) == 97)=false:=beq_eq_false_iff_ne.2 (fun e=>a (ZTC.1 e));have d2:(((W[k].toNat:Nat):Int) == ((T[k].toNat:Nat):Int))=true:=beq_iff_eq.2 (ZTC.2 c);clear b f a c;go_wp2
     go_quiet (fail)
     go_wp2
     go_roundw
     case rel=>exact⟨k+1,by omega,by go_num,d,hid ((by have:=l.out;first|exact this|exact this.drew|exact ZhQ this _))⟩
     case measure=>simp[intOf];omega
    ·have d:=f.out b;have d1:(((W[k].toNat:Nat):Int) == 97)=false:=beq_eq_false_iff_ne.2 (fun e=>a (ZTC.1 e));have d2:(((W[k].toNat:Nat):Int) == ((T[k].toNat:Nat):Int))=false:=beq_eq_false_iff_ne.2 (fun e=>c (ZTC.1 e));have d3:(((W[k].toNat:Nat):Int) == 110)=true:=by rw[g];rfl
     have d4:(((T[k].toNat:Nat):Int) != 114)=true:=bne_iff_ne.2 (fun e=>p (ZTC.1 e));clear b f a c g p;go_wp2
     go_quiet (fail)
     go_wp2
     go_roundw
     case rel=>exact⟨k+1,by omega,by go_num,d,hid ((by have:=l.out;first|exact this|exact this.drew|exact ZhQ this _))⟩
     case measure=>simp[intOf];omega
    ·have d:Hid (ZTi S W=false):=hid (ZUn k n (by rw[<-o.out];exact b));have d1:(((W[k].toNat:Nat):Int) == 97)=false:=beq_eq_false_iff_ne.2 (fun e=>a (ZTC.1 e));have d2:(((W[k].toNat:Nat):Int) == ((T[k].toNat:Nat):Int))=false:=beq_eq_false_iff_ne.2 (fun e=>c (ZTC.1 e));have d3:(((W[k].toNat:Nat):Int) == 110)=true:=by rw[g];rfl
     have d4:(((T[k].toNat:Nat):Int) != 114)=false:=by rw[p];rfl
     clear b f a c g p;go_wp2
     go_quiet (fail)
     go_wp2;go_ret;exact⟨Zcy d.symm,(by have:=l.out;first|exact this|exact this.drew|exact ZhQ this _)⟩
    ·have d:Hid (ZTi S W=false):=hid (ZUn k n (by rw[<-o.out];exact b));have d1:(((W[k].toNat:Nat):Int) == 97)=false:=beq_eq_false_iff_ne.2 (fun e=>a (ZTC.1 e));have d2:(((W[k].toNat:Nat):Int) == ((T[k].toNat:Nat):Int))=false:=beq_eq_false_iff_ne.2 (fun e=>c (ZTC.1 e));have d3:(((W[k].toNat:Nat):Int) == 110)=false:=beq_eq_false_iff_ne.2 (fun e=>g (ZTC.1 e));clear b f a c g;go_wp2
     go_quiet (fail)
     go_wp2;go_ret;exact⟨Zcy d.symm,(by have:=l.out;first|exact this|exact this.drew|exact ZhQ this _)⟩
   ·obtain rfl:k=W.size:=by omega
    have d:Hid (ZTi S W=true):=hid (ZVk r v.out);go_wp2;go_ret;exact⟨Zcy d.symm,l.out⟩
 ·have d:Hid (ZTi S W=false):=hid (by unfold ZTi;rw[decide_eq_false r];rfl);go_enter func55,ntmps55;go_wp2;go_ret;exact⟨Zcy d.symm,belB⟩
theorem ZUt:∀(l:List PV) (i:Nat) (p:PV),l[i]?=some p->(ZTx l)[i*8]?=some (Vi p.k)
 | [],i,p,h=>by simp at h
 | q::l,0,p,h=>by simp at h;subst h;rfl
 | q :: l, i + 1, p, h => by
   rw[Ye8]at h;have:=ZUt l i p h;show(q.cells++ZTx l)[(i+1)*8]?=_;rw[Yb3 (by rw[ZKR];omega),ZKR,show(i+1)*8 - 8=i*8 by omega];exact this
def ZUe(w:World)(cb:Nat)(c:CodeQ)(op arg:Nat):Prop:=op=1->∃(ca pa ga:Option Addr) (iv:Value) (cn cc pc gn gc g:Nat),BAt w cb [.slice ca cn cc,.slice (some ⟨g,0,none⟩) c.jv.length pc,.slice ga gn gc,iv] 101/\arg<c.jv.length/\pa=none/\w.cell? ⟨g,arg*8,none⟩=some (Vi (if (c.jv[arg]?.map Zb3).getD 0=3 then 2 else 1))
theorem RCode.pickAt(h:RCode w cb c cv pv gv iv l g){i op:Nat}(f:Zy c i (op,arg)=true):ZUe w cb c op arg:=by
 rintro rfl;have a:arg<c.jv.length:=by simpa [Zy] using f
 obtain⟨ca,cc,rfl⟩:=Zl h.cs;obtain⟨gp,pc,rfl⟩:=ZF h.ps Om;obtain⟨ga,gc,rfl⟩:=Zl h.gs;have d:arg<l.length:=by rw[h.pl];exact a
 have e:=h.pk arg c.jv[arg] l[arg] (List.getElem?_eq_getElem a) (List.getElem?_eq_getElem d);have j:=Zi h.ps _ _ (ZUt l arg l[arg] (List.getElem?_eq_getElem d));refine⟨ca,none,ga,iv,_,cc,pc,_,gc,gp,h.box,a,rfl,?_⟩;rw[j,e.k,List.getElem?_eq_getElem a];show some (Value.int .i64 (if 0<(c.jv[arg]).2 then 2 else 1))=some (Vi (if Zb3 c.jv[arg]=3 then 2 else 1));unfold Zb3;by_cases b:0<(c.jv[arg]).2
 ·rw[if_pos b,if_pos b,if_pos rfl]
 ·rw[if_neg b,if_neg b,if_neg Dc]
theorem ZT9{a b:BA}(h:a=b):Ending.returned (.string a)=.returned (.string b):=by rw[h]
theorem ZVT(w:World)(cb:Nat)(c:CodeQ)(op arg:Nat)(took sl:BA)(o:op<=13)(m:arg<65536)(f:ZUe w cb c op arg)(d:op=13->arg<sl.size) :
  CP 56 #[Vp cb,.agg #[Vi op,Vi arg],.string took,.string sl] w fun e u=>e=.returned (.string (ZTt c op arg took sl))/\BW w u:=by
 rcases(by omega:op=1∨op=3∨op=13∨(op=0∨op=2∨op=4∨op=5∨op=6∨op=7∨op=8∨op=9∨op=10∨op=11∨op=12))with rfl|rfl|rfl|n
 ·obtain⟨ca,pa,ga,iv,cn,cc,pc,gn,gc,g,b,t,_,i⟩:=f rfl;have v:=hid b;have b1:=b.cell 1;simp only[Zget]at b1;have p:=b.lt;have k:=Yai _ _ i;simp only at k;have q:(arg:Int)<(c.jv.length:Int):=by omega
  have a:Hid (ZTt c 1 arg took sl=if (c.jv[arg]?.map Zb3).getD 0=3 then ⟨#[114]⟩else ⟨#[118]⟩):=hid rfl;generalize c.jv.length=np at *
  by_cases h:(c.jv[arg]?.map Zb3).getD 0=3
  ·rw[if_pos h]at i a;clear h b f;go_enter func56,ntmps56;go_wp2
   go_quiet (fail)
   go_wp2;go_ret;exact⟨ZT9 a.symm,belB⟩
  ·rw[if_neg h]at i a;clear h b f;go_enter func56,ntmps56;go_wp2
   go_quiet (fail)
   go_wp2;go_ret;exact⟨ZT9 a.symm,belB⟩
 ·clear f d;by_cases j:took=⟨#[115,115]⟩
  ·subst j;go_enter func56,ntmps56;go_wp2;go_ret;exact⟨rfl,belB⟩
  ·have a:Hid (ZTt c 3 arg took sl=⟨#[118]⟩):=hid (if_neg j)
   have r:(took.toList == [115,115])=false:=by
    have l:=(ZTJ took ⟨#[115,115]⟩).trans (decide_eq_false j);rw[Zbt ⟨#[115,115]⟩]at l;exact l
   go_enter func56,ntmps56;go_wp2;go_ret;exact⟨ZT9 a.symm,belB⟩
 ·have s:=d rfl;clear f d;go_enter func56,ntmps56;go_wp2;go_ret;exact⟨rfl,belB⟩
 ·clear f d;rcases n with rfl|rfl|rfl|rfl|rfl|rfl|rfl|rfl|rfl|rfl|rfl
  all_goals
   go_enter func56,ntmps56;go_wp2;go_ret;exact⟨rfl,belB⟩
theorem ZMs (l : List (BA × BA × Bool)) (j : Nat) : (ZJo l)[j * 3]? = l[j]?.map (fun c => .string c.1) /\ (ZJo l)[j * 3 + 1]? = l[j]?.map (fun c => .string c.2.1) /\ (ZJo l)[j * 3 + 2]? = l[j]?.map (fun c => .bool c.2.2) := by
  induction l generalizing j with
  | nil=>simp[ZJo]
  | cons r l ih=>
    obtain⟨x,y,z⟩:=r;cases j with
    | zero=>simp[ZJo]
    | succ j=>
      obtain⟨a,b,d⟩:=ih j;refine⟨?_,?_,?_⟩
      · rw[show(j+1)*3=j*3+1+1+1 by omega];simpa [ZJo] using a
      · rw[show(j+1)*3+1=j*3+1+1+1+1 by omega];simpa [ZJo] using b
      · rw[show(j+1)*3+2=j*3+2+1+1+1 by omega];simpa [ZJo] using d
def ZRX(qs:List (BA×BA×Bool))(k:Nat):LB:=ZRV ((qs.take k).map fun c=>Z8 (blC c))
theorem ZR9(qs:List (BA×BA×Bool))(k:Nat)(h:k<qs.length):ZRX qs (k+1)=(if k=0 then [] else ZRX qs k++[44])++Z8 (blC qs[k]):=by
 unfold ZRX;rw[List.take_succ_eq_append_getElem h,Yaq,List.map_singleton,Zlc];by_cases a:k=0
 ·subst a;rfl
 ·rw[if_neg a,if_neg];rw[Ydl];intro e;have:=congrArg List.length e;rw[Yak,Ya7,Ybq]at this;omega
theorem ZSb(l:List (LB×LB×Bool))(k:Nat):cw (l.take k)<=cw l:=by
 induction l generalizing k with
 | nil=>simp
 | cons a l ih=>
  cases k with
  | zero=>simp[cw]
  | succ k=>have:=ih k;simp[cw];omega
theorem ZR8(qs:List (BA×BA×Bool))(k:Nat):(ZRX qs k).length<=cw (qs.map blC):=by
 unfold ZRX;have a:=ZeS ((qs.take k).map fun c=>Z8 (blC c));have b:=Zmv ((qs.take k).map blC);have d:=ZSb (qs.map blC) k;rw[Yb1]at b;rw[<-Yer]at d;have e:((qs.take k).map fun c=>Z8 (blC c))=(qs.take k).map (Z8 ∘ blC):=rfl;rw[e]at a ⊢;omega
theorem ZSa(l:List (LB×LB×Bool))(k:Nat)(h:k<l.length):l[k].1.length+l[k].2.1.length<=cw l:=by
 induction l generalizing k with
 | nil=>simp at h
 | cons a l ih=>
  cases k with
  | zero=>simp[cw];omega
  | succ k=>have:=ih k (by simpa using h);simp[cw];omega
theorem ZR7(w:World)(p:PV)(nd:Nd)(B:bl p.nm=nd.name)(L:ZJq w 0 p nd.jn)(V:nd.name.length+cw nd.jn<=200000) :
  CP 105 #[.agg #[Vi p.k,Vi p.n,Vi p.op,.string p.nm,.slice p.ca p.cn p.cc,.slice p.ba p.bn p.bc,Vi p.a,Vi p.b]] w fun e u=>∃r:BA,e=.returned (.string r)/\r.size<=300000/\Hid (bl r=selS nd)/\BW w u:=by
 obtain⟨qs,s,C⟩:=L;obtain⟨av,cp,M⟩:=Zl s;injection M with hv1 hv2 hv3;have H:p.nm.size=nd.name.length:=ZU B;have G:cw (qs.map blC)<=200000:=by rw[C];omega
 have N : Hid (∀ k (h : k < qs.length), (qs[k]).1.size + (qs[k]).2.1.size <= 200000) := hid (fun k h => by
   have:=ZSa (qs.map blC) k (by simpa using h);simp only[List.getElem_map,blC,Zd]at this;omega)
 have O:Hid (∀k,(ZRX qs k).length<=200000):=hid (fun k=>Yah (ZR8 qs k) G);have i:Hid (bl p.nm=nd.name/\qs.map blC=nd.jn):=⟨B,C⟩
 have z:Hid (w.ownsRow 0 372 3 (.slice p.ca qs.length p.cc) qs.length (ZJo qs)):=hid (by have:=s;rw[hv2]at this;exact this)
 have X:qs.length<=200000:=by
  have : ∀ l : List (LB × LB × Bool), l.length <= cw l := fun l => by
    induction l with
    | nil=>exact Yac _
    | cons a l ih=>simp[cw];omega
  have:=this (qs.map blC);rw[Yak]at this;omega
 clear s hv3 C G B;obtain⟨pk,pn,pop,pnm,pca,pcn,pcc,pba,pbn,pbc,pa,pb⟩:=p;simp only at hv1 hv2 H i z;subst hv2;clear hv1;by_cases P:qs.length=0
 ·have d:Hid (bl pnm=selS nd):=hid (by
   unfold selS;rw[<-i.2,Ygc.1 P];exact i.1)
  have Q:pnm.size<=300000:=by omega
  go_enter func105,ntmps105;go_wp2;go_ret;exact⟨_,rfl,Q,d,Zbal⟩
 ·have R:∃g,pca=some ⟨g,0,none⟩:=by
   obtain⟨g,cp',h⟩:=ZF z.out Om;injection h with h1;exact⟨g,h1⟩
  obtain⟨g,rfl⟩:=R;have I:=Z1 z.out;have Y:((qs.length:Int) == 0)=false:=by rw[beq_eq_false_iff_ne];omega
  go_enter func105,ntmps105;go_wp2
  go_loopw [3,4] (fun sv iv wr=>∃(k:Nat) (r:BA),k<=qs.length/\iv=Vi k/\sv=.string r/\Hid (bl r=ZRX qs k)/\Hid (Below (w.heap.size+1) (w.alloc (.cells #[Vi pk,Vi pn,Vi pop,.string pnm,.slice (some ⟨g,0,none⟩) qs.length pcc,.slice pba pbn pbc,Vi pa,Vi pb] 92)) wr)) (fun _ iv _=>qs.length - (intOf iv).toNat)
  case atStart=>exact⟨0,⟨#[]⟩,Yag _,rfl,rfl,rfl,Yaf _ _⟩
  case round=>
   obtain⟨k,r,hk,rfl,rfl,A,F⟩:=hrel;have D:PAt wr w.heap.size ⟨pk,pn,pop,pnm,some ⟨g,0,none⟩,qs.length,pcc,pba,pbn,pbc,pa,pb⟩:=(F.block _ Om).trans (Go.Deep.blk_alloc_new _ _);have J:w.heap.size+1<=wr.heap.size:=D.lt;obtain⟨k0,k1,k2,k3,k4,k5,k6,k7⟩:=D.all;have Z:r.size<=200000:=by rw[ZU A.out];exact O.out k
   by_cases E:k<qs.length
   ·obtain⟨f1,f2,f3⟩:=ZMs qs k;rw[List.getElem?_eq_getElem E]at f1 f2 f3;have f:∀j,wr.cell? ⟨g,j,none⟩=w.cell? ⟨g,j,none⟩:=fun j=>((F.cell (p:=⟨g,j,none⟩) (by show g<w.heap.size+1;omega))).trans (Ybm _ _ _ I);have d1:wr.cell? ⟨g,k*3,none⟩=some (.string qs[k].1):=(f _).trans (Zi z.out _ _ f1);have d2:wr.cell? ⟨g,k*3+1,none⟩=some (.string qs[k].2.1):=(f _).trans (Zi z.out _ _ f2);have d3:wr.cell? ⟨g,k*3+2,none⟩=some (.bool qs[k].2.2):=(f _).trans (Zi z.out _ _ f3);have S:=N.out k E;have m:Hid (ZRX qs (k+1)=(if k=0 then [] else ZRX qs k++[44])++Z8 (blC qs[k])):=ZR9 qs k E;generalize qs[k]=c at *
    obtain⟨x,y,v⟩:=c;simp only at d1 d2 d3 S;clear f1 f2 f3 f D;have add:∀(a b:BA),a.size+b.size<=2000000->∀W,(Op.stringOp .add a b).run prog W=.ok (.string (a++b)) W:=fun a b h W=>run_string_add_sum W a b Om;have t:Hid (∀o,Below (w.heap.size+1) (w.alloc (.cells #[Vi pk,Vi pn,Vi pop,.string pnm,.slice (some ⟨g,0,none⟩) qs.length pcc,.slice pba pbn pbc,Vi pa,Vi pb] 92)) (wr.alloc o)):=fun o=>F.alloc J o;by_cases a5:0<(k:Int)
    ·cases v
     ·have d:Hid (bl (((((r++⟨#[44]⟩)++x)++⟨#[61,34]⟩)++y)++⟨#[34]⟩)=ZRX qs (k+1)):=hid (by
       rw[m.out,if_neg Om,ZcV,ZcV,ZcV,ZcV,ZcV,A.out];simp[Z8,blC,ZRX,bl])
      have a0:=add r ⟨#[44]⟩ (by show r.size+1<=_;omega);have z0:(r++⟨#[44]⟩).size=r.size+1:=(by rw[Yaz];rfl)
      have z1:((r++⟨#[44]⟩)++x).size=r.size+1+x.size:=by rw[Yaz,z0]
      have z2:(((r++⟨#[44]⟩)++x)++⟨#[61,34]⟩).size=r.size+1+x.size+2:=by rw[Yaz,z1];rfl
      have z3:((((r++⟨#[44]⟩)++x)++⟨#[61,34]⟩)++y).size=r.size+1+x.size+2+y.size:=by rw[Yaz,z2]
      have a1:=add (r++⟨#[44]⟩) x Om;have a2:=add ((r++⟨#[44]⟩)++x) ⟨#[61,34]⟩ (by rw[z1];show _+2<=_;omega);have a3:=add (((r++⟨#[44]⟩)++x)++⟨#[61,34]⟩) y Om;have a4:=add ((((r++⟨#[44]⟩)++x)++⟨#[61,34]⟩)++y) ⟨#[34]⟩ (by rw[z3];show _+1<=_;omega);clear z0 z1 z2 z3 m;go_wp2
      go_roundw
      case rel=>exact⟨k+1,_,by omega,by go_num,rfl,d,t.out _⟩
      case measure=>simp[intOf];omega
     ·have d:Hid (bl (((((r++⟨#[44]⟩)++x)++⟨#[33,61,34]⟩)++y)++⟨#[34]⟩)=ZRX qs (k+1)):=hid (by
       rw[m.out,if_neg Om,ZcV,ZcV,ZcV,ZcV,ZcV,A.out];simp[Z8,blC,ZRX,bl])
      have a0:=add r ⟨#[44]⟩ (by show r.size+1<=_;omega);have z0:(r++⟨#[44]⟩).size=r.size+1:=(by rw[Yaz];rfl)
      have z1:((r++⟨#[44]⟩)++x).size=r.size+1+x.size:=by rw[Yaz,z0]
      have z2:(((r++⟨#[44]⟩)++x)++⟨#[33,61,34]⟩).size=r.size+1+x.size+3:=by rw[Yaz,z1];rfl
      have z3:((((r++⟨#[44]⟩)++x)++⟨#[33,61,34]⟩)++y).size=r.size+1+x.size+3+y.size:=by rw[Yaz,z2]
      have a1:=add (r++⟨#[44]⟩) x Om;have a2:=add ((r++⟨#[44]⟩)++x) ⟨#[33,61,34]⟩ (by rw[z1];show _+3<=_;omega);have a3:=add (((r++⟨#[44]⟩)++x)++⟨#[33,61,34]⟩) y Om;have a4:=add ((((r++⟨#[44]⟩)++x)++⟨#[33,61,34]⟩)++y) ⟨#[34]⟩ (by rw[z3];show _+1<=_;omega);clear z0 z1 z2 z3 m;go_wp2
      go_roundw
      case rel=>exact⟨k+1,_,by omega,by go_num,rfl,d,t.out _⟩
      case measure=>simp[intOf];omega
    ·cases v
     ·have d:Hid (bl ((((r++x)++⟨#[61,34]⟩)++y)++⟨#[34]⟩)=ZRX qs (k+1)):=hid (by
       have q:k=0:=by omega
       rw[m.out,if_pos q,ZcV,ZcV,ZcV,ZcV,A.out,q];simp[Z8,blC,ZRX,ZRV,bl])
      have z0:r.size=r.size:=rfl;have z1:(r++x).size=r.size+x.size:=by rw[Yaz,z0]
      have z2:((r++x)++⟨#[61,34]⟩).size=r.size+x.size+2:=by rw[Yaz,z1];rfl
      have z3:(((r++x)++⟨#[61,34]⟩)++y).size=r.size+x.size+2+y.size:=by rw[Yaz,z2]
      have a1:=add r x Om;have a2:=add (r++x) ⟨#[61,34]⟩ (by rw[z1];show _+2<=_;omega);have a3:=add ((r++x)++⟨#[61,34]⟩) y Om;have a4:=add (((r++x)++⟨#[61,34]⟩)++y) ⟨#[34]⟩ (by rw[z3];show _+1<=_;omega);clear z0 z1 z2 z3 m;go_wp2
      go_roundw
      case rel=>exact⟨k+1,_,by omega,by go_num,rfl,d,t.out _⟩
      case measure=>simp[intOf];omega
     ·have d:Hid (bl ((((r++x)++⟨#[33,61,34]⟩)++y)++⟨#[34]⟩)=ZRX qs (k+1)):=hid (by
       have q:k=0:=by omega
       rw[m.out,if_pos q,ZcV,ZcV,ZcV,ZcV,A.out,q];simp[Z8,blC,ZRX,ZRV,bl])
      have z0:r.size=r.size:=rfl;have z1:(r++x).size=r.size+x.size:=by rw[Yaz,z0]
      have z2:((r++x)++⟨#[33,61,34]⟩).size=r.size+x.size+3:=by rw[Yaz,z1];rfl
      have z3:(((r++x)++⟨#[33,61,34]⟩)++y).size=r.size+x.size+3+y.size:=by rw[Yaz,z2]
      have a1:=add r x Om;have a2:=add (r++x) ⟨#[33,61,34]⟩ (by rw[z1];show _+3<=_;omega);have a3:=add ((r++x)++⟨#[33,61,34]⟩) y Om;have a4:=add (((r++x)++⟨#[33,61,34]⟩)++y) ⟨#[34]⟩ (by rw[z3];show _+1<=_;omega);clear z0 z1 z2 z3 m;go_wp2
      go_roundw
      case rel=>exact⟨k+1,_,by omega,by go_num,rfl,d,t.out _⟩
      case measure=>simp[intOf];omega
   ·obtain rfl:k=qs.length:=by omega
    have d:Hid (bl (((pnm++⟨#[123]⟩)++r)++⟨#[125]⟩)=selS nd):=hid (by
     unfold selS;rw[if_neg (by rw[<-i.2];intro e;have:=congrArg List.length e;rw[Yak,Ybq]at this;omega),ZcV,ZcV,ZcV,A.out,i.1,<-i.2];unfold ZRX;rw[Ya4,Yb1];rfl)
    have z1:(pnm++⟨#[123]⟩).size=pnm.size+1:=by rw[Yaz];rfl
    have z2:((pnm++⟨#[123]⟩)++r).size=pnm.size+1+r.size:=by rw[Yaz,z1]
    have z3:(((pnm++⟨#[123]⟩)++r)++⟨#[125]⟩).size=pnm.size+1+r.size+1:=by rw[Yaz,z2];rfl
    have T:Hid ((((pnm++⟨#[123]⟩)++r)++⟨#[125]⟩).size<=300000):=hid (by
     have U:=Zr7 nd;rw[<-d.out,Zd]at U;omega)
    have a1:∀W,(Op.stringOp .add pnm ⟨#[123]⟩).run prog W=.ok (.string (pnm++⟨#[123]⟩)) W:=fun W=>run_string_add_sum W _ _ (by show pnm.size+1<=_;omega);have a2:∀W,(Op.stringOp .add (pnm++⟨#[123]⟩) r).run prog W=.ok (.string ((pnm++⟨#[123]⟩)++r)) W:=fun W=>run_string_add_sum W _ _ Om;have a3:∀W,(Op.stringOp .add ((pnm++⟨#[123]⟩)++r) ⟨#[125]⟩).run prog W=.ok (.string (((pnm++⟨#[123]⟩)++r)++⟨#[125]⟩)) W:=fun W=>run_string_add_sum W _ _ (by rw[z2];show _+1<=_;omega);have K:Hid (BW w wr):=((Yaf w.heap.size w).alloc (Yac _) _).trans (F.mono Om);clear z1 z2 z3;go_wp2;go_ret;exact⟨_,rfl,T.out,d,K.out⟩
