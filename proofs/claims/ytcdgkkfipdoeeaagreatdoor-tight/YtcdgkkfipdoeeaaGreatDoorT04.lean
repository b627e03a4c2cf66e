/- Parts. -/
import Derived.Test.YtcdgkkfipdoeeaaGreatDoorT03
set_option linter.all false
set_option maxRecDepth 100000
set_option maxHeartbeats 16000000
namespace Go.Proofs.YtcdgkkfipdoeeaaGreatDoor
open Go.RowKit LS Go.Proofs.Tryz
variable {c:Array Value}{close s:LB}{cs ns:List (LB×LB×Bool)}{jx:List Nq}{r ts:List Tok}{l xs:List Value}{a b base deep k m n size:Nat}{rec:Nat->List Tok->Nat->Out Tr}{e fr:Nat×Nat}{R:RS}{t:Tr}{z:Tr×List Tok}{v x y:Value}{W w w' w0:World}
section
section
variable {jx:List Nq} {W:Nat->Cq->Cq} {n x y m:Nat} {c d e:Cq}
theorem Zg9(a:NOk jx)(h:ZbY jx n c=some x):x<=n/\x<jx.length:=by
 unfold ZbY at h;have f:=Zjw h;refine⟨?_,f.1⟩;rcases Yav n x with g|g
 ·have i:=f.2;unfold ZcX at i;rw[Zog a _ _ _ _ _ g]at i
  simp_all
 omega
theorem ZnN(a:NOk jx)(h:∀z,z<=n->∀c,c.jy.length=16->Low z c (W z c)):∀(k:Nat) (c:Cq),c.jy.length=16->Low (n+1) c (ZG jx W n k c)
 | 0,c,_=>Low.refl _ _
 | k + 1, c, i => by
   unfold ZG;cases p:ZbY jx n c with
   | none=>exact Low.refl _ _
   | some x=>
     cases q:ZbQ c.jy with
     | none=>exact Low.refl _ _
     | some s=>
       have f:=(Zg9 a p).1;have g:=ZdZ q;have r:Low (n+1) c { c with jy:=c.jy.set s (some (-1)) }:=Low.slot (fun y _=>by rw[g.2];simp) (fun y _ e=>by simp_all);have j:=r.trans ((h x f _ (by simp_all)).mono (Nat.le_succ_of_le f))
       have l : ∀ y : Nat, n + 1 <= y -> (W x _).jy.getD s _ ≠ some _ := fun y t e => by
         have:=(j.sl s y t).1 e;rw[g.2]at this;cases this
       have o:=j.trans (Low.keep (n:=x) l Om);exact o.trans (ZnN a h k _ (o.ls.trans i))
theorem Zsv{a b:List (Option Int)}(s:Nat)(h:s<16):(Zce a b).getD s none=if a.getD s none=b.getD s none then a.getD s none else none:=by
 unfold Zce
 simp_all
theorem ZCK (h : Low x c d) (f : c.jy.length = 16) {is:List (Nat × Nat)} : Low x c { d with jy := Zce d.jy c.jy, jz := is } := ⟨h.lf, fun s y g => by
  show(Zce d.jy c.jy).getD s none=_ ↔ _;rcases Yav s 16 with a|a
  · rw[Zsv _ a]
    constructor
    · simp_all
    · intro e
      have i:=(h.sl s y g).2 e
      simp_all
  · have i:(Zce d.jy c.jy).getD s none=none:=by simp[Zce,Yaa,a]
    simp_all,h.ll,by simp[Zce,f]⟩
theorem ZvJ(h:NOk jx)(k:x<m)(l:y<m)(f:∀z,z<m->∀c,c.jy.length=16->Low z c (W z c))(a:c.jy.length=16):Low m c (Zbo jx W x y c):=by
 unfold Zbo;simp only;have i:=(ZnN h (fun z p=>f z Om) (y+2) c a).mono (show y+1<=m by omega);have g:=i.trans ((ZmY (jx:=jx) (f x k) (i.ls.trans a)).mono (show x+1<=m by omega));generalize putQ jx W x (ZG jx W y (y+2) c)=c1 at *
 have j:Low m c1 (Zc 11 0 (Zc 10 0 _)):=Low.of rfl rfl;have o:=j.trans ((ZmY (jx:=jx) (f y l) (j.ls.trans (g.ls.trans a))).mono (show y+1<=m by omega));exact g.trans (ZCK o (g.ls.trans a))
theorem ZxR{z:Nq}:Low x c (ZbD z c):=by
 unfold ZbD;split <;> exact Low.of rfl rfl
theorem Zpp (f : ∀ z, z < m -> ∀ c, c.jy.length = 16 -> Low z c (W z c)) : ∀ (ts : List Nat) (c : Cq), (∀ t ∈ ts, t < m) -> c.jy.length = 16 -> Low m c (ts.foldl (fun c t => putQ jx W t c) c)
  | [],c,_,_=>Low.refl _ _
  | t :: ts, c, g, a => by
    have j:=g t (Yay ..);have i:=(ZmY (jx:=jx) (f t j) a).mono (show t+1<=m by omega);rw[Ybp];exact i.trans (Zpp f _ _ (fun t h=>g t (Yam _ h)) (i.ls.trans a))
theorem ZnB(g:NOk jx):∀(f n:Nat) (c:Cq),c.jy.length=16->Low n c (Zr jx f n c)
 | 0,n,c,_=>Low.refl _ _
 | f + 1, n, c, i => by
   have p:∀z,z<n->∀c,c.jy.length=16->Low z c _:=fun z _ c q=>ZnB g f z c q;have h:=Zcf g n;unfold Zr;simp only;split
   · rename_i j
     by_cases k:n<jx.length
     · obtain⟨a,b,l,o⟩:=(g n k).or (by simp_all)
       rw[show jx[n]=jx.getD n nq0 by simp[k]]at l o;rw[l,o];have r:Zg (jx.getD n nq0)=[a,b]:=by unfold Zg;rw[l,o]
       rw[r]at h;exact ZvJ g (h a (by simp)) (h b (by simp)) p i
     · rw[show jx.getD n _=nq0 by simp[k]]at j
       cases j
   · exact(Zpp p _ _ h i).trans (ZxR)
theorem ZkE(a:∀z c,cLe c (W z c)):∀(k:Nat) (c:Cq),cLe c (ZG jx W n k c)
 | 0,c=>cLe.refl _
 | k + 1, c => by
   unfold ZG;split
   · exact((show cLe c { c with jy:=c.jy.set _ _ } from cLe.refl c).trans (a _ _)).trans ((ZgP _ _ _).trans (ZkE a k _))
   · exact cLe.refl _
theorem ZvI(a:∀z c,cLe c (W z c)):cLe c (Zbo jx W x y c):=by
 unfold Zbo;simp only;have h:=((ZkE (jx:=jx) (n:=y) a (y+2) c).trans (Zg4 jx (a x) _)).trans (((Zeq 10 0 _).trans (Zeq 11 0 _)).trans (Zg4 jx (a y) _));exact⟨by simp only[Yat];exact h.1,h.2⟩
theorem Zqx(z:Nq):cLe c (ZbD z c):=by
 unfold ZbD;split
 ·exact⟨by simp[Zc],by simp[Zc]⟩
 ·exact Zeq _ _ _
theorem Zlz (a : ∀ z c, cLe c (W z c)) : ∀ (ts : List Nat) (c : Cq), cLe c (ts.foldl (fun c t => putQ jx W t c) c)
  | [],c=>cLe.refl _
  | t::ts,c=>by rw[Ybp];exact(Zg4 _ (a t) c).trans (Zlz a _ _)
theorem ZiK:∀(f n:Nat) (c:Cq),cLe c (Zr jx f n c)
 | 0,n,c=>cLe.refl _
 | f + 1, n, c => by
   have a:=fun z c=>ZiK f z c;unfold Zr;simp only;split
   · exact ZvI a
   · exact(Zlz a _ _).trans (Zqx _)
def Pre(c d:Cq):Prop:=c.jz <+: d.jz
theorem Pre.refl(c:Cq):Pre c c:=Ya8 _
theorem Pre.trans(h:Pre c d)(q:Pre d e):Pre c e:=List.IsPrefix.trans h q
theorem Zb8(op arg:Nat)(c:Cq):Pre c (Zc op arg c):=Ydd _ _
theorem Zfq{n s:Nat}{c:Cq}:Pre c (ZZ n s c):=Ydd _ _
theorem Zd9(a:∀c,Pre c (W n c))(c:Cq):Pre c (putQ jx W n c):=by
 have f:Pre c (decL n c):=Pre.refl c;cases g:ZK n c.jy with
 | some s=>
  rw[Zd8 g];split
  ·exact Zb8 _ s _
  ·exact Zb8 _ s _
 | none=>
  rw[ZdR g];split
  ·exact f.trans (a _)
  ·split
   ·exact(f.trans (a _)).trans ((Zfq).trans (Zb8 _ _ _))
   ·exact f.trans (a _)
theorem ZfP(a:∀z c,Pre c (W z c)):∀(k:Nat) (c:Cq),Pre c (ZG jx W n k c)
 | 0,c=>Pre.refl _
 | k + 1, c => by
   unfold ZG;split
   · exact((show Pre c { c with jy:=c.jy.set _ _ } from Pre.refl c).trans (a _ _)).trans ((Zfq).trans (ZfP a k _))
   · exact Pre.refl _
theorem ZB8{a b:List (Nat×Nat)}(h:a <+: b){i:Nat}(f:a.length<=i){v:Nat×Nat}:a <+: b.set i v:=by
 obtain⟨t,rfl⟩:=h
 simp_all
theorem ZoR(a:∀z c,Pre c (W z c)):Pre c (Zbo jx W x y c):=by
 unfold Zbo;simp only;have f:=(ZfP (jx:=jx) (n:=y) a (y+2) c).trans (Zd9 (jx:=jx) (a x) _);generalize putQ jx W x (ZG jx W y (y+2) c)=c1 at *
 have g:=f.trans (((Zb8 10 0 _).trans (Zb8 11 0 _)).trans (Zd9 (jx:=jx) (a y) _));exact ZB8 g f.length_le
theorem ZxS{z:Nq}:Pre c (ZbD z c):=by
 unfold ZbD;split
 ·exact Zb8 0 _ _
 ·exact Zb8 _ _ _
theorem Zja (a : ∀ z c, Pre c (W z c)) : ∀ (ts : List Nat) (c : Cq), Pre c (ts.foldl (fun c t => putQ jx W t c) c)
  | [],c=>Pre.refl _
  | t::ts,c=>by rw[Ybp];exact(Zd9 (a t) c).trans (Zja a _ _)
theorem Zhm:∀(f n:Nat) (c:Cq),Pre c (Zr jx f n c)
 | 0,n,c=>Pre.refl _
 | f + 1, n, c => by
   have a:=fun z c=>Zhm f z c;unfold Zr;simp only;split
   · exact ZoR a
   · exact(Zja a _ _).trans (ZxS)
end
end
section
section
variable {w w' w1 w2:World} {X:CX} {cv iv cv' iv':Value} {c c' d:Cq} {S S1:Nat->Prop} {W:Nat->Cq->Cq} {n:Nat}
theorem Zff(h:ZbY jx n c=none∨ZbQ c.jy=none):ZG jx W n k c=c:=by
 cases k with
 | zero=>rfl
 | succ k=>
  unfold ZG;rcases h with h|h
  ·rw[h]
  ·rw[h];cases ZbY jx n c <;> rfl
theorem ZiP{x s:Nat}(h:ZbY jx n c=some x)(a:ZbQ c.jy=some s):ZG jx W n (k+1) c=ZG jx W n k (ZZ x s (W x { c with jy:=c.jy.set s (some (-1)) })):=by
 rw[ZG,h,a]
theorem CoP.tk(a:KeepS (fun j=>j=X.tb) w w1)(q:CoP w1 w2 X cv iv c):CoP w w2 X cv iv c:=CoP.trans (a.mono (fun _ e=>.inr (.inr (.inr (.inl e))))) (fun _ h=>.inl h) (fun _ h=>.inl h) q
theorem ZtG(hW:∀z,z<=n->z<X.jx.length->ZiO X W z)(hL:∀z,z<=n->∀c,c.jy.length=16->Low z c (W z c))(t:∀z c,cLe c (W z c))(h:Co w X cv iv c)(hn:n<X.jx.length)(V:Sml (ZG X.jx W n (n+2) c)) :
  Cz 217 #[Vp X.cb,Vi n] w fun e w'=>e=.returned (.tuple #[])/\Hid (CoP w w' X cv iv (ZG X.jx W n (n+2) c)):=by
 have HW:=hid hW;have HL:=hid hL;have a0:=hid t;have q:=hid h;have m:=hid h.nok;have a8:=h.nsz;obtain⟨R,Y⟩:∃R,R=ZG X.jx W n (n+2) c:=⟨_,rfl⟩
 rw[<-Y]at V ⊢;have HS:=hid V;have HR:=hid Y;clear hW hL t h V Y;go_enter func217,ntmps217;go_wp2
 go_loopg [4] (n+2) (fun g _ wr=>∃(cz iz:Value) (d:Cq),Hid (Co wr X cz iz d)/\Hid (∀ {f:World} {e:Cq},CoP wr f X cz iz e->CoP w f X cv iv e)/\Hid (R=ZG X.jx W n g d)/\Hid (1<=g/\∀y,ZbY X.jx n d=some y->y+1<g))
 case atStart=>exact⟨cv,iv,c,q,hid id,HR,hid ⟨by omega,fun y Z=>by have:=(Zg9 m Z).1;omega⟩⟩
 case round=>
  obtain⟨cz,iz,d,q,HT,r,HG⟩:=hrel
  go_wp2_with fail
  refine(ZDb q n hn).mono ?_;rintro e w1 ⟨rfl,a,u⟩;have k:Hid (∀ {f:World} {e:Cq},CoP _ _ X _ _ e->CoP w f X _ _ e):=hid (fun h=>HT (CoP.tk u h));clear q HT u;have A:=hid (Zps a)
  go_wp2_with fail
  refine A.mono ?_;rintro e w2 ⟨rfl,rfl⟩;clear A;cases l:ZbY X.jx n d with
  | none=>
   simp only[nI];go_wp2;exact bodyPost_ret (results_none rfl _ _ _) rfl ⟨rfl,hid (by rw[r,Zff (.inl l)];exact k (CoP.refl a))⟩
  | some x=>
   have a9:(x:Int)≠-1:=by omega
   simp only[nI];cases o:ZbQ d.jy with
   | none=>
    simp only[Yb7,Yc9];go_wp2;exact bodyPost_ret (results_none rfl _ _ _) rfl ⟨rfl,hid (by rw[r,Zff (.inr o)];exact k (CoP.refl a))⟩
   | some s=>
    simp only[Yb0,Ya6];have p:=(ZdZ o).1;obtain⟨B,a1⟩:=Zg9 m.out l;obtain⟨g',a2⟩:∃g',gk=g'+1:=⟨gk - 1,by have:=HG.1;omega⟩
    subst a2;have C:=hid (HG.2 x l);have D:=hid (r.trans (ZiP l o));have E:=a.slen;have HF:=hid (fun y=>ZB9 (y:=y) m (HL x B) E l o);obtain⟨w3,a3,F,G⟩:=a.slotSet p (v:=-1) Dc;have H:=hid F;have I:Hid (∀ {f:World} {e:Cq},CoP _ _ X _ _ e->CoP w f X _ _ e):=hid (fun h=>k (CoP.trans G (fun _ h=>.inl h) (fun _ h=>.inl h) h));have m2:w2.cell? _=some _:=a.box.cell 2;have a4:=a.box.lt;clear F G E;have J:=hid (HS.of (D.out▸ZkE a0.out _ _));have a5:=hid (J.of (ZgP _ _ _));have K:=hid ((HW x B a1).2 _ _ _ _ H a5);clear l o HG r;generalize W x { d with jy:=d.jy.set s (some (-1)) }=d1 at *
    go_wp2_with fail
    refine K.mono ?_;rintro e w4 ⟨rfl,L⟩;obtain⟨cv4,iv4,M,N,i,j⟩:=L.out;have O:=hid M;have P:Hid (∀ {f:World} {e:Cq},CoP _ f X _ _ e->CoP w _ X _ _ e):=hid (fun h=>I (CoP.trans N i j h));clear M N i j L I H K a3 m2 a4 a k
    go_wp2_with fail
    refine(Zqf O x s (Yah (ZgP x s _).1 J.1) p Om).mono ?_;rintro e w5 ⟨rfl,Q⟩;obtain⟨cv5,iv5,T,U,i,j⟩:=Q.out;have a6:=hid T;have a7:Hid (∀ {f:World} {e:Cq},CoP _ f X _ _ e->CoP w _ X _ _ e):=hid (fun h=>P (CoP.trans U i j h));clear T U i j Q P O;go_wp2
    go_roundg g'
    case measure=>exact Ybd _
    case rel=>exact⟨cv5,iv5,_,a6,a7,D,hid ⟨by have:=C.out;omega,fun y Z=>by have:=HF y Z;have:=C.out;omega⟩⟩
end
end
section
theorem Tryz.infoStr:(Tryz.prog.info? 9).map (fun i=>(i.zero,i.size,i.bytes))=some (some (.string ByteArray.empty),1,16):=by kernel_rfl
def Zb1:List (BA×BA×Bool)->List Value
 | []=>[]
 | c::l=>.string c.1::.bool c.2.2::.string c.2.1::Zb1 l
theorem Zpk(l m:List (BA×BA×Bool)):Zb1 (l++m)=Zb1 l++Zb1 m:=by
 induction l with
 | nil=>rfl
 | cons a l ih=>simp[Zb1,ih]
def Zbc(l:List BA):List Value:=l.map .string
theorem Zh2(l m:List BA):Zbc (l++m)=Zbc l++Zbc m:=Yaq
def Z7(c:BA×BA×Bool):LB×LB×Bool:=(bl c.1,bl c.2.1,c.2.2)
def Zbm(w:World)(v:Value)(ns:List (LB)):Prop:=∃bs:List BA,w.ownsRow 0 9 1 v bs.length (Zbc bs)/\bs.map bl=ns
def ZX(w:World)(v:Value)(cs:List (LB×LB×Bool)):Prop:=∃bs:List (BA×BA×Bool),w.ownsRow 0 224 3 v bs.length (Zb1 bs)/\bs.map Z7=cs
theorem Tryz.infoCondD:(Tryz.prog.info? 224).map (fun i=>(i.zero,i.size,i.bytes))=some (some (.agg #[.string ByteArray.empty,.bool false,.string ByteArray.empty]),3,40):=by kernel_rfl
theorem ZcY{t:TypeId}(a:W.heap.size=n):∀j x,l[j]?=some x->(W.alloc (.cells ⟨l⟩ t)).cell? ((⟨n,0,none⟩:Addr).add j)=some x:=by
 intro j x c;subst a;rw[ZfO];have h:=Go.Deep.blk_alloc_new W (.cells ⟨l⟩ t);simp only[World.cell?,h];simpa using c
theorem Zgi{e:TypeId}(h:w.ownsRow base e size v n xs):w.ownsRow 0 e size v n xs:=by
 refine⟨h.1,?_⟩;rcases h.2 with a|⟨g,cap,cur,h,_,r⟩
 ·exact .inl a
 ·exact .inr ⟨g,cap,cur,h,Yag _,r⟩
theorem Zfu{e:TypeId}(h:w.ownsRow base e size v n xs)(a:w.grownBy w' (some b))(c:b<base):w'.ownsRow base e size v n xs:=
 h.kept a (Or.inr (fun q=>by have:=(h.lt b q).1;omega))
theorem Zfn(h:w0.grownBy w (some b))(a:w.grownBy w' v.ownBlock)(f:∀q,v.ownBlock=some q->w0.heap.size<=q):w0.grownBy w' (some b):=by
 refine⟨a.os.trans h.os,a.tape.trans h.tape,a.output.trans h.output,Yah h.size a.size,?_⟩;intro j c d;rw[a.block j (Yaw c h.size) (fun e=>by have:=f j e.symm;omega),h.block j c d]
theorem RK.grown{k0:Nat}{ts0:List Tok}(a:RK w0 R k0 ts0)(h:RK w R k ts)(c:w.grownBy w' v.ownBlock)(d:∀q,v.ownBlock=some q->w0.heap.size<=q):RK w' R k ts:=by
 refine h.blocks (fun j f g=>c.block j f (fun e=>?_));have:=d j e.symm;have o:=(Yae.1 a.rd.cells).1;have p:=Z1 a.rd.own;have i:=Yai _ _ a.sy;have l:=Yai _ _ a.dp;have m:1<w0.heap.size:=i;have n:2<w0.heap.size:=l;rcases g with rfl|rfl|rfl|rfl <;> omega
theorem Zma{α:Type}{item:List Tok->Out α}{acc:List α}(h:isT close (hd ts)=true):ZS item close (m+1) acc ts=.ok (acc,ts.tail):=if_pos h
theorem Zmb {α : Type} {item : List Tok -> Out α}    (h : isT close (hd ts) = false) : ZS item close (m + 1) [] ts = bnd (item ts) fun a r => ZS item close m [a] r := by
  show(if isT close (hd ts)=true then _ else _)=_;rw[h];rfl
theorem Zmd {α : Type} {item : List Tok -> Out α}   {acc : List α}  (h : isT close (hd ts) = false) (c : acc ≠ []) : ZS item close (m + 1) acc ts = bnd (Zq [44] ts) fun _ r => bnd (item r) fun a r => ZS item close m (acc ++ [a]) r := by
  show(if isT close (hd ts)=true then _ else _)=_;rw[h];cases acc with
  | nil=>exact absurd rfl c
  | cons a l=>rfl
theorem ZdU(h:isT s (hd ts)=true):Zq s ts=.ok ((),ts.tail):=if_pos h
theorem Ze8(h:¬isT s (hd ts)=true):Zq s ts=.error (2,(hd ts).at_):=if_neg h
theorem Zjt{a:LB}(h:ZH k ts=.ok (a,r)):r=ts.tail:=by
 unfold ZH at h;split at h
 ·cases h;rfl
 ·cases h
theorem Zot{a:LB×LB×Bool}(h:ZV ts=.ok (a,r)):r.length<=ts.tail.length:=by
 have:=Zos _ _ h;simp only[Yb4]at *
 omega
theorem RK.pos(h:RK w R k ts):0<ts.length:=h.wf.head.2.1
theorem ZyA     (h : RK w R k ts) {op cl:BA} (a9 : (bl op).all (fun c => !Zp c) = true /\ bl op ≠ []) (b0 : (bl cl).all (fun c => !Zp c) = true /\ bl cl ≠ []) :
    Cz 168 #[Vp R.b,.string op,.string cl,.func (.func 169) #[] #[]] w fun e w'=>∃(la:Option Addr) (ln lc:Nat) (v:Value),e=.returned (.tuple #[.slice la ln lc,v])/\Hid (Res R (fun w' ns=>Zbm w' (.slice la ln lc) ns) w' (bnd (Zq (bl op) ts) fun _ r=>ZS (ZH 2) (bl cl) (r.length+1) [] r) v)/\w.grownBy w' (some R.b):=by
  have H:=hid h;have D:=(Yae.1 h.rd.cells).1;obtain⟨i0,hi,a2,a3,a4⟩:=info_parts Tryz.infoStr;have a5:=hid a9;have E:=hid b0;obtain⟨PL,a6⟩:∃PL:Out _,PL=bnd (Zq (bl op) ts) fun _ r=>ZS (ZH 2) (bl cl) (r.length+1) [] r:=⟨_,rfl⟩
  rw[<-a6];have K:=hid a6;go_enter func168,ntmps168
  go_wp2_with fail
  refine(ZdT H _ a5.1 a5.2).mono ?_;rintro e w1 ⟨v,rfl,d,hg⟩;have a7:=hid hg;by_cases h1:isT (bl op) (hd ts)=true
  · rw[ZdU h1]at d
    have j:Hid (ZS (ZH 2) (bl cl) (ts.tail.length+1) [] ts.tail=PL):=by rw[K,ZdU h1];rfl
    obtain⟨rfl,⟨k1,b1⟩,_⟩:=d.out;have F:Hid (RK _ R _ ts.tail):=b1;obtain⟨r0,b2⟩:∃r0,r0=ts.tail:=⟨_,rfl⟩
    rw[<-b2]at F j;go_wp2
    go_loopg [11] r0.length (fun g v11 wr=>∃(bs:List BA) (r:List Tok) (k2 n:Nat),g=r.length/\Hid (RK wr R k2 r)/\Hid (wr.ownsRow w.heap.size 9 1 v11 bs.length (Zbc bs))/\Hid (r.length<n/\bs.length+r.length<=302/\ZS (ZH 2) (bl cl) n (bs.map bl) r=PL)/\Hid (w.grownBy wr (some R.b)))
    case atStart=>exact⟨[],r0,k1,r0.length+1,rfl,F,Ybc _ _ _ _,⟨by omega,by have:=F.size;have:=F.len;simp;omega,j⟩,a7⟩
    case round=>
      obtain⟨bs,r,k2,n,c6,HK,HO,s,HG⟩:=hrel;obtain⟨m,rfl⟩:∃m,n=m+1:=⟨n - 1,by have:=s.1;omega⟩
      obtain⟨av,cp,hv⟩:=Zl HO;subst hv
      go_wp2_with fail
      refine(Zee HK).mono ?_;rintro e w2 ⟨⟨kd,at_,tx,tv⟩,rfl,ht,L⟩;have M:=hid (HK.below L);have b3:=hid (Zn HO L);have b4:=hid (Zj HG (Zw L))
      go_wp2_with fail
      refine(Zf6 ht.out M.wf.head.1 M.wf.head.2.2 cl E.1 E.2 w2).mono ?_;rintro e w3 ⟨rfl,N⟩;have G:=hid (M.below N);have O:=hid (Zn b3 N);have P:=hid (Zj b4 (Zw N));by_cases hc:isT (bl cl) (hd r)=true
      · rw[hc]
        have j:Hid (PL=.ok _):=hid (by rw[<-s.2.2,Zma hc]);have b5:=hid (ZdU hc)
        go_wp2_with fail
        refine(ZdT G _ E.1 E.2).mono ?_;rintro e w4 ⟨v,rfl,d,t⟩;rw[b5]at d;obtain⟨rfl,Q,_⟩:=d.out;have b6:Hid (∃k,RK _ R k r.tail):=Q;have S:=hid (Zfu O t D);have I:=hid (Zj P t);go_wp2;go_ret2;exact⟨_,_,_,_,rfl,j.out▸⟨rfl,b6.out,bs,Zgi S.out,rfl⟩,I⟩
      · have T:=Yce.2 hc
        rw[T];by_cases hb:bs=[]
        · subst hb
          have j:Hid ((bnd _ _)=PL):=s.2.2▸(Zmb T).symm;have c7:([]:List BA).length=0:=rfl
          go_wp2_with fail
          refine(Zkk G).mono ?_;rintro e w5 ⟨x,v,rfl,d,A⟩;have o:=hid (Zfu O A D);have p:=hid (Zj P A);cases f:(ZH 2) r with
          | error er=>
            rw[f]at d;obtain⟨fa,rfl⟩:=d.shape;have HE:Hid (Z9 _ R _ _):=d;have i:Hid (PL=.error er):=by rw[<-j,f];rfl
            go_wp2;go_ret2;exact⟨_,_,_,_,rfl,by rwa [i.out],p⟩
          | ok pr=>
            obtain⟨a,y⟩:=pr;rw[f]at d;obtain⟨rfl,⟨k5,U⟩,hx⟩:=d.out;have HX:Hid (bl x=a):=hx;have V:Hid (RK _ R _ y):=U;have B:y.length<=(r).tail.length:=(fun h=>Zjt h▸Yac _) f;have hy:y.length<r.length:=by have h9:=G.pos;simp only[Yb4]at B;omega
            have i:Hid (ZS (ZH 2) (bl cl) m (([]++[x]).map bl) y=PL):=by rw[<-j,f,Yaq];rw[<-HX];rfl
            have b7:=s.2.1;have b8:=s.1
            go_wp2_with (at_builtin;refine wpList_append_own _ rfl (.tmp 43) (.tmp 45) 122 rfl w.heap.size 9 i0 (.string ByteArray.empty) 1 16 underlying122 hi a2 a3 a4 rfl Dc _ _ _ rfl (o.alloc _) ⟨w5.heap.size,0,none⟩ 1 1 [.string x] rfl rfl ?c1 ?c2 ?c3 ?c4 ?c5 ?_)
            case c1=>exact ZcY rfl
            case c2=>intro u W;simp at W;rw[W];rfl
            case c3=>unfold maxLen;omega
            case c4=>omega
            case c5=>simp;have:=p.size;omega
            intro v' w6 a1 l _;have X:=hid (Zfn (ZbR p) l (fun q C=>(o.lt q C).1));have Y:=hid (RK.grown H (V.below Zbal) l (fun q C=>(o.lt q C).1));have Z:Hid (w6.ownsRow w.heap.size 9 1 v' ([]++[x]).length (Zbc ([]++[x]))):=by rwa [Zh2,Yab]
            go_wp2
            go_roundg y.length
            case measure=>omega
            case rel=>exact⟨_,y,k5,m,rfl,Y,Z,⟨by omega,by simp;omega,i⟩,X⟩
        · have b9:=Ycj.2 hb
          have j:Hid ((bnd _ fun _ z=>bnd _ _)=PL):=s.2.2▸(Zmd T (by simpa using hb)).symm
          go_wp2_with fail
          refine(ZdT G _ Dc Dc).mono ?_;rintro e w4 ⟨v,rfl,d,t⟩;have S:=hid (Zfu O t D);have I:=hid (Zj P t);by_cases J:isT [44] (hd r)=true
          · rw[show Zq (bl ⟨#[44]⟩) r=.ok _ from ZdU J]at d
            obtain⟨rfl,⟨k4,Q⟩,_⟩:=d.out;have a8:Hid (RK _ R _ r.tail):=Q;have a0:Hid ((bnd ((ZH 2) r.tail) fun a y=>ZS (ZH 2) (bl cl) m (bs.map bl++[a]) y)=PL):=by rw[<-j,ZdU J];rfl
            go_wp2_with fail
            refine(Zkk a8).mono ?_;rintro e w5 ⟨x,v,rfl,d,A⟩;have o:=hid (Zfu S A D);have p:=hid (Zj I A);cases f:(ZH 2) r.tail with
            | error er=>
              rw[f]at d;obtain⟨fa,rfl⟩:=d.shape;have HE:Hid (Z9 _ R _ _):=d;have i:Hid (PL=.error er):=by rw[<-a0,f];rfl
              go_wp2;go_ret2;exact⟨_,_,_,_,rfl,by rwa [i.out],p⟩
            | ok pr=>
              obtain⟨a,y⟩:=pr;rw[f]at d;obtain⟨rfl,⟨k5,U⟩,hx⟩:=d.out;have HX:Hid (bl x=a):=hx;have V:Hid (RK _ R _ y):=U;have B:y.length<=(r.tail).tail.length:=(fun h=>Zjt h▸Yac _) f;have hy:y.length<r.length:=by have h9:=a8.pos;simp only[Yb4]at h9 B;omega
              have i:Hid (ZS (ZH 2) (bl cl) m ((bs++[x]).map bl) y=PL):=by rw[<-a0,f,Yaq];rw[<-HX];rfl
              have b7:=s.2.1;have b8:=s.1
              go_wp2_with (at_builtin;refine wpList_append_own _ rfl (.tmp 43) (.tmp 45) 122 rfl w.heap.size 9 i0 (.string ByteArray.empty) 1 16 underlying122 hi a2 a3 a4 rfl Dc _ _ _ rfl (o.alloc _) ⟨w5.heap.size,0,none⟩ 1 1 [.string x] rfl rfl ?c1 ?c2 ?c3 ?c4 ?c5 ?_)
              case c1=>exact ZcY rfl
              case c2=>intro u W;simp at W;rw[W];rfl
              case c3=>unfold maxLen;omega
              case c4=>omega
              case c5=>simp;have:=p.size;omega
              intro v' w6 a1 l _;have X:=hid (Zfn (ZbR p) l (fun q C=>(o.lt q C).1));have Y:=hid (RK.grown H (V.below Zbal) l (fun q C=>(o.lt q C).1));have Z:Hid (w6.ownsRow w.heap.size 9 1 v' (bs++[x]).length (Zbc (bs++[x]))):=by rwa [Zh2,Yab]
              go_wp2
              go_roundg y.length
              case measure=>omega
              case rel=>exact⟨_,y,k5,m,rfl,Y,Z,⟨by omega,by simp;omega,i⟩,X⟩
          · rw[show Zq (bl ⟨#[44]⟩) r=.error _ from Ze8 J]at d
            obtain⟨fa,rfl⟩:=d.shape;have HE:Hid (Z9 _ R _ _):=d;have i:Hid (PL=.error (2,(hd r).at_)):=by rw[<-j,Ze8 J];rfl
            go_wp2;go_ret2;exact⟨_,_,_,_,rfl,by rwa [i.out],I⟩
  · rw[Ze8 h1]at d
    have i:Hid (PL=.error (2,(hd ts).at_)):=by rw[K,Ze8 h1];rfl
    obtain⟨fa,rfl⟩:=d.shape;have HE:Hid (Z9 _ R _ _):=d;go_wp2;go_ret2;exact⟨_,_,_,_,rfl,by rwa [i.out],a7⟩
theorem Zyy     (h : RK w R k ts) (op cl : BA) (b1 : (bl op).all (fun c => !Zp c) = true /\ bl op ≠ []) (b2 : (bl cl).all (fun c => !Zp c) = true /\ bl cl ≠ []) :
    Cz 172 #[Vp R.b,.string op,.string cl,.func (.func 173) #[] #[]] w fun e w'=>∃(la:Option Addr) (ln lc:Nat) (v:Value),e=.returned (.tuple #[.slice la ln lc,v])/\Hid (Res R (fun w' ns=>ZX w' (.slice la ln lc) ns) w' (bnd (Zq (bl op) ts) fun _ r=>ZS ZV (bl cl) (r.length+1) [] r) v)/\w.grownBy w' (some R.b):=by
  have H:=hid h;have J:=(Yae.1 h.rd.cells).1;obtain⟨i0,hi,a4,a5,a6⟩:=info_parts Tryz.infoCondD;have a7:=hid b1;have K:=hid b2;obtain⟨PL,a8⟩:∃PL:Out _,PL=bnd (Zq (bl op) ts) fun _ r=>ZS ZV (bl cl) (r.length+1) [] r:=⟨_,rfl⟩
  rw[<-a8];have S:=hid a8;go_enter func172,ntmps172
  go_wp2_with fail
  refine(ZdT H _ a7.1 a7.2).mono ?_;rintro e w1 ⟨v,rfl,d,hg⟩;have a9:=hid hg;by_cases h1:isT (bl op) (hd ts)=true
  · rw[ZdU h1]at d
    have j:Hid (ZS ZV (bl cl) (ts.tail.length+1) [] ts.tail=PL):=by rw[S,ZdU h1];rfl
    obtain⟨rfl,⟨k1,b3⟩,_⟩:=d.out;have L:Hid (RK _ R _ ts.tail):=b3;obtain⟨r0,b4⟩:∃r0,r0=ts.tail:=⟨_,rfl⟩
    rw[<-b4]at L j;go_wp2
    go_loopg [11] r0.length (fun g v11 wr=>∃(bs:List (BA×BA×Bool)) (r:List Tok) (k2 n:Nat),g=r.length/\Hid (RK wr R k2 r)/\Hid (wr.ownsRow w.heap.size 224 3 v11 bs.length (Zb1 bs))/\Hid (r.length<n/\bs.length+r.length<=302/\ZS ZV (bl cl) n (bs.map Z7) r=PL)/\Hid (w.grownBy wr (some R.b)))
    case atStart=>exact⟨[],r0,k1,r0.length+1,rfl,L,Ybc _ _ _ _,⟨by omega,by have:=L.size;have:=L.len;simp;omega,j⟩,a9⟩
    case round=>
      obtain⟨bs,r,k2,n,c8,HK,HO,D,HG⟩:=hrel;obtain⟨m,rfl⟩:∃m,n=m+1:=⟨n - 1,by have:=D.1;omega⟩
      obtain⟨av,cp,hv⟩:=Zl HO;subst hv
      go_wp2_with fail
      refine(Zee HK).mono ?_;rintro e w2 ⟨⟨kd,at_,tx,tv⟩,rfl,ht,T⟩;have U:=hid (HK.below T);have b5:=hid (Zn HO T);have b6:=hid (Zj HG (Zw T))
      go_wp2_with fail
      refine(Zf6 ht.out U.wf.head.1 U.wf.head.2.2 cl K.1 K.2 w2).mono ?_;rintro e w3 ⟨rfl,V⟩;have E:=hid (U.below V);have M:=hid (Zn b5 V);have N:=hid (Zj b6 (Zw V));by_cases W:isT (bl cl) (hd r)=true
      · rw[W]
        have j:Hid (PL=.ok _):=hid (by rw[<-D.2.2,Zma W]);have b7:=hid (ZdU W)
        go_wp2_with fail
        refine(ZdT E _ K.1 K.2).mono ?_;rintro e w4 ⟨v,rfl,d,t⟩;rw[b7]at d;obtain⟨rfl,O,_⟩:=d.out;have b8:Hid (∃k,RK _ R k r.tail):=O;have X:=hid (Zfu M t J);have P:=hid (Zj N t);go_wp2;go_ret2;exact⟨_,_,_,_,rfl,j.out▸⟨rfl,b8.out,bs,Zgi X.out,rfl⟩,P⟩
      · have Q:=Yce.2 W
        rw[Q];by_cases hb:bs=[]
        · subst hb
          have j:Hid ((bnd _ _)=PL):=D.2.2▸(Zmb Q).symm;have c9:([]:List (BA×BA×Bool)).length=0:=rfl
          go_wp2_with fail
          refine(Zou E).mono ?_;rintro e w5 ⟨x,ng,z,v,rfl,d,A⟩;have o:=hid (Zfu M A J);have p:=hid (Zj N A);cases f:ZV r with
          | error er=>
            rw[f]at d;obtain⟨fa,rfl⟩:=d.shape;have Y:Hid (Z9 _ R _ _):=d;have l:Hid (PL=.error er):=by rw[<-j,f];rfl
            clear d f;go_wp2;go_ret2;exact⟨_,_,_,_,rfl,l.out▸Y.below Zbal,ZbR p⟩
          | ok pr=>
            obtain⟨a,y⟩:=pr;rw[f]at d;obtain⟨rfl,⟨k5,F⟩,B⟩:=d.out;have HX:Hid (Z7 (x,z,ng)=a):=hid (by unfold Z7;simp only[B.1,B.2.1,B.2.2]);have Z:Hid (RK _ R _ y):=F;have s:=Zot f;have hy:y.length<r.length:=by have h9:=E.pos;simp only[Yb4]at s;omega
            have l:Hid (ZS ZV (bl cl) m (([]++[(x,z,ng)]).map Z7) y=PL):=by rw[<-j,f,Yaq];rw[<-HX];rfl
            have b9:=D.2.1;have c6:=D.1;clear d F B f s
            go_wp2_with (at_builtin;refine wpList_append_own _ rfl (.tmp 43) (.tmp 45) 146 rfl w.heap.size 224 i0 (.agg #[.string ByteArray.empty,.bool false,.string ByteArray.empty]) 3 40 underlying146 hi a4 a5 a6 rfl Dc _ _ _ rfl ((o.alloc _).alloc _) ⟨w5.heap.size+1,0,none⟩ 1 1 [.string x,.bool ng,.string z] rfl rfl ?c1 ?c2 ?c3 ?c4 ?c5 ?_)
            case c1=>exact ZcY (by simp)
            case c2=>intro u hu;simp at hu;rcases hu with rfl|rfl|rfl <;> rfl
            case c3=>unfold maxLen;omega
            case c4=>omega
            case c5=>simp;have:=p.size;omega
            intro v' w6 C i _;have a0:=hid (Zfn (ZbR (ZbR p)) i (fun q I=>(o.lt q I).1));have a1:=hid (RK.grown H (Z.below (Zbal.alloc (by simp) _)) i (fun q I=>(o.lt q I).1));have a2:Hid (w6.ownsRow w.heap.size 224 3 v' ([]++[(x,z,ng)]).length (Zb1 ([]++[(x,z,ng)]))):=by rwa [Zpk,Yab]
            clear C i;go_wp2
            go_roundg y.length
            case measure=>omega
            case rel=>exact⟨_,y,k5,m,rfl,a1,a2,⟨by omega,by simp;omega,l⟩,a0⟩
        · have c7:=Ycj.2 hb
          have j:Hid ((bnd _ fun _ z=>bnd _ _)=PL):=D.2.2▸(Zmd Q (by simpa using hb)).symm;clear W Q hb
          go_wp2_with fail
          refine(ZdT E _ Dc Dc).mono ?_;rintro e w4 ⟨v,rfl,d,t⟩;have X:=hid (Zfu M t J);have P:=hid (Zj N t);clear t;by_cases G:isT [44] (hd r)=true
          · rw[show Zq (bl ⟨#[44]⟩) r=.ok _ from ZdU G]at d
            obtain⟨rfl,⟨k4,O⟩,_⟩:=d.out;have b0:Hid (RK _ R _ r.tail):=O;have a3:Hid ((bnd (ZV r.tail) fun a y=>ZS ZV (bl cl) m (bs.map Z7++[a]) y)=PL):=by rw[<-j,ZdU G];rfl
            clear d O G j E M N
            go_wp2_with fail
            refine(Zou b0).mono ?_;rintro e w5 ⟨x,ng,z,v,rfl,d,A⟩;have o:=hid (Zfu X A J);have p:=hid (Zj P A);clear A;cases f:ZV r.tail with
            | error er=>
              rw[f]at d;obtain⟨fa,rfl⟩:=d.shape;have Y:Hid (Z9 _ R _ _):=d;have l:Hid (PL=.error er):=by rw[<-a3,f];rfl
              clear d f;go_wp2;go_ret2;exact⟨_,_,_,_,rfl,l.out▸Y.below Zbal,ZbR p⟩
            | ok pr=>
              obtain⟨a,y⟩:=pr;rw[f]at d;obtain⟨rfl,⟨k5,F⟩,B⟩:=d.out;have HX:Hid (Z7 (x,z,ng)=a):=hid (by unfold Z7;simp only[B.1,B.2.1,B.2.2]);have Z:Hid (RK _ R _ y):=F;have s:=Zot f;have hy:y.length<r.length:=by have h9:=b0.pos;simp only[Yb4]at h9 s;omega
              have l:Hid (ZS ZV (bl cl) m ((bs++[(x,z,ng)]).map Z7) y=PL):=by rw[<-a3,f,Yaq];rw[<-HX];rfl
              have b9:=D.2.1;have c6:=D.1;clear d F B f s
              go_wp2_with (at_builtin;refine wpList_append_own _ rfl (.tmp 43) (.tmp 45) 146 rfl w.heap.size 224 i0 (.agg #[.string ByteArray.empty,.bool false,.string ByteArray.empty]) 3 40 underlying146 hi a4 a5 a6 rfl Dc _ _ _ rfl ((o.alloc _).alloc _) ⟨w5.heap.size+1,0,none⟩ 1 1 [.string x,.bool ng,.string z] rfl rfl ?c1 ?c2 ?c3 ?c4 ?c5 ?_)
              case c1=>exact ZcY (by simp)
              case c2=>intro u hu;simp at hu;rcases hu with rfl|rfl|rfl <;> rfl
              case c3=>unfold maxLen;omega
              case c4=>omega
              case c5=>simp;have:=p.size;omega
              intro v' w6 C i _;have a0:=hid (Zfn (ZbR (ZbR p)) i (fun q I=>(o.lt q I).1));have a1:=hid (RK.grown H (Z.below (Zbal.alloc (by simp) _)) i (fun q I=>(o.lt q I).1));have a2:Hid (w6.ownsRow w.heap.size 224 3 v' (bs++[(x,z,ng)]).length (Zb1 (bs++[(x,z,ng)]))):=by rwa [Zpk,Yab]
              clear C i;go_wp2
              go_roundg y.length
              case measure=>omega
              case rel=>exact⟨_,y,k5,m,rfl,a1,a2,⟨by omega,by simp;omega,l⟩,a0⟩
          · rw[show Zq (bl ⟨#[44]⟩) r=.error _ from Ze8 G]at d
            obtain⟨fa,rfl⟩:=d.shape;have Y:Hid (Z9 _ R _ _):=d;have l:Hid (PL=.error (2,(hd r).at_)):=by rw[<-j,Ze8 G];rfl
            clear d;go_wp2;go_ret2;exact⟨_,_,_,_,rfl,by rwa [l.out],P⟩
  · rw[Ze8 h1]at d
    have l:Hid (PL=.error (2,(hd ts).at_)):=by rw[S,Ze8 h1];rfl
    obtain⟨fa,rfl⟩:=d.shape;have Y:Hid (Z9 _ R _ _):=d;clear d;go_wp2;go_ret2;exact⟨_,_,_,_,rfl,by rwa [l.out],a9⟩
def canB(s:BA):Bool:=!decide (wOr=bl s) && !decide (wBy=bl s) && !(idx (bl s) ZW).isSome && !(idx (bl s) Z0).isSome
theorem Zus(s:BA):Cz 171 #[.string s] w fun e u=>e=.returned (.bool (canB s))/\u=w:=Zur s w
theorem Zza{s:BA}(d:bl s=(hd ts).txt)(c:canB s=true):ZdQ ts=ZH 2 ts:=by
 unfold ZdQ;by_cases a:Zgp (hd ts)=true
 ·rw[if_pos a]
  exfalso
  unfold canB at c;rw[d]at c;unfold Zgp at a;simp only[Yas,Ycr,decide_eq_false_iff_not]at c;simp only[Yct]at a;obtain⟨⟨⟨e,f⟩,g⟩,h⟩:=c;rcases a with ((a|a)|a)|a
  ·rw[g]at a;cases a
  ·rw[h]at a;cases a
  ·exact e (Zic a).symm
  ·exact f (Zic a).symm
 ·rw[if_neg a]
theorem Zzb{s:BA}(f:bl s=(hd ts).txt)(c:canB s=false):ZdQ ts=.error (2,(hd ts).at_):=by
 unfold ZdQ;by_cases d:Zgp (hd ts)=true
 ·rw[if_pos d]
 ·rw[if_neg d];refine Zgb (fun g=>d ?_);unfold canB at c;rw[f]at c;unfold Zgp
  have e:∀a:LB,decide (a=(hd ts).txt)=isT a (hd ts):=by
   intro a;unfold isT;rw[g,Ybh,decide_eq_true_iff,Yas,beq_iff_eq];exact⟨fun h=>⟨rfl,h.symm⟩,fun h=>h.2.symm⟩
  rw[e,e]at c;generalize isT wOr (hd ts)=b1 at *
  generalize isT wBy (hd ts)=b2 at *
  generalize(idx (hd ts).txt ZW).isSome=b3 at *
  generalize(idx (hd ts).txt Z0).isSome=b4 at *
  cases b1 <;> cases b2 <;> cases b3 <;> cases b4 <;> first|rfl|cases c
def set2(w:World)(a:Nat)(x y:Value):World:=(w.setCell ⟨a,0,none⟩ x).setCell ⟨a,1,none⟩ y
theorem ZdS{p q:Value}{t:TypeId}(h:BAt w a [p,q] t):BAt (set2 w a x y) a [x,y] t:=by
 unfold BAt at h;unfold BAt set2;simp only[World.setCell,Ybn,h,if_true,Ybf];rfl
theorem ret2{P:Program}{fn:Func}{R:Ending->World->Prop}{a:Act}{v:World}{p q r:Value}{t:TypeId}(c:∀W:World,W.cell? ⟨b,0,none⟩=some x->W.cell? ⟨b,1,none⟩=some y->(results fn a.tmps).run P W=.ok r W)(hd:a.defers=[])(d:BAt v b [p,q] t)(e:R (.returned r) (set2 v b x y)):bodyPost P fn R .ret a (set2 v b x y):=by
 have s:=ZdS d (x:=x) (y:=y);exact bodyPost_ret (c _ (s.cell 0) (s.cell 1)) hd e
theorem Zm7(c:b≠a):(set2 w a x y).heap[b]?=w.heap[b]?:=by
 unfold set2;rw[Go.Deep.blk_setCell_other _ _ _ _ c,Go.Deep.blk_setCell_other _ _ _ _ c]
theorem Zgr(h:w0.grownBy w (some b))(c:w0.heap.size<=a)(x y:Value):w0.grownBy (set2 w a x y) (some b):=
 ZA (ZA h (Or.inr c)) (Or.inr c)
theorem Z9.set2(h:Z9 w R e v){c:List Value}{t:TypeId}(d:BAt w a c t)(f:t≠85)(x y:Value):Z9 (set2 w a x y) R e v:=by
 refine h.grown (b:=a) ?_ d f;exact ZA (ZA (ZbM w (some a)) (Or.inl rfl)) (Or.inl rfl)
theorem ZX.kept(h:ZX w v ns)(g:w.grownBy w' (some b)){t:TypeId}(i:w.heap[b]?=some (.cells c t fr))(k:t≠224):ZX w' v ns:=by
 obtain⟨bs,a,l⟩:=h;have d:=Zcx a i k;exact⟨bs,ZdA a (fun j f=>g.block j (a.lt j f).2 (fun e=>by cases e;exact d f.symm)),l⟩
theorem Zbm.kept{ns:List (LB)}(h:Zbm w v ns)(g:w.grownBy w' (some b)){t:TypeId}(i:w.heap[b]?=some (.cells c t fr))(k:t≠9):Zbm w' v ns:=by
 obtain⟨bs,a,l⟩:=h;have d:=Zcx a i k;exact⟨bs,ZdA a (fun j f=>g.block j (a.lt j f).2 (fun e=>by cases e;exact d f.symm)),l⟩
theorem ZX.set2(h:ZX w v ns){c:List Value}{t:TypeId}(d:BAt w a c t)(e:t≠224)(x y:Value):ZX (set2 w a x y) v ns:=
 h.kept (b:=a) (ZA (ZA (ZbM w (some a)) (Or.inl rfl)) (Or.inl rfl)) d e
theorem Zsd(h:RK w R k ts) :
  Cz 108 #[Vp R.b] w fun e u=>∃(nm:BA) (la:Option Addr) (ln lc:Nat) (v:Value),e=.returned (.tuple #[.agg #[.string nm,.slice la ln lc],v])/\Hid (Res R (fun u nd=>bl nm=nd.name/\ZX u (.slice la ln lc) nd.jn) u (selP ts) v)/\w.grownBy u (some R.b):=by
 have H:Hid (RK w R k ts):=h;have a9:R.b<w.heap.size:=(Yae.1 h.rd.cells).1;go_enter func108,ntmps108
 go_wp2_with fail
 refine Zm fun V m=>?_;have F:Hid (RK V R k ts):=hid (by rw[m];exact H.below Zbal);have Z:Hid (BAt V w.heap.size [.string ByteArray.empty,S0] 148):=hid (by rw[m];exact bnw);have a0:Hid (w.grownBy V (some R.b)):=hid (by rw[m];exact ZbR (ZbM _ _));refine(Zee F.out).mono ?_;rintro e w1 ⟨⟨kd,at_,tx,tv⟩,rfl,ht,n⟩;have G:=hid (Z.below n);have I:Hid (w.grownBy w1 (some R.b)):=Zj a0.out (Zw n);have J:Hid (RK w1 R k ts):=F.below n;have K:Hid (bl tx=(hd ts).txt):=ht.2.2.1;have hf:∀W:World,(Instr.field 74 (.agg #[Vi kd,Vi at_,.string tx,Vi tv]) 2).run prog W=.ok (.string tx) W:=fun _=>rfl
 go_wp2_with fail
 refine cret (Zus tx) ?_;cases hc:canB tx
 ·have o:Hid (selP ts=.error (2,(hd ts).at_)):=hid (by unfold selP;rw[Zzb K.out hc];rfl)
  go_wp2_with fail
  refine(Zfi J.out).mono ?_;rintro e wE ⟨v,rfl,E,L⟩;obtain⟨fa,rfl⟩:=E.shape;have f:=hid (G.below L);have a1:Hid (w.grownBy wE (some R.b)):=Zj I.out (Zw L);have f0:=f.frozen;have c0:=f.cell;go_wp2;exact ret2 (r:=.tuple #[.agg #[.string ⟨#[]⟩,S0],.iface 81 (Vp fa)]) (fun W s0 s1=>by simp[results,results108,go_sem,s0,s1]) rfl f.out ⟨_,_,_,_,_,rfl,by rw[o.out];exact(E.set2 f.out Dc (.string ⟨#[]⟩) S0),Zgr a1.out (Yac _) (.string ⟨#[]⟩) S0⟩
 ·have M:Hid (ZdQ ts=ZH 2 ts):=Zza K.out hc
  go_wp2_with fail
  refine(Zkk J.out).mono ?_;rintro e z ⟨x,v,rfl,a,hg⟩;have c:Hid (BAt z w.heap.size [.string ByteArray.empty,S0] 148):=G.grown hg (by simp;omega);have N:Hid (w.grownBy z (some R.b)):=Zj I.out hg;by_cases g:(hd ts).jj=2
  ·rw[Zfr g]at a;obtain⟨rfl,⟨k2,hk⟩,hx⟩:=a.out;have O:Hid (RK z R k2 ts.tail):=hk;have HX:Hid (bl x=(hd ts).txt):=hx;have P:Hid (ZdQ ts=.ok ((hd ts).txt,ts.tail)):=hid (by rw[M.out,Zfr g])
   go_wp2_with fail
   refine(Zee O.out).mono ?_;rintro e w3 ⟨⟨kd3,at3,tx3,tv3⟩,rfl,a2,p⟩;have a3:=hid (c.below p);have a4:Hid (w.grownBy w3 (some R.b)):=Zj N.out (Zw p);have q:Hid (RK w3 R k2 ts.tail):=O.below p
   go_wp2_with fail
   refine(Zf6 a2.out q.wf.head.1 q.wf.head.2.2 ⟨#[123]⟩ Dc Dc _).mono ?_;rintro e X ⟨rfl,t⟩;have i:=hid (a3.below t);have Q:Hid (w.grownBy X (some R.b)):=Zj a4.out (Zw t);have A:Hid (RK X R k2 ts.tail):=q.below t;by_cases B:isT [123] (hd ts.tail)=true
   ·rw[show isT (bl ⟨#[123]⟩) (hd ts.tail)=true from B];obtain⟨PL,S⟩:∃PL,PL=bnd (Zq [123] ts.tail) fun _ r=>ZS ZV [125] (r.length+1) [] r:=⟨_,rfl⟩
    have C : Hid (selP ts = bnd PL fun cs r => .ok (⟨1, 0, 0, (hd ts).txt, cs, []⟩, r)) := hid (by
      unfold selP;rw[P.out];show(if isT [123] (hd ts.tail)=true then _ else _)=_;rw[if_pos B,S,ZdU B];have hl:ts.tail.length=ts.tail.tail.length+1:=by have:=A.pos;rw[Yb4 (l:=ts.tail)];omega
      rw[hl];rfl)
    have a5:Hid (PL=bnd (Zq [123] ts.tail) fun _ r=>ZS ZV [125] (r.length+1) [] r):=S
    go_wp2_with fail
    refine(Zyy A.out ⟨#[123]⟩ ⟨#[125]⟩ Dc Dc).mono ?_;rintro e D ⟨la,ln,lc,v,rfl,a,T⟩;rw[show(bnd (Zq (bl ⟨#[123]⟩) ts.tail) fun _ r=>ZS ZV (bl ⟨#[125]⟩) (r.length+1) [] r)=PL from a5.symm]at a;have d:Hid (BAt D w.heap.size [.string ByteArray.empty,S0] 148):=i.grown T (by simp;omega);have a6:Hid (w.grownBy D (some R.b)):=Zj Q.out T;have f0:=d.frozen;have c0:=d.cell;go_wp2;change bodyPost _ _ _ _ _ (set2 D w.heap.size (.string x) (.slice la ln lc));have s:=ZdS d.out (x:=.string x) (y:=.slice la ln lc);have s0:=s.cell 0;have s1:=s.cell 1;simp only[Zget]at s0 s1;have a7:=hid (Zgr a6.out (Yac _) (.string x) (.slice la ln lc))
    have a8 : Hid (Res R (fun u nd => bl x = nd.name /\ ZX u (.slice la ln lc) nd.jn) (set2 D w.heap.size (.string x) (.slice la ln lc)) (selP ts) v) := hid (by
      rw[C.out];cases U:PL with
      | error er=>rw[U]at a;exact Z9.set2 a.out d.out Dc _ _
      | ok pr=>
        rw[U]at a;obtain⟨h1,⟨kk,h2⟩,h3⟩:=a.out;exact⟨h1,⟨kk,RK.fresh H.out h2 (Yac _) (fun j Y=>Zm7 Y)⟩,HX.out,ZX.set2 h3 d.out Dc _ _⟩)
    generalize set2 D w.heap.size (.string x) (.slice la ln lc)=WX at *
    exact bodyPost_ret (v:=.tuple #[.agg #[.string x,.slice la ln lc],v]) (by simp[results,results108,go_sem,s0,s1]) rfl ⟨_,_,_,_,_,rfl,a8,a7.out⟩
   ·rw[show isT (bl ⟨#[123]⟩) (hd ts.tail)=false from Yce.2 B]
    have C:Hid (selP ts=.ok (⟨1,0,0,(hd ts).txt,[],[]⟩,ts.tail)):=hid (by
     unfold selP;rw[P.out];show(if isT [123] (hd ts.tail)=true then _ else _)=_;rw[if_neg B])
    have f0:=i.frozen;have c0:=i.cell;go_wp2;exact ret2 (r:=.tuple #[.agg #[.string x,S0],.nilIface]) (fun W s0 s1=>by simp[results,results108,go_sem,s0,s1]) rfl i.out ⟨_,_,_,_,_,rfl,by rw[C.out];exact⟨rfl,⟨_,RK.fresh H.out A.out (w':=set2 X w.heap.size (.string x) S0) (Yac _) (fun j Y=>Zm7 Y)⟩,HX.out,[],Ybc _ _ _ _,rfl⟩,Zgr Q.out (Yac _) (.string x) S0⟩
  ·rw[Zgb g]at a;have o:Hid (selP ts=.error (2,(hd ts).at_)):=hid (by unfold selP;rw[M.out,Zgb g];rfl);obtain⟨fa,rfl⟩:=a.shape;have E:Hid (Z9 z R (2,(hd ts).at_) _):=a.out;have f0:=c.frozen;have c0:=c.cell;go_wp2;exact ret2 (r:=.tuple #[.agg #[.string x,S0],.iface 81 (Vp fa)]) (fun W s0 s1=>by simp[results,results108,go_sem,s0,s1]) rfl c.out ⟨_,_,_,_,_,rfl,by rw[o.out];exact(E.set2 c.out Dc (.string x) S0),Zgr N.out (Yac _) (.string x) S0⟩
def Zdb(o:Nat):Nat:=if o=0 then 0 else if o<=2 then 1 else 2
def Ze5(o:Nat):LB:=if o=0 then [111,114] else if o=1 then [43] else if o=2 then [45] else if o=3 then [42] else [47]
theorem Zm0 (o : Nat) (a : o <= 4)  : Cz 53 #[Vi o] w fun e u => e = .returned (Vi (Zdb o)) /\ u = w := by
  have h:o=0∨o=1∨o=2∨o=3∨o=4:=by omega
  rcases h with rfl|rfl|rfl|rfl|rfl
  all_goals
    go_enter func53,ntmps53;go_wp2;go_ret;exact⟨rfl,rfl⟩
theorem ZCd (o : Nat) (a : o <= 4)  : Cz 67 #[Vi o] w fun e u => e = .returned (.string ⟨(Ze5 o).toArray⟩) /\ u = w := by
  have h:o=0∨o=1∨o=2∨o=3∨o=4:=by omega
  rcases h with rfl|rfl|rfl|rfl|rfl
  all_goals
    go_enter func67,ntmps67;go_wp2;go_ret;exact⟨rfl,rfl⟩
def ZhO(t:PTok):Bool:=if ((t.kd:Int) == 0)then true else if ((t.kd:Int) == 1)then !(t.tx.toList == [111,114]) && !(t.tx.toList == [98,121])else ZY t ⟨#[45]⟩ || ZY t ⟨#[40]⟩
theorem Zt1(t:PTok)(w:World) :
  Cz 101 #[.agg #[Vi t.kd,Vi t.at_,.string t.tx,Vi t.v]] w fun e u=>e=.returned (.bool (ZhO t))/\BW w u:=by
 have g:Hid (TAt _ w.heap.size t):=bnw;have a:Hid (Below _ w (w.alloc (.cells #[Vi t.kd,Vi t.at_,.string t.tx,Vi t.v] 74))):=Zbal;obtain⟨x0,i⟩:∃x,((t.kd:Int) == 0)=x:=⟨_,rfl⟩
 obtain⟨x1,j⟩:∃x,((t.kd:Int) == 1)=x:=⟨_,rfl⟩
 obtain⟨y1,g1⟩:∃x,(t.tx.toList == [111,114])=x:=⟨_,rfl⟩
 obtain⟨y2,g2⟩:∃x,(t.tx.toList == [98,121])=x:=⟨_,rfl⟩
 obtain⟨z1,f1⟩:∃x,ZY t ⟨#[45]⟩=x:=⟨_,rfl⟩
 obtain⟨z2,f2⟩:∃x,ZY t ⟨#[40]⟩=x:=⟨_,rfl⟩
 have k:Hid (ZhO t=if x0 then true else if x1 then !y1 && !y2 else z1 || z2):=hid (by unfold ZhO;rw[i,j,g1,g2,f1,f2]);have h:Hid (ZY t _=z1/\ZY t _=z2):=⟨f1,f2⟩
 rw[k];cases x0
 ·cases x1
  ·go_enter func101,ntmps101
   go_wp2_with fail
   refine(ZgT t h.1 w g a).mono ?_;rintro e y ⟨rfl,c,d⟩;cases z1
   ·obtain⟨k0,k1,k2,k3⟩:=TAt.all c
    go_wp2_with fail
    refine(ZgT t h.2 w c d).mono ?_;rintro e z ⟨rfl,l,f⟩;cases z2
    ·go_wp2;go_ret;exact⟨rfl,f⟩
    ·go_wp2;go_ret;exact⟨rfl,f⟩
   ·go_wp2;go_ret;exact⟨rfl,d⟩
  ·cases y1 <;> cases y2
   all_goals
    go_enter func101,ntmps101;go_wp2;go_ret;exact⟨rfl,a⟩
 ·go_enter func101,ntmps101;go_wp2;go_ret;exact⟨rfl,a⟩
def opNo(a:Nd):Nat:=if a.jj=6 then 0 else a.op+1
def Zh(w:World):Tr->Value->Prop
 | .nil,_=>False
 | .node _ _ a l r,v=>
  (a.jj=0/\v=.iface 119 (.agg #[Vi a.n]))∨
  (a.jj=1/\∃(nm:BA) (la:Option Addr) (ln lc:Nat),v=.iface 148 (.agg #[.string nm,.slice la ln lc])/\bl nm=a.name/\ZX w (.slice la ln lc) a.jn)∨
  (a.jj=2/\∃(wd nm:BA) (la:Option Addr) (ln lc:Nat),v=.iface 150 (.agg #[.string wd,.string nm,.slice la ln lc,Vi a.n])/\bl wd=Z0.getD a.op []/\bl nm=a.name/\ZX w (.slice la ln lc) a.jn)∨
  (a.jj=3/\∃x,v=.iface 121 (.agg #[x])/\Zh w l x)∨
  (a.jj=5/\∃(wd:BA) (la:Option Addr) (ln lc:Nat) (x:Value),v=.iface 124 (.agg #[.string wd,.slice la ln lc,x])/\bl wd=ZW.getD a.op []/\Zbm w (.slice la ln lc) a.by_/\Zh w l x)∨
  ((a.jj=4∨a.jj=6)/\∃x y,v=.iface 116 (.agg #[Vi (opNo a),x,y])/\Zh w l x/\Zh w r y)
def Zhp(v:Value):Prop:=v=.nilIface∨∃(ty:TypeId) (u:Value),v=.iface ty u
theorem Zh.shape : ∀ {t:Tr} {v:Value},Zh w t v->∃(ty:TypeId) (u:Value),v=.iface ty u
 | .nil,_,h=>h.elim
 | .node _ _ a l r, v, h => by
   rcases h with ⟨_,h⟩|⟨_,_,_,_,_,h,_⟩|⟨_,_,_,_,_,_,h,_⟩|⟨_,_,h,_⟩|⟨_,_,_,_,_,_,h,_⟩|⟨_,_,_,h,_⟩
   all_goals exact⟨_,_,h⟩
theorem ZX.below(h:ZX w v ns)(a:BW w w'):ZX w' v ns:=by
 obtain⟨bs,c,d⟩:=h;exact⟨bs,Zn c a,d⟩
theorem Zbm.below{ns:List (LB)}(h:Zbm w v ns)(a:BW w w'):Zbm w' v ns:=by
 obtain⟨bs,c,d⟩:=h;exact⟨bs,Zn c a,d⟩
theorem Zh.mono(i:∀v cs,ZX w v cs->ZX w' v cs)(j:∀v ns,Zbm w v ns->Zbm w' v ns):∀(t:Tr) (v:Value),Zh w t v->Zh w' t v
 | .nil,_,h=>h
 | .node _ _ a l r, v, h => by
   have g:=Zh.mono i j l;have n:=Zh.mono i j r;rcases h with h|⟨c,nm,la,ln,lc,d,e,f⟩|⟨c,k,nm,la,ln,lc,d,e,f,m⟩|⟨c,x,d,e⟩|⟨c,k,la,ln,lc,x,d,e,f,m⟩|⟨c,x,y,d,e,f⟩
   · exact .inl h
   · exact .inr (.inl ⟨c,nm,la,ln,lc,d,e,i _ _ f⟩)
   · exact .inr (.inr (.inl ⟨c,k,nm,la,ln,lc,d,e,f,i _ _ m⟩))
   · exact .inr (.inr (.inr (.inl ⟨c,x,d,g x e⟩)))
   · exact .inr (.inr (.inr (.inr (.inl ⟨c,k,la,ln,lc,x,d,e,j _ _ f,g x m⟩))))
   · exact .inr (.inr (.inr (.inr (.inr ⟨c,x,y,d,g x e,n y f⟩))))
theorem Zh.below(h:Zh w t v)(a:BW w w'):Zh w' t v:=Zh.mono (fun _ _ h=>h.below a) (fun _ _ h=>h.below a) t v h
theorem Zh.kept(h:Zh w t v)(a:w.grownBy w' (some b)){ty:TypeId}(d:w.heap[b]?=some (.cells c ty fr))(e:ty≠224)(f:ty≠9):Zh w' t v:=
 Zh.mono (fun _ _ h=>h.kept a d e) (fun _ _ h=>h.kept a d f) t v h
theorem Zh.read(h:Zh w t v)(a:RK w R k ts)(c:w.grownBy w' (some R.b)):Zh w' t v:=h.kept c a.rd.cells Dc Dc
theorem ZX.read(h:ZX w v cs)(a:RK w R k ts)(c:w.grownBy w' (some R.b)):ZX w' v cs:=h.kept c a.rd.cells Dc
theorem Zbm.read{cs:List (LB)}(h:Zbm w v cs)(a:RK w R k ts)(c:w.grownBy w' (some R.b)):Zbm w' v cs:=h.kept c a.rd.cells Dc
theorem Res.err{α:Type}{V:World->α->Prop}{r:Out α}(h:Res R V w r v)(a:r=.error e):Z9 w R e v:=by subst a;exact h
theorem Res.good{α:Type}{V:World->α->Prop}{r:Out α}(h:Res R V w r v){a:α}(c:r=.ok (a,ts)):v=.nilIface/\(∃k,RK w R k ts)/\V w a:=by subst c;exact h
theorem Zid(t:Tr):Zf t<=2:=by
 cases t with
 | nil=>decide
 | node x y a l r=>
  unfold Zf;have c:=Zid l;split
  ·decide
  ·split
   ·decide
   ·split
    ·exact c
    ·split
     ·split <;> decide
     ·split
      ·decide
      ·split <;> decide
def winT:Tr->Prop
 | .nil=>True
 | .node _ _ a l r=>(a.jj=2->1<=a.n/\a.n<=1000)/\winT l/\winT r
def InvW(rec:Nat->List Tok->Nat->Out Tr):Prop:=∀lv t d z,rec lv t d=.ok z->winT z.1
theorem Zl7{a:Nd}(h:a.jj=2->1<=a.n/\a.n<=1000):winT (Zbg a):=⟨h,trivial,trivial⟩
theorem ZEC{o:Nat}(h:winP o ts=.ok z):winT z.1:=by
 unfold winP at h;obtain⟨_,t1,d,h⟩:=Ze h;obtain⟨p,t2,e,h⟩:=Ze h;obtain⟨_,t3,f,h⟩:=Ze h;obtain⟨m,t4,a,h⟩:=Ze h;obtain⟨_,t5,g,h⟩:=Ze h;obtain⟨_,t6,i,h⟩:=Ze h;cases h
 have a4:1<=m/\m<=1000:=by
  unfold Zc2 at a;split at a
  ·rename_i c;injection a with a;injection a with a h4';subst a;exact⟨c.2,(Zmr).2⟩
  ·cases a
 exact Zl7 (fun _=>a4)
theorem Zs5(c:InvW rec)(h:Zbu rec ts deep=.ok z):winT z.1:=by
 unfold Zbu at h;obtain⟨_,t1,e,h⟩:=Ze h;obtain⟨a,t2,d,h⟩:=Ze h;obtain⟨_,t3,f,h⟩:=Ze h;cases h;show winT a;exact c _ _ _ _ d
theorem ZEA(c:InvW rec){g:Nat}(h:Zcb rec g ts deep=.ok z):winT z.1:=by
 unfold Zcb at h;obtain⟨_,t1,e,h⟩:=Ze h;obtain⟨_,t2,f,h⟩:=Ze h;obtain⟨ns,t3,i,h⟩:=Ze h;obtain⟨a,t4,d,h⟩:=Ze h;cases h;exact⟨fun h=>absurd (show(5)=2 from h) Dc,Zs5 c d,trivial⟩
theorem ZEB(c:InvW rec)(h:Zbw rec ts deep=.ok z):winT z.1:=by
 unfold Zbw at h;split at h
 ·cases h;exact Zl7 (fun h=>absurd (show(0)=2 from h) Dc)
 ·split at h
  ·obtain⟨a,t1,d,h⟩:=Ze h;cases h;exact⟨fun h=>absurd (h) Dc,c _ _ _ _ d,trivial⟩
  ·split at h
   ·exact Zs5 c h
   ·split at h
    ·exact ZEA c h
    ·split at h
     ·exact ZEC h
     ·obtain⟨p,t1,d,h⟩:=Ze h;cases h;obtain⟨a1,a2,a3,a4,a5⟩:=Zkq d;simp only at a2;exact Zl7 (fun h=>absurd (a2.symm.trans h) Dc)
theorem Zip:∀(n:Nat) (m:Bool) (lv:Nat) (a:Tr) (ts:List Tok) (deep:Nat) (z:Tr×List Tok),(m=true->winT a)->Zs n m lv a ts deep=.ok z->winT z.1
 | 0,_,_,_,_,_,_,_,h=>by cases h
 | n + 1, false, lv, a, ts, deep, z, _, h => by
   have g:InvW (fun lv t d=>Zs n _ _ _ t d):=fun lv t d z h=>Zip n false lv .nil t d z (fun h=>(by cases h)) h;unfold Zs at h;split at h
   · unfold Zb9 at h
     split at h
     · split at h
       · cases h
       · exact ZEB g h
     · cases h
   · obtain⟨b,t1,e,f⟩:=Ze h
     exact Zip n _ _ b _ _ z (fun _=>g _ _ _ _ e) f
 | n + 1, true, lv, a, ts, deep, z, j, h => by
   unfold Zs at h;split at h
   · cases h;simp_all
   · rename_i p c
     obtain⟨b,t1,e,f⟩:=Ze h;have l1:=Zip n false _ _ _ _ _ (fun h=>(by cases h)) e;refine Zip n _ _ (.node 0 0 _ a b) _ _ z (fun _=>⟨fun k=>?_,j rfl,l1⟩) f;unfold LS.opAt at c
     exfalso
     have i:p.1=2:=k
     repeat (first|(split at c)|(cases c;exact absurd i Dc)|cases c)
theorem ZBk{l:LB}(h:ZD l=.ok t):winT t/\Zf t≠0:=by
 unfold ZD at h;split at h
 ·cases h
 ·split at h
  ·cases h
  ·rename_i t' r a;split at h
   ·split at h
    ·cases h
    ·cases h;rename_i c;exact⟨(Zip _ false _ _ _ _ _ (fun h=>(by cases h)) a),c⟩
   ·cases h
def ZdN:VV->Bool
 | .inl _=>false
 | .inr _=>true
theorem ZtO(op:Nat)(a b:VV):ZdN (Zdg op a b)=(ZdN a || ZdN b):=by cases a <;> cases b <;> rfl
theorem Zj7(st:List Ser)(tm:Int):∀t:Tr,wfT t->isNil t=false->Zf t≠0->ZdN (sayT st tm t)=decide (Zf t=2)
 | .nil,_,h,_=>by cases h
 | .node x y a l r, v, _, c => by
   obtain⟨C,z,D,E,F,G,m,w,H,B,A,wr⟩:=v;have i:=Zj7 st tm l A;have n:=Zj7 st tm r wr;unfold Zf at c ⊢;unfold sayT;by_cases o:a.jj=0
   · split<;>rfl
   rw[if_neg o]at c ⊢;rw[if_neg o];by_cases d:a.jj=1
   · rw[if_pos d,if_pos (Or.inl d)];rfl
   by_cases j:a.jj=2
   · rw[if_neg d,if_pos j,if_pos (Or.inr j)];rfl
   rw[if_neg (show ¬(a.jj=1∨a.jj=2) by omega)]at c ⊢;rw[if_neg d,if_neg j];by_cases e:a.jj=3
   · rw[if_pos e]at c ⊢
     rw[if_pos e,<-i (m Om) c];cases sayT st tm l <;> rfl
   rw[if_neg e]at c ⊢;rw[if_neg e];by_cases f:a.jj=5
   · rw[if_pos f]at c ⊢
     rw[if_pos f];by_cases I:Zf l=2
     · split<;>rfl
     simp_all
   rw[if_neg f]at c ⊢;rw[if_neg f];have p:=w Om;have q:=m Om;by_cases g:Zf l=0∨Zf r=0∨(a.jj=6/\Zf l+Zf r≠4)
   · simp_all
   rw[if_neg g]at c ⊢;have s:Zf l≠0:=fun h=>g (Or.inl h);have u:Zf r≠0:=fun h=>g (Or.inr (Or.inl h));have kl:=Zid l;have kr:=Zid r;have il:=i q s;have ir:=n p u;by_cases k:a.jj=6
   · have J:Zf l+Zf r=4:=by
       refine Yb6 fun h=>g (Or.inr (Or.inr ⟨k,h⟩))
     rw[if_pos k,if_neg (show ¬Zf l+Zf r=2 by omega)];split
     · simp_all;omega
     simp_all;omega
   · rw[if_neg k,ZtO,il,ir]
     split
     · simp;omega
     simp;omega
