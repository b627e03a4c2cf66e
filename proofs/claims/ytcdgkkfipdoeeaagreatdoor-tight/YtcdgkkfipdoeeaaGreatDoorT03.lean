/- Parts. -/
import Derived.Test.YtcdgkkfipdoeeaaGreatDoorT02
set_option linter.all false
set_option maxRecDepth 100000
set_option maxHeartbeats 16000000
namespace Go.Proofs.YtcdgkkfipdoeeaaGreatDoor
open Go.RowKit LS Go.Proofs.Tryz
variable {a b l sl:List (Option Int)}{k:List Nat}{jx:List Nq}{j n s y:Nat}{p:Nat->Bool}{v:Value}
section
section
variable {w w' w1 w2:World} {X:CX} {cv iv cv' iv':Value} {c c':Cq} {S S1:Nat->Prop}
theorem Tryz.infoIns2:(Tryz.prog.info? 159).map (fun i=>(i.zero,i.size,i.bytes))=some (some (.agg #[Vi 0,Vi 0]),2,16):=by kernel_rfl
theorem KeepS.mono(h:KeepS S w w')(a:∀k,S k->S1 k):KeepS S1 w w':=⟨h.os,h.tape,h.output,h.size,fun k d e=>h.block k d (fun f=>e (a k f))⟩
theorem KeepS.set(w:World)(a i:Nat)(v:Value):KeepS (fun k=>k=a) w (w.setCell ⟨a,i,none⟩ v):=KeepS.grown (ZA (ZbM w _) (.inl rfl)) (fun _ e=>(Yax e).symm)
theorem KeepS.and(h:KeepS S w w1)(q:KeepS S1 w1 w2):KeepS (fun k=>S k∨S1 k) w w2:=(h.mono (fun _=>.inl)).trans (q.mono (fun _=>.inr)) (fun _ h _=>h)
theorem BAt.setC{a:Nat}{l:List Value}{t:TypeId}(h:BAt w a l t)(i:Nat)(v:Value):BAt (w.setCell ⟨a,i,none⟩ v) a (l.set i v) t:=by
 unfold BAt at h ⊢;simp only[World.setCell,Ybn,h,if_true,Ybf];show some (Obj.cells (l.toArray.setIfInBounds i v) t (0,0))=_;rw[Yc4]
theorem Zk4 {l : List Value} {t : TypeId} : ∀ j u, l[j]? = some u -> (w.alloc (.cells ⟨l⟩ t)).cell? ((⟨w.heap.size, 0, none⟩ : Addr).add j) = some u := fun j u h => by
  rw[ZfO];exact((show BAt _ _ l t from bnw).cell j).trans h
theorem Zwk{α:Type}(g:α->List Value)(l:List α)(x:α):(l++[x]).flatMap g=l.flatMap g++g x:=by simp
theorem CoP.step(a:BW w w1)(q:CoP w1 w2 X cv iv c):CoP w w2 X cv iv c:=CoP.trans (KeepS.ofBelow _ a) (fun _ h=>.inl h) (fun _ h=>.inl h) q
theorem Co.insApp(h:Co w X cv iv c){na:Option Addr}{nn nc:Nat}(i:c'.left=c.left/\c'.jy=c.jy/\c'.jq=c.jq)(p:w.grownBy w1 iv.ownBlock)(q:ZdM w iv (.slice na nn nc))(n:w1.ownsRow X.base 159 2 (.slice na nn nc) c'.jz.length (c'.jz.flatMap insC)) :
  BAt w1 X.cb (coC X cv iv) 171/\CoP w (w1.setCell ⟨X.cb,5,none⟩ (.slice na nn nc)) X cv iv c':=by
 have N:=h.ne;have m:=KeepS.grown p (fun _ e=>e);have l:=m.bat h.box N.ci;have a:=m.and (KeepS.set _ X.cb 5 (.slice na nn nc));have g:∀ {k:Nat},iv.ownBlock≠some k->k≠X.cb->¬(iv.ownBlock=some k∨k=X.cb):=fun r s t=>t.elim r s;refine⟨l,cv,.slice _ _ _,⟨l.setC 5 _,a.bat h.gbox (g N.giv N.cg.symm),h.gn,a.own h.nrow (fun j d=>by injection d with d;subst d;exact g N.niv N.cn.symm),?_,?_,i.2.1▸h.slen,?_,?_,?_,N.lcv,h.ne2,h.bas,Yah h.bsz a.size,h.nsz,h.nok,i.1▸h.lbd⟩,a.mono (fun k m=>m.elim (fun e=>.inr (.inr (.inr (.inr (.inr e))))) .inl),fun _ h=>.inl h,q⟩
 ·rw[i.1];exact a.own h.left (fun j d=>by injection d with d;subst d;exact g N.liv N.cl.symm)
 ·rw[i.2.1];exact h.jy.move (a.block _ h.jy.lt (g N.siv N.cs.symm))
 ·obtain⟨f,o⟩:=h.tak;exact⟨f,o.move (a.block _ o.lt (g N.tiv N.ct.symm))⟩
 ·rw[i.2.2];exact a.own h.cons (fun j d=>g (N.civ j d) (fun e=>by subst e;exact N.cc d))
 ·exact(KeepS.set _ _ 5 _).own n (fun j d e=>by subst e;exact absurd (Zcx n l Dc) (fun h=>h d.symm))
theorem ZfY(h:Co w X cv iv c)(op arg:Nat)(C:c.jz.length<=1000000) :
  Cz 127 #[Vp X.cb,Vi op,Vi arg] w fun e w'=>e=.returned (.tuple #[])/\Hid (CoP w w' X cv iv (Zc op arg c)):=by
 obtain⟨i0,D,r,s,t⟩:=info_parts Tryz.infoIns2;have v:=hid h;have i:Hid (∀o,Co (w.alloc o) X _ _ c):=hid (fun o=>v.below Zbal);obtain⟨ia,ic,x⟩:=Zl h.jz;subst x;have d:=h.jz;have m5:w.cell? _=some _:=h.box.cell 5;have j:=h.box.lt;have G:=h.bsz;obtain⟨n,q⟩:∃n,n=c.jz.length:=⟨_,rfl⟩
 rw[<-q]at d m5 C v i ⊢;have E:=hid q;clear h q;go_enter func127,ntmps127
 go_wp2_with (at_builtin;refine wpList_append_own_at _ rfl (.tmp 10) (.tmp 14) 57 rfl X.base 159 i0 (.agg #[Vi 0,Vi 0]) 2 16 underlying57 D r s t rfl Dc _ _ _ rfl (d.alloc _) ⟨w.heap.size,0,none⟩ 1 1 (insC (op,arg)) rfl rfl Zk4 ?c2 ?c3 ?c4 ?c5 ?_)
 case c2=>intro u y;simp[insC]at y;rcases y with rfl|rfl <;> rfl
 case c3=>unfold maxLen;omega
 case c4=>omega
 case c5=>simp;omega
 intro v' F a f _ l;obtain⟨g3,cp3,z⟩:=ZF a Om;subst z
 obtain ⟨m, p⟩ := (i.out _).insApp (c' := Zc op arg c) ⟨rfl, rfl, rfl⟩ f (fun k A => l.elim (fun e => Or.inl (e.symm.trans A)) (fun e => Or.inr (by have := Yax (e.symm.trans A); simp; omega))) (by
   show F.ownsRow _ _ _ _ (c.jz++[(op,arg)]).length ((c.jz++[(op,arg)]).flatMap insC);rw[Zwk,Yab,<-E.out];exact a)
 have g:=hid m;have B:=hid (CoP.step Zbal p);clear a f m p m5 d j l;have m5:=g.cell 5;have mf:=g.frozen 5;have j:=g.lt;simp only[coC,List.getElem?_cons_succ,Ycy]at m5;go_wp2;exact bodyPost_end (results_none rfl _ _ _) rfl ⟨rfl,B⟩
theorem Zha(h:ZK n l=some s):s<16/\l.getD s none=some (n:Int):=by
 unfold ZK at h;have a:=List.find?_some h;have d:=Yex h;exact⟨Yb9.1 d,by simpa using a⟩
theorem ZdZ(h:ZbQ l=some s):s<16/\l.getD s none=none:=by
 unfold ZbQ at h;have a:=List.find?_some h;have d:=Yex h;exact⟨Yb9.1 d,by simpa using a⟩
theorem Zpj {p : Nat -> Bool} : ∀ {m k : Nat}, k <= m -> (∀ j, j < k -> p j = false) -> (List.range m).find? p = if k < m /\ p k = true then some k else (List.range m).find? p := fun {m k} e h => by
  split
  · rename_i a
    rw[List.find?_range_eq_some];exact⟨a.2,Yb9.2 a.1,fun j d=>by rw[h j d];rfl⟩
  · rfl
theorem Znb(h:Co w X cv iv c)(n:Nat) :
  Cz 126 #[Vp X.cb,Vi n] w fun e w'=>e=.returned (.tuple #[Vi ((ZK n c.jy).getD 0:Nat),.bool (ZK n c.jy).isSome])/\w'=w:=by
 have m2:w.cell? _=some _:=h.box.cell 2;have y:=h.box.lt;have v:Hid (∀k:Nat,k<16->(Instr.lookup _ _ _ _).run _ w=.ok _ w):=hid (fun k q=>h.jy.look q Dc w rfl);clear h;go_enter func126,ntmps126;go_wp2
 go_loopw [9] (fun i wr=>wr=w/\∃k:Nat,k<=16/\i=Vi k/\Hid (∀j,j<k->c.jy.getD j none≠some (n:Int))) (fun i _=>16 - (intOf i).toNat)
 case atStart=>exact⟨rfl,0,by omega,rfl,hid (fun j g=>by omega)⟩
 case round=>
  obtain⟨rfl,k,q,rfl,l⟩:=hrel;by_cases m:k<16
  ·have z:(k:Int)<16:=by omega
   have a:=v k m
   have r:Hid (ZK n c.jy=if c.jy.getD k _=some _ then some k else ZK n c.jy):=hid (by
    have:=Zpj q (fun j g=>decide_eq_false (l j g));simpa [ZK,m] using this)
   generalize o:c.jy.getD k none=sl at a r;have p:=hid o;clear o;cases sl with
   | none=>
    simp only[Yc9,Yb7]at a;go_wp2
    go_roundw
    case rel => exact ⟨trivial, k + 1, by omega, by simp, hid (fun j g => by
      rcases Yav j k with d|d
      · exact l j d
      · obtain rfl:j=k:=by omega
        rw[p];simp)⟩
    case measure=>simp[intOf];omega
   | some u=>
    simp only[Ya6,Yb0]at a;by_cases t:u=(n:Int)
    ·subst t;have f:Hid (ZK n _=some k):=hid (by rw[r,if_pos rfl]);clear r;go_wp2;go_ret2;rw[f];exact⟨rfl,rfl⟩
    ·go_wp2
     go_roundw
     case rel => exact ⟨trivial, k + 1, by omega, by simp, hid (fun j g => by
       rcases Yav j k with d|d
       · exact l j d
       · obtain rfl:j=k:=by omega
         rw[p];simpa using t)⟩
     case measure=>simp[intOf];omega
  ·obtain rfl:k=16:=by omega
   have f:Hid (ZK n c.jy=none):=by
    unfold ZK;rw[Yc2];intro s x;simpa using l s (Yb9.1 x)
   go_wp2;go_ret2;rw[f];exact⟨rfl,rfl⟩
theorem Zps(h:Co w X cv iv c) :
  Cz 130 #[Vp X.cb] w fun e w'=>e=.returned (.tuple #[Vi ((ZbQ c.jy).getD 0:Nat),.bool (ZbQ c.jy).isSome])/\w'=w:=by
 have m2:w.cell? _=some _:=h.box.cell 2;have v:=h.box.lt;have r:Hid (∀k:Nat,k<16->(Instr.lookup _ _ _ _).run _ w=.ok _ w):=hid (fun k l=>h.jy.look l Dc w rfl);clear h;go_enter func130,ntmps130;go_wp2
 go_loopw [7] (fun i wr=>wr=w/\∃k:Nat,k<=16/\i=Vi k/\Hid (∀j,j<k->c.jy.getD j none≠none)) (fun i _=>16 - (intOf i).toNat)
 case atStart=>exact⟨rfl,0,by omega,rfl,hid (fun j m=>by omega)⟩
 case round=>
  obtain⟨rfl,k,l,rfl,n⟩:=hrel;by_cases f:k<16
  ·have x:(k:Int)<16:=by omega
   have a:=r k f
   have o:Hid (ZbQ c.jy=if c.jy.getD k _=none then some k else ZbQ c.jy):=hid (by
    have:=Zpj l (fun j m=>decide_eq_false (n j m));simpa [ZbQ,f] using this)
   generalize g:c.jy.getD k none=sl at a o;have p:=hid g;clear g;cases sl with
   | none=>
    simp only[Yc9,Yb7]at a;have d:Hid (ZbQ _=some k):=hid (by rw[o,if_pos rfl]);clear o;go_wp2;go_ret2;rw[d];exact⟨rfl,rfl⟩
   | some u=>
    simp only[Ya6,Yb0]at a;go_wp2
    go_roundw
    case rel => exact ⟨trivial, k + 1, by omega, by simp, hid (fun j m => by
      rcases Yav j k with q|q
      · exact n j q
      · obtain rfl:j=k:=by omega
        rw[p];simp)⟩
    case measure=>simp[intOf];omega
  ·obtain rfl:k=16:=by omega
   have d:Hid (ZbQ c.jy=none):=by
    unfold ZbQ;rw[Yc2];intro s t;simpa using n s (Yb9.1 t)
   go_wp2;go_ret2;rw[d];exact⟨rfl,rfl⟩
end
end
section
section
variable {P:Program} {ops:Array Oper} {Q:Exit->Act->World->Prop} {md:Region.Mode} {S:World->Prop} {k:Nat}
theorem Za (i : Nat) {d : Nat} {oi : Oper}  {f : Nat} {ls ls' : Array Bool} {a : Act} {tm' : Array Value} {w : World} (e : S w) (g : ops[i]? = some oi := by rfl) (hd : oi.dst = some d := by rfl) (j : (Region.noSelect ops && Region.free md ops ls i && (Region.ready md ops ls).contains i && Zhk md ops i ops.size k && ZfE md ops ls && i != k) = true := by kernel_rfl)
    (l:∀c a w,Q (.panic c) (a.put oi.dst v) w->Q (.panic c) a w:=by exact fun _ _ _ h=>h) (m:YieldsIf P ops S oi v a:=by(refine Or.inl ⟨by rfl,?_⟩;intro w hSw;go_simp;try with_reducible rfl)) (n:ls.setIfInBounds i true=ls':=by(try simp only[Zset]);rfl) (o:a.tmps.setIfInBounds d v=tm':=by(try simp only[Zset]);rfl)
    (h:ZcJ P md ops Q S k f ls' { a with tmps:=tm' } w):ZcJ P md ops Q S k (f+1) ls a w:=by
  subst n o;exact ZeD g hd j l m e h
end
end
section
section
variable {w w' w1 w2:World} {X:CX} {cv iv cv' iv':Value} {c c':Cq} {S S1:Nat->Prop}
theorem ZlC(s j:Nat){x:Option Int}(h:s<l.length):(l.set s x).getD j none=if j=s then x else l.getD j none:=by
 rw[Yaa,Ya0];by_cases e:s=j
 ·subst e;simp[h]
 ·simp[e,Ycp e,Yaa]
theorem Co.slotUpd (h : Co w X cv iv c) (l : w.grownBy w' (some X.sb)) (m : MapZ w' X.sb 16 (fun s => c'.jy.getD s none)) (n : c'.jy.length = 16) (g : c'.left = c.left /\ c'.jq = c.jq /\ c'.jz = c.jz) : Co w' X cv iv c' /\ KeepS (X.chg cv iv) w w' := by
  have N:=h.ne;have d:=KeepS.grown l (fun _ e=>(Yax e).symm);refine⟨⟨d.bat h.box N.cs,d.bat h.gbox N.gs,h.gn,d.own h.nrow (fun j a=>by injection a with a;subst a;exact N.ns),?_,m,n,?_,?_,?_,h.ne1,h.ne2,h.bas,Yah h.bsz d.size,h.nsz,h.nok,g.1▸h.lbd⟩,d.mono (fun k e=>.inr (.inr (.inl e)))⟩
  · rw[g.1];exact d.own h.left (fun j a=>by injection a with a;subst a;exact N.ls)
  · obtain⟨f,i⟩:=h.tak
    exact⟨f,i.move (d.block _ i.lt N.st.symm)⟩
  · rw[g.2.1];exact d.own h.cons (fun j a e=>by subst e;exact N.scv a)
  · rw[g.2.2];exact d.own h.jz (fun j a e=>by subst e;exact N.siv a)
theorem CoP.of(h:Co w' X cv iv c/\KeepS (X.chg cv iv) w w'):CoP w w' X cv iv c:=⟨cv,iv,h.1,h.2,fun _ h=>.inl h,fun _ h=>.inl h⟩
theorem Co.slotSet(h:Co w X cv iv c)(a:s<16){v:Int}(d:(Lit.int .i64 v).wf=true) :
  ∃w',(Instr.mapUpdate 169 (.map (some X.sb)) (Vi (s:Int)) (Vi v)).run prog w=.ok () w'/\Co w' X cv iv { c with jy:=c.jy.set s (some v) }/\KeepS (X.chg cv iv) w w':=by
 obtain⟨w',e,f,g⟩:=h.jy.put a Dc d w rfl;refine⟨w',e,h.slotUpd g (f.congr (fun k _=>?_)) ?_ ⟨rfl,rfl,rfl⟩⟩
 ·exact ZlC s k (by rwa [h.slen])
 ·show(c.jy.set s (some v)).length=16;rw[Yat];exact h.slen
theorem Co.slotDel(h:Co w X cv iv c)(a:s<16) :
  ∃w',(∀ty,(Builtin.delete_ #[169,3] ty #[.map (some X.sb),Vi (s:Int)]).run prog w=.ok (.tuple #[]) w')/\Co w' X cv iv { c with jy:=c.jy.set s none }/\KeepS (X.chg cv iv) w w':=by
 obtain⟨w',d,e,f⟩:=h.jy.del a Dc w rfl;refine⟨w',d,h.slotUpd f (e.congr (fun k _=>?_)) ?_ ⟨rfl,rfl,rfl⟩⟩
 ·exact ZlC s k (by rwa [h.slen])
 ·show(c.jy.set s none).length=16;rw[Yat];exact h.slen
theorem Zqf(h:Co w X cv iv c)(n s:Nat)(l:c.jz.length<=1000000)(m:s<16)(q:n<=1000000) :
  Cz 131 #[Vp X.cb,Vi n,Vi s] w fun e w'=>e=.returned (.tuple #[])/\Hid (CoP w w' X cv iv (ZZ n s c)):=by
 have i:=hid (ZfY h 12 s l);clear h;go_enter func131,ntmps131
 go_wp2_with fail
 refine i.mono ?_;rintro e w1 ⟨rfl,j⟩;obtain⟨cv1,iv1,a,g,d,f⟩:=j.out;have a:=hid a;have g:=hid g;have d:=hid d;have f:=hid f;clear j i;obtain⟨w2,r,k⟩:=a.slotSet m (v:=n) (Zhl Om);have o:=hid k;clear k;have m2:w1.cell? _=some _:=a.box.cell 2;have p:=a.box.lt;go_wp2;exact bodyPost_end (results_none rfl _ _ _) rfl ⟨rfl,hid (CoP.trans g d f (CoP.of o))⟩
theorem Co.node(h:Co w X cv iv c)(a:n<X.jx.length):w.cell? ⟨X.nb,n*4,none⟩=some (Vi (X.jx.getD n nq0).op)/\w.cell? ⟨X.nb,n*4+1,none⟩=some (Vi (X.jx.getD n nq0).arg)/\w.cell? ⟨X.nb,n*4+2,none⟩=some (Vi (nI (X.jx.getD n nq0).fs))/\w.cell? ⟨X.nb,n*4+3,none⟩=some (Vi (nI (X.jx.getD n nq0).sn)):=by
 have g : ∀ j, j < 4 -> (X.jx.flatMap nodC)[n * 4 + j]? = (nodC (X.jx.getD n nq0))[j]? := fun j d => by
   rw[ZgL nodC 4 (fun _=>rfl) X.jx n j a d];simp[a]
 exact⟨Zi h.nrow _ (g 0 Dc),Zi h.nrow _ (g 1 Dc),Zi h.nrow _ (g 2 Dc),Zi h.nrow _ (g 3 Dc)⟩
theorem Co.nodeOk(h:Co w X cv iv c)(a:n<X.jx.length):NOne n (X.jx.getD n nq0):=by
 have:=h.nok n a;simpa [a] using this
def TkR(w w':World)(l:List Nat)(v:Value):Prop:=∃a k,v=.slice a l.length k/\(0<l.length->∃b,a=some ⟨b,0,none⟩/\w.heap.size<=b/\b<w'.heap.size/\∀j (hj:j<l.length),w'.cell? ⟨b,j,none⟩=some (intC l[j]))
theorem Znp(x:Nq){w:World}(f:x.fs=none->x.sn=none) :
  Cz 179 #[.agg #[Vi x.op,Vi x.arg,Vi (nI x.fs),Vi (nI x.sn)]] w fun e w'=>∃v,e=.returned v/\BW w w'/\Hid (TkR w w' (Zg x) v):=by
 obtain⟨op,arg,fs,sn⟩:=x;cases fs with
 | none=>
  obtain rfl:sn=none:=f rfl;go_enter func179,ntmps179;simp only[nI];go_wp2;go_ret;exact⟨_,rfl,belB,hid ⟨_,_,rfl,fun h=>absurd h (by simp[Zg])⟩⟩
 | some a=>
  have g:(a:Int)≠-1:=by omega
  cases sn with
  | none=>
   go_enter func179,ntmps179;simp only[nI];go_wp2;go_ret;refine⟨_,rfl,belB,hid ⟨_,_,rfl,fun h=>⟨_,rfl,by simp,by simp,fun j d=>?_⟩⟩⟩;obtain rfl:=by simp[Zg]at d;omega
   simp[Zg,intC]
  | some b=>
   have i:(b:Int)≠-1:=by omega
   go_enter func179,ntmps179;simp only[nI];go_wp2;go_ret;refine⟨_,rfl,belB,hid ⟨_,_,rfl,fun h=>⟨_,rfl,by simp,by simp,fun j d=>?_⟩⟩⟩;rcases(by simp[Zg]at d;omega:j=0∨j=1)with rfl|rfl <;> simp[Zg,intC]
theorem Ztk(h:Co w X cv iv c)(n:Nat)(v:n<X.jx.length) :
  Cz 129 #[Vp X.cb,Vi n] w fun e w'=>e=.returned (.bool (ZeJ X.jx n))/\BW w w':=by
 have m0:w.cell? _=some _:=h.box.cell 0;have g2:=(h.gbox.cell 2).trans h.gn;have C:=h.box.lt;have D:=h.gbox.lt;have j:=Z1 h.nrow;have E:(n:Int)<X.jx.length:=by omega
 obtain⟨q0,q1,q2,q3⟩:=h.node v;have p:=hid (h.nodeOk v);have z:=hid (fun k O=>h.node (n:=k) O);have i:Hid (ZeJ X.jx n=decide _):=hid rfl;obtain⟨x,F⟩:∃x,x=X.jx.getD n nq0:=⟨_,rfl⟩
 rw[<-F]at q0 q1 q2 q3 p i;clear h F;obtain⟨L,A⟩:∃L,L=X.jx.length:=⟨_,rfl⟩
 rw[<-A]at g2 E v;have P:=hid A;clear A;go_enter func129,ntmps129;by_cases q:x.op=4
 ·obtain⟨a,r⟩:=p.neg q
  have G:a<L:=by
   have:=p.low a (by unfold Zg;rw[r];cases x.sn <;> simp);omega
  have T:(a:Int)<L:=by omega
  rw[r]at q2;simp only[nI]at q2;obtain⟨p0,p1,p2,p3⟩:=z.out a (by rw[<-P.out];exact G);rw[q]at q0;have l:Hid (ZeJ X.jx n=decide ((X.jx.getD a nq0).op≠0/\(X.jx.getD a nq0).op≠1)):=by rw[i,if_pos q,r];rfl
  clear i p r q z;obtain⟨y,H⟩:∃y,y=X.jx.getD a nq0:=⟨_,rfl⟩
  rw[<-H]at p0 p1 p2 p3 l;clear H;generalize Q:nI x.sn=xs at q3;generalize I:nI y.sn=y3 at p3;generalize J:nI y.fs=y2 at p2;clear Q I J
  go_upto_region 3 with fail
  refine ZP fun W B=>?_;have s:BW w W:=B▸belB;have t:Hid (BAt W _ _ 232):=B▸(show BAt _ _ _ _ from bnw);have g:=hid s.drew;have f:Hid (BAt W.drew _ _ _):=hid t;clear B s t;refine Zbn 11 (fun w'=>w'.cell? ⟨X.cb,0,none⟩=some (Vp X.gb)/\w'.cell? ⟨X.gb,2,none⟩=some (.slice (some ⟨X.nb,0,none⟩) L X.nc)/\w'.cell? ⟨w.heap.size,2,none⟩=some (Vi a)/\w'.cell? ⟨X.nb,a*4,none⟩=some (Vi y.op)/\w'.cell? ⟨X.nb,a*4+1,none⟩=some (Vi y.arg)/\w'.cell? ⟨X.nb,a*4+2,none⟩=some (Vi y2)/\w'.cell? ⟨X.nb,a*4+3,none⟩=some (Vi y3)) Kr ?_ (fun d=>?_)
  ·have m:∀b o,b<w.heap.size->W.drew.cell? _=w.cell? ⟨b,o,none⟩:=fun b o h=>g.cell h;exact⟨(m _ _ C).trans m0,(m _ _ D).trans g2,f.cell 2,(m _ _ j).trans p0,(m _ _ j).trans p1,(m _ _ j).trans p2,(m _ _ j).trans p3⟩
  refine Za 0 d (h:=?_);refine Za 1 d (h:=?_);refine Za 2 d (h:=?_);refine Za 3 d (h:=?_);refine Za 4 d (h:=?_);refine Za 5 d (h:=?_);refine Za 6 d (h:=?_);refine Za 7 d (h:=?_);refine Za 8 d (h:=?_);refine Za 9 d (h:=?_);refine Za 10 d (h:=?_);refine Zbl Kr Kr rfl Kr (fun K M=>?_);have ml:w.heap.size<W.heap.size:=f.lt;have f0:W.frozen? _=false:=f.frozen 0;have f1:W.frozen? _=false:=f.frozen 1;have f2:W.frozen? _=false:=f.frozen 2;have f3:W.frozen? _=false:=f.frozen 3;have k0:W.cell? _=some _:=f.cell 0;have k1:W.cell? _=some _:=f.cell 1;have k2:W.cell? _=some _:=f.cell 2;have k3:W.cell? _=some _:=f.cell 3;go_simp;refine M _ _ ?_;clear d M K k0 k1 k2 k3 f0 f1 f2 f3
  have N:Hid (BW w ((((W.setCell ⟨w.heap.size,0,none⟩ (Vi y.op)).setCell ⟨w.heap.size,1,none⟩ (Vi y.arg)).setCell ⟨w.heap.size,2,none⟩ (Vi y2)).setCell ⟨w.heap.size,3,none⟩ (Vi y3)).drew):=by
   have R:Below _ w W:=⟨g.os,g.tape,g.output,g.size,g.block⟩
   exact((((R.setCell (Yac _) _).setCell (Yac _) _).setCell (Yac _) _).setCell (Yac _) _).drew
  have u:Hid (BAt ((((W.setCell ⟨w.heap.size,0,none⟩ (Vi y.op)).setCell ⟨w.heap.size,1,none⟩ (Vi y.arg)).setCell ⟨w.heap.size,2,none⟩ (Vi y2)).setCell ⟨w.heap.size,3,none⟩ (Vi y3)).drew w.heap.size [Vi y.op,Vi y.arg,Vi y2,Vi y3] 232):=hid ((((show BAt W w.heap.size _ _ from f.out).setC 0 _).setC 1 _).setC 2 _ |>.setC 3 _);generalize((((W.setCell ⟨w.heap.size,0,none⟩ (Vi y.op)).setCell ⟨w.heap.size,1,none⟩ (Vi y.arg)).setCell ⟨w.heap.size,2,none⟩ (Vi y2)).setCell ⟨w.heap.size,3,none⟩ (Vi y3)).drew=W4 at *
  have k0:W4.cell? _=some _:=u.cell 0;have ml4:=u.lt;go_wp2
  all_goals
   go_ret;refine⟨Zcy ?_,N⟩;rw[l,Ybh];simp
   try omega
 ·have U:(x.op:Int)≠4:=by omega
  have l:Hid (ZeJ _ n=decide _):=hid (by rw[i,if_neg q]);clear i p z;go_wp2
  all_goals
   go_ret;refine⟨Zcy ?_,belB⟩;rw[l,Ybh];simp
   try omega
end
end
section
section
variable {w w' w1 w2:World} {X:CX} {cv iv cv' iv':Value} {c c':Cq} {S S1:Nat->Prop}
theorem Zk2(l:List Nat)(n j:Nat)(h:n<l.length):(bump l n).getD j 0=if j=n then l.getD n 0+1 else l.getD j 0:=by
 unfold bump;rw[Yaa,Ya0];by_cases e:n=j
 ·simp_all
 simp_all;omega
theorem ZfT(l:List Nat)(n:Nat):(bump l n).length=l.length:=by simp[bump]
theorem ZlA{α:Type}{f:List Nat->α->List Nat}(a:∀l x,(f l x).length=l.length):∀(t:List α) (l:List Nat),(t.foldl f l).length=l.length
 | [],_=>rfl
 | x::t,l=>by rw[Ybp,ZlA a t,a]
theorem Zi1:∀(f n:Nat) (k:List Nat),(cntQ jx sl f n k).length=k.length
 | 0,_,_=>rfl
 | f + 1, n, k => by
   unfold cntQ;simp only;split
   · exact ZfT _ _
   · rw[ZlA (fun l x=>Zi1 f x l),ZfT]
theorem Zm9:∀(l:List Nat) (n:Nat),n<l.length->(bump l n).sum=l.sum+1
 | x::l,0,_=>by simp[bump];omega
 | x :: l, n + 1, h => by
   have:=Zm9 l n (by simp_all);simp only[bump,Ydx,Yd2,Yee]at this ⊢;omega
theorem Zjz:∀(l:List Nat) (n:Nat),l.getD n 0<=l.sum
 | [],n=>by simp
 | x::l,0=>by simp
 | x::l,n+1=>by have:=Zjz l n;simp_all;omega
def takF(k:List Nat)(n:Nat):Option Int:=if k.getD n 0=0 then none else some (k.getD n 0:Nat)
def CoT(w:World)(X:CX)(cv iv:Value)(c:Cq)(k:List Nat):Prop:=Co w X cv iv c/\MapZ w X.tb X.jx.length (takF k)/\k.length=X.jx.length
theorem Co.takUpd(h:Co w X cv iv c)(g:w.grownBy w' (some X.tb)){f:Nat->Option Int}(i:MapZ w' X.tb X.jx.length f):Co w' X cv iv c:=by
 have N:=h.ne;have d:=KeepS.grown g (fun _ e=>(Yax e).symm);exact⟨d.bat h.box N.ct,d.bat h.gbox N.gt,h.gn,d.own h.nrow (fun j a=>by injection a with a;subst a;exact N.nt),d.own h.left (fun j a=>by injection a with a;subst a;exact N.lt),h.jy.move (d.block _ h.jy.lt N.st),h.slen,⟨f,i⟩,d.own h.cons (fun j a e=>by subst e;exact N.tcv a),d.own h.jz (fun j a e=>by subst e;exact N.tiv a),h.ne1,h.ne2,h.bas,Yah h.bsz d.size,h.nsz,h.nok,h.lbd⟩
theorem CoT.below(h:CoT w X cv iv c k)(a:BW w w'):CoT w' X cv iv c k:=⟨h.1.below a,h.2.1.move (a.block _ h.2.1.lt),h.2.2⟩
theorem CoT.inc(h:CoT w X cv iv c k)(d:n<X.jx.length)(m:k.sum<=1000000000) :
  (Instr.lookup 169 (.map (some X.tb)) (Vi (n:Int)) false).run prog w=.ok (Vi (k.getD n 0:Nat)) w/\∃w',(Instr.mapUpdate 169 (.map (some X.tb)) (Vi (n:Int)) (Vi ((k.getD n 0:Nat)+1))).run prog w=.ok () w'/\CoT w' X cv iv c (bump k n)/\w.grownBy w' (some X.tb):=by
 have i:=h.1.nsz;have l:=Zjz k n;refine⟨?_,?_⟩
 ·have:=h.2.1.get d Om w rfl;rw[this];unfold takF;split<;>simp_all
 ·obtain⟨w',f,g,e⟩:=h.2.1.put (v:=((k.getD n 0:Nat)+1)) d Om (Zhl (k:=k.getD n 0+1) Om) w rfl
  have a : MapZ _ _ _ (takF _) := g.congr (fun j o => by
    unfold takF;rw[Zk2 k n j (by rwa [h.2.2])];split<;>rfl)
  exact⟨w',f,⟨h.1.takUpd e a,a,by rw[ZfT];exact h.2.2⟩,e⟩
theorem CoT.get(h:CoT w X cv iv c k)(a:n<X.jx.length):(Instr.lookup 169 (.map (some X.tb)) (Vi (n:Int)) false).run prog w=.ok (Vi (k.getD n 0:Nat)) w:=by
 have d:=h.1.nsz;rw[h.2.1.get a Om w rfl];unfold takF;split<;>simp_all
theorem Zoj(jx:List Nq)(sl:List (Option Int)):∀(f n:Nat) (k:List Nat),k.sum<=(cntQ jx sl f n k).sum:=by
 intro f
 induction f with
 | zero=>intro n k;exact Yac _
 | succ f ih=>
  intro n k
  have a : ∀ l : List _, l.sum <= (bump l n).sum := fun l => by
    by_cases h:n<l.length
    · rw[Zm9 l n h];omega
    · unfold bump;rw[List.set_eq_of_length_le Om];omega
  unfold cntQ;simp only;split
  ·exact a k
  ·refine Yah (a k) ?_;generalize bump k n=k1;generalize Zg (jx.getD n nq0)=ts
   induction ts generalizing k1 with
   | nil=>simp
   | cons t ts d=>rw[Ybp];exact Yah (ih t _) (d _)
end
end
section
section
variable {w w' w1 w2:World} {X:CX} {cv iv cv' iv':Value} {c c':Cq} {S S1:Nat->Prop}
def cntP(w w':World)(X:CX)(cv iv:Value)(c:Cq)(k:List Nat):Prop:=CoT w' X cv iv c k/\KeepS (fun j=>j=X.tb) w w'
theorem cntP.step(h:KeepS (fun j=>j=X.tb) w w1)(q:cntP w1 w2 X cv iv c k):cntP w w2 X cv iv c k:=⟨q.1,h.trans q.2 (fun _ h _=>h)⟩
theorem KeepS.cell(h:KeepS S w w'){b o:Nat}(a:w.cell? ⟨b,o,none⟩=some v)(e:¬S b):w'.cell? ⟨b,o,none⟩=some v:=by
 have f:b<w.heap.size:=by
  rcases Yav b w.heap.size with d|d
  ·exact d
  ·simp[World.cell?,Yfi d]at a
 simp only[World.cell?,h.block b f e]at a ⊢;exact a
theorem ZlB{α β:Type}(g:β->α->β){l:List α}(b:β){i:Nat}(a:i<l.length):(l.take (i+1)).foldl g b=g ((l.take i).foldl g b) l[i]:=by
 rw[List.take_succ_eq_append_getElem a,Ydy];rfl
theorem ZiC(x:Nq):(Zg x).length<=2:=by unfold Zg;split <;> simp
theorem ZuM (jx : List Nq) (sl : List (Option Int)) (f : Nat) (ts : List Nat) (k : List Nat) (i : Nat) : ((ts.take i).foldl (fun k t => cntQ jx sl f t k) k).sum <= (ts.foldl (fun k t => cntQ jx sl f t k) k).sum := by
  conv=>rhs;rw[<-Ycn i ts,Ydy]
  generalize(ts.take i).foldl (fun k t=>cntQ jx sl f t k) k=k1;generalize ts.drop i=us
  induction us generalizing k1 with
  | nil=>exact Yac _
  | cons t us ih=>rw[Ybp];exact Yah (Zoj _ _ f t _) (ih _)
theorem Zoy(X:CX)(cv iv:Value)(c:Cq):∀(f n:Nat) (k:List Nat) (w:World),CoT w X cv iv c k->n<f->n<X.jx.length->(cntQ X.jx c.jy f n k).sum<=1000000000->
  Cz 273 #[Vp X.cb,Vi n] w fun e w'=>e=.returned (.tuple #[])/\Hid (cntP w w' X cv iv c (cntQ X.jx c.jy f n k))
 | 0,n,_,_,_,h,_,_=>absurd h (Ya1 _)
 | f + 1, n, k, w, h, hf, p, g => by
   have IH:=hid (Zoy X cv iv c f);have q:=Yah (Zoj _ _ _ _ _) g;have a9:=Yah (Zjz k n) q;have m:=Zk2 k n n (by rw[h.2.2];exact p);rw[if_pos rfl]at m;obtain⟨R,w1,T,d,C⟩:=h.inc p q;have m3:w.cell? _=some _:=h.1.box.cell 3;have U:=h.1.box.lt;have a:=hid d;have z:=hid (KeepS.grown C (fun _ e=>(Yax e).symm));have HS:=hid g
   have A : Hid (cntQ X.jx c.jy (f + 1) n k = if (ZK n c.jy).isSome ∨ 1 < k.getD n 0 + 1 then bump k n else (Zg (X.jx.getD n nq0)).foldl (fun k t => cntQ X.jx c.jy f t k) (bump k n)) := hid (by
     rw[cntQ];simp only[m])
   have V:w1.cell? _=some _:=d.1.box.cell 3;have W:=d.1.box.lt;have D:=d.get p;rw[m]at D;generalize k.getD n 0=kn at *
   have b0:(kn:Int)<=1000000000:=by omega
   clear h C d g q m;have M:=hid (Znb a.1 n);go_enter func273,ntmps273
   go_wp2_with fail
   refine M.mono ?_;rintro e wq ⟨rfl,rfl⟩;by_cases l:(ZK n c.jy).isSome=true∨1<kn+1
   · have r:Hid (cntQ _ _ _ n k=bump k n):=hid (by rw[A,if_pos l])
     generalize b1:(ZK n c.jy).isSome=fs at *
     clear M A;have E:fs=true∨(1:Int)<kn+1:=l.elim .inl (fun h=>.inr Om);clear l;cases fs with
     | true=>
       go_wp2;exact bodyPost_ret (results_none rfl _ _ _) rfl ⟨rfl,hid (r.out▸⟨a.out,z.out⟩)⟩
     | false=>
       have b2:=E.elim (fun h=>by cases h) id;clear E;go_wp2;exact bodyPost_ret (results_none rfl _ _ _) rfl ⟨rfl,hid (r.out▸⟨a.out,z.out⟩)⟩
   · have r:Hid (cntQ _ _ _ n k=_):=hid (by rw[A,if_neg l])
     have F:(ZK n c.jy).isSome=false:=by
       cases h:(ZK n c.jy).isSome
       · rfl
       · exact absurd (.inl h) l
     have Y:kn=0:=Yb6 fun h=>l (.inr Om);subst Y;rw[F];clear l F A M;have m0:wq.cell? _=some _:=a.1.box.cell 0;have g2:=(a.1.gbox.cell 2).trans a.1.gn;have Z:=a.1.gbox.lt;have a0:=Z1 a.1.nrow;have b3:(n:Int)<X.jx.length:=by omega
     obtain⟨q0,q1,q2,q3⟩:=a.1.node p;have HN:=hid (a.1.nodeOk p);generalize X.jx.getD n nq0=x at *
     go_wp2_with fail
     refine(Znp x HN.sn).mono ?_;rintro e w3 ⟨tv,rfl,s,N⟩;obtain⟨ta,tc,rfl,G⟩:=N.out;have N:=hid G;have a1:=hid (a.below s);have a2:=hid (z.trans (KeepS.ofBelow _ s) (fun _ h _=>h));have b4:=a.2.1.lt;have a3:=ZiC x;have a4:Hid (∀t∈Zg x,t<f/\t<X.jx.length):=hid (fun t ht=>by have:=HN.low t ht;omega);clear G a z s m0 g2 Z a0 q0 q1 q2 q3 R T D m3 U V W;generalize Zg x=ts at *
     obtain⟨L,O⟩:∃L,L=ts.length:=⟨_,rfl⟩
     rw[<-O]at a3 ⊢;have HL:=hid O;clear O;go_wp2
     go_loopw [43] (fun i wr=>∃j:Nat,j<=L/\i=Vi j/\Hid (cntP w wr X cv iv c ((ts.take j).foldl (fun k t=>cntQ X.jx c.jy f t k) (bump k n)))/\Hid (KeepS (fun j=>j=X.tb) w3 wr)) (fun i _=>L - (intOf i).toNat)
     case atStart=>exact⟨0,Yag _,rfl,hid ⟨a1,a2⟩,hid (KeepS.refl _ _)⟩
     case round=>
       obtain⟨j,hj,rfl,B,o⟩:=hrel;by_cases a5:j<L
       · have b5:(j:Int)<L:=by omega
         have u:j<ts.length:=by rw[<-HL.out];exact a5
         obtain⟨b,rfl,b6,a6,H⟩:=N.out Om;have kc:=o.cell (H j u) (fun e=>by omega);have a7:=Yaw a6 o.size;obtain⟨P,Q⟩:=a4.out ts[j] (List.getElem_mem u);have v:=hid (ZlB (fun k t=>cntQ X.jx c.jy f t k) (bump k n) u)
         have I : Hid ((cntQ X.jx c.jy f ts[j] ((ts.take j).foldl (fun k t => cntQ X.jx c.jy f t k) (bump k n))).sum <= 1000000000) := hid (by
           have h1:=ZuM X.jx c.jy f ts (bump k n) (j+1);have h2:=HS.out;rw[r]at h2;rw[v]at h1;omega)
         have J:=hid (IH _ _ _ B.1 P Q I);generalize ts[j]=t at *
         simp only[intC]at kc;clear H
         go_wp2_with fail
         refine J.mono ?_;rintro e w5 ⟨rfl,y⟩;have K:Hid (cntP w _ X _ _ c ((ts.take _).foldl _ _)):=v.out▸cntP.step B.2 y.out;have a8:=hid (o.trans y.2 (fun _ h _=>h));clear B o y J I v kc a7;go_wp2
         go_roundw
         case rel=>exact⟨j+1,by omega,by simp,K,a8⟩
         case measure=>simp[intOf];omega
       · obtain rfl:j=L:=by omega
         have K : Hid (cntP w wr X cv iv c (ts.foldl (fun k t => cntQ X.jx c.jy f t k) (bump k n))) := by
           have:=B.out;rwa [HL,Ya4]at this
         go_wp2;exact bodyPost_end (results_none rfl _ _ _) rfl ⟨rfl,hid (by rwa [r.out])⟩
end
end
section
section
variable {w w' w1 w2:World} {X:CX} {cv iv cv' iv':Value} {c c':Cq} {S S1:Nat->Prop}
theorem Zjw : ∀ {N m:Nat},ZbT p N=some m->m<N/\p m=true
 | 0,m,h=>by cases h
 | N + 1, m, h => by
   unfold ZbT at h;by_cases a:p N=true
   · rw[if_pos a]at h;injection h with h;subst h;exact⟨Ybd _,a⟩
   · rw[if_neg a]at h;have:=Zjw h;exact⟨by omega,this.2⟩
theorem Zqu : ∀ {N m j:Nat},ZbT p N=some m->j<N->p j=true->j<=m
 | 0,_,_,_,h,_=>absurd h (Ya1 _)
 | N + 1, m, j, h, f, d => by
   unfold ZbT at h;by_cases a:p N=true
   · rw[if_pos a]at h;injection h with h;omega
   · rw[if_neg a]at h
     rcases Yav j N with e|e
     · exact Zqu h e d
     · obtain rfl:j=N:=by omega
       exact absurd d a
theorem Zml(o:Option Nat) : -1<=nI o:=by
 cases o with
 | none=>exact Yd0 _
 | some m=>show(-1:Int)<=(m:Int);omega
theorem Zqt(N:Nat):nI (ZbT p N)<=(N:Int) - 1:=by
 cases h:ZbT p N with
 | none=>show(-1:Int)<=(N:Int) - 1;omega
 | some m=>have:=(Zjw h).1;show(m:Int)<=(N:Int) - 1;omega
theorem Zqv : ∀ {N:Nat},(∀j,j<N->p j=false)->ZbT p N=none
 | 0,_=>rfl
 | N+1,h=>by unfold ZbT;rw[h N (Ybd _)];simpa using Zqv (fun j a=>h j Om)
theorem Zjv{q:Nat->Bool} : ∀(N:Nat),(∀j,j<N->p j=q j)->ZbT p N=ZbT q N
 | 0,_=>rfl
 | N+1,h=>by unfold ZbT;rw[h N (Ybd _),Zjv N (fun j a=>h j Om)]
theorem Zqs {p : Nat -> Bool} (x : Nat) : ∀ (N : Nat), x < N -> nI (ZbT (fun j => p j || decide (j = x)) N) = max (nI (ZbT p N)) x
  | 0,h=>absurd h (Ya1 _)
  | N + 1, h => by
    unfold ZbT;by_cases e:N=x
    · subst e
      have:=Zqt (p:=p) N;by_cases a:p N=true
      · simp[a,nI]
      · simp only[a,decide_true,Bool.or_true,if_true,Yde,if_false]
        show(N:Int)=_;omega
    · simp only[e,decide_false,Yf4]
      by_cases a:p N=true
      · simp[a,nI];omega
      · simp only[a,Yde,if_false]
        exact Zqs x N Om
theorem ZtA:∀(l:List Nat) (n:Nat),n<l.length->(bump l n).count 0+(if l.getD n 0=0 then 1 else 0)=l.count 0
 | x::l,0,_=>by cases x <;> simp[bump]
 | x :: l, n + 1, h => by
   have:=ZtA l n (by simpa using h);simp only[bump,Ydx,Yee,Yfy]at this ⊢;omega
theorem ZuN(jx:List Nq)(sl:List (Option Int))(m:∀i,i<jx.length->∀t∈Zg (jx.getD i nq0),t<jx.length):∀(f n:Nat) (k:List Nat),k.length=jx.length->n<jx.length->(cntQ jx sl f n k).sum+2*(cntQ jx sl f n k).count 0<=k.sum+2*k.count 0+1:=by
 intro f
 induction f with
 | zero=>intro n k _ _;exact Ydp _
 | succ f ih=>
  intro n k d e;have s:=Zm9 k n Om;have g:=ZtA k n Om;have o:=Zk2 k n n Om;rw[if_pos rfl]at o;unfold cntQ;simp only;split
  ·split at g <;> omega
  ·rename_i p;have q:k.getD n 0=0:=Yb6 fun h=>p (.inr Om);rw[if_pos q]at g;have r:(bump k n).length=jx.length:=by rwa [ZfT]
   have a:=m n e;have u:=ZiC (jx.getD n nq0);generalize bump k n=k1 at *
   generalize Zg (jx.getD n nq0)=ts at *
   have : ∀ (us : List _) (k : List _), (∀ t ∈ us, t < jx.length) -> k.length = jx.length -> (us.foldl (fun k t => cntQ jx sl f t k) k).sum + 2 * (us.foldl (fun k t => cntQ jx sl f t k) k).count 0 <= k.sum + 2 * k.count 0 + us.length := by
     intro us
     induction us with
     | nil=>intro k _ _;simp
     | cons t us j=>
       intro k l d;have a1:=ih t k d (l t (Yay ..));have a2:=j (cntQ jx sl f t k) (fun t a=>l t (Yam _ a)) (by rwa [Zi1]);rw[Ybp,Yaj];omega
   have:=this _ _ a r;omega
theorem Co.cntOk(h:Co w X cv iv c)(a:n<X.jx.length):(cntQ X.jx c.jy (n+1) n (List.replicate X.jx.length 0)).sum<=1000000000:=by
 have:=ZuN _ c.jy (fun i d t e=>by have:=(h.nodeOk d).low t e;omega) (n+1) n (List.replicate X.jx.length 0) (by simp) a;have f:=h.nsz;simp at this;omega
theorem ZDb(h:Co w X cv iv c)(n:Nat)(hn:n<X.jx.length) :
  Cz 245 #[Vp X.cb,Vi n] w fun e w'=>e=.returned (Vi (nI (ZbY X.jx n c)))/\Hid (Co w' X cv iv c)/\Hid (KeepS (fun j=>j=X.tb) w w'):=by
 have P:=hid (h.cntOk hn);obtain⟨f0,Q⟩:=h.tak;obtain⟨w1,a8,K,p⟩:=Q.clear w rfl;have m3:w.cell? _=some _:=h.box.cell 3;have R:=h.box.lt;have T:Hid (CoT _ X _ _ c (List.replicate X.jx.length 0)):=hid ⟨h.takUpd p K,K.congr (fun j t=>by simp[takF,t]),by simp⟩;have U:=hid (KeepS.grown p (fun _ e=>(Yax e).symm));have b9:=h.nsz;clear p K Q h;go_enter func245,ntmps245
 go_wp2_with fail
 refine(Zoy X _ _ c (n+1) n _ _ T (Ybd _) hn P).mono ?_;rintro e w2 ⟨rfl,HP⟩;have HQ:Hid (ZbY X.jx n c=ZbT _ _):=hid rfl;generalize cntQ X.jx c.jy (n+1) n (List.replicate X.jx.length 0)=k at *
 have a:=hid HP.1;have V:=hid (U.trans HP.2 (fun _ h _=>h));obtain⟨D,W,Y,Z⟩:=a.2.1;have a9:=hid W;have b0:=hid Y;have L:=hid Z;clear HP T U a8 m3 R W Y Z;have m3:w2.cell? _=some _:=a.1.box.cell 3;have R:=a.1.box.lt
 go_wp2_with (first
   | (at_range;refine wpList_range_own _ rfl _ 169 rfl 3 3 intK underlying169 (plainElem prog 3) X.tb _ _ rfl a9.out ?_;intro w3 a6 a0 c1)
   | go_in)
 go_frame
 have b1:=hid (a.1.keep (KeepS.grown a0 (fun _ e=>by cases e)) id id id id id id (fun _ _=>id) (fun _ _=>id));have b2:=hid (V.trans (KeepS.grown a0 (S:=fun _=>False) (fun _ e=>by cases e)) (fun _ h _=>h.elim));have g:Hid (X.cb<w2.heap.size/\X.gb<w2.heap.size/\X.nb<w2.heap.size/\X.lb<w2.heap.size/\X.sb<w2.heap.size/\X.tb<w2.heap.size/\(∀k,cv.ownBlock=some k->k<w2.heap.size)/\(∀k,iv.ownBlock=some k->k<w2.heap.size)/\w.heap.size<=w2.heap.size):=hid ⟨a.1.box.lt,a.1.gbox.lt,Z1 a.1.nrow,Z1 a.1.left,a.1.jy.lt,a.2.1.lt,fun k hk=>(a.1.cons.lt k hk).2,fun k hk=>(a.1.jz.lt k hk).2,V.size⟩
 go_loopw [5,22] (fun lv _ wr=>∃(left:Lit->Bool) (cnt:Nat),wr.ranges prog 3 (plainElem prog 3) X.tb w2.heap.size X.jx.length D left cnt/\Hid (Co wr X cv iv c)/\Hid (KeepS (fun j=>j=X.tb) w wr)/\lv=.int .i64 (nI (ZbT (fun j=>ZcX X.jx c k j && !left (kI j)) X.jx.length))) (fun _ _ wr=>wr.rangeLeft X.tb w2.heap.size)
 case atStart => exact ⟨_, _, a6, b1, b2, by
   congr 1
   rw [Zqv (fun j t => by
     cases m:takF k j with
     | none=>
       have h0:=Yb6 fun h=>by rw[takF,if_neg h]at m;cases m
       unfold ZcX;rw[h0];rfl
     | some v=>rw[((L j t).2 v m).1];simp)]
   rfl⟩
 case round=>
  obtain⟨left,cnt,a1,HC,HK,rfl⟩:=hrel;have HL:Hid (-1<=nI (ZbT (fun j=>ZcX X.jx c k j && !left (kI j)) X.jx.length)/\nI (ZbT (fun j=>ZcX X.jx c k j && !left (kI j)) _)<=(X.jx.length) - 1):=hid ⟨Zml _,Zqt _⟩;generalize a2:nI (ZbT (fun j=>ZcX X.jx c k j && !left (kI j)) X.jx.length)=lv at *
  have a3:=hid a2;clear a2
  go_wp2_with (first
    | (at_next;refine wpList_next_ranges_ii _ rfl _ rfl 3 3 .i64 .i64 intK underlying3 underlying3 X.tb w2.heap.size _ _ _ _ rfl a1 ?_ ?_)
    | go_in)
  ·intro _ b3
   have HE:Hid (lv=nI (ZbY X.jx n c)):=by
    rw[<-a3,HQ]
    congr 1
    exact Zjv _ (fun j _=>by rw[b3];simp)
   go_wp2;go_ret;exact⟨congrArg (fun z=>Ending.returned (.int _ z)) HE,HC,HK⟩
  ·intro x v wn cnt1 c2 c3 c4 y a7 E p c5 c6;obtain⟨j,t,M⟩:=b0 _ (Maps.has_true_of_atKey y);obtain rfl:=by unfold kI at M;injection M
   have HV:Hid (v=(k.getD j 0)/\0<k.getD j 0):=by
    cases m:takF k j with
    | none=>rw[show Lit.int _ _=kI j from rfl]at y;have f:=Maps.has_true_of_atKey y;rw[(L j t).1 m]at f;cases f
    | some u=>
     have f:=((L j t).2 u m).2 .nil;rw[show kI j=Lit.int _ _ from rfl,y]at f;have r:=Zgc f;unfold takF at m;split at m
     ·cases m
     ·injection m with m;exact⟨r.trans m.symm,by omega⟩
   have l:=hid (HC.keep (KeepS.grown p (fun _ e=>(Yax e).symm)) (fun e=>by have:=g.1;omega) (fun e=>by have:=g.2.1;omega) (fun e=>by have:=g.2.2.1;omega) (fun e=>by have:=g.2.2.2.1;omega) (fun e=>by have:=g.2.2.2.2.1;omega) (fun e=>by have:=g.2.2.2.2.2.1;omega) (fun q O e=>by have:=g.2.2.2.2.2.2.1 q O;omega) (fun q O e=>by have:=g.2.2.2.2.2.2.2.1 q O;omega));have b4:=hid (HK.trans (KeepS.grown p (fun _ e=>(Yax e).symm)) (fun q e O=>by have:=g.2.2.2.2.2.2.2.2;omega))
   have F : Hid (nI (ZbT (fun i => ZcX X.jx c k i && !(left (kI i) && !(kI i).sameKey (kI j))) X.jx.length) = if ZcX X.jx c k j then max lv j else lv) := by
     rw[<-a3];by_cases G:ZcX X.jx c k j=true
     · rw[if_pos G,<-Zqs j _ t]
       congr 1
       refine Zjv _ (fun i _=>?_);by_cases e:i=j
       · subst e;rw[Ydq (by trivial)];simp[G]
       · rw[Maps.sameKey_ne (fun h=>e (Zjo h))];simp[e]
     · rw[if_neg G]
       congr 1
       refine Zjv _ (fun i _=>?_);by_cases e:i=j
       · subst e;simp[G]
       · rw[Maps.sameKey_ne (fun h=>e (Zjo h))];simp
   have c7:(j:Int)<X.jx.length:=by omega
   obtain⟨c8,c9⟩:=HL.out;obtain⟨b5,b6⟩:=HV.out;have H:Hid (ZcX X.jx c k j=((ZK j c.jy).isNone && decide (k.getD j 0<c.left.getD j 0) && ZeJ X.jx j)):=hid (by unfold ZcX;rw[decide_eq_true b6];simp);subst b5;have d0:=Yah (Zjz k j) P;have m1:wn.cell? _=some _:=l.box.cell 1;have d1:=l.box.lt;have d2:=Z1 l.left
   have lj:wn.cell? _=some (Vi (c.left.getD j 0)):=Zi l.left j (by
    have:=l.llen;rw[Ya2,List.getElem?_eq_getElem Om];simp[intC,Yaa,show j<c.left.length by omega])
   have HS:=hid (Znb l j);have b7:=hid (Ztk l j t)
   have d : Hid (∀ A, Below _ _ A -> A.ranges _ 3 (plainElem prog 3) _ _ _ D _ _ /\ Hid _ /\ Hid _ /\ A.rangeLeft _ _ = cnt1) := hid (fun A B => by
     have f:=a7.kept (row:=none) ⟨B.os,B.tape,B.output,B.size,fun i hi _=>B.block i hi⟩ (by simp) (by simp);exact⟨f,hid (l.below B),hid (b4.trans (KeepS.ofBelow _ B) (fun _ h _=>h)),f.left_eq⟩)
   have I:=hid a1.left_eq;generalize c.left.getD j 0=lj0 at *
   generalize b8:k.getD j 0=kj at *
   clear b8 HV y M
   go_wp2_with fail
   refine HS.mono ?_;rintro e wq ⟨rfl,rfl⟩;generalize ZK j c.jy=so at *
   cases so with
   | some s=>
    have o:Hid (_=lv):=hid (F.trans (by rw[H.out];simp));simp only[Yb0];go_wp2
    go_roundw
    case rel=>
     obtain⟨f,r,C,h4⟩:=d.out wq (Yaf _ _);exact⟨_,cnt1,f,r,C,congrArg _ o.symm⟩
    case measure=>rw[(d _ (Yaf _ _)).2.2.2,I];exact E
   | none=>
    simp only[Yb7];by_cases N:kj<lj0
    ·have hz:(kj:Int)<lj0:=by omega
     go_wp2_with fail
     refine b7.mono ?_;rintro e A ⟨rfl,a4⟩;have J:=hid a4;clear a4;cases a5:ZeJ X.jx j with
     | true=>
      have o:Hid (_=if lv<(j:Int)then (j:Int)else lv):=hid (F.trans (by rw[H.out,decide_eq_true N,a5];show max lv (j:Int)=_;split <;> omega));go_wp2
      go_roundw
      case rel=>
       obtain⟨f,r,C,h4⟩:=d.out A J.out;exact⟨_,cnt1,f,r,C,congrArg _ o.symm⟩
      case measure=>rw[(d _ J).2.2.2,I];exact E
     | false=>
      have o:Hid (_=lv):=hid (F.trans (by rw[H.out,a5];simp));go_wp2
      go_roundw
      case rel=>
       obtain⟨f,r,C,h4⟩:=d.out A J.out;exact⟨_,cnt1,f,r,C,congrArg _ o.symm⟩
      case measure=>rw[(d _ J).2.2.2,I];exact E
    ·have hz:¬(kj:Int)<lj0:=by omega
     have o:Hid (_=lv):=hid (F.trans (by rw[H,decide_eq_false N];simp));go_wp2
     go_roundw
     case rel=>
      obtain⟨f,r,C,h4⟩:=d.out wq (Yaf _ _);exact⟨_,cnt1,f,r,C,congrArg _ o.symm⟩
     case measure=>rw[(d _ (Yaf _ _)).2.2.2,I];exact E
end
end
section
section
variable {w w' w1 w2:World} {X:CX} {cv iv cv' iv':Value} {c c' d:Cq} {S S1:Nat->Prop} {W:Nat->Cq->Cq} {n:Nat}
def Sml(c:Cq):Prop:=c.jz.length<=1000000/\c.jq.length<=1000000
def cLe(c d:Cq):Prop:=c.jz.length<=d.jz.length/\c.jq.length<=d.jq.length
theorem cLe.refl(c:Cq):cLe c c:=⟨Yac _,Yac _⟩
theorem cLe.trans{e:Cq}(h:cLe c d)(q:cLe d e):cLe c e:=⟨Yah h.1 q.1,Yah h.2 q.2⟩
theorem Sml.of(h:Sml d)(q:cLe c d):Sml c:=⟨Yah q.1 h.1,Yah q.2 h.2⟩
theorem Zeq(op arg:Nat)(c:Cq):cLe c (Zc op arg c):=⟨by simp[Zc],Yac _⟩
theorem ZgP(n s:Nat)(c:Cq):cLe c (ZZ n s c):=⟨by simp[ZZ,Zc],Yac _⟩
theorem Zg4(jx:List Nq)(a:∀c,cLe c (W n c))(c:Cq):cLe c (putQ jx W n c):=by
 unfold putQ;simp only;split
 ·split
  ·exact⟨by simp[Zc],Yac _⟩
  ·exact⟨by simp[Zc],Yac _⟩
 ·split
  ·exact(show cLe c { c with left:=c.left.set n _ } from⟨Yac _,Yac _⟩).trans (a _)
  ·split
   ·exact((show cLe c { c with left:=c.left.set n _ } from⟨Yac _,Yac _⟩).trans (a _)).trans ((ZgP _ _ _).trans (Zeq _ _ _))
   ·exact(show cLe c { c with left:=c.left.set n _ } from⟨Yac _,Yac _⟩).trans (a _)
def ZiO(X:CX)(W:Nat->Cq->Cq)(n:Nat):Prop:=(∀c,cLe c (W n c))/\∀(w:World) (cv iv:Value) (c:Cq),Co w X cv iv c->Sml (W n c)->
 Cz 128 #[Vp X.cb,Vi n] w fun e w'=>e=.returned (.tuple #[])/\Hid (CoP w w' X cv iv (W n c))
theorem Co.leftAt(h:Co w X cv iv c)(a:j<X.jx.length):w.cell? ⟨X.lb,j,none⟩=some (Vi (c.left.getD j 0:Nat)):=Zi h.left j (by
 have:=h.llen;rw[Ya2,List.getElem?_eq_getElem Om];simp[intC,Yaa,show j<c.left.length by omega])
theorem Co.leftSet(h:Co w X cv iv c)(j v:Nat)(m:v<=1000000000):Co (w.setCell ⟨X.lb,j,none⟩ (Vi v)) X cv iv { c with left:=c.left.set j v }/\KeepS (X.chg cv iv) w (w.setCell ⟨X.lb,j,none⟩ (Vi v)):=by
 have N:=h.ne;have a:=KeepS.set w X.lb j (Vi v)
 refine ⟨⟨a.bat h.box N.cl, a.bat h.gbox N.gl, h.gn, a.own h.nrow (fun j g => by injection g with g; subst g; exact N.nl), ?_, h.jy.move (a.block _ h.jy.lt N.ls.symm), h.slen, ?_, a.own h.cons (fun j g e => by subst e; exact N.lcv g), a.own h.jz (fun j g e => by subst e; exact N.liv g), h.ne1, h.ne2, h.bas, Yah h.bsz a.size, h.nsz, h.nok, fun i => by
   show(c.left.set j v).getD i 0<=_;rw[Yaa,Ya0];split
   · split
     · exact m
     · exact Yag _
   · rw[<-Yaa];exact h.lbd i⟩,a.mono (fun k e=>.inr (.inl e))⟩
 ·have:=ZmD h.left j (Vi v);rw[show(c.left.map _).set j _=(c.left.set j v).map _ by rw[Yd8];rfl]at this;exact this
 ·obtain⟨f,l⟩:=h.tak;exact⟨f,l.move (a.block _ l.lt N.lt.symm)⟩
theorem ZjT{base:Nat}{e:TypeId}{g m cp:Nat}{xs:List Value}{sz:Nat}(h:w.ownsRow base e sz (.slice (some ⟨g,0,none⟩) m cp) m xs)(j:Nat):w.frozen? ⟨g,j,none⟩=false:=by
 rcases h.2 with ⟨f,_⟩|⟨g',cap,cur,a,_,i,_⟩
 ·cases f
 ·injection a with a _ _;injection a with a;injection a with a _ _;subst a;simp[World.frozen?,i]
def decL(n:Nat)(c:Cq):Cq:={ c with left:=c.left.set n (c.left.getD n 0 - 1) }
theorem Zd8(h:ZK n c.jy=some s):putQ jx W n c=if (decL n c).left.getD n 0=0 then { Zc 13 s (decL n c)with jy:=c.jy.set s none } else Zc 13 s (decL n c):=by
 unfold putQ;simp only;rw[h];rfl
theorem ZdR(h:ZK n c.jy=none):putQ jx W n c=if (W n (decL n c)).left.getD n 0=0∨ZeJ jx n=false then W n (decL n c)else match ZbQ (W n (decL n c)).jy with
   | some s=>Zc 13 s (ZZ n s (W n (decL n c)))
   | none=>W n (decL n c):=by
 unfold putQ;simp only;rw[h];rfl
theorem Zln(h:Co w X cv iv c):Co w.drew X cv iv c:=h.below (Yaf _ _).drew
theorem ZjZ(hW:ZiO X W n)(h:Co w X cv iv c)(Y:n<X.jx.length)(hs:Sml (putQ X.jx W n c)) :
  Cz 77 #[Vp X.cb,Vi n] w fun e w'=>e=.returned (.tuple #[])/\Hid (CoP w w' X cv iv (putQ X.jx W n c)):=by
 have HW:=hid hW;have b8:(n:Int)<X.jx.length:=by omega
 have b6:=h.nsz;have HC:=hid h;have Z:=hid hs;have lj0:=h.leftAt Y;have hb:=h.lbd n;have z:=hid (h.leftSet n (c.left.getD n 0 - 1) Om);have G:=hid (ZjT h.left n);have m1:w.cell? _=some _:=h.box.cell 1;have a0:=h.box.lt;have a6:=Z1 h.left;generalize a7:c.left.getD n 0=l0 at *
 have a8:max (0) ((l0:Int) - 1)=(l0 - 1:Nat):=by omega
 clear h hs hW;go_enter func77,ntmps77
 go_upto_region 0 with fail
 refine Zbn 15 (fun w'=>w'.cell? _=some _/\w'.cell? _=some _) Kr ⟨m1,lj0⟩ (fun a=>?_);refine Za 0 a (h:=?_);refine Za 1 a (h:=?_);refine Za 2 a (h:=?_);refine Za 3 a (h:=?_);refine Za 4 a (h:=?_);refine Za 5 a (h:=?_);refine Za 6 a (h:=?_);refine Za 7 a (h:=?_);refine Za 8 a (h:=?_);refine Za 9 a (h:=?_);refine Za 10 a (h:=?_);refine Za 11 a (h:=?_);refine Za 12 a (h:=?_);refine Za 13 a (h:=?_);refine Za 14 a (h:=?_);refine Zbl Kr Kr rfl Kr (fun K hK=>?_);have lf:=G.out;have a9:IntKind.i64.wrap ((l0) - 1)=(l0) - 1:=by rw[Ybo];omega
 go_simp;have A:(if 1<(l0:Int)then (l0:Int) - 1 else 0)=((l0 - 1:Nat)):=by split <;> omega
 rw[A];refine hK _ _ ?_;have B:Hid (Co (w.setCell ⟨X.lb,n,none⟩ (Vi (l0 - 1:Nat))).drew X cv iv (decL n c)):=by have:=z.1;rw[<-a7]at this ⊢;exact Zln this
 have H:Hid (KeepS (X.chg cv iv) w (w.setCell ⟨X.lb,n,none⟩ (Vi (l0 - 1:Nat))).drew):=by have:=z.2;exact⟨this.os,this.tape,this.output,this.size,this.block⟩
 clear a hK K lf A z a9 a8 G m1 lj0 a0 a6 HC;generalize(w.setCell ⟨X.lb,n,none⟩ (Vi (l0 - 1:Nat))).drew=w1 at *
 have I:Hid (∀ {g:World} {cz iz:Value} {d:Cq},Co _ X cz iz d->g.cell? _=some _/\X.cb<g.heap.size/\X.lb<g.heap.size/\g.cell? _=some _/\g.cell? _=some _):=hid (fun h=>⟨h.box.cell 1,h.box.lt,Z1 h.left,h.leftAt Y,h.box.cell 2⟩);have J:=hid (Znb B n)
 go_wp2_with fail
 refine J.mono ?_;rintro e wq ⟨rfl,rfl⟩;clear J;cases m:ZK n (decL n c).jy with
 | some s=>
  simp only[Yb0,Ya6];have t:=(Zha m).1;have l:Hid (putQ X.jx W n c=_):=hid (Zd8 m)
  have C:Hid (Sml (Zc 13 s (decL n c))):=by
   have:=Z.out;rw[l]at this;split at this
   ·exact this
   ·exact this
  clear Z m
  go_wp2_with fail
  refine(ZfY B 13 s (Yah (Zeq _ s _).1 C.1)).mono ?_;rintro e w2 ⟨rfl,o⟩;obtain⟨cv2,iv2,p,q,i,j⟩:=o.out;have f:=hid p;have k:Hid (∀ {g:World} {d:Cq},CoP _ g X _ _ d->CoP w _ X _ _ d):=hid (fun h=>CoP.trans H (fun _ h=>.inl h) (fun _ h=>.inl h) (CoP.trans q i j h));clear p q i j o;obtain⟨a1,a2,a3,a4,a5⟩:=I f;obtain⟨w3,b7,L,M⟩:=f.slotDel t;have b0:=hid L;have b1:=hid M;clear L M;generalize u:(Zc 13 s (decL n c)).left.getD n 0=lv at a4;have N:Hid ((decL n c).left.getD n 0=lv):=hid u;clear u;by_cases y:lv=0
  ·subst y;go_wp2;exact bodyPost_ret (results_none rfl _ _ _) rfl ⟨rfl,hid (l.out▸if_pos N.out▸k.out (CoP.of ⟨b0.out,b1.out⟩))⟩
  ·have hz:(lv:Int)≠0:=by omega
   go_wp2;exact bodyPost_ret (results_none rfl _ _ _) rfl ⟨rfl,hid (by rw[l,if_neg (by rwa [N.out])];exact k (CoP.refl f))⟩
 | none=>
  simp only[Yb7];have l:Hid (putQ X.jx W n c=_):=hid (ZdR m)
  have C:Hid (Sml (W n (decL n c))):=by
   refine Z.of ?_;rw[l];split
   ·exact cLe.refl _
   ·split
    ·exact(ZgP _ _ _).trans (Zeq _ _ _)
    ·exact cLe.refl _
  clear m
  go_wp2_with fail
  refine(HW.2 _ _ _ _ B C).mono ?_;rintro e w2 ⟨rfl,o⟩;obtain⟨cv2,iv2,p,q,i,j⟩:=o.out;have f:=hid p;have k:Hid (∀ {g:World} {d:Cq},CoP _ g X _ _ d->CoP w _ X _ _ d):=hid (fun h=>CoP.trans H (fun _ h=>.inl h) (fun _ h=>.inl h) (CoP.trans q i j h));clear p q i j o;obtain⟨a1,a2,a3,a4,a5⟩:=I f;generalize W n (decL n c)=d at *
  by_cases y:d.left.getD n 0=0
  ·rw[y]at a4;go_wp2;exact bodyPost_ret (results_none rfl _ _ _) rfl ⟨rfl,hid (l.out▸if_pos (Or.inl y)▸k.out (CoP.refl f.out))⟩
  ·have b2:=hid y;have u:((d.left.getD n 0):Int)≠0:=by omega
   generalize d.left.getD n 0=lv at a4 u;clear y;have O:=hid (Ztk f n Y)
   go_wp2_with fail
   refine O.mono ?_;rintro e w3 ⟨rfl,D⟩;have r:=hid (f.below D);have v:Hid (∀ {g:World} {e:Cq},CoP _ g X _ _ e->CoP w _ X _ _ e):=hid (fun h=>k (CoP.step D h));clear D a1 a2 a3 a4 a5 f k O;cases E:ZeJ X.jx n with
   | false=>
    go_wp2;exact bodyPost_ret (results_none rfl _ _ _) rfl ⟨rfl,hid (l.out▸if_pos (Or.inr E)▸v.out (CoP.refl r.out))⟩
   | true=>
    have F:=hid (l.trans (if_neg (fun h=>h.elim b2 (fun e=>by rw[E]at e;cases e))));clear E l;have P:=hid (Zps r)
    go_wp2_with fail
    refine P.mono ?_;rintro e w4 ⟨rfl,rfl⟩;clear P;cases x:ZbQ d.jy with
    | none=>
     simp only[Yb7,Yc9];go_wp2;exact bodyPost_end (results_none rfl _ _ _) rfl ⟨rfl,hid (F.out▸x▸v.out (CoP.refl r.out))⟩
    | some s=>
     simp only[Yb0,Ya6];have t:=(ZdZ x).1;have Q:Hid (putQ _ W n c=Zc _ s _):=hid (by rw[F,x]);have R:Hid (Sml (Zc 13 s (ZZ n s d))):=by rwa [<-Q.out]
     clear x F
     go_wp2_with fail
     refine(Zqf r n s (Yah ((ZgP n s d).trans (Zeq _ s _)).1 R.1) t Om).mono ?_;rintro e w5 ⟨rfl,T⟩;obtain⟨cv5,iv5,U,V,i,j⟩:=T.out;have b3:=hid U;have b4:Hid (∀ {g:World} {e:Cq},CoP _ g X _ _ e->CoP w _ X _ _ e):=hid (fun h=>v (CoP.trans V i j h));clear U V i j T v r
     go_wp2_with fail
     refine(ZfY b3 13 s (Yah (Zeq _ s _).1 R.1)).mono ?_;rintro e w6 ⟨rfl,b5⟩;go_wp2;exact bodyPost_end (results_none rfl _ _ _) rfl ⟨rfl,hid (Q.out▸b4.out b5.out)⟩
end
end
section
section
variable {jx:List Nq} {W:Nat->Cq->Cq} {n x:Nat} {c d e:Cq}
structure Low (x:Nat) (c d:Cq):Prop where
 lf:∀y,x<=y->d.left.getD y 0=c.left.getD y 0
 sl:∀s y:Nat,x<=y->(d.jy.getD s none=some (y:Int) ↔ c.jy.getD s none=some (y:Int))
 ll:d.left.length=c.left.length
 ls:d.jy.length=c.jy.length
theorem Low.refl(x:Nat)(c:Cq):Low x c c:=⟨fun _ _=>rfl,fun _ _ _=>Iff.rfl,rfl,rfl⟩
theorem Low.trans(h:Low x c d)(q:Low x d e):Low x c e:=⟨fun y a=>(q.lf y a).trans (h.lf y a),fun s y a=>(q.sl s y a).trans (h.sl s y a),q.ll.trans h.ll,q.ls.trans h.ls⟩
theorem Low.mono{z:Nat}(h:Low x c d)(f:x<=z):Low z c d:=⟨fun y a=>h.lf y Om,fun s y a=>h.sl s y Om,h.ll,h.ls⟩
theorem Low.of(a:d.left=c.left)(f:d.jy=c.jy):Low x c d:=⟨fun _ _=>by rw[a],fun _ _ _=>by rw[f],by rw[a],by rw[f]⟩
theorem Zf2{l:List Nat}{v:Nat}:(l.set s v).getD j 0=if j=s/\s<l.length then v else l.getD j 0:=by
 rw[Yaa,Ya0];by_cases e:s=j
 ·subst e;by_cases h:s<l.length
  ·simp[h]
  ·simp[h,Yaa]
 simp_all;omega
theorem Zc0(l:List (Option Int))(s j:Nat)(v:Option Int):(l.set s v).getD j none=if j=s/\s<l.length then v else l.getD j none:=by
 rw[Yaa,Ya0];by_cases e:s=j
 ·subst e;by_cases h:s<l.length
  ·simp[h]
  ·simp[h,Yaa]
 simp_all;omega
theorem Low.left (h : n < x) (v : Nat) : Low x c { c with left := c.left.set n v } := ⟨fun y a => by
  show(c.left.set n v).getD y 0=_;rw[Zf2,if_neg Om],fun _ _ _=>Iff.rfl,by simp,rfl⟩
theorem Low.slot  {v : Option Int} (h : ∀ y : Nat, x <= y -> c.jy.getD s none ≠ some (y : Int)) (a : ∀ y : Nat, x <= y -> v ≠ some (y : Int)) : Low x c { c with jy := c.jy.set s v } := ⟨fun _ _ => rfl, fun j y f => by
  show(c.jy.set s v).getD j none=_ ↔ _;rw[Zc0];split<;>simp_all,rfl,by simp⟩
theorem Low.emit(x op arg:Nat)(c:Cq):Low x c (Zc op arg c):=Low.of rfl rfl
theorem Zrb{v:Nat}(h:v<x)(a:x<=y):(some (v:Int):Option Int)≠some (y:Int):=fun e=>by simp_all;omega
theorem Low.keep(h:∀y:Nat,x<=y->c.jy.getD s none≠some (y:Int))(a:n<x):Low x c (ZZ n s c):=(Low.emit x _ s c).trans (Low.slot h (fun _ f=>Zrb a f))
theorem ZCm(h:∀s,a.getD s none=some (y:Int) ↔ b.getD s none=some (y:Int)):ZK y a=ZK y b:=by
 unfold ZK
 simp_all
theorem ZmY(i:∀c,c.jy.length=16->Low n c (W n c))(g:c.jy.length=16):Low (n+1) c (putQ jx W n c):=by
 have f:Low (n+1) c (decL n c):=Low.left (Ybd _) _;have h:=f.trans ((i (decL n c) g).mono (Ydp _));cases a:ZK n c.jy with
 | some s=>
  have j:=Zha a;rw[Zd8 a];split
  ·refine(f.trans (Low.emit _ _ s _)).trans (Low.slot (fun y k=>?_) (fun _ _ e=>by cases e));show c.jy.getD s none≠_;rw[j.2]
   simp_all;omega
  ·exact f.trans (Low.emit _ _ s _)
 | none=>
  rw[ZdR a];split
  ·exact h
  ·split
   ·rename_i s a;have l:=ZdZ a;exact(h.trans (Low.keep (fun y _=>by simp_all) (Ybd _))).trans (Low.emit _ _ _ _)
   omega
theorem Zcf (a : NOk jx) (n : Nat) : ∀ t ∈ Zg (jx.getD n nq0), t < n := fun t f => by
  by_cases h:n<jx.length
  · have:=(a n h).low t
    simp_all
  · rw[show jx.getD n _=nq0 by simp[h]]at f
    cases f
theorem Zk9  {f : Nat} (ih : ∀ (n : Nat) (k : List Nat) (y : Nat), n < y -> (cntQ jx sl f n k).getD y 0 = k.getD y 0)  : ∀ (ts : List Nat) (k : List Nat), (∀ t ∈ ts, t < y) -> (ts.foldl (fun k t => cntQ jx sl f t k) k).getD y 0 = k.getD y 0
  | [],_,_=>rfl
  | t::ts,k,h=>by rw[Ybp,Zk9 ih _ _ (fun t a=>h t (Yam _ a)),ih t k y (h t (Yay ..))]
theorem Zog(a:NOk jx)(sl:List (Option Int)):∀(f n:Nat) (k:List Nat) (y:Nat),n<y->(cntQ jx sl f n k).getD y 0=k.getD y 0:=by
 intro f
 induction f with
 | zero=>intro n k y _;rfl
 | succ f ih=>
  intro n k y i;have g:(bump k n).getD y 0=k.getD y 0:=by unfold bump;rw[Zf2,if_neg Om]
  unfold cntQ;simp only;split
  ·exact g
  ·rw[Zk9 ih _ _ (fun t h=>by have:=Zcf a n t h;omega),g]
theorem ZuL(i:NOk jx)(l:∀z,x<z->ZK z a=ZK z b):∀(f n:Nat) (k m:List Nat),k.length=m.length->(∀y,x<=y->k.getD y 0=m.getD y 0)->∀y,x<=y->(cntQ jx a f n k).getD y 0=(cntQ jx b f n m).getD y 0:=by
 intro f
 induction f with
 | zero=>intro n k m _ h y g;exact h y g
 | succ f ih=>
  intro n k m j h y g
  have o : ∀ y, x <= y -> (bump k n).getD y 0 = (bump m n).getD y 0 := fun y g => by
    unfold bump;rw[Zf2,Zf2,j];split
    · rename_i e;rw[h n Om]
    simp_all
  rcases Yav x n with p|p
  ·unfold cntQ;simp only;rw[l n p,o n Om];split
   ·simp_all
   ·have : ∀ (ts k m : List Nat), k.length = m.length -> (∀ y, x <= y -> k.getD y 0 = m.getD y 0) -> ∀ y, x <= y -> (ts.foldl (fun k t => cntQ jx a f t k) k).getD y 0 = (ts.foldl (fun k t => cntQ jx b f t k) m).getD y 0 := by
      intro ts
      induction ts with
      | nil=>simp
      | cons t ts q=>intro k m r h y g;exact q _ _ (by rw[Zi1,Zi1];exact r) (ih t k m r h) y g
    exact this _ _ _ (by rw[ZfT,ZfT];omega) o y g
  ·have e : ∀ (sl : List (Option Int)) (k : List Nat), (cntQ jx sl (f + 1) n k).getD y 0 = (bump k n).getD y 0 := fun sl k => by
     unfold cntQ;simp only;split
     · rfl
     · exact Zk9 (Zog i sl f) _ _ (fun t s=>by have:=Zcf i n t s;omega)
   simp_all
theorem Zxs(a:s<c.jy.length)(j:Nat):(ZZ n s c).jy.getD j none=if j=s then some (n:Int)else c.jy.getD j none:=ZlC s j a
theorem ZB9(p:NOk jx)(G:∀c,c.jy.length=16->Low x c (W x c))(j:c.jy.length=16)(q:ZbY jx n c=some x)(H:ZbQ c.jy=some s)(f:ZbY jx n (ZZ x s (W x { c with jy:=c.jy.set s (some (-1)) }))=some y):y<x:=by
 have a:=ZdZ H;have r:∀y:Nat,(some (-1))≠some (y:Int):=fun y e=>by injection e with e;omega
 have t:Low x c _:=Low.slot (fun y _=>by rw[a.2];simp) (fun y _=>r y);have l:=t.trans (G _ (t.ls.trans j));have m:=l.ls.trans j
 have u : ∀ y : Nat, x <= y -> (W x _).jy.getD s _ ≠ some _ := fun y f e => by
   have:=(l.sl s y f).1 e;rw[a.2]at this;cases this
 have v:Low (x+1) c _:=(l.mono (Ydp _)).trans (Low.keep (fun y f=>u y Om) (Ybd _))
 have w : ZK x (ZZ x s _).jy ≠ none := fun e => by
   unfold ZK at e;rw[Yc2]at e;have:=e s (Yb9.2 a.1);rw[Zxs (m▸a.1)]at this;simp at this
 generalize ZZ x s (W x { c with jy:=c.jy.set s (some (-1)) })=d at *
 rcases Yav y x with A|A
 ·exact A
 exfalso
 unfold ZbY at q f;have g:=(Zjw f)
 unfold ZcX at g;simp only[Yas,decide_eq_true_eq]at g;obtain⟨B,⟨⟨C,h⟩,D⟩,E⟩:=g;rcases Yav x y with o|o
 ·have k:∀z,x<z->ZK z _=ZK z _:=fun z I=>ZCm (fun s=>v.sl s z I);have F:=ZuL p k (n+1) n _ (List.replicate jx.length 0) rfl (fun _ _=>rfl) y Om
  have i:ZcX jx c (cntQ jx c.jy (n+1) n (List.replicate jx.length 0)) y=true:=by
   unfold ZcX;rw[<-F,<-k y o,<-v.lf y o];simp only[Yas,decide_eq_true_eq];exact⟨⟨⟨C,h⟩,D⟩,E⟩
  have:=Zqu q B i;omega
 ·obtain rfl:x=y:=by omega
  rw[Option.isNone_iff_eq_none]at h;exact w h
end
