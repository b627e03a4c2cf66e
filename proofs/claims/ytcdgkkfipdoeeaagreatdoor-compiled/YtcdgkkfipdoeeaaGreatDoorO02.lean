/- Parts. -/
import Derived.Stop.Asserts
import Derived.RowKitTokens
import Derived.Test.YtcdgkkfipdoeeaaGreatDoorO01
import Derived.Maps.Ext
set_option linter.all false
set_option maxRecDepth 100000
set_option maxHeartbeats 16000000
namespace Go.Proofs.YtcdgkkfipdoeeaaGreatDoor
open Go.Proofs.Tryz
open Go.RowKit Go.Extern.Stop Go.Stop Go.Extern LS
variable {ca cb cs tm':Array Value}{D:DataW Unit}{a b l sl:List (Option Int)}{k:List Nat}{jx:List Nq}{c xs:List Value}{base i n pb s sz y:Nat}{p:Nat->Bool}{f g:Nat->Option Int}{z:Nq}{u v:Value}{w:World}
section
def ZoX : Array Value → Sem Value := ReflectliteType.method fun t => do Rtype.noPackHeld "Comparable" t; pure (.bool (← typeInfo t).comparable)
theorem Tryz.isTypeOf(v:Value)(w:World):(Extern.ReflectliteType.typeOf #[.iface 432 v]).run Tryz.prog w=.ok (.iface 209 (.agg #[.pointer (some ⟨20,432,none⟩)])) w:=by kernel_rfl
theorem Tryz.isComparable(w:World):(ZoX #[.agg #[.pointer (some ⟨20,432,none⟩)]]).run Tryz.prog w=.ok (.bool true) w:=by kernel_rfl
theorem Tryz.isMethodComparable (v : Value) (w : World) : (Go.method 562 209 v "Comparable").run Tryz.prog w = .ok (324, v) w := by kernel_rfl
theorem Tryz.isComp:(Tryz.prog.info? 432).map (·.comparable)=some true:=by kernel_rfl
theorem Tryz.isSize:(Tryz.prog.info? 451).map (·.size)=some 1:=by kernel_rfl
theorem Tryz.noIsE(v:Value)(xT:TypeId)(w:World):(Instr.typeAssert (.iface 432 v) xT 211 true).run Tryz.prog w=.ok (.tuple #[.nilIface,.bool false]) w:=run_typeAssert_lacksB Tryz.underlying211 Kr Kr v _ w
theorem Tryz.noUnwrapE(v:Value)(xT:TypeId)(w:World):(Instr.typeAssert (.iface 432 v) xT 214 true).run Tryz.prog w=.ok (.tuple #[.nilIface,.bool false]) w:=run_typeAssert_lacksB Tryz.underlying214 Kr Kr v _ w
theorem Tryz.noUnwrapsE(v:Value)(xT:TypeId)(w:World):(Instr.typeAssert (.iface 432 v) xT 215 true).run Tryz.prog w=.ok (.tuple #[.nilIface,.bool false]) w:=run_typeAssert_lacksB Tryz.underlying215 Kr Kr v _ w
theorem Tryz.noIsW(v:Value)(xT:TypeId)(w:World):(Instr.typeAssert (.iface 81 v) xT 211 true).run Tryz.prog w=.ok (.tuple #[.nilIface,.bool false]) w:=run_typeAssert_lacksB Tryz.underlying211 Kr Kr v _ w
theorem Tryz.hasUnwrapW(v:Value)(xT:TypeId)(w:World):(Instr.typeAssert (.iface 81 v) xT 214 true).run Tryz.prog w=.ok (.tuple #[.iface 81 v,.bool true]) w:=run_typeAssert_hasB Tryz.underlying214 Kr v _ w
theorem Tryz.methodUnwrap (v : Value) (w : World) : (Go.method 562 81 v "Unwrap").run Tryz.prog w = .ok (312, v) w := by kernel_rfl
theorem Zhn (args : Array Value) (w : World) : (callFunc 57 args).run prog w = ((ReflectliteType.typeOf args).run prog w).andThen fun v u => .ok (.value v) u :=
  run_callFunc_extern func57 Kr Kr Kr Kr args w
theorem Zkz (args : Array Value) (w : World) : (callFunc 324 args).run prog w = ((ZoX args).run prog w).andThen fun v u => .ok (.value v) u :=
  run_callFunc_extern func324 Kr Kr Kr Kr args w
theorem Zf7{a:Addr} :
  CP 32 #[.iface 432 (.pointer (some a)),.iface 432 (.pointer (some a))] w fun e u=>e=.returned (.bool true)/\u=w:=by
 obtain⟨i,d,c⟩:=Ybk.1 Tryz.isComp;obtain⟨j,f,g⟩:=Ybk.1 Tryz.isSize;have l:=Zhn;have h:=Zkz;have tT:=Tryz.isTypeOf;have cT:=Tryz.isComparable;have mR:=Tryz.isMethodComparable;have k:=run_eql_iface_ptr_same w a underlying46 underlying432 d c f;go_enter func32,ntmps32;go_wp2;refine wp_loop_rounds 1 ?_;rw[rounds_succ];go_wp2;go_ret;exact⟨rfl,rfl⟩
theorem Zxl{b:Addr} :
  CP 32 #[.nilIface,.iface 432 (.pointer (some b))] w fun e u=>e=.returned (.bool false)/\u=w:=by
 have a:=run_eql_iface_nil_left w 432 (.pointer (some b)) underlying46;go_enter func32,ntmps32;go_wp2;go_ret;exact⟨rfl,rfl⟩
theorem Zxm{a b:Addr}{ta tb:TypeId}(d:a≠b)(g:w.heap[a.block]?=some (.cells ca ta (0,0)))(h:w.heap[b.block]?=some (.cells cb tb (0,0))) :
  CP 32 #[.iface 432 (.pointer (some a)),.iface 432 (.pointer (some b))] w fun e u=>e=.returned (.bool false)/\u=w:=by
 obtain⟨i,k,c⟩:=Ybk.1 Tryz.isComp;obtain⟨j,l,f⟩:=Ybk.1 Tryz.isSize;have o:=Zhn;have m:=Zkz;have tT:=Tryz.isTypeOf;have cT:=Tryz.isComparable;have mR:=Tryz.isMethodComparable;have nE:=Tryz.noIsE;have uE:=Tryz.noUnwrapE;have vE:=Tryz.noUnwrapsE;have nW:=Tryz.noIsW;have uW:=Tryz.hasUnwrapW;have mU:=Tryz.methodUnwrap;have n:=run_eql_iface_ptr_other w underlying46 underlying432 k c l (by rw[f];decide) d g h;go_enter func32,ntmps32;go_wp2;refine wp_loop_rounds 1 ?_;rw[rounds_succ];go_wp2;go_ret;exact⟨rfl,rfl⟩
theorem Zf8{b:Addr}(l:w.cell? ⟨pb,2,none⟩=some (.iface 432 (.pointer (some b)))) :
  CP 32 #[.iface 81 (Vp pb),.iface 432 (.pointer (some b))] w fun e u=>e=.returned (.bool true)/\u=w:=by
 obtain⟨i,c,a⟩:=Ybk.1 Tryz.isComp;obtain⟨j,d,f⟩:=Ybk.1 Tryz.isSize;have m:=Zhn;have g:=Zkz;have tT:=Tryz.isTypeOf;have cT:=Tryz.isComparable;have mR:=Tryz.isMethodComparable;have nE:=Tryz.noIsE;have uE:=Tryz.noUnwrapE;have vE:=Tryz.noUnwrapsE;have nW:=Tryz.noIsW;have uW:=Tryz.hasUnwrapW;have mU:=Tryz.methodUnwrap;have h:=run_eql_iface_ptr_same w b underlying46 underlying432 c a d;have k:=run_eql_iface_types 81 432 (Vp pb) (.pointer (some b)) underlying46 Dc w;go_enter func32,ntmps32;go_wp2;refine wp_loop_rounds 2 ?_;rw[rounds_succ];go_wp2;rw[rounds_succ];go_wp2;go_ret;exact⟨rfl,rfl⟩
theorem Zxn{b a:Addr}{ta tb:TypeId}(p:w.cell? ⟨pb,2,none⟩=some (.iface 432 (.pointer (some a))))(d:a≠b)(g:w.heap[a.block]?=some (.cells ca ta (0,0)))(h:w.heap[b.block]?=some (.cells cb tb (0,0))) :
  CP 32 #[.iface 81 (Vp pb),.iface 432 (.pointer (some b))] w fun e u=>e=.returned (.bool false)/\u=w:=by
 obtain⟨i,k,c⟩:=Ybk.1 Tryz.isComp;obtain⟨j,l,f⟩:=Ybk.1 Tryz.isSize;have q:=Zhn;have m:=Zkz;have tT:=Tryz.isTypeOf;have cT:=Tryz.isComparable;have mR:=Tryz.isMethodComparable;have nE:=Tryz.noIsE;have uE:=Tryz.noUnwrapE;have vE:=Tryz.noUnwrapsE;have nW:=Tryz.noIsW;have uW:=Tryz.hasUnwrapW;have mU:=Tryz.methodUnwrap;have n:=run_eql_iface_ptr_other w underlying46 underlying432 k c l (by rw[f];decide) d g h;have o:=run_eql_iface_types 81 432 (Vp pb) (.pointer (some b)) underlying46 Dc w;go_enter func32,ntmps32;go_wp2;refine wp_loop_rounds 2 ?_;rw[rounds_succ];go_wp2;rw[rounds_succ];go_wp2;go_ret;exact⟨rfl,rfl⟩
open Go.RowKit LS Go.Proofs.Tryz
theorem ZmD{e:TypeId}{g cap:Nat}(h:w.ownsRow base e 1 (.slice (some ⟨g,0,none⟩) n cap) n xs)(i:Nat)(u:Value):(w.setCell ⟨g,i,none⟩ u).ownsRow base e 1 (.slice (some ⟨g,0,none⟩) n cap) n (xs.set i u):=by
 obtain⟨m,h⟩:=h;refine⟨by rwa [Yat],?_⟩;rcases h with ⟨h,_⟩|⟨g',cap',cur,c,d,f,j,k,l,a⟩
 ·cases h
 ·injection c with h1 _ h3;injection h1 with h1;injection h1 with h1;subst h1 h3;refine .inr ⟨g,cap,cur.setIfInBounds i u,rfl,d,?_,j,k,by simpa using l,?_⟩
  ·simp[World.setCell,Ybn,f]
  ·rw[Yej]at a ⊢;rw[<-a,Yeq,List.take_set]
theorem ZB6{c:Nat}(k:Nat){f:Nat->Value}{z:Value}(a:k<c):((List.range k).map f++List.replicate (c - k) z).set k (f k)=(List.range (k+1)).map f++List.replicate (c - (k+1)) z:=by
 have e:c - k=(c - (k+1))+1:=by omega
 rw[e,List.replicate_succ,Yd5 _ _ (by simp),List.range_succ,Yaq,Yan];simp
theorem Tryz.infoInt3:(Tryz.prog.info? 3).map (fun i=>(i.zero,i.size,i.bytes))=some (some (Vi 0),1,8):=by kernel_rfl
theorem Zf9 {t:Int}  : CP 90 #[Vi t] w fun e u => e = .returned (.bool (decide (-1000000 <= t) && decide (t <= 1000000))) /\ u = w := by
  by_cases a : -1000000<=t
  · by_cases c:t<=1000000
    · rw[show(decide _ && decide _)=true by simp;omega]
      go_enter func90,ntmps90;go_wp2;go_ret;exact⟨rfl,rfl⟩
    · rw[show(decide _ && decide _)=false by simp;omega]
      go_enter func90,ntmps90;go_wp2;go_ret;exact⟨rfl,rfl⟩
  · rw[show(decide _ && decide _)=false by simp;omega]
    go_enter func90,ntmps90;go_wp2;go_ret;exact⟨rfl,rfl⟩
open Go.ChangeMaps (setBlock)
section
variable {w w' w1 w2:World} {S S1:Nat->Prop} {b N k:Nat} {f:Nat->Option Int} {v:Int}
structure KeepS (S:Nat->Prop) (w w':World):Prop where
 os:w'.os=w.os
 tape:w'.tape=w.tape
 output:w'.output=w.output
 size:w.heap.size<=w'.heap.size
 block:∀k,k<w.heap.size->¬S k->w'.heap[k]?=w.heap[k]?
theorem KeepS.refl(S:Nat->Prop)(w:World):KeepS S w w:=⟨rfl,rfl,rfl,Yac _,fun _ _ _=>rfl⟩
theorem KeepS.trans(h:KeepS S w w1)(q:KeepS S1 w1 w2)(d:∀j,S1 j->j<w.heap.size->S j):KeepS S w w2:=⟨q.os.trans h.os,q.tape.trans h.tape,q.output.trans h.output,Yah h.size q.size,fun j a c=>(q.block j (Yaw a h.size) (fun e=>c (d j e a))).trans (h.block j a c)⟩
theorem KeepS.grown{r:Option Nat}(h:w.grownBy w' r)(a:∀j,r=some j->S j):KeepS S w w':=⟨h.os,h.tape,h.output,h.size,fun j c d=>h.block j c (fun e=>d (a j e.symm))⟩
theorem KeepS.ofBelow(S:Nat->Prop)(h:BW w w'):KeepS S w w':=⟨h.os,h.tape,h.output,h.size,fun j a _=>h.block j a⟩
theorem KeepS.below{B:Nat}(h:KeepS S w w')(a:∀j,S j->B<=j)(c:B<=w.heap.size):Below B w w':=⟨h.os,h.tape,h.output,h.size,fun j d=>h.block j (Yaw d c) (fun e=>by have:=a j e;omega)⟩
theorem KeepS.bat(h:KeepS S w w'){a:Nat}{t:TypeId}(d:BAt w a c t)(e:¬S a):BAt w' a c t:=(h.block a d.lt e).trans d
theorem KeepS.own(h:KeepS S w w'){e:TypeId}(a:w.ownsRow base e sz u n xs)(d:∀j,u.ownBlock=some j->¬S j):w'.ownsRow base e sz u n xs:=ZdA a (fun j c=>h.block j (a.lt j c).2 (d j c))
def kI(k:Nat):Lit:=.int .i64 (k:Int)
theorem Zjo{a b:Nat}(h:kI a=kI b):a=b:=by
 unfold kI at h;simp_all;omega
theorem Zhl{k:Nat}(a:k<9223372036854775808):(Lit.int .i64 (k:Int)).wf=true:=by
 show(decide (IntKind.i64.min<=(k:Int)) && decide ((k:Int)<=IntKind.i64.max))=true;rw[show IntKind.i64.min=-9223372036854775808 from rfl,show IntKind.i64.max=9223372036854775807 from rfl,Yas]
 simp_all;omega
theorem Zgc{a b:Int}(h:(DataW.lit (.int .i64 a):DataW Unit)=.lit (.int .i64 b)):a=b:=by simp_all
theorem Zjp{k:Nat}(a:k<9223372036854775808):keyOf prog 3 (.int .i64 (k:Int))=some (kI k):=Maps.keyOf_int_mk underlying3 (Zhl a)
theorem intK:Maps.Keyed prog 3:=Maps.int_keyed underlying3
theorem Zz4{R:Value->Option (DataW Unit×List MemPlace)}{kt:TypeId}(h:w.ownsMap prog kt R b n D)(a:Maps.size D<=N):w.ownsMap prog kt R b N D:=by
 obtain⟨es,cl,d,e,g,c⟩:=h;refine⟨es,cl,d,e,?_,c⟩;rw[c]at a;simpa [Maps.size,length_sorted] using a
theorem pig : ∀ (N : Nat) (es : List (Lit × DataW Unit)), es.Pairwise (fun p q => p.1 ≠ q.1) -> (∀ p ∈ es, ∃ k, k < N /\ p.1 = kI k) -> es.length <= N
  | 0,[],_,_=>Yac _
  | 0,p::_,_,h=>by obtain⟨k,g,_⟩:=h p (Yay ..);omega
  | N + 1, es, c, h => by
    have i:=Maps.length_strike (k:=kI N) es c
    have j := pig N (es.filter fun p => !p.1.sameKey (kI N)) (c.filter _) (fun p a => by
      rw[Ycg]at a;obtain⟨k,g,e⟩:=h p a.1;refine⟨k,?_,e⟩;rcases Yav k N with d|d
      · exact d
      · obtain rfl:k=N:=by omega
        rw[e,Ydq (by trivial)]at a
        simp_all)
    split at i <;> omega
def MapZ(w:World)(b N:Nat)(f:Nat->Option Int):Prop:=∃D:DataW Unit,w.ownsMap prog 3 (plainElem prog 3) b N D/\(∀l,Maps.has D l=true->∃k,k<N/\l=kI k)/\∀k,k<N->(f k=none->Maps.has D (kI k)=false)/\∀v,f k=some v->Maps.has D (kI k)=true/\∀z,D.atKey (kI k) z=.lit (.int .i64 v)
theorem MapZ.lt(h:MapZ w b N f):b<w.heap.size:=by obtain⟨D,a,_⟩:=h;exact a.lt
theorem MapZ.move(h:MapZ w b N f)(a:w'.heap[b]?=w.heap[b]?):MapZ w' b N f:=by
 obtain⟨D,⟨es,cl,c,d⟩,e⟩:=h;exact⟨D,⟨es,cl,a.trans c,d⟩,e⟩
theorem MapZ.obj(h:MapZ w b N f):∃es cl,w.heap[b]?=some (.map es cl):=by
 obtain⟨D,⟨es,cl,a,_⟩,_⟩:=h
 simp_all
theorem MapZ.congr(h:MapZ w b N f)(hg:∀k,k<N->g k=f k):MapZ w b N g:=by
 obtain⟨D,a,c,d⟩:=h;exact⟨D,a,c,fun k e=>by simp_all⟩
theorem ZCj(h:w.ownsMap prog 3 (plainElem prog 3) b n D)(d:∀l,Maps.has D l=true->∃k,k<N/\l=kI k):w.ownsMap prog 3 (plainElem prog 3) b N D:=by
 obtain⟨es,rfl,e,a⟩:=h.entries intK;exact Zz4 h (pig N _ e (fun p c=>d _ (Ycz.2 ⟨p,c,Ydq (a p c)⟩)))
theorem MapZ.made(w:World)(N:Nat):MapZ (w.alloc (.map #[] 0)) w.heap.size N (fun _=>none):=⟨.map _,(World.ownsMap_made w _ _ _).mono (Yag _),fun l h=>(by cases h),fun k _=>⟨fun _=>rfl,fun v h=>(by cases h)⟩⟩
theorem MapZ.look(h:MapZ w b N f)(d:k<N)(p:N<9223372036854775808)(W:World)(e:W.heap[b]?=w.heap[b]?):(Instr.lookup 169 (.map (some b)) (.int .i64 (k:Int)) true).run prog W=.ok (.tuple #[.int .i64 ((f k).getD 0),.bool (f k).isSome]) W:=by
 obtain⟨D,g,q,i⟩:=h.move e;obtain⟨v,ps,j,l⟩:=g.look_ok intK underlying169 (zeroValue3 _) (plainElem_int underlying3 Dc) (Zjp (k:=k) Om);obtain⟨c,rfl,m,_⟩:=plainElem_int_inv underlying3 l;have a:D.atKey _ _=.lit _:=congrArg Prod.fst m;rw[j];cases n:f k with
 | none=>
  have o:=(i k d).1 n;rw[Maps.atKey_of_not_has o]at a
  simp_all
 | some u=>
  simp_all
theorem MapZ.get(h:MapZ w b N f)(a:k<N)(m:N<9223372036854775808)(W:World)(d:W.heap[b]?=w.heap[b]?):(Instr.lookup 169 (.map (some b)) (.int .i64 (k:Int)) false).run prog W=.ok (.int .i64 ((f k).getD 0)) W:=by
 obtain⟨D,e,n,g⟩:=h.move d;obtain⟨c,i,j,_⟩:=e.lookup_int intK underlying169 underlying3 (zeroValue3 _) (Zjp (k:=k) Om);rw[i];cases l:f k with
 | none=>
  rw[Maps.atKey_of_not_has ((g k a).1 l)]at j
  simp_all
 | some u=>
  simp_all
theorem MapZ.put(h:MapZ w b N f)(o:k<N)(B:N<9223372036854775807)(p:(Lit.int .i64 v).wf=true)(W:World)(q:W.heap[b]?=w.heap[b]?) :
  ∃c,(Instr.mapUpdate 169 (.map (some b)) (.int .i64 (k:Int)) (.int .i64 v)).run prog W=.ok () c/\MapZ c b N (fun j=>if j=k then some v else f j)/\W.grownBy c (some b):=by
 obtain⟨D,m,C,r⟩:=h.move q;obtain⟨c,s,t,hg⟩:=m.update intK underlying169 (by assumption) (Zjp (k:=k) Om) (plainElem_int underlying3 p);have n:=m.isMap;have i:WideAt.IsKeyLit (kI k):=by trivial
 have a : ∀ l, Maps.has (D.put _ (.lit (.int .i64 v))) l = true -> ∃ j, j < N /\ l = kI j := fun l x => by
   by_cases e:l=kI k
   · exact⟨k,o,e⟩
   · rw[Maps.has_put_other e]at x;simp_all
 refine⟨c,s,⟨_,ZCj t a,a,fun j A=>?_⟩,hg⟩;by_cases e:j=k
 ·subst e;simp only[if_pos];refine⟨fun h=>(by cases h),fun u d=>?_⟩;injection d with d;subst d;exact⟨Maps.has_put_same n i _,fun z=>Maps.atKey_put_same n i _ z⟩
 ·have g:kI j≠kI k:=fun h=>e (Zjo h);simp only[if_neg e];refine⟨fun h=>by rw[Maps.has_put_other g];simp_all,fun u d=>?_⟩;rw[Maps.has_put_other g];exact⟨((r j A).2 u d).1,fun z=>by rw[Maps.atKey_put_other g];simp_all⟩
theorem MapZ.del(h:MapZ w b N f)(g:k<N)(s:N<9223372036854775808)(W:World)(i:W.heap[b]?=w.heap[b]?) :
  ∃a,(∀ty,(Builtin.delete_ #[169,3] ty #[.map (some b),.int .i64 (k:Int)]).run prog W=.ok (.tuple #[]) a)/\MapZ a b N (fun j=>if j=k then none else f j)/\W.grownBy a (some b):=by
 obtain⟨D,m,t,n⟩:=h.move i;obtain⟨a,o,p,hg⟩:=m.drop intK underlying169 (Zjp (k:=k) Om) 0;refine⟨a,fun ty=>o,⟨_,p,fun l q=>?_,fun j r=>?_⟩,hg.grown⟩
 ·by_cases e:l=kI k
  ·exact⟨k,g,e⟩
  ·rw[Maps.has_del_other e]at q;simp_all
 ·by_cases e:j=k
  ·subst e;simp only[if_pos];exact⟨fun _=>Maps.has_del_same,fun u d=>(by cases d)⟩
  ·have c:kI j≠kI k:=fun h=>e (Zjo h);simp only[if_neg e];refine⟨fun h=>by rw[Maps.has_del_other c];simp_all,fun u d=>?_⟩;rw[Maps.has_del_other c];exact⟨((n j r).2 u d).1,fun z=>by rw[Maps.atKey_del_other c];simp_all⟩
theorem MapZ.clear (h : MapZ w b N f) (W : World) (d : W.heap[b]? = w.heap[b]?) : ∃ c, (∀ T, (Builtin.clear_ #[169] T #[.map (some b)]).run prog W = .ok (.tuple #[]) c) /\ MapZ c b N (fun _ => none) /\ W.grownBy c (some b) := by
  obtain⟨es,cl,a⟩:=h.obj;rw[<-d]at a;have g:=(Yae.1 a).1;refine⟨setBlock W b (.map #[] cl),?_,⟨.map _,⟨#[],cl,by simp[setBlock,g],?_,Yag _,rfl⟩,fun l h=>(by cases h),fun k _=>⟨fun _=>rfl,fun v h=>(by cases h)⟩⟩,⟨rfl,rfl,rfl,by simp[setBlock],fun i _ j=>by simp[setBlock,show b≠i from fun e=>j (by rw[e])]⟩⟩
  · intro T
    simp[Builtin.clear_,run_underlying _,Ybt a,Ych _ a,Result.andThen,setBlock]
  · exact⟨by simp,⟨by simp,by simp,by simp⟩,by simp⟩
end
end
section
open Go.RowKit LS Go.Proofs.Tryz
def insC(x:Nat×Nat):List Value:=[Vi x.1,Vi x.2]
def nI:Option Nat->Int
 | none=>-1
 | some n=>n
def nodC(x:Nq):List Value:=[Vi x.op,Vi x.arg,Vi (nI x.fs),Vi (nI x.sn)]
def intC(n:Nat):Value:=Vi (n:Int)
theorem ZgL{α:Type}(g:α->List Value)(s:Nat)(hg:∀x,(g x).length=s):∀(l:List α) (i j:Nat) (a:i<l.length),j<s->(l.flatMap g)[i*s+j]?=(g l[i])[j]?
 | [],i,_,a,_=>absurd a (Ya1 _)
 | x::l,0,j,_,d=>by rw[Ycd,Nat.zero_mul,Ycf,Ybr (by simp_all)];rfl
 | x :: l, i + 1, j, a, d => by
   rw[Ycd,Yb3 (by rw[hg,Yfv];omega),hg,show(i+1)*s+j - s=i*s+j by rw[Yfv];omega];exact ZgL g s hg l i j (by simp_all) d
structure NOne (i:Nat) (x:Nq):Prop where
 low:∀t∈Zg x,t<i
 sn:x.fs=none->x.sn=none
 neg:x.op=4->∃a,x.fs=some a
 or:x.op=10->∃a b,x.fs=some a/\x.sn=some b
 op:x.op<=10
 ar : -1000000000<=x.arg/\x.arg<=1000000000
 nn:x.op≠0->0<=x.arg
def NOk(l:List Nq):Prop:=∀i (h:i<l.length),NOne i l[i]
structure CX where
 base:Nat
 cb:Nat
 gb:Nat
 lb:Nat
 sb:Nat
 tb:Nat
 nb:Nat
 lc:Nat
 nc:Nat
 gc:List Value
 jx:List Nq
def CX.chg(X:CX)(cv iv:Value)(k:Nat):Prop:=k=X.cb∨k=X.lb∨k=X.sb∨k=X.tb∨cv.ownBlock=some k∨iv.ownBlock=some k
def coC(X:CX)(cv iv:Value):List Value:=[Vp X.gb,.slice (some ⟨X.lb,0,none⟩) X.jx.length X.lc,.map (some X.sb),.map (some X.tb),cv,iv]
structure Co (w:World) (X:CX) (cv iv:Value) (c:Cq):Prop where
 box:BAt w X.cb (coC X cv iv) 171
 gbox:BAt w X.gb X.gc 176
 gn:X.gc[2]?=some (.slice (some ⟨X.nb,0,none⟩) X.jx.length X.nc)
 nrow:w.ownsRow X.base 232 4 (.slice (some ⟨X.nb,0,none⟩) X.jx.length X.nc) X.jx.length (X.jx.flatMap nodC)
 left:w.ownsRow X.base 3 1 (.slice (some ⟨X.lb,0,none⟩) X.jx.length X.lc) X.jx.length (c.left.map intC)
 jy:MapZ w X.sb 16 (fun s=>c.jy.getD s none)
 slen:c.jy.length=16
 tak:∃f,MapZ w X.tb X.jx.length f
 cons:w.ownsRow X.base 3 1 cv c.jj.length (c.jj.map (Value.int .i64))
 jq:w.ownsRow X.base 159 2 iv c.jq.length (c.jq.flatMap insC)
 ne1:cv.ownBlock≠some X.lb
 ne2:X.sb≠X.tb
 bas:X.base<=X.cb/\X.base<=X.sb/\X.base<=X.tb
 bsz:X.base<=w.heap.size
 nsz:X.jx.length<=1000000
 nok:NOk X.jx
 lbd:∀j,c.left.getD j 0<=1000000000
section
variable {w w' w1 w2:World} {X:CX} {cv iv cv' iv':Value} {c c':Cq}
theorem Co.llen(h:Co w X cv iv c):c.left.length=X.jx.length:=by have:=h.left.1;simp_all
def ZdM(w:World)(v v':Value):Prop:=∀k,v'.ownBlock=some k->v.ownBlock=some k∨w.heap.size<=k
def CoP(w w':World)(X:CX)(cv iv:Value)(c':Cq):Prop:=∃cv' iv',Co w' X cv' iv' c'/\KeepS (X.chg cv iv) w w'/\ZdM w cv cv'/\ZdM w iv iv'
theorem CoP.refl(h:Co w X cv iv c):CoP w w X cv iv c:=⟨cv,iv,h,KeepS.refl _ _,fun _ h=>.inl h,fun _ h=>.inl h⟩
theorem ZdM.trans {v1 v2:Value} (h : ZdM w v v1) (q : ZdM w1 v1 v2) (e : w.heap.size <= w1.heap.size) : ZdM w v v2 := fun k d => by
  rcases q k d with a|a
  · exact h k a
  omega
theorem CoP.trans{c1:Cq}{cv1 iv1:Value}(a:KeepS (X.chg cv iv) w w1)(f1:ZdM w cv cv1)(f2:ZdM w iv iv1)(q:CoP w1 w2 X cv1 iv1 c1):CoP w w2 X cv iv c1:=by
 obtain⟨cv2,iv2,d,e,f,g⟩:=q;refine⟨cv2,iv2,d,a.trans e (fun j i k=>?_),f1.trans f a.size,f2.trans g a.size⟩;rcases i with h|h|h|h|h|h
 ·exact .inl h
 ·exact .inr (.inl h)
 ·exact .inr (.inr (.inl h))
 ·exact .inr (.inr (.inr (.inl h)))
 ·rcases f1 j h with h|h
  ·exact .inr (.inr (.inr (.inr (.inl h))))
  ·omega
 ·rcases f2 j h with h|h
  ·exact .inr (.inr (.inr (.inr (.inr h))))
  ·omega
theorem Co.keep{S:Nat->Prop}(h:Co w X cv iv c)(a:KeepS S w w')(g:¬S X.cb)(i:¬S X.gb)(p:¬S X.nb)(q:¬S X.lb)(l:¬S X.sb)(m:¬S X.tb)(n:∀k,cv.ownBlock=some k->¬S k)(o:∀k,iv.ownBlock=some k->¬S k):Co w' X cv iv c:=
 ⟨a.bat h.box g, a.bat h.gbox i, h.gn, a.own h.nrow (fun j d => by injection d with d; simp_all), a.own h.left (fun j d => by injection d with d; simp_all), h.jy.move (a.block _ h.jy.lt l), h.slen, by
   obtain⟨f,e⟩:=h.tak;exact⟨f,e.move (a.block _ e.lt m)⟩,a.own h.cons n,a.own h.jq o,h.ne1,h.ne2,h.bas,Yah h.bsz a.size,h.nsz,h.nok,h.lbd⟩
theorem Co.below(h:Co w X cv iv c)(a:BW w w'):Co w' X cv iv c:=h.keep (KeepS.ofBelow _ a) id id id id id id (fun _ _=>id) (fun _ _=>id)
theorem ZbU {a k : Nat} {es : Array MapEntry} {cl : Nat}  {T : TypeId} {fr : Nat × Nat} (h : w.heap[a]? = some (.map es cl)) (q : w.heap[k]? = some (.cells cs T fr)) : a ≠ k := fun e => by
  simp_all
theorem Zcw{e:TypeId}(h:w.ownsRow base e sz v n xs){k:Nat}(a:v.ownBlock=some k):∃cs fr,w.heap[k]?=some (.cells cs e fr):=by
 rcases h.2 with ⟨d,_⟩|⟨g,cap,cur,f,_,hg,_⟩
 ·rw[d]at a;cases a
 ·rw[f]at a;injection a with a
  simp_all
theorem Zc7{k:Nat}{cs':Array Value}{T T':TypeId}{fr fr':Nat×Nat}(h:w.heap[k]?=some (.cells cs T fr))(q:w.heap[k]?=some (.cells cs' T' fr')):T=T':=by
 simp_all
structure CoN (X:CX) (cv iv:Value):Prop where
 cg:X.cb≠X.gb
 cn:X.cb≠X.nb
 cl:X.cb≠X.lb
 cs:X.cb≠X.sb
 ct:X.cb≠X.tb
 cc:cv.ownBlock≠some X.cb
 ci:iv.ownBlock≠some X.cb
 gl:X.gb≠X.lb
 gs:X.gb≠X.sb
 gt:X.gb≠X.tb
 gcv:cv.ownBlock≠some X.gb
 giv:iv.ownBlock≠some X.gb
 nl:X.nb≠X.lb
 ns:X.nb≠X.sb
 nt:X.nb≠X.tb
 ncv:cv.ownBlock≠some X.nb
 niv:iv.ownBlock≠some X.nb
 ls:X.lb≠X.sb
 lt:X.lb≠X.tb
 lcv:cv.ownBlock≠some X.lb
 liv:iv.ownBlock≠some X.lb
 st:X.sb≠X.tb
 scv:cv.ownBlock≠some X.sb
 siv:iv.ownBlock≠some X.sb
 tcv:cv.ownBlock≠some X.tb
 tiv:iv.ownBlock≠some X.tb
 civ:∀k,cv.ownBlock=some k->iv.ownBlock≠some k
theorem Co.ne(h:Co w X cv iv c):CoN X cv iv:=by
 obtain⟨nc,nf,i⟩:=Zcw h.nrow rfl;obtain⟨lc,lf,j⟩:=Zcw h.left rfl;obtain⟨e1,c1,l⟩:=h.jy.obj;obtain⟨f,p⟩:=h.tak;obtain⟨e2,c2,m⟩:=p.obj;have g:=h.box;have hg:=h.gbox;have C:∀ {k},cv.ownBlock=some k->∃cs fr,w.heap[k]?=some (.cells cs 3 fr):=fun d=>Zcw h.cons d;have I:∀ {k},iv.ownBlock=some k->∃cs fr,w.heap[k]?=some (.cells cs 159 fr):=fun d=>Zcw h.jq d;have T:∀ {a k:Nat} {cs cs':Array Value} {T T':TypeId} {fr fr':Nat×Nat},w.heap[a]?=some (.cells cs T fr)->w.heap[k]?=some (.cells cs' T' fr')->T≠T'->a≠k:=fun n q o e=>by simp_all
 have CT:∀ {a:Nat} {cs:Array Value} {T':TypeId} {fr:Nat×Nat},w.heap[a]?=some (.cells cs T' fr)->T'≠3->cv.ownBlock≠some a:=fun n o d=>by simp_all
 have IT:∀ {a:Nat} {cs:Array Value} {T':TypeId} {fr:Nat×Nat},w.heap[a]?=some (.cells cs T' fr)->T'≠159->iv.ownBlock≠some a:=fun n o d=>by simp_all
 have CM:∀ {a:Nat} {es:Array MapEntry} {cl:Nat},w.heap[a]?=some (.map es cl)->cv.ownBlock≠some a:=fun n d=>by simp_all
 have IM:∀ {a:Nat} {es:Array MapEntry} {cl:Nat},w.heap[a]?=some (.map es cl)->iv.ownBlock≠some a:=fun n d=>by simp_all
 exact ⟨T g hg Dc, T g i Dc, T g j Dc, (ZbU l g).symm, (ZbU m g).symm, CT g Dc, IT g Dc, T hg j Dc, (ZbU l hg).symm, (ZbU m hg).symm, CT hg Dc, IT hg Dc, T i j Dc, (ZbU l i).symm, (ZbU m i).symm, CT i Dc, IT i Dc, (ZbU l j).symm, (ZbU m j).symm, h.ne1, IT j Dc, h.ne2, CM l, IM l, CM m, IM m, fun k d r => by
   obtain⟨_,_,n⟩:=C d
   simp_all⟩
end
end
section
open Go.RowKit LS Go.Proofs.Tryz
section
variable {w w' w1 w2:World} {X:CX} {cv iv cv' iv':Value} {c c':Cq} {S S1:Nat->Prop}
theorem Tryz.infoIns2:(Tryz.prog.info? 159).map (fun i=>(i.zero,i.size,i.bytes))=some (some (.agg #[Vi 0,Vi 0]),2,16):=by kernel_rfl
theorem KeepS.mono(h:KeepS S w w')(a:∀k,S k->S1 k):KeepS S1 w w':=⟨h.os,h.tape,h.output,h.size,fun k d e=>h.block k d (fun f=>e (a k f))⟩
theorem KeepS.set(w:World)(a i:Nat)(v:Value):KeepS (fun k=>k=a) w (w.setCell ⟨a,i,none⟩ v):=KeepS.grown (ZA (ZbM w _) (.inl rfl) _) (fun _ e=>(Yax e).symm)
theorem KeepS.and(h:KeepS S w w1)(q:KeepS S1 w1 w2):KeepS (fun k=>S k∨S1 k) w w2:=(h.mono (fun _=>.inl)).trans (q.mono (fun _=>.inr)) (fun _ h _=>h)
theorem BAt.setC{a:Nat}{l:List Value}{t:TypeId}(h:BAt w a l t)(i:Nat)(v:Value):BAt (w.setCell ⟨a,i,none⟩ v) a (l.set i v) t:=by
 unfold BAt at h ⊢;simp only[World.setCell,Ybn,h,if_true,Ybf];show some (Obj.cells (l.toArray.setIfInBounds i v) t (0,0))=_;rw[Yc4]
theorem Zk4 {l : List Value} {t : TypeId} : ∀ j u, l[j]? = some u -> (w.alloc (.cells ⟨l⟩ t)).cell? ((⟨w.heap.size, 0, none⟩ : Addr).add j) = some u := fun j u h => by
  rw[ZfO];exact((show BAt _ _ l t from bnw).cell j).trans h
theorem Zwk{α:Type}(g:α->List Value)(l:List α)(x:α):(l++[x]).flatMap g=l.flatMap g++g x:=by simp
theorem CoP.step(a:BW w w1)(q:CoP w1 w2 X cv iv c):CoP w w2 X cv iv c:=CoP.trans (KeepS.ofBelow _ a) (fun _ h=>.inl h) (fun _ h=>.inl h) q
theorem Co.insApp(h:Co w X cv iv c){na:Option Addr}{nn nc:Nat}(i:c'.left=c.left/\c'.jy=c.jy/\c'.jj=c.jj)(hg:w.grownBy w1 iv.ownBlock)(p:ZdM w iv (.slice na nn nc))(n:w1.ownsRow X.base 159 2 (.slice na nn nc) c'.jq.length (c'.jq.flatMap insC)) :
  BAt w1 X.cb (coC X cv iv) 171/\CoP w (w1.setCell ⟨X.cb,5,none⟩ (.slice na nn nc)) X cv iv c':=by
 have N:=h.ne;have m:=KeepS.grown hg (fun _ e=>e);have l:=m.bat h.box N.ci;have a:=m.and (KeepS.set _ X.cb 5 (.slice na nn nc));have g:∀ {k:Nat},iv.ownBlock≠some k->k≠X.cb->¬(iv.ownBlock=some k∨k=X.cb):=fun q r s=>s.elim q r;refine⟨l,cv,.slice _ _ _,⟨l.setC 5 _,a.bat h.gbox (g N.giv N.cg.symm),h.gn,a.own h.nrow (fun j d=>by injection d with d;subst d;exact g N.niv N.cn.symm),?_,?_,i.2.1▸h.slen,?_,?_,?_,N.lcv,h.ne2,h.bas,Yah h.bsz a.size,h.nsz,h.nok,i.1▸h.lbd⟩,a.mono (fun k m=>m.elim (fun e=>.inr (.inr (.inr (.inr (.inr e))))) .inl),fun _ h=>.inl h,p⟩
 ·rw[i.1];exact a.own h.left (fun j d=>by injection d with d;subst d;exact g N.liv N.cl.symm)
 ·rw[i.2.1];exact h.jy.move (a.block _ h.jy.lt (g N.siv N.cs.symm))
 ·obtain⟨f,o⟩:=h.tak;exact⟨f,o.move (a.block _ o.lt (g N.tiv N.ct.symm))⟩
 ·rw[i.2.2];exact a.own h.cons (fun j d=>g (N.civ j d) (fun e=>by subst e;exact N.cc d))
 ·exact(KeepS.set _ _ 5 _).own n (fun j d e=>by subst e;exact absurd (Zcx n l Dc) (fun h=>h d.symm))
theorem ZfY(h:Co w X cv iv c)(op arg:Nat)(D:c.jq.length<=1000000) :
  CP 127 #[Vp X.cb,Vi op,Vi arg] w fun e w'=>e=.returned (.tuple #[])/\Hid (CoP w w' X cv iv (Zc op arg c)):=by
 obtain⟨i0,E,r,s,t⟩:=info_parts Tryz.infoIns2;have v:=hid h;have i:Hid (∀o,Co (w.alloc o) X _ _ c):=hid (fun o=>v.below Zbal);obtain⟨ia,ic,x⟩:=Zl h.jq;subst x;have d:=h.jq;have m5:w.cell? _=some _:=h.box.cell 5;have j:=h.box.lt;have H:=h.bsz;obtain⟨n,q⟩:∃n,n=c.jq.length:=⟨_,rfl⟩
 rw[<-q]at d m5 D v i ⊢;have F:=hid q;clear h q;go_enter func127,ntmps127
 go_wp2_with (at_builtin;refine wpList_append_own_at _ rfl (.tmp 10) (.tmp 14) 57 rfl X.base 159 i0 (.agg #[Vi 0,Vi 0]) 2 16 underlying57 E r s t rfl Dc _ _ _ rfl (d.alloc _) ⟨w.heap.size,0,none⟩ 1 1 (insC (op,arg)) rfl rfl Zk4 ?c2 ?c3 ?c4 ?c5 ?_)
 case c2=>intro u z;simp[insC]at z;rcases z with rfl|rfl <;> rfl
 case c3=>unfold maxLen;omega
 case c4=>omega
 case c5=>simp;omega
 intro v' G a f _ l;obtain⟨g3,cp3,A⟩:=ZF a Om;subst A
 obtain ⟨m, p⟩ := (i.out _).insApp (c' := Zc op arg c) ⟨rfl, rfl, rfl⟩ f (fun k B => l.elim (fun e => Or.inl (e.symm.trans B)) (fun e => Or.inr (by have := Yax (e.symm.trans B); simp; omega))) (by
   show G.ownsRow _ _ _ _ (c.jq++[(op,arg)]).length ((c.jq++[(op,arg)]).flatMap insC);rw[Zwk,Yab,<-F.out];exact a)
 have g:=hid m;have C:=hid (CoP.step Zbal p);clear a f m p m5 d j l;have m5:=g.cell 5;have mf:=g.frozen 5;have j:=g.lt;simp only[coC,Ye8,Ycy]at m5;go_wp2;exact bodyPost_end (results_none rfl _ _ _) rfl ⟨rfl,C⟩
theorem Zha(h:ZK n l=some s):s<16/\l.getD s none=some (n:Int):=by
 unfold ZK at h;have a:=List.find?_some h;have d:=Yex h;exact⟨Yb9.1 d,by simpa using a⟩
theorem ZdZ(h:ZbQ l=some s):s<16/\l.getD s none=none:=by
 unfold ZbQ at h;have a:=List.find?_some h;have d:=Yex h;exact⟨Yb9.1 d,by simpa using a⟩
theorem Zpj {p : Nat -> Bool} : ∀ {m k : Nat}, k <= m -> (∀ j, j < k -> p j = false) -> (List.range m).find? p = if k < m /\ p k = true then some k else (List.range m).find? p := fun {m k} e h => by
  split
  · rename_i a
    rw[List.find?_range_eq_some];exact⟨a.2,Yb9.2 a.1,fun j d=>by rw[h j d];rfl⟩
  · rfl
theorem Znb(h:Co w X cv iv c)(n:Nat) :
  CP 126 #[Vp X.cb,Vi n] w fun e w'=>e=.returned (.tuple #[Vi ((ZK n c.jy).getD 0:Nat),.bool (ZK n c.jy).isSome])/\w'=w:=by
 have m2:w.cell? _=some _:=h.box.cell 2;have z:=h.box.lt;have v:Hid (∀k:Nat,k<16->(Instr.lookup _ _ _ _).run _ w=.ok _ w):=hid (fun k q=>h.jy.look q Dc w rfl);clear h;go_enter func126,ntmps126;go_wp2
 go_loopw [9] (fun i wr=>wr=w/\∃k:Nat,k<=16/\i=Vi k/\Hid (∀j,j<k->c.jy.getD j none≠some (n:Int))) (fun i _=>16 - (intOf i).toNat)
 case atStart=>exact⟨rfl,0,by omega,rfl,hid (fun j g=>by omega)⟩
 case round=>
  obtain⟨rfl,k,q,rfl,l⟩:=hrel;by_cases m:k<16
  ·have A:(k:Int)<16:=by omega
   have a:=v k m
   have r:Hid (ZK n c.jy=if c.jy.getD k _=some _ then some k else ZK n c.jy):=hid (by
    have:=Zpj q (fun j g=>decide_eq_false (l j g));simpa [ZK,m] using this)
   generalize o:c.jy.getD k none=sl at a r;have p:=hid o;clear o;cases sl with
   | none=>
    simp only[Yc9,Yb7]at a;go_wp2
    go_roundw
    case rel => exact ⟨trivial, k + 1, by omega, by simp, hid (fun j g => by
      rcases Yav j k with d|d
      · exact l j d
      · obtain rfl:j=k:=by omega
        rw[p];simp)⟩
    case measure=>simp[intOf];omega
   | some u=>
    simp only[Ya6,Yb0]at a;by_cases t:u=(n:Int)
    ·subst t;have f:Hid (ZK n _=some k):=hid (by rw[r,if_pos rfl]);clear r;go_wp2;go_ret2;rw[f];exact⟨rfl,rfl⟩
    ·go_wp2
     go_roundw
     case rel => exact ⟨trivial, k + 1, by omega, by simp, hid (fun j g => by
       rcases Yav j k with d|d
       · exact l j d
       · obtain rfl:j=k:=by omega
         rw[p];simpa using t)⟩
     case measure=>simp[intOf];omega
  ·obtain rfl:k=16:=by omega
   have f:Hid (ZK n c.jy=none):=by
    unfold ZK;rw[Yc2];intro s x;simpa using l s (Yb9.1 x)
   go_wp2;go_ret2;rw[f];exact⟨rfl,rfl⟩
theorem Zps(h:Co w X cv iv c) :
  CP 130 #[Vp X.cb] w fun e w'=>e=.returned (.tuple #[Vi ((ZbQ c.jy).getD 0:Nat),.bool (ZbQ c.jy).isSome])/\w'=w:=by
 have m2:w.cell? _=some _:=h.box.cell 2;have v:=h.box.lt;have r:Hid (∀k:Nat,k<16->(Instr.lookup _ _ _ _).run _ w=.ok _ w):=hid (fun k l=>h.jy.look l Dc w rfl);clear h;go_enter func130,ntmps130;go_wp2
 go_loopw [7] (fun i wr=>wr=w/\∃k:Nat,k<=16/\i=Vi k/\Hid (∀j,j<k->c.jy.getD j none≠none)) (fun i _=>16 - (intOf i).toNat)
 case atStart=>exact⟨rfl,0,by omega,rfl,hid (fun j m=>by omega)⟩
 case round=>
  obtain⟨rfl,k,l,rfl,n⟩:=hrel;by_cases f:k<16
  ·have x:(k:Int)<16:=by omega
   have a:=r k f
   have o:Hid (ZbQ c.jy=if c.jy.getD k _=none then some k else ZbQ c.jy):=hid (by
    have:=Zpj l (fun j m=>decide_eq_false (n j m));simpa [ZbQ,f] using this)
   generalize g:c.jy.getD k none=sl at a o;have p:=hid g;clear g;cases sl with
   | none=>
    simp only[Yc9,Yb7]at a;have d:Hid (ZbQ _=some k):=hid (by rw[o,if_pos rfl]);clear o;go_wp2;go_ret2;rw[d];exact⟨rfl,rfl⟩
   | some u=>
    simp only[Ya6,Yb0]at a;go_wp2
    go_roundw
    case rel => exact ⟨trivial, k + 1, by omega, by simp, hid (fun j m => by
      rcases Yav j k with q|q
      · exact n j q
      · obtain rfl:j=k:=by omega
        rw[p];simp)⟩
    case measure=>simp[intOf];omega
  ·obtain rfl:k=16:=by omega
   have d:Hid (ZbQ c.jy=none):=by
    unfold ZbQ;rw[Yc2];intro s t;simpa using n s (Yb9.1 t)
   go_wp2;go_ret2;rw[d];exact⟨rfl,rfl⟩
end
end
section
open Go.RowKit LS Go.Proofs.Tryz
section
variable {P:Program} {ops:Array Oper} {Q:Exit->Act->World->Prop} {md:Region.Mode} {S:World->Prop} {k:Nat}
theorem Za (i : Nat) {d : Nat} {oi : Oper}  {f : Nat} {ls ls' : Array Bool} {a : Act}   (e : S w) (g : ops[i]? = some oi := by rfl) (hd : oi.dst = some d := by rfl) (j : (Region.noSelect ops && Region.free md ops ls i && (Region.ready md ops ls).contains i && Zhk md ops i ops.size k && ZfE md ops ls && i != k) = true := by kernel_rfl)
    (l:∀c a w,Q (.panic c) (a.put oi.dst v) w->Q (.panic c) a w:=by exact fun _ _ _ h=>h) (m:YieldsIf P ops S oi v a:=by(refine Or.inl ⟨by rfl,?_⟩;intro w hSw;go_simp;try with_reducible rfl)) (n:ls.setIfInBounds i true=ls':=by(try simp only[Zset]);rfl) (o:a.tmps.setIfInBounds d v=tm':=by(try simp only[Zset]);rfl)
    (h:ZcJ P md ops Q S k f ls' { a with tmps:=tm' } w):ZcJ P md ops Q S k (f+1) ls a w:=by
  subst n o;exact ZeD g hd j l m e h
end
end
section
open Go.RowKit LS Go.Proofs.Tryz
section
variable {w w' w1 w2:World} {X:CX} {cv iv cv' iv':Value} {c c':Cq} {S S1:Nat->Prop}
theorem ZlC(s j:Nat){x:Option Int}(h:s<l.length):(l.set s x).getD j none=if j=s then x else l.getD j none:=by
 rw[Yaa,Ya0];by_cases e:s=j
 ·subst e;simp[h]
 ·simp[e,Ycp e,Yaa]
theorem Co.slotUpd (h : Co w X cv iv c) (hg : w.grownBy w' (some X.sb)) (l : MapZ w' X.sb 16 (fun s => c'.jy.getD s none)) (m : c'.jy.length = 16) (g : c'.left = c.left /\ c'.jj = c.jj /\ c'.jq = c.jq) : Co w' X cv iv c' /\ KeepS (X.chg cv iv) w w' := by
  have N:=h.ne;have d:=KeepS.grown hg (fun _ e=>(Yax e).symm);refine⟨⟨d.bat h.box N.cs,d.bat h.gbox N.gs,h.gn,d.own h.nrow (fun j a=>by injection a with a;subst a;exact N.ns),?_,l,m,?_,?_,?_,h.ne1,h.ne2,h.bas,Yah h.bsz d.size,h.nsz,h.nok,g.1▸h.lbd⟩,d.mono (fun k e=>.inr (.inr (.inl e)))⟩
  · rw[g.1];exact d.own h.left (fun j a=>by injection a with a;subst a;exact N.ls)
  · obtain⟨f,i⟩:=h.tak
    exact⟨f,i.move (d.block _ i.lt N.st.symm)⟩
  · rw[g.2.1];exact d.own h.cons (fun j a e=>by subst e;exact N.scv a)
  · rw[g.2.2];exact d.own h.jq (fun j a e=>by subst e;exact N.siv a)
theorem CoP.of(h:Co w' X cv iv c/\KeepS (X.chg cv iv) w w'):CoP w w' X cv iv c:=⟨cv,iv,h.1,h.2,fun _ h=>.inl h,fun _ h=>.inl h⟩
theorem Co.slotSet(h:Co w X cv iv c)(a:s<16){v:Int}(d:(Lit.int .i64 v).wf=true) :
  ∃w',(Instr.mapUpdate 169 (.map (some X.sb)) (Vi (s:Int)) (Vi v)).run prog w=.ok () w'/\Co w' X cv iv { c with jy:=c.jy.set s (some v) }/\KeepS (X.chg cv iv) w w':=by
 obtain⟨w',e,f,hg⟩:=h.jy.put a Dc d w rfl;refine⟨w',e,h.slotUpd hg (f.congr (fun k _=>?_)) ?_ ⟨rfl,rfl,rfl⟩⟩
 ·exact ZlC s k (by rwa [h.slen])
 ·show(c.jy.set s (some v)).length=16;rw[Yat];exact h.slen
theorem Co.slotDel(h:Co w X cv iv c)(a:s<16) :
  ∃w',(∀ty,(Builtin.delete_ #[169,3] ty #[.map (some X.sb),Vi (s:Int)]).run prog w=.ok (.tuple #[]) w')/\Co w' X cv iv { c with jy:=c.jy.set s none }/\KeepS (X.chg cv iv) w w':=by
 obtain⟨w',d,e,hg⟩:=h.jy.del a Dc w rfl;refine⟨w',d,h.slotUpd hg (e.congr (fun k _=>?_)) ?_ ⟨rfl,rfl,rfl⟩⟩
 ·exact ZlC s k (by rwa [h.slen])
 ·show(c.jy.set s none).length=16;rw[Yat];exact h.slen
theorem Zqf(h:Co w X cv iv c)(n s:Nat)(l:c.jq.length<=1000000)(m:s<16)(q:n<=1000000) :
  CP 131 #[Vp X.cb,Vi n,Vi s] w fun e w'=>e=.returned (.tuple #[])/\Hid (CoP w w' X cv iv (ZZ n s c)):=by
 have i:=hid (ZfY h 12 s l);clear h;go_enter func131,ntmps131
 go_wp2_with fail
 refine i.mono ?_;rintro e w1 ⟨rfl,j⟩;obtain⟨cv1,iv1,a,g,d,f⟩:=j.out;have a:=hid a;have g:=hid g;have d:=hid d;have f:=hid f;clear j i;obtain⟨w2,r,k⟩:=a.slotSet m (v:=n) (Zhl Om);have o:=hid k;clear k;have m2:w1.cell? _=some _:=a.box.cell 2;have p:=a.box.lt;go_wp2;exact bodyPost_end (results_none rfl _ _ _) rfl ⟨rfl,hid (CoP.trans g d f (CoP.of o))⟩
theorem Co.node(h:Co w X cv iv c)(a:n<X.jx.length):w.cell? ⟨X.nb,n*4,none⟩=some (Vi (X.jx.getD n nq0).op)/\w.cell? ⟨X.nb,n*4+1,none⟩=some (Vi (X.jx.getD n nq0).arg)/\w.cell? ⟨X.nb,n*4+2,none⟩=some (Vi (nI (X.jx.getD n nq0).fs))/\w.cell? ⟨X.nb,n*4+3,none⟩=some (Vi (nI (X.jx.getD n nq0).sn)):=by
 have g : ∀ j, j < 4 -> (X.jx.flatMap nodC)[n * 4 + j]? = (nodC (X.jx.getD n nq0))[j]? := fun j d => by
   rw[ZgL nodC 4 (fun _=>rfl) X.jx n j a d];simp[a]
 exact⟨Zi h.nrow _ _ (g 0 Dc),Zi h.nrow _ _ (g 1 Dc),Zi h.nrow _ _ (g 2 Dc),Zi h.nrow _ _ (g 3 Dc)⟩
theorem Co.nodeOk(h:Co w X cv iv c)(a:n<X.jx.length):NOne n (X.jx.getD n nq0):=by
 have:=h.nok n a;simpa [a] using this
def TkR(w w':World)(l:List Nat)(v:Value):Prop:=∃a k,v=.slice a l.length k/\(0<l.length->∃b,a=some ⟨b,0,none⟩/\w.heap.size<=b/\b<w'.heap.size/\∀j (hj:j<l.length),w'.cell? ⟨b,j,none⟩=some (intC l[j]))
theorem Znp(x:Nq)(f:x.fs=none->x.sn=none) :
  CP 179 #[.agg #[Vi x.op,Vi x.arg,Vi (nI x.fs),Vi (nI x.sn)]] w fun e w'=>∃v,e=.returned v/\BW w w'/\Hid (TkR w w' (Zg x) v):=by
 obtain⟨op,arg,fs,sn⟩:=x;cases fs with
 | none=>
  obtain rfl:sn=none:=f rfl;go_enter func179,ntmps179;simp only[nI];go_wp2;go_ret;exact⟨_,rfl,belB,hid ⟨_,_,rfl,fun h=>absurd h (by simp[Zg])⟩⟩
 | some a=>
  have g:(a:Int)≠-1:=by omega
  cases sn with
  | none=>
   go_enter func179,ntmps179;simp only[nI];go_wp2;go_ret;refine⟨_,rfl,belB,hid ⟨_,_,rfl,fun h=>⟨_,rfl,by simp,by simp,fun j d=>?_⟩⟩⟩;obtain rfl:=by simp[Zg]at d;omega
   simp[Zg,intC]
  | some b=>
   have i:(b:Int)≠-1:=by omega
   go_enter func179,ntmps179;simp only[nI];go_wp2;go_ret;refine⟨_,rfl,belB,hid ⟨_,_,rfl,fun h=>⟨_,rfl,by simp,by simp,fun j d=>?_⟩⟩⟩;rcases(by simp[Zg]at d;omega:j=0∨j=1)with rfl|rfl <;> simp[Zg,intC]
theorem Ztk(h:Co w X cv iv c)(n:Nat)(v:n<X.jx.length) :
  CP 129 #[Vp X.cb,Vi n] w fun e w'=>e=.returned (.bool (ZeJ X.jx n))/\BW w w':=by
 have m0:w.cell? _=some _:=h.box.cell 0;have g2:=(h.gbox.cell 2).trans h.gn;have C:=h.box.lt;have D:=h.gbox.lt;have j:=Z1 h.nrow;have E:(n:Int)<X.jx.length:=by omega
 obtain⟨q0,q1,q2,q3⟩:=h.node v;have p:=hid (h.nodeOk v);have z:=hid (fun k O=>h.node (n:=k) O);have i:Hid (ZeJ X.jx n=decide _):=hid rfl;obtain⟨x,F⟩:∃x,x=X.jx.getD n nq0:=⟨_,rfl⟩
 rw[<-F]at q0 q1 q2 q3 p i;clear h F;obtain⟨L,A⟩:∃L,L=X.jx.length:=⟨_,rfl⟩
 rw[<-A]at g2 E v;have P:=hid A;clear A;go_enter func129,ntmps129;by_cases q:x.op=4
 ·obtain⟨a,r⟩:=p.neg q
  have G:a<L:=by
   have:=p.low a (by unfold Zg;rw[r];cases x.sn <;> simp);omega
  have T:(a:Int)<L:=by omega
  rw[r]at q2;simp only[nI]at q2;obtain⟨p0,p1,p2,p3⟩:=z.out a (by rw[<-P.out];exact G);rw[q]at q0;have l:Hid (ZeJ X.jx n=decide ((X.jx.getD a nq0).op≠0/\(X.jx.getD a nq0).op≠1)):=by rw[i,if_pos q,r];rfl
  clear i p r q z;obtain⟨y,H⟩:∃y,y=X.jx.getD a nq0:=⟨_,rfl⟩
  rw[<-H]at p0 p1 p2 p3 l;clear H;generalize Q:nI x.sn=xs at q3;generalize I:nI y.sn=y3 at p3;generalize J:nI y.fs=y2 at p2;clear Q I J
  go_upto_region 3 with fail
  refine ZP fun W B=>?_;have s:BW w W:=B▸belB;have t:Hid (BAt W _ _ 232):=B▸(show BAt _ _ _ _ from bnw);have g:=hid s.drew;have f:Hid (BAt W.drew _ _ _):=hid t;clear B s t;refine Zbn 11 (fun w'=>w'.cell? ⟨X.cb,0,none⟩=some (Vp X.gb)/\w'.cell? ⟨X.gb,2,none⟩=some (.slice (some ⟨X.nb,0,none⟩) L X.nc)/\w'.cell? ⟨w.heap.size,2,none⟩=some (Vi a)/\w'.cell? ⟨X.nb,a*4,none⟩=some (Vi y.op)/\w'.cell? ⟨X.nb,a*4+1,none⟩=some (Vi y.arg)/\w'.cell? ⟨X.nb,a*4+2,none⟩=some (Vi y2)/\w'.cell? ⟨X.nb,a*4+3,none⟩=some (Vi y3)) Kr ?_ (fun d=>?_)
  ·have m:∀b o,b<w.heap.size->W.drew.cell? _=w.cell? ⟨b,o,none⟩:=fun b o h=>g.cell h;exact⟨(m _ _ C).trans m0,(m _ _ D).trans g2,f.cell 2,(m _ _ j).trans p0,(m _ _ j).trans p1,(m _ _ j).trans p2,(m _ _ j).trans p3⟩
  refine Za 0 d (h:=?_);refine Za 1 d (h:=?_);refine Za 2 d (h:=?_);refine Za 3 d (h:=?_);refine Za 4 d (h:=?_);refine Za 5 d (h:=?_);refine Za 6 d (h:=?_);refine Za 7 d (h:=?_);refine Za 8 d (h:=?_);refine Za 9 d (h:=?_);refine Za 10 d (h:=?_);refine Zbl Kr Kr rfl Kr (fun K M=>?_);have ml:w.heap.size<W.heap.size:=f.lt;have f0:W.frozen? _=false:=f.frozen 0;have f1:W.frozen? _=false:=f.frozen 1;have f2:W.frozen? _=false:=f.frozen 2;have f3:W.frozen? _=false:=f.frozen 3;have k0:W.cell? _=some _:=f.cell 0;have k1:W.cell? _=some _:=f.cell 1;have k2:W.cell? _=some _:=f.cell 2;have k3:W.cell? _=some _:=f.cell 3;go_simp;refine M _ _ ?_;clear d M K k0 k1 k2 k3 f0 f1 f2 f3
  have N:Hid (BW w ((((W.setCell ⟨w.heap.size,0,none⟩ (Vi y.op)).setCell ⟨w.heap.size,1,none⟩ (Vi y.arg)).setCell ⟨w.heap.size,2,none⟩ (Vi y2)).setCell ⟨w.heap.size,3,none⟩ (Vi y3)).drew):=by
   have R:Below _ w W:=⟨g.os,g.tape,g.output,g.size,g.block⟩
   exact((((R.setCell (Yac _) _).setCell (Yac _) _).setCell (Yac _) _).setCell (Yac _) _).drew
  have u:Hid (BAt ((((W.setCell ⟨w.heap.size,0,none⟩ (Vi y.op)).setCell ⟨w.heap.size,1,none⟩ (Vi y.arg)).setCell ⟨w.heap.size,2,none⟩ (Vi y2)).setCell ⟨w.heap.size,3,none⟩ (Vi y3)).drew w.heap.size [Vi y.op,Vi y.arg,Vi y2,Vi y3] 232):=hid ((((show BAt W w.heap.size _ _ from f.out).setC 0 _).setC 1 _).setC 2 _ |>.setC 3 _);generalize((((W.setCell ⟨w.heap.size,0,none⟩ (Vi y.op)).setCell ⟨w.heap.size,1,none⟩ (Vi y.arg)).setCell ⟨w.heap.size,2,none⟩ (Vi y2)).setCell ⟨w.heap.size,3,none⟩ (Vi y3)).drew=W4 at *
  have k0:W4.cell? _=some _:=u.cell 0;have ml4:=u.lt;go_wp2
  all_goals
   go_ret;refine⟨Zcy ?_,N⟩;rw[l,Ybh];simp
   try omega
 ·have U:(x.op:Int)≠4:=by omega
  have l:Hid (ZeJ _ n=decide _):=hid (by rw[i,if_neg q]);clear i p z;go_wp2
  all_goals
   go_ret;refine⟨Zcy ?_,belB⟩;rw[l,Ybh];simp
   try omega
end
end
section
open Go.RowKit LS Go.Proofs.Tryz
section
variable {w w' w1 w2:World} {X:CX} {cv iv cv' iv':Value} {c c':Cq} {S S1:Nat->Prop}
theorem Zk2(l:List Nat)(n j:Nat)(h:n<l.length):(bump l n).getD j 0=if j=n then l.getD n 0+1 else l.getD j 0:=by
 unfold bump;rw[Yaa,Ya0];by_cases e:n=j
 ·simp_all
 simp_all;omega
theorem ZfT(l:List Nat)(n:Nat):(bump l n).length=l.length:=by simp[bump]
theorem ZlA{α:Type}{f:List Nat->α->List Nat}(a:∀l x,(f l x).length=l.length):∀(t:List α) (l:List Nat),(t.foldl f l).length=l.length
 | [],_=>rfl
 | x::t,l=>by rw[Ybp,ZlA a t,a]
theorem Zi1:∀(f n:Nat) (k:List Nat),(cntQ jx sl f n k).length=k.length
 | 0,_,_=>rfl
 | f + 1, n, k => by
   unfold cntQ;simp only;split
   · exact ZfT _ _
   · rw[ZlA (fun l x=>Zi1 f x l),ZfT]
theorem Zm9:∀(l:List Nat) (n:Nat),n<l.length->(bump l n).sum=l.sum+1
 | x::l,0,_=>by simp[bump];omega
 | x :: l, n + 1, h => by
   have:=Zm9 l n (by simp_all);simp only[bump,Ydx,Yd2,Yee]at this ⊢;omega
theorem Zjz:∀(l:List Nat) (n:Nat),l.getD n 0<=l.sum
 | [],n=>by simp
 | x::l,0=>by simp
 | x::l,n+1=>by have:=Zjz l n;simp_all;omega
def takF(k:List Nat)(n:Nat):Option Int:=if k.getD n 0=0 then none else some (k.getD n 0:Nat)
def CoT(w:World)(X:CX)(cv iv:Value)(c:Cq)(k:List Nat):Prop:=Co w X cv iv c/\MapZ w X.tb X.jx.length (takF k)/\k.length=X.jx.length
theorem Co.takUpd(h:Co w X cv iv c)(hg:w.grownBy w' (some X.tb))(g:MapZ w' X.tb X.jx.length f):Co w' X cv iv c:=by
 have N:=h.ne;have d:=KeepS.grown hg (fun _ e=>(Yax e).symm);exact⟨d.bat h.box N.ct,d.bat h.gbox N.gt,h.gn,d.own h.nrow (fun j a=>by injection a with a;subst a;exact N.nt),d.own h.left (fun j a=>by injection a with a;subst a;exact N.lt),h.jy.move (d.block _ h.jy.lt N.st),h.slen,⟨f,g⟩,d.own h.cons (fun j a e=>by subst e;exact N.tcv a),d.own h.jq (fun j a e=>by subst e;exact N.tiv a),h.ne1,h.ne2,h.bas,Yah h.bsz d.size,h.nsz,h.nok,h.lbd⟩
theorem CoT.below(h:CoT w X cv iv c k)(a:BW w w'):CoT w' X cv iv c k:=⟨h.1.below a,h.2.1.move (a.block _ h.2.1.lt),h.2.2⟩
theorem CoT.inc(h:CoT w X cv iv c k)(d:n<X.jx.length)(l:k.sum<=1000000000) :
  (Instr.lookup 169 (.map (some X.tb)) (Vi (n:Int)) false).run prog w=.ok (Vi (k.getD n 0:Nat)) w/\∃w',(Instr.mapUpdate 169 (.map (some X.tb)) (Vi (n:Int)) (Vi ((k.getD n 0:Nat)+1))).run prog w=.ok () w'/\CoT w' X cv iv c (bump k n)/\w.grownBy w' (some X.tb):=by
 have g:=h.1.nsz;have i:=Zjz k n;refine⟨?_,?_⟩
 ·have:=h.2.1.get d Om w rfl;rw[this];unfold takF;split<;>simp_all
 ·obtain⟨w',e,f,hg⟩:=h.2.1.put (v:=((k.getD n 0:Nat)+1)) d Om (Zhl (k:=k.getD n 0+1) Om) w rfl
  have a : MapZ _ _ _ (takF _) := f.congr (fun j m => by
    unfold takF;rw[Zk2 k n j (by rwa [h.2.2])];split<;>rfl)
  exact⟨w',e,⟨h.1.takUpd hg a,a,by rw[ZfT];exact h.2.2⟩,hg⟩
theorem CoT.get(h:CoT w X cv iv c k)(a:n<X.jx.length):(Instr.lookup 169 (.map (some X.tb)) (Vi (n:Int)) false).run prog w=.ok (Vi (k.getD n 0:Nat)) w:=by
 have d:=h.1.nsz;rw[h.2.1.get a Om w rfl];unfold takF;split<;>simp_all
theorem Zoj(jx:List Nq)(sl:List (Option Int)):∀(f n:Nat) (k:List Nat),k.sum<=(cntQ jx sl f n k).sum:=by
 intro f
 induction f with
 | zero=>intro n k;exact Yac _
 | succ f ih=>
  intro n k
  have a : ∀ l : List _, l.sum <= (bump l n).sum := fun l => by
    by_cases h:n<l.length
    · rw[Zm9 l n h];omega
    · unfold bump;rw[List.set_eq_of_length_le Om];omega
  unfold cntQ;simp only;split
  ·exact a k
  ·refine Yah (a k) ?_;generalize bump k n=k1;generalize Zg (jx.getD n nq0)=ts
   induction ts generalizing k1 with
   | nil=>simp
   | cons t ts d=>rw[Ybp];exact Yah (ih t _) (d _)
end
end
section
open Go.RowKit LS Go.Proofs.Tryz
section
variable {w w' w1 w2:World} {X:CX} {cv iv cv' iv':Value} {c c':Cq} {S S1:Nat->Prop}
def cntP(w w':World)(X:CX)(cv iv:Value)(c:Cq)(k:List Nat):Prop:=CoT w' X cv iv c k/\KeepS (fun j=>j=X.tb) w w'
theorem cntP.step(h:KeepS (fun j=>j=X.tb) w w1)(q:cntP w1 w2 X cv iv c k):cntP w w2 X cv iv c k:=⟨q.1,h.trans q.2 (fun _ h _=>h)⟩
theorem KeepS.cell(h:KeepS S w w'){b o:Nat}(a:w.cell? ⟨b,o,none⟩=some v)(e:¬S b):w'.cell? ⟨b,o,none⟩=some v:=by
 have f:b<w.heap.size:=by
  rcases Yav b w.heap.size with d|d
  ·exact d
  ·simp[World.cell?,Yfi d]at a
 simp only[World.cell?,h.block b f e]at a ⊢;exact a
theorem ZlB{α β:Type}(g:β->α->β){l:List α}(b:β)(a:i<l.length):(l.take (i+1)).foldl g b=g ((l.take i).foldl g b) l[i]:=by
 rw[List.take_succ_eq_append_getElem a,Ydy];rfl
theorem ZiC(x:Nq):(Zg x).length<=2:=by unfold Zg;split <;> simp
theorem ZuM (jx : List Nq) (sl : List (Option Int)) (f : Nat) (ts : List Nat) (k : List Nat) (i : Nat) : ((ts.take i).foldl (fun k t => cntQ jx sl f t k) k).sum <= (ts.foldl (fun k t => cntQ jx sl f t k) k).sum := by
  conv=>rhs;rw[<-Ycn i ts,Ydy]
  generalize(ts.take i).foldl (fun k t=>cntQ jx sl f t k) k=k1;generalize ts.drop i=us
  induction us generalizing k1 with
  | nil=>exact Yac _
  | cons t us ih=>rw[Ybp];exact Yah (Zoj _ _ f t _) (ih _)
theorem Zoy(X:CX)(cv iv:Value)(c:Cq):∀(f n:Nat) (k:List Nat) (w:World),CoT w X cv iv c k->n<f->n<X.jx.length->(cntQ X.jx c.jy f n k).sum<=1000000000->
  CP 273 #[Vp X.cb,Vi n] w fun e w'=>e=.returned (.tuple #[])/\Hid (cntP w w' X cv iv c (cntQ X.jx c.jy f n k))
 | 0,n,_,_,_,h,_,_=>absurd h (Ya1 _)
 | f + 1, n, k, w, h, hf, p, g => by
   have IH:=hid (Zoy X cv iv c f);have q:=Yah (Zoj _ _ _ _ _) g;have b0:=Yah (Zjz k n) q;have m:=Zk2 k n n (by rw[h.2.2];exact p);rw[if_pos rfl]at m;obtain⟨T,w1,U,d,D⟩:=h.inc p q;have m3:w.cell? _=some _:=h.1.box.cell 3;have V:=h.1.box.lt;have a:=hid d;have A:=hid (KeepS.grown D (fun _ e=>(Yax e).symm));have HS:=hid g
   have B : Hid (cntQ X.jx c.jy (f + 1) n k = if (ZK n c.jy).isSome ∨ 1 < k.getD n 0 + 1 then bump k n else (Zg (X.jx.getD n nq0)).foldl (fun k t => cntQ X.jx c.jy f t k) (bump k n)) := hid (by
     rw[cntQ];simp only[m])
   have W:w1.cell? _=some _:=d.1.box.cell 3;have Y:=d.1.box.lt;have E:=d.get p;rw[m]at E;generalize k.getD n 0=kn at *
   have b1:(kn:Int)<=1000000000:=by omega
   clear h D d g q m;have N:=hid (Znb a.1 n);go_enter func273,ntmps273
   go_wp2_with fail
   refine N.mono ?_;rintro e wq ⟨rfl,rfl⟩;by_cases l:(ZK n c.jy).isSome=true∨1<kn+1
   · have r:Hid (cntQ _ _ _ n k=bump k n):=hid (by rw[B,if_pos l])
     generalize b2:(ZK n c.jy).isSome=fs at *
     clear N B;have F:fs=true∨(1:Int)<kn+1:=l.elim .inl (fun h=>.inr Om);clear l;cases fs with
     | true=>
       go_wp2;exact bodyPost_ret (results_none rfl _ _ _) rfl ⟨rfl,hid (r.out▸⟨a.out,A.out⟩)⟩
     | false=>
       have b3:=F.elim (fun h=>by cases h) id;clear F;go_wp2;exact bodyPost_ret (results_none rfl _ _ _) rfl ⟨rfl,hid (r.out▸⟨a.out,A.out⟩)⟩
   · have r:Hid (cntQ _ _ _ n k=_):=hid (by rw[B,if_neg l])
     have G:(ZK n c.jy).isSome=false:=by
       cases h:(ZK n c.jy).isSome
       · rfl
       · exact absurd (.inl h) l
     have Z:kn=0:=Yb6 fun h=>l (.inr Om);subst Z;rw[G];clear l G B N;have m0:wq.cell? _=some _:=a.1.box.cell 0;have g2:=(a.1.gbox.cell 2).trans a.1.gn;have a0:=a.1.gbox.lt;have a1:=Z1 a.1.nrow;have b4:(n:Int)<X.jx.length:=by omega
     obtain⟨q0,q1,q2,q3⟩:=a.1.node p;have HN:=hid (a.1.nodeOk p);generalize X.jx.getD n nq0=x at *
     go_wp2_with fail
     refine(Znp x HN.sn).mono ?_;rintro e w3 ⟨tv,rfl,s,O⟩;obtain⟨ta,tc,rfl,H⟩:=O.out;have O:=hid H;have a2:=hid (a.below s);have a3:=hid (A.trans (KeepS.ofBelow _ s) (fun _ h _=>h));have b5:=a.2.1.lt;have a4:=ZiC x;have a5:Hid (∀t∈Zg x,t<f/\t<X.jx.length):=hid (fun t ht=>by have:=HN.low t ht;omega);clear H a A s m0 g2 a0 a1 q0 q1 q2 q3 T U E m3 V W Y;generalize Zg x=ts at *
     obtain⟨L,P⟩:∃L,L=ts.length:=⟨_,rfl⟩
     rw[<-P]at a4 ⊢;have HL:=hid P;clear P;go_wp2
     go_loopw [43] (fun i wr=>∃j:Nat,j<=L/\i=Vi j/\Hid (cntP w wr X cv iv c ((ts.take j).foldl (fun k t=>cntQ X.jx c.jy f t k) (bump k n)))/\Hid (KeepS (fun j=>j=X.tb) w3 wr)) (fun i _=>L - (intOf i).toNat)
     case atStart=>exact⟨0,Yag _,rfl,hid ⟨a2,a3⟩,hid (KeepS.refl _ _)⟩
     case round=>
       obtain⟨j,hj,rfl,C,o⟩:=hrel;by_cases a6:j<L
       · have b6:(j:Int)<L:=by omega
         have u:j<ts.length:=by rw[<-HL.out];exact a6
         obtain⟨b,rfl,b7,a7,I⟩:=O.out Om;have kc:=o.cell (I j u) (fun e=>by omega);have a8:=Yaw a7 o.size;obtain⟨Q,R⟩:=a5.out ts[j] (List.getElem_mem u);have v:=hid (ZlB (fun k t=>cntQ X.jx c.jy f t k) (bump k n) u)
         have J : Hid ((cntQ X.jx c.jy f ts[j] ((ts.take j).foldl (fun k t => cntQ X.jx c.jy f t k) (bump k n))).sum <= 1000000000) := hid (by
           have h1:=ZuM X.jx c.jy f ts (bump k n) (j+1);have h2:=HS.out;rw[r]at h2;rw[v]at h1;omega)
         have K:=hid (IH _ _ _ C.1 Q R J);generalize ts[j]=t at *
         simp only[intC]at kc;clear I
         go_wp2_with fail
         refine K.mono ?_;rintro e w5 ⟨rfl,z⟩;have M:Hid (cntP w _ X _ _ c ((ts.take _).foldl _ _)):=v.out▸cntP.step C.2 z.out;have a9:=hid (o.trans z.2 (fun _ h _=>h));clear C o z K J v kc a8;go_wp2
         go_roundw
         case rel=>exact⟨j+1,by omega,by simp,M,a9⟩
         case measure=>simp[intOf];omega
       · obtain rfl:j=L:=by omega
         have M : Hid (cntP w wr X cv iv c (ts.foldl (fun k t => cntQ X.jx c.jy f t k) (bump k n))) := by
           have:=C.out;rwa [HL,Ya4]at this
         go_wp2;exact bodyPost_end (results_none rfl _ _ _) rfl ⟨rfl,hid (by rwa [r.out])⟩
end
end
section
open Go.RowKit LS Go.Proofs.Tryz
section
variable {w w' w1 w2:World} {X:CX} {cv iv cv' iv':Value} {c c':Cq} {S S1:Nat->Prop}
theorem Zjw : ∀ {N m:Nat},ZbT p N=some m->m<N/\p m=true
 | 0,m,h=>by cases h
 | N + 1, m, h => by
   unfold ZbT at h;by_cases a:p N=true
   · rw[if_pos a]at h;injection h with h;subst h;exact⟨Ybd _,a⟩
   · rw[if_neg a]at h;have:=Zjw h;exact⟨by omega,this.2⟩
theorem Zqu : ∀ {N m j:Nat},ZbT p N=some m->j<N->p j=true->j<=m
 | 0,_,_,_,h,_=>absurd h (Ya1 _)
 | N + 1, m, j, h, f, d => by
   unfold ZbT at h;by_cases a:p N=true
   · rw[if_pos a]at h;injection h with h;omega
   · rw[if_neg a]at h
     rcases Yav j N with e|e
     · exact Zqu h e d
     · obtain rfl:j=N:=by omega
       exact absurd d a
theorem Zml(o:Option Nat) : -1<=nI o:=by
 cases o with
 | none=>exact Yd0 _
 | some m=>show(-1:Int)<=(m:Int);omega
theorem Zqt(N:Nat):nI (ZbT p N)<=(N:Int) - 1:=by
 cases h:ZbT p N with
 | none=>show(-1:Int)<=(N:Int) - 1;omega
 | some m=>have:=(Zjw h).1;show(m:Int)<=(N:Int) - 1;omega
theorem Zqv : ∀ {N:Nat},(∀j,j<N->p j=false)->ZbT p N=none
 | 0,_=>rfl
 | N+1,h=>by unfold ZbT;rw[h N (Ybd _)];simpa using Zqv (fun j a=>h j Om)
theorem Zjv{q:Nat->Bool} : ∀(N:Nat),(∀j,j<N->p j=q j)->ZbT p N=ZbT q N
 | 0,_=>rfl
 | N+1,h=>by unfold ZbT;rw[h N (Ybd _),Zjv N (fun j a=>h j Om)]
theorem Zqs {p : Nat -> Bool} (x : Nat) : ∀ (N : Nat), x < N -> nI (ZbT (fun j => p j || decide (j = x)) N) = max (nI (ZbT p N)) x
  | 0,h=>absurd h (Ya1 _)
  | N + 1, h => by
    unfold ZbT;by_cases e:N=x
    · subst e
      have:=Zqt (p:=p) N;by_cases a:p N=true
      · simp[a,nI]
      · simp only[a,decide_true,Bool.or_true,if_true,Yde,if_false]
        show(N:Int)=_;omega
    · simp only[e,decide_false,Bool.or_false]
      by_cases a:p N=true
      · simp[a,nI];omega
      · simp only[a,Yde,if_false]
        exact Zqs x N Om
theorem ZtA:∀(l:List Nat) (n:Nat),n<l.length->(bump l n).count 0+(if l.getD n 0=0 then 1 else 0)=l.count 0
 | x::l,0,_=>by cases x <;> simp[bump]
 | x :: l, n + 1, h => by
   have:=ZtA l n (by simpa using h);simp only[bump,Ydx,Yee,List.count_cons]at this ⊢;omega
theorem ZuN(jx:List Nq)(sl:List (Option Int))(m:∀i,i<jx.length->∀t∈Zg (jx.getD i nq0),t<jx.length):∀(f n:Nat) (k:List Nat),k.length=jx.length->n<jx.length->(cntQ jx sl f n k).sum+2*(cntQ jx sl f n k).count 0<=k.sum+2*k.count 0+1:=by
 intro f
 induction f with
 | zero=>intro n k _ _;exact Ydp _
 | succ f ih=>
  intro n k d e;have s:=Zm9 k n Om;have g:=ZtA k n Om;have o:=Zk2 k n n Om;rw[if_pos rfl]at o;unfold cntQ;simp only;split
  ·split at g <;> omega
  ·rename_i p;have q:k.getD n 0=0:=Yb6 fun h=>p (.inr Om);rw[if_pos q]at g;have r:(bump k n).length=jx.length:=by rwa [ZfT]
   have a:=m n e;have u:=ZiC (jx.getD n nq0);generalize bump k n=k1 at *
   generalize Zg (jx.getD n nq0)=ts at *
   have : ∀ (us : List _) (k : List _), (∀ t ∈ us, t < jx.length) -> k.length = jx.length -> (us.foldl (fun k t => cntQ jx sl f t k) k).sum + 2 * (us.foldl (fun k t => cntQ jx sl f t k) k).count 0 <= k.sum + 2 * k.count 0 + us.length := by
     intro us
     induction us with
     | nil=>intro k _ _;simp
     | cons t us j=>
       intro k l d;have a1:=ih t k d (l t (Yay ..));have a2:=j (cntQ jx sl f t k) (fun t a=>l t (Yam _ a)) (by rwa [Zi1]);rw[Ybp,Yaj];omega
   have:=this _ _ a r;omega
theorem Co.cntOk(h:Co w X cv iv c)(a:n<X.jx.length):(cntQ X.jx c.jy (n+1) n (List.replicate X.jx.length 0)).sum<=1000000000:=by
 have:=ZuN _ c.jy (fun i d t e=>by have:=(h.nodeOk d).low t e;omega) (n+1) n (List.replicate X.jx.length 0) (by simp) a;have f:=h.nsz;simp at this;omega
theorem ZDb(h:Co w X cv iv c)(n:Nat)(hn:n<X.jx.length) :
  CP 245 #[Vp X.cb,Vi n] w fun e w'=>e=.returned (Vi (nI (ZbY X.jx n c)))/\Hid (Co w' X cv iv c)/\Hid (KeepS (fun j=>j=X.tb) w w'):=by
 have Q:=hid (h.cntOk hn);obtain⟨f0,R⟩:=h.tak;obtain⟨w1,a9,L,p⟩:=R.clear w rfl;have m3:w.cell? _=some _:=h.box.cell 3;have T:=h.box.lt;have U:Hid (CoT _ X _ _ c (List.replicate X.jx.length 0)):=hid ⟨h.takUpd p L,L.congr (fun j t=>by simp[takF,t]),by simp⟩;have V:=hid (KeepS.grown p (fun _ e=>(Yax e).symm));have c1:=h.nsz;clear p L R h;go_enter func245,ntmps245
 go_wp2_with fail
 refine(Zoy X _ _ c (n+1) n _ _ U (Ybd _) hn Q).mono ?_;rintro e w2 ⟨rfl,HP⟩;have HQ:Hid (ZbY X.jx n c=ZbT _ _):=hid rfl;generalize cntQ X.jx c.jy (n+1) n (List.replicate X.jx.length 0)=k at *
 have a:=hid HP.1;have W:=hid (V.trans HP.2 (fun _ h _=>h));obtain⟨D,Y,Z,a0⟩:=a.2.1;have b0:=hid Y;have b1:=hid Z;have M:=hid a0;clear HP U V a9 m3 T Y Z a0;have m3:w2.cell? _=some _:=a.1.box.cell 3;have T:=a.1.box.lt
 go_wp2_with (first
   | (at_range;refine wpList_range_own _ rfl _ 169 rfl 3 3 intK underlying169 (plainElem prog 3) X.tb _ _ rfl b0.out ?_;intro w3 a7 a1 c2)
   | go_in)
 go_frame
 have b2:=hid (a.1.keep (KeepS.grown a1 (fun _ e=>by cases e)) id id id id id id (fun _ _=>id) (fun _ _=>id));have b3:=hid (W.trans (KeepS.grown a1 (S:=fun _=>False) (fun _ e=>by cases e)) (fun _ h _=>h.elim));have g:Hid (X.cb<w2.heap.size/\X.gb<w2.heap.size/\X.nb<w2.heap.size/\X.lb<w2.heap.size/\X.sb<w2.heap.size/\X.tb<w2.heap.size/\(∀k,cv.ownBlock=some k->k<w2.heap.size)/\(∀k,iv.ownBlock=some k->k<w2.heap.size)/\w.heap.size<=w2.heap.size):=hid ⟨a.1.box.lt,a.1.gbox.lt,Z1 a.1.nrow,Z1 a.1.left,a.1.jy.lt,a.2.1.lt,fun k hk=>(a.1.cons.lt k hk).2,fun k hk=>(a.1.jq.lt k hk).2,W.size⟩
 go_loopw [5,22] (fun lv _ wr=>∃(left:Lit->Bool) (cnt:Nat),wr.ranges prog 3 (plainElem prog 3) X.tb w2.heap.size X.jx.length D left cnt/\Hid (Co wr X cv iv c)/\Hid (KeepS (fun j=>j=X.tb) w wr)/\lv=.int .i64 (nI (ZbT (fun j=>ZcX X.jx c k j && !left (kI j)) X.jx.length))) (fun _ _ wr=>wr.rangeLeft X.tb w2.heap.size)
 case atStart => exact ⟨_, _, a7, b2, b3, by
   congr 1
   rw [Zqv (fun j t => by
     cases m:takF k j with
     | none=>
       have h0:=Yb6 fun h=>by rw[takF,if_neg h]at m;cases m
       unfold ZcX;rw[h0];rfl
     | some v=>rw[((M j t).2 v m).1];simp)]
   rfl⟩
 case round=>
  obtain⟨left,cnt,a2,HC,HK,rfl⟩:=hrel;have HL:Hid (-1<=nI (ZbT (fun j=>ZcX X.jx c k j && !left (kI j)) X.jx.length)/\nI (ZbT (fun j=>ZcX X.jx c k j && !left (kI j)) _)<=(X.jx.length) - 1):=hid ⟨Zml _,Zqt _⟩;generalize a3:nI (ZbT (fun j=>ZcX X.jx c k j && !left (kI j)) X.jx.length)=lv at *
  have a4:=hid a3;clear a3
  go_wp2_with (first
    | (at_next;refine wpList_next_ranges_ii _ rfl _ rfl 3 3 .i64 .i64 intK underlying3 underlying3 X.tb w2.heap.size _ _ _ _ rfl a2 ?_ ?_)
    | go_in)
  ·intro _ b4
   have HE:Hid (lv=nI (ZbY X.jx n c)):=by
    rw[<-a4,HQ]
    congr 1
    exact Zjv _ (fun j _=>by rw[b4];simp)
   go_wp2;go_ret;exact⟨congrArg (fun z=>Ending.returned (.int _ z)) HE,HC,HK⟩
  ·intro x v wn cnt1 c3 c4 c5 A a8 F p c6 c7;obtain⟨j,t,N⟩:=b1 _ (Maps.has_true_of_atKey A);obtain rfl:=by unfold kI at N;injection N
   have HV:Hid (v=(k.getD j 0)/\0<k.getD j 0):=by
    cases m:takF k j with
    | none=>rw[show Lit.int _ _=kI j from rfl]at A;have f:=Maps.has_true_of_atKey A;rw[(M j t).1 m]at f;cases f
    | some u=>
     have f:=((M j t).2 u m).2 .nil;rw[show kI j=Lit.int _ _ from rfl,A]at f;have r:=Zgc f;unfold takF at m;split at m
     ·cases m
     ·injection m with m;exact⟨r.trans m.symm,by omega⟩
   have l:=hid (HC.keep (KeepS.grown p (fun _ e=>(Yax e).symm)) (fun e=>by have:=g.1;omega) (fun e=>by have:=g.2.1;omega) (fun e=>by have:=g.2.2.1;omega) (fun e=>by have:=g.2.2.2.1;omega) (fun e=>by have:=g.2.2.2.2.1;omega) (fun e=>by have:=g.2.2.2.2.2.1;omega) (fun q P e=>by have:=g.2.2.2.2.2.2.1 q P;omega) (fun q P e=>by have:=g.2.2.2.2.2.2.2.1 q P;omega));have b5:=hid (HK.trans (KeepS.grown p (fun _ e=>(Yax e).symm)) (fun q e P=>by have:=g.2.2.2.2.2.2.2.2;omega))
   have G : Hid (nI (ZbT (fun i => ZcX X.jx c k i && !(left (kI i) && !(kI i).sameKey (kI j))) X.jx.length) = if ZcX X.jx c k j then max lv j else lv) := by
     rw[<-a4];by_cases H:ZcX X.jx c k j=true
     · rw[if_pos H,<-Zqs j _ t]
       congr 1
       refine Zjv _ (fun i _=>?_);by_cases e:i=j
       · subst e;rw[Ydq (by trivial)];simp[H]
       · rw[Maps.sameKey_ne (fun h=>e (Zjo h))];simp[e]
     · rw[if_neg H]
       congr 1
       refine Zjv _ (fun i _=>?_);by_cases e:i=j
       · subst e;simp[H]
       · rw[Maps.sameKey_ne (fun h=>e (Zjo h))];simp
   have c8:(j:Int)<X.jx.length:=by omega
   obtain⟨c9,d0⟩:=HL.out;obtain⟨b6,b7⟩:=HV.out;have I:Hid (ZcX X.jx c k j=((ZK j c.jy).isNone && decide (k.getD j 0<c.left.getD j 0) && ZeJ X.jx j)):=hid (by unfold ZcX;rw[decide_eq_true b7];simp);subst b6;have d1:=Yah (Zjz k j) Q;have m1:wn.cell? _=some _:=l.box.cell 1;have d2:=l.box.lt;have d3:=Z1 l.left
   have lj:wn.cell? _=some (Vi (c.left.getD j 0)):=Zi l.left j _ (by
    have:=l.llen;rw[Ya2,List.getElem?_eq_getElem Om];simp[intC,Yaa,show j<c.left.length by omega])
   have HS:=hid (Znb l j);have b8:=hid (Ztk l j t)
   have d : Hid (∀ B, Below _ _ B -> B.ranges _ 3 (plainElem prog 3) _ _ _ D _ _ /\ Hid _ /\ Hid _ /\ B.rangeLeft _ _ = cnt1) := hid (fun B C => by
     have f:=a8.kept (row:=none) ⟨C.os,C.tape,C.output,C.size,fun i hi _=>C.block i hi⟩ (by simp) (by simp);exact⟨f,hid (l.below C),hid (b5.trans (KeepS.ofBelow _ C) (fun _ h _=>h)),f.left_eq⟩)
   have J:=hid a2.left_eq;generalize c.left.getD j 0=lj0 at *
   generalize b9:k.getD j 0=kj at *
   clear b9 HV A N
   go_wp2_with fail
   refine HS.mono ?_;rintro e wq ⟨rfl,rfl⟩;generalize ZK j c.jy=so at *
   cases so with
   | some s=>
    have o:Hid (_=lv):=hid (G.trans (by rw[I.out];simp));simp only[Yb0];go_wp2
    go_roundw
    case rel=>
     obtain⟨f,r,E,h4⟩:=d.out wq (Yaf _ _);exact⟨_,cnt1,f,r,E,congrArg _ o.symm⟩
    case measure=>rw[(d _ (Yaf _ _)).2.2.2,J];exact F
   | none=>
    simp only[Yb7];by_cases O:kj<lj0
    ·have hz:(kj:Int)<lj0:=by omega
     go_wp2_with fail
     refine b8.mono ?_;rintro e B ⟨rfl,a5⟩;have K:=hid a5;clear a5;cases a6:ZeJ X.jx j with
     | true=>
      have o:Hid (_=if lv<(j:Int)then (j:Int)else lv):=hid (G.trans (by rw[I.out,decide_eq_true O,a6];show max lv (j:Int)=_;split <;> omega));go_wp2
      go_roundw
      case rel=>
       obtain⟨f,r,E,h4⟩:=d.out B K.out;exact⟨_,cnt1,f,r,E,congrArg _ o.symm⟩
      case measure=>rw[(d _ K).2.2.2,J];exact F
     | false=>
      have o:Hid (_=lv):=hid (G.trans (by rw[I.out,a6];simp));go_wp2
      go_roundw
      case rel=>
       obtain⟨f,r,E,h4⟩:=d.out B K.out;exact⟨_,cnt1,f,r,E,congrArg _ o.symm⟩
      case measure=>rw[(d _ K).2.2.2,J];exact F
    ·have hz:¬(kj:Int)<lj0:=by omega
     have o:Hid (_=lv):=hid (G.trans (by rw[I,decide_eq_false O];simp));go_wp2
     go_roundw
     case rel=>
      obtain⟨f,r,E,h4⟩:=d.out wq (Yaf _ _);exact⟨_,cnt1,f,r,E,congrArg _ o.symm⟩
     case measure=>rw[(d _ (Yaf _ _)).2.2.2,J];exact F
end
end
section
open Go.RowKit LS Go.Proofs.Tryz
section
variable {w w' w1 w2:World} {X:CX} {cv iv cv' iv':Value} {c c' d:Cq} {S S1:Nat->Prop} {W:Nat->Cq->Cq} {n:Nat}
def Sml(c:Cq):Prop:=c.jq.length<=1000000/\c.jj.length<=1000000
def cLe(c d:Cq):Prop:=c.jq.length<=d.jq.length/\c.jj.length<=d.jj.length
theorem cLe.refl(c:Cq):cLe c c:=⟨Yac _,Yac _⟩
theorem cLe.trans{e:Cq}(h:cLe c d)(q:cLe d e):cLe c e:=⟨Yah h.1 q.1,Yah h.2 q.2⟩
theorem Sml.of(h:Sml d)(q:cLe c d):Sml c:=⟨Yah q.1 h.1,Yah q.2 h.2⟩
theorem Zeq(op arg:Nat)(c:Cq):cLe c (Zc op arg c):=⟨by simp[Zc],Yac _⟩
theorem ZgP(n s:Nat)(c:Cq):cLe c (ZZ n s c):=⟨by simp[ZZ,Zc],Yac _⟩
theorem Zg4(jx:List Nq)(a:∀c,cLe c (W n c))(c:Cq):cLe c (putQ jx W n c):=by
 unfold putQ;simp only;split
 ·split
  ·exact⟨by simp[Zc],Yac _⟩
  ·exact⟨by simp[Zc],Yac _⟩
 ·split
  ·exact(show cLe c { c with left:=c.left.set n _ } from⟨Yac _,Yac _⟩).trans (a _)
  ·split
   ·exact((show cLe c { c with left:=c.left.set n _ } from⟨Yac _,Yac _⟩).trans (a _)).trans ((ZgP _ _ _).trans (Zeq _ _ _))
   ·exact(show cLe c { c with left:=c.left.set n _ } from⟨Yac _,Yac _⟩).trans (a _)
def ZiO(X:CX)(W:Nat->Cq->Cq)(n:Nat):Prop:=(∀c,cLe c (W n c))/\∀(w:World) (cv iv:Value) (c:Cq),Co w X cv iv c->Sml (W n c)->
 CP 128 #[Vp X.cb,Vi n] w fun e w'=>e=.returned (.tuple #[])/\Hid (CoP w w' X cv iv (W n c))
theorem Co.leftAt(h:Co w X cv iv c){j:Nat}(a:j<X.jx.length):w.cell? ⟨X.lb,j,none⟩=some (Vi (c.left.getD j 0:Nat)):=Zi h.left j _ (by
 have:=h.llen;rw[Ya2,List.getElem?_eq_getElem Om];simp[intC,Yaa,show j<c.left.length by omega])
theorem Co.leftSet(h:Co w X cv iv c)(j v:Nat)(m:v<=1000000000):Co (w.setCell ⟨X.lb,j,none⟩ (Vi v)) X cv iv { c with left:=c.left.set j v }/\KeepS (X.chg cv iv) w (w.setCell ⟨X.lb,j,none⟩ (Vi v)):=by
 have N:=h.ne;have a:=KeepS.set w X.lb j (Vi v)
 refine ⟨⟨a.bat h.box N.cl, a.bat h.gbox N.gl, h.gn, a.own h.nrow (fun j g => by injection g with g; subst g; exact N.nl), ?_, h.jy.move (a.block _ h.jy.lt N.ls.symm), h.slen, ?_, a.own h.cons (fun j g e => by subst e; exact N.lcv g), a.own h.jq (fun j g e => by subst e; exact N.liv g), h.ne1, h.ne2, h.bas, Yah h.bsz a.size, h.nsz, h.nok, fun i => by
   show(c.left.set j v).getD i 0<=_;rw[Yaa,Ya0];split
   · split
     · exact m
     · exact Yag _
   · rw[<-Yaa];exact h.lbd i⟩,a.mono (fun k e=>.inr (.inl e))⟩
 ·have:=ZmD h.left j (Vi v);rw[show(c.left.map _).set j _=(c.left.set j v).map _ by rw[Yd8];rfl]at this;exact this
 ·obtain⟨f,l⟩:=h.tak;exact⟨f,l.move (a.block _ l.lt N.lt.symm)⟩
theorem ZjT{e:TypeId}{g m cp:Nat}(h:w.ownsRow base e sz (.slice (some ⟨g,0,none⟩) m cp) m xs)(j:Nat):w.frozen? ⟨g,j,none⟩=false:=by
 rcases h.2 with ⟨f,_⟩|⟨g',cap,cur,a,_,hg,_⟩
 ·cases f
 ·injection a with a _ _;injection a with a;injection a with a _ _;subst a;simp[World.frozen?,hg]
def decL(n:Nat)(c:Cq):Cq:={ c with left:=c.left.set n (c.left.getD n 0 - 1) }
theorem Zd8(h:ZK n c.jy=some s):putQ jx W n c=if (decL n c).left.getD n 0=0 then { Zc 13 s (decL n c)with jy:=c.jy.set s none } else Zc 13 s (decL n c):=by
 unfold putQ;simp only;rw[h];rfl
theorem ZdR(h:ZK n c.jy=none):putQ jx W n c=if (W n (decL n c)).left.getD n 0=0∨ZeJ jx n=false then W n (decL n c)else match ZbQ (W n (decL n c)).jy with
   | some s=>Zc 13 s (ZZ n s (W n (decL n c)))
   | none=>W n (decL n c):=by
 unfold putQ;simp only;rw[h];rfl
theorem Zln(h:Co w X cv iv c):Co w.drew X cv iv c:=h.below (Yaf _ _).drew
theorem ZjZ(hW:ZiO X W n)(h:Co w X cv iv c)(Z:n<X.jx.length)(hs:Sml (putQ X.jx W n c)) :
  CP 77 #[Vp X.cb,Vi n] w fun e w'=>e=.returned (.tuple #[])/\Hid (CoP w w' X cv iv (putQ X.jx W n c)):=by
 have HW:=hid hW;have b8:(n:Int)<X.jx.length:=by omega
 have b6:=h.nsz;have HC:=hid h;have HS:=hid hs;have lj0:=h.leftAt Z;have hb:=h.lbd n;have A:=hid (h.leftSet n (c.left.getD n 0 - 1) Om);have H:=hid (ZjT h.left n);have m1:w.cell? _=some _:=h.box.cell 1;have a0:=h.box.lt;have a6:=Z1 h.left;generalize a7:c.left.getD n 0=l0 at *
 have a8:max (0) ((l0:Int) - 1)=(l0 - 1:Nat):=by omega
 clear h hs hW;go_enter func77,ntmps77
 go_upto_region 0 with fail
 refine Zbn 15 (fun w'=>w'.cell? _=some _/\w'.cell? _=some _) Kr ⟨m1,lj0⟩ (fun a=>?_);refine Za 0 a (h:=?_);refine Za 1 a (h:=?_);refine Za 2 a (h:=?_);refine Za 3 a (h:=?_);refine Za 4 a (h:=?_);refine Za 5 a (h:=?_);refine Za 6 a (h:=?_);refine Za 7 a (h:=?_);refine Za 8 a (h:=?_);refine Za 9 a (h:=?_);refine Za 10 a (h:=?_);refine Za 11 a (h:=?_);refine Za 12 a (h:=?_);refine Za 13 a (h:=?_);refine Za 14 a (h:=?_);refine Zbl Kr Kr rfl Kr (fun K hK=>?_);have lf:=H.out;have a9:IntKind.i64.wrap ((l0) - 1)=(l0) - 1:=by rw[Ybo];omega
 go_simp;have B:(if 1<(l0:Int)then (l0:Int) - 1 else 0)=((l0 - 1:Nat)):=by split <;> omega
 rw[B];refine hK _ _ ?_;have C:Hid (Co (w.setCell ⟨X.lb,n,none⟩ (Vi (l0 - 1:Nat))).drew X cv iv (decL n c)):=by have:=A.1;rw[<-a7]at this ⊢;exact Zln this
 have I:Hid (KeepS (X.chg cv iv) w (w.setCell ⟨X.lb,n,none⟩ (Vi (l0 - 1:Nat))).drew):=by have:=A.2;exact⟨this.os,this.tape,this.output,this.size,this.block⟩
 clear a hK K lf B A a9 a8 H m1 lj0 a0 a6 HC;generalize(w.setCell ⟨X.lb,n,none⟩ (Vi (l0 - 1:Nat))).drew=w1 at *
 have J:Hid (∀ {g:World} {cz iz:Value} {d:Cq},Co _ X cz iz d->g.cell? _=some _/\X.cb<g.heap.size/\X.lb<g.heap.size/\g.cell? _=some _/\g.cell? _=some _):=hid (fun h=>⟨h.box.cell 1,h.box.lt,Z1 h.left,h.leftAt Z,h.box.cell 2⟩);have L:=hid (Znb C n)
 go_wp2_with fail
 refine L.mono ?_;rintro e wq ⟨rfl,rfl⟩;clear L;cases m:ZK n (decL n c).jy with
 | some s=>
  simp only[Yb0,Ya6];have t:=(Zha m).1;have l:Hid (putQ X.jx W n c=_):=hid (Zd8 m)
  have D:Hid (Sml (Zc 13 s (decL n c))):=by
   have:=HS.out;rw[l]at this;split at this
   ·exact this
   ·exact this
  clear HS m
  go_wp2_with fail
  refine(ZfY C 13 s (Yah (Zeq _ s _).1 D.1)).mono ?_;rintro e w2 ⟨rfl,o⟩;obtain⟨cv2,iv2,p,q,i,j⟩:=o.out;have f:=hid p;have k:Hid (∀ {g:World} {d:Cq},CoP _ g X _ _ d->CoP w _ X _ _ d):=hid (fun h=>CoP.trans I (fun _ h=>.inl h) (fun _ h=>.inl h) (CoP.trans q i j h));clear p q i j o;obtain⟨a1,a2,a3,a4,a5⟩:=J f;obtain⟨w3,b7,M,N⟩:=f.slotDel t;have b0:=hid M;have b1:=hid N;clear M N;generalize u:(Zc 13 s (decL n c)).left.getD n 0=lv at a4;have O:Hid ((decL n c).left.getD n 0=lv):=hid u;clear u;by_cases z:lv=0
  ·subst z;go_wp2;exact bodyPost_ret (results_none rfl _ _ _) rfl ⟨rfl,hid (l.out▸if_pos O.out▸k.out (CoP.of ⟨b0.out,b1.out⟩))⟩
  ·have hz:(lv:Int)≠0:=by omega
   go_wp2;exact bodyPost_ret (results_none rfl _ _ _) rfl ⟨rfl,hid (by rw[l,if_neg (by rwa [O.out])];exact k (CoP.refl f))⟩
 | none=>
  simp only[Yb7];have l:Hid (putQ X.jx W n c=_):=hid (ZdR m)
  have D:Hid (Sml (W n (decL n c))):=by
   refine HS.of ?_;rw[l];split
   ·exact cLe.refl _
   ·split
    ·exact(ZgP _ _ _).trans (Zeq _ _ _)
    ·exact cLe.refl _
  clear m
  go_wp2_with fail
  refine(HW.2 _ _ _ _ C D).mono ?_;rintro e w2 ⟨rfl,o⟩;obtain⟨cv2,iv2,p,q,i,j⟩:=o.out;have f:=hid p;have k:Hid (∀ {g:World} {d:Cq},CoP _ g X _ _ d->CoP w _ X _ _ d):=hid (fun h=>CoP.trans I (fun _ h=>.inl h) (fun _ h=>.inl h) (CoP.trans q i j h));clear p q i j o;obtain⟨a1,a2,a3,a4,a5⟩:=J f;generalize W n (decL n c)=d at *
  by_cases z:d.left.getD n 0=0
  ·rw[z]at a4;go_wp2;exact bodyPost_ret (results_none rfl _ _ _) rfl ⟨rfl,hid (l.out▸if_pos (Or.inl z)▸k.out (CoP.refl f.out))⟩
  ·have b2:=hid z;have u:((d.left.getD n 0):Int)≠0:=by omega
   generalize d.left.getD n 0=lv at a4 u;clear z;have P:=hid (Ztk f n Z)
   go_wp2_with fail
   refine P.mono ?_;rintro e w3 ⟨rfl,E⟩;have r:=hid (f.below E);have v:Hid (∀ {g:World} {e:Cq},CoP _ g X _ _ e->CoP w _ X _ _ e):=hid (fun h=>k (CoP.step E h));clear E a1 a2 a3 a4 a5 f k P;cases F:ZeJ X.jx n with
   | false=>
    go_wp2;exact bodyPost_ret (results_none rfl _ _ _) rfl ⟨rfl,hid (l.out▸if_pos (Or.inr F)▸v.out (CoP.refl r.out))⟩
   | true=>
    have G:=hid (l.trans (if_neg (fun h=>h.elim b2 (fun e=>by rw[F]at e;cases e))));clear F l;have Q:=hid (Zps r)
    go_wp2_with fail
    refine Q.mono ?_;rintro e w4 ⟨rfl,rfl⟩;clear Q;cases x:ZbQ d.jy with
    | none=>
     simp only[Yb7,Yc9];go_wp2;exact bodyPost_end (results_none rfl _ _ _) rfl ⟨rfl,hid (G.out▸x▸v.out (CoP.refl r.out))⟩
    | some s=>
     simp only[Yb0,Ya6];have t:=(ZdZ x).1;have R:Hid (putQ _ W n c=Zc _ s _):=hid (by rw[G,x]);have T:Hid (Sml (Zc 13 s (ZZ n s d))):=by rwa [<-R.out]
     clear x G
     go_wp2_with fail
     refine(Zqf r n s (Yah ((ZgP n s d).trans (Zeq _ s _)).1 T.1) t Om).mono ?_;rintro e w5 ⟨rfl,U⟩;obtain⟨cv5,iv5,V,Y,i,j⟩:=U.out;have b3:=hid V;have b4:Hid (∀ {g:World} {e:Cq},CoP _ g X _ _ e->CoP w _ X _ _ e):=hid (fun h=>v (CoP.trans Y i j h));clear V Y i j U v r
     go_wp2_with fail
     refine(ZfY b3 13 s (Yah (Zeq _ s _).1 T.1)).mono ?_;rintro e w6 ⟨rfl,b5⟩;go_wp2;exact bodyPost_end (results_none rfl _ _ _) rfl ⟨rfl,hid (R.out▸b4.out b5.out)⟩
end
end
section
open Go.RowKit LS Go.Proofs.Tryz
section
variable {jx:List Nq} {W:Nat->Cq->Cq} {n x:Nat} {c d e:Cq}
structure Low (x:Nat) (c d:Cq):Prop where
 lf:∀y,x<=y->d.left.getD y 0=c.left.getD y 0
 sl:∀s y:Nat,x<=y->(d.jy.getD s none=some (y:Int) ↔ c.jy.getD s none=some (y:Int))
 ll:d.left.length=c.left.length
 ls:d.jy.length=c.jy.length
theorem Low.refl(x:Nat)(c:Cq):Low x c c:=⟨fun _ _=>rfl,fun _ _ _=>Yez,rfl,rfl⟩
theorem Low.trans(h:Low x c d)(q:Low x d e):Low x c e:=⟨fun y a=>(q.lf y a).trans (h.lf y a),fun s y a=>(q.sl s y a).trans (h.sl s y a),q.ll.trans h.ll,q.ls.trans h.ls⟩
theorem Low.mono{z:Nat}(h:Low x c d)(f:x<=z):Low z c d:=⟨fun y a=>h.lf y Om,fun s y a=>h.sl s y Om,h.ll,h.ls⟩
theorem Low.of(a:d.left=c.left)(f:d.jy=c.jy):Low x c d:=⟨fun _ _=>by rw[a],fun _ _ _=>by rw[f],by rw[a],by rw[f]⟩
theorem Zf2(l:List Nat)(s j v:Nat):(l.set s v).getD j 0=if j=s/\s<l.length then v else l.getD j 0:=by
 rw[Yaa,Ya0];by_cases e:s=j
 ·subst e;by_cases h:s<l.length
  ·simp[h]
  ·simp[h,Yaa]
 simp_all;omega
theorem Zc0(l:List (Option Int))(s j:Nat)(v:Option Int):(l.set s v).getD j none=if j=s/\s<l.length then v else l.getD j none:=by
 rw[Yaa,Ya0];by_cases e:s=j
 ·subst e;by_cases h:s<l.length
  ·simp[h]
  ·simp[h,Yaa]
 simp_all;omega
theorem Low.left (h : n < x) (v : Nat) : Low x c { c with left := c.left.set n v } := ⟨fun y a => by
  show(c.left.set n v).getD y 0=_;rw[Zf2,if_neg Om],fun _ _ _=>Yez,by simp,rfl⟩
theorem Low.slot  {v : Option Int} (h : ∀ y : Nat, x <= y -> c.jy.getD s none ≠ some (y : Int)) (a : ∀ y : Nat, x <= y -> v ≠ some (y : Int)) : Low x c { c with jy := c.jy.set s v } := ⟨fun _ _ => rfl, fun j y f => by
  show(c.jy.set s v).getD j none=_ ↔ _;rw[Zc0];split<;>simp_all,rfl,by simp⟩
theorem Low.emit(x op arg:Nat)(c:Cq):Low x c (Zc op arg c):=Low.of rfl rfl
theorem Zrb{v:Nat}(h:v<x)(a:x<=y):(some (v:Int):Option Int)≠some (y:Int):=fun e=>by simp_all;omega
theorem Low.keep(h:∀y:Nat,x<=y->c.jy.getD s none≠some (y:Int))(a:n<x):Low x c (ZZ n s c):=(Low.emit x _ s c).trans (Low.slot h (fun _ f=>Zrb a f))
theorem ZCm(h:∀s,a.getD s none=some (y:Int) ↔ b.getD s none=some (y:Int)):ZK y a=ZK y b:=by
 unfold ZK
 simp_all
theorem ZmY(i:∀c,c.jy.length=16->Low n c (W n c))(g:c.jy.length=16):Low (n+1) c (putQ jx W n c):=by
 have f:Low (n+1) c (decL n c):=Low.left (Ybd _) _;have h:=f.trans ((i (decL n c) g).mono (Ydp _));cases a:ZK n c.jy with
 | some s=>
  have j:=Zha a;rw[Zd8 a];split
  ·refine(f.trans (Low.emit _ _ s _)).trans (Low.slot (fun y k=>?_) (fun _ _ e=>by cases e));show c.jy.getD s none≠_;rw[j.2]
   simp_all;omega
  ·exact f.trans (Low.emit _ _ s _)
 | none=>
  rw[ZdR a];split
  ·exact h
  ·split
   ·rename_i s a;have l:=ZdZ a;exact(h.trans (Low.keep (fun y _=>by simp_all) (Ybd _))).trans (Low.emit _ _ _ _)
   omega
theorem Zcf (a : NOk jx) (n : Nat) : ∀ t ∈ Zg (jx.getD n nq0), t < n := fun t f => by
  by_cases h:n<jx.length
  · have:=(a n h).low t
    simp_all
  · rw[show jx.getD n _=nq0 by simp[h]]at f
    cases f
theorem Zk9  {f : Nat} (ih : ∀ (n : Nat) (k : List Nat) (y : Nat), n < y -> (cntQ jx sl f n k).getD y 0 = k.getD y 0)  : ∀ (ts : List Nat) (k : List Nat), (∀ t ∈ ts, t < y) -> (ts.foldl (fun k t => cntQ jx sl f t k) k).getD y 0 = k.getD y 0
  | [],_,_=>rfl
  | t::ts,k,h=>by rw[Ybp,Zk9 ih _ _ (fun t a=>h t (Yam _ a)),ih t k y (h t (Yay ..))]
theorem Zog(a:NOk jx)(sl:List (Option Int)):∀(f n:Nat) (k:List Nat) (y:Nat),n<y->(cntQ jx sl f n k).getD y 0=k.getD y 0:=by
 intro f
 induction f with
 | zero=>intro n k y _;rfl
 | succ f ih=>
  intro n k y i;have g:(bump k n).getD y 0=k.getD y 0:=by unfold bump;rw[Zf2,if_neg Om]
  unfold cntQ;simp only;split
  ·exact g
  ·rw[Zk9 ih _ _ (fun t h=>by have:=Zcf a n t h;omega),g]
theorem ZuL(i:NOk jx)(l:∀z,x<z->ZK z a=ZK z b):∀(f n:Nat) (k m:List Nat),k.length=m.length->(∀y,x<=y->k.getD y 0=m.getD y 0)->∀y,x<=y->(cntQ jx a f n k).getD y 0=(cntQ jx b f n m).getD y 0:=by
 intro f
 induction f with
 | zero=>intro n k m _ h y g;exact h y g
 | succ f ih=>
  intro n k m j h y g
  have o : ∀ y, x <= y -> (bump k n).getD y 0 = (bump m n).getD y 0 := fun y g => by
    unfold bump;rw[Zf2,Zf2,j];split
    · rename_i e;rw[h n Om]
    simp_all
  rcases Yav x n with p|p
  ·unfold cntQ;simp only;rw[l n p,o n Om];split
   ·simp_all
   ·have : ∀ (ts k m : List Nat), k.length = m.length -> (∀ y, x <= y -> k.getD y 0 = m.getD y 0) -> ∀ y, x <= y -> (ts.foldl (fun k t => cntQ jx a f t k) k).getD y 0 = (ts.foldl (fun k t => cntQ jx b f t k) m).getD y 0 := by
      intro ts
      induction ts with
      | nil=>simp
      | cons t ts q=>intro k m r h y g;exact q _ _ (by rw[Zi1,Zi1];exact r) (ih t k m r h) y g
    exact this _ _ _ (by rw[ZfT,ZfT];omega) o y g
  ·have e : ∀ (sl : List (Option Int)) (k : List Nat), (cntQ jx sl (f + 1) n k).getD y 0 = (bump k n).getD y 0 := fun sl k => by
     unfold cntQ;simp only;split
     · rfl
     · exact Zk9 (Zog i sl f) _ _ (fun t s=>by have:=Zcf i n t s;omega)
   simp_all
theorem Zxs(a:s<c.jy.length)(j:Nat):(ZZ n s c).jy.getD j none=if j=s then some (n:Int)else c.jy.getD j none:=ZlC s j a
theorem ZB9(p:NOk jx)(G:∀c,c.jy.length=16->Low x c (W x c))(j:c.jy.length=16)(q:ZbY jx n c=some x)(H:ZbQ c.jy=some s)(f:ZbY jx n (ZZ x s (W x { c with jy:=c.jy.set s (some (-1)) }))=some y):y<x:=by
 have a:=ZdZ H;have r:∀y:Nat,(some (-1))≠some (y:Int):=fun y e=>by injection e with e;omega
 have t:Low x c _:=Low.slot (fun y _=>by rw[a.2];simp) (fun y _=>r y);have l:=t.trans (G _ (t.ls.trans j));have m:=l.ls.trans j
 have u : ∀ y : Nat, x <= y -> (W x _).jy.getD s _ ≠ some _ := fun y f e => by
   have:=(l.sl s y f).1 e;rw[a.2]at this;cases this
 have v:Low (x+1) c _:=(l.mono (Ydp _)).trans (Low.keep (fun y f=>u y Om) (Ybd _))
 have w : ZK x (ZZ x s _).jy ≠ none := fun e => by
   unfold ZK at e;rw[Yc2]at e;have:=e s (Yb9.2 a.1);rw[Zxs (m▸a.1)]at this;simp at this
 generalize ZZ x s (W x { c with jy:=c.jy.set s (some (-1)) })=d at *
 rcases Yav y x with A|A
 ·exact A
 exfalso
 unfold ZbY at q f;have g:=(Zjw f)
 unfold ZcX at g;simp only[Yas,decide_eq_true_eq]at g;obtain⟨B,⟨⟨C,h⟩,D⟩,E⟩:=g;rcases Yav x y with o|o
 ·have k:∀z,x<z->ZK z _=ZK z _:=fun z I=>ZCm (fun s=>v.sl s z I);have F:=ZuL p k (n+1) n _ (List.replicate jx.length 0) rfl (fun _ _=>rfl) y Om
  have i:ZcX jx c (cntQ jx c.jy (n+1) n (List.replicate jx.length 0)) y=true:=by
   unfold ZcX;rw[<-F,<-k y o,<-v.lf y o];simp only[Yas,decide_eq_true_eq];exact⟨⟨⟨C,h⟩,D⟩,E⟩
  have:=Zqu q B i;omega
 ·obtain rfl:x=y:=by omega
  rw[Option.isNone_iff_eq_none]at h;exact w h
end
end
section
open Go.RowKit LS Go.Proofs.Tryz
section
variable {jx:List Nq} {W:Nat->Cq->Cq} {n x y m:Nat} {c d e:Cq}
theorem Zg9(a:NOk jx)(h:ZbY jx n c=some x):x<=n/\x<jx.length:=by
 unfold ZbY at h;have f:=Zjw h;refine⟨?_,f.1⟩;rcases Yav n x with g|g
 ·have i:=f.2;unfold ZcX at i;rw[Zog a _ _ _ _ _ g]at i
  simp_all
 omega
theorem ZnN(a:NOk jx)(h:∀z,z<=n->∀c,c.jy.length=16->Low z c (W z c)):∀(k:Nat) (c:Cq),c.jy.length=16->Low (n+1) c (ZG jx W n k c)
 | 0,c,_=>Low.refl _ _
 | k + 1, c, i => by
   unfold ZG;cases p:ZbY jx n c with
   | none=>exact Low.refl _ _
   | some x=>
     cases q:ZbQ c.jy with
     | none=>exact Low.refl _ _
     | some s=>
       have f:=(Zg9 a p).1;have g:=ZdZ q;have r:Low (n+1) c { c with jy:=c.jy.set s (some (-1)) }:=Low.slot (fun y _=>by rw[g.2];simp) (fun y _ e=>by simp_all);have j:=r.trans ((h x f _ (by simp_all)).mono (Nat.le_succ_of_le f))
       have l : ∀ y : Nat, n + 1 <= y -> (W x _).jy.getD s _ ≠ some _ := fun y t e => by
         have:=(j.sl s y t).1 e;rw[g.2]at this;cases this
       have o:=j.trans (Low.keep (n:=x) l Om);exact o.trans (ZnN a h k _ (o.ls.trans i))
theorem Zsv(s:Nat)(h:s<16):(Zce a b).getD s none=if a.getD s none=b.getD s none then a.getD s none else none:=by
 unfold Zce
 simp_all
theorem ZCK (h : Low x c d) (f : c.jy.length = 16) {is:List (Nat × Nat)} : Low x c { d with jy := Zce d.jy c.jy, jq := is } := ⟨h.lf, fun s y g => by
  show(Zce d.jy c.jy).getD s none=_ ↔ _;rcases Yav s 16 with a|a
  · rw[Zsv _ a]
    constructor
    · simp_all
    · intro e
      have i:=(h.sl s y g).2 e
      simp_all
  · have i:(Zce d.jy c.jy).getD s none=none:=by simp[Zce,Yaa,a]
    simp_all,h.ll,by simp[Zce,f]⟩
theorem ZvJ(h:NOk jx)(k:x<m)(l:y<m)(f:∀z,z<m->∀c,c.jy.length=16->Low z c (W z c))(a:c.jy.length=16):Low m c (Zbo jx W x y c):=by
 unfold Zbo;simp only;have i:=(ZnN h (fun z p=>f z Om) (y+2) c a).mono (show y+1<=m by omega);have g:=i.trans ((ZmY (jx:=jx) (f x k) (i.ls.trans a)).mono (show x+1<=m by omega));generalize putQ jx W x (ZG jx W y (y+2) c)=c1 at *
 have j:Low m c1 (Zc 11 0 (Zc 10 0 _)):=Low.of rfl rfl;have o:=j.trans ((ZmY (jx:=jx) (f y l) (j.ls.trans (g.ls.trans a))).mono (show y+1<=m by omega));exact g.trans (ZCK o (g.ls.trans a))
theorem ZxR:Low x c (ZbD z c):=by
 unfold ZbD;split <;> exact Low.of rfl rfl
theorem Zpp (f : ∀ z, z < m -> ∀ c, c.jy.length = 16 -> Low z c (W z c)) : ∀ (ts : List Nat) (c : Cq), (∀ t ∈ ts, t < m) -> c.jy.length = 16 -> Low m c (ts.foldl (fun c t => putQ jx W t c) c)
  | [],c,_,_=>Low.refl _ _
  | t :: ts, c, g, a => by
    have j:=g t (Yay ..);have i:=(ZmY (jx:=jx) (f t j) a).mono (show t+1<=m by omega);rw[Ybp];exact i.trans (Zpp f _ _ (fun t h=>g t (Yam _ h)) (i.ls.trans a))
theorem ZnB(g:NOk jx):∀(f n:Nat) (c:Cq),c.jy.length=16->Low n c (Zr jx f n c)
 | 0,n,c,_=>Low.refl _ _
 | f + 1, n, c, i => by
   have p:∀z,z<n->∀c,c.jy.length=16->Low z c _:=fun z _ c q=>ZnB g f z c q;have h:=Zcf g n;unfold Zr;simp only;split
   · rename_i j
     by_cases k:n<jx.length
     · obtain⟨a,b,l,o⟩:=(g n k).or (by simp_all)
       rw[show jx[n]=jx.getD n nq0 by simp[k]]at l o;rw[l,o];have r:Zg (jx.getD n nq0)=[a,b]:=by unfold Zg;rw[l,o]
       rw[r]at h;exact ZvJ g (h a (by simp)) (h b (by simp)) p i
     · rw[show jx.getD n _=nq0 by simp[k]]at j
       cases j
   · exact(Zpp p _ _ h i).trans (ZxR)
theorem ZkE(a:∀z c,cLe c (W z c)):∀(k:Nat) (c:Cq),cLe c (ZG jx W n k c)
 | 0,c=>cLe.refl _
 | k + 1, c => by
   unfold ZG;split
   · exact((show cLe c { c with jy:=c.jy.set _ _ } from cLe.refl c).trans (a _ _)).trans ((ZgP _ _ _).trans (ZkE a k _))
   · exact cLe.refl _
theorem ZvI(a:∀z c,cLe c (W z c)):cLe c (Zbo jx W x y c):=by
 unfold Zbo;simp only;have h:=((ZkE (jx:=jx) (n:=y) a (y+2) c).trans (Zg4 jx (a x) _)).trans (((Zeq 10 0 _).trans (Zeq 11 0 _)).trans (Zg4 jx (a y) _));exact⟨by simp only[Yat];exact h.1,h.2⟩
theorem Zqx(z:Nq):cLe c (ZbD z c):=by
 unfold ZbD;split
 ·exact⟨by simp[Zc],by simp[Zc]⟩
 ·exact Zeq _ _ _
theorem Zlz (a : ∀ z c, cLe c (W z c)) : ∀ (ts : List Nat) (c : Cq), cLe c (ts.foldl (fun c t => putQ jx W t c) c)
  | [],c=>cLe.refl _
  | t::ts,c=>by rw[Ybp];exact(Zg4 _ (a t) c).trans (Zlz a _ _)
theorem ZiK:∀(f n:Nat) (c:Cq),cLe c (Zr jx f n c)
 | 0,n,c=>cLe.refl _
 | f + 1, n, c => by
   have a:=fun z c=>ZiK f z c;unfold Zr;simp only;split
   · exact ZvI a
   · exact(Zlz a _ _).trans (Zqx _)
def Pre(c d:Cq):Prop:=c.jq <+: d.jq
theorem Pre.refl(c:Cq):Pre c c:=Ya8 _
theorem Pre.trans(h:Pre c d)(q:Pre d e):Pre c e:=Ydr h q
theorem Zb8(op arg:Nat)(c:Cq):Pre c (Zc op arg c):=Ydd _ _
theorem Zfq(n s:Nat)(c:Cq):Pre c (ZZ n s c):=Ydd _ _
theorem Zd9(a:∀c,Pre c (W n c))(c:Cq):Pre c (putQ jx W n c):=by
 have f:Pre c (decL n c):=Pre.refl c;cases g:ZK n c.jy with
 | some s=>
  rw[Zd8 g];split
  ·exact Zb8 _ s _
  ·exact Zb8 _ s _
 | none=>
  rw[ZdR g];split
  ·exact f.trans (a _)
  ·split
   ·exact(f.trans (a _)).trans ((Zfq _ _ _).trans (Zb8 _ _ _))
   ·exact f.trans (a _)
theorem ZfP(a:∀z c,Pre c (W z c)):∀(k:Nat) (c:Cq),Pre c (ZG jx W n k c)
 | 0,c=>Pre.refl _
 | k + 1, c => by
   unfold ZG;split
   · exact((show Pre c { c with jy:=c.jy.set _ _ } from Pre.refl c).trans (a _ _)).trans ((Zfq _ _ _).trans (ZfP a k _))
   · exact Pre.refl _
theorem ZB8{a b:List (Nat×Nat)}(h:a <+: b)(f:a.length<=i){v:Nat×Nat}:a <+: b.set i v:=by
 obtain⟨t,rfl⟩:=h
 simp_all
theorem ZoR(a:∀z c,Pre c (W z c)):Pre c (Zbo jx W x y c):=by
 unfold Zbo;simp only;have f:=(ZfP (jx:=jx) (n:=y) a (y+2) c).trans (Zd9 (jx:=jx) (a x) _);generalize putQ jx W x (ZG jx W y (y+2) c)=c1 at *
 have g:=f.trans (((Zb8 10 0 _).trans (Zb8 11 0 _)).trans (Zd9 (jx:=jx) (a y) _));exact ZB8 g f.length_le
theorem ZxS:Pre c (ZbD z c):=by
 unfold ZbD;split
 ·exact Zb8 0 _ _
 ·exact Zb8 _ _ _
theorem Zja (a : ∀ z c, Pre c (W z c)) : ∀ (ts : List Nat) (c : Cq), Pre c (ts.foldl (fun c t => putQ jx W t c) c)
  | [],c=>Pre.refl _
  | t::ts,c=>by rw[Ybp];exact(Zd9 (a t) c).trans (Zja a _ _)
theorem Zhm:∀(f n:Nat) (c:Cq),Pre c (Zr jx f n c)
 | 0,n,c=>Pre.refl _
 | f + 1, n, c => by
   have a:=fun z c=>Zhm f z c;unfold Zr;simp only;split
   · exact ZoR a
   · exact(Zja a _ _).trans (ZxS)
end
end
section
open Go.RowKit LS Go.Proofs.Tryz
section
variable {w w' w1 w2:World} {X:CX} {cv iv cv' iv':Value} {c c' d:Cq} {S S1:Nat->Prop} {W:Nat->Cq->Cq} {n:Nat}
theorem Zff{k:Nat}(h:ZbY jx n c=none∨ZbQ c.jy=none):ZG jx W n k c=c:=by
 cases k with
 | zero=>rfl
 | succ k=>
  unfold ZG;rcases h with h|h
  ·rw[h]
  ·rw[h];cases ZbY jx n c <;> rfl
theorem ZiP{k x:Nat}(h:ZbY jx n c=some x)(a:ZbQ c.jy=some s):ZG jx W n (k+1) c=ZG jx W n k (ZZ x s (W x { c with jy:=c.jy.set s (some (-1)) })):=by
 rw[ZG,h,a]
theorem CoP.tk(a:KeepS (fun j=>j=X.tb) w w1)(q:CoP w1 w2 X cv iv c):CoP w w2 X cv iv c:=CoP.trans (a.mono (fun _ e=>.inr (.inr (.inr (.inl e))))) (fun _ h=>.inl h) (fun _ h=>.inl h) q
theorem ZtG(hW:∀z,z<=n->z<X.jx.length->ZiO X W z)(hL:∀z,z<=n->∀c,c.jy.length=16->Low z c (W z c))(t:∀z c,cLe c (W z c))(h:Co w X cv iv c)(hn:n<X.jx.length)(V:Sml (ZG X.jx W n (n+2) c)) :
  CP 217 #[Vp X.cb,Vi n] w fun e w'=>e=.returned (.tuple #[])/\Hid (CoP w w' X cv iv (ZG X.jx W n (n+2) c)):=by
 have HW:=hid hW;have HL:=hid hL;have a0:=hid t;have q:=hid h;have m:=hid h.nok;have a8:=h.nsz;obtain⟨R,Y⟩:∃R,R=ZG X.jx W n (n+2) c:=⟨_,rfl⟩
 rw[<-Y]at V ⊢;have HS:=hid V;have HR:=hid Y;clear hW hL t h V Y;go_enter func217,ntmps217;go_wp2
 go_loopg [4] (n+2) (fun g _ wr=>∃(cz iz:Value) (d:Cq),Hid (Co wr X cz iz d)/\Hid (∀ {f:World} {e:Cq},CoP wr f X cz iz e->CoP w f X cv iv e)/\Hid (R=ZG X.jx W n g d)/\Hid (1<=g/\∀y,ZbY X.jx n d=some y->y+1<g))
 case atStart=>exact⟨cv,iv,c,q,hid id,HR,hid ⟨by omega,fun y Z=>by have:=(Zg9 m Z).1;omega⟩⟩
 case round=>
  obtain⟨cz,iz,d,q,HT,r,HG⟩:=hrel
  go_wp2_with fail
  refine(ZDb q n hn).mono ?_;rintro e w1 ⟨rfl,a,u⟩;have k:Hid (∀ {f:World} {e:Cq},CoP _ _ X _ _ e->CoP w f X _ _ e):=hid (fun h=>HT (CoP.tk u h));clear q HT u;have A:=hid (Zps a)
  go_wp2_with fail
  refine A.mono ?_;rintro e w2 ⟨rfl,rfl⟩;clear A;cases l:ZbY X.jx n d with
  | none=>
   simp only[nI];go_wp2;exact bodyPost_ret (results_none rfl _ _ _) rfl ⟨rfl,hid (by rw[r,Zff (.inl l)];exact k (CoP.refl a))⟩
  | some x=>
   have a9:(x:Int)≠-1:=by omega
   simp only[nI];cases o:ZbQ d.jy with
   | none=>
    simp only[Yb7,Yc9];go_wp2;exact bodyPost_ret (results_none rfl _ _ _) rfl ⟨rfl,hid (by rw[r,Zff (.inr o)];exact k (CoP.refl a))⟩
   | some s=>
    simp only[Yb0,Ya6];have p:=(ZdZ o).1;obtain⟨B,a1⟩:=Zg9 m.out l;obtain⟨g',a2⟩:∃g',gk=g'+1:=⟨gk - 1,by have:=HG.1;omega⟩
    subst a2;have C:=hid (HG.2 x l);have D:=hid (r.trans (ZiP l o));have E:=a.slen;have HF:=hid (fun y=>ZB9 (y:=y) m (HL x B) E l o);obtain⟨w3,a3,F,G⟩:=a.slotSet p (v:=-1) Dc;have H:=hid F;have I:Hid (∀ {f:World} {e:Cq},CoP _ _ X _ _ e->CoP w f X _ _ e):=hid (fun h=>k (CoP.trans G (fun _ h=>.inl h) (fun _ h=>.inl h) h));have m2:w2.cell? _=some _:=a.box.cell 2;have a4:=a.box.lt;clear F G E;have J:=hid (HS.of (D.out▸ZkE a0.out _ _));have a5:=hid (J.of (ZgP _ _ _));have K:=hid ((HW x B a1).2 _ _ _ _ H a5);clear l o HG r;generalize W x { d with jy:=d.jy.set s (some (-1)) }=d1 at *
    go_wp2_with fail
    refine K.mono ?_;rintro e w4 ⟨rfl,L⟩;obtain⟨cv4,iv4,M,N,i,j⟩:=L.out;have O:=hid M;have P:Hid (∀ {f:World} {e:Cq},CoP _ f X _ _ e->CoP w _ X _ _ e):=hid (fun h=>I (CoP.trans N i j h));clear M N i j L I H K a3 m2 a4 a k
    go_wp2_with fail
    refine(Zqf O x s (Yah (ZgP x s _).1 J.1) p Om).mono ?_;rintro e w5 ⟨rfl,Q⟩;obtain⟨cv5,iv5,T,U,i,j⟩:=Q.out;have a6:=hid T;have a7:Hid (∀ {f:World} {e:Cq},CoP _ f X _ _ e->CoP w _ X _ _ e):=hid (fun h=>P (CoP.trans U i j h));clear T U i j Q P O;go_wp2
    go_roundg g'
    case measure=>exact Ybd _
    case rel=>exact⟨cv5,iv5,_,a6,a7,D,hid ⟨by have:=C.out;omega,fun y Z=>by have:=HF y Z;have:=C.out;omega⟩⟩
end
