/- Parts. -/
import Derived.Test.YtkodhpilkaihjaaGreatDoorF27
import Derived.Test.YtkodhpilkaihjaaGreatDoorF18
import Derived.Test.YtkodhpilkaihjaaGreatDoorF15
import Derived.Test.YtkodhpilkaihjaaGreatDoorF19
import Derived.Test.YtkodhpilkaihjaaGreatDoorF21
import Derived.Test.YtkodhpilkaihjaaGreatDoorF32
import Derived.Test.YtkodhpilkaihjaaGreatDoorF26
set_option maxRecDepth 100000
set_option maxHeartbeats 16000000
namespace Go.Proofs.YtkodhpilkaihjaaGreatDoor
open Go.RowKit LS
open Go.ChangeMaps (setBlock)
def ZbC(w w':World):Prop:=∀(b:Nat) (c:Array Value) (T:TypeId) (fr:Nat×Nat),T≠365->T≠223->w.heap[b]?=some (.cells c T fr)->w'.heap[b]?=some (.cells c T fr)
theorem Zh.y{w w':World}(h:Zh w w'):ZbC w w':=fun b c T fr _ _ hb=>h b c T fr hb
theorem ZbC.trans{w w' w2:World}(h:ZbC w w')(k:ZbC w' w2):ZbC w w2:=fun b c T fr h1 h2 hb=>k b c T fr h1 h2 (h b c T fr h1 h2 hb)
theorem ZbC.below{w w':World}(h:Below w.heap.size w w'):ZbC w w':=(Zh.below h).y
theorem ZbC.own{w w':World}(h:ZbC w w'){base:Nat}{e:TypeId}{size:Nat}{v:Value}{n:Nat}{xs:List Value}(ho:w.ownsRow base e size v n xs)(h1:e≠365)(h2:e≠223):w'.ownsRow base e size v n xs:=by
 refine⟨ho.1,?_⟩
 rcases ho.2 with h3|⟨g,cap,cur,hv,hg,hh,r⟩
 ·exact Or.inl h3
 ·exact Or.inr ⟨g,cap,cur,hv,hg,h _ _ _ _ h1 h2 hh,r⟩
theorem SamV.y{w w':World}{av:Option Addr}{l:List (Int×Int)}(h:SamV w av l)(hk:ZbC w w'):SamV w' av l:=by
 rcases h with h|⟨g,off,h1,c,fr,h2,h3⟩
 ·exact Or.inl h
 ·exact Or.inr ⟨g,off,h1,c,fr,hk _ _ _ _ (by decide) (by decide) h2,h3⟩
theorem LbOk.y{w w':World}{a:Option Addr}{n c:Nat}{tx:ByteArray}{qs:List (ByteArray×ByteArray)}(h:LbOk w a n c tx qs)(hk:ZbC w w'):LbOk w' a n c tx qs:=⟨⟨hk.own h.row.1 (by decide) (by decide),h.row.2⟩,h.txt,h.wf⟩
theorem StrOk.y{w w':World}{s:Str}(h:StrOk w s)(hk:ZbC w w'):StrOk w' s:=⟨h.lb.y hk,h.sam.y hk,h.ne,h.len,h.ok⟩
theorem RngV.y{w w':World}{v:Value}{rs:List Str}(h:RngV w v rs)(hk:ZbC w w'):RngV w' v rs:=⟨hk.own h.row (by decide) (by decide),fun s hs=>(h.ok s hs).y hk⟩
theorem VecV.y{w w':World}{v:Value}{l:List El}{is:List Itm}(h:VecV w v l is)(hk:ZbC w w'):VecV w' v l is:=⟨hk.own h.row (by decide) (by decide),h.els,fun i hi=>⟨(h.ok i hi).lb.y hk,(h.ok i hi).vok⟩,h.len⟩
def PelV(w:World)(ser:List Ser)(t:Int)(v:Value):Cl->Prop
 | .val V=>ValP w v V
 | .rng a n=>∃rv rs,v=.iface 359 rv/\RngV w rv rs/\rs.map Str.pr=Zbq ser a n t
theorem PelV.y{w w':World}{ser:List Ser}{t:Int}{v:Value}(hk:ZbC w w'):∀ {y:Cl},PelV w ser t v y->PelV w' ser t v y
 | .val (.sc _),h=>h
 | .val (.vec _),⟨s,is,h1,h2⟩=>⟨s,is,h1,h2.y hk⟩
 | .rng _ _,⟨rv,rs,h1,h2,h3⟩=>⟨rv,rs,h1,h2.y hk,h3⟩
theorem PelV.shape{w:World}{ser:List Ser}{t:Int}{v:Value} : ∀ {y:Cl},PelV w ser t v y->∃ty u,v=.iface ty u
 | .val (.sc _),h=>⟨_,_,h.1⟩
 | .val (.vec _),⟨_,_,h1,_⟩=>⟨_,_,h1⟩
 | .rng _ _,⟨_,_,h1,_⟩=>⟨_,_,h1⟩
def PStk(w:World)(ser:List Ser)(t:Int):List Value->List Cl->Prop
 | [],[]=>True
 | v::vs,y::ys=>PelV w ser t v y/\PStk w ser t vs ys
 | _,_=>False
theorem PStk.y{w w':World}{ser:List Ser}{t:Int}(hk:ZbC w w'):∀ {vs:List Value} {ys:List Cl},PStk w ser t vs ys->PStk w' ser t vs ys
 | [],[],h=>h
 | _::_,_::_,⟨h4,h5⟩=>⟨h4.y hk,PStk.y hk h5⟩
theorem PStk.len{w:World}{ser:List Ser}{t:Int} : ∀ {vs:List Value} {ys:List Cl},PStk w ser t vs ys->vs.length=ys.length
 | [],[],_=>rfl
 | _::vs,_::ys,⟨_,h⟩=>by rw[List.length_cons,List.length_cons,PStk.len h]
def PSlo(w:World)(x:Nat)(ser:List Ser)(t:Int)(ss:List (Option Cl)):Prop:=∃gs es cl,MapI w x gs es cl/\∀j y,ss.getD j none=some y->∃v,getI gs j=some v/\PelV w ser t v y
theorem PSlo.y{w w':World}{x:Nat}{ser:List Ser}{t:Int}{ss:List (Option Cl)}(h:PSlo w x ser t ss)(hk:ZbC w w')(hx:w'.heap[x]?=w.heap[x]?):PSlo w' x ser t ss:=by
 obtain⟨gs,es,cl,h1,h2⟩:=h
 exact⟨gs,es,cl,h1.moved hx,fun j y hy=>(h2 j y hy).elim fun v hv=>⟨v,hv.1,hv.2.y hk⟩⟩
structure PInv (w0 wk w:World) (mb x gb gx:Nat) (c0 c1 c2 c3 al:Value) (t:Int) (ser:List Ser) (m:MQ) (sa:Option Addr) (sn sc:Nat) (vs:List Value):Prop where
 st:PSt w w0.heap.size mb c0 c1 c2 c3 al t (.map (some x)) (.pointer (some ⟨gb,0,none⟩)) sa sn sc vs.reverse
 slo:PSlo w x ser t m.slots
 gr:BAt w gb [.map (some gx)] 339
 gm:MapX w gx
 stk:PStk w ser t vs m.stack
 bel:Below w0.heap.size w0 w
 lm:w0.heap.size<=mb
 lx:w0.heap.size<=x
 lg:w0.heap.size<=gx
 ne:x≠gx
 ky:ZbC wk w
theorem Zhe {w : World} {a b : Nat} {es : Array MapEntry} {cl : Nat} {c : Array Value} {T : TypeId} {fr : Nat × Nat} (h : w.heap[a]? = some (.map es cl)) (k : w.heap[b]? = some (.cells c T fr)) : a ≠ b := fun e => by
  rw[e,k]at h;injection h with h;cases h
theorem ZiI {w : World} {a b : Nat} {es : Array MapEntry} {cl : Nat} {e : TypeId} {sz : Nat} {v : Value} {n : Nat} {xs : List Value} (h : w.heap[a]? = some (.map es cl)) (k : w.ownsRow b e sz v n xs) : some a ≠ v.ownBlock := fun e => by
  rcases k.2 with ⟨k2,_⟩|⟨g,cap,cur,hv,_,hg,_⟩
  · rw[k2]at e;cases e
  · rw[hv]at e
    have e2:some a=some g:=e
    injection e2 with e2
    exact Zhe h hg e2
theorem MKeep.y{w w':World}{mb:Nat}{c:List Value}{st:Value}{base n:Nat}{xs:List Value}(h:MKeep w w' mb st)(hb:BAt w mb c 365)(ho:w.ownsRow base 223 1 st n xs):ZbC w w':=fun b c2 T fr h1 h2 hq=>
 (h.block b (Array.getElem?_eq_some_iff.1 hq).1 (fun e => by
   rw[e]at hq
   have:=hq.symm.trans hb
   injection this with this
   injection this with _ this _
   exact h1 this) (ZcA ho hq h2)).trans hq
theorem MKeep.ofG{w w':World}{mb:Nat}(h:w.grownBy w' (some mb))(st:Value):MKeep w w' mb st:=⟨h.os,h.tape,h.output,h.size,fun k hk h1 _=>h.block k hk (fun e=>h1 (Option.some.inj e))⟩
theorem PInv.below{w0 wk w w':World}{mb x gb gx:Nat}{c0 c1 c2 c3 al:Value}{t:Int}{ser:List Ser}{m:MQ}{sa:Option Addr}{sn sc:Nat}{vs:List Value}(h:PInv w0 wk w mb x gb gx c0 c1 c2 c3 al t ser m sa sn sc vs)(hb:Below w.heap.size w w'):PInv w0 wk w' mb x gb gx c0 c1 c2 c3 al t ser m sa sn sc vs:=by
 have hxl:x<w.heap.size:=by
  obtain⟨gs,es,cl,h1,_⟩:=h.slo
  exact(Array.getElem?_eq_some_iff.1 h1.heap).1
 exact⟨h.st.below hb,h.slo.y (ZbC.below hb) (hb.block x hxl),h.gr.below hb,h.gm.below hb,h.stk.y (ZbC.below hb),h.bel.trans (hb.mono h.bel.size),h.lm,h.lx,h.lg,h.ne,h.ky.trans (ZbC.below hb)⟩
theorem PInv.num{w0 wk w:World}{mb x gb gx:Nat}{c0 c1 c2 c3 al:Value}{t:Int}{ser:List Ser}{m:MQ}{sa:Option Addr}{sn sc:Nat}{vs:List Value}(h:PInv w0 wk w mb x gb gx c0 c1 c2 c3 al t ser m sa sn sc vs):sn=m.stack.length:=by
 rw[<-h.stk.len,<-h.st.len,List.length_reverse]
theorem PInv.moved{w0 wk w w':World}{mb x gb gx:Nat}{c0 c1 c2 c3 al:Value}{t:Int}{ser:List Ser}{m:MQ}{sa:Option Addr}{sn sc:Nat}{vs:List Value}(h:PInv w0 wk w mb x gb gx c0 c1 c2 c3 al t ser m sa sn sc vs)(hk:MKeep w w' mb (.slice sa sn sc)){sa':Option Addr}{sn' sc':Nat}{vs':List Value}{ys':List Cl}(hst:PSt w' w0.heap.size mb c0 c1 c2 c3 al t (.map (some x)) (.pointer (some ⟨gb,0,none⟩)) sa' sn' sc' vs'.reverse)(hs:PStk w ser t vs' ys'):PInv w0 wk w' mb x gb gx c0 c1 c2 c3 al t ser ⟨ys',m.slots⟩ sa' sn' sc' vs':=by
 have hy:=hk.y h.st.box h.st.own
 have hmap:∀ {a:Nat} {es:Array MapEntry} {cl:Nat},w.heap[a]?=some (.map es cl)->w'.heap[a]?=w.heap[a]?:=fun ha=>hk.block _ (Array.getElem?_eq_some_iff.1 ha).1 (Zhe ha h.st.box) (ZiI ha h.st.own)
 refine⟨hst,?_,hy _ _ _ _ (by decide) (by decide) h.gr,?_,hs.y hy,hk.below h.bel h.lm (fun k e=>(h.st.own.lt k e).1),h.lm,h.lx,h.lg,h.ne,h.ky.trans hy⟩
 ·obtain⟨gs,es,cl,h1,h2⟩:=h.slo
  exact PSlo.y ⟨gs,es,cl,h1,h2⟩ hy (hmap h1.heap)
 ·obtain⟨es,cl,h1⟩:=h.gm
  exact⟨es,cl,(hmap h1).trans h1⟩
theorem PInv.popped{w0 wk w w':World}{mb x gb gx:Nat}{c0 c1 c2 c3 al:Value}{t:Int}{ser:List Ser}{y:Cl}{ys:List Cl}{ss:List (Option Cl)}{sa:Option Addr}{n sc:Nat}{v:Value}{vs:List Value}(h:PInv w0 wk w mb x gb gx c0 c1 c2 c3 al t ser ⟨y::ys,ss⟩ sa (n+1) sc (v::vs))(hst:PSt w' w0.heap.size mb c0 c1 c2 c3 al t (.map (some x)) (.pointer (some ⟨gb,0,none⟩)) sa n sc vs.reverse)(hg:w.grownBy w' (some mb)):PInv w0 wk w' mb x gb gx c0 c1 c2 c3 al t ser ⟨ys,ss⟩ sa n sc vs/\PelV w' ser t v y:=
 ⟨h.moved (MKeep.ofG hg _) hst h.stk.2,h.stk.1.y ((MKeep.ofG hg _).y h.st.box h.st.own)⟩
theorem PInv.pushed{w0 wk w w':World}{mb x gb gx:Nat}{c0 c1 c2 c3 al:Value}{t:Int}{ser:List Ser}{m:MQ}{sa:Option Addr}{sn sc:Nat}{vs:List Value}(h:PInv w0 wk w mb x gb gx c0 c1 c2 c3 al t ser m sa sn sc vs){v:Value}{y:Cl}(hv:PelV w ser t v y){ga nc:Nat}(hst:PSt w' w0.heap.size mb c0 c1 c2 c3 al t (.map (some x)) (.pointer (some ⟨gb,0,none⟩)) (some ⟨ga,0,none⟩) (sn+1) nc (vs.reverse++[v]))(hk:MKeep w w' mb (.slice sa sn sc)):PInv w0 wk w' mb x gb gx c0 c1 c2 c3 al t ser ⟨y::m.stack,m.slots⟩ (some ⟨ga,0,none⟩) (sn+1) nc (v::vs):=
 h.moved hk (by rw[List.reverse_cons];exact hst) ⟨hv,h.stk⟩
theorem PInv.belX{w0 wk w w':World}{mb x gb gx:Nat}{c0 c1 c2 c3 al:Value}{t:Int}{ser:List Ser}{m:MQ}{sa:Option Addr}{sn sc:Nat}{vs:List Value}(h:PInv w0 wk w mb x gb gx c0 c1 c2 c3 al t ser m sa sn sc vs)(hb:BelX gx w.heap.size w w')(hm:MapX w' gx):PInv w0 wk w' mb x gb gx c0 c1 c2 c3 al t ser m sa sn sc vs:=by
 have hc:=Zh.belX hb h.gm
 have hxl:x<w.heap.size:=by
  obtain⟨gs,es,cl,h1,_⟩:=h.slo
  exact(Array.getElem?_eq_some_iff.1 h1.heap).1
 exact⟨⟨hc _ _ _ _ h.st.box,hc.own h.st.own,h.st.len⟩,h.slo.y hc.y (hb.block x hxl h.ne),hc _ _ _ _ h.gr,hm,h.stk.y hc.y,h.bel.trans ((hb.mono h.bel.size).below h.lg),h.lm,h.lx,h.lg,h.ne,h.ky.trans hc.y⟩
theorem PInv.stored{w0 wk w w':World}{mb x gb gx:Nat}{c0 c1 c2 c3 al:Value}{t:Int}{ser:List Ser}{m:MQ}{sa:Option Addr}{sn sc:Nat}{vs:List Value}(h:PInv w0 wk w mb x gb gx c0 c1 c2 c3 al t ser m sa sn sc vs){o:Obj}(hw:w'=setBlock w x o){ss:List (Option Cl)}(hs:PSlo w' x ser t ss):PInv w0 wk w' mb x gb gx c0 c1 c2 c3 al t ser ⟨m.stack,ss⟩ sa sn sc vs:=by
 have hx:=BelX.set x w.heap.size w o
 rw[<-hw]at hx
 have hmx:MapX w x:=by
  obtain⟨gs,es,cl,h1,_⟩:=h.slo
  exact⟨es,cl,h1.heap⟩
 have hc:=Zh.belX hx hmx
 refine⟨⟨hc _ _ _ _ h.st.box,hc.own h.st.own,h.st.len⟩,hs,hc _ _ _ _ h.gr,?_,h.stk.y hc.y,h.bel.trans ((hx.mono h.bel.size).below h.lx),h.lm,h.lx,h.lg,h.ne,h.ky.trans hc.y⟩
 obtain⟨es,cl,h1⟩:=h.gm
 exact⟨es,cl,(hx.block gx (Array.getElem?_eq_some_iff.1 h1).1 (fun e=>h.ne e.symm)).trans h1⟩
theorem PInv.top{w0 wk w:World}{mb x gb gx:Nat}{c0 c1 c2 c3 al:Value}{t:Int}{ser:List Ser}{m:MQ}{sa:Option Addr}{sn sc:Nat}{vs:List Value}(h:PInv w0 wk w mb x gb gx c0 c1 c2 c3 al t ser m sa sn sc vs){y:Cl}{ys:List Cl}(hs:m.stack=y::ys):∃v vs' n,vs=v::vs'/\sn=n+1/\PelV w ser t v y/\n=ys.length:=by
 have hk:=h.stk
 rw[hs]at hk
 cases vs with
 | nil=>exact absurd hk id
 | cons v vs=>
  have hn:=h.num
  rw[hs,List.length_cons]at hn
  exact⟨v,vs,ys.length,rfl,hn,hk.1,rfl⟩
def Zny(w0 wk w':World)(mb x gb gx:Nat)(c0 c1 c2 c3 al:Value)(t:Int)(ser:List Ser)(m:MQ):Prop:=∃sa sn sc vs,PInv w0 wk w' mb x gb gx c0 c1 c2 c3 al t ser m sa sn sc vs
theorem PInv.re{w0 wk w:World}{mb x gb gx:Nat}{c0 c1 c2 c3 al:Value}{t:Int}{ser:List Ser}{m:MQ}{sa:Option Addr}{sn sc:Nat}{vs:List Value}(h:PInv w0 wk w mb x gb gx c0 c1 c2 c3 al t ser m sa sn sc vs):PInv w0 w w mb x gb gx c0 c1 c2 c3 al t ser m sa sn sc vs:=⟨h.st,h.slo,h.gr,h.gm,h.stk,h.bel,h.lm,h.lx,h.lg,h.ne,ZbC.below (Below.refl _ _)⟩
def DecC(w:World)(A:Nat->Addr)(r:Except (Nat×Nat) CodeQ)(v err:Value):Prop:=match r with
 | .ok c=>err=.nilIface/\CodV w c v
 | .error x=>v=.agg #[.slice none 0 0,.slice none 0 0,.slice none 0 0,.slice none 0 0]/\((x.1=9/\ZB w err x.2 (A 8))∨(x=(10,0)/\err=.iface 491 (.pointer (some (A 9)))))
theorem DecC.mkOk{w:World}{A:Nat->Addr}{r:Except (Nat×Nat) CodeQ}{v err:Value}{c:CodeQ}(hr:r=.ok c)(h:err=.nilIface/\CodV w c v):DecC w A r v err:=by subst hr;exact h
theorem DecC.mkErr{w:World}{A:Nat->Addr}{r:Except (Nat×Nat) CodeQ}{v err:Value}{x:Nat×Nat}(hr:r=.error x)(h:v=.agg #[.slice none 0 0,.slice none 0 0,.slice none 0 0,.slice none 0 0]/\((x.1=9/\ZB w err x.2 (A 8))∨(x=(10,0)/\err=.iface 491 (.pointer (some (A 9)))))):DecC w A r v err:=by subst hr;exact h
theorem Ze6{w0 w:World}{a:Nat}(h:Below w0.heap.size w0 w)(ha:w0.heap.size<=a)(x y z u:Value):Below w0.heap.size w0 (set4 w a x y z u):=
 (((h.setCell (p:=⟨a,0,none⟩) ha _).setCell (p:=⟨a,1,none⟩) ha _).setCell (p:=⟨a,2,none⟩) ha _).setCell (p:=⟨a,3,none⟩) ha _
theorem CodV.shape{w:World}{c:CodeQ}{v:Value}(h:CodV w c v):∃(a0 a1 a2 a3:Option Addr) (n0 n1 n2 n3 c0 c1 c2 c3:Nat),v=.agg #[.slice a0 n0 c0,.slice a1 n1 c1,.slice a2 n2 c2,.slice a3 n3 c3]:=by
 obtain⟨cv,pv,gv,iv,rfl,h⟩:=h
 obtain⟨a0,c0,rfl⟩:=h.cs.shape
 obtain⟨a1,c1,rfl⟩:=h.ps.shape
 obtain⟨a2,c2,rfl⟩:=h.gs.shape
 obtain⟨a3,c3,rfl⟩:=h.is.shape
 exact⟨_,_,_,_,_,_,_,_,_,_,_,_,rfl⟩
theorem CodV.below{w w':World}{l:CodeQ}{v:Value}(h:CodV w l v)(hb:Below w.heap.size w w'):CodV w' l v:=by
 obtain⟨cv,pv,gv,iv,e,h⟩:=h
 refine⟨cv,pv,gv,iv,e,Zm h.cs hb,?_,?_,Zm h.is hb⟩
 ·obtain⟨xs,h1,h2,h3⟩:=h.ps;exact⟨xs,Zm h1 hb,h2,fun x hx=>(h3 x hx).below hb⟩
 ·obtain⟨xs,h1,h2,h3⟩:=h.gs;exact⟨xs,Zm h1 hb,h2,fun x hx=>(h3 x hx).below hb⟩
theorem ZB.kept1{w w':World}{v:Value}{p:Int}{a:Addr}(h:ZB w v p a){b:Nat}{c:List Value}{t:TypeId}(hq:BAt w b c t)(hg:w.grownBy w' (some b))(he:t≠119):ZB w' v p a:=h.grown hg hq he
theorem Zn7{l:List UInt8}{x:CodeQ×Nat}(h:Zbv l=.ok x):x.2<=l.length:=by
 unfold Zbv at h
 cases hh:Zcy l with
 | error e=>rw[hh]at h;cases h
 | ok n=>
  rw[hh]at h
  have h9:9<=l.length:=by
   unfold Zcy at hh
   split at hh
   ·cases hh
   ·split at hh
    ·cases hh
    ·omega
  simp only at h
  cases h1:many (Zbw l) 9 n.1 with
  | error e=>rw[h1]at h;cases h
  | ok cs=>
   rw[h1]at h
   simp only at h
   have g1:=ZeF (n:=l.length) (fun p x h=>Zh9 h) h9 h1
   cases h2:many (Zbz l) cs.2 n.2.1 with
   | error e=>rw[h2]at h;cases h
   | ok ps=>
    rw[h2]at h
    simp only at h
    have g2:=ZeF (n:=l.length) (fun p x h=>ZiW h) g1 h2
    cases h3:many (Zbx l) ps.2 n.2.2.1 with
    | error e=>rw[h3]at h;cases h
    | ok gs=>
     rw[h3]at h
     simp only at h
     have g3:=ZeF (n:=l.length) (fun p x h=>Zir h) g2 h3
     cases h4:many (Zbi l) gs.2 n.2.2.2 with
     | error e=>rw[h4]at h;cases h
     | ok is=>
      rw[h4]at h
      injection h with h
      subst h
      exact ZeF (n:=l.length) (fun p x h=>(Zg0 h).1) g3 h4
theorem Zts(s:ByteArray)(A:Nat->Addr)(m:Int)(w:World)(hv:Vars w A m)(ht:Zx w)(hB:20<=w.heap.size)(hs:s.size<=maxLen) :
  Calls Tryz.prog 38 #[.string s] w fun e w'=>∃v err,e=.returned (.tuple #[v,err])/\Hid (DecC w' A (Zbg (bl s)) v err)/\Below w.heap.size w w':=by
 have HGD:Hid (Ground w A m (w.heap.size+1)):=hid ⟨hv,ht,hB,by omega⟩
 have HSZ:=hid hs
 have hs':=hs
 unfold maxLen at hs'
 clear hv ht hB hs
 go_enter Tryz.func38,Tryz.ntmps38
 go_wp2_with fail
 refine Zn fun W hW=>?_
 have hbW:Below w.heap.size w W:=by rw[hW];exact Zbal.alloc (by simp) _
 have HXW:Hid (BAt W w.heap.size [.slice none 0 0,.slice none 0 0,.slice none 0 0,.slice none 0 0] 58):=hid (by
  rw[hW];exact(Zbal.block _ (by simp)).trans (Go.Deep.blk_alloc_new _ _))
 have HRW:Hid (RdAt W (w.heap.size+1) s 0):=hid (by
  rw[hW];have:=Go.Deep.blk_alloc_new (w.alloc (.cells #[.slice none 0 0,.slice none 0 0,.slice none 0 0,.slice none 0 0] 58)) (.cells #[.string s,.int .i64 0] 178);rwa [Go.Deep.nblk_alloc]at this)
 have HBW:=hid hbW
 clear hW hbW
 refine(ZtG s (w.heap.size+1) A m w W HGD.out HSZ.out HBW.out HRW.out).mono ?_
 rintro e w1 ⟨v,err,rfl,HC,hg1⟩
 have HB1:Hid (Below w.heap.size w w1):=hid (ZbQ HBW.out hg1 HGD.b)
 have HX1:=hid (HXW.grown hg1 (by intro e;injection e with e;omega))
 clear hg1 HXW HRW HBW
 cases hb:Zbv (bl s)with
 | error x=>
  obtain⟨fa,rfl⟩:=HC.errShape hb
  obtain⟨hx1,hx2,⟨a0,a1,a2,a3,n0,n1,n2,n3,e0,e1,e2,e3,rfl⟩,_⟩:=HC.err hb
  have HD:Hid (Zbg (bl s)=.error x):=hid (by rw[Zkg,hb])
  have HE:=hid hx2
  have HX9:=hid hx1
  have hx1l:=HX1.lt
  clear HC hb hx1 hx2
  have f0:=HX1.frozen 0
  have f1:=HX1.frozen 1
  have f2:=HX1.frozen 2
  have f3:=HX1.frozen 3
  have c0:=HX1.cell 0
  have c1:=HX1.cell 1
  have c2:=HX1.cell 2
  have c3:=HX1.cell 3
  simp only[Zget]at c0 c1 c2 c3
  go_wp2
  change bodyPost _ _ _ _ _ ((set4 w1 w.heap.size (.slice none 0 0) (.slice none 0 0) (.slice none 0 0) (.slice none 0 0)).alloc (.cells #[.slice a0 n0 e0,.slice a1 n1 e1,.slice a2 n2 e2,.slice a3 n3 e3] 58))
  have st:=(Zdh HX1.out (x:=.slice none 0 0) (y:=.slice none 0 0) (z:=.slice none 0 0) (u:=.slice none 0 0)).below ((Below.refl _ _).alloc (Nat.le_refl _) (.cells #[.slice a0 n0 e0,.slice a1 n1 e1,.slice a2 n2 e2,.slice a3 n3 e3] 58))
  have s0:=st.cell 0
  have s1:=st.cell 1
  have s2:=st.cell 2
  have s3:=st.cell 3
  simp only[Zget]at s0 s1 s2 s3
  have HBX:=hid ((Ze6 HB1.out (Nat.le_refl _) (.slice none 0 0) (.slice none 0 0) (.slice none 0 0) (.slice none 0 0)).alloc (Ze6 HB1.out (Nat.le_refl _) (.slice none 0 0) (.slice none 0 0) (.slice none 0 0) (.slice none 0 0)).size (.cells #[.slice a0 n0 e0,.slice a1 n1 e1,.slice a2 n2 e2,.slice a3 n3 e3] 58))
  have HE2:=hid ((HE.kept1 HX1.out (Zcg w1 w.heap.size (.slice none 0 0) (.slice none 0 0) (.slice none 0 0) (.slice none 0 0)) (by decide)).below ((Below.refl _ _).alloc (Nat.le_refl _) (.cells #[.slice a0 n0 e0,.slice a1 n1 e1,.slice a2 n2 e2,.slice a3 n3 e3] 58)))
  generalize(set4 w1 w.heap.size (.slice none 0 0) (.slice none 0 0) (.slice none 0 0) (.slice none 0 0)).alloc (.cells #[.slice a0 n0 e0,.slice a1 n1 e1,.slice a2 n2 e2,.slice a3 n3 e3] 58)=WX at *
  exact bodyPost_ret (v:=.tuple #[.agg #[.slice none 0 0,.slice none 0 0,.slice none 0 0,.slice none 0 0],.iface 115 (.pointer (some ⟨fa,0,none⟩))]) (by simp[results,Tryz.results38,go_sem,s0,s1,s2,s3]) rfl ⟨_,_,rfl,hid (DecC.mkErr HD.out ⟨rfl,Or.inl ⟨HX9.out,HE2.out⟩⟩),HBX.out⟩
 | ok x=>
  obtain⟨c,q⟩:=x
  obtain⟨rfl,hcv,hrd⟩:=HC.ok hb
  obtain⟨a0,a1,a2,a3,n0,n1,n2,n3,e0,e1,e2,e3,rfl⟩:=hcv.shape
  have hq:=Zn7 hb
  simp only at hq hrd hcv
  rw[Ze]at hq
  have HRD:=hid hrd
  have HCV:=hid hcv
  have HDB:Hid (Zbg (bl s)=if (bl s).length<q+4 then .error (9,(bl s).length)else if q+4<(bl s).length then .error (9,q+4)else
    if back ((bl s).drop q)≠sumQ ((bl s).take q)then .error (10,0)else .ok c):=hid (by rw[Zkg,hb])
  have rc:=hrd.cell 1
  simp only[Zget]at rc
  have hx1l:=HX1.lt
  have hrl:=hrd.lt
  clear HC hb hrd hcv
  go_wp2_with fail
  refine Zn fun W2 hW2=>?_
  have hb2:Below w1.heap.size w1 W2:=by rw[hW2];exact Zbal
  have HB2:Hid (Below w.heap.size w W2):=hid (HB1.trans (hb2.mono HB1.size))
  have HX2:=hid (HX1.below hb2)
  have HR2:=hid (HRD.below hb2)
  have HY2:Hid (BAt W2 w1.heap.size [.slice a0 n0 e0,.slice a1 n1 e1,.slice a2 n2 e2,.slice a3 n3 e3] 58):=hid (by rw[hW2];exact Go.Deep.blk_alloc_new _ _)
  have HCV2:=hid (HCV.below hb2)
  clear hW2 hb2 rc HX1 HB1 HRD HCV
  refine(Zgb s q 4 (w.heap.size+1) _ W2 HR2.out (HGD.code HB2.out) hq HSZ.out (by omega)).mono ?_
  rintro e w3 ⟨v,err,rfl,HC,hg3⟩
  have HB3:Hid (Below w.heap.size w w3):=hid (ZbQ HB2.out hg3 HGD.b)
  have HX3:=hid (HX2.grown hg3 (by intro e;injection e with e;omega))
  have HY3:=hid (HY2.grown hg3 (by intro e;injection e with e;omega))
  have HCV3:=hid (HCV2.kept1 HR2.out hg3 (by decide) (by decide) (by decide) (by decide) (by decide) (by decide))
  have hx3l:=HX3.lt
  have hy3l:=HY3.lt
  clear hg3 HX2 HY2 HCV2 HR2 HB2
  have f0:=HX3.frozen 0
  have f1:=HX3.frozen 1
  have f2:=HX3.frozen 2
  have f3:=HX3.frozen 3
  have c0:=HX3.cell 0
  have c1:=HX3.cell 1
  have c2:=HX3.cell 2
  have c3:=HX3.cell 3
  simp only[Zget]at c0 c1 c2 c3
  cases hn:Z8 (bl s) q 4 with
  | error x=>
   obtain⟨fa,rfl⟩:=HC.errShape hn
   obtain⟨hx1,hx2,rfl,_⟩:=HC.err hn
   have hxe:x=(9,(bl s).length)/\(bl s).length<q+4:=by
    unfold Z8 at hn
    cases ht:ZbT (bl s) q 4 with
    | ok y=>rw[ht]at hn;cases hn
    | error y=>
     rw[ht]at hn
     injection hn with hn
     unfold ZbT at ht
     split at ht
     ·injection ht with ht;exact⟨by rw[<-hn,<-ht],by assumption⟩
     ·cases ht
   have HD:Hid (Zbg (bl s)=.error x):=hid (by rw[HDB.out,if_pos hxe.2,hxe.1])
   have HE:=hid hx2
   have HX9:=hid hx1
   clear HC hn hx1 hx2 hxe HDB
   go_wp2
   change bodyPost _ _ _ _ _ (set4 w3 w.heap.size (.slice none 0 0) (.slice none 0 0) (.slice none 0 0) (.slice none 0 0))
   have st:=Zdh HX3.out (x:=.slice none 0 0) (y:=.slice none 0 0) (z:=.slice none 0 0) (u:=.slice none 0 0)
   have s0:=st.cell 0
   have s1:=st.cell 1
   have s2:=st.cell 2
   have s3:=st.cell 3
   simp only[Zget]at s0 s1 s2 s3
   have HBX:=hid (Ze6 HB3.out (Nat.le_refl _) (.slice none 0 0) (.slice none 0 0) (.slice none 0 0) (.slice none 0 0))
   have HE2:=hid (HE.kept1 HX3.out (Zcg w3 w.heap.size (.slice none 0 0) (.slice none 0 0) (.slice none 0 0) (.slice none 0 0)) (by decide))
   generalize set4 w3 w.heap.size (.slice none 0 0) (.slice none 0 0) (.slice none 0 0) (.slice none 0 0)=WX at *
   exact bodyPost_ret (v:=.tuple #[.agg #[.slice none 0 0,.slice none 0 0,.slice none 0 0,.slice none 0 0],.iface 115 (.pointer (some ⟨fa,0,none⟩))]) (by simp[results,Tryz.results38,go_sem,s0,s1,s2,s3]) rfl ⟨_,_,rfl,hid (DecC.mkErr HD.out ⟨rfl,Or.inl ⟨HX9.out,HE2.out⟩⟩),HBX.out⟩
  | ok x=>
   obtain⟨n,q2⟩:=x
   obtain⟨rfl,rfl,hr3⟩:=HC.ok hn
   obtain⟨hn1,hn2,hn3,hn4⟩:=Zd3 hn
   simp only at hn1 hn2 hn3 hn4 hr3
   have hn4:n<4294967296:=hn4
   rw[Ze]at hn1
   have HR3:=hid hr3
   have HNN:=hid hn2
   have rc:=hr3.cell 1
   simp only[Zget]at rc
   have HQ2:=hid hn3
   have hq2:q2=q+4:=hn3
   clear HC hn hn2 hn3 hr3
   by_cases hlt:q2<s.size
   ·have HD:Hid (Zbg (bl s)=.error (9,q2)):=hid (by rw[HDB.out,if_neg (by rw[Ze];omega),if_pos (by rw[Ze];omega),hq2])
    have hlz:(q2:Int)<s.size:=by omega
    clear HDB hq2
    go_wp2_with fail
    refine(ZeO _ _ _ (HGD.code HB3.out)).mono ?_
    rintro e w4 ⟨v,rfl,hv,hb4⟩
    have HE:=hv
    have HB4:Hid (Below w.heap.size w w4):=hid (HB3.trans (hb4.mono HB3.size))
    have HX4:=hid (HX3.below hb4)
    obtain⟨fa,rfl⟩:=ZB.shape hv.out
    clear hb4 HX3 f0 f1 f2 f3 c0 c1 c2 c3 rc hv
    have f0:=HX4.frozen 0
    have f1:=HX4.frozen 1
    have f2:=HX4.frozen 2
    have f3:=HX4.frozen 3
    have c0:=HX4.cell 0
    have c1:=HX4.cell 1
    have c2:=HX4.cell 2
    have c3:=HX4.cell 3
    simp only[Zget]at c0 c1 c2 c3
    go_wp2
    change bodyPost _ _ _ _ _ (set4 w4 w.heap.size (.slice none 0 0) (.slice none 0 0) (.slice none 0 0) (.slice none 0 0))
    have st:=Zdh HX4.out (x:=.slice none 0 0) (y:=.slice none 0 0) (z:=.slice none 0 0) (u:=.slice none 0 0)
    have s0:=st.cell 0
    have s1:=st.cell 1
    have s2:=st.cell 2
    have s3:=st.cell 3
    simp only[Zget]at s0 s1 s2 s3
    have HBX:=hid (Ze6 HB4.out (Nat.le_refl _) (.slice none 0 0) (.slice none 0 0) (.slice none 0 0) (.slice none 0 0))
    have HE2:=hid (HE.kept1 HX4.out (Zcg w4 w.heap.size (.slice none 0 0) (.slice none 0 0) (.slice none 0 0) (.slice none 0 0)) (by decide))
    generalize set4 w4 w.heap.size (.slice none 0 0) (.slice none 0 0) (.slice none 0 0) (.slice none 0 0)=WX at *
    exact bodyPost_ret (v:=.tuple #[.agg #[.slice none 0 0,.slice none 0 0,.slice none 0 0,.slice none 0 0],.iface 115 (.pointer (some ⟨fa,0,none⟩))]) (by simp[results,Tryz.results38,go_sem,s0,s1,s2,s3]) rfl ⟨_,_,rfl,hid (DecC.mkErr HD.out ⟨rfl,Or.inl ⟨rfl,HE2.out⟩⟩),HBX.out⟩
   ·have hlz:¬(q2:Int)<s.size:=by omega
    have hqs:q+4=s.size:=by omega
    have hbody:bl (s.extract 0 q)=(bl s).take q:=by rw[Zex];rfl
    have hsub:sub (bl s) q 4=(bl s).drop q:=by unfold sub;exact List.take_of_length_le (by rw[List.length_drop,Ze];omega)
    have hQ:=Zu6 ((bl s).take q)
    have HDB2:Hid (Zbg (bl s)=if n≠sumQ ((bl s).take q)then .error (10,0)else .ok c):=hid (by rw[HDB.out,if_neg (by rw[Ze];omega),if_neg (by rw[Ze];omega),HNN.out,hsub])
    have hes:(s.extract 0 q).size<=maxLen:=by unfold maxLen;rw[ByteArray.size_extract];omega
    obtain⟨SQ,hSQ⟩:∃SQ,SQ=sumQ ((bl s).take q):=⟨_,rfl⟩
    have HPS:Hid (∀W',Calls Tryz.prog 77 #[.string (s.extract 0 q)] W' fun e w'=>e=.returned (.int .u32 SQ)/\w'=W'):=hid (fun W'=>by rw[hSQ,<-hbody];exact ZsL (s.extract 0 q) W' hes)
    rw[<-hSQ]at HDB2 hQ
    have HSM:=hid (HGD.v.below HB3.out)
    have gs:w3.cell? ⟨9,0,none⟩=some (.iface 491 (.pointer (some (A 9)))):=HSM.sent _ (by decide)
    clear HDB hsub hbody hSQ HNN hes hq2
    by_cases he:n=SQ
    ·subst he
     have HD:Hid (Zbg (bl s)=.ok c):=hid (by rw[HDB2.out,if_neg (by simp)])
     have hne:(((n:Int) % 4294967296) != (n:Int))=false:=by rw[Int.emod_eq_of_lt (by omega) (by omega)];simp
     have y0:=HY3.cell 0
     have y1:=HY3.cell 1
     have y2:=HY3.cell 2
     have y3:=HY3.cell 3
     simp only[Zget]at y0 y1 y2 y3
     clear HDB2 gs
     go_wp2_with (go_at_call 77;refine(HPS.out _).mono ?_;rintro e wq ⟨rfl,rfl⟩)
     change bodyPost _ _ _ _ _ (set4 wq w.heap.size (.slice a0 n0 e0) (.slice a1 n1 e1) (.slice a2 n2 e2) (.slice a3 n3 e3))
     have st:=Zdh HX3.out (x:=.slice a0 n0 e0) (y:=.slice a1 n1 e1) (z:=.slice a2 n2 e2) (u:=.slice a3 n3 e3)
     have s0:=st.cell 0
     have s1:=st.cell 1
     have s2:=st.cell 2
     have s3:=st.cell 3
     simp only[Zget]at s0 s1 s2 s3
     have HBX:=hid (Ze6 HB3.out (Nat.le_refl _) (.slice a0 n0 e0) (.slice a1 n1 e1) (.slice a2 n2 e2) (.slice a3 n3 e3))
     have HE2:=hid (HCV3.kept1 HX3.out (Zcg wq w.heap.size (.slice a0 n0 e0) (.slice a1 n1 e1) (.slice a2 n2 e2) (.slice a3 n3 e3)) (by decide) (by decide) (by decide) (by decide) (by decide) (by decide))
     generalize set4 wq w.heap.size (.slice a0 n0 e0) (.slice a1 n1 e1) (.slice a2 n2 e2) (.slice a3 n3 e3)=WX at *
     exact bodyPost_ret (v:=.tuple #[.agg #[.slice a0 n0 e0,.slice a1 n1 e1,.slice a2 n2 e2,.slice a3 n3 e3],.nilIface]) (by simp[results,Tryz.results38,go_sem,s0,s1,s2,s3]) rfl ⟨_,_,rfl,hid (DecC.mkOk HD.out ⟨rfl,HE2.out⟩),HBX.out⟩
    ·have HD:Hid (Zbg (bl s)=.error (10,0)):=hid (by rw[HDB2.out,if_pos he])
     have hne:(((n:Int) % 4294967296) != (SQ:Int))=true:=by rw[Int.emod_eq_of_lt (by omega) (by omega),bne_iff_ne];omega
     clear HDB2
     go_wp2_with (go_at_call 77;refine(HPS.out _).mono ?_;rintro e wq ⟨rfl,rfl⟩)
     have hng:=HGD.n
     have HXD:Hid (BAt wq.drew w.heap.size [.slice none 0 0,.slice none 0 0,.slice none 0 0,.slice none 0 0] 58):=hid (HX3.below ((Below.refl _ _).drew))
     have HBD:Hid (Below w.heap.size w wq.drew):=hid (HB3.drew)
     have h9:¬w.heap.size=9:=by omega
     have h9':¬9=w.heap.size:=by omega
     go_region
     all_goals
      go_wp2
      change bodyPost _ _ _ _ _ (set4 wq.drew w.heap.size (.slice none 0 0) (.slice none 0 0) (.slice none 0 0) (.slice none 0 0))
      have st:=Zdh HXD.out (x:=.slice none 0 0) (y:=.slice none 0 0) (z:=.slice none 0 0) (u:=.slice none 0 0)
      have s0:=st.cell 0
      have s1:=st.cell 1
      have s2:=st.cell 2
      have s3:=st.cell 3
      simp only[Zget]at s0 s1 s2 s3
      have HBX:=hid (Ze6 HBD.out (Nat.le_refl _) (.slice none 0 0) (.slice none 0 0) (.slice none 0 0) (.slice none 0 0))
      generalize set4 wq.drew w.heap.size (.slice none 0 0) (.slice none 0 0) (.slice none 0 0) (.slice none 0 0)=WX at *
      exact bodyPost_ret (v:=.tuple #[.agg #[.slice none 0 0,.slice none 0 0,.slice none 0 0,.slice none 0 0],.iface 491 (.pointer (some (A 9)))]) (by simp[results,Tryz.results38,go_sem,s0,s1,s2,s3]) rfl ⟨_,_,rfl,hid (DecC.mkErr HD.out ⟨rfl,Or.inr ⟨rfl,rfl⟩⟩),HBX.out⟩
def ZbR(a:Ah)(i:Nat):Value:=if i=0 then .bool a.known else if i=1 then .bool a.clash else if i=2 then .int .i64 a.stack.length else if i<67 then .int .u8 ((a.stack.reverse.getD (i - 3) 0:Nat):Int)else .int .u8 ((a.slots.getD (i - 67) 0:Nat):Int)
def stC(a:Ah):List Value:=(List.range 83).map (ZbR a)
theorem Zbn(a:Ah):(stC a).length=83:=by simp[stC]
theorem Zch(a:Ah)(i:Nat)(h:i<83):(stC a)[i]?=some (ZbR a i):=by
 unfold stC;rw[List.getElem?_map,List.getElem?_range h];rfl
theorem ZmH(a:Ah):∀v∈stC a,v.oneCell'=true:=by
 intro v hv
 obtain⟨i,_,rfl⟩:=List.mem_map.1 hv
 unfold ZbR;repeat' split
 all_goals rfl
theorem Zji(a:Ah)(j:Nat)(h:j<64):(stC a)[3+j]?=some (.int .u8 ((a.stack.reverse.getD j 0:Nat):Int)):=by
 rw[Zch a _ (by omega)]
 unfold ZbR
 rw[if_neg (by omega),if_neg (by omega),if_neg (by omega),if_pos (by omega),show 3+j - 3=j by omega]
theorem Zjh(a:Ah)(j:Nat)(h:j<16):(stC a)[67+j]?=some (.int .u8 ((a.slots.getD j 0:Nat):Int)):=by
 rw[Zch a _ (by omega)]
 unfold ZbR
 rw[if_neg (by omega),if_neg (by omega),if_neg (by omega),if_neg (by omega),show 67+j - 67=j by omega]
theorem Zgi{l:List Value}{a:Ah}(hl:l.length=83)(h:∀i,i<83->l[i]?=some (ZbR a i)):l=stC a:=by
 apply List.ext_getElem?
 intro i
 by_cases hi:i<83
 ·rw[h i hi,Zch a i hi]
 ·rw[List.getElem?_eq_none (by omega),List.getElem?_eq_none (by rw[Zbn];omega)]
theorem ZuW(a:Ah)(k:Nat)(hl:a.stack.length<64):((stC a).set (3+a.stack.length) (.int .u8 (k:Int))).set 2 (.int .i64 ((a.stack.length+1:Nat):Int))=stC { a with stack:=k::a.stack }:=by
 refine Zgi (by simp[Zbn]) (fun i hi=>?_)
 rw[List.getElem?_set]
 by_cases h2:2=i
 ·subst h2
  rw[if_pos rfl,if_pos (by simp[Zbn])]
  rfl
 ·rw[if_neg h2,List.getElem?_set]
  by_cases h3:3+a.stack.length=i
  ·subst h3
   rw[if_pos rfl,if_pos (by rw[Zbn];omega)]
   unfold ZbR
   rw[if_neg (by omega),if_neg (by omega),if_neg (by omega),if_pos (by omega),show 3+a.stack.length - 3=a.stack.length by omega]
   congr 2
   rw[List.reverse_cons,List.getD_eq_getElem?_getD,List.getElem?_append_right (by simp)]
   simp
  ·rw[if_neg h3,Zch a i hi]
   congr 1
   unfold ZbR
   by_cases h0:i=0
   ·rw[if_pos h0,if_pos h0]
   ·rw[if_neg h0,if_neg h0]
    by_cases h1:i=1
    ·rw[if_pos h1,if_pos h1]
    ·have h2':¬i=2:=fun e=>h2 e.symm
     rw[if_neg h1,if_neg h1,if_neg h2',if_neg h2']
     by_cases h67:i<67
     ·rw[if_pos h67,if_pos h67]
      congr 2
      show a.stack.reverse.getD (i - 3) 0=(k::a.stack).reverse.getD (i - 3) 0
      rw[List.reverse_cons,List.getD_eq_getElem?_getD,List.getD_eq_getElem?_getD]
      by_cases hh:i - 3<a.stack.length
      ·rw[List.getElem?_append_left (by simpa using hh)]
      ·rw[List.getElem?_eq_none (by simp;omega),List.getElem?_eq_none (by simp;omega)]
     ·rw[if_neg h67,if_neg h67]
theorem ZuV(a:Ah)(hl:a.stack.length<=64)(h0:0<a.stack.length):((stC a).set 2 (.int .i64 ((a.stack.length - 1:Nat):Int))).set (3+(a.stack.length - 1)) (.int .u8 0)=stC { a with stack:=a.stack.tail }:=by
 obtain⟨k,r,hk⟩:∃k r,a.stack=k::r:=by
  cases hs:a.stack with
  | nil=>rw[hs]at h0;simp at h0
  | cons k r=>exact⟨k,r,rfl⟩
 refine Zgi (by simp[Zbn]) (fun i hi=>?_)
 have hrl:a.stack.length - 1=r.length:=by rw[hk];simp
 rw[hrl]
 have hrl2:r.length<64:=by omega
 rw[List.getElem?_set]
 by_cases h3:3+r.length=i
 ·subst h3
  rw[if_pos rfl,if_pos (by simp[Zbn];omega)]
  unfold ZbR
  rw[if_neg (by omega),if_neg (by omega),if_neg (by omega),if_pos (by omega),show 3+r.length - 3=r.length by omega,hk]
  simp
 ·rw[if_neg h3,List.getElem?_set]
  by_cases h2:2=i
  ·subst h2
   rw[if_pos rfl,if_pos (by simp[Zbn])]
   unfold ZbR
   rw[hk];simp
  ·rw[if_neg h2,Zch a i hi]
   congr 1
   unfold ZbR
   by_cases h0:i=0
   ·rw[if_pos h0,if_pos h0]
   ·rw[if_neg h0,if_neg h0]
    by_cases h1:i=1
    ·rw[if_pos h1,if_pos h1]
    ·have h2':¬i=2:=fun e=>h2 e.symm
     rw[if_neg h1,if_neg h1,if_neg h2',if_neg h2']
     by_cases h67:i<67
     ·rw[if_pos h67,if_pos h67,hk]
      congr 2
      show(k::r).reverse.getD (i - 3) 0=r.reverse.getD (i - 3) 0
      rw[List.reverse_cons,List.getD_eq_getElem?_getD,List.getD_eq_getElem?_getD]
      by_cases hh:i - 3<r.length
      ·rw[List.getElem?_append_left (by simpa using hh)]
      ·rw[List.getElem?_eq_none (by simp;omega),List.getElem?_eq_none (by simp;omega)]
     ·rw[if_neg h67,if_neg h67]
theorem Zjj(a:Ah)(j k:Nat)(hj:j<16)(hsl:a.slots.length=16):(stC a).set (67+j) (.int .u8 (k:Int))=stC { a with slots:=a.slots.set j k }:=by
 refine Zgi (by simp[Zbn]) (fun i hi=>?_)
 rw[List.getElem?_set]
 by_cases h3:67+j=i
 ·subst h3
  rw[if_pos rfl,if_pos (by rw[Zbn];omega)]
  unfold ZbR
  rw[if_neg (by omega),if_neg (by omega),if_neg (by omega),if_neg (by omega),show 67+j - 67=j by omega]
  simp[List.getD_eq_getElem?_getD,hsl,hj]
 ·rw[if_neg h3,Zch a i hi]
  congr 1
  unfold ZbR
  by_cases h0:i=0
  ·rw[if_pos h0,if_pos h0]
  ·rw[if_neg h0,if_neg h0]
   by_cases h1:i=1
   ·rw[if_pos h1,if_pos h1]
   ·rw[if_neg h1,if_neg h1]
    by_cases h2:i=2
    ·rw[if_pos h2,if_pos h2]
    ·rw[if_neg h2,if_neg h2]
     by_cases h67:i<67
     ·rw[if_pos h67,if_pos h67]
     ·rw[if_neg h67,if_neg h67]
      congr 2
      show a.slots.getD (i - 67) 0=(a.slots.set j k).getD (i - 67) 0
      rw[List.getD_eq_getElem?_getD,List.getD_eq_getElem?_getD,List.getElem?_set_ne (by omega)]
abbrev StAt (w:World) (nb:Nat) (a:Ah):Prop:=BAt w nb (stC a) 312
theorem StAt.cells{w:World}{nb:Nat}{a:Ah}(h:StAt w nb a):w.cell? ⟨nb,0,none⟩=some (.bool a.known)/\w.cell? ⟨nb,1,none⟩=some (.bool a.clash)/\w.cell? ⟨nb,2,none⟩=some (.int .i64 a.stack.length):=
 ⟨(h.cell 0).trans (Zch a 0 (by decide)),(h.cell 1).trans (Zch a 1 (by decide)),(h.cell 2).trans (Zch a 2 (by decide))⟩
theorem StAt.stack{w:World}{nb:Nat}{a:Ah}(h:StAt w nb a)(j:Nat)(hj:j<64):w.cell? ⟨nb,3+j,none⟩=some (.int .u8 ((a.stack.reverse.getD j 0:Nat):Int)):=(h.cell _).trans (Zji a j hj)
theorem StAt.slot{w:World}{nb:Nat}{a:Ah}(h:StAt w nb a)(j:Nat)(hj:j<16):w.cell? ⟨nb,67+j,none⟩=some (.int .u8 ((a.slots.getD j 0:Nat):Int)):=(h.cell _).trans (Zjh a j hj)
def putK(k:Nat)(a:Ah):Option Ah:=if k=0∨a.stack.length=64 then none else some { a with stack:=k::a.stack }
theorem ZeD (k : Nat) (w : World) : Calls Tryz.prog 202 #[.int .u8 k] w fun e w' => e = .returned (.bool (ZbK k)) /\ w' = w := by
  by_cases h1:k=1
  · subst h1
    go_enter Tryz.func202,Tryz.ntmps202
    go_wp2
    go_ret
    exact⟨rfl,rfl⟩
  · by_cases h2:k=2
    · subst h2
      go_enter Tryz.func202,Tryz.ntmps202
      go_wp2
      go_ret
      exact⟨rfl,rfl⟩
    · have HP:Hid (ZbK k=false):=hid (by unfold ZbK;simp[h1,h2])
      have e1:((k:Int) == 1)=false:=by rw[beq_eq_false_iff_ne];omega
      have e2:((k:Int) == 2)=false:=by rw[beq_eq_false_iff_ne];omega
      go_enter Tryz.func202,Tryz.ntmps202
      go_wp2
      go_ret
      exact⟨Zck HP.symm,rfl⟩
theorem ZdL(nb:Nat)(a:Ah)(k:Nat)(w:World)(h:StAt w nb a)(hl:a.stack.length<=64) :
  Calls Tryz.prog 199 #[.pointer (some ⟨nb,0,none⟩),.int .u8 k] w fun e w'=>e=.returned (.bool (putK k a).isSome)/\Hid (∀a',putK k a=some a'->StAt w' nb a')/\w.grownBy w' (some nb):=by
 obtain⟨c0,c1,c2⟩:=h.cells
 have H:=hid h
 by_cases h0:k=0
 ·subst h0
  have HN:Hid (putK 0 a=none):=hid (if_pos (Or.inl rfl))
  clear h c0 c1
  go_enter Tryz.func199,Tryz.ntmps199
  go_wp2
  go_ret
  exact⟨by rw[HN.out];rfl,hid (fun a' e=>by rw[HN.out]at e;cases e),Zbc _ _⟩
 ·have hk0:((k:Int) == 0)=false:=by rw[beq_eq_false_iff_ne];omega
  by_cases h64:a.stack.length=64
  ·have HN:Hid (putK k a=none):=hid (if_pos (Or.inr h64))
   rw[h64]at c2
   clear h c0 c1
   go_enter Tryz.func199,Tryz.ntmps199
   go_wp2
   go_ret
   exact⟨by rw[HN.out];rfl,hid (fun a' e=>by rw[HN.out]at e;cases e),Zbc _ _⟩
  ·have HS:Hid (putK k a=some { a with stack:=k::a.stack }):=hid (if_neg (by omega))
   have hlt:a.stack.length<64:=by omega
   have h6:((a.stack.length:Int) == 64)=false:=by rw[beq_eq_false_iff_ne];omega
   have d0:=h.stack a.stack.length hlt
   have f0:=h.frozen (3+a.stack.length)
   have f2:=h.frozen 2
   have HST:Hid (StAt ((w.drew.setCell ⟨nb,3+a.stack.length,none⟩ (.int .u8 k)).setCell ⟨nb,2,none⟩ (.int .i64 ((a.stack.length+1:Nat):Int))) nb { a with stack:=k::a.stack }):=hid (by
    have:=((h.below ((Below.refl _ _).drew)).setk (3+a.stack.length) (.int .u8 k)).setk 2 (.int .i64 ((a.stack.length+1:Nat):Int))
    rw[ZuW a k hlt]at this
    exact this)
   have HG:Hid (w.grownBy ((w.drew.setCell ⟨nb,3+a.stack.length,none⟩ (.int .u8 k)).setCell ⟨nb,2,none⟩ (.int .i64 ((a.stack.length+1:Nat):Int))) (some nb)):=hid (Zo (p:=⟨nb,2,none⟩) (Zo (p:=⟨nb,3+a.stack.length,none⟩) (Zc2 (Zbc _ _)) (Or.inl rfl) _) (Or.inl rfl) _)
   generalize hn:a.stack.length=n at *
   clear h c0 c1
   go_enter Tryz.func199,Tryz.ntmps199
   go_wp2
   go_region
   all_goals
    go_wp2
    go_ret
    exact⟨by rw[HS.out];rfl,hid (fun a' e=>by rw[HS.out]at e;injection e with e;subst e;exact HST.out),HG.out⟩
theorem ZdM(nb:Nat)(a:Ah)(w:World)(h:StAt w nb a)(hl:a.stack.length<=64) :
  Calls Tryz.prog 201 #[.pointer (some ⟨nb,0,none⟩)] w fun e w'=>e=.returned (.int .u8 ((a.stack.headD 0:Nat):Int))/\Hid (StAt w' nb { a with stack:=a.stack.tail })/\w.grownBy w' (some nb):=by
 obtain⟨c0,c1,c2⟩:=h.cells
 have H:=hid h
 cases hs:a.stack with
 | nil=>
  rw[hs]at c2
  have HE:Hid (StAt w nb { a with stack:=([]:List Nat).tail }):=hid (by
   have : { a with stack:=([]:List Nat).tail }=a:=by rw[<-show a.stack=([]:List Nat).tail from hs]
   rw[this];exact h)
  clear h c0 c1 hs
  go_enter Tryz.func201,Tryz.ntmps201
  go_wp2
  go_ret
  exact⟨rfl,HE,Zbc _ _⟩
 | cons k r=>
  have hl1:a.stack.length=r.length+1:=by rw[hs];rfl
  have hn:r.length<64:=by omega
  have d0:w.cell? ⟨nb,3+r.length,none⟩=some (.int .u8 (k:Int)):=by
   have:=h.stack r.length hn
   rw[hs]at this
   rw[this];simp
  have f0:=h.frozen (3+r.length)
  have f2:=h.frozen 2
  rw[hl1]at c2
  have hne:(((r.length:Int)+1) == 0)=false:=by rw[beq_eq_false_iff_ne];omega
  have HST : Hid (∀ W : World, (∀ j, W.heap[j]? = w.heap[j]?) -> StAt ((W.setCell ⟨nb, 2, none⟩ (.int .i64 (r.length : Int))).setCell ⟨nb, 3 + r.length, none⟩ (.int .u8 0)) nb { a with stack := r }) := hid (fun W hW => by
    have h1:StAt W nb a:=(hW nb).trans h
    have h2:=(h1.setk 2 (.int .i64 (r.length:Int))).setk (3+r.length) (.int .u8 0)
    have h3:=ZuV a hl (by omega)
    rw[hl1,Nat.add_sub_cancel]at h3
    rw[h3,show a.stack.tail=r by rw[hs];rfl]at h2
    exact h2)
  rw[show(k::r).headD 0=k from rfl,show(k::r).tail=r from rfl]
  generalize r.length=n at *
  clear h c0 c1 hs hl1 H
  go_enter Tryz.func201,Tryz.ntmps201
  go_wp2
  go_region
  all_goals
   go_wp2
   go_region
   all_goals
    go_wp2
    go_ret
    exact⟨rfl,hid (HST.out w (fun _=>rfl)),Zo (p:=⟨nb,3+n,none⟩) (Zc2 (Zc2 (Zo (p:=⟨nb,2,none⟩) (Zbc _ _) (Or.inl rfl) _))) (Or.inl rfl) _⟩
end Go.Proofs.YtkodhpilkaihjaaGreatDoor
