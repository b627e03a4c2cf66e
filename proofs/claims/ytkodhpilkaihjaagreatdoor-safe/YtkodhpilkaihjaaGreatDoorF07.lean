/- Parts. -/
import Derived.Test.YtkodhpilkaihjaaGreatDoorF06
set_option linter.all false
set_option maxRecDepth 100000
set_option maxHeartbeats 16000000
namespace Go.Proofs.YtkodhpilkaihjaaGreatDoor
open Go.RowKit LS Go.Proofs.Tryz
def ZTv(w:World)(r:Option (Nd×Nat))(p:PV)(ok:Value):Prop:=match r with
 | none=>ok=.bool false
 | some x=>ok=.bool true/\PkOk w x p
theorem ZTv.mkNone{w:World}{r:Option (Nd×Nat)}{p:PV}(h:r=none):ZTv w r p (.bool false):=by subst h;rfl
theorem ZTv.mkSome{w:World}{r:Option (Nd×Nat)}{p:PV}{x:Nd×Nat}(h:r=some x)(a:PkOk w x p):ZTv w r p (.bool true):=by subst h;exact⟨rfl,a⟩
structure FirstP (w:World) (b:Nat) (g cp:Nat) (a:Nd) (p:PV):Prop where
 at0:w.cell? ⟨b,0,none⟩=some (.slice (some ⟨g,0,none⟩) 1 cp)
 c:∀i,i<8->w.cell? ⟨g,i,none⟩=p.cells[i]?
 k:p.k=a.jj
 nm:bl p.nm=a.name
 cs:ZJq w 0 p a.kq
 sz:a.name.length+cw a.kq<=200000
theorem ZJq.set1{w:World}{a i:Nat}{v:Value}{q p:PV}{cs:List (LB×LB×Bool)}(h:ZJq w 0 p cs)(d:BAt w a q.cells 92):ZJq (w.setCell ⟨a,i,none⟩ v) 0 p cs:=by
 obtain⟨qs,c,e⟩:=h;refine⟨qs,ZdA c (fun k f=>Go.Deep.blk_setCell_other _ _ _ _ ?_),e⟩;rintro rfl;exact Zcx c d Dc f.symm
def ZTh(bad:List TypeId)(w w':World):Prop:=∀(b:Nat) (e:TypeId) (sz:Nat) (v:Value) (n:Nat) (xs:List Value),w.ownsRow b e sz v n xs->e∉bad->w'.ownsRow b e sz v n xs
theorem ZTh.refl(bad:List TypeId)(w:World):ZTh bad w w:=fun _ _ _ _ _ _ h _=>h
theorem ZTh.trans{bad:List TypeId}{w a z:World}(h:ZTh bad w a)(d:ZTh bad a z):ZTh bad w z:=fun b e sz v n xs f c=>d b e sz v n xs (h b e sz v n xs f c) c
theorem ZTh.below(bad:List TypeId){w w':World}(h:BW w w'):ZTh bad w w':=fun _ _ _ _ _ _ a _=>Zn a h
theorem ZTh.grown {bad : List TypeId} {w w' : World} {b : Nat} {e : TypeId} {sz : Nat} {v : Value} {n : Nat} {xs : List Value} (h : w.ownsRow b e sz v n xs) (i : w.grownBy w' v.ownBlock) (j : e ∈ bad) : ZTh bad w w' := fun b2 e2 s2 v2 n2 xs2 c f => ZdA c (fun k a => i.block k (c.lt k a).2 (fun e3 => by
  have g:e2≠e:=fun e4=>f (by rw[e4];exact j);rcases ZmC c h g with d|d
  · rw[d]at a;cases a
  · exact d (by rw[a];exact e3)))
theorem ZTh.set {bad : List TypeId} {w : World} {a : Nat} {c : List Value} {t : TypeId} (f : BAt w a c t) (g : t ∈ bad) (i : Nat) (x : Value) : ZTh bad w (w.setCell ⟨a, i, none⟩ x) := fun b2 e2 s2 v2 n2 xs2 d e => ZdA d (fun k h => Go.Deep.blk_setCell_other _ _ _ _ (by
  rintro rfl;exact Zcx d f (fun e4=>e (by rw[<-e4];exact g)) h.symm))
theorem ZUQ{w0 w w':World}{v:Value}{e:TypeId}{sz n:Nat}{xs:List Value}(h:BW w0 w)(d:w.ownsRow w0.heap.size e sz v n xs)(a:w.grownBy w' v.ownBlock):BW w0 w':=by
 refine⟨a.os.trans h.os,a.tape.trans h.tape,a.output.trans h.output,Yah h.size a.size,?_⟩;intro j c;rw[a.block j (Yaw c h.size) (fun e=>by have:=(d.lt j e.symm).1;omega),h.block j c]
theorem BAt.ownGrownR{w w':World}{a:Nat}{c:List Value}{t:TypeId}(h:BAt w a c t){base:Nat}{e:TypeId}{sz:Nat}{v:Value}{n:Nat}{xs:List Value}(d:w.ownsRow base e sz v n xs)(f:w.grownBy w' v.ownBlock)(g:t≠e):BAt w' a c t:=
 (f.block a h.lt (Zcx d h g)).trans h
structure RBase (w:World) (c:CodeQ) (cv pv gv:Value) (l:List PV) (g:List (Option Addr×Nat×Nat)):Prop where
 cs:w.ownsRow 0 2 1 cv c.jq.length (c.jq.map (.int .i64))
 ps:w.ownsRow 0 92 8 pv c.jw.length (ZTx l)
 pl:l.length=c.jw.length
 pk:∀(i:Nat) (x:Nd×Nat) (p:PV),c.jw[i]?=some x->l[i]?=some p->PkOk w x p
 gs:w.ownsRow 0 90 1 gv c.jv.length (g.map fun y=>.slice y.1 y.2.1 y.2.2)
 gl:g.length=c.jv.length
 gk:∀(i:Nat) (x:List (LB)) (y:Option Addr×Nat×Nat),c.jv[i]?=some x->g[i]?=some y->∃bs:List BA,w.ownsRow 0 9 1 (.slice y.1 y.2.1 y.2.2) bs.length (bs.map .string)/\bs.map bl=x
theorem PkOk.keep{bad:List TypeId}{w w':World}{x:Nd×Nat}{p:PV}(h:PkOk w x p)(a:ZTh bad w w')(c:372∉bad):PkOk w' x p:=⟨h.k,h.n,h.nm,by
 obtain⟨qs,d,e⟩:=h.cs;exact⟨qs,a _ _ _ _ _ _ d c,e⟩⟩
theorem RBase.keep{w w':World}{c:CodeQ}{cv pv gv:Value}{l:List PV}{g:List (Option Addr×Nat×Nat)}(h:RBase w c cv pv gv l g)(a:ZTh [136,101] w w'):RBase w' c cv pv gv l g:=
 ⟨a _ _ _ _ _ _ h.cs Dc, a _ _ _ _ _ _ h.ps Dc, h.pl, fun i x p d e => (h.pk i x p d e).keep a Dc, a _ _ _ _ _ _ h.gs Dc, h.gl, fun i x y d e => by
   obtain⟨bs,f,j⟩:=h.gk i x y d e;exact⟨bs,a _ _ _ _ _ _ f Dc,j⟩⟩
theorem RBase.code{w:World}{cs:List Int}{ps:List (Nd×Nat)}{gs:List (List (LB))}{cv pv gv iv:Value}{l:List PV}{g:List (Option Addr×Nat×Nat)}{cb:Nat}{is:List (Nat×Nat)}(h:RBase w ⟨cs,ps,gs,[]⟩ cv pv gv l g)(a:BAt w cb [cv,pv,gv,iv] 101)(c:w.ownsRow 0 136 2 iv is.length (ZdL is)):RCode w cb ⟨cs,ps,gs,is⟩ cv pv gv iv l g:=
 ⟨a,h.cs,h.ps,h.pl,h.pk,h.gs,h.gl,h.gk,c⟩
theorem Zsy(s:BA)(p n:Nat):bl (s.extract p (p+n))=sub (bl s) p n:=by
 rw[Zfh,Yc8];unfold sub;congr 1;omega
def ZTk(w:World)(r:Except (Nat×Nat) CodeQ)(v:Value)(c p:Nat):Prop:=match r with
 | .error x=>v=.pointer none/\c=x.1/\p=x.2/\c≠0
 | .ok code=>c=0/\p=0/\∃(cb:Nat) (cv pv gv iv:Value) (l:List PV) (g:List (Option Addr×Nat×Nat)),v=.pointer (some ⟨cb,0,none⟩)/\RCode w cb code cv pv gv iv l g/\code.jz.length<=65535/\∀x∈code.jz,x.1<=13/\x.2<65536
theorem ZTk.ku{w:World}{r:Except (Nat×Nat) CodeQ}{c p:Nat}(h:r=.error (c,p))(a:c≠0):ZTk w r (.pointer none) c p:=by subst h;exact⟨rfl,rfl,rfl,a⟩
theorem ZTk.mkOk{w:World}{r:Except (Nat×Nat) CodeQ}{code:CodeQ}{cb:Nat}{cv pv gv iv:Value}{l:List PV}{g:List (Option Addr×Nat×Nat)}(h:r=.ok code)(a:RCode w cb code cv pv gv iv l g)(c:code.jz.length<=65535)(d:∀x∈code.jz,x.1<=13/\x.2<65536):ZTk w r (Vp cb) 0 0:=by subst h;exact⟨rfl,rfl,cb,cv,pv,gv,iv,l,g,rfl,a,c,d⟩
structure RestI (w0 wr:World) (cb:Nat) (cs:List Int) (ps:List (Nd×Nat)) (gs:List (List (LB))) (is:List (Nat×Nat)) (cv pv gv:Value) (ia:Option Addr) (n ic:Nat) (l:List PV) (g:List (Option Addr×Nat×Nat)):Prop where
 base:RBase wr ⟨cs,ps,gs,[]⟩ cv pv gv l g
 box:BAt wr cb [cv,pv,gv,.slice ia n ic] 101
 own:wr.ownsRow w0.heap.size 136 2 (.slice ia n ic) n (ZdL is)
 bel:BW w0 wr
 op:∀x∈is,x.1<=13/\x.2<65536
theorem RestI.app{w0 wr a:World}{cb:Nat}{cs:List Int}{ps:List (Nd×Nat)}{gs:List (List (LB))}{is:List (Nat×Nat)}{cv pv gv:Value}{ia:Option Addr}{n ic:Nat}{l:List PV}{g:List (Option Addr×Nat×Nat)}(h:RestI w0 wr cb cs ps gs is cv pv gv ia n ic l g)(f:w0.heap.size<=cb){ga nc op arg:Nat}
  (e:wr.grownBy a (Value.slice ia n ic).ownBlock) (i:a.ownsRow w0.heap.size 136 2 (.slice (some ⟨ga,0,none⟩) (n+1) nc) (n+1) (ZdL is++[Vi op,Vi arg])) (o:op<=13) (q:arg<65536) :
  RestI w0 (a.setCell ⟨cb,3,none⟩ (.slice (some ⟨ga,0,none⟩) (n+1) nc)) cb cs ps gs (is++[(op,arg)]) cv pv gv (some ⟨ga,0,none⟩) (n+1) nc l g:=by
 have j:ZTh [136,101] wr a:=ZTh.grown h.own e Dc;have d:BAt a cb [cv,pv,gv,.slice ia n ic] 101:=h.box.ownGrownR h.own e Dc;have m:ZTh [136,101] a (a.setCell ⟨cb,3,none⟩ (.slice (some ⟨ga,0,none⟩) (n+1) nc)):=ZTh.set d Dc _ _;refine⟨h.base.keep (j.trans m),d.setkM 3 _,?_,?_,fun x c=>?_⟩
 ·rw[Zwd]
  exact ZdA i (fun k r => Go.Deep.blk_setCell_other _ _ _ _ (by
    rintro rfl;exact Zcx i d Dc r.symm))
 ·exact Below.setCell (p:=⟨cb,3,none⟩) (ZUQ h.bel h.own e) f _
 ·rcases Yar.1 c with c|c
  ·exact h.op x c
  ·rw[Yap]at c;subst c;exact⟨o,q⟩
theorem RestI.below{w0 wr c:World}{cb:Nat}{cs:List Int}{ps:List (Nd×Nat)}{gs:List (List (LB))}{is:List (Nat×Nat)}{cv pv gv:Value}{ia:Option Addr}{n ic:Nat}{l:List PV}{g:List (Option Addr×Nat×Nat)}(h:RestI w0 wr cb cs ps gs is cv pv gv ia n ic l g)(a:BW wr c):RestI w0 c cb cs ps gs is cv pv gv ia n ic l g:=
 ⟨h.base.keep (ZTh.below _ a),h.box.below a,Zn h.own a,h.bel.trans (a.mono h.bel.size),h.op⟩
structure CV where
 sc:Bool
 n:Int
 ea:Option Addr
 en:Nat
 ec:Nat
 rg:Bool
 p:PV
def CV.cells(x:CV):List Value:=[.bool x.sc,Vi x.n,.slice x.ea x.en x.ec,.bool x.rg,Vi x.p.k,Vi x.p.n,Vi x.p.op,.string x.p.nm,.slice x.p.ca x.p.cn x.p.cc,.slice x.p.ba x.p.bn x.p.bc,Vi x.p.a,Vi x.p.b]
structure MKeep (w w':World) (mb:Nat) (st:Value):Prop where
 os:w'.os=w.os
 tape:w'.tape=w.tape
 output:w'.output=w.output
 size:w.heap.size<=w'.heap.size
 block:∀k,k<w.heap.size->k≠mb->some k≠st.ownBlock->w'.heap[k]?=w.heap[k]?
theorem MKeep.below{w0 w w':World}{mb:Nat}{st:Value}(h:MKeep w w' mb st)(a:BW w0 w)(f:w0.heap.size<=mb)(d:∀k,st.ownBlock=some k->w0.heap.size<=k):BW w0 w':=
 ⟨h.os.trans a.os, h.tape.trans a.tape, h.output.trans a.output, Yah a.size h.size, fun k c => by
   rw[h.block k (Yaw c a.size) Om (fun e=>by have:=d k e.symm;omega)];exact a.block k c⟩
def pmC(c0 c1 c2 c3 al:Value)(tm:Int)(st sl gr:Value):List Value:=[c0,c1,c2,c3,al,Vi tm,st,sl,gr]
theorem Tryz.infoIVal:(Tryz.prog.info? 223).map (fun i=>(i.zero,i.size,i.bytes))=some (some .nilIface,1,16):=by kernel_rfl
structure PSt (w:World) (base mb:Nat) (c0 c1 c2 c3 al:Value) (tm:Int) (sl gr:Value) (sa:Option Addr) (sn sc:Nat) (vs:List Value):Prop where
 box:BAt w mb (pmC c0 c1 c2 c3 al tm (.slice sa sn sc) sl gr) 365
 own:w.ownsRow base 223 1 (.slice sa sn sc) sn vs
 len:vs.length=sn
theorem PSt.below{w w':World}{base mb:Nat}{c0 c1 c2 c3 al:Value}{tm:Int}{sl gr:Value}{sa:Option Addr}{sn sc:Nat}{vs:List Value}(h:PSt w base mb c0 c1 c2 c3 al tm sl gr sa sn sc vs)(a:BW w w'):PSt w' base mb c0 c1 c2 c3 al tm sl gr sa sn sc vs:=⟨h.box.below a,Zn h.own a,h.len⟩
theorem ZzZ{w:World}{base:Nat}{e:TypeId}{sz g n cap:Nat}{xs:List Value}(h:w.ownsRow base e sz (.slice (some ⟨g,0,none⟩) n cap) n xs)(k:Nat)(c:k<=n):w.ownsRow base e sz (.slice (some ⟨g,0,none⟩) k cap) k (xs.take (k*sz)):=by
 obtain⟨d,a⟩:=h;refine⟨by rw[Ya7,d];exact Yc3 (Yc6 _ c),?_⟩;rcases a with ⟨a,_⟩|⟨g',cap',cur,f,i,j,p,l,m,o⟩
 ·cases a
 ·injection f with hv1 hv2 hv3;injection hv1 with hv1;injection hv1 with hv1 _ _;subst hv1 hv3;refine Or.inr ⟨_,_,cur,rfl,i,j,by omega,l,m,?_⟩;rw[<-o,List.take_take,Yc3 (Yc6 _ c)]
theorem Zfz(w:World)(base mb:Nat)(c0 c1 c2 c3 al:Value)(tm:Int)(sl gr:Value)(sa:Option Addr)(n sc:Nat)(vs:List Value)(v:Value)(h:PSt w base mb c0 c1 c2 c3 al tm sl gr sa (n+1) sc (vs++[v]))(d:n<=64) :
  CP 99 #[Vp mb] w fun e u=>e=.returned v/\Hid (PSt u base mb c0 c1 c2 c3 al tm sl gr sa n sc vs)/\Hid (w.grownBy u (some mb)):=by
 have a:vs.length=n:=by have:=h.len;rw[Yab]at this;simpa using this
 obtain⟨g,cp,c⟩:=ZF h.own Om;injection c with hv1 hv2 hv3;subst hv1 hv3;have m6:w.cell? ⟨mb,6,none⟩=some (.slice (some ⟨g,0,none⟩) (n+1) sc):=h.box.cell 6;have mf:=h.box.frozen 6;have k0:=Zi h.own n v (by rw[Yb3 Om,a];simp);have p:=h.box.lt;have q:=Z1 h.own
 have f:n+1<=sc:=by
  rcases h.own.2 with ⟨i,_⟩|⟨g',cap',cur,c,_,_,d,_⟩
  ·cases i
  ·injection c with _ _ hv3;omega
 have j:Hid (PSt (w.setCell ⟨mb,6,none⟩ (.slice (some ⟨g,0,none⟩) n sc)) base mb c0 c1 c2 c3 al tm sl gr (some ⟨g,0,none⟩) n sc vs):=hid ⟨h.box.setkM 6 _,by
  have l : (w.setCell ⟨mb, 6, none⟩ (.slice (some ⟨g, 0, none⟩) n sc)).ownsRow base 223 1 (.slice (some ⟨g, 0, none⟩) (n + 1) sc) (n + 1) (vs ++ [v]) := ZdA h.own (fun k m => Go.Deep.blk_setCell_other _ _ _ _ (by
    rintro rfl;exact Zcx h.own h.box Dc m.symm))
  have:=ZzZ l n Om;rw[Yej,Yec Om,Ya5 Om]at this;exact this,a⟩
 have o:Hid (w.grownBy (w.setCell ⟨mb,6,none⟩ (.slice (some ⟨g,0,none⟩) n sc)) (some mb)):=hid (ZA (ZbM w (some mb)) (Or.inl rfl) _);clear h a;go_enter func99,ntmps99;go_wp2;go_ret;exact⟨rfl,j,o⟩
theorem PSt.app{w wr a:World}{base mb:Nat}{c0 c1 c2 c3 al:Value}{tm:Int}{sl gr:Value}{sa:Option Addr}{sn sc:Nat}{vs:List Value}(h:PSt wr base mb c0 c1 c2 c3 al tm sl gr sa sn sc vs)(c:BW w wr){v:Value}{ga nc:Nat}
  (d:wr.grownBy a (Value.slice sa sn sc).ownBlock) (g:a.ownsRow base 223 1 (.slice (some ⟨ga,0,none⟩) (sn+1) nc) (sn+1) (vs++[v])) :
  BAt a mb (pmC c0 c1 c2 c3 al tm (.slice sa sn sc) sl gr) 365/\PSt (a.setCell ⟨mb,6,none⟩ (.slice (some ⟨ga,0,none⟩) (sn+1) nc)) base mb c0 c1 c2 c3 al tm sl gr (some ⟨ga,0,none⟩) (sn+1) nc (vs++[v])/\MKeep w (a.setCell ⟨mb,6,none⟩ (.slice (some ⟨ga,0,none⟩) (sn+1) nc)) mb (.slice sa sn sc):=by
 have e:BAt a mb (pmC c0 c1 c2 c3 al tm (.slice sa sn sc) sl gr) 365:=h.box.ownGrownR h.own d Dc
 refine ⟨e, ⟨e.setkM 6 _, ZdA g (fun k j => Go.Deep.blk_setCell_other _ _ _ _ (by
     rintro rfl;exact Zcx g e Dc j.symm)),by rw[Yab,h.len];rfl⟩,?_⟩
 have f:a.grownBy (a.setCell ⟨mb,6,none⟩ (.slice (some ⟨ga,0,none⟩) (sn+1) nc)) (some mb):=ZA (ZbM a (some mb)) (Or.inl rfl) _;refine⟨f.os.trans (d.os.trans c.os),f.tape.trans (d.tape.trans c.tape),f.output.trans (d.output.trans c.output),Yah c.size (Yah d.size f.size),fun k i l m=>?_⟩;rw[Go.Deep.blk_setCell_other _ _ _ _ l,d.block k (Yaw i c.size) m];exact c.block k i
theorem Zgm(w:World)(base mb:Nat){c0 c1 c2 c3:Value}(al:Value)(tm:Int)(sl gr:Value){sa:Option Addr}(sn:Nat){sc:Nat}(vs:List Value)(ty:TypeId)(u:Value)(h:PSt w base mb c0 c1 c2 c3 al tm sl gr sa sn sc vs)(D:sn<=64)(C:base<=w.heap.size) :
  CP 172 #[Vp mb,.iface ty u] w fun e l=>e=.returned (.tuple #[])/\Hid (∃ga nc,PSt l base mb c0 c1 c2 c3 al tm sl gr (some ⟨ga,0,none⟩) (sn+1) nc (vs++[.iface ty u]))/\Hid (MKeep w l mb (.slice sa sn sc)):=by
 obtain⟨i0,z,m,n,p⟩:=info_parts Tryz.infoIVal;have A:=hid h;have d:=h.own;have m6:w.cell? ⟨mb,6,none⟩=some (.slice sa sn sc):=h.box.cell 6;have g:=h.box.lt;have q:Hid (∀o,PSt (w.alloc o) base mb c0 c1 c2 c3 al tm sl gr sa sn sc vs):=hid (fun o=>A.below Zbal);clear h;go_enter func172,ntmps172
 go_wp2_with (at_builtin;refine wpList_append_own _ rfl (.tmp 8) (.tmp 10) 363 rfl base 223 i0 .nilIface 1 16 underlying363 z m n p rfl Dc _ _ _ rfl (d.alloc _) ⟨w.heap.size,0,none⟩ 1 1 [.iface ty u] rfl rfl ?c1 ?c2 ?c3 ?c4 ?c5 ?_)
 (try case c1=>exact cell_one_new _ _ _)
 case c2=>first|rfl|(intro u r;simp at r;subst r;rfl)
 case c3=>unfold maxLen;omega
 case c4=>omega
 case c5=>first|omega|(simp;omega)
 intro v' B a c _;obtain⟨g3,cp3,s⟩:=ZF a Om;subst s;obtain⟨i,j,k⟩:=(q.out _).app (w:=w) Zbal (by exact c) a;have f:=hid i;have t:=hid j;have x:=hid k;clear a c i j k m6 d g;have m6:B.cell? ⟨mb,6,none⟩=some (.slice sa sn sc):=f.cell 6;have mf:=f.frozen 6;have g:=f.lt;go_wp2;exact bodyPost_end (v:=.tuple #[]) (results_none rfl _ _ _) rfl ⟨rfl,hid ⟨_,_,t.out⟩,x⟩
open Go.ChangeMaps (setBlock)
structure MapI (w:World) (x:Nat) (gs:List (Nat×Value)) (es:Array MapEntry) (clock:Nat):Prop where
 heap:w.heap[x]?=some (.map es clock)
 stm:MapKept.Stamped es clock
 kv:es.toList.map (fun e=>(e.key,e.val))=gs.map (fun g=>(Value.int .i64 g.1,g.2))
 sz:∀g∈gs,g.1<16
theorem wf16{j:Nat}(h:j<16):(Lit.int .i64 (j:Int)).wf=true:=by
 rcases(by omega:j=0∨j=1∨j=2∨j=3∨j=4∨j=5∨j=6∨j=7∨j=8∨j=9∨j=10∨j=11∨j=12∨j=13∨j=14∨j=15)with rfl|rfl|rfl|rfl|rfl|rfl|rfl|rfl|rfl|rfl|rfl|rfl|rfl|rfl|rfl|rfl <;> rfl
theorem MapI.len{w:World}{x:Nat}{gs:List (Nat×Value)}{es:Array MapEntry}{clock:Nat}(h:MapI w x gs es clock):es.size=gs.length:=by
 have:=congrArg List.length h.kv;simpa using this
theorem MapI.at{w:World}{x:Nat}{gs:List (Nat×Value)}{es:Array MapEntry}{clock:Nat}(h:MapI w x gs es clock){j:Nat}{e:MapEntry}(f:es.toList[j]?=some e):∃c:j<gs.length,e.key=Vi gs[j].1/\e.val=gs[j].2:=by
 have a:(es.toList.map (fun e=>(e.key,e.val)))[j]?=(gs.map (fun g=>(Value.int .i64 g.1,g.2)))[j]?:=by rw[h.kv]
 rw[Ya2,f,Ya2]at a
 have c:j<gs.length:=by
  rcases Yav j gs.length with d|d
  ·exact d
  ·rw[Ya9 d]at a;cases a
 rw[List.getElem?_eq_getElem c]at a;simp only[Ybf,Yci,Yc5]at a;exact⟨c,a.1,a.2⟩
theorem MapI.keys {w : World} {x : Nat} {gs : List (Nat × Value)} {es : Array MapEntry} {clock : Nat} (h : MapI w x gs es clock) : ∀ e ∈ es.toList, ∃ l, keyOf prog 3 e.key = some l := fun e a => by
  obtain⟨j,c⟩:=Yd9 a;obtain⟨d,f,_⟩:=h.at c;rw[f];exact⟨_,Maps.keyOf_int_mk underlying3 (wf16 (h.sz _ (List.getElem_mem d)))⟩
theorem MapI.moved{w w':World}{x:Nat}{gs:List (Nat×Value)}{es:Array MapEntry}{clock:Nat}(h:MapI w x gs es clock)(a:w'.heap[x]?=w.heap[x]?):MapI w' x gs es clock:=⟨a.trans h.heap,h.stm,h.kv,h.sz⟩
theorem ZpW{a b:Nat}(h:Value.int .i64 (a:Int)=Vi (b:Int)):a=b:=by
 injection h with _ h;omega
theorem MapI.find{w:World}{x:Nat}{gs:List (Nat×Value)}{es:Array MapEntry}{clock:Nat}(h:MapI w x gs es clock)(k:Nat)(v:k<16) :
  ((∀W:World,(Instr.findKey 3 (Vi k) es.toList).run prog W=.ok none W)/\(∀g∈gs,g.1≠k)/\∀e∈es.toList,e.key≠.int .i64 k)∨
  ∃j,∃q:j<gs.length,gs[j].1=k/\(∀i (l:i<gs.length),i≠j->gs[i].1≠k)/\∃e,es.toList[j]?=some e/\e.key=Vi k/\e.val=gs[j].2/\∀W:World,(Instr.findKey 3 (Vi k) es.toList).run prog W=.ok (some (j,e.val)) W:=by
 have K:=Maps.int_keyed (P:=prog) (k:=3) underlying3;have d:=Maps.keyOf_int_mk (P:=prog) (k:=3) underlying3 (wf16 v);rcases K.find w d es.toList h.keys with ⟨z,a⟩|⟨j,e,z,a,m⟩
 ·left
  refine⟨fun W=>?_,fun g A p=>?_,a⟩
  ·rcases K.find W d es.toList h.keys with ⟨k1,_⟩|⟨j,e,k1,k2,k3⟩
   ·exact k1
   ·exact absurd k3 (a e (Ycq k2))
  ·obtain⟨i,l,rfl⟩:=List.mem_iff_getElem.1 A;have c:i<es.toList.length:=by rw[Ybl,h.len];exact l
   obtain⟨_,e1,_⟩:=h.at (List.getElem?_eq_getElem c)
   exact a _ (List.getElem_mem c) (by rw[e1,p])
 ·right
  obtain⟨q,e1,e2⟩:=h.at a;rw[m]at e1;have r:gs[j].1=k:=(ZpW e1).symm;have n:=h.stm.2.2
  have f : ∀ i (l : i < gs.length), i ≠ j -> gs[i].1 ≠ k := fun i l B p => by
    have c:i<es.toList.length:=by rw[Ybl,h.len];exact l
    have o:j<es.toList.length:=(Ycm.1 a).1;obtain⟨_,f1,_⟩:=h.at (List.getElem?_eq_getElem c)
    have e3:es.toList[j]=e:=Yax ((List.getElem?_eq_getElem o).symm.trans a);rw[List.Nodup,Ybx,List.pairwise_iff_getElem]at n;rcases Yav i j with s|s
    · exact n i j c o s (by rw[f1,p,e3,m])
    · exact n j i o c Om (by rw[f1,p,e3,m])
  refine⟨j,q,r,f,e,a,m,e2,fun W=>?_⟩;rcases K.find W d es.toList h.keys with ⟨_,k2⟩|⟨j',e',k1,k2,k3⟩
  ·exact absurd m (k2 e (Ycq a))
  ·obtain⟨t,f1,f2⟩:=h.at k2;rw[k3]at f1
   have:j'=j:=by
    refine Yb6 fun u=>f j' t u ?_;exact(ZpW f1).symm
   subst this;rw[a]at k2;have k4:=Yax k2;subst k4;exact k1
def getI(gs:List (Nat×Value))(k:Nat):Option Value:=(gs.find? fun g=>g.1=k).map (·.2)
theorem Zwv{gs:List (Nat×Value)}{k:Nat}(h:∀g∈gs,g.1≠k):getI gs k=none:=by
 unfold getI;rw[Yc2.2 (fun g a=>by simpa using h g a)];rfl
theorem ZpC:∀ {gs:List (Nat×Value)} {k j:Nat} (a:j<gs.length),gs[j].1=k->(∀i (c:i<gs.length),i≠j->gs[i].1≠k)->getI gs k=some gs[j].2
 | [],k,j,a,_,_=>absurd a (Ya1 _)
 | g::gs,k,0,a,h,_=>by unfold getI;rw[Yg3 (by simpa using h)];rfl
 | g :: gs, k, j + 1, a, h, d => by
   have e:g.1≠k:=d 0 (by simp) Om;have:=ZpC (gs:=gs) (k:=k) (j:=j) (by simpa using a) h (fun i c f=>d (i+1) (by simpa using c) Om);unfold getI at this ⊢;rw[Yg1 (by simpa using e)];exact this
theorem ZyF{w:World}{x:Nat}{gs:List (Nat×Value)}{es:Array MapEntry}{clock:Nat}(h:MapI w x gs es clock){k:Nat}(f:k<16){v:Value}(a:getI gs k=some v)(W:World)(l:W.heap[x]?=w.heap[x]?) :
  (Instr.lookup 362 (.map (some x)) (Vi k) false).run prog W=.ok v W:=by
 have K:=Maps.int_keyed (P:=prog) (k:=3) underlying3;have c:=Maps.keyOf_int_mk (P:=prog) (k:=3) underlying3 (wf16 f);rcases h.find k f with ⟨_,d,_⟩|⟨j,m,n,d,e,p,q,o,g⟩
 ·rw[Zwv d]at a;cases a
 ·rw[ZpC m n d]at a;have i:=Yax a;rw[o,i]at g;simp[Instr.lookup,run_underlying underlying362,Ybt (l.trans h.heap),K.check W _ c,g W,Result.andThen]
theorem Zwu(gs:List (Nat×Value))(k:Nat)(v:Value)(h:∀g∈gs,g.1≠k)(i:Nat):getI (gs++[(k,v)]) i=if k=i then some v else getI gs i:=by
 unfold getI;rw[List.find?_append];by_cases e:k=i
 ·subst e;rw[if_pos rfl,Yc2.2 (fun g a=>by simpa using h g a)];simp
 ·rw[if_neg e];cases c:gs.find? (fun g=>decide (g.1=i))with
  | none=>simp[e]
  | some g=>simp
theorem ZpD:∀ {gs:List (Nat×Value)} {k j:Nat} (a:j<gs.length) (v:Value),gs[j].1=k->(∀i (c:i<gs.length),i≠j->gs[i].1≠k)->∀i,getI (gs.set j (k,v)) i=if k=i then some v else getI gs i
 | [],k,j,a,_,_,_,_=>absurd a (Ya1 _)
 | g :: gs, k, 0, a, v, h, _, i => by
   have h:g.1=k:=h;unfold getI;rw[List.set_cons_zero];by_cases e:k=i
   · rw[if_pos e,Yg3 (by simpa using e)];rfl
   · rw[if_neg e,Yg1 (by simpa using e),Yg1 (by rw[h];simpa using e)]
 | g :: gs, k, j + 1, a, v, h, d, i => by
   have l:g.1≠k:=d 0 (by simp) Om;have ih:=ZpD (gs:=gs) (k:=k) (j:=j) (by simpa using a) v h (fun i c f=>d (i+1) (by simpa using c) Om) i;unfold getI at ih ⊢;rw[List.set_cons_succ];by_cases e:g.1=i
   · rw[Yg3 (by simpa using e),Yg3 (by simpa using e),if_neg Om]
   · rw[Yg1 (by simpa using e),Yg1 (by simpa using e)]
     exact ih
theorem ZDF{w:World}{x:Nat}{gs:List (Nat×Value)}{es:Array MapEntry}{clock:Nat}(h:MapI w x gs es clock){k:Nat}(g:k<16)(v:Value) :
  ∃(es':Array MapEntry) (cl':Nat) (gs':List (Nat×Value)),(∀W:World,W.heap[x]?=w.heap[x]?->(Instr.mapUpdate 362 (.map (some x)) (Vi k) v).run prog W=.ok () (setBlock W x (.map es' cl')))/\(∀W:World,x<W.heap.size->MapI (setBlock W x (.map es' cl')) x gs' es' cl')/\∀i,getI gs' i=if k=i then some v else getI gs i:=by
 have K:=Maps.int_keyed (P:=prog) (k:=3) underlying3;have c:=Maps.keyOf_int_mk (P:=prog) (k:=3) underlying3 (wf16 g);rcases h.find k g with ⟨n,o,d⟩|⟨j,t,u,o,e,d,q,A,n⟩
 ·refine⟨es.push ⟨Vi k,v,clock⟩,clock+1,gs++[(k,v)],fun W f=>?_,fun W p=>⟨by simp[setBlock,p],MapKept.stamped_push h.stm d,?_,fun z a=>?_⟩,Zwu gs k v o⟩
  ·simp[Instr.mapUpdate,run_underlying underlying362,Ybt (f.trans h.heap),K.check W false c,n W,Ych _ (f.trans h.heap),Result.andThen,setBlock]
  ·rw[Yeu,Yaq,Yaq,h.kv];rfl
  ·rcases Yar.1 a with a|a
   ·exact h.sz z a
   ·rw[Yap]at a;subst a;exact g
 ·have r:((es[j]?).map (·.key)).getD (Vi k)=Vi k:=by
   rw[<-Yb2,d];exact q
  refine⟨es.modify j fun e=>{ e with key:=Vi k,val:=v },clock,gs.set j (k,v),fun W f=>?_,fun W p=>⟨by simp[setBlock,p],MapKept.stamped_modify h.stm j _ (fun _ _=>rfl) (fun e' _ l=>?_),?_,fun z a=>?_⟩,ZpD t v u o⟩
  ·simp[Instr.mapUpdate,run_underlying underlying362,Ybt (f.trans h.heap),K.check W false c,n W,r,K.stays W c,Ych _ (f.trans h.heap),Result.andThen,setBlock]
  ·rw[<-Yb2,d]at l;have:=Yax l;subst this;exact q.symm
  ·rw[Yd8,<-h.kv];apply Ycs;intro i;rw[Ya2,Array.toList_modify,List.getElem?_modify,Ya0];by_cases m:j=i
   ·subst m;have s:j<es.size:=by have:=(Ycm.1 d).1;simpa using this
    simp[s]
   ·simp[m]
  ·rcases Yck a with a|a
   ·exact h.sz z a
   ·rw[a];exact g
theorem ZuC{w:World}{x:Nat}{es:Array MapEntry}{clock:Nat}(h:w.heap[x]?=some (.map es clock))(T:TypeId):(Builtin.clear_ #[362] T #[.map (some x)]).run prog w=.ok (.tuple #[]) (setBlock w x (.map #[] clock)):=by
 simp[Builtin.clear_,run_underlying underlying362,Ybt h,Ych _ h,Result.andThen,setBlock]
theorem Zm8(w:World)(x k:Nat){o:Obj}(h:k≠x):(setBlock w x o).heap[k]?=w.heap[k]?:=by simp[setBlock,Ycp h]
theorem Zz1{w:World}{base:Nat}{e:TypeId}{sz:Nat}{sa:Option Addr}{sn sc:Nat}{xs:List Value}(h:w.ownsRow base e sz (.slice sa sn sc) sn xs):w.ownsRow base e sz (.slice sa 0 sc) 0 []:=by
 obtain⟨k,a⟩:=h;refine⟨by simp,?_⟩;rcases a with ⟨a,_⟩|⟨g,cap,cur,c,d,f,l,i,j,m⟩
 ·injection a with e1 e2 e3;subst e1 e3;exact Or.inl ⟨rfl,rfl⟩
 ·injection c with e1 e2 e3;subst e1 e3;exact Or.inr ⟨_,_,cur,rfl,d,f,by omega,i,j,by simp⟩
theorem ZAn{w:World}(base mb x:Nat)(c0 c1 c2 c3 al:Value)(tm t2:Int)(gr:Value)(sa:Option Addr)(sn sc:Nat)(vs:List Value)(gs:List (Nat×Value))(es:Array MapEntry)(clock:Nat)(h:PSt w base mb c0 c1 c2 c3 al tm (.map (some x)) gr sa sn sc vs)(l:MapI w x gs es clock) :
  CP 98 #[Vp mb,Vi t2] w fun e u=>e=.returned (.tuple #[])/\Hid (PSt u base mb c0 c1 c2 c3 al t2 (.map (some x)) gr sa 0 sc [])/\Hid (MapI u x [] #[] clock)/\Hid (u.os=w.os/\u.tape=w.tape/\u.output=w.output/\w.heap.size<=u.heap.size/\∀k,k≠mb->k≠x->u.heap[k]?=w.heap[k]?):=by
 have m : x ≠ mb := fun e => by
   have o:=l.heap;rw[e]at o;have c:=o.symm.trans h.box;injection c with c;cases c
 obtain⟨a,f⟩:∃a,a=(w.setCell ⟨mb,5,none⟩ (Vi t2)).setCell ⟨mb,6,none⟩ (.slice sa 0 sc):=⟨_,rfl⟩
 have m5:w.cell? ⟨mb,5,none⟩=some (Vi tm):=h.box.cell 5;have m6:w.cell? ⟨mb,6,none⟩=some (.slice sa sn sc):=h.box.cell 6;have m7:w.cell? ⟨mb,7,none⟩=some (.map (some x)):=h.box.cell 7;have f5:=h.box.frozen 5;have f6:=h.box.frozen 6;have D:=h.box.lt;have q:BAt a mb (pmC c0 c1 c2 c3 al t2 (.slice sa 0 sc) (.map (some x)) gr) 365:=by rw[f];exact(h.box.setkM 5 _).setkM 6 _
 have d:∀k,k≠mb->a.heap[k]?=w.heap[k]?:=fun k i=>by rw[f,Go.Deep.blk_setCell_other _ _ _ _ i,Go.Deep.blk_setCell_other _ _ _ _ i]
 have t:=fun T=>ZuC ((d x m).trans l.heap) T;rw[f]at t
 have p:Hid (PSt (setBlock a x (.map #[] clock)) base mb c0 c1 c2 c3 al t2 (.map (some x)) gr sa 0 sc []/\MapI (setBlock a x (.map #[] clock)) x [] #[] clock/\((setBlock a x (.map #[] clock)).os=w.os/\(setBlock a x (.map #[] clock)).tape=w.tape/\(setBlock a x (.map #[] clock)).output=w.output/\w.heap.size<=(setBlock a x (.map #[] clock)).heap.size/\∀k,k≠mb->k≠x->(setBlock a x (.map #[] clock)).heap[k]?=w.heap[k]?)):=hid (by
  have z:x<a.heap.size:=by
   have:=(d x m).trans l.heap;exact(Yae.1 this).1
  have j:w.grownBy a (some mb):=by rw[f];exact ZA (ZA (ZbM w (some mb)) (Or.inl rfl) _) (Or.inl rfl) _
  refine⟨⟨(Zm8 a x mb (fun e=>m e.symm)).trans q,?_,rfl⟩,⟨by simp[setBlock,z],⟨by simp,by simp,by simp⟩,rfl,fun g r=>(by cases r)⟩,j.os,j.tape,j.output,?_,fun k o c=>(Zm8 a x k c).trans (d k o)⟩
  ·have s:=Zz1 h.own;refine ZdA s (fun k i=>?_)
   have A:k≠mb:=by
    rintro rfl;exact Zcx s h.box Dc i.symm
   have B:k≠x:=by
    rintro rfl;rcases s.2 with ⟨c,_⟩|⟨g,cap,cur,C,_,r,_⟩
    ·rw[c]at i;cases i
    ·rw[C]at i;have n:some g=some k:=i;injection n with n;subst n;have c:=l.heap.symm.trans r;injection c with c;cases c
   exact(Zm8 a x k B).trans (d k A)
  ·have:(setBlock a x (.map #[] clock)).heap.size=a.heap.size:=by simp[setBlock]
   rw[this];exact j.size)
 rw[f]at p;clear q d f h l;go_enter func98,ntmps98;go_wp2;exact bodyPost_end (v:=.tuple #[]) (results_none rfl _ _ _) rfl ⟨rfl,hid p.1,hid p.2.1,hid p.2.2⟩
theorem ZAz(w:World)(base mb:Nat)(c0 c1 c2 c3 al:Value)(tm:Int)(sl gr:Value)(sa:Option Addr)(n sc:Nat)(vs:List Value)(va:Option Addr)(vn vc:Nat)(h:PSt w base mb c0 c1 c2 c3 al tm sl gr sa (n+1) sc (vs++[.iface 342 (.slice va vn vc)]))(o:n<=64) :
  CP 100 #[Vp mb] w fun e u=>e=.returned (.bool (decide (0<(vn:Int))))/\Hid (BW w u):=by
 have c:vs.length=n:=by have:=h.len;rw[Yab]at this;simpa using this
 obtain⟨g,cp,f⟩:=ZF h.own Om;injection f with hv1 hv2 hv3;subst hv1 hv3;have m6:w.cell? ⟨mb,6,none⟩=some (.slice (some ⟨g,0,none⟩) (n+1) sc):=h.box.cell 6;have k0:=Zi h.own n (.iface 342 (.slice va vn vc)) (by rw[Yb3 Om,c];simp);have i:=h.box.lt;have j:=Z1 h.own;have k:IntKind.i64.wrap (n:Int)=(n:Int):=by rw[Ybo];omega
 have l:(n:Int)<(n:Int)+1:=by omega
 have m:∀W:World,(Instr.typeAssert (.iface 342 (.slice va vn vc)) 223 342 true).run prog W=.ok (.tuple #[.slice va vn vc,.bool true]) W:=fun W=>by kernel_rfl
 clear h c;go_enter func100,ntmps100
 go_upto_region 1 with fail
 refine Zbn 17 (fun u=>u.cell? ⟨mb,6,none⟩=some (.slice (some ⟨g,0,none⟩) (n+1) sc)/\u.cell? ⟨g,n,none⟩=some (.iface 342 (.slice va vn vc))) Kr (by exact⟨m6,k0⟩) (fun a=>?_);clear m6 k0;refine Za 0 a (h:=?_);refine Za 1 a (h:=?_);refine Za 2 a (h:=?_);refine Za 3 a (h:=?_);refine Za 4 a (h:=?_);refine Za 5 a (h:=?_);refine Za 6 a (h:=?_);refine Za 7 a (h:=?_);refine Za 8 a (h:=?_);refine Za 9 a (h:=?_);refine Za 10 a (h:=?_);refine Za 11 a (h:=?_);refine Za 12 a (h:=?_);refine Za 13 a (h:=?_);refine Za 14 a (h:=?_);refine Za 15 a (h:=?_);refine Za 16 a (h:=?_);refine Zbl Kr Kr rfl Kr (fun K d=>?_);go_simp;refine d.out _ _ ?_;clear d K;go_wp2;go_ret;exact⟨rfl,hid belB⟩
end Go.Proofs.YtkodhpilkaihjaaGreatDoor
namespace Go.Proofs.YtkodhpilkaihjaaGreatDoor.LS
open Go Go.RowKit
abbrev Cl:=VV ⊕ (Nd×Nat)
def ZcO:Cl->Nat
 | .inl (.inl _)=>1
 | .inl (.inr _)=>2
 | .inr (_,_)=>3
def ZE8:Cl->VV
 | .inl v=>v
 | .inr (_,_)=>.inr []
structure MQ where
 jy:List Cl
 jx:List (Option Cl)
def mq0:MQ:=⟨[],List.replicate 16 none⟩
def nd00:Nd×Nat:=(⟨0,0,0,[],[],[]⟩,0)
def Zdl(st:List Ser)(t:Int)(x:Nd×Nat):Cl:=if 0<x.2 then .inr (x.1,x.2)else .inl (.inr (Zc4 st x.1 none 10 t))
def doE(st:List Ser)(t:Int)(c:CodeQ)(x:Nat×Nat)(m:MQ):MQ:=match x.1 with
 | 0=>⟨.inl (.inl (c.jq.getD x.2 0))::m.jy,m.jx⟩
 | 1=>⟨Zdl st t (c.jw.getD x.2 nd00)::m.jy,m.jx⟩
 | 2 => match m.jy with
   | .inr (a,n)::r=>⟨.inl (.inr (Zc4 st a (some x.2) n t))::r,m.jx⟩
   | _=>m
 | 3 => match m.jy with
   | y::z::r=>⟨.inl (Zdg x.2 (ZE8 z) (ZE8 y))::r,m.jx⟩
   | _=>m
 | 4 => match m.jy with
   | y::r=>⟨.inl (negV (ZE8 y))::r,m.jx⟩
   | _=>m
 | 9=>m
 | 10=>m
 | 11=>⟨m.jy.tail,m.jx⟩
 | 12 => match m.jy with
   | y::r=>⟨r,m.jx.set x.2 (some y)⟩
   | _=>m
 | 13 => match m.jx.getD x.2 none with
   | some y=>⟨y::m.jy,m.jx⟩
   | none=>m
 | _ => match m.jy with
   | y::r=>⟨.inl (.inr (Zcv (x.1 - 5) (c.jv.getD x.2 []) (Zcm (ZE8 y))))::r,m.jx⟩
   | _=>m
def ZiG(m:MQ):Bool:=match m.jy with
 | y::_=>!(Zcm (ZE8 y)).isEmpty
 | []=>false
def Zbj(i:Nat)(x:Nat×Nat)(m:MQ):Nat:=if x.1=9 then x.2 else if x.1=10/\ZiG m=true then x.2 else i+1
def runE(st:List Ser)(t:Int)(c:CodeQ):Nat->Nat->MQ->Option (Nat×MQ)
 | f, i, m => if c.jz.length <= i then some (f, m) else match f with
   | 0=>none
   | f+1=>runE st t c f (Zbj i (c.jz.getD i (0,0)) m) (doE st t c (c.jz.getD i (0,0)) m)
def topE(m:MQ):VV:=match m.jy with
 | y::_=>ZE8 y
 | []=>.inr []
structure MetBy (b:Ah) (st sl:List Nat):Prop where
 kj:b.kj=true
 jy:b.kw=false->b.jy=st
 jx:∀j,b.jx.getD j 0≠0->sl.getD j 0=b.jx.getD j 0
theorem ZhT:∀(x y:List Nat) (j:Nat),(both x y).getD j 0≠0->x.getD j 0=(both x y).getD j 0/\y.getD j 0=(both x y).getD j 0
 | [],_,j,h=>by simp[both]at h
 | _::_,[],j,h=>by simp[both]at h
 | a :: x, b :: y, 0, h => by
   have e:(both (a::x) (b::y)).getD 0 0=if a=b then a else 0:=rfl
   rw[e]at h ⊢;by_cases c:a=b
   · rw[if_pos c];exact⟨rfl,c.symm⟩
   · rw[if_neg c]at h;exact absurd rfl h
 | a::x,b::y,j+1,h=>ZhT x y j h
theorem Zq4{a:Ah}{st sl:List Nat}:MetBy (Zbi a st sl) st sl:=by
 unfold Zbi;by_cases c:a.kj
 ·rw[if_pos c];refine⟨rfl,fun h=>?_,fun j h=>(ZhT _ _ j h).2⟩;have d:(a.kw || decide (a.jy≠st))=false:=h;rw[Yg8]at d;exact Decidable.not_not.1 (of_decide_eq_false d.2)
 ·rw[if_neg c];exact⟨rfl,fun _=>rfl,fun j _=>rfl⟩
theorem MetBy.meet{b:Ah}{st sl:List Nat}(h:MetBy b st sl)(st2 sl2:List Nat):MetBy (Zbi b st2 sl2) st sl:=by
 unfold Zbi;rw[if_pos h.kj];refine⟨rfl,fun a=>?_,fun j d=>?_⟩
 ·have c:(b.kw || decide (b.jy≠st2))=false:=a;rw[Yg8]at c;exact h.jy c.1
 ·have a:=(ZhT _ _ j d).1;have c:=h.jx j (by rw[a];exact d);exact c.trans a
theorem Zh6(l:List Ah)(i s:Nat)(a:Ah):(l.set i a).getD s ah0=if i=s/\s<l.length then a else l.getD s ah0:=by
 rw[Yaa,Ya0];by_cases h:i=s
 ·subst h;by_cases c:i<l.length
  ·simp[c]
  ·simp[c,Yaa]
 ·simp[h,Yaa]
theorem MetBy.set{l:List Ah}{s:Nat}{st sl:List Nat}(h:MetBy (l.getD s ah0) st sl)(i:Nat)(st2 sl2:List Nat):MetBy ((l.set i (Zbi (l.getD i ah0) st2 sl2)).getD s ah0) st sl:=by
 rw[Zh6];split
 ·rename_i a;rw[a.1];exact h.meet _ _
 ·exact h
theorem MetBy.goOn{l:List Ah}{s:Nat}{st sl:List Nat}(h:MetBy (l.getD s ah0) st sl)(x:Nat×Nat)(i:Nat)(st2 sl2:List Nat):MetBy ((goOn x i st2 sl2 l).getD s ah0) st sl:=by
 unfold LS.goOn;simp only;split
 ·split
  ·exact h.set _ _ _
  ·exact h
 ·split
  ·exact(h.set _ _ _).set _ _ _
  ·exact h.set _ _ _
theorem ZpF(x:Nat×Nat)(i:Nat)(st sl:List Nat)(l:List Ah):(goOn x i st sl l).length=l.length:=by
 unfold goOn;simp only;split <;> split <;> simp
theorem Zwx{x:Nat×Nat}{i:Nat}{st sl:List Nat}{l:List Ah}(a:x.1≠9)(c:i+1<l.length):MetBy ((goOn x i st sl l).getD (i+1) ah0) st sl:=by
 unfold goOn;simp only;rw[if_neg a,Zh6,if_pos ⟨rfl,by split <;> simp[c]⟩];exact Zq4
theorem Zww{x:Nat×Nat}{i:Nat}{st sl:List Nat}{l:List Ah}(c:ZcE x.1=true)(d:x.2<l.length):MetBy ((goOn x i st sl l).getD x.2 ah0) st sl:=by
 unfold goOn;simp only;rw[c]
 have a:MetBy ((l.set x.2 (Zbi (l.getD x.2 ah0) st sl)).getD x.2 ah0) st sl:=by
  rw[Zh6,if_pos ⟨rfl,d⟩];exact Zq4
 split
 ·exact a
 ·exact a.set _ _ _
def Fwd(c:CodeQ):Prop:=∀i,i<c.jz.length->Zy c i (c.jz.getD i (0,0))=true
theorem ZgM{c:CodeQ}{i:Nat}{x:Nat×Nat}(h:Zy c i x=true)(a:ZcE x.1=true):i<x.2/\x.2<=c.jz.length:=by
 obtain⟨op,arg⟩:=x;have d:op=9∨op=10:=by unfold ZcE at a;simpa using a
 rcases d with rfl|rfl <;> simpa [Zy] using h
theorem Zwy{c:CodeQ}{x:Nat×Nat}{i s:Nat}{st sl:List Nat}{l:List Ah}(e:Zy c i x=true)(f:s<=i):(goOn x i st sl l).getD s ah0=l.getD s ah0:=by
 unfold goOn;simp only
 have d:(if ZcE x.1=true then l.set x.2 (Zbi (l.getD x.2 ah0) st sl)else l).getD s ah0=l.getD s ah0:=by
  by_cases a:ZcE x.1=true
  ·rw[if_pos a,Zh6,if_neg (fun h=>by have:=(ZgM e a).1;omega)]
  ·rw[if_neg a]
 split
 ·exact d
 ·rw[Zh6,if_neg (fun h=>by omega)];exact d
theorem Zrz{c:CodeQ} : ∀ {k:Nat} {l:List Ah} {m:Nat},Zbx c k=.ok (l,m)->l.length=c.jz.length+1
 | 0,l,m,h=>by injection h with h;injection h with h1 h2;subst h1;simp[ZeY]
 | k + 1, l, m, h => by
   unfold Zbx at h;cases a:Zbx c k with
   | error e=>rw[a]at h;cases h
   | ok x=>
     rw[a]at h;simp only at h;have d:=Zrz (l:=x.1) (m:=x.2) a;unfold Zfx at h;simp only at h;split at h
     · split at h
       · cases h
       · split at h
         · cases h
         · injection h with h;injection h with h1 h2;subst h1;rw[ZpF,d]
     · injection h with h;injection h with h1 h2;subst h1;exact d
theorem ZjV{c:CodeQ}{k:Nat}{l':List Ah}{m':Nat}(h:Zbx c (k+1)=.ok (l',m')):∃l m,Zbx c k=.ok (l,m)/\(((l.getD k ah0).kj=false/\l'=l)∨((l.getD k ah0).kj=true/\(l.getD k ah0).kw=false/\∃st sl,Zt c (c.jz.getD k (0,0)) (l.getD k ah0).jy (l.getD k ah0).jx=some (st,sl)/\l'=goOn (c.jz.getD k (0,0)) k st sl l)):=by
 unfold Zbx at h;cases d:Zbx c k with
 | error e=>rw[d]at h;cases h
 | ok x=>
  rw[d]at h;simp only at h;refine⟨x.1,x.2,rfl,?_⟩;unfold Zfx at h;simp only at h;split at h
  ·rename_i a;split at h
   ·cases h
   ·rename_i f;split at h
    ·cases h
    ·rename_i s g;injection h with h;injection h with h1 h2;exact Or.inr ⟨a,by simpa using f,s.1,s.2,g,h1.symm⟩
  ·rename_i a;injection h with h;injection h with h1 h2;exact Or.inl ⟨by simpa using a,h1.symm⟩
theorem ZmJ{c:CodeQ}{st sl:List Nat}{s:Nat}{k:Nat}{l:List Ah}{m:Nat}(e:Zbx c k=.ok (l,m))(f:MetBy (l.getD s ah0) st sl):∀(d:Nat) {l':List Ah} {m':Nat},Zbx c (k+d)=.ok (l',m')->MetBy (l'.getD s ah0) st sl
 | 0, l', m', h => by
   have a:=e.symm.trans h;injection a with a;injection a with h3 h4;rw[<-h3];exact f
 | d + 1, l', m', h => by
   obtain⟨l1,m1,g,a⟩:=ZjV (k:=k+d) h;have ih:=ZmJ e f d g;rcases a with ⟨_,rfl⟩|⟨_,_,st2,sl2,_,rfl⟩
   · exact ih
   · exact ih.goOn _ _ _ _
theorem ZmK{c:CodeQ}(e:Fwd c){s k:Nat}{l:List Ah}{m:Nat}(g:s<=k)(f:Zbx c k=.ok (l,m)):∀(d:Nat) {l':List Ah} {m':Nat},k+d<=c.jz.length->Zbx c (k+d)=.ok (l',m')->l'.getD s ah0=l.getD s ah0
 | 0, l', m', _, h => by
   have a:=f.symm.trans h;injection a with a;injection a with h3 h4;rw[<-h3]
 | d + 1, l', m', hd, h => by
   obtain⟨l1,m1,i,a⟩:=ZjV (k:=k+d) h;have ih:=ZmK e g f d Om i;rcases a with ⟨_,rfl⟩|⟨_,_,st2,sl2,_,rfl⟩
   · exact ih
   · rw[Zwy (e (k+d) Om) Om];exact ih
theorem ZrA{c:CodeQ} : ∀(d:Nat) {k:Nat} {l':List Ah} {m':Nat},Zbx c (k+d)=.ok (l',m')->∃l m,Zbx c k=.ok (l,m)
 | 0,k,l',m',h=>⟨l',m',h⟩
 | d + 1, k, l', m', h => by
   obtain⟨l1,m1,a,_⟩:=ZjV (k:=k+d) h;exact ZrA d a
structure Flow (c:CodeQ) (L:List Ah):Prop where
 fwd:Fwd c
 first:L.getD 0 ah0=⟨true,false,[],List.replicate 16 0⟩
 step:∀i,i<c.jz.length->(L.getD i ah0).kj=true->(L.getD i ah0).kw=false/\∃st sl,Zt c (c.jz.getD i (0,0)) (L.getD i ah0).jy (L.getD i ah0).jx=some (st,sl)/\((c.jz.getD i (0,0)).1≠9->MetBy (L.getD (i+1) ah0) st sl)/\(ZcE (c.jz.getD i (0,0)).1=true->MetBy (L.getD (c.jz.getD i (0,0)).2 ah0) st sl)
 last:(L.getD c.jz.length ah0).kw=false/\((L.getD c.jz.length ah0).jy=[1]∨(L.getD c.jz.length ah0).jy=[2])
theorem ZrP{c:CodeQ} : ∀ {n:Nat},Zcp c n=.ok ()->∀i,i<n->Zy c i (c.jz.getD i (0,0))=true
 | 0,_,i,d=>absurd d (Ya1 _)
 | n + 1, h, i, d => by
   unfold Zcp at h;cases a:Zcp c n with
   | error e=>rw[a]at h;cases h
   | ok u=>
     rw[a]at h;simp only at h;by_cases e:i=n
     · subst e
       cases f:Zy c i (c.jz.getD i (0,0))with
       | true=>rfl
       | false=>rw[f]at h;cases h
     · exact ZrP a i Om
theorem ZD0{c:CodeQ}{x:Nat×Nat}(h:ZcT c=.ok x):∃L,Flow c L:=by
 unfold ZcT at h;cases n:Zcp c c.jz.length with
 | error e=>rw[n]at h;cases h
 | ok u=>
  rw[n]at h;simp only at h;have g:Fwd c:=ZrP n;cases a:Zdj c with
  | error e=>rw[a]at h;cases h
  | ok m=>
   unfold Zdj at a;cases f:Zbx c c.jz.length with
   | error e=>rw[f]at a;cases a
   | ok y=>
    rw[f]at a;simp only at a;obtain⟨L,mo⟩:=y;simp only at a
    have d:Zd1 (L.getD c.jz.length ah0)=true:=by
     cases v:Zd1 (L.getD c.jz.length ah0)with
     | true=>rfl
     | false=>rw[v]at a;cases a
    unfold Zd1 at d;rw[Yas]at d;refine⟨L,g,?_,fun i w p=>?_,by simpa using d.1,?_⟩
    ·have:=ZmK g (s:=0) (k:=0) (l:=ZeY c.jz.length) (m:=0) (Yac _) rfl c.jz.length Om (l':=L) (m':=mo) (by rw[Ycf];exact f);rw[this];rfl
    ·obtain⟨l1,m1,o⟩:=ZrA (c.jz.length - (i+1)) (k:=i+1) (by rw[show i+1+(c.jz.length - (i+1))=c.jz.length by omega];exact f);obtain⟨l0,m0,q,j⟩:=ZjV o;have e0:L.getD i ah0=l0.getD i ah0:=ZmK g (Yac i) q (c.jz.length - i) Om (by rw[show i+(c.jz.length - i)=c.jz.length by omega];exact f);rw[e0]at p ⊢;rcases j with ⟨r,_⟩|⟨_,z,st,sl,A,rfl⟩
     ·rw[p]at r;cases r
     ·have C:=Zrz q;refine⟨z,st,sl,A,fun B=>?_,fun t=>?_⟩
      ·exact ZmJ o (Zwx B Om) (c.jz.length - (i+1)) (by rw[show i+1+(c.jz.length - (i+1))=c.jz.length by omega];exact f)
      ·exact ZmJ o (Zww t (by have:=(ZgM (g i w) t).2;omega)) (c.jz.length - (i+1)) (by rw[show i+1+(c.jz.length - (i+1))=c.jz.length by omega];exact f)
    ·simpa using d.2
def ClOk(n:Nat):Cl->Prop
 | .inl v=>VOk n v
 | .inr (_,_)=>True
structure Typd (n:Nat) (st sl:List Nat) (m:MQ):Prop where
 jy:m.jy.map ZcO=st
 len:m.jx.length=16
 jx:∀j,sl.getD j 0≠0->∃y,m.jx.getD j none=some y/\ZcO y=sl.getD j 0
 ok:∀y∈m.jy,ClOk n y
 okS:∀j y,m.jx.getD j none=some y->ClOk n y
theorem ZDD(n:Nat):Typd n [] (List.replicate 16 0) mq0:=by
 refine⟨rfl,rfl,fun j h=>?_,(fun y a=>(by cases a)),fun j y a=>?_⟩
 ·exfalso;apply h;rw[Yaa,Ybs];split <;> rfl
 ·exfalso
  have d:(List.replicate 16 (none:Option Cl)).getD j none=none:=by rw[Yaa,Ybs];split <;> rfl
  have c:(mq0.jx).getD j none=some y:=a;unfold mq0 at c;rw[d]at c;cases c
theorem Typd.met{n:Nat}{st sl:List Nat}{m:MQ}{b:Ah}(h:Typd n st sl m)(a:MetBy b st sl)(e:b.kw=false):Typd n b.jy b.jx m:=
 ⟨by rw [a.jy e]; exact h.jy, h.len, fun j c => by
   have d:=a.jx j c;obtain⟨y,f,g⟩:=h.jx j (by rw[d];exact c);exact⟨y,f,by rw[g,d]⟩,h.ok,h.okS⟩
theorem Typd.push{n:Nat}{r sl st' sl':List Nat}{rs:List Cl}{ss:List (Option Cl)}{y:Cl}{k:Nat}(h:Typd n r sl ⟨rs,ss⟩)(d:ZcO y=k)(e:ClOk n y)(a:ZE k r sl=some (st',sl')):Typd n st' sl' ⟨y::rs,ss⟩:=by
 unfold ZE at a;split at a
 ·cases a
 ·injection a with a;injection a with e1 e2;subst e1 e2;refine⟨?_,h.len,h.jx,fun z c=>?_,h.okS⟩
  ·show ZcO y::rs.map ZcO=k::r;rw[d,show rs.map ZcO=r from h.jy]
  ·rcases Yau.1 c with rfl|c
   ·exact e
   ·exact h.ok z c
theorem Typd.pop{n k:Nat}{r sl:List Nat}{m:MQ}(h:Typd n (k::r) sl m):∃y rs,m.jy=y::rs/\ZcO y=k/\ClOk n y/\Typd n r sl ⟨rs,m.jx⟩:=by
 have a:=h.jy;cases c:m.jy with
 | nil=>rw[c]at a;cases a
 | cons y rs=>
  rw[c]at a;have d:ZcO y::rs.map ZcO=k::r:=a;injection d with h1 h2;exact⟨y,rs,rfl,h1,h.ok y (by rw[c];simp),⟨h2,h.len,h.jx,fun z e=>h.ok z (by rw[c];simp[e]),h.okS⟩⟩
theorem Zet{y:Cl}(h:ZcO y=2):∃l,y=.inl (.inr l):=by
 rcases y with (a|l)|⟨a,n⟩
 ·cases h
 ·exact⟨l,rfl⟩
 ·cases h
theorem Zqj{y:Cl}(h:ZcO y=3):∃a n,y=.inr (a,n):=by
 rcases y with (a|l)|⟨a,n⟩
 ·cases h
 ·cases h
 ·exact⟨a,n,rfl⟩
theorem Zgl{y:Cl}(h:Zby (ZcO y)=true):∃v,y=.inl v:=by
 rcases y with v|⟨a,n⟩
 ·exact⟨v,rfl⟩
 ·cases h
theorem Zxz{op:Nat}{a b:VV}:ZcO (.inl (Zdg op a b))=max (ZcO (.inl a)) (ZcO (.inl b)):=by
 cases a <;> cases b <;> rfl
theorem ZxA{a:VV}:ZcO (.inl (negV a))=ZcO (.inl a):=by cases a <;> rfl
theorem Typd.same{n:Nat}{st sl:List Nat}{m:MQ}(h:Typd n st sl m){r:List Nat}{k:Nat}{st' sl':List Nat}(c:st=k::r)(a:ZE k r sl=some (st',sl')):Typd n st' sl' m:=by
 unfold ZE at a;split at a
 ·cases a
 ·injection a with a;injection a with e1 e2;subst e1 e2;rw[<-c];exact h
theorem Typd.step{ser:List Ser}{c:CodeQ}{i op arg:Nat}{st sl st' sl':List Nat}{m:MQ}(h:Typd ser.length st sl m)(hd:Dst ser)(t:Int)(M:op<=13)(E:Zy c i (op,arg)=true)(d:Zt c (op,arg) st sl=some (st',sl')):Typd ser.length st' sl' (doE ser t c (op,arg) m):=by
 rcases(by omega:op=0∨op=1∨op=2∨op=3∨op=4∨op=9∨op=10∨op=11∨op=12∨op=13∨(op=5∨op=6∨op=7∨op=8))with rfl|rfl|rfl|rfl|rfl|rfl|rfl|rfl|rfl|rfl|D
 ·exact Typd.push (rs:=m.jy) (ss:=m.jx) h rfl trivial d
 ·have F:arg<c.jw.length:=by simpa [Zy] using E
  have e1:c.jw[arg]?=some c.jw[arg]:=List.getElem?_eq_getElem F;have e2:c.jw.getD arg nd00=c.jw[arg]:=by rw[Yaa,e1];rfl
  have w:ZE ((c.jw[arg]?.map Zb3).getD 0) st sl=some (st',sl'):=d;rw[e1]at w;show Typd ser.length st' sl' ⟨Zdl ser t (c.jw.getD arg nd00)::m.jy,m.jx⟩;rw[e2];refine Typd.push (rs:=m.jy) (ss:=m.jx) h ?_ ?_ w
  ·show ZcO (Zdl ser t c.jw[arg])=Zb3 c.jw[arg];unfold Zdl Zb3;split <;> rfl
  ·unfold Zdl;split
   ·trivial
   ·exact Zkx hd _
 ·cases st with
  | nil=>cases d
  | cons k r=>
   simp only[Zt]at d;split at d
   ·rename_i o;subst o;obtain⟨y,rs,s,f,g,q⟩:=h.pop;obtain⟨a,n,rfl⟩:=Zqj f;simp only[doE,s];exact Typd.push q rfl (Zkx hd _) d
   ·cases d
 ·cases st with
  | nil=>cases d
  | cons ky r=>
   cases r with
   | nil=>cases d
   | cons kz r=>
    simp only[Zt]at d;split at d
    ·rename_i o;rw[Yas]at o;obtain⟨y,rs,s,f,g,q⟩:=h.pop;obtain⟨z,qs,x,B,G,H⟩:=q.pop;have x:rs=z::qs:=x;subst x;obtain⟨vy,rfl⟩:=Zgl (by rw[f];exact o.2);obtain⟨vz,rfl⟩:=Zgl (by rw[B];exact o.1);simp only[doE,s];refine Typd.push H ?_ (ZnT G g) d;rw[<-f,<-B];exact Zxz
    ·cases d
 ·cases st with
  | nil=>cases d
  | cons ky r=>
   simp only[Zt]at d;split at d
   ·rename_i o;obtain⟨y,rs,s,f,g,q⟩:=h.pop;obtain⟨vy,rfl⟩:=Zgl (by rw[f];exact o);simp only[doE,s];refine Typd.push q ?_ (Zrc g) d;rw[<-f];exact ZxA
   ·cases d
 ·injection d with d;injection d with e1 e2;subst e1 e2;exact h
 ·cases st with
  | nil=>cases d
  | cons k r=>
   simp only[Zt]at d;split at d
   ·rename_i o;subst o;exact h.same rfl d
   ·cases d
 ·cases st with
  | nil=>cases d
  | cons k r=>
   injection d with d;injection d with e1 e2;subst e1 e2;obtain⟨y,rs,s,f,g,q⟩:=h.pop;simp only[doE,s];exact q
 ·cases st with
  | nil=>cases d
  | cons k r=>
   injection d with d;injection d with e1 e2;subst e1 e2;obtain⟨y,rs,s,f,g,q⟩:=h.pop;have F:arg<16:=by simpa [Zy] using E
   simp only[doE,s];have I:m.jx.length=16:=h.len
   have gs : ∀ j, (m.jx.set arg (some y)).getD j none = if arg = j then some y else m.jx.getD j none := fun j => by
     rw[Yaa,Ya0,Yaa];by_cases e:arg=j
     · rw[if_pos e,if_pos e,if_pos Om];rfl
     · rw[if_neg e,if_neg e]
   refine⟨q.jy,by rw[Yat];exact I,fun j J=>?_,q.ok,fun j z B=>?_⟩
   ·show ∃z,(m.jx.set arg (some y)).getD j none=some z/\_;rw[gs]
    have e2:(sl.set arg k).getD j 0=if arg=j/\j<sl.length then k else sl.getD j 0:=by
     rw[Yaa,Ya0,Yaa];by_cases e:arg=j
     ·subst e;by_cases p:arg<sl.length
      ·simp[p]
      ·simp[p]
     ·simp[e]
    have p:(sl.set arg k).getD j 0≠0:=J;rw[e2]at p;show ∃z,_/\ZcO z=(sl.set arg k).getD j 0;rw[e2];by_cases e:arg=j
    ·by_cases C:j<sl.length
     ·rw[if_pos e,if_pos ⟨e,C⟩];exact⟨y,rfl,f⟩
     ·rw[if_neg (fun A=>C A.2)]at p
      exfalso;apply p;rw[Yaa,Ya9 Om];rfl
    ·rw[if_neg e,if_neg (fun A=>e A.1)];rw[if_neg (fun A=>e A.1)]at p;exact h.jx j p
   ·have u:(m.jx.set arg (some y)).getD j none=some z:=B;rw[gs]at u;by_cases e:arg=j
    ·rw[if_pos e]at u;injection u with u;subst u;exact g
    ·rw[if_neg e]at u;exact h.okS j z u
 ·simp only[Zt]at d;split at d
  ·cases d
  ·rename_i K;obtain⟨y,f,o⟩:=h.jx arg K;simp only[doE,f];exact Typd.push (rs:=m.jy) (ss:=m.jx) h o (h.okS arg y f) d
 ·have key:∃r,st=2::r/\ZE 2 r sl=some (st',sl'):=by
   cases st with
   | nil=>rcases D with rfl|rfl|rfl|rfl <;> cases d
   | cons k r=>
    have w:(if k=2 then ZE 2 r sl else none)=some (st',sl'):=by rcases D with rfl|rfl|rfl|rfl <;> exact d
    split at w
    ·rename_i o;subst o;exact⟨r,rfl,w⟩
    ·cases w
  obtain⟨r,rfl,L⟩:=key;obtain⟨y,rs,s,f,g,q⟩:=h.pop;obtain⟨l,rfl⟩:=Zet f
  have e:doE ser t c (op,arg) m=⟨.inl (.inr (Zcv (op - 5) (c.jv.getD arg []) l))::rs,m.jx⟩:=by
   rcases D with rfl|rfl|rfl|rfl <;> (simp only[doE,s];rfl)
  rw[e];exact Typd.push q rfl (ZpK (ZoS (v:=.inr l) g)) L
theorem Flow.calm{c:CodeQ}{L:List Ah}(h:Flow c L){s:Nat}(d:s<=c.jz.length)(a:(L.getD s ah0).kj=true):(L.getD s ah0).kw=false:=by
 by_cases e:s=c.jz.length
 ·rw[e];exact h.last.1
 ·exact(h.step s Om a).1
theorem Flow.next{c:CodeQ}{L:List Ah}{ser:List Ser}(h:Flow c L)(hd:Dst ser)(t:Int){i:Nat}{m:MQ}(n:i<c.jz.length)(g:(c.jz.getD i (0,0)).1<=13)(r:(L.getD i ah0).kj=true)(u:Typd ser.length (L.getD i ah0).jy (L.getD i ah0).jx m) :
  i<Zbj i (c.jz.getD i (0,0)) m/\Zbj i (c.jz.getD i (0,0)) m<=c.jz.length/\(L.getD (Zbj i (c.jz.getD i (0,0)) m) ah0).kj=true/\Typd ser.length (L.getD (Zbj i (c.jz.getD i (0,0)) m) ah0).jy (L.getD (Zbj i (c.jz.getD i (0,0)) m) ah0).jx (doE ser t c (c.jz.getD i (0,0)) m):=by
 obtain⟨_,st,sl,v,o,j⟩:=h.step i n r;have k:=h.fwd i n;generalize c.jz.getD i (0,0)=x at *
 obtain⟨op,arg⟩:=x;simp only at g o j;have p:=u.step hd t g k v;have fin:∀s,s<=c.jz.length->MetBy (L.getD s ah0) st sl->(L.getD s ah0).kj=true/\Typd ser.length (L.getD s ah0).jy (L.getD s ah0).jx (doE ser t c (op,arg) m):=fun s q l=>⟨l.kj,p.met l (h.calm q l.kj)⟩
 unfold Zbj;simp only;by_cases f:op=9
 ·rw[if_pos f];have d:ZcE op=true:=by rw[f];rfl
  have a:=ZgM (x:=(op,arg)) k d;exact⟨a.1,a.2,fin arg a.2 (j d)⟩
 ·rw[if_neg f];by_cases e:op=10/\ZiG m=true
  ·rw[if_pos e];have d:ZcE op=true:=by rw[e.1];rfl
   have a:=ZgM (x:=(op,arg)) k d;exact⟨a.1,a.2,fin arg a.2 (j d)⟩
  ·rw[if_neg e];exact⟨by omega,by omega,fin (i+1) Om (o f)⟩
theorem Flow.end_{c:CodeQ}{L:List Ah}{n:Nat}(h:Flow c L){m:MQ}(e:Typd n (L.getD c.jz.length ah0).jy (L.getD c.jz.length ah0).jx m):∃v,m.jy=[.inl v]/\VOk n v:=by
 have key : ∀ k, (L.getD c.jz.length ah0).jy = [k] -> k = 1 ∨ k = 2 -> ∃ v, m.jy = [.inl v] /\ VOk n v := fun k g f => by
   rw[g]at e;obtain⟨y,rs,i,j,l,o⟩:=e.pop
   have p:rs=[]:=by
     have:=o.jy;cases rs with
     | nil=>rfl
     | cons a b=>cases this
   subst p;obtain⟨v,rfl⟩:=Zgl (y:=y) (by rw[j];rcases f with rfl|rfl <;> rfl);exact⟨v,i,l⟩
 rcases h.last.2 with d|d
 ·exact key 1 d (Or.inl rfl)
 ·exact key 2 d (Or.inr rfl)
theorem Flow.start{c:CodeQ}{L:List Ah}(h:Flow c L)(n:Nat):(L.getD 0 ah0).kj=true/\Typd n (L.getD 0 ah0).jy (L.getD 0 ah0).jx mq0:=by
 rw[h.first];exact⟨rfl,ZDD n⟩
end Go.Proofs.YtkodhpilkaihjaaGreatDoor.LS
namespace Go.Proofs.YtkodhpilkaihjaaGreatDoor
open Go.RowKit LS Go.Proofs.Tryz
abbrev RdAt (w:World) (b:Nat) (s:BA) (p:Nat):Prop:=BAt w b [.string s,Vi p] 178
abbrev Zc5 (w:World) (ca:Addr):Prop:=w.cell? ⟨8,0,none⟩=some (.iface 491 (.pointer (some ca)))
def RdC{α:Type}(V:World->α->Value->Prop)(Z:Value->Prop)(w:World)(b:Nat)(s:BA)(ca:Addr)(r:RdR α)(v err:Value):Prop:=match r with
 | .ok x=>err=.nilIface/\V w x.1 v/\RdAt w b s x.2
 | .error x=>x.1=9/\ZM w err x.2 ca/\Z v/\∃p:Nat,RdAt w b s p
theorem RdC.ok{α:Type}{V:World->α->Value->Prop}{Z:Value->Prop}{w:World}{b:Nat}{s:BA}{ca:Addr}{r:RdR α}{v err:Value}(h:RdC V Z w b s ca r v err){x:α×Nat}(a:r=.ok x):err=.nilIface/\V w x.1 v/\RdAt w b s x.2:=by subst a;exact h
theorem RdC.err{α:Type}{V:World->α->Value->Prop}{Z:Value->Prop}{w:World}{b:Nat}{s:BA}{ca:Addr}{r:RdR α}{v err:Value}(h:RdC V Z w b s ca r v err){x:Nat×Nat}(a:r=.error x):x.1=9/\ZM w err x.2 ca/\Z v/\∃p:Nat,RdAt w b s p:=by subst a;exact h
theorem RdC.mkOk{α:Type}{V:World->α->Value->Prop}{Z:Value->Prop}{w:World}{b:Nat}{s:BA}{ca:Addr}{r:RdR α}{v err:Value}{x:α×Nat}(a:r=.ok x)(h:err=.nilIface/\V w x.1 v/\RdAt w b s x.2):RdC V Z w b s ca r v err:=by subst a;exact h
theorem RdC.ku{α:Type}{V:World->α->Value->Prop}{Z:Value->Prop}{w:World}{b:Nat}{s:BA}{ca:Addr}{r:RdR α}{v err:Value}{x:Nat×Nat}(a:r=.error x)(h:x.1=9/\ZM w err x.2 ca/\Z v/\∃p:Nat,RdAt w b s p):RdC V Z w b s ca r v err:=by subst a;exact h
theorem Zc5.grown{w w':World}{ca:Addr}{b:Nat}(h:Zc5 w ca)(a:w.grownBy w' (some b))(d:20<=b):Zc5 w' ca:=by
 have c:8<w.heap.size:=Yai _ _ h;have e:=a.block _ c (by intro e;injection e with e;have:8<20:= Dc;omega);unfold Zc5 at h ⊢;unfold World.cell? at h ⊢;simp only at h ⊢;rw[e];exact h
theorem Zc5.below{w w':World}{ca:Addr}(h:Zc5 w ca)(a:BW w w'):Zc5 w' ca:=
 (a.cell (p:=⟨_,0,none⟩) (Yai _ _ h)).trans h
theorem RdAt.step{w:World}{b:Nat}{s:BA}{p:Nat}(h:RdAt w b s p)(q:Nat):RdAt (w.setCell ⟨b,1,none⟩ (Vi (q:Int))) b s q:=by
 unfold RdAt BAt at h ⊢;simp only[World.setCell,Ybn,h,if_true,Ybf];rfl
theorem ZM.shape{w:World}{v:Value}{p:Int}{a:Addr}(h:ZM w v p a):∃fa:Nat,v=.iface 115 (Vp fa):=ZM.lt h
theorem ZfX{i:Int}(ca:Addr){w:World}(a:Zc5 w ca) :
  CP 76 #[Vi i] w fun e u=>∃v,e=.returned v/\Hid (ZM u v i ca)/\BW w u:=by
 have d:w.cell? ⟨8,0,none⟩=some (.iface 491 (.pointer (some ca))):=a;clear a;go_enter func76,ntmps76
 go_wp2_with fail
 refine(ZkT i w).mono ?_;rintro e u ⟨rfl,rfl⟩;have c:Hid (ZM (w.alloc (.cells #[.string ⟨#[98,121,116,101]⟩,Vi i,.iface 491 (.pointer (some ca))] 119)) (.iface 115 (Vp w.heap.size)) i ca):=hid ⟨_,rfl,Go.Deep.blk_alloc_new _ _⟩;go_wp2;go_ret;exact⟨_,rfl,c,Zbal⟩
def SVt(_:World)(a:LB)(v:Value):Prop:=∃t:BA,v=.string t/\bl t=a
def SZv(v:Value):Prop:=v=.string ⟨#[]⟩
theorem Zm1(s:BA)(p n b:Nat)(ca:Addr)(w:World)(d:RdAt w b s p)(l:Zc5 w ca)(x:p<=s.size)(o:s.size<=maxLen)(z:n<=70000) :
  CP 144 #[Vp b,Vi n] w fun e u=>∃v err,e=.returned (.tuple #[v,err])/\Hid (RdC SVt SZv u b s ca (Zcg (bl s) p n) v err)/\w.grownBy u (some b):=by
 unfold maxLen at o;have f:Hid (RdAt w b s p):=d;have q:Hid (Zc5 w ca):=l;have c:Hid (RdAt w.drew b s p):=hid (d.below ((Yaf _ _).drew));have c0:w.cell? ⟨b,0,none⟩=some (.string s):=f.cell 0;have c1:w.cell? ⟨b,1,none⟩=some (Vi p):=f.cell 1;have f1:w.frozen? ⟨b,1,none⟩=false:=f.frozen 1;clear d l;by_cases h:s.size<p+n
 ·have hd:(s.size:Int) - p<n:=by omega
  have g:Hid (Zcg (bl s) p n=.error (9,s.size)):=hid (by unfold Zcg;rw[if_pos (by rw[Zd];exact h),Zd]);clear h;go_enter func144,ntmps144;go_wp2
  go_region
  all_goals
   go_wp2_with fail
   refine(ZfX ca (q.below ((Yaf _ _).drew))).mono ?_;rintro e m ⟨v,rfl,i,a⟩;have r:=hid (ZM.shape i.out);have j:Hid (RdC SVt SZv m b s ca (Zcg (bl s) p n) (.string ⟨#[]⟩) v):=hid (RdC.ku g.out ⟨rfl,i.out,rfl,p,c.below a⟩);have k:Hid (w.grownBy m (some b)):=hid (Zw (((Yaf w.heap.size w).drew).trans a));obtain⟨fa,rfl⟩:=r.out;clear i a;go_wp2;go_ret2;exact⟨_,_,rfl,j,k.out⟩
 ·have hd:¬(s.size:Int) - p<n:=by omega
  have g:Hid (Zcg (bl s) p n=.ok (bl (s.extract p (p+n)),p+n)):=hid (by unfold Zcg;rw[if_neg (by rw[Zd];omega),Zsy]);have j:Hid (RdAt (w.drew.setCell ⟨b,1,none⟩ (Vi ((p+n:Nat):Int))) b s (p+n)):=hid (RdAt.step c.out _);have k:Hid (w.grownBy (w.drew.setCell ⟨b,1,none⟩ (Vi ((p+n:Nat):Int))) (some b)):=hid (ZA (Zdi (ZbM _ _)) (Or.inl rfl) _);have t:p+n<=s.size:=by omega
  go_enter func144,ntmps144;go_wp2
  go_region
  all_goals
   go_wp2
   go_region
   all_goals
    go_wp2;go_ret2;exact⟨_,_,rfl,hid (RdC.mkOk g.out ⟨rfl,⟨_,rfl,rfl⟩,j.below ((Yaf _ _).drew)⟩),Zdi k.out⟩
def NV(_:World)(a:Nat)(v:Value):Prop:=v=Vi a
def NZ(v:Value):Prop:=v=Vi 0
theorem ZzR{a c:Nat}(h:a<16777216)(d:c<256):bits .or .i64 ((a:Int)*256) (c:Int)=((256*a+c:Nat):Int):=by
 have e:(BitVec.ofInt 64 ((a:Int)*256)).toNat=a*256:=by
  rw[show((a:Int)*256)=((a*256:Nat):Int) by omega,BitVec.ofInt_natCast,Yeo];exact Yd4 Om
 have f:(BitVec.ofInt 64 (c:Int)).toNat=c:=by
  rw[BitVec.ofInt_natCast,Yeo];exact Yd4 Om
 have g:a*256 ||| c=256*a+c:=by
  have:=Nat.two_pow_add_eq_or_of_lt (i:=8) (b:=c) d a;rw[show(2:Nat) ^ 8=256 from rfl]at this;rw[Nat.mul_comm a 256];exact this.symm
 show IntKind.i64.wrap ((BitVec.ofInt 64 ((a:Int)*256) ||| BitVec.ofInt 64 (c:Int)).toNat:Int)=_;rw[BitVec.toNat_or,e,f,g,Ybo];omega
theorem Zis(s:BA)(p n b:Nat)(ca:Addr)(w:World)(z:RdAt w b s p)(h:Zc5 w ca)(J:p<=s.size)(A:s.size<=maxLen)(K:n<=4) :
  CP 75 #[Vp b,Vi n] w fun e u=>∃v err,e=.returned (.tuple #[v,err])/\Hid (RdC NV NZ u b s ca (Zbr (bl s) p n) v err)/\w.grownBy u (some b):=by
 have o:Hid (CP 144 #[Vp b,Vi n] w _):=hid (Zm1 s p n b ca w z h J A Om);clear z h A;go_enter func75,ntmps75
 go_wp2_with fail
 refine o.mono ?_;rintro e B ⟨v,err,rfl,j,C⟩;cases c:Zcg (bl s) p n with
 | error x=>
  obtain⟨D,q,rfl,E⟩:=j.err c;obtain⟨fa,rfl⟩:=ZM.shape q;have r:Hid (RdC NV NZ B b s ca (Zbr (bl s) p n) (Vi 0) (.iface 115 (Vp fa))):=hid (RdC.ku (x:=x) (by unfold Zbr;rw[c]) ⟨D,q,rfl,E⟩);clear j o c D q E;go_wp2
  go_loop [8,18] (fun v i=>v=Vi 0/\i=Vi 0) (fun _ _=>0)
  case atStart=>exact⟨rfl,rfl⟩
  case round=>
   obtain⟨rfl,rfl⟩:=hrel;go_wp2;go_ret2;exact⟨_,_,rfl,r,C⟩
 | ok x=>
  obtain⟨rfl,⟨t,rfl,f⟩,F⟩:=j.ok c;obtain⟨l,m,G⟩:=Zhh c;have N:t.size<=4:=by rw[ZU f,m,Zki l];exact K
  have r:Hid (RdC NV NZ B b s ca (Zbr (bl s) p n) (Vi (back (bl t))) .nilIface):=hid (RdC.mkOk (x:=(back x.1,x.2)) (by unfold Zbr;rw[c]) ⟨rfl,by rw[f];rfl,F⟩);clear j o c F f m G l;go_wp2
  go_loop [8,18] (fun v i=>∃k:Nat,k<=t.size/\i=Vi k/\v=Vi (back ((bl t).take k))) (fun _ i=>t.size - (intOf i).toNat)
  case atStart=>exact⟨0,Yag _,rfl,rfl⟩
  case round=>
   obtain⟨k,P,rfl,rfl⟩:=hrel;obtain⟨d,g⟩:∃d,back ((bl t).take k)=d:=⟨_,rfl⟩
   have a:Hid (back ((bl t).take k)=d):=g;rw[g];clear g;by_cases H:k<t.size
   ·have L:d<16777216:=by
     have:back ((bl t).take k)<256 ^ 3:=ZhM (by rw[Ya7];omega);rw[a.out]at this;exact this
    have h:=t[k].toNat_lt;have O:=ZzR L h;have I:Hid (back ((bl t).take (k+1))=256*d+t[k].toNat):=hid (by rw[ZiB t k H,ZnY,a.out]);clear a;go_wp2
    go_round
    case rel=>exact⟨k+1,by omega,by go_num,by rw[I.out];go_num⟩
    case measure=>simp[intOf];omega
   ·have M:Hid (back (bl t)=d):=hid (by rw[<-a.out,Ya5 (by rw[Zd];omega)]);clear a;go_wp2;go_ret2;exact⟨_,_,rfl,by rw[<-M.out];exact r,C⟩
end Go.Proofs.YtkodhpilkaihjaaGreatDoor
