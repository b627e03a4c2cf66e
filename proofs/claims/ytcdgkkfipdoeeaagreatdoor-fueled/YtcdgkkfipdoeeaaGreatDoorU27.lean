/- Parts. -/
import Derived.Test.YtcdgkkfipdoeeaaGreatDoorU26
import Derived.Deep.WholeRow
set_option linter.all false
set_option maxRecDepth 100000
set_option maxHeartbeats 16000000
namespace Go.Proofs.YtcdgkkfipdoeeaaGreatDoor
open Go.RowKit LS Go.Proofs.Tryz
variable {a:Addr}{c:CodeQ}{r:Except (Nat×Nat) (CodeQ×Nat×Nat)}{p:Int}{l:List Ah}{sl sl' st st':List Nat}{b g:Nat}{A:Nat->Addr}{x:Nat×Nat}{err v:Value}{w w' w0:World}
theorem ZyP(n:Nat):(madeCells (stC ah0).toArray (n*83)).toList=stCs (List.replicate n ah0):=by
 refine Znl (by simp[madeCells];omega) (fun t a=>?_);rw[Yfn]at a
 have c:(madeCells (stC ah0).toArray (n*83)).toList[t]?=some ((stC ah0).toArray[t % (stC ah0).toArray.size]!):=by
  unfold madeCells;rw[Array.toList_map,Ya2,Array.toList_range,List.getElem?_range Om];rfl
 rw[c,Yb5,ZbE];have d:=ZcA ah0 (t % 83) Om
 have e:(List.replicate n ah0).getD (t / 83) ah0=ah0:=by
  rw[Yaa,Ybs];split <;> rfl
 rw[e]
 congr 1
 rw[getElem!_def];have:(stC _).toArray[t % 83]?=some _:=Yd7▸d;rw[this]
theorem ZB5(a b:Ah):ZfD (stC a) 0 (stC b)=stC b:=by
 refine Ziy (by rw[Zsi,ZbE]) (fun i c=>?_);rw[Zsh _ _ _ _ (by rw[ZbE,ZbE];omega),if_pos (by rw[ZbE];omega),Nat.sub_zero,ZcA b i c]
theorem ZnK:AhOk ah0:=⟨by decide,(fun k a=>(by cases a)),rfl⟩
theorem ZtF:AhOk ⟨true,false,[],List.replicate 16 0⟩:=⟨by decide,(fun k a=>(by cases a)),rfl⟩
theorem ZAm(n:Nat):∀a∈ZeY n,AhOk a:=by
 intro a c;rcases Yau.1 c with rfl|c
 ·exact ZtF
 ·rw[(List.mem_replicate.1 c).2];exact ZnK
theorem Zgo{k:Nat}(c:k≠0)(f:st.length<=64)(d:∀k∈st,k≠0)(e:sl.length=16)(h:ZE k st sl=some (st',sl')):st'.length<=64/\(∀k∈st',k≠0)/\sl'.length=16:=by
 unfold ZE at h;split at h
 ·cases h
 ·injection h with h;injection h with e1 e2;subst e1;subst e2
  exact ⟨by rw [Yaj]; omega, fun x a => by
    rcases Yau.1 a with rfl|a
    · exact c
    · exact d x a,e⟩
theorem ZCP{i:Nat}(m:Zy c i x=true)(f:st.length<=64)(d:∀k∈st,k≠0)(a:sl.length=16)(h:Zt c x st sl=some (st',sl')):st'.length<=64/\(∀k∈st',k≠0)/\sl'.length=16:=by
 obtain⟨op,arg⟩:=x
 have tl : ∀ {k : Nat} {r : List _}, st = k :: r -> r.length <= 64 /\ (∀ k ∈ r, k ≠ 0) := fun {k r} e => by
   subst e;exact⟨by rw[Yaj]at f;omega,fun y n=>d y (Yam _ n)⟩
 unfold Zt at h;simp only at h;split at h
 ·exact Zgo Dc f d a h
 ·have g:arg<c.ju.length:=by simpa [Zy] using m
  refine Zgo ?_ f d a h;rw[List.getElem?_eq_getElem g];show Zb3 _≠0;unfold Zb3;split <;> decide
 ·split at h
  ·rename_i k r;obtain⟨t1,t2⟩:=tl rfl;split at h
   ·exact Zgo Dc t1 t2 a h
   ·cases h
  ·cases h
 ·split at h
  ·rename_i y k r;split at h
   ·rename_i j;have j:=j;rw[Yas]at j;have l:=d k (by simp);exact Zgo Om (by simp only[Yaj]at f;omega) (fun z o=>d z (by simp[o])) a h
   ·cases h
  ·cases h
 ·split at h
  ·rename_i k r;obtain⟨t1,t2⟩:=tl rfl;split at h
   ·exact Zgo (d k (by simp)) t1 t2 a h
   ·cases h
  ·cases h
 ·injection h with h;injection h with e1 e2;subst e1;subst e2;exact⟨f,d,a⟩
 ·split at h
  ·rename_i k r;obtain⟨t1,t2⟩:=tl rfl;injection h with h;injection h with e1 e2;subst e1;subst e2;exact⟨t1,t2,a⟩
  ·cases h
 ·split at h
  ·rename_i k r;obtain⟨t1,t2⟩:=tl rfl;injection h with h;injection h with e1 e2;subst e1;subst e2;exact⟨t1,t2,by rwa [Yat]⟩
  ·cases h
 ·split at h
  ·cases h
  ·rename_i l;exact Zgo l f d a h
 ·split at h
  ·rename_i k r;obtain⟨t1,t2⟩:=tl rfl;split at h
   ·exact Zgo Dc t1 t2 a h
   ·cases h
  ·cases h
theorem ZyZ{a:Ah}(c:AhOk a)(e:st.length<=64)(f:∀k∈st,k≠0)(d:sl.length=16):AhOk (Zbi a st sl):=by
 unfold Zbi;split
 ·exact⟨c.ln,c.kd,ZgG c.sl d⟩
 ·exact⟨e,f,d⟩
theorem ZB7  {a : Ah} (c : ∀ x ∈ l, AhOk x) (d : AhOk a) (i : Nat) : ∀ x ∈ l.set i a, AhOk x := fun x e => by
  rcases Yck e with h|h
  · exact c x h
  · rw[h];exact d
theorem ZgN(c:∀x∈l,AhOk x)(i:Nat):AhOk (l.getD i ah0):=by
 rw[Yaa];cases h:l[i]? with
 | none=>exact ZnK
 | some a=>exact c a (Ycq h)
theorem Zxf(a:Ah):Zd1 a=(!a.qz && (decide (a.jz.length=1) && Zby (a.jz.reverse.getD 0 0))):=by
 unfold Zd1
 congr 1
 cases e:a.jz with
 | nil=>rfl
 | cons k r=>
  cases r with
  | nil=>
   unfold Zby;by_cases c:k=1
   ·subst c;rfl
   ·by_cases d:k=2
    ·subst d;rfl
    ·simp[c,d]
  | cons k2 r2=>simp
theorem Zxg(i:Nat)(l:List Ah)(f:i<l.length)(h:BAt w g (stCs l) 262) :
  CP 145 #[.pointer (some ⟨g,i*83,none⟩)] w fun e u=>e=.returned (.bool (Zd1 (l.getD i ah0)))/\u=w:=by
 have c:∀j,j<83->w.cell? _=some _:=fun j p=>by rw[h.cell,Ziz l i j f p]
 generalize l.getD i ah0=a at *
 have c1:w.cell? _=some (.bool _):=c 1 Dc;have c2:w.cell? _=some (.int _ _):=c 2 Dc;have c3:w.cell? _=some (.int _ ((a.jz.reverse.getD 0 0))):=c 3 Dc;have q:=hid (Zxf a);generalize i*83=o at *
 generalize a.jz.reverse.getD 0 0=k at *
 generalize a.jz.length=n at *
 rw[q];clear c h f;cases d:a.qz with
 | true=>
  rw[d]at c1;go_enter func145,ntmps145;go_wp2;go_ret;exact⟨rfl,rfl⟩
 | false=>
  rw[d]at c1;by_cases m:n=1
  ·subst m;go_enter func145,ntmps145
   go_wp2_with (go_at_call 188;refine(Zfo k _).mono ?_;rintro e r ⟨rfl,rfl⟩)
   go_ret;exact⟨Zcy (by simp),rfl⟩
  ·have s:((n:Int) == 1)=false:=by rw[beq_eq_false_iff_ne];omega
   go_enter func145,ntmps145;go_wp2;go_ret;exact⟨Zcy (by simp[m]),rfl⟩
theorem Tryz.infoState:(Tryz.prog.info? 262).map (fun i=>(i.zero,i.size,i.bytes))=some (some (.agg (stC ah0).toArray),83,96):=by kernel_rfl
theorem ZzX{base:Nat}{e:TypeId}{sz n:Nat}{xs:List Value}(h:w.ownsRow base e sz (.slice (some ⟨g,0,none⟩) n n) n xs):BAt w g xs e:=by
 rcases h.2 with ⟨a,_⟩|⟨g',cap,cur,a,_,c,_,_,d,f⟩
 ·cases a
 ·injection a with e1 e2 e3;injection e1 with e1;injection e1 with e1;subst e1 e3;unfold BAt;rw[c]
  congr 2
  apply Array.toList_inj.1;rw[<-f,Ya5 (Ybl▸d▸Yac _)]
def Zcs(w:World)(v:Value)(p:Int)(a:Addr):Prop:=∃fa:Nat,v=.iface 81 (Vp fa)/\w.cell? ⟨fa,1,none⟩=some (Vi p)/\w.cell? ⟨fa,2,none⟩=some (.iface 432 (.pointer (some a)))
theorem Zcs.below(h:Zcs w v p a)(c:BW w w'):Zcs w' v p a:=by
 obtain⟨fa,f,d,e⟩:=h;exact⟨fa,f,(c.cell (Yai _ _ d)).trans d,(c.cell (Yai _ _ e)).trans e⟩
theorem ZiW{i:Int} :
  CP 83 #[Vi i,.iface 432 (.pointer (some a))] w fun e u=>∃v,e=.returned v/\Hid (Zcs u v i a)/\BW w u:=by
 go_enter func83,ntmps83;go_wp2;go_ret;exact⟨_,rfl,hid ⟨_,rfl,by simp,by simp⟩,belB⟩
def ZeM(w:World)(A:Nat->Addr)(r:Except (Nat×Nat) Nat)(v:Int)(err:Value):Prop:=match r with
 | .ok m=>v=m/\err=.nilIface
 | .error x=>v=0/\x.1=12/\Zcs w err x.2 (A 11)
theorem ZeM.mkOk{r:Except (Nat×Nat) Nat}{v:Int}{m:Nat}(a:r=.ok m)(h:v=m/\err=.nilIface):ZeM w A r v err:=by subst a;exact h
theorem ZeM.qq{r:Except (Nat×Nat) Nat}{v:Int}(a:r=.error x)(h:v=0/\x.1=12/\Zcs w err x.2 (A 11)):ZeM w A r v err:=by subst a;exact h
theorem CodeV.below{cv pv gv iv:Value}(h:CodeV w c cv pv gv iv)(a:BW w w'):CodeV w' c cv pv gv iv:=by
 refine⟨Zn h.cs a,?_,?_,Zn h.is a⟩
 ·obtain⟨xs,d,e,f⟩:=h.ps;exact⟨xs,Zn d a,e,fun x g=>(f x g).below a⟩
 ·obtain⟨xs,d,e,f⟩:=h.gs;exact⟨xs,Zn d a,e,fun x g=>(f x g).below a⟩
theorem ZnZ{B:Nat} : ∀(vs:List Value) (o:Nat) {W:World},Below B w W->B<=b->Below B w (W.setCells b o vs)
 | [],_,_,h,_=>h
 | v :: r, o, W, h, a => by
   rw[World.setCells];exact ZnZ r _ (h.setCell a v) a
theorem Zsg{j:Nat} : ∀(vs:List Value) (o:Nat) {W:World},j≠b->(W.setCells b o vs).heap[j]?=W.heap[j]?
 | [],_,_,_=>rfl
 | v :: r, o, W, h => by
   rw[World.setCells];exact(Zsg r _ h).trans (Go.Deep.blk_setCell_other _ _ _ _ h)
structure HighP (w:World) (A:Nat->Addr) (m:Int) (c:CodeQ) (a0 a1 a2 a3:Option Addr) (n0 n1 n2 e0 e1 e2 e3:Nat):Prop where
 v:Vars w A m
 n:20<=w.heap.size
 cv:CodeV w c (.slice a0 n0 e0) (.slice a1 n1 e1) (.slice a2 n2 e2) (.slice a3 c.jq.length e3)
 ln:c.jq.length<=65535
 rf:∀i,i<c.jq.length->Zy c i (c.jq.getD i (0,0))=true
 op:∀x∈c.jq,x.1<=13/\x.2<65536
theorem Zw0(w:World)(A:Nat->Addr)(m:Int)(c:CodeQ)(a0 a1 a2 a3:Option Addr){n0 n1 n2:Nat}(e0 e1 e2 e3:Nat)(h:HighP w A m c a0 a1 a2 a3 n0 n1 n2 e0 e1 e2 e3) :
  CP 84 #[.agg #[.slice a0 n0 e0,.slice a1 n1 e1,.slice a2 n2 e2,.slice a3 c.jq.length e3]] w fun e u=>∃v err,e=.returned (.tuple #[Vi v,err])/\Hid (ZeM u A (Zdj c) v err)/\BW w u:=by
 have HP:=hid h;have i3:=h.ln;obtain⟨i0,hi,i4,i5,i6⟩:=info_parts Tryz.infoState;obtain⟨n,hn⟩:∃n,n=c.jq.length:=⟨_,rfl⟩
 rw[<-hn]at i3 ⊢;have HN:=hid hn;clear h hn;go_enter func84,ntmps84
 go_wp2_with (at_make;refine wpList_make_full _ rfl _ _ 257 rfl (w.heap.size+1) 262 i0 _ 83 underlying257 hi i4 i5 _ _ _ _ (n+1) rfl rfl ?e1 ?e2 ?b2 ?b3 ?b4 ?_)
 case e1=>go_num
 case e2=>go_num
 case b2=>rw[i6];omega
 case b3=>unfold maxLen;omega
 case b4=>simp
 intro w1 d6 q;have f6:=Zbal.trans ⟨q.os,q.tape,q.output,q.size,fun k hk=>q.block k (by rw[Go.Deep.nblk_alloc];omega) (by simp)⟩;have f7:=hid f6;have U:Hid (BAt w1 (w.heap.size+1) (stCs (List.replicate (n+1) ah0)) 262):=by have:=ZzX d6;rwa [ZyP]at this
 have d7:Hid (BAt _ _ _ 59):=hid ((q.block _ (by rw[Go.Deep.nblk_alloc];omega) (by simp)).trans bnw)
 have g0:w1.cell? ⟨w.heap.size+1,0,none⟩=some (.bool false):=by
  have:=Ziz (List.replicate (n+1) ah0) 0 0 (by simp) Dc;rw[U.cell 0,show(0)=0*83+0 from rfl,this];simp[Zck,ah0,Yaa]
 have f0:=U.frozen 0;have d3:=d7.cell;have g9:=U.lt
 have V:Hid (BAt (w1.setCell ⟨w.heap.size+1,0,none⟩ (.bool true)) (w.heap.size+1) (stCs (ZeY n)) 262):=hid (by
  have h2:=U.setk 0 (.bool true)
  have h3 : (stCs (List.replicate (n + 1) ah0)).set (0 * 83 + 0) (.bool true) = stCs ((List.replicate (n + 1) ah0).set 0 ⟨true, false, [], List.replicate 16 0⟩) := Zkf (by simp) Dc (by
    rw[show(List.replicate (n+1) ah0).getD 0 ah0=ah0 from rfl];rfl)
  rw[show(0*83+0:Nat)=0 from rfl]at h3;rw[h3]at h2;exact h2)
 have X:=hid (d7.other (p:=⟨w.heap.size+1,0,none⟩) (by show w.heap.size≠w.heap.size+1;omega) (.bool true));have C:Hid (Below _ w (w1.setCell ⟨w.heap.size+1,0,none⟩ (.bool true))):=hid (f7.setCell (by show w.heap.size<=w.heap.size+1;omega) _);clear d6 q f6 f7 U d7;go_wp2
 go_loopw [5, 20] (fun mv iv wr => ∃ (k mo : Nat) (l : List Ah), k <= n /\ iv = Vi k /\ mv = Vi mo /\ mo <= 64 /\ l.length = n + 1 /\ Hid (Zbx c k = .ok (l, mo)) /\ Hid (∀ x ∈ l, AhOk x) /\ Hid (BAt wr (w.heap.size + 1) (stCs l) 262) /\ Hid (BAt wr w.heap.size [.slice a0 n0 e0, .slice a1 n1 e1, .slice a2 n2 e2, .slice a3 n e3] 59) /\ Hid (BW w wr))
   (fun _ iv _=>n - (intOf iv).toNat)
 case atStart=>exact⟨0,0,ZeY n,Yag _,rfl,rfl,by decide,by simp[ZeY],hid (by rw[HN];rfl),hid (ZAm n),V,X,C⟩
 case round=>
  obtain⟨k,mo,l,hk,rfl,rfl,i7,f8,f9,D,b7,b8,E⟩:=hrel;clear V X C g0 f0 d3 g9;have N:=hid f8;clear f8;by_cases k6:k<n
  ·have k7:(k:Int)<n:=by omega
   obtain⟨x,hx⟩:∃x,x=c.jq.getD k (0,0):=⟨_,rfl⟩
   have HX:=hid hx;obtain⟨op,arg⟩:=x;have Y:k<c.jq.length:=by rwa [<-HN.out]
   have d8:c.jq[k]=(op,arg):=by rw[hx,Yaa,List.getElem?_eq_getElem Y];rfl
   have b9:=hid (HP.cv.below E.out).is;obtain⟨gi,cpi,i8⟩:=ZF b9.out Om;injection i8 with hgi1 hgi2 hgi3;subst hgi1;have i0c:=Zi b9 _ _ (Zfm _ k Y).1;have i1c:=Zi b9 _ _ (Zfm _ k Y).2;rw[d8]at i0c i1c;simp only at i0c i1c;have k3:=Z1 b9;have i9:=HP.op _ (d8▸List.getElem_mem Y);obtain⟨d9,i1⟩:=i9;simp only at d9 i1;have c3:Hid (Zy c k (op,arg)=true):=by have:=HP.rf k Y;rwa [<-hx]at this
   obtain⟨a,ha⟩:∃a,a=l.getD k ah0:=⟨_,rfl⟩
   have c4:=hid ha;have O:Hid _:=ha▸ZgN D.out k
   have g1 := hid (fun o => World.rangeAt_alloc (b7.range _ _ (fun j hj => by
     rw[ZbE]at hj;rw[Ziz l k j (by rw[N];omega) hj,ZcA a j hj,<-c4])) o)
   have g2:Hid ((prog.info? 262).map (·.size)=some (stC a).length):=by rw[ZbE];exact Tryz.infoSt
   have g3:Hid ((prog.info? 262).map (·.size)=some (stC a).toArray.size):=by rwa [Yb5,ZbE]
   have g4:=hid (all_oneCell_toArray (Zsu a))
   have g5 : Hid (∀ o1, ((wr.alloc _).alloc _).there _ 0 (stC a).toArray.size) := hid (fun o1 => by
     have h1:BAt ((wr.alloc o1).alloc (.cells (stC ah0).toArray 262)) (wr.heap.size+1) (stC ah0) 262:=by
       have:=Go.Deep.blk_alloc_new (wr.alloc o1) (.cells (stC ah0).toArray 262);rwa [Go.Deep.nblk_alloc]at this
     exact h1.there 0 _ (by rw[Yb5,ZbE,ZbE];omega))
   have j0:=(zero_of_info (by have:=Tryz.infoState;simp only[Ybk]at this ⊢;obtain⟨j,j1,j2⟩:=this;exact⟨j,j1,by injection j2 with e1 e2;injection e2 with e2 e3;rw[e1,e2]⟩)).1;have r3:=b8.cell;have k4:=b7.lt;have k5:=b8.lt;clear hx ha d8 hgi2 hgi3
   go_upto_region 8 with (first
     | refine wpList_load_mid rfl 262 (.tmp 27) rfl (w.heap.size+1) (k*83) rfl (stC a) _ (g1.out _) underlying262 rfl g2.out ?_
     | refine wpList_store_mid rfl 262 (.tmp 8) (.tmp 28) rfl (wr.heap.size+1) 0 (stC a).toArray rfl rfl (g5.out _) g3.out g4.out ?_)
   refine ZP fun W hW=>?_;have c5:Below _ _ W:=hW▸ZnZ (stC a) 0 (Zbal.alloc (by simp) _) Om
   have e4:Hid (StAt W (wr.heap.size+1) a):=by
    rw[hW]
    have h1:BAt ((wr.alloc (Obj.cells #[Vi op,Vi arg] 159)).alloc (.cells (stC ah0).toArray 262)) (wr.heap.size+1) (stC ah0) 262:=by
     have:=Go.Deep.blk_alloc_new (wr.alloc (Obj.cells #[Vi op,Vi arg] 159)) (.cells (stC ah0).toArray 262);rwa [Go.Deep.nblk_alloc]at this
    have h2:=BAt.setCells (stC a) 0 h1;rw[ZB5]at h2;exact h2
   have c6:Hid (BAt W wr.heap.size [Vi op,Vi arg] 159):=by
    rw[hW];refine(Zsg _ 0 Om).trans ?_;exact(Zbal.block _ (by simp)).trans bnw
   have e5:=hid (b7.below c5);have c7:=hid (b8.below c5);have J:=hid (E.trans (c5.mono E.size));clear hW c5 i0c i1c r3 g1 g5 j0 g2 g3 g4;obtain⟨c0,c1,c2⟩:=StAt.cells e4;have o0:=c6.cell 0;have o1:=c6.cell 1;have q0:=c7.cell;simp only[Zget]at o0 o1;have c8:Hid (Zbx c (k+1)=Zfx c k l mo):=by show(match Zbx c k with|.error e=>_|.ok x=>_)=_;rw[f9]
   cases B:a.qy with
   | false=>
    rw[B]at c0;have r:Hid (Zbx c (k+1)=.ok (l,mo)):=by rw[c8];unfold Zfx;simp only;rw[<-c4,B];rfl
    go_wp2
    go_roundw
    case rel=>exact⟨k+1,mo,l,by omega,by go_num,rfl,i7,N,r,D,e5,c7,J⟩
    case measure=>simp[intOf];omega
   | true=>
    rw[B]at c0;cases P:a.qz with
    | true=>
     rw[P]at c1
     have Z:Hid (Zdj c=.error _):=hid (by
      unfold Zdj;rw[Zrx (by rw[c8];unfold Zfx;simp only;rw[<-c4,B,P];rfl) _ Om])
     have gs:W.cell? ⟨11,0,none⟩=some _:=(HP.v.below J).sent _ Dc
     go_wp2_with fail
     refine(ZiW).mono ?_;rintro e w9 ⟨v,rfl,HE,F⟩;have a4:=hid (J.trans (F.mono J.size));obtain⟨fa,rfl,a5,a6⟩:=HE.out;clear F a5 a6;go_wp2;go_ret2;exact⟨_,_,rfl,hid (ZeM.qq Z ⟨rfl,rfl,HE⟩),a4⟩
    | false=>
     rw[P]at c1;have g6:Hid (DoP W _ a c _ _ _ _ _ _ _ _ _ n _ _ _ _):=hid ⟨e4,by have:=HP.cv.below J;rwa [<-HN]at this,⟨k,c3⟩,O.ln,O.sl,O.kd⟩
     have e6:Hid (Zbx c (k+1)=match Zt c (op,arg) a.jz a.jy with
      | none=>.error (12,k)
      | some s=>.ok (goOn (op,arg) k s.1 s.2 l,max mo s.1.length)):=by rw[c8];unfold Zfx;simp only;rw[<-c4,B,P,<-HX];rfl
     go_wp2_with fail
     refine(ZBV W a c n g6 d9).mono ?_;rintro e z ⟨ok,rfl,HD⟩;have a7:=HD.2.2;have V:=hid (e5.grown a7 (by intro e;injection e with e;omega));have X:=hid (c7.grown a7 (by intro e;injection e with e;omega));have c9:=hid (c6.grown a7 (by intro e;injection e with e;omega));have C:=hid (ZbV J a7 (by have:=E.size;omega));clear a7 e5 c7 c6 J g6 e4 c0 c1 c2 o0 o1 q0;cases G:Zt c (op,arg) a.jz a.jy with
     | none=>
      have e7:ok=false:=by have:=HD.1;rw[G]at this;exact this
      subst e7
      have Z:Hid (Zdj c=.error _):=hid (by
       unfold Zdj;rw[Zrx (by rw[e6,G]) _ Om])
      clear HD G;have gs:z.cell? ⟨11,0,none⟩=some _:=(HP.v.below C).sent _ Dc
      go_wp2_with fail
      refine(ZiW).mono ?_;rintro e w9 ⟨v,rfl,HE,F⟩;have a4:=hid (C.trans (F.mono C.size));obtain⟨fa,rfl,a5,a6⟩:=HE.out;clear F a5 a6;go_wp2;go_ret2;exact⟨_,_,rfl,hid (ZeM.qq Z ⟨rfl,rfl,HE⟩),a4⟩
     | some s=>
      obtain⟨st,sl⟩:=s;have e7:ok=true:=by have:=HD.1;rw[G]at this;exact this
      subst e7;obtain⟨b,a8⟩:∃b:Ah,b=⟨true,false,st,sl⟩:=⟨_,rfl⟩
      have e8:Hid (StAt z (wr.heap.size+1) b):=by
       have:=HD.2.1 _ _ G;rw[B,P]at this;rw[a8];exact this
      obtain⟨t1,t2,t3⟩:=ZCP c3.out O.ln O.kd O.sl G;have L:Hid (AhOk b):=a8▸⟨t1,t2,t3⟩;have r:Hid (Zbx c _=.ok (goOn _ k st sl l,max _ st.length)):=hid (by rw[e6,G]);have g:=hid a8;have e9:b.jz=st:=by rw[a8]
      have d0:Hid ((prog.info? 262).map (·.size)=some (stC b).length):=by rw[ZbE];exact Tryz.infoSt
      have c2:=(StAt.cells e8).2.2;rw[e9]at c2;have o0:=c9.cell 0;have o1:=c9.cell 1;simp only[Zget]at o0 o1;obtain⟨sn,g7⟩:∃sn,sn=st.length:=⟨_,rfl⟩
      rw[<-g7]at c2 t1 r;clear HD G e6 c8 a8 e9 t2 t3 g7 B P
      go_wp2_with fail
      refine(Zuq).mono ?_;rintro e w3 ⟨rfl,Q⟩;have f1:=hid (V.below Q);have f2:=hid (X.below Q);have H:=hid (c9.below Q);have R:Hid (StAt _ _ b):=hid (e8.below Q);have f3:=hid (C.trans (Q.mono C.size));clear Q V X c9 e8 C o0 o1 c2;have o0:=H.cell 0;have o1:=H.cell 1;simp only[Zget]at o0 o1;have d1:Hid (∀(l':List _) (j:Nat),(∀x∈l',AhOk x)->∀x∈l'.set j (Zbi _ st sl),AhOk x):=hid (fun l' j h=>ZB7 h (ZyZ (ZgN h j) (by have:=L.ln;rw[g]at this;exact this) (by have:=L.kd;rw[g]at this;exact this) (by have:=L.sl;rw[g]at this;exact this)) j);by_cases h9:op=9
      ·subst h9;rw[show ZcE 9=true from rfl];have j3:k<arg/\arg<=n:=by have:=c3.out;rw[HN];simpa [Zy] using this
       have i2:(arg:Int)<(n)+1:=by omega
       go_upto_region 13 with fail
       refine Zbn 5 (fun u=>u.cell? _=some _/\u.rangeAt _ 0 _) Kr ⟨by simpa using H.cell 1,by simpa using R.range 0 _ (fun j _=>by rw[Ycf])⟩ (fun d=>?_);refine Za 0 d (h:=?_);refine Za 1 d (h:=?_);refine Za 2 d (h:=?_);refine Za 3 d (h:=?_);refine ZeD (i:=4) rfl rfl Kr (fun _ _ _ h=>h) (yieldsIf_load_mid (by rfl) _ _ rfl _ 0 rfl _ _ (fun w hw=>hw.2) underlying262 rfl d0) d ?rsp4
       case rsp4=>
       try simp only[Zset]
       refine Zbl Kr Kr rfl Kr (fun K M=>?_);go_simp;refine(Zkb l b (by rw[N];omega) (f1.below ((Yaf _ _).drew)) (ZgN D _) L (by rw[g]) (by rw[g])).mono ?_;rintro e w5 ⟨rfl,t,f⟩;refine M _ _ ?_;have S:Hid (BAt w5 (w.heap.size+1) (stCs (l.set arg (Zbi (l.getD arg ah0) st sl))) 262):=by have:=t.out;rw[g]at this;exact this
       have I:=hid ((H.below ((Yaf _ _).drew)).grown f (by intro e;injection e with e;omega));have a9:=hid ((f2.below ((Yaf _ _).drew)).grown f (by intro e;injection e with e;omega));have d2:Hid (StAt _ _ b):=hid ((R.below ((Yaf _ _).drew)).grown f (by intro e;injection e with e;omega));have b0:=hid (ZbV f3.drew f Om);clear M K d f t o0 o1;have o0:=I.cell;go_wp2
       go_roundw
       case rel=>exact⟨k+1,max _ _,l.set _ _,by omega,by go_num,by first|rfl|go_num|(congr 1;omega),by omega,by rwa [Yat],r,hid (d1 l _ D),S,a9,b0⟩
       case measure=>simp[intOf];omega
      ·by_cases g8:op=10
       ·subst g8;rw[show ZcE _=true from rfl];have j3:k<arg/\arg<=n:=by have:=c3.out;rw[HN];simpa [Zy] using this
        have i2:(arg:Int)<(n)+1:=by omega
        go_upto_region 13 with fail
        refine Zbn 5 (fun u=>u.cell? _=some _/\u.rangeAt _ 0 _) Kr ⟨by simpa using H.cell 1,by simpa using R.range 0 _ (fun j _=>by rw[Ycf])⟩ (fun d=>?_);refine Za 0 d (h:=?_);refine Za 1 d (h:=?_);refine Za 2 d (h:=?_);refine Za 3 d (h:=?_);refine ZeD (i:=4) rfl rfl Kr (fun _ _ _ h=>h) (yieldsIf_load_mid (by rfl) _ _ rfl _ 0 rfl _ _ (fun w hw=>hw.2) underlying262 rfl d0) d ?rsq4
        case rsq4=>
        try simp only[Zset]
        refine Zbl Kr Kr rfl Kr (fun K M=>?_);go_simp;refine(Zkb l b (by rw[N];omega) (f1.below ((Yaf _ _).drew)) (ZgN D _) L (by rw[g]) (by rw[g])).mono ?_;rintro e w5 ⟨rfl,t,f⟩;refine M _ _ ?_;have S:Hid (BAt w5 (w.heap.size+1) (stCs (l.set arg (Zbi (l.getD arg ah0) st sl))) 262):=by have:=t.out;rw[g]at this;exact this
        have I:=hid ((H.below ((Yaf _ _).drew)).grown f (by intro e;injection e with e;omega));have a9:=hid ((f2.below ((Yaf _ _).drew)).grown f (by intro e;injection e with e;omega));have d2:Hid (StAt _ _ b):=hid ((R.below ((Yaf _ _).drew)).grown f (by intro e;injection e with e;omega));have b0:=hid (ZbV f3.drew f Om);clear M K d f t o0 o1;have o0:=I.cell 0;have o1:=I.cell 1;simp only[Zget]at o0 o1;obtain⟨l1,b1⟩:∃l1,l1=l.set arg (Zbi (l.getD arg ah0) st sl):=⟨_,rfl⟩
        have j4:Hid (l1.length=n+1):=by rwa [b1,Yat]
        have f4:Hid _:=b1▸d1.out l arg D.out;rw[<-b1]at S;have b6:Hid (Zbx c (k+1)=.ok (l1.set (k+1) (Zbi (l1.getD (k+1) ah0) st sl),max mo sn)):=by rw[r,b1];rfl
        clear b1 r;have r:=b6;have j5:(k:Int)+1<(n)+1:=by omega
        have j6:IntKind.i64.wrap ((k)+1)=(k)+1:=by rw[Ybo];omega
        have j7:0<=(k:Int)+1:=by omega
        go_upto_region 15 with fail
        refine Zbn 5 (fun u=>u.cell? _=some _/\u.rangeAt _ 0 _) Kr ⟨by simpa using I.cell 1,by simpa using d2.range 0 _ (fun j _=>by rw[Ycf])⟩ (fun d=>?_);refine Za 0 d (h:=?_);refine Za 1 d (h:=?_);refine Za 2 d (h:=?_);refine Za 3 d (h:=?_);refine ZeD (i:=4) rfl rfl Kr (fun _ _ _ h=>h) (yieldsIf_load_mid (by rfl) _ _ rfl _ 0 rfl _ _ (fun w hw=>hw.2) underlying262 rfl d0) d ?rsr4
        case rsr4=>
        try simp only[Zset]
        refine Zbl Kr Kr rfl Kr (fun K M=>?_);go_simp;refine(Zkb _ b (by rw[j4];omega) (S.below ((Yaf _ _).drew)) (ZgN f4 _) L (by rw[g]) (by rw[g])).mono ?_;rintro e w7 ⟨rfl,t,b5⟩;refine M _ _ ?_;have j8:Hid (BAt w7 (w.heap.size+1) (stCs (l1.set (k+1) (Zbi (l1.getD (k+1) ah0) st sl))) 262):=by have:=t.out;rw[g]at this;exact this
        have j9:=hid ((I.below ((Yaf _ _).drew)).grown b5 (by intro e;injection e with e;omega));have k0:=hid ((a9.below ((Yaf _ _).drew)).grown b5 (by intro e;injection e with e;omega));have k8:Hid (StAt _ _ b):=hid ((d2.below ((Yaf _ _).drew)).grown b5 (by intro e;injection e with e;omega));have k1:=hid (ZbV b0.drew b5 Om);clear M K d b5 t o0 o1;have o0:=j9.cell;go_wp2
        go_roundw
        case rel=>exact⟨k+1,max _ _,l1.set _ _,by omega,by go_num,by first|rfl|go_num|(congr 1;omega),by omega,by rwa [Yat],r,hid (d1 _ _ f4),j8,k0,k1⟩
        case measure=>simp[intOf];omega
       ·have f5:ZcE op=false:=by unfold ZcE;simp[h9,g8]
        rw[f5];have k9:((op:Int) != 9)=true:=by rw[bne_iff_ne];omega
        have b6:Hid (Zbx c (k+1)=.ok (l.set (k+1) (Zbi (l.getD (k+1) ah0) st sl),max mo sn)):=by
         rw[r];unfold goOn;simp only[f5,if_neg h9];rfl
        clear r f5;have r:=b6;have j5:(k:Int)+1<(n)+1:=by omega
        have j6:IntKind.i64.wrap ((k)+1)=(k)+1:=by rw[Ybo];omega
        have j7:0<=(k:Int)+1:=by omega
        go_upto_region 15 with fail
        refine Zbn 5 (fun u=>u.cell? _=some _/\u.rangeAt _ 0 _) Kr ⟨by simpa using H.cell 1,by simpa using R.range 0 _ (fun j _=>by rw[Ycf])⟩ (fun d=>?_);refine Za 0 d (h:=?_);refine Za 1 d (h:=?_);refine Za 2 d (h:=?_);refine Za 3 d (h:=?_);refine ZeD (i:=4) rfl rfl Kr (fun _ _ _ h=>h) (yieldsIf_load_mid (by rfl) _ _ rfl _ 0 rfl _ _ (fun w hw=>hw.2) underlying262 rfl d0) d ?rss4
        case rss4=>
        try simp only[Zset]
        refine Zbl Kr Kr rfl Kr (fun K M=>?_);go_simp;refine(Zkb l b (by rw[N];omega) (f1.below ((Yaf _ _).drew)) (ZgN D _) L (by rw[g]) (by rw[g])).mono ?_;rintro e w5 ⟨rfl,t,f⟩;refine M _ _ ?_;have S:Hid (BAt w5 (w.heap.size+1) (stCs (l.set (k+1) (Zbi (l.getD (k+1) ah0) st sl))) 262):=by have:=t.out;rw[g]at this;exact this
        have I:=hid ((H.below ((Yaf _ _).drew)).grown f (by intro e;injection e with e;omega));have a9:=hid ((f2.below ((Yaf _ _).drew)).grown f (by intro e;injection e with e;omega));have d2:Hid (StAt _ _ b):=hid ((R.below ((Yaf _ _).drew)).grown f (by intro e;injection e with e;omega));have b0:=hid (ZbV f3.drew f Om);clear M K d f t o0 o1;have o0:=I.cell;go_wp2
        go_roundw
        case rel=>exact⟨k+1,max _ _,l.set _ _,by omega,by go_num,by first|rfl|go_num|(congr 1;omega),by omega,by rwa [Yat],r,hid (d1 l _ D),S,a9,b0⟩
        case measure=>simp[intOf];omega
  ·obtain rfl:k=n:=by omega
   have r3:=b8.cell
   have d4:Hid (Zdj c=if Zd1 (l.getD k _)then .ok mo else .error _):=hid (by
    unfold Zdj;rw[<-HN,f9])
   have l0:(k:Int)<(k)+1:=by omega
   have d5:=hid (Zxg k l (by rw[N];omega) b7);cases T:Zd1 (l.getD k ah0)with
   | true=>
    rw[T]at d5;have k2:Hid (Zdj c=.ok mo):=by rw[d4,T];rfl
    clear T d4
    go_wp2_with fail
    refine d5.mono ?_;rintro e wq ⟨rfl,rfl⟩;go_wp2;go_ret2;exact⟨_,_,rfl,hid (ZeM.mkOk k2 ⟨rfl,rfl⟩),E⟩
   | false=>
    rw[T]at d5;have Z:Hid (Zdj c=.error (12,k)):=by rw[d4,T];rfl
    clear T d4
    go_wp2_with fail
    refine d5.mono ?_;rintro e wq ⟨rfl,rfl⟩;have gs:wq.cell? ⟨11,0,none⟩=some _:=(HP.v.below E).sent _ Dc
    go_wp2_with fail
    refine(ZiW).mono ?_;rintro e w9 ⟨v,rfl,HE,F⟩;have a4:=hid (E.trans (F.mono E.size));obtain⟨fa,rfl,a5,a6⟩:=HE.out;clear F a5 a6;go_wp2;go_ret2;exact⟨_,_,rfl,hid (ZeM.qq Z ⟨rfl,rfl,HE⟩),a4⟩
theorem Zup(w:World)(c:CodeQ)(i op arg:Nat)(a0 a1 a2 a3:Option Addr)(e0 e1 e2 e3:Nat)(k:op<=13)(j:arg<65536) :
  CP 82 #[.agg #[.slice a0 c.jj.length e0,.slice a1 c.ju.length e1,.slice a2 c.jw.length e2,.slice a3 c.jq.length e3],Vi i,.agg #[Vi op,Vi arg]] w fun e u=>e=.returned (.bool (Zy c i (op,arg)))/\BW w u:=by
 obtain⟨nc,d⟩:∃nc,nc=c.jj.length:=⟨_,rfl⟩
 obtain⟨np,f⟩:∃np,np=c.ju.length:=⟨_,rfl⟩
 obtain⟨ng,g⟩:∃ng,ng=c.jw.length:=⟨_,rfl⟩
 obtain⟨ni,h⟩:∃ni,ni=c.jq.length:=⟨_,rfl⟩
 rw[<-d,<-f,<-g,<-h];have a:Hid (nc=c.jj.length/\np=c.ju.length/\ng=c.jw.length/\ni=c.jq.length):=hid ⟨d,f,g,h⟩;clear d f g h;rcases(by omega:op=0∨op=1∨op=2∨op=3∨op=4∨op=5∨op=6∨op=7∨op=8∨op=9∨op=10∨op=11∨op=12∨op=13)with rfl|rfl|rfl|rfl|rfl|rfl|rfl|rfl|rfl|rfl|rfl|rfl|rfl|rfl
 all_goals
  go_enter func82,ntmps82;go_wp2
  all_goals
   go_ret;refine⟨Zcy ?_,belB⟩
   first
    | (simp only[Zy,<-a.1,<-a.2.1,<-a.2.2.1,<-a.2.2.2];done)
    | (simp only[Zy,<-a.1,<-a.2.1,<-a.2.2.1,<-a.2.2.2];rw[Ybh];simp;done)
    | (simp only[Zy,<-a.1,<-a.2.1,<-a.2.2.1,<-a.2.2.2];rw[Ybh];simp;omega)
theorem ZCp(w:World)(A:Nat->Addr)(m:Int)(c:CodeQ)(a0 a1 a2 a3:Option Addr){n0 n1 n2:Nat}(e0 e1 e2 e3:Nat)(h:HighP w A m c a0 a1 a2 a3 n0 n1 n2 e0 e1 e2 e3) :
  CP 85 #[.agg #[.slice a0 n0 e0,.slice a1 n1 e1,.slice a2 n2 e2,.slice a3 c.jq.length e3]] w fun e u=>e=.returned (Vi (Zdd c.jq:Nat))/\BW w u:=by
 have B:=hid h;have C:=h.ln;obtain⟨n,t⟩:∃n,n=c.jq.length:=⟨_,rfl⟩
 rw[<-t]at C ⊢;have D:=hid t;clear h t;go_enter func85,ntmps85;go_wp2
 go_loopw [3, 9] (fun sv iv wr => ∃ (k s : Nat), k <= n /\ iv = Vi k /\ sv = Vi s /\ s <= 65536 /\ Hid (s = Zdd (c.jq.take k)) /\ Hid (BW w wr))
   (fun _ iv _=>n - (intOf iv).toNat)
 case atStart=>exact⟨0,0,Yag _,rfl,rfl,by decide,hid rfl,hid belB⟩
 case round=>
  obtain⟨k,s,N,rfl,rfl,J,E,f⟩:=hrel;by_cases F:k<n
  ·have M:(k:Int)<n:=by omega
   have g:k<c.jq.length:=by rw[<-D.out];exact F
   have a:=hid (B.cv.below f.out).is;obtain⟨gi,cpi,G⟩:=ZF a.out Om;injection G with hgi1 hgi2 hgi3;subst hgi1;have i0c:=Zi a.out _ _ (Zfm c.jq k g).1;have i1c:=Zi a.out _ _ (Zfm c.jq k g).2;have K:=Z1 a.out;have H:=B.op c.jq[k] (List.getElem_mem g);have d:Hid (Zdd (c.jq.take (k+1))=if Zf4 c.jq[k].1 then max s (c.jq[k].2+1)else s):=hid (by rw[List.take_succ_eq_append_getElem g,ZCq,<-E.out]);generalize c.jq[k]=x at *
   obtain⟨op,arg⟩:=x;simp only at i0c i1c d H;clear hgi2 hgi3 a
   go_wp2_with fail
   refine Zm fun W v=>?_;have p:BW wr W:=by rw[v];exact Zbal
   have i:Hid (BW w W):=hid (f.trans (p.mono f.size));have q:Hid (BAt W wr.heap.size [Vi op,Vi arg] 159):=hid (by rw[v];exact bnw);clear v p i0c i1c;refine(ZwQ op arg W).mono ?_;rintro e z ⟨rfl,j⟩;have r:Hid (BW w z):=hid (i.trans (j.mono i.size));have I:=hid (q.below j);clear j q i;have o1:=I.cell;cases o:Zf4 op with
   | true=>
    have l:Hid (Zdd (c.jq.take (k+1))=max s (arg+1)):=hid (by rw[d.out,o];rfl);clear o d;go_wp2
    go_roundw
    case rel=>exact⟨k+1,max s (arg+1),by omega,by go_num,by first|rfl|go_num|(congr 1;omega),by omega,hid l.symm,r⟩
    case measure=>simp[intOf];omega
   | false=>
    have l:Hid (Zdd (c.jq.take (k+1))=s):=hid (by rw[d.out,o];rfl);clear o d;go_wp2
    go_roundw
    case rel=>exact⟨k+1,s,by omega,by go_num,rfl,J,hid l.symm,r⟩
    case measure=>simp[intOf];omega
  ·obtain rfl:k=n:=by omega
   have L:Hid (s=Zdd c.jq):=hid (by rw[E.out,D.out,Ya4]);go_wp2;go_ret;exact⟨ZrR (by rw[L.out]),f.out⟩
def ZeN(w:World)(A:Nat->Addr)(r:Except (Nat×Nat) (Nat×Nat))(v err:Value):Prop:=match r with
 | .ok x=>v=.agg #[.int .i64 x.1,.int .i64 x.2]/\err=.nilIface
 | .error x=>v=.agg #[.int .i64 0,.int .i64 0]/\((x.1=11/\Zcs w err x.2 (A 10))∨(x.1=12/\Zcs w err x.2 (A 11)))
theorem ZeN.mkOk{r:Except (Nat×Nat) (Nat×Nat)}(a:r=.ok x)(h:v=.agg #[Vi x.1,Vi x.2]/\err=.nilIface):ZeN w A r v err:=by subst a;exact h
theorem ZeN.qq{r:Except (Nat×Nat) (Nat×Nat)}(a:r=.error x)(h:v=.agg #[Vi 0,Vi 0]/\((x.1=11/\Zcs w err x.2 (A 10))∨(x.1=12/\Zcs w err x.2 (A 11)))):ZeN w A r v err:=by subst a;exact h
theorem Ziw{a:Nat}(h:BW w0 w)(c:w0.heap.size<=a)(x y:Value):BW w0 (set2 w a x y):=
 (h.setCell (p:=⟨a,0,none⟩) c _).setCell (p:=⟨a,1,none⟩) c _
theorem Zo1(h:Zcs w v p a)(i:∀fa:Nat,v=.iface 81 (Vp fa)->fa≠b)(x y:Value):Zcs (set2 w b x y) v p a:=by
 obtain⟨fa,f,c,d⟩:=h;have g:=i fa f;have e:(set2 w b x y).heap[fa]?=w.heap[fa]?:=Zm7 w b x y g;refine⟨fa,f,?_,?_⟩
 ·unfold World.cell? at c ⊢;simp only at c ⊢;rw[e];exact c
 ·unfold World.cell? at d ⊢;simp only at d ⊢;rw[e];exact d
theorem ZrO : ∀(k:Nat),Zcp c k=.ok ()->∀i,i<k->Zy c i (c.jq.getD i (0,0))=true
 | 0,_,i,d=>by omega
 | k + 1, h, i, d => by
   unfold Zcp at h;cases a:Zcp c k with
   | error e=>rw[a]at h;cases h
   | ok u=>
     rw[a]at h;simp only at h;by_cases e:i=k
     · subst e
       cases f:Zy c i (c.jq.getD i (0,0))with
       | true=>rfl
       | false=>rw[f]at h;cases h
     · exact ZrO k a i Om
structure LookP (w:World) (A:Nat->Addr) (m:Int) (c:CodeQ) (a0 a1 a2 a3:Option Addr) (e0 e1 e2 e3:Nat):Prop where
 v:Vars w A m
 n:20<=w.heap.size
 cv:CodeV w c (.slice a0 c.jj.length e0) (.slice a1 c.ju.length e1) (.slice a2 c.jw.length e2) (.slice a3 c.jq.length e3)
 ln:c.jq.length<=65535
 op:∀x∈c.jq,x.1<=13/\x.2<65536
theorem LookP.high{m:Int}{a0 a1 a2 a3:Option Addr}{e0 e1 e2 e3:Nat}(h:LookP w A m c a0 a1 a2 a3 e0 e1 e2 e3)(a:BW w w')(d:Zcp c c.jq.length=.ok ()):HighP w' A m c a0 a1 a2 a3 c.jj.length c.ju.length c.jw.length e0 e1 e2 e3:=
 ⟨h.v.below a,Yah h.n a.size,h.cv.below a,h.ln,fun i e=>ZrO _ d i e,h.op⟩
theorem ZyD(w:World)(A:Nat->Addr)(m:Int)(c:CodeQ)(a0 a1 a2 a3:Option Addr)(e0 e1 e2 e3:Nat)(h:LookP w A m c a0 a1 a2 a3 e0 e1 e2 e3) :
  CP 39 #[.agg #[.slice a0 c.jj.length e0,.slice a1 c.ju.length e1,.slice a2 c.jw.length e2,.slice a3 c.jq.length e3]] w fun e u=>∃v err,e=.returned (.tuple #[v,err])/\Hid (ZeN u A (ZcT c) v err)/\BW w u:=by
 have HP:=hid h;have a7:=h.ln;have V:Hid (∀(W:World) (i op arg:Nat),op<=13->arg<65536->CP 82 #[.agg #[.slice a0 c.jj.length e0,.slice a1 c.ju.length e1,.slice a2 c.jw.length e2,.slice a3 c.jq.length e3],Vi i,.agg #[Vi op,Vi arg]] W _):=hid (fun W i op arg K L=>Zup W c i op arg a0 a1 a2 a3 e0 e1 e2 e3 K L);have X:Hid (∀W,BW w W->Zcp c c.jq.length=.ok ()->CP 84 #[.agg #[.slice a0 c.jj.length e0,.slice a1 c.ju.length e1,.slice a2 c.jw.length e2,.slice a3 c.jq.length e3]] W _):=hid (fun W K L=>Zw0 W A m c a0 a1 a2 a3 e0 e1 e2 e3 (h.high K L));have Y:Hid (∀W,BW w W->Zcp c c.jq.length=.ok ()->CP 85 #[.agg #[.slice a0 c.jj.length e0,.slice a1 c.ju.length e1,.slice a2 c.jw.length e2,.slice a3 c.jq.length e3]] W _):=hid (fun W K L=>ZCp W A m c a0 a1 a2 a3 e0 e1 e2 e3 (h.high K L));obtain⟨n,hn⟩:∃n,n=c.jq.length:=⟨_,rfl⟩
 rw[<-hn]at a7 V X Y ⊢;generalize c.jj.length=n0 at *
 generalize c.ju.length=n1 at *
 generalize c.jw.length=n2 at *
 have HN:=hid hn;clear h hn;go_enter func39,ntmps39;go_wp2
 go_loopw [11] (fun iv wr => ∃ k : Nat, k <= n /\ iv = Vi k /\ Hid (Zcp c k = .ok ()) /\ Hid (BAt wr w.heap.size [.slice a0 n0 e0, .slice a1 n1 e1, .slice a2 n2 e2, .slice a3 n e3] 59) /\ Hid (BAt wr (w.heap.size + 1) [Vi 0, Vi 0] 31) /\ Hid (BW w wr))
   (fun iv _=>n - (intOf iv).toNat)
 case atStart=>
  refine⟨0,Yag _,rfl,hid rfl,hid ((Zbal.block _ (by simp)).trans bnw),hid ?_,hid belB⟩;have:=Go.Deep.blk_alloc_new (w.alloc (.cells #[.slice a0 n0 e0,.slice a1 n1 e1,.slice a2 n2 e2,.slice a3 n e3] 59)) (.cells #[Vi 0,Vi 0] 31)
  rwa [Go.Deep.nblk_alloc]at this
 case round=>
  obtain⟨k,hk,rfl,B,d,l,f⟩:=hrel;have q0:=d.cell 0;have q1:=d.cell 1;have q2:=d.cell 2;have q3:=d.cell 3;simp only[Zget]at q0 q1 q2 q3;have b7:=d.lt;have b8:=l.lt;by_cases a8:k<n
  ·have b9:(k:Int)<n:=by omega
   have C:k<c.jq.length:=by rw[<-HN.out];exact a8
   have p:=hid (HP.cv.below f.out).is;obtain⟨gi,cpi,a9⟩:=ZF p.out Om;injection a9 with hgi1 hgi2 hgi3;subst hgi1;have i0c:=Zi p.out _ _ (Zfm c.jq k C).1;have i1c:=Zi p.out _ _ (Zfm c.jq k C).2;have b6:=Z1 p.out;have M:=HP.op c.jq[k] (List.getElem_mem C)
   have q:Hid (Zcp c (k+1)=if Zy c k c.jq[k] then .ok ()else .error (11,k)):=hid (by
    show(match Zcp c k with|.error e=>_|.ok _=>_)=_;rw[B.out];simp only;rw[Yaa,List.getElem?_eq_getElem C];rfl)
   generalize c.jq[k]=x at *
   obtain⟨op,arg⟩:=x;simp only at i0c i1c q M;clear hgi2 hgi3 p
   go_wp2_with fail
   refine Zm fun W hW=>?_;have D:BW wr W:=by rw[hW];exact Zbal
   have N:Hid (BW w W):=hid (f.trans (D.mono f.size));have Z:=hid (d.below D);have a4:=hid (l.below D);clear hW D i0c i1c d l f q0 q1 q2 q3;refine(V.out W k op arg M.1 M.2).mono ?_;rintro e z ⟨rfl,E⟩;have F:Hid (BW w z):=hid (N.trans (E.mono N.size));have b0:=hid (Z.below E);have a5:=hid (a4.below E);clear E Z a4 N;cases U:Zy c k (op,arg)with
   | true=>
    have b1:Hid (Zcp c (k+1)=.ok ()):=hid (by rw[q.out,U];rfl);clear U q;go_wp2
    go_roundw
    case rel=>exact⟨k+1,by omega,by go_num,b1,b0,a5,F⟩
    case measure=>simp[intOf];omega
   | false=>
    have s:Hid (ZcT c=.error (11,k)):=hid (by
     unfold ZcT;rw[ZBu (k:=k+1) (e:=(11,k)) (by rw[q.out,U];rfl) _ Om])
    have gs:z.cell? ⟨10,0,none⟩=some (.iface 432 (.pointer (some (A 10)))):=(HP.v.below F.out).sent _ Dc;clear U q
    go_wp2_with fail
    refine(ZiW).mono ?_;rintro e w9 ⟨v,rfl,O,P⟩;have b2:Hid (BW w w9):=hid (F.trans (P.mono F.size));have G:=hid (a5.below P);clear P;obtain⟨fa,rfl,Q,g⟩:=O.out
    have R : Hid (∀ fb : Nat, Value.iface 81 (Vp fa) = .iface 81 (Vp fb) -> fb ≠ w.heap.size + 1) := hid (fun fb e1 e2 => by
      injection e1 with _ e1;injection e1 with e1;injection e1 with e1;injection e1 with e1;subst e1;subst e2;rw[G.cell 2]at g;cases g)
    clear Q g;have f0:=G.frozen;have z0:=G.cell;go_wp2;exact ret2 (r:=.tuple #[.agg #[Vi 0,Vi 0],.iface 81 (Vp fa)]) (fun W s0 s1=>by simp[results,results39,go_sem,s0,s1]) rfl G.out ⟨_,_,rfl,hid (ZeN.qq s.out ⟨rfl,Or.inl ⟨rfl,Zo1 O.out R.out (Vi 0) (Vi 0)⟩⟩),Ziw (w0:=w) (a:=w.heap.size+1) b2.out (Ydp _) (Vi 0) (Vi 0)⟩
  ·obtain rfl:k=n:=by omega
   have a6:Hid (Zcp c c.jq.length=.ok ()):=hid (by rw[<-HN.out];exact B.out)
   go_wp2_with fail
   refine(X.out wr f.out B.out).mono ?_;rintro e w5 ⟨v,err,rfl,j,H⟩;have I:Hid (BW w w5):=hid (f.trans (H.mono f.size));have b3:=hid (d.below H);have t:=hid (l.below H);clear H d l q0 q1 q2 q3;cases J:Zdj c with
   | error x=>
    rw[J]at j;obtain⟨rfl,hx,he⟩:=j.out;have s:Hid (ZcT c=.error x):=hid (by unfold ZcT;rw[a6.out];simp only;rw[J]);have O:=hid he;have b4:=hid hx;clear j J he hx;obtain⟨fa,rfl,Q,g⟩:=O.out
    have R : Hid (∀ fb : Nat, Value.iface 81 (Vp fa) = .iface 81 (Vp fb) -> fb ≠ w.heap.size + 1) := hid (fun fb e1 e2 => by
      injection e1 with _ e1;injection e1 with e1;injection e1 with e1;injection e1 with e1;subst e1;subst e2;rw[t.cell 2]at g;cases g)
    clear Q g;have f0:=t.frozen;have z0:=t.cell;go_wp2;exact ret2 (r:=.tuple #[.agg #[Vi 0,Vi 0],.iface 81 (Vp fa)]) (fun W s0 s1=>by simp[results,results39,go_sem,s0,s1]) rfl t.out ⟨_,_,rfl,hid (ZeN.qq s.out ⟨rfl,Or.inr ⟨b4.out,Zo1 O.out R.out (Vi 0) (Vi 0)⟩⟩),Ziw (w0:=w) (a:=w.heap.size+1) I.out (Ydp _) (Vi 0) (Vi 0)⟩
   | ok mm=>
    rw[J]at j;obtain⟨rfl,rfl⟩:=j.out;have s:Hid (ZcT c=.ok (mm,Zdd c.jq)):=hid (by unfold ZcT;rw[a6.out];simp only;rw[J]);clear j J;have q0:=b3.cell
    go_wp2_with fail
    refine(Y.out w5 I.out B.out).mono ?_;rintro e w6 ⟨rfl,S⟩;have b5:Hid (BW w w6):=hid (I.trans (S.mono I.size));have T:=hid (t.below S);clear S q0;generalize Zdd c.jq=sn at *
    have f0:=T.frozen;have z0:=T.cell;go_wp2;exact ret2 (r:=.tuple #[.agg #[Vi mm,Vi sn],.nilIface]) (fun W s0 s1=>by simp[results,results39,go_sem,s0,s1]) rfl T.out ⟨_,_,rfl,hid (ZeN.mkOk s.out ⟨rfl,rfl⟩),Ziw (w0:=w) (a:=w.heap.size+1) b5.out (Ydp _) (Vi mm) (Vi sn)⟩
theorem Zge{α:Type}{one:Nat->RdR α}{p:Nat}{P:α->Prop}(c:∀p x,one p=.ok x->P x.1):∀ {k:Nat} {xs:List α} {q:Nat},many one p k=.ok (xs,q)->∀x∈xs,P x
 | 0,xs,q,h=>by injection h with h;simp_all
 | k + 1, xs, q, h => by
   unfold many at h;cases d:many one p k with
   | error e=>simp_all
   | ok x=>
     rw[d]at h;simp only at h;cases f:one x.2 with
     | error e=>simp_all
     | ok y=>
       rw[f]at h;injection h with h;injection h with h2 h3;subst h2;intro z a;rcases Yar.1 a with a|a
       · exact Zge c (d) z a
       · rw[Yap]at a;subst a;exact c _ _ f
theorem ZwV{l:LB}{n:Nat×Nat×Nat×Nat}(h:Zc8 l=.ok n):n.2.2.2<=65535:=by
 unfold Zc8 at h;split at h
 ·cases h
 ·split at h
  ·cases h
  ·injection h with h;subst h;have:back (sub l 7 2)<256 ^ 2:=ZhM (by unfold sub;simp;omega)
   simp_all;omega
theorem Zll{l:LB}(h:Zb7 l=.ok c):c.jq.length<=65535/\∀x∈c.jq,x.1<=13/\x.2<65536:=by
 unfold Zb7 at h;cases d:Zc8 l with
 | error e=>simp_all
 | ok n=>
  rw[d]at h;simp only at h;cases f:many (ZbW l) 9 n.1 with
  | error e=>simp_all
  | ok cs=>
   rw[f]at h;simp only at h;cases g:many (Zb4 l) cs.2 n.2.1 with
   | error e=>simp_all
   | ok ps=>
    rw[g]at h;simp only at h;cases i:many (ZbX l) ps.2 n.2.2.1 with
    | error e=>simp_all
    | ok gs=>
     rw[i]at h;simp only at h;cases a:many (ZbN l) gs.2 n.2.2.2 with
     | error e=>simp_all
     | ok is=>
      rw[a]at h;simp only at h;split at h
      ·cases h
      ·split at h
       ·cases h
       ·split at h
        ·cases h
        ·injection h with h;subst h;refine⟨?_,?_⟩
         ·have:=ZqR (a);have:=ZwV d
          simp_all
         ·exact Zge (fun p x h=>(ZlQ h).2) (a)
def BadV(w:World)(A:Nat->Addr)(x:Nat×Nat)(err:Value):Prop:=
 (x.1=9/\Zcs w err x.2 (A 8))∨(x=(10,0)/\err=.iface 432 (.pointer (some (A 9))))∨(x.1=11/\Zcs w err x.2 (A 10))∨(x.1=12/\Zcs w err x.2 (A 11))
def Zcj(w:World)(A:Nat->Addr)(r:Except (Nat×Nat) (CodeQ×Nat×Nat))(v n err:Value):Prop:=match r with
 | .ok x=>CodV w x.1 v/\n=.agg #[.int .i64 x.2.1,.int .i64 x.2.2]/\err=.nilIface
 | .error x=>n=.agg #[.int .i64 0,.int .i64 0]/\BadV w A x err
theorem Zcj.mkOk{n:Value}{x:CodeQ×Nat×Nat}(a:r=.ok x)(h:CodV w x.1 v/\n=.agg #[Vi x.2.1,Vi x.2.2]/\err=.nilIface):Zcj w A r v n err:=by subst a;exact h
theorem Zcj.qq{n:Value}(a:r=.error x)(h:n=.agg #[Vi 0,Vi 0]/\BadV w A x err):Zcj w A r v n err:=by subst a;exact h
theorem ZM.pl(h:ZM w v p a):Zcs w v p a:=by
 obtain⟨fa,d,c⟩:=h;exact⟨fa,d,by simp[World.cell?,c],by simp[World.cell?,c]⟩
theorem BadV.below(h:BadV w A x err)(a:BW w w'):BadV w' A x err:=by
 rcases h with h|h|h|h
 ·exact .inl ⟨h.1,h.2.below a⟩
 ·exact .inr (.inl h)
 ·exact .inr (.inr (.inl ⟨h.1,h.2.below a⟩))
 ·exact .inr (.inr (.inr ⟨h.1,h.2.below a⟩))
theorem Zcj.below{n:Value}(h:Zcj w A r v n err)(a:BW w w'):Zcj w' A r v n err:=by
 cases r with
 | ok x=>exact⟨h.1.below a,h.2⟩
 | error x=>exact⟨h.1,h.2.below a⟩
theorem Zcs.kept2(h:Zcs w v p a){c:List Value}{t:TypeId}(g:BAt w b c t)(i:w.grownBy w' (some b))(j:∀t v,c[2]?≠some (.iface t v)):Zcs w' v p a:=by
 obtain⟨fa,k,l,d⟩:=h
 have f:some fa≠some b:=by
  intro e;injection e with e;subst e;rw[g.cell 2]at d;exact j _ _ d
 have m:fa<w.heap.size:=Yai _ _ d;have e:=i.block _ m f;refine⟨fa,k,?_,?_⟩
 ·unfold World.cell? at l ⊢;simp_all
 ·unfold World.cell? at d ⊢;simp_all
theorem BadV.kept2(h:BadV w A x err){c:List Value}{t:TypeId}(a:BAt w b c t)(d:w.grownBy w' (some b))(e:∀t v,c[2]?≠some (.iface t v)):BadV w' A x err:=by
 rcases h with h|h|h|h
 ·exact .inl ⟨h.1,h.2.kept2 a d e⟩
 ·exact .inr (.inl h)
 ·exact .inr (.inr (.inl ⟨h.1,h.2.kept2 a d e⟩))
 ·exact .inr (.inr (.inr ⟨h.1,h.2.kept2 a d e⟩))
theorem Zcj.kept2{n:Value}(h:Zcj w A r v n err){c:List Value}{t:TypeId}(a:BAt w b c t)(d:w.grownBy w' (some b))(e:∀t v,c[2]?≠some (.iface t v))
  (f:t≠3) (g:t≠156) (i:t≠224) (j:t≠122) (k:t≠9) (l:t≠159):Zcj w' A r v n err:=by
 cases r with
 | ok x=>exact⟨h.1.jm a d f g i j k l,h.2⟩
 | error x=>exact⟨h.1,h.2.kept2 a d e⟩
theorem BadV.shape(h:BadV w A x err):(∃fa:Nat,err=.iface 81 (Vp fa))∨err=.iface 432 (.pointer (some (A 9))):=by
 rcases h with ⟨_,fa,h,_⟩|h|⟨_,fa,h,_⟩|⟨_,fa,h,_⟩
 ·simp_all
 ·simp_all
 ·simp_all
 simp_all
structure OverE (w0 w W:World) (A:Nat->Addr) (r:Except (Nat×Nat) (CodeQ×Nat×Nat)) (v n err:Value) (b d:Nat) (x0 x1 x2 x3 y0 y1:Value):Prop where
 oc:Zcj W A r v n err
 ob:BW w0 W
 ox:BAt W b [x0,x1,x2,x3] 59
 oy:BAt W d [y0,y1] 31
theorem Zrs{n:Value}{d:Nat}(h:Zcj w A r v n err)(c:BW w0 w)(e:w0.heap.size<=b)(hd:w0.heap.size<=d)(g:b≠d)
  (a:BAt w b [S0,S0,S0,S0] 59) (f:BAt w d [Vi 0,Vi 0] 31) (x0 x1 x2 x3 y0 y1:Value) :
  OverE w0 w (set2 (set4 w b x0 x1 x2 x3) d y0 y1) A r v n err b d x0 x1 x2 x3 y0 y1:=by
 have g1:=Zg8 w b x0 x1 x2 x3;have z1:=f.grown g1 (by simp_all;omega);have g2:=Zka (set4 w b x0 x1 x2 x3) d y0 y1
 exact ⟨(h.kept2 a g1 (by simp) Dc Dc Dc Dc Dc Dc).kept2 z1 g2 (by simp) Dc Dc Dc Dc Dc Dc,
   Ziw (Zgt c e _ _ _ _) hd _ _,(Zgs a).grown g2 (by simp_all),ZdS z1⟩
