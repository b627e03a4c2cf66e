/- Parts. -/
import Derived.Test.YtcdgkkfipdoeeaaGreatDoorT10
import Derived.Test.YtcdgkkfipdoeeaaGreatDoorT21
set_option linter.all false
set_option maxRecDepth 100000
set_option maxHeartbeats 16000000
namespace Go.Proofs.YtcdgkkfipdoeeaaGreatDoor
open Go.RowKit LS Go.Proofs.Tryz
variable {arg v:Int}{l ns:List (LB)}{bs:List BA}{b i k lc m op sz:Nat}{y:Nd×Nat}
section
section
variable {w0 w w' w1 w2:World} {X:GX} {nv uv sv rv nv' uv' sv' rv':Value} {sl sl':List SelC} {rl rl':List RowC} {g g':Gq} {T:TypeId} {x n:Nat}
def GW(w0 w:World)(X:GX)(g:Gq):Prop:=∃nv uv sv rv sl rl,GI w0 w X nv uv sv rv sl rl g
theorem GP.gw(h:GP w0 w w' X g):GW w0 w' X g:=by obtain⟨a,b,c,d,e,f,i,_⟩:=h;exact⟨a,b,c,d,e,f,i⟩
theorem GP.kt(h:GP w0 w w' X g):KT w w':=by obtain⟨a,b,c,d,e,f,_,i⟩:=h;exact i
theorem GW.below(h:GW w0 w X g)(i:BW w w'):GW w0 w' X g:=by obtain⟨a,b,c,d,e,f,j⟩:=h;exact⟨a,b,c,d,e,f,j.below i⟩
theorem GW.add(h:GW w0 w X g)(z:Nq)(i:NOne g.jx.length z)(j:g.jx.length<=500000) :
  Cz 120 #[Vp X.gb,.agg #[Vi z.op,Vi z.arg,Vi (nI z.fs),Vi (nI z.sn)]] w fun e w'=>e=.returned (Vi ((addQ z g).1:Nat))/\Hid (GP w0 w w' X (addQ z g).2):=by
 obtain⟨a,b,c,d,e,f,k⟩:=h;exact ZtE k z i j
theorem GW.nok(h:GW w0 w X g):NOk g.jx:=by obtain⟨a,b,c,d,e,f,i⟩:=h;exact i.nok
theorem Zrp(h:vOk v){n:Nat}:NOne n ⟨0,v,none,none⟩:=⟨fun t a=>(by cases a),fun _=>rfl,fun h=>(by cases h),fun h=>(by cases h),Yag _,⟨h.1,h.2⟩,fun h=>absurd rfl h⟩
theorem ZgY{a n:Nat}(f:op<=9)(i:a<n)(c:0<=arg)(d:arg<=1000000000):NOne n ⟨op,arg,some a,none⟩:=⟨fun t e=>by simp[Zg]at e;omega,fun h=>(by cases h),fun _=>⟨a,rfl⟩,fun h=>by have:op=10:=h;omega,by show op<=10;omega,⟨by show -1000000000<=arg;omega,d⟩,fun _=>c⟩
theorem ZjR{a b n:Nat}(c:op<=10)(i:a<n)(j:b<n)(d:0<=arg)(e:arg<=1000000000):NOne n ⟨op,arg,some a,some b⟩:=⟨fun t f=>by simp[Zg]at f;omega,fun h=>(by cases h),fun _=>⟨a,rfl⟩,fun _=>⟨a,b,rfl,rfl⟩,c,⟨by show -1000000000<=arg;omega,e⟩,fun _=>d⟩
theorem ZjS{n:Nat}(e:op<=3)(a:0<=arg)(c:arg<=1000000000):NOne n ⟨op,arg,none,none⟩:=⟨fun t d=>(by cases d),fun _=>rfl,fun h=>by have:op=4:=h;omega,fun h=>by have:op=10:=h;omega,by show op<=10;omega,⟨by show -1000000000<=arg;omega,c⟩,fun _=>a⟩
theorem Zov(h:GW w0 w X g)(c:vOk v)(d:g.jx.length<=500000) :
  Cz 117 #[Vp X.gb,Vi v] w fun e w'=>e=.returned (Vi ((Zdw v g).1:Nat))/\Hid (GP w0 w w' X (Zdw v g).2):=by
 have a:=hid (h.add _ (Zrp c) d);unfold Zdw;clear h;simp only[nI]at a;go_enter func117,ntmps117
 go_wp2_with fail
 refine a.mono ?_;rintro e w1 ⟨rfl,f⟩;go_wp2;go_ret;exact⟨rfl,f⟩
theorem GW.node(h:GW w0 w X g){n:Nat}(c:n<g.jx.length):∃nb nc,w.cell? ⟨X.gb,2,none⟩=some (.slice (some ⟨nb,0,none⟩) g.jx.length nc)/\w.cell? ⟨X.gb,0,none⟩=some (.bool g.fold)/\X.gb<w.heap.size/\nb<w.heap.size/\w.cell? ⟨nb,n*4,none⟩=some (Vi (g.jx.getD n nq0).op)/\w.cell? ⟨nb,n*4+1,none⟩=some (Vi (g.jx.getD n nq0).arg)/\w.cell? ⟨nb,n*4+2,none⟩=some (Vi (nI (g.jx.getD n nq0).fs))/\w.cell? ⟨nb,n*4+3,none⟩=some (Vi (nI (g.jx.getD n nq0).sn)):=by
 obtain⟨nv,uv,sv,rv,sl,rl,e⟩:=h;obtain⟨f,a,_⟩:=e.j;obtain⟨nb,nc,d⟩:=ZF a.nod Om;subst d
 have q : ∀ j, j < 4 -> (g.jx.flatMap nodC)[n * 4 + j]? = (nodC (g.jx.getD n nq0))[j]? := fun j a => by
   rw[ZgL nodC 4 (fun _=>rfl) g.jx n j c a];simp[c]
 exact⟨nb,nc,a.box.cell 2,a.box.cell 0,a.box.lt,Z1 a.nod,Zi a.nod _ (q 0 Dc),Zi a.nod _ (q 1 Dc),Zi a.nod _ (q 2 Dc),Zi a.nod _ (q 3 Dc)⟩
theorem Zl3(h:GW w0 w X g)(n:Nat)(c:n<g.jx.length) :
  Cz 177 #[Vp X.gb,Vi n] w fun e w'=>e=.returned (.tuple #[Vi (g.jx.getD n nq0).arg,.bool (Zco n g).isSome])/\BW w w':=by
 obtain⟨nb,nc,b2,b0,f,i,q0,q1,q2,q3⟩:=h.node c
 have a:Hid ((Zco n g).isSome=(g.fold && decide ((g.jx.getD n _).op=0))):=hid (by
  unfold Zco;generalize g.jx.getD n nq0=z;generalize g.fold=fo;cases fo <;> by_cases d:z.op=0 <;> simp[d])
 have j:(n:Int)<g.jx.length:=by omega
 generalize g.jx.getD n nq0=z at *
 generalize g.jx.length=L at *
 generalize(Zco n g).isSome=r at *
 generalize g.fold=fo at *
 generalize nI z.fs=z2 at *
 generalize nI z.sn=z3 at *
 clear h;go_enter func177,ntmps177;cases fo with
 | false=>
  go_upto_region 2 with fail
  go_region
  go_wp2;go_ret2;exact⟨by rw[a];rfl,belB⟩
 | true=>
  go_upto_region 2 with fail
  go_region
  go_wp2;go_ret2;refine⟨?_,belB⟩;rw[a,show decide _=((z.op:Int) == 0) by rw[Ybh];simp];rfl
theorem Zie(h:Zco n g=some v):v=(g.jx.getD n nq0).arg:=by
 unfold Zco at h;split at h
 ·injection h with h;exact h.symm
 ·cases h
theorem NOk.vok(h:NOk g.jx)(a:n<g.jx.length):vOk (g.jx.getD n nq0).arg:=by
 have:=(h n a).ar;simpa [a,vOk] using this
theorem Zpr(h:GW w0 w X g)(a:vOk v)(c:g.jx.length<=500000) :
  Cz 178 #[Vp X.gb,.iface 282 (Vi v)] w fun e w'=>e=.returned (Vi ((Zdw v g).1:Nat))/\Hid (GP w0 w w' X (Zdw v g).2):=by
 have d:=hid (Zov h a c);have i:=asSS (Vi v);clear h;go_enter func178,ntmps178
 go_wp2_with fail
 refine d.mono ?_;rintro e w1 ⟨rfl,f⟩;go_wp2;go_ret;exact⟨rfl,f⟩
theorem ZuI(h:GW w0 w X g){n:Nat}(l:n<g.jx.length)(o:g.jx.length<=500000) :
  Cz 118 #[Vp X.gb,Vi n] w fun e w'=>e=.returned (Vi ((negQ n g).1:Nat))/\Hid (GP w0 w w' X (negQ n g).2):=by
 have p:=hid h;have q:=hid (Zl3 h n l);have r:=hid (h.nok.vok l);clear h;go_enter func118,ntmps118
 go_wp2_with fail
 refine q.mono ?_;rintro e w1 ⟨rfl,a⟩;have i:=hid (p.below a);have j:=hid (KT.below a);clear q a p;cases c:Zco n g with
 | some v=>
  have s:=Zie c;have m:Hid (negQ n g=Zdw _ g):=hid (by unfold negQ;rw[c]);rw[<-s]at r ⊢;simp only[Yb0];clear c s
  go_wp2_with fail
  refine(ZmQ (.inl v) ⟨rfl,r⟩).mono ?_;rintro e w2 ⟨v2,rfl,k,d⟩;obtain⟨t,u⟩:=k.out;subst t;have A:=hid (Zpr (i.below d) u o);have y:=hid (j.trans (KT.below d));clear k d
  go_wp2_with fail
  refine A.mono ?_;rintro e B ⟨rfl,f⟩;go_wp2;go_ret;rw[m];exact⟨rfl,hid (GP.step y f)⟩
 | none=>
  have m:Hid (negQ n g=addQ _ g):=hid (by unfold negQ;rw[c]);simp only[Yb7];have z:=hid (i.add ⟨4,0,some n,none⟩ (ZgY Dc l Dc Dc) o);simp only[nI]at z;clear c
  go_wp2_with fail
  refine z.mono ?_;rintro e B ⟨rfl,f⟩;go_wp2;go_ret;rw[m];exact⟨rfl,hid (GP.step j f)⟩
def Zgj(o x y:Nat)(g:Gq):Nat×Gq:=if o=0 then addQ ⟨10,0,some x,some y⟩ g else Zbs (o - 1) x y g
theorem Zvn(h:GW w0 w X g){o x y:Nat}(ho:o<=4)(E:x<g.jx.length)(F:y<g.jx.length)(L:g.jx.length<=500000) :
  Cz 119 #[Vp X.gb,Vi o,Vi x,Vi y] w fun e w'=>e=.returned (Vi ((Zgj o x y g).1:Nat))/\Hid (GP w0 w w' X (Zgj o x y g).2):=by
 by_cases M:o=0
 ·subst M;have Q:=hid (h.add ⟨10,0,some x,some y⟩ (ZjR Dc E F Dc Dc) L);have k:Hid (Zgj 0 x y g=addQ _ g):=hid rfl;simp only[nI]at Q;clear h;go_enter func119,ntmps119
  go_wp2_with fail
  refine Q.mono ?_;rintro e N ⟨rfl,a⟩;go_wp2;go_ret;rw[k];exact⟨rfl,a⟩
 ·obtain⟨p,rfl⟩:∃p,o=p+1:=⟨o - 1,by omega⟩
  have k:Hid (Zgj (p+1) x y g=Zbs p x y g):=by unfold Zgj;rw[if_neg M];rfl
  have R:((p+1:Nat):Int)≠0:=by omega
  have O:=hid h;have G:=hid (h.nok.vok E);have H:=hid (h.nok.vok F);clear h M;have P:IntKind.i64.wrap (((p+1:Nat)) - 1)=p:=by rw[Ybo];omega
  obtain⟨oz,i⟩:∃oz:Int,oz=((p+1:Nat)):=⟨_,rfl⟩
  rw[<-i]at P R ⊢;have S:=hid i;clear i;have l:=hid (Zl3 O x E);obtain⟨ax,m⟩:∃ax,ax=(g.jx.getD x nq0).arg:=⟨_,rfl⟩
  obtain⟨ay,q⟩:∃ay,ay=(g.jx.getD y nq0).arg:=⟨_,rfl⟩
  rw[<-m]at l G;rw[<-q]at H;have I:=hid m;have r:=hid q;clear m q;go_enter func119,ntmps119
  go_wp2_with fail
  refine l.mono ?_;rintro e w1 ⟨rfl,s⟩;have t:=hid (O.below s);have J:=hid (KT.below s);clear l s O;have z:=hid (Zl3 t y F);rw[<-r]at z
  go_wp2_with fail
  refine z.mono ?_;rintro e w2 ⟨rfl,A⟩;have K:=hid (t.below A);have B:=hid (J.trans (KT.below A));clear z A t J;have c:=hid (K.add ⟨3,p,some x,some y⟩ (ZjR Dc E F Om Om) L);simp only[nI]at c;cases d:Zco x g with
  | none=>
   have f:Hid (Zbs p x y g=addQ _ g):=hid (by unfold Zbs;rw[d]);simp only[Yb7]
   go_wp2_with fail
   refine c.mono ?_;rintro e N ⟨rfl,a⟩;go_wp2;go_ret;rw[k,f];exact⟨rfl,hid (GP.step B a)⟩
  | some u=>
   cases j:Zco y g with
   | none=>
    have f:Hid (Zbs p x y g=addQ _ g):=hid (by unfold Zbs;rw[d,j]);simp only[Yb7,Yb0]
    go_wp2_with fail
    refine c.mono ?_;rintro e N ⟨rfl,a⟩;go_wp2;go_ret;rw[k,f];exact⟨rfl,hid (GP.step B a)⟩
   | some v=>
    have f:Hid (Zbs p x y g=Zdw _ g):=hid (by unfold Zbs;rw[d,j]);have Z:=(Zie d).trans I.symm;have hv:=(Zie j).trans r.symm;subst Z hv;simp only[Yb0];clear d j c I r;have C:=hid (ZmH p Om _ _ (.inl u) (.inl v) w2 ⟨rfl,G⟩ ⟨rfl,H⟩ trivial);rw[<-S]at C
    go_wp2_with fail
    refine C.mono ?_;rintro e N ⟨v3,rfl,a,D⟩;obtain⟨U,V⟩:=a.out;subst U;have HF:=hid (Zpr (K.below D) V L);have W:=hid (B.trans (KT.below D));clear a D C
    go_wp2_with fail
    refine HF.mono ?_;rintro e w4 ⟨rfl,Y⟩;go_wp2;go_ret;rw[k,f];exact⟨rfl,hid (GP.step W Y)⟩
end
end
section
section
variable {w0 w w' w1 w2:World} {X:GX} {nv uv sv rv nv' uv' sv' rv':Value} {sl sl':List SelC} {rl rl':List RowC} {g g':Gq} {T:TypeId} {x n:Nat}
theorem Zk0(a b:BA):bl (a++b)=bl a++bl b:=by simp[bl]
structure SelW (y:Nd×Nat):Prop where
 wf:wfT (Zbg y.1)
 jj:y.1.jj=1
 wt:wT (Zbg y.1)<=100000
 len:y.2<=1000000000
theorem Zm5(y:Nd×Nat)(c:y.1.jj=1):Zu (Zbg y.1) 1=selS y.1:=by
 obtain⟨a,k⟩:=y;have c:a.jj=1:=c;show ZeK (decide (Zz a<1)) (Zbv a _ _)=_;have d:Zz a=4:=by unfold Zz;rw[if_neg Om,if_neg Om]
 rw[d];show Zbv a _ _=_;unfold Zbv;rw[if_neg Om,if_pos c]
theorem Zxi (w : World) (nm : BA) (la : Option Addr) (ln lc k : Nat) : Cz 116 #[.agg #[.string nm, .slice la ln lc, Vi k]] w fun e w' => e = .returned (.bool (decide (0 < k))) /\ BW w w' := by
  go_enter func116,ntmps116;go_wp2
  all_goals
    go_ret;refine⟨Zcy ?_,belB⟩
    first|rfl|(rw[Ybh];simp;done)|(rw[Ybh];simp;omega)
theorem Zr8(w:World)(s:SelC)(y:Nd×Nat)(P:Zeg w s y)(i:SelW y)(I:ZR w)(J:20<=w.heap.size) :
  Cz 72 #[.agg #[.string s.1,.slice s.2.1 s.2.2.1 s.2.2.2.1,Vi (s.2.2.2.2:Nat)]] w fun e w'=>∃r:BA,e=.returned (.string r)/\Hid (bl r=ZI y)/\Hid (r.size<=200000)/\BW w w':=by
 obtain⟨nm,la,ln,lc,k⟩:=s;obtain⟨E,F,v⟩:=P;simp only at E F v;have K:Hid (Zh w (Zbg _) _):=hid (.inr (.inl ⟨i.jj,nm,la,ln,lc,rfl,E,F⟩));have L:=hid I;have j:=hid J;have G:=hid i;have z:Hid (ZI y=Zu (Zbg y.1) 1++(if 0<k then [91]++decS k++[93] else [])):=by rw[Zm5 y i.jj,v];rfl
 have R:k<=1000000000:=v▸i.len;have M:=hid (Zfy _ 1 i.wf);clear E F v I J i;simp only;go_enter func72,ntmps72
 go_wp2_with fail
 refine Zm fun Q l=>?_;have A:BW w Q:=l▸belB;have m:Hid (BAt _ _ _ 156):=l▸(show BAt _ _ _ _ from bnw);have c:=hid A;clear l A;obtain⟨qb,o⟩:∃qb,w.heap.size=qb:=⟨_,rfl⟩
 have S:=hid o;rw[o]at m ⊢;clear o;refine(Zj6 G.wf G.wt (K.below c) (L.low c j) (Yah j c.size)).mono ?_;rintro e w1 ⟨r,rfl,N,p⟩;have d:=hid (m.below p);have f:=hid (c.trans (p.mono c.size));have U:r.size<=100000:=ZU N.out▸Yah M.out G.wt;clear p m c;have q0:w1.cell? _=some _:=d.cell 0;have q1:w1.cell? _=some _:=d.cell 1;have q2:w1.cell? _=some _:=d.cell 2;have q:=d.lt;have B:=hid (Zxi w1 nm la ln lc k)
 go_wp2_with fail
 refine B.mono ?_;rintro e w2 ⟨rfl,t⟩;have u:=hid (d.below t);have a:=hid (f.trans (t.mono f.size));clear t d f q0 q1 q2 q B;by_cases h:0<k
 ·rw[decide_eq_true h];have q2:w2.cell? _=some _:=u.cell 2;have q:=u.lt;have C:=hid (ZlT (L.low a j) (k) Om Om)
  go_wp2_with fail
  refine C.mono ?_;rintro e W ⟨ds,rfl,O,D⟩;have H:=hid (a.trans (D.mono a.size))
  have V:ds.size<=10:=by
   rw[ZU O,show((k:Int)).toNat=k from rfl];exact ZhZ 9 k (by have:(10) ^ 10=10000000000:= Dc;omega)
  clear D C u a q2 q;go_wp2;go_ret;refine⟨_,rfl,hid ?_,hid ?_,H⟩
  ·rw[z,if_pos h,Zk0,Zk0,Zk0,N,O];rfl
  ·simp;have:(⟨#[91]⟩:BA).size=1:=rfl;have:(⟨#[93]⟩:BA).size=1:=rfl;omega
 ·rw[decide_eq_false h];go_wp2;go_ret;exact⟨r,rfl,hid (by rwa [z.out,if_neg h,Yca]),hid Om,a⟩
theorem Tryz.infoSelCp:(Tryz.prog.info? 156).map (fun i=>(i.zero,i.size,i.bytes))=some (some (.agg #[.string ByteArray.empty,S0,Vi 0]),3,48):=by kernel_rfl
theorem Zia(a:LB):∀(l:List (LB)) (z:LB),idx z l=none->idx a (l++[z])=if a=z then some l.length else idx a l
 | [], z, _ => by
   by_cases h:z=a
   · subst h;simp[idx]
   · simp[idx,h,Ycp h]
 | y :: l, z, h => by
   unfold idx at h;by_cases e:y=z
   · rw[if_pos e]at h;cases h
   · rw[if_neg e]at h
     have c : idx z l = none := by cases d : idx z l with
       | none=>rfl
       | some i=>rw[d]at h;cases h
     rw[Yby,idx,idx,Zia a l z c];by_cases e2:y=a
     · subst e2;simp[e]
     · simp only[e2,if_false]
       by_cases e3:a=z
       · simp[e3]
       · simp[e3]
theorem Zjh{z:LB} : ∀ {l:List (LB)} {i:Nat},idx z l=some i->i<l.length
 | [],i,h=>by cases h
 | y :: l, i, h => by
   unfold idx at h;by_cases e:y=z
   · rw[if_pos e]at h;injection h with h;subst h;simp
   · rw[if_neg e]at h
     cases a:idx z l with
     | none=>rw[a]at h;cases h
     | some j=>rw[a]at h;injection h with h;subst h;have:=Zjh a;simp;omega
theorem Zsw(a b:BA)(h:Value.string a=Value.string b):a=b:=by injection h
theorem ZAB(h:idx (ZI y) (g.jm.map ZI)=some i):ZJ y g=addQ ⟨1,i,none,none⟩ g:=by unfold ZJ;rw[h]
theorem ZAA(h:idx (ZI y) (g.jm.map ZI)=none):ZJ y g=addQ ⟨1,(g.jm.length:Nat),none,none⟩ { g with jm:=g.jm++[y] }:=by unfold ZJ;rw[h]
theorem ZrB(h:GW w0 w X g){s:SelC}(hs:Zeg w0 s y)(hw:SelW y)(ht:ZR w)(hB:20<=w.heap.size)(hl:g.jx.length<=500000)(c4:g.jm.length<=500000) :
  Cz 123 #[Vp X.gb,.agg #[.string s.1,.slice s.2.1 s.2.2.1 s.2.2.2.1,Vi (s.2.2.2.2:Nat)]] w fun e w'=>e=.returned (Vi ((ZJ y g).1:Nat))/\Hid (GP w0 w w' X (ZJ y g).2):=by
 obtain⟨nv,uv,sv,rv,sl,rl,hI⟩:=h;obtain⟨f,hj,hf⟩:=hI.j;have F:=hid hI;have HF:=hid hf;have G:=hid hj;have U:=hid hs;have HW:=hid hw;have HT:=hid ht;have W:=hid hB;clear hI hf hj hs hw ht hB;go_enter func123,ntmps123
 go_wp2_with fail
 refine Zm fun W0 H=>?_;have Y:BW w W0:=H▸belB;have I:Hid (BAt _ _ (ZfB s) 156):=H▸(show BAt _ _ _ _ from bnw);have p:=hid Y
 have J : Hid (∀ k, sv.ownBlock = some k -> k ≠ w.heap.size) := hid (fun k hk e => by
   have:=(G.sel.lt k hk).2;omega)
 clear H Y;obtain⟨qb,M⟩:∃qb,w.heap.size=qb:=⟨_,rfl⟩
 have d5:=hid M;rw[M]at I J ⊢;clear M
 have Z:Zeg W0 s y:=⟨U.1,U.2.1.below (by
  have h1:=G.bel.trans (p.mono G.bel.size);exact h1),U.2.2⟩
 refine(Zr8 W0 s y Z HW.out (HT.low p.out W.out) (Yah W.out p.size)).mono ?_;rintro e w1 ⟨tx,rfl,N,c5,O⟩;have P:=hid (p.trans (O.mono p.size));have Q:=hid (I.below O);have c:Hid (GJ w0 w1 X nv uv sv rv sl rl g _ f _ _):=hid (G.below P.out);have R:=hid (KT.below P.out);clear O I p Z G;obtain⟨kl,a0⟩:=Zsx (s:=tx) (by have:=c5.out;unfold maxLen;omega);have a1:=hid a0;have d:=c.smp.look strK underlying174 a1 _ rfl;have b7:w1.cell? _=some _:=c.box.cell 7;have c6:=c.box.lt;unfold idxV at d;rw[N]at d;clear a0;cases l:idx (ZI y) (g.jm.map ZI)with
 | some i=>
  have d6:i<g.jm.length:=by have:=Zjh l;simpa using this
  rw[l]at d;simp only[Ybf,Ya6,Yb0,Int.ofNat_eq_natCast]at d;have HQ:=hid (ZAB l);have S:=hid (GW.add ⟨_,_,_,_,_,_,⟨⟨f,c,HF⟩,F.ulen,F.nok,F.ubd⟩⟩ ⟨1,(i),none,none⟩ (ZjS Dc Om Om) hl);simp only[nI]at S
  go_wp2_with fail
  refine S.mono ?_;rintro e w2 ⟨rfl,c7⟩;go_wp2;go_ret;rw[HQ];exact⟨rfl,hid (GP.step R c7)⟩
 | none=>
  rw[l]at d;simp only[Option.map_none,Yc9,Yb7]at d;have HQ:=hid (ZAA l);obtain⟨sa,sc,c8⟩:=Zl c.sel;subst c8;obtain⟨L,hL⟩:∃L,L=g.jm.length:=⟨_,rfl⟩
  have V:=hid hL;rw[<-hL]at c4 c J;have a2:=hid l;clear hL l;have a3:Hid ((g.jm.map ZI).length=L):=by rw[Yak];exact V.symm
  have a4:idxV (g.jm.map ZI++[ZI y]) tx=some (L:Int):=by
   unfold idxV;rw[Zia _ _ _ a2,N,if_pos rfl,a3];rfl
  have a5 : ∀ a', a' ≠ tx -> idxV (g.jm.map ZI ++ [ZI y]) a' = idxV (g.jm.map ZI) a' := fun a' ha => by
    unfold idxV;rw[Zia _ _ _ a2.out,if_neg (fun e=>ha (ZcW (e.trans N.symm)))]
  obtain⟨w2,c9,a6,q⟩:=c.smp.put strK underlying174 Zsw (by rw[a3.out];omega) a1.out (v:=L) (Zhl Om) a4 a5 w1 rfl;have a7:=hid (c.smPut q (ss':=g.jm.map ZI++[ZI y]) (Yab▸a6)).1;have a8:=hid (R.trans (c.smPut q (ss':=g.jm.map _++[ZI y]) (by rwa [Yab])).2)
  have a9 := hid (Q.grown q (fun e => by
    obtain⟨es,cl,ho⟩:=c.smp.obj;injection e with e;exact ZbU ho (show w1.heap[X.sm]?=_ by rw[<-e];exact Q) rfl))
  have b5:w1.cell? _=some _:=c.box.cell 5;clear a4 a5 a6 q;obtain⟨i0,hi,b0,b1,b2⟩:=info_parts Tryz.infoSelCp
  go_upto_region 6 with fail
  clear d c9 b5 b7 c6 c R Q;have t:=hid (a7.below (Yaf _ _).drew);have b3:=hid (a8.trans (KT.below (Yaf _ _).drew));have z:Hid (BAt w2.drew _ _ _):=a9;refine Zbn 10 (fun w'=>w'.cell? _=some _/\w'.cell? _=some _/\w'.cell? _=some _/\w'.cell? _=some _) Kr ⟨t.box.cell 5,z.cell 0,z.cell 1,z.cell 2⟩ (fun a=>?_);clear a7 a8 a9;refine Za 0 a (h:=?_);refine Za 1 a (h:=?_);refine Za 2 a (h:=?_);refine Za 3 a (h:=?_);refine Za 4 a (h:=?_);refine Za 5 a (h:=?_);generalize w2.drew=w3 at *
  have C:Hid (∀o,GJ _ (w3.alloc o) X _ _ _ _ _ _ g _ f _ _):=hid (fun o=>t.below Zbal);have A:Hid (∀o,BAt (w3.alloc o) _ _ _):=hid (fun o=>z.below Zbal);have b4:=hid (fun o=>by have:=(C o).sel;rwa [<-V]at this);have b6:Hid (∀o,KT w (w3.alloc o)):=hid (fun o=>b3.trans (KT.below Zbal));have d0:Hid (X.base<=w3.heap.size):=hid (by have h1:=t.bel.size;have:=t.bas.1;omega);clear t b3 z;refine Z4 (i:=6) Kr rfl (fun K B=>?_);go_simp;refine B _ _ ⟨(C _).box.cell 5,(A _).cell 0,(A _).cell 1,(A _).cell 2⟩ (fun a=>?_);clear B K
  try simp only[Act.put,Zset]
  refine Z4 (i:=7) Kr rfl (fun K B=>?_);refine ZfF rfl _ _ _ rfl _ 156 _ _ 3 _ underlying55 hi b0 b1 b2 rfl Dc _ L _ (by simp[Act.eval]) (b4 _) _ 1 1 (ZfB s) (by simp[Act.eval]) rfl Zk4 ?h3 ?h4 ?h5 ?h6 ?_
  case h3=>intro u hu;simp[ZfB]at hu;rcases hu with rfl|rfl|rfl <;> rfl
  case h4=>unfold maxLen;omega
  case h5=>omega
  case h6=>have:=d0.out;simp;omega
  intro v1 w4 r m c3;obtain⟨g1,cp1,d1⟩:=ZF r Om;subst d1;obtain⟨b8,b9,c1⟩:=(C.out _).selApp s y U.out m (by rw[<-V.out];exact r);have D:=hid b8;have d2:=hid b9;have d3:=hid ((b6 _).trans c1);have c2:=(A _).grown m (fun e=>J _ e.symm rfl);have E:=hid c2;clear r m c3 b8 b9 c1 c2 C A b4 b6;refine B _ _ ⟨D.cell 5,E.cell 0,E.cell 1,E.cell 2⟩ (fun a=>?_);clear B K;refine Za 8 a (h:=?_);refine Za 9 a (h:=?_);refine Zbl Kr Kr rfl Kr (fun K B=>?_);have e1:=D.frozen 5;have e2:=a.1;have e3:=D.lt;go_simp;refine B _ _ ?_;clear B K e1 e2 e3 a D E;generalize w4.setCell ⟨X.gb,5,none⟩ (.slice (some ⟨g1,0,none⟩) (L+1) cp1)=w5 at *
  have S:=hid (GW.add (g:={ g with jm:=g.jm++[y] }) ⟨_,_,_,_,_,_,⟨⟨f,by have:=d2.out;rw[show(g.jm++[y]).map _=g.jm.map ZI++[ZI y] by simp];exact this,HF⟩,F.ulen,F.nok,F.ubd⟩⟩ ⟨1,(L),none,none⟩ (ZjS Dc Om Om) hl);simp only[nI]at S;clear hi b0 b1 b2
  go_wp2_with fail
  refine S.mono ?_;rintro e w6 ⟨rfl,d4⟩;go_wp2;go_ret;rw[HQ,<-V];exact⟨rfl,hid (GP.step d3 d4)⟩
end
end
section
def SS(l:List (LB)):Prop:=l.Pairwise fun a b=>Op.bytesLess a b=true
theorem ZlR(x y:LB):∀l:List (LB),y∈insN x l ↔ y=x∨y∈l
 | []=>by simp[insN]
 | z :: l => by
   unfold insN;split
   · simp_all
   · split
     · simp
     · simp only[Yau,ZlR x y l]
       constructor
       · rintro(h|h|h)
         · simp_all
         · simp_all
         simp_all
       · rintro(h|h|h)
         · simp_all
         · simp_all
         simp_all
theorem ZpV(x:LB):∀ {l:List (LB)},SS l->SS (insN x l)
 | [],_=>Ye9 _ _
 | z :: l, h => by
   obtain⟨f,g⟩:=Ybg.1 h;unfold insN;split
   · exact h
   · rename_i d
     split
     · rename_i c
       refine Ybg.2 ⟨fun y a=>?_,h⟩;rcases Yau.1 a with rfl|a
       · exact c
       · exact Zdv _ _ _ c (f y a)
     · rename_i c
       refine Ybg.2 ⟨fun y a=>?_,ZpV x g⟩;rcases(ZlR x y l).1 a with rfl|a
       · cases i:Op.bytesLess z y with
         | true=>rfl
         | false=>
           have e:Op.bytesLess y z=false:=by simpa using c
           exact absurd (Zdh _ _ e i) d
       simp_all
theorem Zk6:∀l:List (LB),SS (Z6 l)
 | []=>List.Pairwise.nil
 | x::l=>ZpV x (Zk6 l)
theorem Zi0(y:LB):∀l:List (LB),y∈Z6 l ↔ y∈l
 | []=>Iff.rfl
 | x :: l => by
   show y∈insN x (Z6 l) ↔ _;rw[ZlR,Zi0 y l,Yau]
theorem Zst:∀ {a b:List (LB)},SS a->SS b->(∀y,y∈a ↔ y∈b)->a=b
 | [],[],_,_,_=>rfl
 | [],y::b,_,_,h=>absurd ((h y).2 (Yay ..)) (by simp)
 | x::a,[],_,_,h=>absurd ((h x).1 (Yay ..)) (by simp)
 | x :: a, y :: b, g, i, h => by
   obtain⟨a1,a2⟩:=Ybg.1 g;obtain⟨b1,b2⟩:=Ybg.1 i
   have d:x=y:=by
     rcases Yau.1 ((h x).1 (Yay ..))with e|j
     · exact e
     · rcases Yau.1 ((h y).2 (Yay ..))with e|k
       · simp_all
       · have:=Zdv _ _ _ (b1 x j) (a1 y k)
         rw[ZcL]at this;cases this
   subst d;rw[Zst a2 b2 (fun z=>?_)];constructor
   · intro c
     rcases Yau.1 ((h z).1 (Yam _ c))with e|f
     · subst e;have:=a1 z c;rw[ZcL]at this;cases this
     omega
   · intro c
     rcases Yau.1 ((h z).2 (Yam _ c))with e|f
     · subst e;have:=b1 z c;rw[ZcL]at this;cases this
     omega
theorem Zor (zs : List (LB)) (j : zs.Pairwise fun a b => Op.bytesLess b a = false) : ∀ m, m <= zs.length -> SS (Lib.compactUpTo zs.toArray m) /\ (∀ y, y ∈ Lib.compactUpTo zs.toArray m ↔ y ∈ zs.take m)
  | 0,_=>by simp[Lib.compactUpTo,SS]
  | m + 1, C => by
    obtain⟨r,n⟩:=Zor zs j m Om;have c:m<zs.length:=by omega
    have o:zs.toArray[m]! = zs[m]:=by simp[c]
    have s : ∀ y ∈ zs.take m, Op.bytesLess zs[m] y = false := fun y p => by
      obtain⟨i,q,rfl⟩:=List.mem_iff_getElem.1 p;rw[Ya7]at q;rw[List.getElem_take];exact List.pairwise_iff_getElem.1 j i m Om c Om
    rw[Lib.compactUpTo_succ];by_cases d:Lib.keeps zs.toArray m=true
    · rw[if_pos d,o]
      have t : ∀ y ∈ zs.take m, y ≠ zs[m] := fun y p e => by
        obtain⟨i,q,k⟩:=List.mem_iff_getElem.1 p;rw[Ya7]at q;rw[List.getElem_take]at k;have f:m≠0:=by omega
        have g:zs[m]≠zs[m - 1]:=by
          unfold Lib.keeps at d;simp[f,c,show m - 1<zs.length by omega]at d;exact d
        rcases Yav i (m - 1)with u|u
        · have w:=List.pairwise_iff_getElem.1 j i _ Om Om u
          have x:=List.pairwise_iff_getElem.1 j (m - 1) m Om c Om;have z:Op.bytesLess _ _=false:=e▸k▸w;exact g (Zdh _ _ x z)
        · have:i=m - 1:=by omega
          simp_all
      refine⟨List.pairwise_append.2 ⟨r,Ye9 _ _,fun a A b v=>?_⟩,fun y=>?_⟩
      · rw[Yap]at v
        subst v;have l:=(n a).1 A;cases B:Op.bytesLess a zs[m]with
        | true=>rfl
        | false=>exact absurd (Zdh _ _ B (s a l)) (t a l)
      · rw[Yar,n,List.take_succ_eq_append_getElem _,Yar]
    · rw[if_neg d,Yca]
      refine⟨r,fun y=>?_⟩;rw[n,List.take_succ_eq_append_getElem c,Yar,Yap];refine⟨.inl,fun h=>h.elim id (fun e=>?_)⟩;have f:m≠0:=fun e0=>d (by subst e0;rfl)
      have g:zs[m]=zs[m - 1]:=by
        unfold Lib.keeps at d;simp[f,c,show m - 1<zs.length by omega]at d;exact d
      rw[e,g];exact List.mem_take_iff_getElem.2 ⟨m - 1,by omega,rfl⟩
theorem Zu1(g:NmS bs)(d:∀x,x∈bs.map bl ↔ x∈ns):Lib.compact (bs.map bl)=Z6 ns:=by
 have c:(bs.map bl).Pairwise fun a b=>Op.bytesLess b a=false:=by rwa [Ybx]
 obtain⟨e,f⟩:=Zor _ c _ (Yac _);refine Zst e (Zk6 _) (fun y=>?_);rw[Zi0];show y∈Lib.compactUpTo _ _ ↔ _;rw[f,Ya4,d]
section
variable {w0 w w' w1 w2:World} {X:GX} {nv uv sv rv nv' uv' sv' rv':Value} {sl sl':List SelC} {rl rl':List RowC} {g g':Gq} {T:TypeId} {x n:Nat}
theorem ZzV{base:Nat}{e:TypeId}{gg cap:Nat}{xs:List Value}(h:w.ownsRow base e sz (.slice (some ⟨gg,0,none⟩) m cap) m xs)(c:k<=m):w.ownsRow base e sz (.slice (some ⟨gg,0,none⟩) k cap) k (xs.take (k*sz)):=by
 obtain⟨d,a⟩:=h;refine⟨Ya7▸d▸Yc3 (Yc6 _ c),?_⟩;rcases a with ⟨a,_⟩|⟨g',cap',cur,f,i,j,q,l,o,p⟩
 ·cases a
 ·injection f with hv1 hv2 hv3;injection hv1 with hv1;injection hv1 with hv1 _ _;subst hv1 hv3;refine .inr ⟨_,_,cur,rfl,i,j,by omega,l,o,?_⟩;rw[<-p,List.take_take,Yc3 (Yc6 _ c)]
theorem ZpM(w:World):Go.Sort.grow w #[]=w:=by simp[Go.Sort.grow]
def baL(l:LB):BA:=⟨l.toArray⟩
theorem ZnX:(l.map baL).map bl=l:=by
 rw[Yb1]
 conv=>rhs;rw[<-List.map_id l]
 exact Ycb (fun x _=>by simp[bl,baL])
theorem Zut{W:World}{B:Nat}{v:Value}(h:W.ownsRow B 9 1 v bs.length (Zbc bs))(C:bs.length<=100000) :
  Cz 180 #[v] W fun e i=>∃a k c,e=.returned (.slice a k c)/\Hid (∃cs:List BA,i.ownsRow B 9 1 (.slice a k c) cs.length (Zbc cs)/\cs.map bl=Lib.compact (bs.map bl))/\W.grownBy i v.ownBlock:=by
 by_cases z:bs.length=0
 ·obtain rfl:=Ya3 z;obtain⟨a,c,rfl⟩:=Zl h
  exact (slices_Compact_string_empty a c W).mono (fun e i ⟨m, j⟩ => by
    subst j;exact⟨a,0,c,m,hid ⟨[],h,rfl⟩,Yek _ _⟩)
 ·obtain⟨gg,cp,rfl⟩:=ZF h Om;rcases h.2 with ⟨o,_⟩|⟨g',cap,cur,o,l,r,r1,r2,r3,r4⟩
  ·cases o
  injection o with e1 e2 e3;injection e1 with e1;injection e1 with e1;subst e1 e3;obtain⟨zs,d⟩:∃zs,zs=bs.map bl:=⟨_,rfl⟩
  have f:zs.length=bs.length:=by rw[d,Yak]
  have A:=holds_of_block r (by rw[f];rw[Yej,Zi7,<-d]at r4;exact r4);have s:=slices_Compact_string _ 0 cp _ W A Om Om;rw[f]at s;refine s.mono (fun e i ⟨m,q,j⟩=>?_);have t:=Lib.compact_length_le zs;rw[<-d]
  have p:(Lib.compact zs++List.replicate (bs.length - (Lib.compact zs).length) []).length=zs.length:=by
   rw[Yab,List.length_replicate];omega
  have u:=ownsRow_sorted (n:=q) (os:=#[]) p l r (by rwa [f]) r2 r3;rw[ZpM,<-j]at u;have y:=ZzV u t;refine⟨_,_,_,m,hid ⟨(Lib.compact _).map _,?_,ZnX⟩,?_⟩
  ·rw[Zi7,ZnX,Yak];rw[Yej,Yaq,List.take_append_of_le_length (by simp),Ya5 (by simp)]at y;exact y
  ·have:=grownBy_sorted (w:=W) (n:=q) (g:=gg) (os:=#[]) (Lib.compact zs++List.replicate (bs.length - (Lib.compact zs).length) []).toArray;rw[ZpM,<-j]at this;exact this
theorem Tryz.infoRowS:(Tryz.prog.info? 122).map (fun i=>(i.zero,i.size,i.bytes))=some (some S0,1,24):=by kernel_rfl
theorem ZwA(h:idx (commas (Z6 ns)) (g.ky.map commas)=some i):Zbd ns g=(i,g):=by unfold Zbd;rw[h]
theorem Zwz(h:idx (commas (Z6 ns)) (g.ky.map commas)=none):Zbd ns g=(g.ky.length,{ g with ky:=g.ky++[Z6 ns] }):=by unfold Zbd;rw[h]
theorem ZpU(x:LB):∀l:List (LB),nw (insN x l)<=nw (x::l)
 | []=>Yac _
 | y :: l => by
   unfold insN;split
   · simp only[nw];omega
   · split
     · exact Yac _
     · have:=ZpU x l
       simp only[nw]at this ⊢;omega
theorem ZhV:∀l:List (LB),nw (Z6 l)<=nw l
 | []=>Yac _
 | x :: l => by
   have a:=ZpU x (Z6 l);have c:=ZhV l;show nw (insN x (Z6 l))<=_;simp only[nw]at a ⊢;omega
theorem Zuz(h:GW w0 w X g){la:Option Addr}{ln:Nat}(hn:Zbm w0 (.slice la ln lc) ns)(c9:nw ns<=100000)(d0:g.ky.length<=500000) :
  Cz 122 #[Vp X.gb,.slice la ln lc] w fun e w'=>e=.returned (Vi ((Zbd ns g).1:Nat))/\Hid (GP w0 w w' X (Zbd ns g).2):=by
 obtain⟨nv,uv,sv,rv,sl,rl,hI⟩:=h;obtain⟨f,hj,hf⟩:=hI.j;have A:=hid hI;have HF:=hid hf;have HJ:=hid hj;obtain⟨bs,B,C⟩:=hn;obtain⟨_,_,he⟩:=Zl B;injection he with he1 he2 he3;subst he2
 have d1:bs.length<=100000:=by
  have:bs.length<=nw ns:=by rw[<-C];have:=Zmw (bs.map bl);rwa [Yak]at this
  omega
 have d2:=hid (Zn B hj.bel);have d3:=hid C;have S:=hid c9;clear hI hf hj B C he1 he3;have U:=hid (Zs0 w la bs.length lc rfl);go_enter func122,ntmps122
 go_wp2_with fail
 refine U.mono ?_;rintro e w1 ⟨rfl,t⟩;have D:BW w w1:=t▸belB;have V:w1.cell? ⟨w.heap.size,0,none⟩=some (.slice la bs.length lc):=by rw[t];simp
 have W:w.heap.size<w1.heap.size:=by rw[t];simp
 have Y:=hid (Zsp d1 W V (Zn d2 D));have E:=hid D;clear t D V W U
 go_wp2_with fail
 refine Y.mono ?_;rintro e w2 ⟨nv2,bs2,rfl,c,Z⟩;have a0:=hid (E.trans (Z.mono E.size));have a1:=hid (Zut c.1 (by rwa [c.2.1]));have d4:Hid (Lib.compact _=Z6 ns):=hid (Zu1 c.2.2.1 (fun x=>by rw[c.2.2.2,d3]));have a3:=hid (fun k hk=>Yah E.size (c.1.lt k hk).1);obtain⟨a2,c2,d5⟩:=Zl c.1;subst d5;clear Z Y c
 go_wp2_with fail
 refine a1.mono ?_;rintro e w3 ⟨ra,rk,rc,rfl,a4,a5⟩
 have F:Hid (Zbm w3 (.slice ra rk rc) (Z6 ns)):=by
  obtain⟨cs,Q,h2⟩:=a4.out;exact⟨cs,Q.mono (Yag _),by rw[h2,d4]⟩
 have G:=hid (a0.grown a5 a0.size (fun k hk=>a3 k hk));clear a5 a1 a4 a3;have a6:=hid (ZlV _ _ _ _ F (by have:=ZhV ns;have:=S.out;omega))
 go_wp2_with fail
 refine a6.mono ?_;rintro e w4 ⟨tx,rfl,y,H⟩;have a7:=hid (G.trans (H.mono G.size));have I:=hid (F.below H);have a:=hid (HJ.below a7.out);have J:=hid (KT.below a7.out)
 have e5:tx.size<=100000:=by
  rw[ZU y.out];exact Yah (ZeS _) (Yah (ZhV ns) S.out)
 clear H a6 F G HJ;obtain⟨kl,a8⟩:=Zsx (s:=tx) (by unfold maxLen;omega);have a9:=hid a8;have d:=a.gmp.look strK underlying174 a9 _ rfl;have b8:w4.cell? _=some _:=a.box.cell 8;have d6:=a.box.lt;unfold idxV at d;rw[y]at d;clear a8;cases l:idx (commas (Z6 ns)) (g.ky.map commas)with
 | some i=>
  rw[l]at d;simp only[Ybf,Ya6,Yb0,Int.ofNat_eq_natCast]at d;have HQ:=hid (ZwA l);go_wp2;go_ret;rw[HQ];exact⟨rfl,hid (GP.of ⟨⟨f,a,HF⟩,A.ulen,A.nok,A.ubd⟩ J)⟩
 | none=>
  rw[l]at d;simp only[Option.map_none,Yc9,Yb7]at d;have HQ:=hid (Zwz l);obtain⟨sa,sc,d7⟩:=Zl a.grp;subst d7;obtain⟨L,hL⟩:∃L,L=g.ky.length:=⟨_,rfl⟩
  have R:=hid hL;rw[<-hL]at d0 a;have b0:=hid l;clear hL l;have b1:Hid ((g.ky.map commas).length=L):=by rw[Yak];exact R.symm
  have b2:idxV (g.ky.map commas++[commas (Z6 ns)]) tx=some (L:Int):=by
   unfold idxV;rw[Zia _ _ _ b0,y,if_pos rfl,b1];rfl
  have b3 : ∀ a', a' ≠ tx -> idxV (g.ky.map commas ++ [commas (Z6 ns)]) a' = idxV (g.ky.map commas) a' := fun a' ha => by
    unfold idxV;rw[Zia _ _ _ b0.out,if_neg (fun e=>ha (ZcW (e.trans y.symm)))]
  obtain⟨q,d8,d9,r⟩:=a.gmp.put strK underlying174 Zsw (by rw[b1.out];omega) a9.out (v:=L) (Zhl Om) b2 b3 w4 rfl;have K:=hid (a.gmPut r (gs':=g.ky.map _++[commas _]) (by rwa [Yab]));have m:=hid K.1;have b4:=hid (J.trans K.2)
  have M:Hid (Zbm q (.slice ra rk rc) (Z6 ns)):=by
   obtain⟨es,cl,ho⟩:=a.gmp.obj;obtain⟨cs,Q,h2⟩:=I.out;exact⟨cs,(KM.of ho r).own Q,h2⟩
  have b6:w4.cell? _=some _:=a.box.cell 6;have c6:q.cell? _=some _:=m.box.cell 6;have c6l:=m.box.lt;clear b2 b3 d9 r K;obtain⟨i0,hi,e0,e1,e2⟩:=info_parts Tryz.infoRowS;have N:Hid (∀o,GJ _ (q.alloc o) X _ _ _ _ _ _ g _ f _ _):=hid (fun o=>m.below Zbal);have b5:=hid (fun o=>by have:=(N o).grp;rwa [<-R]at this);have b7:Hid (∀o,Zbm (q.alloc o) _ _):=hid (fun o=>M.below Zbal);have b9:Hid (∀o,KT w (q.alloc o)):=hid (fun o=>b4.trans (KT.below Zbal));have O:Hid (X.base<=q.heap.size):=hid (by have Q:=m.bel.size;have:=m.bas.1;omega);clear m b4 M a I J
  go_wp2_with (at_builtin;refine wpList_append_own _ rfl (.tmp 41) (.tmp 43) 56 rfl X.base 122 i0 S0 1 24 underlying56 hi e0 e1 e2 rfl Dc _ _ _ rfl (b5.out _) ⟨q.heap.size,0,none⟩ 1 1 [.slice ra rk rc] rfl rfl (cell_one_new _ _ _) ?c2 ?c3 ?c4 ?c5 ?_)
  case c2=>first|rfl|(intro u hu;simp at hu;subst hu;rfl)
  case c3=>unfold maxLen;omega
  case c4=>omega
  case c5=>have:=O.out;simp;omega
  intro v6 w6 z p _;obtain⟨ub,uc6,e3⟩:=ZF z Om;subst e3;obtain⟨c1,c7,c8⟩:=(N _).grpApp (ra,rk,rc) _ (b7 _) p (by rwa [<-R.out]);have P:=hid c1;have e6:=hid c7;have e4:=hid ((b9 _).trans c8);clear z p c1 c7 c8 N b5 b7 b9 O c6 c6l b6 b8 d6 d d8;have c6:w6.cell? _=some _:=P.cell 6;have cf:=P.frozen 6;have cl:=P.lt;go_wp2;go_ret;rw[HQ,<-R];exact⟨rfl,hid (GP.of ⟨⟨f,by rwa [show(g.ky++[Z6 ns]).map commas=g.ky.map commas++[commas (Z6 ns)] by simp],HF⟩,A.ulen,A.nok,A.ubd⟩ e4)⟩
end
end
section
section
variable {g g':Gq} {n:Nat}
structure GLe (g g':Gq) (k:Nat):Prop where
 n1:g.jx.length<=g'.jx.length
 n2:g'.jx.length<=g.jx.length+k
 s1:g'.jm.length<=g.jm.length+k
 r1:g'.ky.length<=g.ky.length+k
theorem GLe.refl(g:Gq)(k:Nat):GLe g g k:=⟨Yac _,by omega,by omega,by omega⟩
theorem GLe.trans{g2:Gq}(h:GLe g g' k)(q:GLe g' g2 m):GLe g g2 (k+m):=⟨by have:=h.n1;have:=q.n1;omega,by have:=h.n2;have:=q.n2;omega,by have:=h.s1;have:=q.s1;omega,by have:=h.r1;have:=q.r1;omega⟩
theorem GLe.mono(h:GLe g g' k)(a:k<=m):GLe g g' m:=⟨h.n1,by have:=h.n2;omega,by have:=h.s1;omega,by have:=h.r1;omega⟩
theorem Zdu(z:Nq)(g:Gq):GLe g (addQ z g).2 1/\(addQ z g).1<(addQ z g).2.jx.length:=by
 by_cases h:g.share=true/\∃i,idxN z g.jx=some i
 ·obtain⟨a,i,c⟩:=h;rw[Zhq a c];exact⟨GLe.refl _ _,ZlL c⟩
 ·have : g.share = true -> idxN z _ = none := fun a => by
    cases d:idxN z g.jx with
    | none=>rfl
    | some i=>simp_all
  rw[Zgz this];exact⟨⟨by simp,by simp,by simp,by simp⟩,by simp⟩
theorem Zzg(n:Nat)(g:Gq):GLe g (negQ n g).2 1/\(negQ n g).1<(negQ n g).2.jx.length:=by
 unfold negQ;split
 ·exact Zdu _ _
 ·exact Zdu _ _
theorem ZAa(o x y:Nat)(g:Gq):GLe g (Zbs o x y g).2 1/\(Zbs o x y g).1<(Zbs o x y g).2.jx.length:=by
 unfold Zbs;split
 ·exact Zdu _ _
 ·exact Zdu _ _
theorem Zgk(y:Nd×Nat)(g:Gq):GLe g (ZJ y g).2 2/\(ZJ y g).1<(ZJ y g).2.jx.length:=by
 unfold ZJ;split
 ·exact⟨(Zdu _ _).1.mono Dc,(Zdu _ _).2⟩
 ·have h:=Zdu ⟨1,(g.jm.length),none,none⟩ { g with jm:=g.jm++[y] };exact⟨(show GLe g { g with jm:=g.jm++[y] } 1 from⟨Yac _,by simp,by simp,by simp⟩).trans h.1,h.2⟩
theorem Zje(ns:List (LB))(g:Gq):GLe g (Zbd ns g).2 1/\(Zbd ns g).1<=g.ky.length/\(Zbd ns g).2.jx=g.jx:=by
 unfold Zbd;split
 ·rename_i i h;exact⟨GLe.refl _ _,by have:=Zjh h;simp_all;omega,rfl⟩
 ·exact⟨⟨by simp,by simp,by simp,by simp⟩,Yac _,rfl⟩
theorem Zmz(a:Nd):24<=ownW a:=by unfold ownW;omega
theorem Zew:∀(t:Tr) (g:Gq),wfT t->GLe g (Zb t g).2 (wT t)/\(isNil t=false->(Zb t g).1<(Zb t g).2.jx.length)
 | .nil,g,_=>⟨GLe.refl _ _,fun h=>(by cases h)⟩
 | .node _ _ a l r, g, k => by
   obtain⟨_,_,_,_,_,_,q,s,u,o,i,m⟩:=k;have f:=Zew l;have j:=Zew r;have p:=Zmz a;unfold Zb;show GLe _ _ (ownW a+wT l+wT r)/\_;split
   · exact⟨(Zdu _ _).1.mono Om,fun _=>(Zdu _ _).2⟩
   · split
     · exact⟨(Zgk _ _).1.mono Om,fun _=>(Zgk _ _).2⟩
     · split
       · simp only
         have d:=Zgk (Zba a,a.n.toNat) g;have c:=Zdu ⟨2,a.op,some (ZJ (Zba a,a.n.toNat) g).1,none⟩ (ZJ (Zba a,a.n.toNat) g).2;exact⟨(d.1.trans c.1).mono Om,fun _=>c.2⟩
       · split
         · simp only
           have d:=(f g i).1;have c:=Zzg (Zb l g).1 (Zb l g).2;exact⟨(d.trans c.1).mono Om,fun _=>c.2⟩
         · split
           · simp only
             have d:=(f g i).1;have c:=Zje a.by_ (Zb l g).2;have e:=Zdu ⟨5+a.op,(Zbd a.by_ (Zb l g).2).1,some (Zb l g).1,none⟩ (Zbd a.by_ (Zb l g).2).2;exact⟨((d.trans c.1).trans e.1).mono Om,fun _=>e.2⟩
           · simp only
             have d:=(f g i).1;have c:=(j (Zb l g).2 m).1;split
             · have e:=Zdu ⟨10,0,some (Zb l g).1,some (Zb r (Zb l g).2).1⟩ (Zb r (Zb l g).2).2
               exact⟨((d.trans c).trans e.1).mono Om,fun _=>e.2⟩
             · have e:=ZAa a.op (Zb l g).1 (Zb r (Zb l g).2).1 (Zb r (Zb l g).2).2
               exact⟨((d.trans c).trans e.1).mono Om,fun _=>e.2⟩
end
end
section
section
variable {w0 w w' w1 w2:World} {X:GX} {g g':Gq}
theorem ZwB {a:BA}  (c : op <= 3) (h : bl a = ZW.getD op []) (w : World) : Cz 121 #[.string a] w fun e w' => e = .returned (Vi (5 + op : Nat)) /\ w' = w := by
  have d:=hid (ZqX c h w);clear h;go_enter func121,ntmps121
  go_wp2_with fail
  refine d.mono ?_;rintro e w1 ⟨rfl,rfl⟩;go_wp2;go_ret;exact⟨by simp,rfl⟩
theorem ZkV {x y : Nat} {a : Nd} {l r : Tr} (d : wT (.node x y a l r) <= 100000) (k : Nat) (c : k <= 1000000000) : SelW (Zba a, k) := ⟨⟨by show 1 <= 6; decide, by show 0 <= 4; decide, fun h => (by cases h), fun h => (by cases h), by show (0 : Int) <= 0; decide, by show (0 : Int) <= 1000000000; decide, fun h => absurd (show 3 <= 1 from h) Dc, fun h => (by rcases h with h | h <;> cases h), fun _ => ⟨rfl, rfl⟩, fun h => (by rcases h with h | h <;> cases h), trivial, trivial⟩, rfl, by
  have e:wT (.node x y a l r)=ownW a+wT l+wT r:=rfl;show ownW (Zba a)+0+0<=100000;have f:ownW (Zba a)<=ownW a:=by unfold ownW Zba;simp[nw]
  omega,c⟩
theorem GW.pow(h:GW w0 w X g)(d:ZR w0)(a:20<=w0.heap.size):ZR w/\20<=w.heap.size:=by
 obtain⟨a1,a2,a3,a4,a5,a6,e⟩:=h;obtain⟨f,c,_⟩:=e.j;exact⟨d.low c.bel a,Yah a c.bel.size⟩
theorem ZmI(X:GX){w0:World}(P:ZR w0)(Q:20<=w0.heap.size):∀(t:Tr) (g:Gq) (w:World) (v:Value),GW w0 w X g->Zh w0 t v->wfT t->wT t<=100000->g.jx.length+wT t<=400000->g.jm.length+wT t<=400000->g.ky.length+wT t<=400000->
  Cz 75 #[Vp X.gb,v] w fun e w'=>e=.returned (Vi ((Zb t g).1:Nat))/\Hid (GP w0 w w' X (Zb t g).2)
 | .nil,_,_,_,_,h,_,_,_,_,_=>h.elim
 | .node px py a l r, g, w, v, hG, hv, d, a8, hn, hs, hr => by
   have IHL:=hid (ZmI X P Q l);have IHR:=hid (ZmI X P Q r);have HG:=hid hG;have d8:=hid d;have HT:=hid P;have a4:=hid Q;have b6:=hid a8;have c7:wT (.node px py a l r)=ownW a+wT l+wT r:=rfl;rw[c7]at hn hs hr a8;have d9:=Zmz a;clear hG;rcases hv with ⟨B,rfl⟩|⟨B,nm,la,ln,lc,rfl,S,T⟩|⟨B,L,nm,la,ln,lc,rfl,U,S,T⟩|⟨B,x,rfl,G⟩|⟨B,L,la,ln,lc,x,rfl,U,b7,G⟩|⟨B,x,y,rfl,G,hy⟩
   · have H:Hid (Zb (.node px py a l r) g=Zdw _ g):=hid (by unfold Zb;rw[if_pos B])
     have HV:Hid (vOk _):=hid ⟨by have:=d.2.2.2.2.1;omega,d.2.2.2.2.2.1⟩;clear d P Q;have R:=ZhB (.agg #[Vi a.n]);go_enter func75,ntmps75
     go_wp2_with fail
     refine Zm fun C j=>?_;have f:BW w C:=j▸belB;clear j;refine(Zov (HG.below f) HV Om).mono ?_;rintro e w1 ⟨rfl,k⟩;go_wp2;go_ret;rw[H];exact⟨rfl,hid (GP.step (KT.below f) k)⟩
   · have H:Hid (Zb (.node px py a l r) g=ZJ _ g):=hid (by unfold Zb;rw[if_neg Om,if_pos B])
     have a9:Hid (Zeg _ (nm,la,ln,lc,0) (Zba a,0)):=hid ⟨S,T,rfl⟩;clear d P Q S T;have R:=ZhE (.agg #[.string nm,.slice la ln lc]);have V:=ZhD (.agg #[.string nm,.slice la ln lc]);have h3:=ZhF (.agg #[.string nm,.slice la ln lc]);have h4:=ZhC (.agg #[.string nm,.slice la ln lc]);have h5:=ZhG (.agg #[.string nm,.slice la ln lc]);have h6:=ZgD (.agg #[.string nm,.slice la ln lc]);go_enter func75,ntmps75
     go_wp2_with fail
     refine Zm fun C j=>?_;have f:BW w C:=j▸belB;clear j;have b0:=HG.below f;refine(ZrB b0 a9.out (ZkV b6.out 0 Om) (b0.pow HT.out a4.out).1 (b0.pow HT.out a4.out).2 Om Om).mono ?_;rintro e w1 ⟨rfl,k⟩;go_wp2;go_ret;rw[H];exact⟨rfl,hid (GP.step (KT.below f) k)⟩
   · obtain⟨m,hm⟩:∃m:Nat,a.n=m:=⟨a.n.toNat,by have:=d.2.2.2.2.1;omega⟩
     have H:Hid (Zb (.node px py a l r) g=addQ ⟨2,a.op,some (ZJ (Zba a,m) g).1,none⟩ (ZJ (Zba a,m) g).2):=by unfold Zb;rw[if_neg Om,if_neg Om,if_pos B,hm];rfl
     have a9:Hid (Zeg _ (nm,la,ln,lc,m) (Zba a,m)):=hid ⟨S,T,rfl⟩;have Y:=d.2.1;have c8:m<=1000000000:=by have:=d.2.2.2.2.2.1;omega
     have Z:=hid (Zgk (Zba a,m) g);have c9:=hid (fun W=>ZqY Y U W);rw[hm];clear d P Q S T U;have R:=ZhJ (.agg #[.string L,.string nm,.slice la ln lc,Vi m]);have V:=ZhI (.agg #[.string L,.string nm,.slice la ln lc,Vi m]);have h3:=ZhK (.agg #[.string L,.string nm,.slice la ln lc,Vi m]);have h4:=ZhH (.agg #[.string L,.string nm,.slice la ln lc,Vi m]);have h5:=ZhL (.agg #[.string L,.string nm,.slice la ln lc,Vi m]);go_enter func75,ntmps75
     go_wp2_with fail
     refine Zm fun C j=>?_;have f:BW w C:=j▸belB;have z:Hid (BAt _ _ _ 150):=j▸(show BAt _ _ _ _ from bnw);have A:=hid (KT.below f);have s:=hid (HG.below f);clear j f R V h3 h4 h5;generalize w.heap.size=qb at *
     refine(ZrB s.out a9.out (ZkV b6.out m c8) (s.pow HT.out a4.out).1 (s.pow HT.out a4.out).2 Om Om).mono ?_;rintro e w1 ⟨rfl,k⟩;have a0:=hid (k.kt.bat z Dc);have M:=hid k.gw;have N:=hid (A.trans k.kt);clear k z s A;generalize ZJ (Zba a,m) g=p at *
     have q0:w1.cell? _=some _:=a0.cell 0;have e0:=a0.lt;obtain⟨D,I⟩:=Z.out;have a5:=D.n2
     go_wp2_with fail
     refine(c9 _).mono ?_;rintro e w2 ⟨rfl,rfl⟩;have HA:=hid (M.add ⟨2,a.op,some _,none⟩ (ZgY Dc I Om Om) Om);simp only[nI]at HA
     go_wp2_with fail
     refine HA.mono ?_;rintro e w3 ⟨rfl,b1⟩;go_wp2;go_ret;rw[H];exact⟨rfl,hid (GP.step N b1)⟩
   · have H:Hid (Zb (.node px py a l r) g=negQ _ _):=hid (by rw[Zb,if_neg Om,if_neg Om,if_neg Om,if_pos B])
     have E:=d.2.2.2.2.2.2.2.2.2.2.1;have Z:=hid (Zew l g E);have a3:=d.2.2.2.2.2.2.1 Om;have HX:=hid G;obtain⟨ty,u,J⟩:=Zh.shape G;subst J;clear d P Q G;have R:=ZhA (.agg #[.iface ty u]);have V:=Zhz (.agg #[.iface ty u]);go_enter func75,ntmps75
     go_wp2_with fail
     refine Zm fun C j=>?_;have f:BW w C:=j▸belB;have A:=hid (KT.below f);have s:=hid (HG.below f);clear j f R V;refine(IHL g _ _ s HX E Om Om Om Om).mono ?_;rintro e w1 ⟨rfl,k⟩;have M:=hid k.gw;have N:=hid (A.trans k.kt);clear k s A;generalize Zb l g=p at *
     obtain⟨D,I⟩:=Z.out;have a5:=D.n2
     go_wp2_with fail
     refine(ZuI M (I a3) Om).mono ?_;rintro e w3 ⟨rfl,b1⟩;go_wp2;go_ret;rw[H];exact⟨rfl,hid (GP.step N b1)⟩
   · have H:Hid (Zb (.node px py a l r) g=addQ _ _):=hid (by rw[Zb,if_neg Om,if_neg Om,if_neg Om,if_neg Om,if_pos B])
     have E:=d.2.2.2.2.2.2.2.2.2.2.1;have Z:=hid (Zew l g E);have a3:=d.2.2.2.2.2.2.1 Om;have Y:=d.2.2.2.1 B;have d0:nw a.by_<=100000:=by unfold ownW at a8;omega
     have d1:=hid (fun W=>ZwB Y U W);have HX:=hid G;have d2:=hid b7;obtain⟨ty,u,J⟩:=Zh.shape G;subst J;clear d P Q G U b7;have R:=Zhx (.agg #[.string L,.slice la ln lc,.iface ty u]);have V:=Zhw (.agg #[.string L,.slice la ln lc,.iface ty u]);have h3:=Zhy (.agg #[.string L,.slice la ln lc,.iface ty u]);have h4:=Zhv (.agg #[.string L,.slice la ln lc,.iface ty u]);go_enter func75,ntmps75
     go_wp2_with fail
     refine Zm fun C j=>?_;have f:BW w C:=j▸belB;have z:Hid (BAt _ _ _ 124):=j▸(show BAt _ _ _ _ from bnw);have A:=hid (KT.below f);have s:=hid (HG.below f);clear j f R V h3 h4;generalize w.heap.size=qb at *
     refine(IHL g _ _ s HX E Om Om Om Om).mono ?_;rintro e w1 ⟨rfl,k⟩;have a0:=hid (k.kt.bat z Dc);have M:=hid k.gw;have N:=hid (A.trans k.kt);clear k s A z;generalize Zb l g=p at *
     obtain⟨D,I⟩:=Z.out;have a5:=D.n2;have b8:=D.r1;have e1:=hid (I a3);have d3:=hid (Zje a.by_ p.2)
     go_upto_region 14 with fail
     have a6:Hid (BAt w1.drew _ _ _):=a0;have b9:=hid (M.below (Yaf _ _).drew);have c1:=hid (N.trans (KT.below (Yaf _ _).drew));refine Zbn 11 (fun w'=>w'.cell? _=some _/\w'.cell? _=some _) Kr ⟨a6.cell 0,a6.cell 1⟩ (fun c=>?_);clear a0 M N;generalize w1.drew=w2 at *
     refine Za 0 c (h:=?_);refine Za 1 c (h:=?_);refine Za 2 c (h:=?_);refine Za 4 c (h:=?_);refine Za 5 c (h:=?_);refine Za 6 c (h:=?_);refine Za 8 c (h:=?_);refine Z4 (i:=3) Kr rfl (fun K o=>?_);go_simp;refine(d1 _).mono ?_;rintro e w3 ⟨rfl,rfl⟩;refine o _ _ c (fun c=>?_);clear o K
     try simp only[Act.put,Zset]
     refine Z4 (i:=7) Kr rfl (fun K o=>?_);go_simp;refine(Zuz b9 d2 d0 Om).mono ?_;rintro e w4 ⟨rfl,a7⟩;have F:=hid (a7.kt.bat a6 Dc);have b2:=hid a7.gw;have b3:=hid (c1.trans a7.kt);clear a7 a6 b9 c1;obtain⟨b4,e2,c2⟩:=d3.out;generalize Zbd a.by_ p.2=q at *
     refine o _ _ ⟨F.cell 0,F.cell 1⟩ (fun c=>?_);clear o K;refine Za 9 c (h:=?_);have e3:=b4.n2;have HA:=hid (b2.add ⟨5+a.op,(q.1),some _,none⟩ (ZgY Om (by rwa [c2]) Om Om) (by rw[c2];omega));simp only[nI]at HA;refine Z4 (i:=10) Kr rfl (fun K o=>?_);go_simp;refine HA.mono ?_;rintro e w5 ⟨rfl,a1⟩;have O:=hid (a1.kt.bat F Dc);refine o _ _ ⟨O.cell 0,O.cell 1⟩ (fun c=>?_);clear o K
     try simp only[Act.put,Zset]
     refine Zbl Kr Kr rfl Kr (fun K o=>?_);go_simp;refine o _ _ ?_;clear o K c;go_wp2;go_ret;rw[H];exact⟨rfl,hid (GP.step b3 a1)⟩
   · have H:Hid (Zb (.node px py a l r) g=Zgj (opNo a) (Zb l g).1 (Zb r (Zb l g).2).1 (Zb r (Zb l g).2).2):=hid (by
       rw[Zb,if_neg Om,if_neg Om,if_neg Om,if_neg Om,if_neg Om];unfold Zgj opNo;rcases B with h4|h6
       · have h6:¬a.jj=6:=by omega
         simp[h6]
       · simp[h6])
     have E:=d.2.2.2.2.2.2.2.2.2.2.1;have c3:=d.2.2.2.2.2.2.2.2.2.2.2;have d4:=hid (Zew l g E);have d5:=hid (Zew r (Zb l g).2 c3);have d6:=d.2.2.2.2.2.2.1 Om;have d7:=d.2.2.2.2.2.2.2.1 B
     have Y:opNo a<=4:=by
       unfold opNo;split
       · omega
       · have:=d.2.2.1 Om;omega
     have HX:=hid G;have HY:=hid hy;obtain⟨ty,u,J⟩:=Zh.shape G;subst J;obtain⟨ty2,u2,J⟩:=Zh.shape hy;subst J;generalize opNo a=oo at *
     clear d P Q G hy B;have R:=ZgB (.agg #[Vi oo,.iface ty u,.iface ty2 u2]);have V:=ZgA (.agg #[Vi oo,.iface ty u,.iface ty2 u2]);have h3:=ZgC (.agg #[Vi oo,.iface ty u,.iface ty2 u2]);go_enter func75,ntmps75
     go_upto_region 10 with fail
     refine ZP fun C j=>?_;have f:BW w C:=j▸belB;have z:Hid (BAt C.drew _ _ 116):=j▸(show BAt _ _ _ _ from bnw);have A:=hid (KT.below f.drew);have s:=hid (HG.below f.drew);clear j f R V h3;generalize w.heap.size=qb at *
     refine Zbn 12 (fun w'=>w'.cell? _=some _/\w'.cell? _=some _/\w'.cell? _=some _) Kr ⟨z.cell 0,z.cell 1,z.cell 2⟩ (fun c=>?_);generalize C.drew=w2 at *
     refine Za 0 c (h:=?_);refine Za 1 c (h:=?_);refine Za 2 c (h:=?_);refine Za 3 c (h:=?_);refine Za 4 c (h:=?_);refine Za 5 c (h:=?_);refine Za 7 c (h:=?_);refine Za 8 c (h:=?_);refine Za 9 c (h:=?_);refine Z4 (i:=6) Kr rfl (fun K o=>?_);go_simp;refine(IHL g _ _ s HX E Om Om Om Om).mono ?_;rintro e w3 ⟨rfl,k⟩;have a2:=hid (k.kt.bat z Dc);have c4:=hid k.gw;have c5:=hid (A.trans k.kt);clear k s A z;generalize Zb l g=p at *
     obtain⟨b5,a5⟩:=d4.out;have e4:=b5.n2;have e5:=b5.s1;have e6:=b5.r1;refine o _ _ ⟨a2.cell 0,a2.cell 1,a2.cell 2⟩ (fun c=>?_);clear o K
     try simp only[Act.put,Zset]
     refine Z4 (i:=10) Kr rfl (fun K o=>?_);go_simp;refine(IHR _ _ _ c4 HY c3 Om Om Om Om).mono ?_;rintro e w4 ⟨rfl,k⟩;have F:=hid (k.kt.bat a2 Dc);have b2:=hid k.gw;have b3:=hid (c5.trans k.kt);clear k c4 c5 a2;generalize Zb r p.2=q at *
     obtain⟨c6,b8⟩:=d5.out;have e7:=c6.n2;have e8:=c6.n1;have e9:=a5 d6;have b4:=b8 d7;refine o _ _ ⟨F.cell 0,F.cell 1,F.cell 2⟩ (fun c=>?_);clear o K
     try simp only[Act.put,Zset]
     refine Z4 (i:=11) Kr rfl (fun K o=>?_);go_simp;refine(Zvn b2 Y Om b4 Om).mono ?_;rintro e w5 ⟨rfl,a1⟩;have O:=hid (a1.kt.bat F Dc);refine o _ _ ⟨O.cell 0,O.cell 1,O.cell 2⟩ (fun c=>?_);clear o K
     try simp only[Act.put,Zset]
     refine Zbl Kr Kr rfl Kr (fun K o=>?_);go_simp;refine o _ _ ?_;clear o K c;go_wp2;go_ret;rw[H];exact⟨rfl,hid (GP.step b3 a1)⟩
end
end
section
section
variable {w0 w w' w1 w2:World} {X:GX} {nv uv sv rv:Value} {sl:List SelC} {rl:List RowC} {g g':Gq} {kN:Nat} {f:Nq->Option Int} {ss gs:List (LB)}
theorem Zg0{w:World}{e:TypeId}:w.ownsRow b e sz S0 0 []:=Ybc w b e _
theorem GW.new(w:World)(fl:Nat)(w':World)(m:w'=(((w.alloc (.map #[] 0)).alloc (.map #[] 0)).alloc (.map #[] 0)).alloc (.cells #[.bool (g0 fl).fold,.bool (g0 fl).share,S0,S0,.map (some w.heap.size),S0,S0,.map (some (w.heap.size+1)),.map (some (w.heap.size+2))] 176)):GW w w' ⟨w.heap.size,w.heap.size+3,w.heap.size,w.heap.size+1,w.heap.size+2⟩ (g0 fl):=by
 have k:∀ {a c:World} (o:Obj),c=a.alloc o->Below _ a c:=fun o e=>e▸Zbal;obtain⟨a1,l⟩:∃a1,a1=w.alloc (.map #[] 0):=⟨_,rfl⟩
 obtain⟨a2,d⟩:∃a2,a2=a1.alloc (.map #[] 0):=⟨_,rfl⟩
 obtain⟨a3,h⟩:∃a3,a3=a2.alloc (.map #[] 0):=⟨_,rfl⟩
 rw[<-l,<-d,<-h]at m;have s1:a1.heap.size=w.heap.size+1:=by rw[l];simp
 have s2:a2.heap.size=w.heap.size+2:=by rw[d];simp[s1]
 have s3:a3.heap.size=w.heap.size+3:=by rw[h];simp[s2]
 have m1:MapK _ 232 _ 0 nodV _:=l▸MapK.made w _ _;have m2:MapK _ 9 _ 0 Value.string _:=d▸s1▸MapK.made a1 _ _;have m3:MapK _ 9 _ 0 Value.string _:=h▸s2▸MapK.made a2 _ _;have k4:=KB.below 0 (k _ m);have k3:=KB.below 0 (k _ h);have k2:=KB.below 0 (k _ d);refine⟨.slice _ 0 0,.slice _ 0 0,.slice _ 0 0,.slice _ 0 0,[],[],⟨⟨fun _=>none,⟨?_,Zg0,Zg0,Zg0,Zg0,trivial,trivial,((m1.kb k2).kb k3).kb k4,(m2.kb k3).kb k4,m3.kb k4,⟨by simp,by simp,by simp⟩,⟨rfl,by simp,by simp,by simp,by simp⟩,?_⟩,fun _ x=>rfl⟩,rfl,fun i n=>absurd n (by simp[g0]),fun j=>by simp[g0]⟩⟩
 ·rw[m,<-s3];exact bnw
 ·have b1:=k _ l;have b2:=b1.trans ((k _ d).mono b1.size);have b3:=b2.trans ((k _ h).mono b2.size);exact b3.trans ((k _ m).mono b3.size)
theorem Zzj {w:World} {fl:Nat} (h : fl <= 7) : Cz 74 #[Vi fl] w fun e w' => e = .returned (Vp (w.heap.size + 3)) /\ Hid (GW w w' ⟨w.heap.size, w.heap.size + 3, w.heap.size, w.heap.size + 1, w.heap.size + 2⟩ (g0 fl)) := by
  have d:=@run_makeMap prog;have a:=hid (fun w' c=>GW.new w fl w' c);rcases(by omega:fl=0∨fl=1∨fl=2∨fl=3∨fl=4∨fl=5∨fl=6∨fl=7)with rfl|rfl|rfl|rfl|rfl|rfl|rfl|rfl
  all_goals
    go_enter func74,ntmps74;go_wp2;go_ret;exact⟨rfl,hid (a.out _ rfl)⟩
theorem MapZ.below{N:Nat}{q:Nat->Option Int}(h:MapZ w b N q)(a:BW w w'):MapZ w' b N q:=h.move (a.block _ h.lt)
theorem Co.new(h:GI w0 w X nv uv sv rv sl rl g)(n:BW w w1){lb:Nat}(q:0<g.jx.length)(u:g.jx.length<=400000)(t:w1.ownsRow w.heap.size 3 1 (.slice (some ⟨lb,0,none⟩) g.jx.length lc) g.jx.length (g.uses.map intC))(p:w'=((w1.alloc (.map #[] 0)).alloc (.map #[] 0)).alloc (.cells #[Vp X.gb,.slice (some ⟨lb,0,none⟩) g.jx.length lc,.map (some w1.heap.size),.map (some (w1.heap.size+1)),S0,S0] 171)) :
  ∃Y:CX,Y.cb=w1.heap.size+2/\Y.gb=X.gb/\Y.jx=g.jx/\Y.base=X.base/\Y.gc=graC X g nv uv sv rv/\Co w' Y S0 S0 (c0 g)/\BW w w':=by
 obtain⟨f,l,_⟩:=h.j;obtain⟨nb,nc,r⟩:=ZF l.nod q;subst r;have m:∀ {a c:World} (o:Obj),c=a.alloc o->Below _ a c:=fun o e=>e▸Zbal;obtain⟨a1,d⟩:∃a1,a1=w1.alloc (.map #[] 0):=⟨_,rfl⟩
 obtain⟨a2,i⟩:∃a2,a2=a1.alloc (.map #[] 0):=⟨_,rfl⟩
 rw[<-d,<-i]at p;have s1:a1.heap.size=w1.heap.size+1:=by rw[d];simp
 have s2:a2.heap.size=w1.heap.size+2:=by rw[i];simp[s1]
 have b1:=m _ d;have b2:=m _ i;have b3:=m _ p;have b13:=(b1.trans (b2.mono b1.size)).trans (b3.mono (Yah b1.size b2.size));have bw:=n.trans (b13.mono n.size);have m1:MapZ _ _ _ _:=d▸MapZ.made w1 16;have m2:MapZ _ _ g.jx.length _:=i▸s1▸MapZ.made a1 _;have s:X.base<=w.heap.size:=by have:=l.bel.size;have:=l.bas.1;omega
 have v:=n.size;refine⟨⟨X.base,w1.heap.size+2,X.gb,lb,w1.heap.size,w1.heap.size+1,nb,lc,nc,graC X g _ _ _ _,g.jx⟩,rfl,rfl,rfl,rfl,rfl,⟨?_,l.box.below bw,rfl,Zn l.nod bw,(Zn t b13).mono s,?_,by simp[c0],⟨fun _=>none,m2.below b3⟩,Zg0,Zg0,by simp[Value.ownBlock],by simp,⟨by show X.base<=w1.heap.size+2;omega,by show X.base<=w1.heap.size;omega,by show X.base<=w1.heap.size+1;omega⟩,?_,by show g.jx.length<=1000000;omega,h.nok,fun j=>?_⟩,bw⟩
 ·rw[p,<-s2];exact bnw
 ·exact ((m1.below b2).below b3).congr (fun k _ => by
    show(List.replicate 16 (none:Option Int)).getD k none=none;rw[Yaa,Ybs];split <;> rfl)
 ·have:=b13.size;show X.base<=_;omega
 ·have:=h.ubd j;show g.uses.getD j 0<=_;omega
theorem Zzi(h:GI w0 w X nv uv sv rv sl rl g)(d:0<g.jx.length)(n:g.jx.length<=400000) :
  Cz 76 #[Vp X.gb] w fun e w'=>∃cb,e=.returned (Vp cb)/\Hid (∃Y:CX,Y.cb=cb/\Y.gb=X.gb/\Y.jx=g.jx/\Y.base=X.base/\Y.gc=graC X g nv uv sv rv/\Co w' Y S0 S0 (c0 g)/\BW w w'):=by
 obtain⟨f,m,v⟩:=h.j;have x:=hid h;have a:=m.use;rw[h.ulen]at a;obtain⟨ub,uc,r⟩:=ZF a d;subst r;obtain⟨L,c⟩:∃L,L=g.jx.length:=⟨_,rfl⟩
 have b3:w.cell? _=some (.slice _ L _):=c▸m.box.cell 3;have s:=m.box.lt
 have o := hid (slices_Clone_int _ 0 L uc (g.uses.map Int.ofNat) w (by rw [Yak, h.ulen, c]; exact Yac _) Om (fun j i => by
   rw[Ycf];rw[Yak]at i;refine Zi a j ?_;rw[Ya2,List.getElem?_eq_getElem i];simp[intC,Yaa,i]))
 have t:Hid (((g.uses.map Int.ofNat).take L).map (Value.int .i64)=g.uses.map intC):=by
  rw[Ya5 (by rw[Yak,h.ulen,c];exact Yac _),Yb1];rfl
 have k:=hid c;have z:=@run_makeMap prog;rw[<-c]at d n;clear h m v a c;go_enter func76,ntmps76
 go_wp2_with fail
 refine o.mono ?_;rintro e w1 ⟨v1,rfl,p,_,q⟩;obtain⟨lb,lc,u⟩:=ZF p d;subst u;have l:=hid (fun w' y=>Co.new (w':=w') x q (by rwa [<-k.out]) (k.out▸n) (by rwa [<-k.out,<-t.out]) y);rw[<-k]at l;clear p q o b3 s;go_wp2;go_ret;refine⟨_,rfl,hid ?_⟩;rw[<-k];exact l _ rfl
end
