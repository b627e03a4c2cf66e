/- Parts. -/
import Derived.Test.YtcdgkkfipdoeeaaGreatDoorU35
import Derived.Test.YtcdgkkfipdoeeaaGreatDoorU28
set_option linter.all false
set_option maxRecDepth 100000
set_option maxHeartbeats 16000000
namespace Go.Proofs.YtcdgkkfipdoeeaaGreatDoor
open Go.RowKit LS Go.Proofs.Tryz
variable {c co:CodeQ}{t:Int}{ss:List Srs}{vs xs:List Value}{m:MQ}{gb gx mb sc sn x:Nat}{A:Nat->Addr}{r:Nat×Nat}{sa:Option Addr}{err v:Value}{w w' w0:World}
theorem ZAo{E:World}{i op arg:Nat}{c0 c1 c2 c3 al:Value}{st tl st' tl':List Nat}(h:PInv w0 E w mb x gb gx c0 c1 c2 c3 al t (ss.map Srs.ser) m sa sn sc vs)(A:PCode w0 c ss c0 c1 c2 c3 al)(F:CodeB c)(G : -1000000<=t)(H:t<=1000000)(N:op<=13)(T:op≠9)(O:op≠10)(q:Zy c i (op,arg)=true)(p:Typd (ss.map Srs.ser).length st tl m)(P:st.length<=64)(f:Zt c (op,arg) st tl=some (st',tl')) :
  Zcu w0 E w mb x gb gx op arg c0 c1 c2 c3 al t (ss.map Srs.ser) (doE (ss.map Srs.ser) t c (op,arg) m):=by
 have I:m.jz.length=st.length:=by rw[<-p.jz,Yak]
 have D:(ss.map Srs.ser).length<=30:=by rw[Yak];exact A.sto.len
 have J:(ss.map Srs.ser).length<=1000:=by omega
 rcases(by omega:op=0∨op=1∨op=2∨op=3∨op=4∨op=11∨op=12∨op=13∨(op=5∨op=6∨op=7∨op=8))with rfl|rfl|rfl|rfl|rfl|rfl|rfl|rfl|C
 ·have j:arg<c.jj.length:=by simpa [Zy] using q
  exact ZAq h A j (F.cs _ (ZpA j)) (by have:=ZmX (f);omega)
 ·have j:arg<c.ju.length:=by simpa [Zy] using q
  have K:=F.ps _ (ZpA (d:=nd00) j);exact ZAw h A rfl j K.1 (by have:=ZmX (f);omega) G H
 ·have j:arg<=4:=by
   have:arg<5:=by simpa [Zy] using q
   omega
  cases st with
  | nil=>cases f
  | cons k r=>
   simp only[Zt]at f;split at f
   ·rename_i s;subst s;obtain⟨y,rs,g,l,o,u⟩:=p.pop;obtain⟨a,n,rfl⟩:=Zqj l;have e:doE (ss.map Srs.ser) t c (2,arg) m=⟨.inl (.inr (Zc4 (ss.map Srs.ser) a (some arg) n t))::rs,m.jy⟩:=by simp only[doE,g]
    rw[e];exact ZAv h A.dst D j g Om
   simp_all
 ·have j:arg<=3:=by
   have:arg<4:=by simpa [Zy] using q
   omega
  cases st with
  | nil=>cases f
  | cons ky r=>
   cases r with
   | nil=>cases f
   | cons kz r=>
    simp only[Zt]at f;split at f
    ·rename_i s;rw[Yas]at s;obtain⟨y,rs,g,l,o,u⟩:=p.pop;obtain⟨z,qs,B,L,Q,R⟩:=u.pop;have B:rs=z::qs:=B;subst B;obtain⟨vy,rfl⟩:=Zgl (l▸s.2);obtain⟨vz,rfl⟩:=Zgl (L▸s.1);have e:doE (ss.map Srs.ser) t c (3,arg) m=⟨.inl (Zdg arg vz vy)::qs,m.jy⟩:=by simp only[doE,g];rfl
     rw[e];exact ZAp h j g Om (VOk.more J o)
    simp_all
 ·cases st with
  | nil=>cases f
  | cons ky r=>
   simp only[Zt]at f;split at f
   ·rename_i s;obtain⟨y,rs,g,l,o,u⟩:=p.pop;obtain⟨vy,rfl⟩:=Zgl (by rwa [l]);have e:doE (ss.map Srs.ser) t c (4,arg) m=⟨.inl (negV vy)::rs,m.jy⟩:=by simp only[doE,g];rfl
    rw[e];exact ZAu h g Om
   simp_all
 ·cases st with
  | nil=>cases f
  | cons k r=>
   obtain⟨y,rs,g,l,o,u⟩:=p.pop;have e:doE (ss.map Srs.ser) t c (11,arg) m=⟨rs,m.jy⟩:=by simp only[doE,g];rfl
   rw[e];exact ZAr h g Om
 ·cases st with
  | nil=>cases f
  | cons k r=>
   have j:arg<16:=by simpa [Zy] using q
   obtain⟨y,rs,g,l,o,u⟩:=p.pop;have e:doE (ss.map Srs.ser) t c (12,arg) m=⟨rs,m.jy.set arg (some y)⟩:=by simp only[doE,g]
   rw[e];exact ZAx h j p.len g Om
 ·have j:arg<16:=by simpa [Zy] using q
  simp only[Zt]at f;split at f
  ·cases f
  ·rename_i M;obtain⟨y,l,s⟩:=p.jy _ M;have e:doE (ss.map Srs.ser) t c (13,arg) m=⟨y::m.jz,m.jy⟩:=by simp only[doE,l]
   rw[e];exact ZAt h j l (by have:=ZmX f;omega)
 ·have key:∃r,st=2::r:=by
   cases st with
   | nil=>rcases C with rfl|rfl|rfl|rfl <;> cases f
   | cons k r=>
    have S:(if k=2 then ZE 2 r tl else none)=some (st',tl'):=by rcases C with rfl|rfl|rfl|rfl <;> exact f
    simp_all
  obtain⟨r,rfl⟩:=key;obtain⟨y,rs,g,l,o,u⟩:=p.pop;obtain⟨v,rfl⟩:=Zet l;have j:arg<c.jw.length:=by rcases C with rfl|rfl|rfl|rfl <;> simpa [Zy] using q
  have e:doE (ss.map Srs.ser) t c (op,arg) m=⟨.inl (.inr (Zcv (op - 5) (c.jw.getD arg []) v))::rs,m.jy⟩:=by
   rcases C with rfl|rfl|rfl|rfl <;> (simp only[doE,g];rfl)
  rw[e];exact ZAs h Om Om A j g Om
def RunC(A:Nat->Addr)(o:Option (List (LB)×Nat))(r:BA)(err:Value):Prop:=match o with
 | none=>r=⟨#[]⟩/\err=.iface 432 (.pointer (some (A 12)))
 | some z=>bl r=Zcn z.1/\err=.nilIface
theorem Zy4(j:Nat)(y:Cl)(c:mq0.jy.getD j none=some y):False:=by
 have d:(List.replicate 16 (none:Option Cl)).getD j none=none:=by rw[Yaa,Ybs];split <;> rfl
 have a:=c;unfold mq0 at a;rw[d]at a;cases a
structure PIdle (w0 w:World) (mb x gb gx:Nat) (c0 c1 c2 c3 al:Value) (t:Int) (sa:Option Addr) (sn sc:Nat) (vs:List Value):Prop where
 st:PSt w w0.heap.size mb c0 c1 c2 c3 al t (.map (some x)) (Vp gb) sa sn sc vs
 mp:∃gs es cl,MapI w x gs es cl
 gr:BAt w gb [.map (some gx)] 281
 gm:MapX w gx
 bel:BW w0 w
 lm:w0.heap.size<=mb
 lx:w0.heap.size<=x
 lg:w0.heap.size<=gx
 ne:x≠gx
theorem PInv.idle{a:World}{c0 c1 c2 c3 al:Value}{ser:List Ser}(h:PInv w0 a w mb x gb gx c0 c1 c2 c3 al t ser m sa sn sc vs):PIdle w0 w mb x gb gx c0 c1 c2 c3 al t sa sn sc vs.reverse:=by
 obtain⟨gs,es,cl,c,_⟩:=h.slo;exact⟨h.st,⟨gs,es,cl,c⟩,h.gr,h.gm,h.bel,h.lm,h.lx,h.lg,h.ne⟩
theorem PIdle.below{c0 c1 c2 c3 al:Value}(h:PIdle w0 w mb x gb gx c0 c1 c2 c3 al t sa sn sc vs)(a:BW w w'):PIdle w0 w' mb x gb gx c0 c1 c2 c3 al t sa sn sc vs:=by
 obtain⟨gs,es,cl,c⟩:=h.mp;exact⟨h.st.below a,⟨gs,es,cl,c.moved (a.block x (Yae.1 c.heap).1)⟩,h.gr.below a,h.gm.below a,h.bel.trans (a.mono h.bel.size),h.lm,h.lx,h.lg,h.ne⟩
theorem PIdle.grown{c0 c1 c2 c3 al:Value}(h:PIdle w0 w mb x gb gx c0 c1 c2 c3 al t sa sn sc vs){n:Nat}(a:w.ownsRow w0.heap.size 9 1 v n xs)(c:w.grownBy w' v.ownBlock):PIdle w0 w' mb x gb gx c0 c1 c2 c3 al t sa sn sc vs:=by
 obtain⟨gs,es,cl,d⟩:=h.mp;obtain⟨es2,cl2,e⟩:=h.gm;exact⟨⟨h.st.box.ownGrownR a c Dc,ZmB h.st.own a c Dc,h.st.len⟩,⟨gs,es,cl,d.moved (c.block x (Yae.1 d.heap).1 (Zmh d.heap a))⟩,h.gr.ownGrownR a c Dc,⟨es2,cl2,(c.block _ (Yae.1 e).1 (Zmh e a)).trans e⟩,h.bel.grown c h.bel.size (fun q f=>(a.lt q f).1),h.lm,h.lx,h.lg,h.ne⟩
theorem PIdle.begun{c0 c1 c2 c3 al:Value}{t2:Int}{cl:Nat}(h:PIdle w0 w mb x gb gx c0 c1 c2 c3 al t sa sn sc vs)(ser:List Ser)(i:PSt w' w0.heap.size mb c0 c1 c2 c3 al t2 (.map (some x)) (Vp gb) sa 0 sc [])(l:MapI w' x [] #[] cl)(f:w'.os=w.os/\w'.tape=w.tape/\w'.output=w.output/\w.heap.size<=w'.heap.size/\∀k,k≠mb->k≠x->w'.heap[k]?=w.heap[k]?):PInv w0 w w' mb x gb gx c0 c1 c2 c3 al t2 ser mq0 sa 0 sc []:=by
 obtain⟨k1,k2,k3,k4,k5⟩:=f;obtain⟨es,cg,g⟩:=h.gm;obtain⟨_,es0,cl0,m⟩:=h.mp
 have a : ZbL w _ := fun b c T fr n _ d => (k5 b (fun e => by
   rw[e]at d;have:=d.symm.trans h.st.box;injection this with this;injection this with _ this _;exact n this) (fun e=>ZjJ m.heap d e.symm)).trans d
 exact⟨i,⟨[],#[],cl,l,fun j y a=>(Zy4 j y a).elim⟩,a _ _ _ _ Dc Dc h.gr,⟨es,cg,(k5 _ (ZjJ g h.st.box) (fun e=>h.ne e.symm)).trans g⟩,trivial,⟨k1.trans h.bel.os,k2.trans h.bel.tape,k3.trans h.bel.output,Yah h.bel.size k4,fun k f=>(k5 k (by have:=h.lm;omega) (by have:=h.lx;omega)).trans (h.bel.block k f)⟩,h.lm,h.lx,h.lg,h.ne,a⟩
theorem ZAW(L:List Ah){ts:List Int}{fuel:Int}{c0 c1 c2 c3 al tv:Value}(A:Nat->Addr)(mx:Int)(Z:Vars w A mx)(hc:PCode w co ss c0 c1 c2 c3 al)(g2:CodeB co)(g3:Flow co L)(l5:co.jq.length<=65535)(b7:∀x∈co.jq,x.1<=13/\x.2<65536)(o8:ts.length<=50)(g4:∀t∈ts,-1000000<=t/\t<=1000000)(a2:w.ownsRow 0 3 1 tv ts.length (ts.map (Value.int .i64)))(hp:ZR w)(hB:20<=w.heap.size) :
  CP 43 #[.agg #[c0,c1,c2,c3],al,tv,Vi fuel] w fun e w'=>∃r err,e=.returned (.tuple #[.string r,err])/\Hid (RunC A (if fuel<0∨1000000<fuel then none else ZbO (ss.map Srs.ser) co fuel.toNat ts) r err)/\BW w w':=by
 obtain⟨i0,hi,g5,g6,g7⟩:=info_parts Tryz.infoStrG;obtain⟨ta,tcp,rfl⟩:=Zl a2;obtain⟨aa,acp,rfl⟩:=Zl hc.sto.row;obtain⟨ia,ic,rfl⟩:=Zl hc.cod.is;have HV:=hid Z;have HC:=hid hc;have l6:=hid g2;have G:=hid g3;have k7:=hid b7;have l7:=hid g4;have b8:=hid a2;have HP:=hid hp;have g8:=hid hB;have g12:w.cell? ⟨12,0,none⟩=some _:=Z.sent _ Dc;have b9:=Yai _ _ g12;simp only at b9;have k8:¬w.heap.size=12:=by omega
 have f9:¬12=w.heap.size:=by omega
 clear Z hc g2 g3 b7 g4 a2 hp hB;generalize ho:(if fuel<0∨1000000<fuel then none else ZbO (ss.map Srs.ser) co fuel.toNat ts)=o;have M:=hid ho;clear ho;go_enter func43,ntmps43;go_wp2
 go_step3
 by_cases a5:fuel<0∨1000000<fuel
 ·have g9:Hid (o=none):=hid (by rw[<-M,if_pos a5]);clear M;rcases a5 with hf|hf
  ·go_wp2
   go_region
   all_goals (try go_wp2)
   all_goals ((try rw[Ycl]);go_ret2;exact⟨_,_,rfl,hid (g9.out▸⟨rfl,rfl⟩),belB⟩)
  ·have l8:¬fuel<0:=by omega
   go_wp2
   go_region
   all_goals (try go_wp2)
   all_goals ((try rw[Ycl]);go_ret2;exact⟨_,_,rfl,hid (g9.out▸⟨rfl,rfl⟩),belB⟩)
 ·rw[if_neg a5]at M;obtain⟨fu,rfl⟩:∃fu:Nat,fuel=fu:=⟨fuel.toNat,by omega⟩
  have k9:fu<=1000000:=by omega
  have l8:¬(fu:Int)<0:=by omega
  have i1:¬(1000000:Int)<(fu):=by omega
  have o9:¬1000000<fu:=by omega
  clear a5;rw[Int.toNat_natCast]at M
  go_wp2_with fail
  refine Zm fun W hW=>?_;have i2:Below _ w W:=hW▸Zbal;have c6:Hid (BAt W _ _ 59):=hW▸(show BAt _ _ _ _ from bnw);have B:=hid i2;clear hW i2;refine(ZAM W W.heap.size).mono ?_;rintro e w1 ⟨mb,rfl,K⟩;have l9:=hid (c6.below K.below);obtain⟨x,gb,gx,i3,T,i4,i5,lx,lgb,lgx,c7⟩:=K.ex;have c8:Hid (PIdle W _ _ x _ _ _ _ _ _ _ 0 _ 0 0 _):=hid ⟨i3,⟨_,_,_,T⟩,i4,i5,K.below,K.old,lx,lgx,c7⟩;clear i3 T i4 i5 lx lgb lgx c7 K;have c9:=hid (HC.below B);have S:=hid (Zn b8 B);have m0:=hid (HV.below B);have m1:=hid (HP.low B g8);have i6:=hid (Yah g8 B.size);have d0:=hid c6.out;clear HC b8 HV HP c6 l9 g12 b9 k8 f9;have i7:=c8.bel.size
  go_wp2_with (at_make;refine wpList_make_own _ rfl _ _ 122 rfl W.heap.size 9 i0 _ 1 underlying122 hi g5 g6 _ _ _ ts.length rfl rfl rfl ?b2 ?b3 ?b4 ?_)
  case b2=>rw[g7];omega
  case b3=>unfold maxLen;omega
  case b4=>exact i7
  intro w2 a6 j;have i8:Below _ _ _:=⟨j.os,j.tape,j.output,j.size,fun k hk=>j.block k hk (by simp)⟩
  have d2:=hid (c8.below i8);have i9:=hid a6;clear i8 j a6 c8 i7;obtain⟨n,hn⟩:∃n,n=co.jq.length:=⟨_,rfl⟩
  have K:=hid hn;rw[<-hn]at l5;rw[<-hn]at d2 d0 ⊢;have m2:Hid (W.ownsRow 0 159 2 (.slice ia n ic) n (ZdL co.jq)):=hid (by rw[hn];exact c9.cod.is);have a7:Hid (PCode W co ss c0 c1 c2 (.slice ia n ic) (.slice aa ss.length acp)):=hid (by rw[hn];exact c9.out);clear hn c9;generalize w.heap.size=xb at d0 ⊢;go_wp2
  go_step3
  go_wp2
  go_loopw [3,11,31] (fun fv lv kv wr=>∃(k fk:Nat) (rs:List BA) (t:Int) (sa:Option Addr) (sn sc:Nat) (vs:List Value),k<=ts.length/\kv=Vi k/\fv=Vi fk/\fk<=1000000/\rs.length=k/\Hid (wr.ownsRow W.heap.size 9 1 lv rs.length (Zbc rs))/\Hid (ZbO (ss.map Srs.ser) co fu (ts.take k)=some (rs.map bl,fk))/\Hid (∀r∈rs,r.size<=40000000000)/\Hid (PIdle W wr mb x gb gx c0 c1 c2 (.slice ia n ic) (.slice aa ss.length acp) t sa sn sc vs)) (fun _ _ kv _=>ts.length - (intOf kv).toNat)
  case atStart=>exact⟨0,fu,[],0,_,_,_,_,Yag _,rfl,rfl,k9,rfl,i9,hid rfl,hid (fun r hr=>by cases hr),d2⟩
  case round=>
   clear d2 i9;obtain⟨k,fk,rs,t,sa,sn,sc,vs,hk,rfl,rfl,m3,j0,HO,d3,HZ,HD⟩:=hrel;have N:=hid j0;clear j0;by_cases d4:k<ts.length
   ·obtain⟨tg,tcp',m4⟩:=ZF S.out Om;injection m4 with htg1 _ htg2;subst htg1 htg2;have d1:=Zi (Zn S HD.bel) k _ (by rw[Ya2,List.getElem?_eq_getElem d4];rfl);have d5:=hid (l7 _ (List.getElem_mem d4))
    have U:Hid (ZbO (ss.map Srs.ser) co fu (ts.take (k+1))=match runE (ss.map Srs.ser) ts[k] co fk 0 mq0 with
     | none=>none
     | some z=>some (rs.map bl++[Zel ts[k] (topE z.2)],z.1)):=by rw[List.take_succ_eq_append_getElem d4,Znq,d3];rfl
    generalize ts[k]=tm at *
    have p0:(k:Int)<(ts.length):=by omega
    have m5:=Z1 (Zn S HD.bel);go_wp2
    go_step3
    go_wp2_with fail
    obtain⟨gs,es,cl,T⟩:=HD.mp;refine(ZAn x t HD.st T).mono ?_;rintro e w4 ⟨rfl,j1,j2,j3⟩;have d6:=hid (HD.begun (ss.map Srs.ser) j1 j2 j3);have m6:=hid (d6.ky.own HO Dc Dc);have j4:=hid d6.re;clear j1 j2 j3 d6 T HD HO d1 m5 d3;go_wp2
    go_step3
    go_wp2;obtain⟨L3,d7⟩:∃L3,L3=u11:=⟨_,rfl⟩
    go_loopw [3,11,14] (fun fv lv iv wq=>∃(i f1:Nat) (m:MQ) (sa1:Option Addr) (sn1 sc1:Nat) (vs1:List Value),lv=L3/\i<=n/\iv=Vi i/\fv=Vi f1/\f1<=1000000/\Hid (runE (ss.map Srs.ser) tm co fk 0 mq0=runE (ss.map Srs.ser) tm co f1 i m)/\Hid ((L.getD i ah0).qy=true/\Typd (ss.map Srs.ser).length (L.getD i ah0).jz (L.getD i ah0).jy m/\m.jz.length<=64)/\Hid (PInv W wq wq mb x gb gx c0 c1 c2 (.slice ia n ic) (.slice aa ss.length acp) tm (ss.map Srs.ser) m sa1 sn1 sc1 vs1)/\Hid (wq.ownsRow W.heap.size 9 1 L3 rs.length (Zbc rs))) (fun _ _ iv _=>n - (intOf iv).toNat)
    case atStart=>exact⟨0,fk,mq0,sa,0,sc,[],d7.symm,Yag _,rfl,rfl,m3,hid rfl,hid ⟨(G.start (ss.map Srs.ser).length).1,(G.start _).2,Yag _⟩,j4,by rwa [d7]⟩
    case round=>
     clear j4 m6;obtain⟨i,f1,m,sa1,sn1,sc1,vs1,e3,p1,rfl,rfl,i1,O,c,d,l⟩:=hrel;subst e3;subst d7;obtain⟨la,lc,rfl⟩:=Zl l;have P:=hid (B.trans (d.bel.mono B.size));have d8:=hid (d0.below d.bel);have b3:=d8.cell;have j5:=d8.lt;have s:=hid (Zn m2 d.bel);clear d8;by_cases p2:i<n
     ·have C:i<co.jq.length:=by rwa [<-K.out]
      cases f1 with
      | zero=>
       have HX:=hid (ZDe (by rw[U,O,ZBC C]));have g12:wr.cell? ⟨12,0,none⟩=some _:=(m0.below d.bel).sent _ Dc;have l0:¬((i:Int)=(n)):=by omega
       have m7:(rs.length:Int)<(ts.length):=by have:=N.out;omega
       clear O c d s l U;go_wp2;rw[Exit.noGoto_exit];go_wp2
       go_region
       all_goals (try go_wp2)
       all_goals ((try rw[Ycl]);go_ret2;exact⟨_,_,rfl,hid (M.out▸HX.out▸⟨rfl,rfl⟩),P.drew⟩)
      | succ f2=>
       have c7:¬(((f2+1:Nat):Int)=0):=by omega
       have o6:¬(((f2:Int)+1)=0):=by omega
       have l0:¬((i:Int)=(n)):=by omega
       have p3:(i:Int)<(n):=by omega
       obtain⟨op,arg,a8⟩:∃op arg,co.jq[i]?=some (op,arg):=⟨_,_,List.getElem?_eq_getElem C⟩
       have a9:co.jq.getD i (0,0)=(op,arg):=by rw[Yaa,a8];rfl
       have j6:co.jq[i]=(op,arg):=(Ycm.1 a8).2;have d9:=(k7.out (op,arg) (Ycq a8)).1;obtain⟨_,st1,sl1,a3,_,_⟩:=G.step i C c.1;have f:=G.next a7.dst tm C (a9▸d9) c.1 c.2.1;have a4:=G.len a7.dst tm C (a9▸d9) c.1 c.2.1 c.2.2;have e0:=G.fwd i C;have e1:=Zj4 (ss.map Srs.ser) tm f2 i m C;rw[a9]at a3 f a4 e0 e1;have m8:(L.getD i ah0).jz.length<=64:=by rw[<-c.2.1.jz,Yak];exact c.2.2
       obtain⟨gi,ic',m9⟩:=ZF s.out Om;injection m9 with hgi1 _ hgi2;subst hgi1 hgi2;have q0:=Zi s _ _ (Zfm _ i C).1;have q1:=Zi s _ _ (Zfm _ i C).2;rw[j6]at q0 q1;simp only at q0 q1;have l1:=Z1 s;have p:Hid (runE _ _ _ _ 0 _=runE _ _ _ f2 _ _):=hid (by rw[O,e1]);have g:=hid (And.intro f.2.2.1 (And.intro f.2.2.2 a4));have V:=f.1;have E:Zbj i _ m<=n:=K.out▸f.2.1;have D:=hid a3;have X:=hid e0;clear a3 f a4 e0 e1 a9 a8 O j6 s P U
       go_upto_region 15 with fail
       refine ZP fun W5 e2=>?_;have Q:Below _ _ _:=e2▸Zbal;have R:Hid (BAt _ _ _ 159):=e2▸(show BAt _ _ _ _ from bnw);have F:=hid (d.below Q);have b0:=hid (Zn l Q);clear e2 Q b3 j5 q0 q1 l1;generalize wr.heap.size=ab at *
       have a0:=R.cell 0;have a1:=R.cell 1;simp only[Zget]at a0 a1;have e4:=R.lt;by_cases h9:op=9
       ·subst h9;have H:Hid (runE _ _ _ _ 0 _=runE _ _ _ _ arg m):=p;have I:Hid ((L.getD arg _).qy=true/\Typd _ (L.getD arg _).jz (L.getD arg _).jy m/\m.jz.length<=64):=g;have p4:i<arg:=V;have n0:arg<=n:=E;have q:=hid F.re;clear p g V E d l F D X c;go_wp2
        go_roundw
        case rel=>exact⟨arg,f2,m,sa1,sn1,sc1,vs1,rfl,n0,rfl,by go_num,by omega,H,I,q,b0⟩
        case measure=>simp[intOf];omega
       ·have p5:¬((op:Int)=9):=by omega
        by_cases e5:op=10
        ·subst e5
         have n2:∃v ys,m.jz=.inl (.inr v)::ys:=by
          have hs:=D.out;have hT:=c.2.1;generalize(L.getD i ah0).jz=st at hs hT;cases st with
          | nil=>cases hs
          | cons kk r=>
           simp only[Zt]at hs;split at hs
           ·rename_i n3;subst n3;obtain⟨y,rs',hm,hy,_,_⟩:=hT.pop;obtain⟨v,rfl⟩:=Zet hy;exact⟨v,rs',hm⟩
           ·cases hs
         obtain⟨v,ys,hm⟩:=n2;obtain⟨v1,vs',n1,rfl,rfl,n4,e6⟩:=F.top hm;have l2:n1<=64:=by have:=c.2.2;rw[hm,Yaj]at this;omega
         obtain⟨s1,is1,rfl,e7⟩:=n4;obtain⟨va,vc,rfl⟩:=Zl e7.row;have n5:=e7.len';clear e7
         go_wp2_with fail
         refine(ZAz (by have:=F.st;rwa [Ybz]at this) l2).mono ?_;rintro e w6 ⟨rfl,b1⟩;have q:=hid (F.below b1).re;have b5:=hid (Zn b0 b1);have j7:=hid (R.below b1);clear b1 F b0 R a0 a1 e4;have a1:=j7.cell;have e4:=j7.lt;have b6:ZiG m=!v.isEmpty:=by unfold ZiG;rw[hm];rfl
         by_cases h0:is1.length=0
         ·have e8:v=[]:=Ya3 Om;have f:Zbj i (10,arg) m=i+1:=by unfold Zbj;simp only;rw[if_neg Dc,if_neg (by rw[b6,e8];simp)]
          rw[f]at p g E;have H:Hid (runE _ _ _ _ 0 _=runE _ _ _ _ _ m):=p;have I:Hid ((L.getD _ _).qy=true/\Typd _ _ _ m/\m.jz.length<=64):=g;rw[decide_eq_false Om];clear p g V d l D X c hm f b6;go_wp2
          go_roundw
          case rel=>exact⟨i+1,f2,m,_,_,_,_,rfl,E,by go_num,by go_num,by omega,H,I,q,b5⟩
          case measure=>simp[intOf];omega
         ·have e8:v.isEmpty=false:=by
           cases v with
           | nil=>exact absurd n5.symm h0
           | cons a b=>rfl
          have f:Zbj i (10,arg) m=arg:=by unfold Zbj;simp only;rw[if_neg Dc,if_pos ⟨trivial,by rw[b6,e8];rfl⟩]
          rw[f]at p g E V;have H:Hid (runE _ _ _ _ 0 _=runE _ _ _ _ _ m):=p;have I:Hid ((L.getD _ _).qy=true/\Typd _ _ _ m/\m.jz.length<=64):=g;rw[decide_eq_true Om];clear p g d l D X c hm f b6;go_wp2
          go_roundw
          case rel=>exact⟨arg,f2,m,_,_,_,_,rfl,E,rfl,by go_num,by omega,H,I,q,b5⟩
          case measure=>simp[intOf];omega
        ·have o7:¬((op:Int)=10):=by omega
         have f:Zbj i (op,arg) m=i+1:=by unfold Zbj;simp only;rw[if_neg h9,if_neg (fun hh=>e5 hh.1)]
         have j8:=hid (ZAo F a7 l6 d5.1 d5.2 d9 h9 e5 X c.2.1 m8 D);rw[f]at p g E;clear V d D X c F b0
         go_wp2_with fail
         refine j8.mono ?_;rintro e w6 ⟨rfl,J⟩;obtain⟨sa6,sn6,sc6,vs6,e9⟩:=J.out;have b5:=hid (e9.ky.own l Dc Dc);have q:=hid e9.re;clear e9 J j8 l R a0 a1 e4;go_wp2
         go_roundw
         case rel=>exact⟨i+1,f2,_,sa6,sn6,sc6,vs6,rfl,E,by go_num,by go_num,by omega,p,g,q,b5⟩
         case measure=>simp[intOf];omega
     ·obtain rfl:i=n:=by omega
      have j9:co.jq.length<=i:=K.out▸Yac _;obtain⟨v,Z,k0⟩:=G.end_ (n:=(ss.map Srs.ser).length) (m:=m) (by have:=c.2.1;rw[K.out]at this;exact this);have f0:=VOk.more (by rw[Yak];exact a7.sto.len) k0;have f3:topE m=v:=by unfold topE;rw[Z];rfl
      have k1:Hid (ZbO _ _ _ _=some (rs.map _++[Zel _ v],f1)):=hid (by rw[U,O,Zg5 j9,<-f3]);have k2:=hid f0;obtain⟨mst,msl⟩:=m;simp only at Z;subst Z;obtain⟨v1,vs',n1,rfl,rfl,_,e6⟩:=d.top rfl;have n6:n1<=64:=e6▸Yag _;clear c O j9 k0 f0 f3 U s e6 P
      go_wp2_with fail
      refine(Zfz _ _ _ _ (by have:=d.st;rwa [Ybz]at this) n6).mono ?_;rintro e w6 ⟨rfl,q,f4⟩;have f5:=hid (d.qk q f4).1;have k3:Hid (ValP _ _ v):=hid (d.qk q f4).2;have k4:=hid (f5.ky.own l Dc Dc);have J:=hid f5.idle;clear q f4 d l f5 b3 j5
      go_wp2_with fail
      refine(ZqI (by have:=d5.out;unfold vOk;omega) v k3 k2 (m1.low J.bel i6) (Yah i6 J.bel.size)).mono ?_;rintro e w7 ⟨r7,rfl,k5,k6,f6⟩;have f7:=hid (Zn k4 f6);have f8:=hid (J.below f6);have n7:=hid k6;have n8:=f8.bel.size;clear f6 k6 k4 J k3 k2
      go_wp2_with (at_builtin;refine wpList_append_own _ rfl (.tmp 43) (.tmp 48) 122 rfl W.heap.size 9 i0 (.string ByteArray.empty) 1 16 underlying122 hi g5 g6 g7 rfl Dc _ _ _ rfl (f7.alloc _) ⟨w7.heap.size,0,none⟩ 1 1 [.string r7] rfl rfl ?c1 ?c2 ?c3 ?c4 ?c5 ?_)
      case c1=>exact ZcY rfl
      case c2=>intro u hu;simp at hu;subst hu;rfl
      case c3=>have:=N.out;unfold maxLen;omega
      case c4=>have:=N.out;omega
      case c5=>simp;omega
      intro v8 w8 g1 Y _;have n9:Hid (w8.ownsRow W.heap.size 9 1 v8 (rs++[r7]).length (Zbc (rs++[r7]))):=by rwa [Zh2,Yab]
      have o0:=hid ((f8.below Zbal).grown (f7.alloc _) Y);have o1:Hid (ZbO _ _ _ _=some ((rs++[r7]).map bl,f1)):=hid (by rw[k1,Yaq,Yco,k5])
      have o2 : Hid (∀ r ∈ rs ++ [r7], r.size <= 40000000000) := hid (fun r hr => by
        rcases Yar.1 hr with h|h
        · exact HZ r h
        · rw[Yap]at h;subst h;exact n7)
      clear Y g1 k1 k5 f8 f7 n8;go_wp2;rw[Exit.noGoto_exit];go_wp2
      go_roundw
      case rel=>exact⟨k+1,f1,rs++[r7],tm,_,_,_,_,by omega,by go_num,rfl,i1,by have:=N.out;simp;omega,n9,o1,o2,o0⟩
      case measure=>simp[intOf];omega
   ·obtain rfl:k=ts.length:=by omega
    have l3:Hid (ZbO (ss.map Srs.ser) co fu ts=some (rs.map bl,fk)):=by have:=d3.out;rwa [Ya4]at this
    obtain⟨la,lc,o3⟩:=Zl HO;subst o3;have m7:¬((rs.length:Int)<(ts.length)):=by have:=N.out;omega
    have l4:rs.length<=50:=by have:=N.out;omega
    have P:=hid (B.trans (HD.bel.mono B.size))
    go_wp2_with fail
    refine(Zqb HO l4 HZ).mono ?_;rintro e w5 ⟨r5,rfl,o4,Q⟩;have o5:=hid (P.trans (Q.mono P.size));clear Q;go_wp2
    try rw[Ycl]
    go_ret2;exact⟨_,_,rfl,hid (M.out▸l3.out▸⟨o4.out,rfl⟩),o5⟩
theorem Zei.asks{m:Int}(h:Zei w A v r)(f:Vars w A m):Asks w v r.1 r.2:=by
 intro W e;have a:=f.below e;have mv:∀ {fa i:Nat} {u:Value},w.cell? _=some u->W.cell? ⟨fa,i,none⟩=some u:=fun {fa i u} h=>(e.cell (Yai _ _ h)).trans h;rcases h with ⟨rfl,rfl⟩|⟨rfl,rfl⟩|⟨rfl,rfl⟩|⟨i,fa,rfl,rfl,c,d⟩|⟨i,fa,rfl,rfl,c,d⟩
 ·exact⟨Zik A m W a,Ziq W⟩
 ·exact⟨ZjQ A m W a,Zdm A m W a⟩
 ·exact⟨Zrk A m W a,Zdm A m W a⟩
 ·exact⟨Zrl A m W a _ (mv d),ZdB A m _ _ W a (mv c)⟩
 ·exact⟨Zrn A m W a _ (mv d),ZdB A m _ _ W a (mv c)⟩
theorem Zei.shape(h:Zei w A v r)(a:r.1≠0):∃ty u,v=.iface ty u:=by
 rcases h with ⟨rfl,rfl⟩|⟨rfl,rfl⟩|⟨rfl,rfl⟩|⟨i,fa,rfl,rfl,c,d⟩|⟨i,fa,rfl,rfl,c,d⟩
 ·exact absurd rfl a
 ·exact⟨_,_,rfl⟩
 ·exact⟨_,_,rfl⟩
 ·exact⟨_,_,rfl⟩
 ·exact⟨_,_,rfl⟩
theorem Asks.below{c p:Nat}(h:Asks w err c p)(a:BW w w'):Asks w' err c p:=fun W d=>h W (a.trans (d.mono a.size))
theorem ZyH{l:LB}{y:CodeQ×Nat×Nat}(h:ZcR l=.ok y):y.1.jq.length<=65535/\∀x∈y.1.jq,x.1<=13/\x.2<65536:=by
 unfold ZcR at h;cases hd:Zb7 l with
 | error e=>rw[hd]at h;cases h
 | ok c=>
  rw[hd]at h;simp only at h;cases a:ZcT c with
  | error e=>rw[a]at h;cases h
  | ok x=>
   rw[a]at h;injection h with h;subst h;exact Zll hd
theorem ZvV(q s:BA)(f l st fuel:Int)(A:Nat->Addr)(m:Int)(w:World)(S:Vars w A m)(ht:ZR w)(hB:20<=w.heap.size)(hq:q.size<=maxLen)(hs:s.size<=maxLen) :
  CP 24 #[.string q,.string s,.agg #[Vi f,Vi l,Vi st],Vi fuel] w fun e w'=>∃(r:BA) (err:Value) (c p:Nat),e=.returned (.tuple #[.string r,err])/\Hid (Asks w' err c p)/\Hid (Zdy (bl q) (bl s) f l st fuel=(bl r,c,p))/\BW w w':=by
 have b8:=hid (fun W g=>ZqK q A m W (S.below g) (ht.low g hB) (Yah hB g.size) hq);have b9:=hid (fun W g=>Zss s A m W (S.below g) hs);have c1:=hid (fun W g=>ZrI f l st W ((S.below g).sent _ Dc));have Q:=hid S;have HT:=hid ht;have c2:=hid hB;clear S ht hB hq hs;go_enter func24,ntmps24
 go_wp2_with fail
 refine Zm fun W hW=>?_;have O:Below _ w W:=hW▸Zbal;have c3:Hid (BAt W _ _ 23):=hW▸bnw;refine(b8 W O).mono ?_;rintro e w1 ⟨v,n,err,rfl,HC,⟨a0,a1,a2,a3,n0,n1,n2,n3,e0,e1,e2,e3,rfl⟩,T⟩;have U:=hid (O.trans (T.mono O.size));have V:=hid (c3.below T);clear T b8 O hW c3;obtain⟨a,b,c,p,rfl,X,HA⟩:=HC.asks (Q.below U.out)
 go_upto_region 2 with fail
 refine ZP fun W2 Y=>?_;have d:Below _ _ _:=Y▸Zbal.alloc (by simp) _;have Z:Hid (BAt _ _ _ 59):=Y▸(Zbal.block _ (by simp)).trans bnw;have B:=hid (U.trans (d.mono U.size));have M:=hid (V.below d);have a4:=hid (HA.below d);have F:=hid (HC.below d);clear d Y HA HC V;generalize w1.heap.size=xb at Z ⊢;generalize w.heap.size=sb at M ⊢;cases C:ZcR (bl q)with
 | error x=>
  have i:Hid (Zdy _ (bl s) f l st fuel=([],x.1,x.2)):=hid (by unfold Zdy;rw[C]);have k:=F.out;rw[C]at k X;have G:(0,0,x.1,x.2)=(a,b,c,p):=X;injection G with _ G;injection G with _ G;injection G with hr3 hr4;subst hr3 hr4;rcases BadV.shape k.2 with ⟨fa,rfl⟩|rfl
  ·clear k F X;go_wp2;go_ret2;exact⟨_,_,_,_,rfl,a4,i,B⟩
  ·clear k F X;go_wp2;go_ret2;exact⟨_,_,_,_,rfl,a4,i,B⟩
 | ok y=>
  have k:=F.out;rw[C]at k;obtain⟨a5,_,rfl⟩:=k;have a6:=hid a5;have a7:=hid C
  have c4:Hid (∀z,(if (Zbp _).1≠0 then ([],(Zbp _).1,(Zbp _).2)else match Zdr f l _ with
   | none=>([],8,0)
   | some _ => if fuel < 0 ∨ 1000000 < fuel then ([], 13, 0) else match ZbO _ _ _ _ with
     | none=>([],13,0)
     | some z=>(Zcn _,0,0))=z->Zdy _ (bl s) f l st _=z):=hid (fun z hz=>by unfold Zdy;rw[C];exact hz)
  clear a5 C F X a4
  go_wp2_with fail
  refine(b9 _ B).mono ?_;rintro e w2 ⟨sv,err,rfl,H,d,a8⟩;have D:=hid (B.trans (d.mono B.size));have t:=hid (M.below d);have c5:=hid (Z.below d);have P:Hid (CodV w2 y.1 (.agg #[.slice a0 n0 e0,.slice a1 n1 e1,.slice a2 n2 e2,.slice a3 n3 e3])):=by obtain⟨cv,pv,gv,iv,E,R⟩:=a6.out;exact⟨cv,pv,gv,iv,E,R.below d⟩
  have c6:=hid (H.asks (Q.below D));clear d b9 M Z a6 B;by_cases I:(Zbp (bl s)).1=0
  ·have d2:err=.nilIface:=by
    rcases Zfb.ld H.out with ⟨_,h⟩|⟨h,_⟩
    ·exact h
    ·exact absurd I h
   subst d2;obtain⟨ss,N,a9,b0,d3⟩:=(a8.out I).sto I;obtain⟨sa,scp,rfl⟩:=Zl N.row;have c7:=hid N;have d6:=hid a9;have d7:=hid b0;have H0:=hid I;clear H a8 N a9 b0 d3 I c6;have x0:=t.cell 0;have x1:=t.cell 1;have x2:=t.cell 2;simp only[Zget]at x0 x1 x2;have b1:=t.lt
   go_wp2_with fail
   clear x0 x1 x2 b1;refine(c1 _ D).mono ?_;rintro e w3 ⟨tv,ev,rfl,b2,J⟩;have j:=hid (D.trans (J.mono D.size));have d4:=hid (c7.below J);have c8:=hid (c5.below J);have b7:Hid (CodV w3 y.1 (.agg #[.slice a0 n0 e0,.slice a1 n1 e1,.slice a2 n2 e2,.slice a3 n3 e3])):=by obtain⟨cv,pv,gv,iv,E,R⟩:=P.out;exact⟨cv,pv,gv,iv,E,R.below J⟩
   clear J c1 c7 t D c5 P;rcases b2.out with ⟨E,rfl,rfl⟩|⟨ts,E,R,h3,rfl,h4⟩
   ·have i:Hid (Zdy _ _ f l _ _=([],8,0)):=hid (c4 _ (by rw[if_neg (by rw[H0];simp),E]));have K:Hid (Asks _ _ 8 0):=hid (fun W g=>⟨Zrm A m W ((Q.below j).below g),Zdm A m W ((Q.below j).below g)⟩);clear b2 E;go_wp2;go_ret2;exact⟨_,_,8,0,rfl,K,i,j⟩
   ·obtain⟨ta,tcp,rfl⟩:=Zl h4;obtain⟨o,ho⟩:∃o,o=(if fuel<0∨1000000<fuel then none else ZbO (ss.map Srs.ser) y.1 fuel.toNat ts):=⟨_,rfl⟩
    have i:Hid _:=ho▸d6.out▸ZvU fuel a7.out H0.out E
    have b3 : Hid (CP 43 #[.agg #[.slice a0 n0 e0, .slice a1 n1 e1, .slice a2 n2 e2, .slice a3 n3 e3], .slice sa ss.length scp, .slice ta ts.length tcp, Vi fuel] w3 fun e w' => ∃ r err, e = .returned (.tuple #[.string r, err]) /\ Hid (RunC A o r err) /\ BW w3 w') := by
      obtain⟨cv,pv,gv,iv,b4,d8⟩:=b7.out;injection b4 with b4;have h5:=congrArg Array.toList b4;simp only[Yfd,and_true]at h5;obtain⟨rfl,rfl,rfl,rfl⟩:=h5;obtain⟨d9,L,e4⟩:=ZyI a7;have c9:=ZyH a7;rw[ho];exact ZAW L A m (Q.below j) ⟨d8,d4,d7⟩ d9 e4 c9.1 c9.2 R h3 h4 (HT.low j c2) (Yah c2 j.size)
    have e5:=hid (Q.below j);have x0:=c8.cell;have b1:=c8.lt;clear b2 E R h3 h4 ho
    go_wp2_with fail
    clear x0 b1;refine b3.mono ?_;rintro e w4 ⟨r4,err4,rfl,d0,b5⟩;have d1:=hid (j.trans (b5.mono j.size));have b6:=hid (e5.below b5);clear b5 b3;cases o with
    | none=>
     obtain⟨rfl,rfl⟩:=d0.out;have K:Hid (Asks _ _ 13 0):=hid (fun W g=>⟨Zzu A m W (b6.below g),Zdm A m W (b6.below g)⟩);go_wp2;go_ret2;exact⟨_,_,13,0,rfl,K,i,d1⟩
    | some z=>
     obtain⟨h6,rfl⟩:=d0.out;have K:Hid (Asks _ _ 0 0):=hid (fun W g=>⟨Zik A m W (b6.below g),Ziq W⟩);have d5:Hid (Zdy (bl q) (bl s) f l st fuel=(bl r4,0,0)):=by rw[i,h6];rfl
     clear h6;go_wp2;go_ret2;exact⟨_,_,0,0,rfl,K,d5,d1⟩
  ·have i:=hid (c4 _ (by rw[if_pos I]));obtain⟨ty,u,rfl⟩:=H.shape I;clear H a8 I;go_wp2;go_ret2;exact⟨_,_,_,_,rfl,c6,i,D⟩
theorem Zwp(q s:BA)(f l st fuel:Int)(A:Nat->Addr)(m:Int)(w:World)(n:Vars w A m)(o:ZR w)(j:20<=w.heap.size)(t:q.size<=maxLen)(v:s.size<=maxLen) :
  CP 12 #[.string q,.string s,.agg #[Vi f,Vi l,Vi st],Vi fuel] w fun e u=>∃(r:BA) (c p:Nat),e=.returned (.tuple #[.string r,Vi c,Vi p])/\Hid (Zdy (bl q) (bl s) f l st fuel=(bl r,c,p))/\BW w u:=by
 have x:=hid (fun W d=>ZvV q s f l st fuel A m W (n.below d) (o.low d j) (Yah j d.size) t v);clear n o j t v;go_enter func12,ntmps12
 go_wp2_with fail
 refine Zm fun W B=>?_;have a:Below _ w W:=B▸Zbal;refine(x W a).mono ?_;rintro e G ⟨r,err,c,p,rfl,k,D,g⟩;have h:=hid (a.trans (g.mono a.size));clear g a B x;have E:=hid (k _ (Yaf _ _)).1;have F:=hid (fun W d=>(k W d).2);clear k
 go_wp2_with fail
 refine E.mono ?_;rintro e H ⟨rfl,rfl⟩
 go_wp2_with fail
 refine(F _ (Yaf _ _)).mono ?_;rintro e z ⟨rfl,i⟩;have C:=hid (h.trans (i.mono h.size));clear i;go_wp2
 go_ret3
 exact⟨r,_,_,rfl,D,C⟩
