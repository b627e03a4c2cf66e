/- Parts. -/
import Derived.Test.YtcdgkkfipdoeeaaGreatDoorU33
set_option linter.all false
set_option maxRecDepth 100000
set_option maxHeartbeats 16000000
namespace Go.Proofs.YtcdgkkfipdoeeaaGreatDoor
open Go.RowKit LS Go.Proofs.Tryz
variable {tm:Int}{ss:List Srs}{x:Nat}{t:Tr}{sv tv v:Value}{w w':World}
section
theorem Zyr(t:Int)(Z:vOk t)(v:Value)(l:List El)(w:World)(hv:ValP w v (.inr l))(hn:VOk 30 (.inr l))(hp:ZR w)(hB:20<=w.heap.size) :
  CP 92 #[Vi t,v] w fun e u=>∃r:BA,e=.returned (.string r)/\Hid (bl r=Zel t (.inr l))/\r.size<=40000000000/\BW w u:=by
 have HP:=hid hp;have K:=hid hB;have HT:=hid Z;clear hp hB Z;obtain⟨s,is,rfl,j⟩:=hv;have a9:is.length<=30:=j.len'▸hn.2;obtain⟨ra,rcp,rfl⟩:=Zl j.row;have J:=hid j
 have L : Hid (∀ k, (ZcQ t (is.take k)).length <= 40000000000 - 2000000000) := hid (fun k => by
   have:=ZqH HT (is.take k) (fun i hi=>⟨(j.ok i (Ydn hi)).lb.wf.len,(j.ok i (Ydn hi)).vok⟩);rw[Ya7]at this;omega)
 have h1:=asVS (.slice ra is.length rcp);have h2:=asVV (.slice ra is.length rcp);clear hn j;go_enter func92,ntmps92
 go_wp2_with fail
 refine Zm fun W q=>?_;have d:Below _ w W:=q▸Zbal;have o:Hid (WB W _ _ []):=hid ⟨.inl ⟨Yac _,.slice _ 0 0,q▸bnw,⟨rfl,.inl ⟨rfl,rfl⟩⟩,by simp[Value.ownBlock]⟩,d.size⟩;have f:=hid d;have M:=hid (HP.low d K);clear q d;refine(Zjm M t HT).mono ?_;rintro e w1 ⟨s1,rfl,a0,b0,C⟩;have N:=hid (o.below C);have O:=hid (f.trans (C.mono f.size));clear C o f M
 go_wp2_with fail
 refine(Zj0 N _ (by simp;omega)).mono ?_;rintro e z ⟨rfl,P,Q⟩;have a1:=hid (O.trans Q.low);have Y:Hid (WB _ _ _ (ZcQ t [])):=hid (by have:=P.out;rw[a0]at this;simpa [ZcQ] using this);clear N O P Q;go_wp2
 go_loopw [26] (fun i wr=>∃k:Nat,k<=is.length/\i=Vi k/\Hid (WB wr w.heap.size w.heap.size (ZcQ t (is.take k)))/\Hid (BW w wr)) (fun i _=>is.length - (intOf i).toNat)
 case atStart=>exact⟨0,Yag _,rfl,Y,a1⟩
 case round=>
  rename World=>wo
  obtain⟨k,hk,rfl,p,D⟩:=hrel;have a2:=D.size;by_cases E:k<is.length
  ·have hg:∃g,ra=some ⟨g,0,none⟩:=by
    obtain⟨g,cp',h⟩:=ZF J.row Om;injection h with h1;exact⟨g,h1⟩
   obtain⟨vg,rfl⟩:=hg;have A:=hid (Zn J.row D);obtain⟨f1,f2,f3⟩:=Zfl _ k E;have d1:=Zi A _ _ f1;have d2:=Zi A _ _ f2;have d3:=Zi A _ _ f3;have F:=hid (J.ok _ (List.getElem_mem E));have a3:Hid (ZcQ t _=ZcQ t _++elS _):=List.take_succ_eq_append_getElem E▸Zyp;generalize is[k]=s at *
   have b1:=F.lb.size;have q1:¬9223372036854775807<2+s.tx.size:=by omega
   have q2:¬9223372036854775807<2+s.tx.size+1:=by omega
   clear f1 f2 f3 A;have b2:(k:Int)<(is.length):=by omega
   go_upto_region 12 with fail
   refine ZP fun W q=>?_;have d:Below _ _ W:=q▸Zbal;have G:Hid (BAt W _ [.slice _ _ _,.string _,.int _ _] 286):=q▸bnw;have o:=hid (p.below d);have f:=hid (D.trans (d.mono a2));clear q d d1 d2 d3 p D;have R:=f.size;have x0:=G.cell 0;have x1:=G.cell 1;have x2:=G.cell 2;simp only[Zget]at x0 x1 x2;have H:Hid (∀u,BAt u wo.heap.size [.slice s.a s.n s.c,.string s.tx,Vi s.v] 286->u.cell? _=some _/\u.cell? _=some _/\u.cell? _=some _):=hid (fun u h=>⟨h.cell 0,h.cell 1,h.cell 2⟩)
   go_region_held3 (fun u => u.cell? ⟨wo.heap.size, 0, none⟩ = some (.slice s.a s.n s.c) /\ u.cell? ⟨wo.heap.size, 1, none⟩ = some (.string s.tx) /\ u.cell? ⟨wo.heap.size, 2, none⟩ = some (Vi s.v)) (first | exact ⟨x0, x1, x2⟩ | exact H.out _ a4.out | exact H.out _ S.out | exact H.out _ a5.out | go_keep) (first
     | (go_at_call 151
        refine(ZgR).mono ?_;rintro e w5 ⟨rfl,o5,T⟩;have m:Hid (BW W w5):=hid (by rw[T];exact((Yaf _ _).drew).alloc (Yac _) _);have a5:=hid (G.below m.out);clear T)
     | (go_at_call 64
        refine(Zjm (HP.low (f.trans (m.mono R)) K.out) s.v F.vok).mono ?_;rintro e w6 ⟨s6,rfl,a6,b3,U⟩;have B:Hid (BW W w6):=hid (m.trans (U.mono m.size));have S:=hid (G.below B.out);have x:Hid ((⟨#[32,123]⟩++s.tx++⟨#[125]⟩++s6:BA).size=2+s.tx.size+1+s6.size):=hid (by rw[Yaz,Yaz,Yaz];rfl)
        have I:Hid (bl (⟨#[32,123]⟩++s.tx++⟨#[125]⟩++s6:BA)=elS s.el):=hid (by
          rw[Zfg,Zfg,Zfg,a6.out,F.lb.txt];rfl)
        have q3:¬9223372036854775807<2+s.tx.size+1+s6.size:=by omega
        clear U)
     | (go_at_call 63
        generalize(⟨#[32,123]⟩++s.tx++⟨#[125]⟩++s6:BA)=x6 at x I ⊢;have b4:x6.size<=1000108030:=(by have:=x.out;omega)
        clear x;refine(Zj0 (o.below B.out) x6 (by have:=L.out k;omega)).mono ?_;rintro e w7 ⟨rfl,b5,V⟩;have a4:Hid (BAt w7 wo.heap.size [.slice s.a s.n s.c,.string s.tx,Vi s.v] 286):=hid (WK.bat (o.below B.out) V.out S.out Dc Dc)))
   have a7:Hid (WB w7 w.heap.size w.heap.size (ZcQ t (is.take (k+1)))):=by rwa [a3.out,<-I.out]
   have a8:=hid ((f.trans (B.mono R)).trans V.low);go_wp2
   go_roundw
   case rel=>exact⟨k+1,by omega,by go_num,a7,a8⟩
   case measure=>simp[intOf];omega
  ·obtain rfl:k=is.length:=by omega
   rw[Ya4]at p;have HE:Hid (ZcQ t is=Zel t (.inr l)):=by unfold ZcQ;rw[J.els];rfl
   go_wp2_with fail
   refine(Builder_String_any_f _ _ _ _ p.bd p.le).mono ?_;rintro e w5 ⟨rfl,_,X⟩;have m:=hid (D.trans X);clear X;go_wp2;go_ret;exact⟨_,rfl,hid (by rw[ZbF,HE]),by have a:=L is.length;rw[Ya4,<-Yb5]at a;exact Yah a Om,m⟩
theorem ZqI{t:Int}(a:vOk t)(V:VV)(c:ValP w v V)(g:VOk 30 V)(d:ZR w)(f:20<=w.heap.size) :
  CP 92 #[Vi t,v] w fun e u=>∃r:BA,e=.returned (.string r)/\Hid (bl r=Zel t V)/\r.size<=40000000000/\BW w u:=by
 cases V with
 | inl n=>exact Zyq t a v n w c d f
 | inr l=>exact Zyr t a v l w c g d f
theorem Zmp (w : World) : CP 91 #[] w fun e u => e = .returned (Vp (w.heap.size + 1)) /\ Hid (MapX u w.heap.size) /\ Hid (BAt u (w.heap.size + 1) [.map (some w.heap.size)] 281) /\ u.heap.size = w.heap.size + 2 /\ BW w u := by
  have c:=@run_makeMap prog;go_enter func91,ntmps91;go_wp2;go_ret;have a:Below _ w (w.alloc (.map #[] 0)):=Zbal;refine⟨rfl,hid ⟨#[],0,(Zbal.block _ (by simp)).trans bnw⟩,hid ?_,by simp,a.alloc (by simp) _⟩;have:=Go.Deep.blk_alloc_new (w.alloc (.map #[] 0)) (.cells #[.map (some w.heap.size)] 281);rw[Go.Deep.nblk_alloc]at this;exact this
theorem MapX.below(h:MapX w x)(c:BW w w'):MapX w' x:=by
 obtain⟨es,cl,a⟩:=h;exact⟨es,cl,(c.block x (Yae.1 a).1).trans a⟩
theorem MapX.grown{r:Option Nat}(h:MapX w x)(c:w.grownBy w' r)(d:some x≠r):MapX w' x:=by
 obtain⟨es,cl,a⟩:=h;exact⟨es,cl,(c.block x (Yae.1 a).1 d).trans a⟩
theorem BAt.set1{a:Nat}{p q r x:Value}{t:TypeId}(h:BAt w a [p,q,r] t):BAt (w.setCell ⟨a,1,none⟩ x) a [p,x,r] t:=by
 unfold BAt at h;unfold BAt;simp only[World.setCell,Ybn,h,if_true,Ybf];rfl
theorem Zp9:∀l:List (LB),Lib.join l [10]=Zcn l
 | []=>rfl
 | [a]=>by simp[Lib.join,List.intercalate,Zcn]
 | a :: b :: l => by
   have ih:=Zp9 (b::l);rw[Zcn,<-ih];simp[Lib.join,List.intercalate]
theorem Zqa{n:Nat} : ∀l:List (LB),(∀x∈l,x.length<=n)->(Zcn l).length<=l.length*(n+1)
 | [],_=>Yag _
 | [a],h=>by have:=h a (by simp);simp only[Zcn,Yaj,Ybq];omega
 | a :: b :: l, h => by
   have ih:=Zqa _ (fun x c=>h x (Yam _ c));have d:=h a (by simp);have e:(Zcn (a::b::l)).length=a.length+((Zcn (b::l)).length+1):=by rw[Zcn,Yab,Yaj]
   rw[e,Yaj,Yfv];omega
theorem Zqb{B:Nat}{bs:List BA}(h:w.ownsRow B 9 1 v bs.length (Zbc bs))(m:bs.length<=50)(o:∀b∈bs,b.size<=40000000000) :
  CP 68 #[v,.string ⟨#[10]⟩] w fun e u=>∃s:BA,e=.returned (.string s)/\Hid (bl s=Zcn (bs.map bl))/\BW w u:=by
 by_cases d:bs.length=0
 ·obtain⟨la,lc,rfl⟩:=Zl h;rw[d];refine(strings_Join_none la lc ⟨#[10]⟩ w).mono ?_;rintro e u ⟨rfl,rfl⟩;have:bs=[]:=Ya3 d;subst this;exact⟨_,rfl,hid rfl,Yaf _ _⟩
 ·obtain⟨g,lc,rfl⟩:=ZF h Om;have f:Lib.join (bs.map (·.data.toList)) [10]=Zcn (bs.map bl):=Zp9 _;have i:=Zqa (n:=40000000000) (bs.map bl) (fun x l=>by obtain⟨b,k,rfl⟩:=Ybe.1 l;rw[Zd];simp_all);rw[Yak]at i;have a:(Zcn (bs.map bl)).length<=140737488355328:=by omega
  have c:bs.length<=lc:=by
   rcases h.2 with ⟨e,_⟩|⟨g',cap,cur,e,_,_,p,_⟩
   ·cases e
   ·simp_all
  rw[<-f]at a;refine(strings_Join g 0 lc bs ⟨#[10]⟩ w ?_ (Z1 h) Om c a).mono ?_
  ·intro j x f;rw[Ycf];exact Zi h j _ (by show(bs.map Value.string)[j]?=_;simp_all)
  ·rintro e u ⟨rfl,k⟩;exact⟨_,rfl,hid (by assumption),k⟩
structure MOk (x mb gb:Nat) (sv:Value) (ss:List Srs) (tm:Int) (w:World):Prop where
 m:BAt w mb [sv,Vi tm,Vp gb] 193
 g:BAt w gb [.map (some x)] 281
 map:MapX w x
 sto:StoP w sv ss
theorem MOk.belX{mb gb:Nat}(h:MOk x mb gb sv ss tm w)(c:BelX x w.heap.size w w')(d:MapX w' x):MOk x mb gb sv ss tm w':=by
 have a:=Zo.belX c h.map;exact⟨a _ _ _ _ h.m,a _ _ _ _ h.g,d,h.sto.jv a⟩
theorem MOk.below{mb gb:Nat}(h:MOk x mb gb sv ss tm w)(a:BW w w'):MOk x mb gb sv ss tm w':=by
 refine h.belX (BelX.of a) ?_;obtain⟨es,cl,c⟩:=h.map;exact⟨es,cl,(a.block x (Yae.1 c).1).trans c⟩
theorem Zh.jv(h:Zh w t v)(a:Zo w w'):Zh w' t v:=Zh.mono (fun _ _ h=>h.jv a) (fun _ _ h=>h.jv a) t v h
def SayP(x mb gb:Nat)(sv:Value)(ss:List Srs)(tm:Int)(t:Tr)(w:World)(e:Ending)(w':World):Prop:=∃v,e=.returned v/\Hid (ValP w' v (sayT (ss.map Srs.ser) tm t))/\Hid (MOk x mb gb sv ss tm w')/\Hid (BelX x w.heap.size w w')
def ZcC(x mb gb:Nat)(sv:Value)(ss:List Srs)(tm:Int)(t:Tr):Prop:=∀(pv:Value) (w:World),MOk x mb gb sv ss tm w->Zh w t pv->CP 93 #[Vp mb,pv] w (SayP x mb gb sv ss tm t w)
variable {x mb gb:Nat} {sv:Value} {ss:List Srs} {tm:Int}
theorem ZBR(nd:Nd)(l r:Tr)(a b:Nat)(i:nd.jk=0)(c:vOk nd.n):ZcC x mb gb sv ss tm (.node a b nd l r):=by
 intro pv w d e
 have f:pv=.iface 119 (.agg #[Vi nd.n]):=by
  rcases e with ⟨_,h⟩|⟨h,_⟩|⟨h,_⟩|⟨h,_⟩|⟨h,_⟩|⟨h,_⟩
  ·exact h
  all_goals omega
 subst f;have j:Hid (sayT (ss.map Srs.ser) tm (.node a b _ l r)=.inl _):=hid (by unfold sayT;rw[if_pos i]);have k:=hid d;have m:=hid c;clear e d c;have p:=ZhB (.agg #[Vi nd.n]);go_enter func93,ntmps93;go_wp2;go_ret;have g:∀o,Below _ w (w.alloc o):=fun o=>Zbal;exact⟨_,rfl,hid (j.out▸⟨rfl,m.out⟩),hid (k.below (g _)),hid (BelX.of (g _))⟩
theorem ZBQ(nd:Nd)(l r:Tr)(a b:Nat)(z:nd.jk=3)(f:ZcC x mb gb sv ss tm l):ZcC x mb gb sv ss tm (.node a b nd l r):=by
 intro pv w k m
 obtain⟨y,n,j⟩:∃y,pv=.iface 121 (.agg #[y])/\Zh w l y:=by
  rcases m with ⟨h,_⟩|⟨h,_⟩|⟨h,_⟩|⟨_,y,o,p⟩|⟨h,_⟩|⟨h,_⟩
  ·omega
  ·omega
  ·omega
  ·exact⟨y,o,p⟩
  ·omega
  ·omega
 subst n;obtain⟨ty,uv,rfl⟩:=j.shape;have A:Hid (sayT (ss.map Srs.ser) tm (.node a b nd l r)=negV _):=hid (by rw[sayT,if_neg Om,if_neg Om,if_neg Om,if_pos z]);have B:=hid k;have C:=hid j;have D:=hid f;clear m k j f;have o:=ZhA (.agg #[.iface ty uv]);have p:=Zhz (.agg #[.iface ty uv]);go_enter func93,ntmps93
 go_wp2_with fail
 refine Zm fun W q=>?_;have c:Below _ w W:=q▸Zbal;clear q;refine(D _ W (B.below c) (C.below c)).mono ?_;rintro e F ⟨v5,rfl,s,t,g⟩;have i:=hid ((BelX.of c).trans (g.mono c.size));clear c g
 go_wp2_with fail
 refine(ZmQ _ _ s).mono ?_;rintro e G ⟨v6,rfl,E,d⟩;have u:=hid (t.below d);have v:=hid (i.trans ((BelX.of d).mono i.size));clear d;go_wp2;go_ret;exact⟨_,rfl,hid (by rwa [A.out]),u,v⟩
def VecP(x mb gb:Nat)(sv:Value)(ss:List Srs)(tm:Int)(t:Tr)(w:World)(e:Ending)(w':World):Prop:=∃s l is,e=.returned s/\Hid (VecV w' s l is/\sayT (ss.map Srs.ser) tm t=.inr l)/\Hid (MOk x mb gb sv ss tm w')/\Hid (BelX x w.heap.size w w')
theorem Znu(t:Tr)(f:ZdN (sayT (ss.map Srs.ser) tm t)=true)(ih:ZcC x mb gb sv ss tm t)(ty:TypeId)(uv:Value)(w:World)(g:MOk x mb gb sv ss tm w)(i:Zh w t (.iface ty uv)):CP 158 #[Vp mb,.iface ty uv] w (VecP x mb gb sv ss tm t w):=by
 have q:=hid (ih _ w g i)
 obtain⟨l,j⟩:∃l,sayT (ss.map Srs.ser) tm t=.inr l:=by
  cases h:sayT (ss.map Srs.ser) tm t with
  | inl n=>rw[h]at f;cases f
  | inr l=>exact⟨l,rfl⟩
 have k:=hid j;clear g i f j ih;go_enter func158,ntmps158
 go_wp2_with fail
 refine q.mono ?_;rintro e r ⟨v5,rfl,c,m,o⟩;have d:=c.out;rw[k]at d;obtain⟨s,is,rfl,a⟩:=d;have p:=hid a;obtain⟨sa,scp,rfl⟩:=Zl a.row;clear a c;have u:=asVV (.slice sa is.length scp);go_wp2;go_ret;exact⟨_,l,is,rfl,hid ⟨p,k⟩,m,o⟩
def EitP(x mb gb:Nat)(sv:Value)(ss:List Srs)(tm:Int)(t u:Tr)(w:World)(e:Ending)(w':World):Prop:=∃s l is,e=.returned s/\Hid (VecV w' s l is/\(if (Zcm (sayT (ss.map Srs.ser) tm t)).isEmpty then sayT (ss.map Srs.ser) tm u else sayT (ss.map Srs.ser) tm t)=.inr l)/\Hid (MOk x mb gb sv ss tm w')/\Hid (BelX x w.heap.size w w')
theorem ZvE(t u:Tr)(q:ZdN (sayT (ss.map Srs.ser) tm t)=true)(r:ZdN (sayT (ss.map Srs.ser) tm u)=true)(f:ZcC x mb gb sv ss tm t)(g:ZcC x mb gb sv ss tm u){ty uy:TypeId}{uv:Value}(w:World)(m:MOk x mb gb sv ss tm w)(h:Zh w t (.iface ty tv))(i:Zh w u (.iface uy uv)) :
  CP 153 #[Vp mb,.iface ty tv,.iface uy uv] w (EitP x mb gb sv ss tm t u w):=by
 have F:=hid (Znu t q f _ _ w m h);have G:=hid (fun W H I=>Znu u r g uy uv W H I);have v:=hid i;have z:=hid m.map;clear m h i q r f g;go_enter func153,ntmps153
 go_wp2_with fail
 refine F.mono ?_;rintro e K ⟨s,l,is,rfl,a,j,c⟩;obtain⟨sa,scp,rfl⟩:=Zl a.1.row;have d:=a.1.len'.symm;have n:=a.1.len;by_cases o:is.length=0
 ·have p:Hid ((Zcm (sayT (ss.map Srs.ser) tm t)).isEmpty=true):=by rw[a.2];show l.isEmpty=true;rw[Ydl];exact Ya3 Om
  rw[o];have A:=Zo.belX c z;have B:=hid (v.jv A);clear A d n o
  go_wp2_with fail
  refine(G _ j B).mono ?_;rintro e L ⟨s6,l6,is6,rfl,k,C,D⟩;have E:=hid (c.trans (D.mono c.size));go_wp2;go_ret;exact⟨_,l6,is6,rfl,hid ⟨k.1,if_pos p.out▸k.2⟩,C,E⟩
 ·have p:Hid (¬(Zcm (sayT (ss.map Srs.ser) tm t)).isEmpty=true):=by rw[a.2];show ¬l.isEmpty=true;rw[Ydl];intro e;subst e;exact o d
  have J:(0:Int)<(is.length):=by omega
  clear d;go_wp2;go_ret;exact⟨_,l,is,rfl,hid ⟨a.1,if_neg p.out▸a.2⟩,j,c⟩
end
section
variable {x mb gb:Nat} {sv:Value} {ss:List Srs} {tm:Int}
theorem ZBT(nd:Nd)(l r:Tr)(a b:Nat)(F:nd.jk=1)(o:Dst (ss.map Srs.ser))(s : -1000000<=tm)(t:tm<=1000000):ZcC x mb gb sv ss tm (.node a b nd l r):=by
 intro pv w k v
 obtain⟨nm,la,ln,lc,z,p,q⟩:∃(nm:BA) (la:Option _) (ln lc:Nat),pv=.iface 148 (.agg #[.string nm,.slice la ln lc])/\bl nm=nd.name/\ZX w (.slice la ln lc) nd.ku:=by
  rcases v with ⟨h,_⟩|⟨_,h⟩|⟨h,_⟩|⟨h,_⟩|⟨h,_⟩|⟨h,_⟩
  ·omega
  ·exact h
  all_goals omega
 subst z;obtain⟨sa,scp,rfl⟩:=Zl k.sto.row;have G:Hid (sayT (ss.map Srs.ser) tm (.node a b nd l r)=.inr _):=hid (by rw[sayT,if_neg Om,if_pos F]);have H:=hid k;have A:=hid (fun W i=>ZrF _ W (k.below i).sto o p (q.below i) s t);clear v k p q o;have I:=ZhE (.agg #[.string nm,.slice la ln lc]);have J:=ZhD (.agg #[.string nm,.slice la ln lc]);have K:=ZhF (.agg #[.string nm,.slice la ln lc]);have L:=ZhC (.agg #[.string nm,.slice la ln lc]);have M:=ZhG (.agg #[.string nm,.slice la ln lc]);have N:=ZgD (.agg #[.string nm,.slice la ln lc]);go_enter func93,ntmps93
 go_upto_region 22 with fail
 refine ZP fun W i=>?_;have j:Below _ w W:=i▸Zbal;have n:Hid (BAt W _ _ 148):=i▸bnw;have g:=hid (H.below j);have c:=hid j;clear i j I J K L M N;have x0:=n.cell 0;have x1:=n.cell 1;have m0:=g.m.cell 0;have m1:=g.m.cell 1;simp only[Zget]at x0 x1 m0 m1
 go_region_held3 (fun u => u.cell? ⟨w.heap.size, 0, none⟩ = some (.string nm) /\ u.cell? ⟨w.heap.size, 1, none⟩ = some (.slice la ln lc) /\ u.cell? ⟨mb, 0, none⟩ = some (.slice sa ss.length scp) /\ u.cell? ⟨mb, 1, none⟩ = some (Vi tm)) (first | exact ⟨x0, x1, m0, m1⟩ | exact B.out | go_keep) (first
   | (go_at_call 161
      refine(A.out _ (by exact⟨c.os,c.tape,c.output,c.size,c.block⟩)).mono ?_;rintro e O ⟨v5,is5,rfl,C,d⟩;have f:Hid (BW W O):=hid ⟨d.os,d.tape,d.output,d.size,d.block⟩;have B:=hid (And.intro ((n.below f.out).cell 0) (And.intro ((n.below f.out).cell 1) (And.intro ((g.below f.out).m.cell 0) ((g.below f.out).m.cell 1))));clear d))
 have D:Hid (BelX x _ w _):=hid (BelX.of (c.trans (f.mono c.size)));have E:=hid (g.below f);go_wp2;go_ret;exact⟨_,rfl,hid (G.out▸⟨_,is5,rfl,C.out⟩),E,D⟩
theorem ZBU(nd:Nd)(l r:Tr)(a b:Nat)(U:nd.jk=2)(t:nd.op<=4)(I:1<=nd.n/\nd.n<=1000)(v:Dst (ss.map Srs.ser))(J : -1000000<=tm)(K:tm<=1000000):ZcC x mb gb sv ss tm (.node a b nd l r):=by
 intro pv w k L
 obtain⟨f,nm,la,ln,lc,M,z,A,B⟩:∃(f nm:BA) (la:Option _) (ln lc:Nat),pv=.iface 150 (.agg #[.string f,.string nm,.slice la ln lc,Vi nd.n])/\bl f=Z0.getD nd.op []/\bl nm=nd.name/\ZX w (.slice la ln lc) nd.ku:=by
  rcases L with ⟨h,_⟩|⟨h,_⟩|⟨_,h⟩|⟨h,_⟩|⟨h,_⟩|⟨h,_⟩
  ·omega
  ·omega
  ·exact h
  all_goals omega
 subst M;obtain⟨sa,scp,rfl⟩:=Zl k.sto.row;have N:Hid (sayT (ss.map Srs.ser) tm (.node a b nd l r)=.inr _):=hid (by rw[sayT,if_neg Om,if_neg Om,if_pos U]);have V:=hid k;have C:=hid (fun W j=>ZmR _ _ W (k.below j).sto A (B.below j) Om I.2 J K);have O:=hid (fun W=>ZqY t z W);have P:=hid v;have Q:=hid k.sto.len;clear L k A B v z I;obtain⟨nn,D⟩:∃nn,nn=nd.n:=⟨_,rfl⟩
 rw[<-D]at C N ⊢;clear D;have G:=ZhJ (.agg #[.string f,.string nm,.slice la ln lc,Vi nn]);have H:=ZhI (.agg #[.string f,.string nm,.slice la ln lc,Vi nn]);have X:=ZhK (.agg #[.string f,.string nm,.slice la ln lc,Vi nn]);have Y:=ZhH (.agg #[.string f,.string nm,.slice la ln lc,Vi nn]);have Z:=ZhL (.agg #[.string f,.string nm,.slice la ln lc,Vi nn]);go_enter func93,ntmps93
 go_upto_region 19 with fail
 refine ZP fun W j=>?_;have o:Below _ w W:=j▸Zbal;have g:Hid (BAt W _ [.string _,.string _,.slice _ _ _,.int _ _] 150):=j▸bnw;have i:=hid (V.below o);have c:=hid o;clear j o G H X Y Z;have x0:=g.cell 0;have x1:=g.cell 1;have x2:=g.cell 2;have x3:=g.cell 3;have m0:=i.m.cell 0;have m1:=i.m.cell 1;simp only[Zget]at x0 x1 x2 x3 m0 m1;have E:Hid (∀u,Below _ W u->u.cell? _=some _/\u.cell? _=some _/\u.cell? _=some _/\u.cell? _=some _/\u.cell? _=some _/\u.cell? _=some _):=hid (fun u h=>⟨(g.below h).cell 0,(g.below h).cell 1,(g.below h).cell 2,(g.below h).cell 3,(i.below h).m.cell 0,(i.below h).m.cell 1⟩)
 go_region_held3 (fun u => u.cell? ⟨w.heap.size, 0, none⟩ = some (.string f) /\ u.cell? ⟨w.heap.size, 1, none⟩ = some (.string nm) /\ u.cell? ⟨w.heap.size, 2, none⟩ = some (.slice la ln lc) /\ u.cell? ⟨w.heap.size, 3, none⟩ = some (Vi nn) /\ u.cell? ⟨mb, 0, none⟩ = some (.slice sa ss.length scp) /\ u.cell? ⟨mb, 1, none⟩ = some (Vi tm)) (first | exact ⟨x0, x1, x2, x3, m0, m1⟩ | exact E.out _ p.out | exact E.out _ q.out | go_keep) (first
   | (go_at_call 124
      refine(O.out _).mono ?_;rintro e w4 ⟨rfl,rfl⟩)
   | (go_at_call 160
      refine(C.out _ (by exact⟨c.os,c.tape,c.output,c.size,c.block⟩)).mono ?_;rintro e w5 ⟨v5,rs5,rfl,s,d⟩;have q:Hid (BW W w5):=hid ⟨d.os,d.tape,d.output,d.size,d.block⟩;clear d)
   | (go_at_call 159
      refine(ZrE nd.op t v5 rs5 (ss.map Srs.ser) nd nn tm s.1 s.2 P.out (by
        have G:=congrArg List.length s.2;rw[Yak]at G;have H:=ZmZ (ss.map Srs.ser) nd nn tm;rw[Yak]at H;have:=Q.out;omega)).mono ?_
      rintro e w6 ⟨v6,is6,rfl,R,F⟩;have p:Hid (BW W w6):=hid (q.trans (F.mono q.size));clear F))
 have S:Hid (BelX x _ w _):=hid (BelX.of (c.trans (p.mono c.size)));have T:=hid (i.below p);go_wp2;go_ret;exact⟨_,rfl,hid (N.out▸⟨_,is6,rfl,R.out⟩),T,S⟩
theorem ZBS(nd:Nd)(l r:Tr)(a b:Nat)(o:nd.jk=6)(t:ZdN (sayT (ss.map Srs.ser) tm l)=true)(u:ZdN (sayT (ss.map Srs.ser) tm r)=true)(f:ZcC x mb gb sv ss tm l)(g:ZcC x mb gb sv ss tm r):ZcC x mb gb sv ss tm (.node a b nd l r):=by
 intro pv w k v
 obtain⟨p,q,i,m,n⟩:∃p q,pv=.iface 116 (.agg #[Vi (opNo nd),p,q])/\Zh w l p/\Zh w r q:=by
  rcases v with ⟨h,_⟩|⟨h,_⟩|⟨h,_⟩|⟨h,_⟩|⟨h,_⟩|⟨_,h⟩
  ·omega
  ·omega
  ·omega
  ·omega
  ·omega
  ·exact h
 have z:opNo nd=0:=by unfold opNo;rw[if_pos o]
 rw[z]at i;subst i;obtain⟨ty,tv,rfl⟩:=m.shape;obtain⟨uy,uv,rfl⟩:=n.shape;have D:Hid (sayT _ _ (.node a b nd l r)=if (Zcm _).isEmpty then sayT _ tm r else sayT (ss.map Srs.ser) _ l):=hid (by rw[sayT,if_neg Om,if_neg Om,if_neg Om,if_neg Om,if_neg Om,if_pos o]);have F:=hid k;have E:=hid (fun W d=>ZvE l r t u f g W (k.below d) (m.below d) (n.below d));clear v k m n t u f g z;have G:=ZgB (.agg #[Vi (0:Nat),.iface ty tv,.iface uy uv]);have H:=ZgA (.agg #[Vi (0:Nat),.iface ty tv,.iface uy uv]);have I:=ZgC (.agg #[Vi (0:Nat),.iface ty tv,.iface uy uv]);simp only[Int.natCast_zero]at *
 go_enter func93,ntmps93
 go_wp2_with fail
 refine Zm fun W d=>?_;have c:Below _ w W:=d▸Zbal;clear d;refine(E W c).mono ?_;rintro e J ⟨s,l5,is5,rfl,j,A,B⟩;have C:=hid ((BelX.of c).trans (B.mono c.size));clear c;go_wp2;go_ret;exact⟨_,rfl,hid (D.out▸j.2▸⟨_,is5,rfl,j.1⟩),A,C⟩
end
section
variable {x mb gb:Nat} {sv:Value} {ss:List Srs} {tm:Int}
theorem MapX.lt(h:MapX w x):x<w.heap.size:=by
 obtain⟨es,cl,a⟩:=h;exact(Yae.1 a).1
theorem ZBO(nd:Nd)(l r:Tr)(a b:Nat)(hk:nd.jk=4)(S:nd.op<=3)(B:VOk 1000 (sayT (ss.map Srs.ser) tm r))(C:ZcC x mb gb sv ss tm l)(D:ZcC x mb gb sv ss tm r):ZcC x mb gb sv ss tm (.node a b nd l r):=by
 intro pv w K T
 obtain⟨p,q,E,L,M⟩:∃p q,pv=.iface 116 (.agg #[Vi (opNo nd),p,q])/\Zh w l p/\Zh w r q:=by
  rcases T with ⟨h,_⟩|⟨h,_⟩|⟨h,_⟩|⟨h,_⟩|⟨h,_⟩|⟨_,h⟩
  ·omega
  ·omega
  ·omega
  ·omega
  ·omega
  ·exact h
 have U:opNo nd=nd.op+1:=by unfold opNo;rw[if_neg Om]
 rw[U]at E;subst E;obtain⟨ty,tv,rfl⟩:=L.shape;obtain⟨uy,uv,rfl⟩:=M.shape;have HS:Hid (sayT (ss.map Srs.ser) tm (.node a b nd l r)=Zdg _ _ _):=hid (by rw[sayT,if_neg Om,if_neg Om,if_neg Om,if_neg Om,if_neg Om,if_neg Om]);have HM:=hid K;have V:Hid (Zh w l _/\Zh w r _):=⟨L,M⟩
 have X:=hid B;have Y:Hid (∀W,MOk x _ _ _ _ _ W->Zh W l (.iface ty tv)->Calls _ _ _ W _):=hid (fun W k n=>C _ W k n);have Z:Hid (∀W,MOk x _ _ _ _ _ W->Zh W r (.iface uy uv)->Calls _ _ _ W _):=hid (fun W k n=>D _ W k n);obtain⟨oz,o⟩:∃oz:Int,oz=((nd.op+1:Nat)):=⟨_,rfl⟩
 have F:=hid o;have N:(oz == 0)=false:=by rw[beq_eq_false_iff_ne];omega
 rw[<-o];have a6:=K.map.lt;clear T K L M B C D U o;have k:=ZgB (.agg #[Vi oz,.iface ty tv,.iface uy uv]);have n:=ZgA (.agg #[Vi oz,.iface ty tv,.iface uy uv]);have h3:=ZgC (.agg #[Vi oz,.iface ty tv,.iface uy uv]);go_enter func93,ntmps93
 go_upto_region 12 with fail
 refine ZP fun W O=>?_;have f:Below _ w W:=O▸Zbal;have A:Hid (BAt W _ _ 116):=O▸bnw;have d:=hid (HM.below f);have G:Hid (Zh W l _/\Zh W r _):=hid ⟨V.1.below f,V.2.below f⟩;have H:=hid f;clear O f k n h3 N;have x0:=A.cell 0;have x1:=A.cell 1;have x2:=A.cell 2;simp only[Zget]at x0 x1 x2
 have t : Hid (∀ u, BelX x _ W u -> u.cell? _ = some _ /\ u.cell? _ = some _ /\ u.cell? _ = some _) := hid (fun u h => by
   have g:=A.belX h Om;exact⟨g.cell 0,g.cell 1,g.cell 2⟩)
 go_region_held3 (fun u => u.cell? ⟨w.heap.size, 0, none⟩ = some (Vi oz) /\ u.cell? ⟨w.heap.size, 1, none⟩ = some (.iface ty tv) /\ u.cell? ⟨w.heap.size, 2, none⟩ = some (.iface uy uv)) (first | exact ⟨x0, x1, x2⟩ | exact t.out _ I.out | exact t.out _ v.out | exact t.out _ j.out | go_keep) (first
   | (go_at_call 93
      refine(Z.out P J.out a0.out).mono ?_;rintro e Q ⟨v6,rfl,a1,a2,i⟩;have v:Hid (BelX x W.heap.size W Q):=hid (j.trans (i.mono j.size));have R:Hid (ValP Q v5 (sayT (ss.map Srs.ser) tm l)):=hid (a3.jv (Zo.belX i.out J.map));clear i)
   | (go_at_call 93
      refine(Y.out _ (by exact⟨d.m,d.g,d.map,⟨d.sto.row,fun s hs=>(d.sto.ok s hs).jv (Zo.refl _),d.sto.len⟩⟩) (by exact G.1.jv (Zo.refl _))).mono ?_;rintro e P ⟨v5,rfl,a3,J,c⟩;have j:Hid (BelX x W.heap.size W P):=hid ⟨c.os,c.tape,c.output,c.size,c.block⟩;have a0:Hid (Zh P r (.iface uy uv)):=hid (G.2.jv (Zo.belX j.out d.map));clear c)
   | (go_at_call 154
      rw[F.out];refine(ZmH nd.op S v5 v6 _ _ Q R.out a1.out X.out).mono ?_;rw[<-F.out];rintro e w7 ⟨v7,rfl,a7,z⟩;have a4:=hid (a2.below z);have I:Hid (BelX x W.heap.size W w7):=hid (v.trans ((BelX.of z).mono v.size));clear z))
 have a5:=hid ((BelX.of H).trans (I.mono H.size));go_wp2;go_ret;exact⟨_,rfl,hid (by rwa [HS.out]),a4,a5⟩
theorem ZBP(nd:Nd)(l r:Tr)(a b:Nat)(hk:nd.jk=5)(H:nd.op<=3)(v:nd.by_.length<=100000)(I:ZdN (sayT (ss.map Srs.ser) tm l)=true)(J:ZcC x mb gb sv ss tm l):ZcC x mb gb sv ss tm (.node a b nd l r):=by
 intro pv w V hP
 obtain⟨i,la,ln,lc,q,a0,K,a1,X⟩:∃(i:BA) (la:Option _) (ln lc:Nat) (q:Value),pv=.iface 124 (.agg #[.string i,.slice la ln lc,q])/\bl i=ZW.getD nd.op []/\Zbm w (.slice la ln lc) nd.by_/\Zh w l q:=by
  rcases hP with ⟨h,_⟩|⟨h,_⟩|⟨h,_⟩|⟨h,_⟩|⟨_,h⟩|⟨h,_⟩
  ·omega
  ·omega
  ·omega
  ·omega
  ·exact h
  ·omega
 subst a0;obtain⟨ty,tv,rfl⟩:=X.shape;obtain⟨bs,A,B⟩:=a1;have L:bs.length<=100000:=by rw[<-B,Yak]at v;exact v
 obtain⟨av,cpv,a2⟩:=Zl A;injection a2 with e1 e2 e3;subst e2;have HS:Hid (sayT (ss.map Srs.ser) tm (.node a b nd l r)=.inr (Zcv _ (bs.map _) _)):=hid (by rw[sayT,if_neg Om,if_neg Om,if_neg Om,if_neg Om,if_pos hk,B]);have HM:=hid V;have HP:=hid X;have a3:=hid A;have a4:=hid (fun W Y Z=>Znu l I J ty tv W Y Z);have a5:=hid (fun W=>ZqX H K W);have b2:=V.map.lt;clear hP V X A I J K B v e1 e3;have Y:=Zhx (.agg #[.string i,.slice la bs.length lc,.iface ty tv]);have Z:=Zhw (.agg #[.string i,.slice la bs.length lc,.iface ty tv]);have h3:=Zhy (.agg #[.string i,.slice la bs.length lc,.iface ty tv]);have h4:=Zhv (.agg #[.string i,.slice la bs.length lc,.iface ty tv]);go_enter func93,ntmps93
 go_wp2_with fail
 refine Zm fun W hW=>?_;have M:Below _ w W:=hW▸Zbal;have HX:Hid (BAt W _ [.string _,.slice _ _ _,.iface _ _] 124):=hW▸bnw;have j:=hid M;clear hW M Y Z h3 h4;refine(Zs0 W _ _ _ rfl).mono ?_;rintro e z ⟨rfl,k⟩;have n:Below _ W _:=k▸Zbal;have N:z.cell? ⟨W.heap.size,0,none⟩=some (.slice _ _ _):=k▸Ydm _ _ _ _ (by simp) |>.trans rfl
 have O:W.heap.size<z.heap.size:=by rw[k];simp
 have P:=hid (Zsp L O N (Zn a3 (j.trans (n.mono j.size))));have C:=hid (j.trans (n.mono j.size));have Q:=hid (HX.below n);clear k n N O HX j
 go_wp2_with fail
 refine P.mono ?_;rintro e G ⟨nv,bs',rfl,f,D⟩;have f:=hid (And.intro (f.1.mono (Yag _)) f.2);obtain⟨na,ncp,rfl⟩:=Zl f.1;have o:=hid (C.trans (D.mono C.size));have p:=hid (Q.below D);have c:=hid (HM.below o);have a6:=hid (HP.below o);clear D Q C P;have x0:=p.cell 0;have x1:=p.cell 1;have x2:=p.cell 2;have m2:=c.m.cell 2;simp only[Zget]at x0 x1 x2 m2
 have a7:mb≠x:=by
  intro e;obtain⟨es,cl,hx⟩:=c.map;have:=c.m;rw[e]at this;unfold BAt at this;rw[hx]at this;cases this
 have R : Hid (∀ u, BelX x _ _ u -> u.cell? _ = some _ /\ u.cell? _ = some _ /\ u.cell? _ = some _) := hid (fun u h => by
   have g:=p.belX h Om;have g2:=c.m.belX h a7;exact⟨g.cell 0,g.cell 2,g2.cell 2⟩)
 go_upto_region 16 with fail
 go_region_held3 (fun u => u.cell? ⟨w.heap.size, 0, none⟩ = some (.string i) /\ u.cell? ⟨w.heap.size, 2, none⟩ = some (.iface ty tv) /\ u.cell? ⟨mb, 2, none⟩ = some (Vp gb)) (first | exact ⟨x0, x2, m2⟩ | exact R.out _ S.out | exact R.out _ t.out | go_keep) (first
   | (go_at_call 124
      refine(a5.out _).mono ?_;rintro e w4 ⟨rfl,rfl⟩)
   | (go_at_call 158
      refine(a4.out _ (by exact⟨c.m,c.g,c.map,⟨c.sto.row,fun s hs=>(c.sto.ok s hs).jv (Zo.refl _),c.sto.len⟩⟩) (by exact a6.jv (Zo.refl _))).mono ?_;rintro e w6 ⟨v6,l6,is6,rfl,T,E,d⟩;have t:Hid (BelX x G.heap.size G w6):=hid ⟨d.os,d.tape,d.output,d.size,d.block⟩;have a8:=hid ((Zo.belX t.out c.map).own f.1);clear d)
   | (go_at_call 157
      refine(ZqW gb x nd.op H bs' v6 l6 is6 w6 E.g E.map a8.out (by rw[f.2.1];exact L) f.2.2.1 T.1).mono ?_;rintro e w7 ⟨v7,is7,rfl,U,F⟩;have a9:=hid (E.belX F U.2);have S:Hid (BelX x G.heap.size G w7):=hid (t.trans (F.mono t.size));clear F))
 have b0:=hid ((BelX.of o).trans (S.mono o.size));have b1:Hid (VecV w7 v7 (Zcv nd.op (bs.map bl) l6) is7):=by rw[<-ZpJ f.2.2.2];exact U.1
 go_wp2;go_ret;exact⟨_,rfl,hid (HS.out▸T.2▸⟨_,is7,rfl,b1.out⟩),a9,b0⟩
end
section
variable {x mb gb:Nat} {sv:Value} {ss:List Srs} {tm:Int}
theorem Zm4(j : -1000000<=tm)(k:tm<=1000000)(o:Dst (ss.map Srs.ser))(A:ss.length<=30):∀t:Tr,wfT t->wT t<=100000->winT t->isNil t=false->Zf t≠0->ZcC x mb gb sv ss tm t
 | .nil,_,_,_,h,_=>by cases h
 | .node p q a l r, c, B, g, _, d => by
   have z:ownW a+wT l+wT r<=100000:=B;have u:=c.2.2.2.2.2.2.2.2.2.2.1;have v:=c.2.2.2.2.2.2.2.2.2.2.2;have m:=fun h i=>Zm4 j k o A l u Om g.2.1 h i;have w:=fun h i=>Zm4 j k o A r v Om g.2.2 h i;have D:=c.1;have f:=c.2.2.2.2.2.2.1;have s:=c.2.2.2.2.2.2.2.1;have vl:isNil l=false->Zf l=2->ZdN (sayT (ss.map Srs.ser) tm l)=true:=fun h i=>by rw[Zj7 _ tm l u h Om,i];rfl
   have vr:isNil r=false->Zf r=2->ZdN (sayT (ss.map Srs.ser) tm r)=true:=fun h i=>by rw[Zj7 _ tm r v h Om,i];rfl
   have kl:=Zid l;have kr:=Zid r;unfold Zf at d;rcases(by omega:a.jk=0∨a.jk=1∨a.jk=2∨a.jk=3∨a.jk=4∨a.jk=5∨a.jk=6)with h|h|h|h|h|h|h
   · exact ZBR a l r p q h (by unfold vOk;have:=c.2.2.2.2.1;have:=c.2.2.2.2.2.1;omega)
   · exact ZBT a l r p q h o j k
   · exact ZBU a l r p q h c.2.1 (g.1 h) o j k
   · rw[if_neg Om,if_neg Om,if_pos h]at d
     exact ZBQ a l r p q h (m (f Om) d)
   · rw[if_neg Om,if_neg Om,if_neg Om,if_neg Om]at d
     by_cases n:Zf l=0∨Zf r=0∨(a.jk=6/\Zf l+Zf r≠4)
     · simp_all
     · refine ZBO a l r p q h (c.2.2.1 h) ((Zj8 o _ r).mono (by simp_all;omega)) (m (f Om) (fun e=>n (.inl e))) (w (s Om) (fun e=>n (.inr (.inl e))))
   · rw[if_neg Om,if_neg Om,if_neg Om,if_pos h]at d
     by_cases n:Zf l=2
     · refine ZBP a l r p q h (c.2.2.2.1 h) (by have:=Zmw a.by_;unfold ownW at z;omega) (vl (f Om) n) (m (f Om) Om)
     simp_all
   · rw[if_neg Om,if_neg Om,if_neg Om,if_neg Om]at d
     by_cases n:Zf l=0∨Zf r=0∨(a.jk=6/\Zf l+Zf r≠4)
     · simp_all
     · have E:Zf l+Zf r=4:=by
         refine Yb6 fun C=>n (.inr (.inr ⟨h,C⟩))
       exact ZBS a l r p q h (vl (f Om) Om) (vr (s Om) Om) (m (f Om) Om) (w (s Om) Om)
end
section
theorem ZtJ(t:Tr){ts:List Int}{pv:Value}(e2:ts.length<=50)(P:∀t∈ts,-1000000<=t/\t<=1000000)(n:w.ownsRow 0 3 1 tv ts.length (ts.map (Value.int .i64)))(hP:Zh w t pv)(hS:StoP w sv ss)
  (F:∀x mb gb tm,-1000000<=tm->tm<=1000000->ZcC x mb gb sv ss tm t) (Q:∀tm,VOk 30 (sayT (ss.map Srs.ser) tm t)) (hp:ZR w) (hB:20<=w.heap.size) :
  CP 42 #[pv,sv,tv] w fun e w'=>∃r:BA,e=.returned (.string r)/\Hid (bl r=Zcn (ts.map (Zeu (ss.map Srs.ser) t)))/\BW w w':=by
 obtain⟨i0,hi,R,S,T⟩:=info_parts Tryz.infoStrG;obtain⟨ta,tcp,rfl⟩:=Zl n;obtain⟨sa,scp,rfl⟩:=Zl hS.row;obtain⟨pty,pu,rfl⟩:=hP.shape;have HP:=hid hp;have U:=hid hB;have b6:=hid P;have G:=hid n;have b7:=hid hP;have b8:=hid hS;have a9:=hid F;have b9:=hid Q;clear hp hB P n hP hS F Q;go_enter func42,ntmps42
 go_wp2_with fail
 refine(Zmp w).mono ?_;rintro e w1 ⟨rfl,V,X,o,Y⟩;have Z:=hid Y;have H:=hid o;clear Y o
 go_wp2_with (at_make;refine wpList_make_own _ rfl _ _ 122 rfl (w.heap.size+3) 9 i0 _ 1 underlying122 hi R S _ _ _ ts.length rfl rfl rfl ?b2 ?b3 ?b4 ?_)
 case b2=>rw[T];omega
 case b3=>unfold maxLen;omega
 case b4=>simp;have:=H.out;omega
 intro z p c;have o:=H.out;have f:Hid (BAt _ _ _ 193):=hid (BAt.grown bnw c (by simp));have s:=hid ((X.alloc _).grown c (by simp));have A:=hid ((V.below Zbal).grown c (by simp));have c6:=hid ((Z.alloc Om _).grown c (by simp;omega) (fun q hq=>by cases hq));have c7:=hid p;clear c p;generalize w1.heap.size=mb at *
 subst o;clear V X Z H;go_wp2
 go_loopw [8,19] (fun v i wr=>∃(k:Nat) (rs:List BA) (tm:Int),k<=ts.length/\i=Vi k/\rs.length=k/\Hid (wr.ownsRow (w.heap.size+3) 9 1 v rs.length (Zbc rs))/\Hid (rs.map bl=(ts.take k).map (Zeu (ss.map Srs.ser) t))/\Hid (∀r∈rs,r.size<=40000000000)/\Hid (BAt wr (w.heap.size+2) [.slice sa ss.length scp,Vi tm,Vp (w.heap.size+1)] 193)/\Hid (BAt wr (w.heap.size+1) [.map (some w.heap.size)] 281)/\Hid (MapX wr w.heap.size)/\Hid (BW w wr)) (fun _ i _=>ts.length - (intOf i).toNat)
 case atStart=>exact⟨0,[],0,Yag _,rfl,rfl,c7,hid rfl,hid (fun r hr=>by cases hr),f,s,A,c6⟩
 case round=>
  rename World=>wo
  obtain⟨k,rs,tm,hk,rfl,c8,HO,HL,HZ,f,s,A,I⟩:=hrel;have c9:=I.size;have e3:=f.lt;by_cases J:k<ts.length
  ·have hg:∃g,ta=some ⟨g,0,none⟩:=by
    obtain⟨g,cp',h⟩:=ZF G.out Om;injection h with h1;exact⟨g,h1⟩
   obtain⟨tg,rfl⟩:=hg;have d1:=Zi (Zn G I) k _ (by rw[Ya2,List.getElem?_eq_getElem J];rfl);have d0:Hid ((ts.take (k+1)).map (Zeu (ss.map Srs.ser) t)=(ts.take k).map (Zeu (ss.map Srs.ser) t)++[Zeu (ss.map Srs.ser) t ts[k]]):=by rw[List.take_succ_eq_append_getElem J,Yaq];rfl
   have K:=hid (b6 _ (List.getElem_mem J));generalize ts[k]=tk at *
   have e4:(k:Int)<(ts.length):=by omega
   have y1:=f.cell;have fz1:=f.frozen 1
   go_wp2_with fail
   refine Zm fun W E=>?_;have l:Hid _:=E▸I.setCell (by simp) _;have d2:=l.size
   have L : Hid (MOk _ _ _ _ _ _ W) := hid ⟨E▸f.set1, E▸s.other (by simp) _, by
     obtain⟨es,cl,hx⟩:=A.out;exact⟨es,cl,E▸(Go.Deep.blk_setCell_other _ _ _ _ (by simp)).trans hx⟩,b8.below l⟩
   have a0:Hid (W.ownsRow _ 9 1 _ _ _):=E▸ownsRow_setCell_below HO.out (by simp) _;have a1:=hid (b7.jv (Zo.below l));clear E I HO f s A y1 fz1 d1;refine(a9 _ _ _ _ K.1 K.2 _ W L a1).mono ?_;rintro e w5 ⟨v5,rfl,a2,a3,M⟩;have a4:=hid ((Zo.belX M L.map).own a0);have j:=hid (l.trans ((M.mono d2).below (Yac _)));have a5:=hid (HP.low j U);have d3:=j.size;clear L a0 a1 l M
   go_wp2_with fail
   refine(ZqI (by have:=K.out;unfold vOk;omega) _ a2 (b9 _) a5 (by have:=U.out;omega)).mono ?_;rintro e w6 ⟨r6,rfl,d4,a6,B⟩;have N:=hid (Zn a4 B);have a7:=hid (j.trans (B.mono d3));have C:=hid (a3.below B);have d5:=hid a6;have e5:=a7.size;have e6:=C.m.lt;clear B a6 a4 j a3 a5 a2
   go_wp2_with (at_builtin;refine wpList_append_own _ rfl (.tmp 25) (.tmp 30) 122 rfl (w.heap.size+3) 9 i0 (.string ByteArray.empty) 1 16 underlying122 hi R S T rfl Dc _ _ _ rfl (N.alloc _) ⟨w6.heap.size,0,none⟩ 1 1 [.string r6] rfl rfl ?c1 ?c2 ?c3 ?c4 ?c5 ?_)
   case c1=>exact ZcY rfl
   case c2=>intro u hu;simp at hu;subst hu;rfl
   case c3=>unfold maxLen;omega
   case c4=>omega
   case c5=>simp;omega
   intro v7 w7 O d _;have d6:Hid (w7.ownsRow (w.heap.size+3) 9 1 v7 (rs++[r6]).length (Zbc (rs++[r6]))):=by rwa [Zh2,Yab,c8]
   have D:∀a,a<w.heap.size+3->some a≠u8.ownBlock:=fun a ha e=>by have:=(N.lt a e.symm).1;omega
   have b0:=hid ((C.m.alloc _).grown d (D _ Om));have b1:=hid ((C.g.alloc _).grown d (D _ Om));have b5:=hid ((C.map.below Zbal).grown d (D _ Om));have d7:=hid ((a7.alloc Om _).grown d (by simp;omega) (fun q hq=>by have:=(N.lt q hq).1;omega));have d8:Hid ((rs++[r6]).map bl=(ts.take (k+1)).map (Zeu (ss.map Srs.ser) t)):=by rw[d0,Yaq,HL,Yco,d4];rfl
   have d9 : Hid (∀ r ∈ rs ++ [r6], r.size <= 40000000000) := hid (fun r hr => by
     rcases Yar.1 hr with h|h
     · exact HZ r h
     · rw[Yap]at h;subst h;exact d5)
   clear d O D;go_wp2
   go_roundw
   case rel=>exact⟨k+1,rs++[r6],tk,by omega,by go_num,by simp;omega,d6,d8,d9,b0,b1,b5,d7⟩
   case measure=>simp[intOf];omega
  ·obtain rfl:k=ts.length:=by omega
   have e0:Hid (rs.map bl=ts.map (Zeu (ss.map Srs.ser) t)):=by have:=HL.out;rwa [Ya4]at this
   go_wp2_with fail
   refine(Zqb HO Om HZ).mono ?_;rintro e w5 ⟨r5,rfl,e1,a8⟩;have j:=hid (I.trans (a8.mono c9));clear a8;go_wp2;go_ret;exact⟨_,rfl,hid (by rw[e1,e0]),j⟩
theorem Ze2{l:LB}(h:ZD l=.ok t):wfT t/\isNil t=false/\wT t<=100000:=by
 unfold ZD at h;by_cases c:300<l.length
 ·simp_all
 ·rw[if_neg c]at h;have f:=ZjB l (l.length+1) 0 (Yag _);have g:=ZjC l Om (l.length+1) 0;cases a:Zs (10*(ZN l (l.length+1) 0).length+5) false 0 .nil (ZN l (l.length+1) 0) 0 with
  | error e=>simp_all
  | ok z=>
   obtain⟨t',r⟩:=z;rw[a]at h;have i:=Zfv _ _ _ _ _ _ _ (fun e=>by cases e) a;simp only at h;by_cases d:(hd r).jk=0
   ·rw[if_pos d]at h;by_cases j:Zf t'=0
    ·simp_all
    simp_all;omega
   simp_all
theorem Zpz(s:BA)(A:Nat->Addr)(m:Int)(w:World)(H:Vars w A m)(M:ZR w)(N:20<=w.heap.size)(I:s.size<=9223372036854775807) :
  CP 7 #[.string s] w fun e S=>∃(r:BA) (c p:Nat),e=.returned (.tuple #[.string r,Vi c,Vi p])/\Hid (Zey (bl s)=(bl r,c,p))/\Hid ((∃t,ZD (bl s)=.ok t)∨c≠0)/\BW w S:=by
 have O:=hid (Ziu s w I H.sents);have T:=hid H;have U:=hid M;have E:=hid N;clear H M N;go_enter func7,ntmps7
 go_wp2_with fail
 refine O.mono ?_;rintro e X ⟨pv,v,rfl,d,i⟩;have f:=hid i;have h:=hid (T.below i);have P:=hid (U.low i E);have J:=hid (Yah E i.size);clear i O;cases j:ZD (bl s)with
 | ok t=>
  rw[j]at d;obtain⟨rfl,q⟩:=d.out;obtain⟨F,K,G⟩:=Ze2 j;have o:Hid (Zey _=(Zu t 1,0,0)):=hid (by unfold Zey;rw[j]);have V:Hid (∃t,ZD _=.ok t):=hid ⟨t,j⟩;have Q:=hid (Zj6 F G _ q P J);obtain⟨ty,u,R⟩:=Zh.shape q;subst R;clear d j q F K G
  go_wp2_with fail
  refine Q.mono ?_;rintro e z ⟨r,rfl,W,a⟩;have g:=hid (f.trans (a.mono f.size));clear a Q;go_wp2
  go_ret3
  exact⟨r,0,0,rfl,hid (by rw[o,W]),hid (.inl V),g⟩
 | error x=>
  rw[j]at d;have o:Hid (Zey _=([],x.1,x.2)):=hid (by unfold Zey;rw[j]);clear j;rcases d.out with ⟨rfl,rfl⟩|⟨rfl,rfl⟩|⟨B,n⟩|⟨B,n⟩
  ·clear d
   go_wp2_with fail
   refine(ZjQ A m _ h).mono ?_;rintro e L ⟨rfl,rfl⟩
   go_wp2_with fail
   refine(Zdm A m _ h).mono ?_;rintro e z ⟨rfl,a⟩;have g:=hid (f.trans (a.mono f.size));clear a;go_wp2
   go_ret3
   exact⟨⟨#[]⟩,1,0,rfl,o,hid (.inr Dc),g⟩
  ·clear d
   go_wp2_with fail
   refine(Zmu A m h).mono ?_;rintro e L ⟨rfl,rfl⟩
   go_wp2_with fail
   refine(Zdm A m _ h).mono ?_;rintro e z ⟨rfl,a⟩;have g:=hid (f.trans (a.mono f.size));clear a;go_wp2
   go_ret3
   exact⟨⟨#[]⟩,4,0,rfl,o,hid (.inr Dc),g⟩
  ·obtain⟨x1,x2⟩:=x;simp only at B n;subst B;obtain⟨fa,rfl,k,l⟩:=n.cells;clear d n;have C:=hid k;have D:=hid l;clear k l
   go_wp2_with fail
   refine(Zmt A m h _ D).mono ?_;rintro e L ⟨rfl,rfl⟩
   go_wp2_with fail
   refine(ZdB A m _ _ _ h C).mono ?_;rintro e z ⟨rfl,a⟩;have g:=hid (f.trans (a.mono f.size));clear a;go_wp2
   go_ret3
   exact⟨⟨#[]⟩,2,x2,rfl,o,hid (.inr Dc),g⟩
  ·obtain⟨x1,x2⟩:=x;simp only at B n;subst B;obtain⟨fa,rfl,k,l⟩:=n.cells;clear d n;have C:=hid k;have D:=hid l;clear k l
   go_wp2_with fail
   refine(Zms A m h _ D).mono ?_;rintro e L ⟨rfl,rfl⟩
   go_wp2_with fail
   refine(ZdB A m _ _ _ h C).mono ?_;rintro e z ⟨rfl,a⟩;have g:=hid (f.trans (a.mono f.size));clear a;go_wp2
   go_ret3
   exact⟨⟨#[]⟩,3,x2,rfl,o,hid (.inr Dc),g⟩
theorem Zzy(A:Nat->Addr)(m:Int)(a:Vars w A m) :
  CP 18 #[.iface 432 (.pointer (some (A 10)))] w fun e u=>e=.returned (Vi 11)/\u=w:=by
 have v:=a.all;go_enter func18,ntmps18
 iterate 10 (go_wp2_with fail;refine cret (Zg7 a) ?_)
 go_wp2_with fail
 refine cret (Zf7) ?_;go_wp2;go_ret;exact⟨rfl,rfl⟩
theorem ZvS(q s:BA)(f l st:Int)(A:Nat->Addr)(m:Int)(w:World)(U:Vars w A m)(ht:ZR w)(hB:20<=w.heap.size)(d:q.size<=9223372036854775807)(hs:s.size<=maxLen) :
  CP 23 #[.string q,.string s,.agg #[Vi f,Vi l,Vi st]] w fun e w'=>∃(r:BA) (err:Value) (c p:Nat),e=.returned (.tuple #[.string r,err])/\Hid (Zfb w' A err c p)/\Hid (ZdK (bl q) (bl s) f l st=(bl r,c,p))/\BW w w':=by
 have V:=hid (fun W E=>Ziu q W d (U.below E).sents);have X:=hid (fun W E=>Zss s A m W (U.below E) hs);have Y:=hid (fun W E=>ZrI f l st W ((U.below E).sent _ Dc));have HT:=hid ht;have Z:=hid hB;clear U ht hB d hs;go_enter func23,ntmps23
 go_wp2_with fail
 refine Zm fun W hW=>?_;have B:Below _ w W:=hW▸Zbal;have a0:Hid (BAt W _ _ 23):=hW▸bnw;refine(V W B).mono ?_;rintro e w1 ⟨pv,v,rfl,g,F⟩;have h:=hid (B.trans (F.mono B.size));have G:=hid (a0.below F);clear F V B hW a0;cases d:ZD (bl q)with
 | error x=>
  obtain⟨H,ty,u,rfl⟩:=Zfb.rd d g;have HE:=hid H;have k:Hid (ZdK _ (bl s) f l st=([],x.1,x.2)):=hid (by unfold ZdK;rw[d]);clear g d H;go_wp2;go_ret2;exact⟨_,_,_,_,rfl,HE,k,h⟩
 | ok t=>
  rw[d]at g;obtain⟨rfl,I⟩:=g.out;obtain⟨ty,u,rfl⟩:=I.shape;have a1:=hid I;have J:=hid (Ze2 d);have a2:=hid (ZBk d)
  have K:Hid (∀x,(if (Zbp _).1≠0 then ([],(Zbp _).1,(Zbp _).2)else match Zdr f l _ with
   | none=>([],8,0)
   | some _=>(Zcn _,0,0))=x->ZdK _ (bl s) f l st=x):=hid (fun x hx=>by unfold ZdK;rw[d];exact hx)
  clear g d I
  go_wp2_with fail
  refine(X _ h).mono ?_;rintro e z ⟨sv,err,rfl,L,C,M⟩;have i:=hid (h.trans (C.mono h.size));have N:=hid (a1.jv (Zo.below C));have O:=hid (G.below C);clear C X G a1 h;rcases Zfb.ld L with ⟨n,rfl⟩|⟨n,H,ty',u',rfl⟩
  ·obtain⟨ss,o,P,Q,R⟩:=(M.out n).sto n;obtain⟨sa,scp,rfl⟩:=Zl o.row;have a3:=hid o;have a9:=hid P;have a4:=hid Q;have b0:=hid R;have H0:=hid n;clear L M o P Q R n;have x0:=O.cell
   go_wp2_with fail
   clear x0;refine(Y _ i).mono ?_;rintro e w3 ⟨tv,ev,rfl,S,D⟩;have j:=hid (i.trans (D.mono i.size));have a7:=hid (N.jv (Zo.below D));have a8:=hid (a3.below D);clear D Y N a3 O i;rcases S.out with ⟨T,rfl,rfl⟩|⟨ts,T,h2,h3,rfl,h4⟩
   ·have k:Hid (ZdK _ _ f l _=([],8,0)):=hid (K _ (by rw[if_neg (by rw[H0];simp),T]));clear S T;go_wp2;go_ret2;exact⟨_,_,8,0,rfl,hid (.inr (.inr (.inr (.inr (.inl ⟨rfl,rfl,rfl⟩))))),k,j⟩
   ·obtain⟨ta,tcp,rfl⟩:=Zl h4;have k:Hid (ZdK _ _ f l _=(Zcn (ts.map (Zeu (ss.map _) t)),0,0)):=hid (K _ (by rw[if_neg (by rw[H0];simp),T,a9]))
    have a5:=hid (ZtJ t h2 h3 h4 a7 a8
     (fun x mb gb tm a b=>Zm4 a b a4 b0 t J.1 J.2.2 a2.1 J.2.1 a2.2)
     (fun tm=>(Zj8 a4 _ t).mono (by rwa [Yak])) (HT.low j Z) (Yah Z j.size))
    clear S T h2 h3 h4
    go_wp2_with fail
    refine a5.mono ?_;rintro e w4 ⟨r4,rfl,b1,a6⟩;have b2:=hid (j.trans (a6.mono j.size));clear a6 a5;go_wp2;go_ret2;exact⟨r4,_,0,0,rfl,hid (.inl ⟨rfl,rfl,rfl⟩),hid (by rw[k,b1]),b2⟩
  ·have HE:=hid H;have k:=hid (K _ (by rw[if_pos n]));clear L M H n;go_wp2;go_ret2;exact⟨_,_,_,_,rfl,HE,k,i⟩
