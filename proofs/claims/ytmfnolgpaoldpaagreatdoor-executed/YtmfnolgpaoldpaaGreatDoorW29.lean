/- Parts. -/
import Derived.Test.YtmfnolgpaoldpaaGreatDoorW28
set_option linter.all false
set_option maxRecDepth 100000
set_option maxHeartbeats 16000000
namespace Go.Proofs.YtmfnolgpaoldpaaGreatDoor
open Go.RowKit LS Go.Proofs.Tryz
variable {nm s tx:BA}{l:LB}{xs:List Value}{es:List Yn}{qs:List<|BA×BA×Bool}{ps:List<|LB}{rs:List<|Value×Value×Value×Value}{b lc ln n sn:Nat}{a nd:Nd}{la:Option Addr}{lv sv v what:Value}{W w w':World}
structure YU where
 nm:BA
 a:Option Addr
 n:Nat
 c:Nat
 tx:BA
 qs:List<|BA×BA
 sa:Option Addr
 sc:Nat
 jm:List<|Int×Int
def YU.enc(s:YU):List Value:=[.string s.nm,.slice s.a s.n s.c,.string s.tx,.slice s.sa s.jm.length s.sc]
def YU.ser(s:YU):YY:=⟨bl s.nm,s.qs.map Xt,s.jm⟩
structure Sa (w:World)(s:YU):Prop where
 lb:Xz w s.a s.n s.c s.tx s.qs
 sam:XO w s.sa s.jm
 tm:Ru s.jm
 len:s.jm.length<=6001
 cap:s.jm.length<=s.sc
 ok:∀x∈s.jm,Vc x
theorem Sa.jk{s:YU}(h:Sa w s)(a:Zu w w'):Sa w' s:=⟨h.lb.jk a,h.sam.jk a,h.tm,h.len,h.cap,h.ok⟩
theorem Z0.jk{ns:List<|LB×LB×Bool}(h:Z0 w v ns)(a:Zu w w'):Z0 w' v ns:=by
 obtain⟨bs,c,d⟩:=h;exact⟨bs,a.own c,d⟩
theorem Ue.jk{ns:List<|LB}(h:Ue w v ns)(a:Zu w w'):Ue w' v ns:=by
 obtain⟨bs,c,d⟩:=h;exact⟨bs,a.own c,d⟩
theorem sH(l:List<|BA×BA×Bool)(j:Nat)(c:j<l.length):(UF l)[j*3]?=some (.string l[j].1)/\(UF l)[j*3+1]?=some (.bool l[j].2.2)/\(UF l)[j*3+2]?=some (.string l[j].2.1):=by
 induction l generalizing j with
 |nil=>simp at c
 |cons a l ih=>
  cases j with
  |zero=>exact⟨C,C,C⟩
  |succ j=>
   have h:=ih j<|by simpa using c
   rw[show(j+1)*3=j*3+1+1+1 by omega];simpa [UF]using h
theorem jY(s:YY)(h:qs.map Wo=a.kq)(k:Nat)(c:k<qs.length)(d:RM s (Wo qs[k])=false):UI a s=false:=by
 unfold UI;rw[<-h,show(qs.map _).all _=false from ?_];rfl;rw[Kn];exact⟨Wo _,XJ.mpr ⟨_,List.getElem_mem c,C⟩,by simp[d]⟩
theorem jZ(s:YY)(h:qs.map Wo=a.kq)(d:∀q∈qs,RM s (Wo q)=true):UI a s=decide (a.name=s.name):=by
 unfold UI;rw[<-h,show(qs.map _).all _=true from ?_];rfl;rw[Tt];intro c e;obtain⟨q,f,rfl⟩:=XJ.mp e;exact d q f
theorem kD{base:Nat}{e:TypeId}{size:Nat}(h:w.ownsRow base e size v n xs):n<=9223372036854775807:=by
 rcases h.2 with⟨_,c⟩|⟨g,cap,cur,d,f,i,j,a,r⟩
 .omega
 .unfold maxLen at a;omega
theorem Gs(a b:BA):(a.toList==b.toList)=decide (bl a=bl b):=by
 rw[ZA,ZA,Ud,XL,Qs]
theorem ie(s:YU)(G:bl nm=nd.name)(hc:Z0 w (.slice la ln lc) nd.kq)(U:Xz w s.a s.n s.c s.tx s.qs):
 CP 174 #[.agg #[.string nm,.slice la ln lc],.agg #[.string s.nm,.slice s.a s.n s.c,.string s.tx,.slice s.sa s.jm.length s.sc]] w λe u=>e=.returned (.bool<|UI nd s.ser)/\BW w u:=by
 obtain⟨cs,f,H⟩:=hc;have a3:=kD f;obtain⟨av,cp,hv⟩:=Zd f;injection hv with hv1 hv2 hv3;subst hv2;have V:=I f;have m:Hid<|bl _=nd.name/\cs.map _=nd.kq:=⟨G,H⟩;obtain⟨snm,a,n,c,tx,qs,sa,sc,jm⟩:=s;have HL:Hid<|TQ w 0 (.slice a n c) n qs:=U.row;clear f hv1 hv3 H G U;obtain⟨S,o⟩:∃S,S=YU.ser ⟨snm,a,n,c,tx,qs,sa,sc,jm⟩:=⟨_,C⟩;have J:Hid<|S.name=bl snm/\S.labs=qs.map Xt:=o▸⟨C,C⟩;rw[<-o];clear o;simp only;have Y:Hid<|(snm.toList==nm.toList)=decide (nd.name=S.name):=by
  rw[Gs,m.1,J.1,O7];exact⟨λh=>h.symm,λh=>h.symm⟩
 by_cases d:nd.name≠S.name
 .have P:=Y.out;rw[Wl d]at P;have i:Hid<|UI _ S=false:=I<|by unfold UI;rw[Wl d,O9]
  go_enter func174,ntmps174;go_wp2;go_ret;exact⟨by rw[i];rfl,Yh⟩
 replace d:=Classical.not_not.1 d;have P:=Y.out;rw[WI d]at P;have Z:=I d;clear d;go_enter func174,ntmps174;go_wp2;go_loopg [16] cs.length (λgk v16 wr=>∃k:Nat,k<=cs.length/\gk=cs.length-k/\v16=E k/\Hid (∀q∈cs.take k,RM S (Wo q)=true)/\Hid (BW w wr)/\Hid (Ya wr (w.heap.size+1) [.string snm,.slice a n c,.string tx,.slice sa jm.length sc] 201));case atStart=>exact⟨0,Yr _,C,C,I<|by intro q hq;simp at hq,I<|Yc.alloc Sm _,I<|by have:=Go.Deep.blk_alloc_new (w.alloc<|.cells #[.string nm,.slice la cs.length lc] 229)<|.cells #[.string snm,.slice a n c,.string tx,.slice sa jm.length sc] 201;rw[Go.Deep.nblk_alloc]at this;exact this⟩
 case round=>
  obtain⟨k,hk,a4,rfl,HR,p,Q⟩:=hrel;by_cases t:k<cs.length
  .have hg:∃g,la=some ⟨g,0,none⟩:=by
    obtain⟨g,cp',h⟩:=Zm V.out X;injection h with h1;exact⟨g,h1⟩
   obtain⟨g,rfl⟩:=hg;have j:=I<|Ze V p;obtain⟨f1,f2,f3⟩:=sH _ k t;have d1:=Zc j _ _ f1;have d2:=Zc j _ _ f2;have d3:=Zc j _ _ f3;have HK:=I λh=>jY S m.2 k t h;have HN:Hid<|RM S (Wo cs[k])=true->∀q∈cs.take<|k+1,RM S (Wo q)=true:=by
    intro hh q K;rw[List.take_succ_eq_append_getElem t]at K;rcases Wk.mp K with h|h
    .exact HR q h
    .rw[Vs]at h;subst h;exact hh
   generalize cs[k]=q at*;obtain⟨x,y,v⟩:=q;simp only at d1 d2 d3;clear f1 f2 f3;have a5:(k:Int)<(cs.length):=X;go_upto_region 6 with fail;refine Zs λW R=>?_;have z:Below _ _ W:=R▸Yc;have A:Hid<|Ya W _ _ 374:=R▸YO;have B:=I<|p.trans<|z.mono p.size;have D:=I<|Q.below z;have a6:=Q.lt;have a7:=A.lt;have a0:=I<|HL.below B;clear R z p Q d1 d2 d3 j;have b1:=D.cell 1;have b2:=D.cell 2;have c0:=A.cell 0;have c1:=A.cell 1;have c2:=A.cell 2;simp only[Yf]at b1 b2 c0 c1 c2;go_region_held3 (λu=>u.cell? ⟨w.heap.size+1,1,none⟩=some (.slice a n c)/\u.cell? ⟨w.heap.size+1,2,none⟩=some (.string tx)/\u.cell? ⟨wr.heap.size,0,none⟩=some (.string x)/\u.cell? ⟨wr.heap.size,2,none⟩=some (.string y)) (first|exact⟨b51,b52,c50,c52⟩|exact⟨b1,b2,c0,c2⟩|go_keep) (first
    | (go_at_call 204;refine(qV tx x qs<|by exact a0.below ⟨C,C,C,Yj _,λ_ _=>C⟩).mono ?_;rintro e w5 ⟨r,rfl,a1,L⟩;have F:Hid<|BW W w5:=I<|Gq L;have a2:=I<|A.below F.out;have M:=I<|D.below F.out;have c50:=a2.cell;have b51:=M.cell;clear L));have HQ:Hid<|RM S (Wo (x,y,v))=!((r.toList==y.toList)==v):=by
    rw[Gs,a1,<-J.2];rfl
   have O:=I<|B.trans<|F.mono B.size;generalize(r.toList==y.toList)=b at*;by_cases l:b=v
   .have i:=I<|HK<|by rw[HQ,l];simp
    have T:(b==v)=true:=by rw[l];simp
    go_wp2;go_ret;exact⟨by rw[i];rfl,O⟩
   .have i:=I<|HN<|by rw[HQ];simp[l]
    have T:(b==v)=false:=by simp[l]
    go_wp2;go_roundg (cs.length-(k+1));case measure=>omega
    case rel=>exact⟨k+1,X,C,by go_num,i,O,M⟩
  .obtain rfl:k=cs.length:=X;have i:=I<|jZ S m.2<|by have:=HR.out;rwa [X1]at this
   go_wp2;go_ret;exact⟨by rw[i,WI Z.out];rfl,p⟩
structure Wq where
 a:Option Addr
 n:Nat
 c:Nat
 tx:BA
 qs:List<|BA×BA
 sa:Option Addr
 sc:Nat
 jm:List<|Int×Int
def Wq.enc(s:Wq):List Value:=[.slice s.a s.n s.c,.string s.tx,.slice s.sa s.jm.length s.sc]
def Wq.pr(s:Wq):List Xc×List (Int×Int):=(s.qs.map Xt,s.jm)
structure Y4 (w:World)(s:Wq):Prop where
 lb:Xz w s.a s.n s.c s.tx s.qs
 sam:XO w s.sa s.jm
 ne:s.jm≠[]
 len:s.jm.length<=6001
 ok:∀x∈s.jm,Vc x
theorem Y4.kb{t:TypeId}{s:Wq}(h:Y4 w s)(a:Wc t w w')(c:340≠t)(d:315≠t):Y4 w' s:=⟨h.lb.kb a c,h.sam.kb a d,h.ne,h.len,h.ok⟩
theorem Y4.jk{s:Wq}(h:Y4 w s)(a:Zu w w'):Y4 w' s:=⟨h.lb.jk a,h.sam.jk a,h.ne,h.len,h.ok⟩
def Ua(l:List Wq):List Value:=(l.map Wq.enc).flatten
theorem rh(l m:List Wq):Ua (l++m)=Ua l++Ua m:=by unfold Ua;rw[Y9,J0]
theorem DY(l:List Wq)(j:Nat)(d:j<l.length):(Ua l)[j*3]?=some (.slice l[j].a l[j].n l[j].c)/\(Ua l)[j*3+1]?=some (.string l[j].tx)/\(Ua l)[j*3+2]?=some (.slice l[j].sa l[j].jm.length l[j].sc):=by
 induction l generalizing j with
 |nil=>simp at d
 |cons a l ih=>
  have e:Ua (a::l)=.slice _ _ _::.string _::.slice _ _ _::Ua l:=C;cases j with
  |zero=>rw[e];exact⟨C,C,C⟩
  |succ j=>
   have h:=ih j<|by simpa using d
   rw[e,show(j+1)*3=j*3+1+1+1 by omega];simpa using h
structure Wa (w:World)(v:Value)(rs:List Wq):Prop where
 row:w.ownsRow 0 311 3 v rs.length<|Ua rs
 ok:∀s∈rs,Y4 w s
theorem Wa.jk{rs:List Wq}(h:Wa w v rs)(a:Zu w w'):Wa w' v rs:=⟨a.own h.row,λs c=>(h.ok s c).jk a⟩
theorem Wa.below{rs:List Wq}(h:Wa w v rs)(a:BW w w'):Wa w' v rs:=h.jk<|Zu.below a
def VH(st:List YY)(a:Nd)(n t:Int):List<|List Xc×List (Int×Int):=(st.filter λs=>UI a s&&!(ZM s.jm n t).isEmpty).map λs=>(s.labs,ZM s.jm n t)
theorem jG{st:List YY}{s:YY}{n t:Int}:VH (st++[s]) a n t=if UI a s&&!(ZM s.jm n t).isEmpty then VH st a n t++[(s.labs,ZM s.jm n t)]else VH st a n t:=by
 unfold VH;rw[N6,Y9];split
 .rename_i h;rw[NX<|by simpa using h];rfl
 .rename_i h;rw[NY<|by simpa using h];simp
theorem By(st:List YY)(a:Nd)(n t:Int):(VH st a n t).length<=st.length:=by
 unfold VH;rw[Yz];exact Qq _ _
theorem mY (st:List YY)(a:Nd)(op:Option Nat)(n t:Int):P2 st a op n t=(VH st a n t).map λp=>(p.1,X3 op p.2):=by
 unfold P2 VH;rw[VD];rfl
def Sr(l:List YU):List Value:=(l.map YU.enc).flatten
theorem ri(l:List YU)(j:Nat)(d:j<l.length):(Sr l)[j*4]?=some (.string l[j].nm)/\(Sr l)[j*4+1]?=some (.slice l[j].a l[j].n l[j].c)/\(Sr l)[j*4+2]?=some (.string l[j].tx)/\(Sr l)[j*4+3]?=some (.slice l[j].sa l[j].jm.length l[j].sc):=by
 induction l generalizing j with
 |nil=>simp at d
 |cons a l ih=>
  have e:Sr (a::l)=.string _::.slice _ _ _::.string _::.slice _ _ _::Sr l:=C;cases j with
  |zero=>rw[e];exact⟨C,C,C,C⟩
  |succ j=>
   have h:=ih j<|by simpa using d
   rw[e,show(j+1)*4=j*4+1+1+1+1 by omega];simpa using h
structure Up (w:World)(v:Value)(ss:List YU):Prop where
 row:w.ownsRow 0 201 4 v ss.length<|Sr ss
 ok:∀s∈ss,Sa w s
 len:ss.length<=30
theorem Up.jk{ss:List YU}(h:Up w v ss)(a:Zu w w'):Up w' v ss:=⟨a.own h.row,λs c=>(h.ok s c).jk a,h.len⟩
theorem Up.below{ss:List YU}(h:Up w v ss)(a:BW w w'):Up w' v ss:=h.jk<|Zu.below a
theorem Tryz.infoStretch:(Tryz.prog.info? 311).map (λi=>(i.zero,i.size,i.bytes))=some (some<|.agg #[S0,.string ByteArray.empty,S0],3,64):=Kr
theorem Af{ss:List YU}(n t:Int)(w:World)(S:Up w sv ss)(a7:bl nm=nd.name)(hc:Z0 w (.slice la ln lc) nd.kq)(b5:0<=n)(b6:n<=1000)(b7:-1000000<=t)(b8:t<=1000000):
 CP 138 #[sv,.agg #[.string nm,.slice la ln lc],E n,E t] w λe w'=>∃v rs,e=.returned v/\Hid (Wa w' v rs/\rs.map Wq.pr=VH (ss.map YU.ser) nd n t)/\BW w w':=by
 obtain⟨i0,hi,b9,c0,c6⟩:=Xv Tryz.infoStretch;obtain⟨sa,scp,rfl⟩:=Zd S.row;have a8:=I S;have d6:=S.len;have c7:=I a7;have HC:=I hc;clear S a7 hc;go_enter func138,ntmps138;go_wp2;go_loopw [9,15] (λv i wr=>∃(k:Nat)(rs:List Wq),k<=ss.length/\i=E k/\rs.length<=k/\wr.ownsRow (w.heap.size+1) 311 3 v rs.length (Ua rs)/\Hid ((∀s∈rs,Y4 wr s)/\rs.map Wq.pr=VH ((ss.take k).map YU.ser) nd n t)/\Hid (Ya wr w.heap.size [.string nm,.slice la ln lc] 229)/\Hid (BW w wr))
  (λ_ i _=>ss.length-(intOf i).toNat);case atStart=>exact⟨0,[],Yr _,C,Yr _,Xm _ _ _ _,I ⟨(by intro s L;cases L),by simp[VH]⟩,I YO,I Yc⟩
 case round=>
  obtain⟨k,rs,hk,rfl,d7,M,HR,G,HB⟩:=hrel;by_cases a0:k<ss.length
  .have hg:∃g,sa=some ⟨g,0,none⟩:=by
    obtain⟨g,cp',h⟩:=Zm a8.row X;injection h with h1;exact⟨g,h1⟩
   obtain⟨g,rfl⟩:=hg;have r:=I<|a8.below HB;obtain⟨f1,f2,f3,f4⟩:=ri _ k a0;have d1:=Zc r.row _ _ f1;have d2:=Zc r.row _ _ f2;have d3:=Zc r.row _ _ f3;have d4:=Zc r.row _ _ f4;have a9:=I<|r.ok _<|List.getElem_mem a0;have H:Hid<|VH ((ss.take<|k+1).map YU.ser) nd n t=if UI nd (ss[k]).ser&&!(ZM (ss[k]).jm n t).isEmpty then VH ((ss.take k).map YU.ser) nd n t++[((ss[k]).qs.map Xt,ZM (ss[k]).jm n t)]else VH ((ss.take k).map YU.ser) nd n t:=List.take_succ_eq_append_getElem a0▸Y9▸jG;generalize ss[k]=s at*;clear f1 f2 f3 f4 r;have d8:(k:Int)<(ss.length):=X;have x0:=G.cell 0;have x1:=G.cell 1;simp only[Yf]at x0 x1;have d9:=G.lt;go_wp2_with fail;refine Zv λW hW=>?_;have A:Below _ _ W:=hW▸Yc;have T:=I<|HB.trans<|A.mono HB.size;have b0:Hid<|Ya W _ [.string _,.slice _ _ _,.string _,.slice _ _ _] 201:=hW▸YO;have a1:=I<|G.below A;have U:=Ze M A;have a2:Hid<|(∀s∈rs,Y4 W s)/\rs.map _=VH _ _ n t:=I ⟨λs L=>(HR.1 s L).jk<|Zu.below A,HR.2⟩;have O:=I<|a9.jk<|Zu.below A;clear hW A M HR G x0 x1 d1 d2 d3 d4 a9 HB;refine(ie s c7 (HC.below T) O.lb).mono ?_;rintro e w1 ⟨rfl,m⟩;have V:=I<|T.trans<|m.mono T.size;have f:=I<|b0.below m;have P:=I<|a1.below m;have B:=Ze U m;have J:Hid<|(∀s∈rs,Y4 _ s)/\rs.map _=VH _ _ n t:=I ⟨λs L=>(a2.1 s L).jk<|Zu.below m,a2.2⟩;have j:=I<|O.jk<|Zu.below m;clear m T b0 a1 U a2 O;cases hp:UI nd s.ser with
   |false=>
    have K:Hid<|(∀s∈rs,Y4 _ s)/\rs.map Wq.pr=VH ((ss.take<|k+1).map YU.ser) nd n t:=I ⟨J.1,H.out▸hp▸J.2⟩;clear hp;go_wp2;go_roundw;case rel=>exact⟨k+1,rs,X,by go_num,X,B,K,P,V⟩
    case measure=>simp[intOf];omega
   |true=>
    have HP:=I hp;clear hp;have x0:=f.cell 0;have x1:=f.cell 1;have x2:=f.cell 2;have x3:=f.cell 3;simp only[Yf]at x0 x1 x2 x3;go_wp2_with fail;refine(iz n t j.tm j.len j.cap b5 b6 b7 b8 j.sam).mono ?_;rintro e w2 ⟨av',cp',rfl,a3,p⟩;have a4:=I<|V.trans<|p.mono V.size;have b3:=I<|f.below p;have Q:=I<|P.below p;have d:=Ze B p;have Y:Hid<|(∀s∈rs,Y4 _ s)/\rs.map _=VH _ _ n t:=I ⟨λs L=>(J.1 s L).jk<|Zu.below p,J.2⟩;have R:=I<|j.jk<|Zu.below p;clear p V f P B J j x0 x1 x2 x3;obtain⟨l,Z⟩:∃l,ZM s.jm n t=l:=⟨_,C⟩;rw[Z]at a3 H⊢;by_cases he:l=[]
    .have K:Hid<|(∀s∈rs,Y4 _ s)/\rs.map _=VH _ _ n t:=I ⟨Y.1,by rw[H,he];simpa using Y.2⟩;subst he;go_wp2;go_roundw;case rel=>exact⟨k+1,rs,X,by go_num,X,d,K,Q,a4⟩
     case measure=>simp[intOf];omega
    .have d5:=QZ.2 he;have c8:Hid<|VH _ _ n t=VH ((ss.take k).map _) _ n t++[(s.qs.map Xt,l)]:=I<|by
      rw[H,HP,Ye];simpa using he
     have c9:Hid<|Y4 _ ⟨s.a,s.n,s.c,s.tx,s.qs,av',cp',l⟩:=I ⟨R.lb,a3,he,by
      have:l.length<=s.jm.length:=Z▸Qq _ _;have:=R.len;show l.length<=6001;omega,λx hx=>R.ok x<|by rw[<-Z]at hx;exact(Qv.1 hx).1⟩;have e0:(0:Int)<(l.length):=X;have x0:=b3.cell;have e1:=a4.size;have e2:=Q.lt;clear Z he H HP a3;go_wp2_with(at_builtin;refine XC _ C (.tmp 31) (.tmp 36) 233 C (w.heap.size+1) 311 i0 (.agg #[S0,.string ByteArray.empty,S0]) 3 64 underlying233 hi b9 c0 c6 C N _ _ _ C (d.alloc _) ⟨w2.heap.size,0,none⟩ 1 1 [.slice s.a s.n s.c,.string s.tx,.slice av' l.length cp'] C C ?c1 ?c2 ?c3 ?c4 ?c5 ?_);case c1=>exact EU Sm Sm Sm
     case c2=>intro u hu;simp at hu;rcases hu with rfl|rfl|rfl<;>rfl
     case c3=>unfold maxLen;omega
     case c4=>omega
     case c5=>simp;omega
     intro v' w3 a5 D _;have b1:=(a4.alloc X _).grown D (by simp;omega) λq hq=>by have:=(d.lt q hq).1;omega
     have b2:∀o,Wc 311 _<|w2.alloc o:=λo=>Wc.below Yc _;have F:=(b2 _).trans<|Wc.grown D<|d.alloc _;have a6:w3.ownsRow (w.heap.size+1) 311 3 v' (rs++[(⟨s.a,s.n,s.c,s.tx,s.qs,av',cp',l⟩:Wq)]).length<|Ua<|rs++[(⟨s.a,s.n,s.c,s.tx,s.qs,av',cp',l⟩)]:=by rwa [rh,Yv]
     have K:Hid<|(∀z∈rs++[(⟨s.a,s.n,s.c,s.tx,s.qs,av',cp',l⟩)],Y4 _ z)/\(rs++[(⟨s.a,s.n,s.c,s.tx,s.qs,av',cp',l⟩:Wq)]).map _=VH _ _ n t:=I ⟨λz hz=>by
      rcases Wk.1 hz with hz|hz
      .exact(Y.1 z hz).kb F N N
      .rw[Vs]at hz;subst hz;exact c9.kb F N N,by rw[c8,Y9,Y.2];rfl⟩;have b4:Hid<|Ya _ _ _ _:=I<|F _ _ _ _ N Q;clear d D a5 b2 F x0;have d0:=I b1;clear b1;go_wp2;go_roundw;case rel=>exact⟨k+1,_,X,by go_num,by simp;omega,a6,K,b4,d0⟩
     case measure=>simp[intOf];omega
  .obtain rfl:k=ss.length:=X;have K:Hid<|(∀s∈rs,Y4 _ s)/\rs.map _=VH _ _ n t:=I ⟨HR.1,by have:=HR.2;rwa [X1]at this⟩;go_wp2;go_ret;exact⟨_,rs,C,I ⟨⟨M.mono<|Yr _,K.1⟩,K.2⟩,HB⟩
theorem BB(s:BA)(m:Int)(w:World)(g:s.size<=6000)(h:w.cell? ⟨14,0,none⟩=some (E m)):
 CP 131 #[.string s] w λe u=>∃(a:Option Addr)(n cap:Nat)(ok:Bool),e=.returned (.tuple #[.slice a n cap,.bool ok])/\
  Hid (ok=(Wp<|bl s).isSome/\(ok=true->∃qs,TQ u 0 (.slice a n cap) n qs/\Wp (bl s)=some (qs.map Xt)))/\BW w u:=by
 cases c:s.toList.isEmpty
 .have d:=OH c;have i:Wp (bl s)=Wf [] [] (split 44<|bl s):=by unfold Wp;rw[Yd d]
  rw[i];exact kW s m w g h c
 .have f:Hid<|Wp (bl s)=some []:=by rw[Pn c];rfl
  go_enter func131,ntmps131;go_wp2;go_ret2;exact⟨none,0,0,true,C,⟨by rw[f];rfl,λ_=>⟨[],⟨Xm _ _ _ _,X,λp j=>(by cases j)⟩,f⟩⟩,Ym _ _⟩
theorem kU(m:Int)(d:s.size<=6000)(f:w.cell? ⟨14,0,none⟩=some (E m))(h:(Wp<|bl s).isSome=false):
 CP 131 #[.string s] w λe u=>∃(a:Option Addr)(n cap:Nat),e=.returned (.tuple #[.slice a n cap,.bool false])/\BW w u:=by
 refine(BB s m w d f).mono ?_;rintro e u ⟨a,n,cap,ok,rfl,c,g⟩;exact⟨a,n,cap,by rw[c.1,h],g⟩
theorem kV(m:Int)(d:s.size<=6000)(f:w.cell? ⟨14,0,none⟩=some (E m))(h:(Wp<|bl s).isSome=true):
 CP 131 #[.string s] w λe u=>∃(a:Option Addr)(n cap:Nat)(qs:List<|BA×BA),e=.returned (.tuple #[.slice a n cap,.bool true])/\Hid (TQ u 0 (.slice a n cap) n qs/\Wp (bl s)=some (qs.map Xt))/\BW w u:=by
 refine(BB s m w d f).mono ?_;rintro e u ⟨a,n,cap,ok,rfl,c,g⟩;have e:ok=true:=by rw[c.1,h]
 subst e;obtain⟨qs,i,j⟩:=c.2 C;exact⟨a,n,cap,qs,C,⟨i,j⟩,g⟩
theorem NL{a:World}{x y z u:Value}{t:TypeId}(c:Below (w.heap.size+1) (w.alloc<|.cells #[x,y,z,u] t) a):
 a.cell? ⟨w.heap.size,0,none⟩=some x/\a.cell? ⟨w.heap.size,1,none⟩=some y/\a.cell? ⟨w.heap.size,2,none⟩=some z/\a.cell? ⟨w.heap.size,3,none⟩=some u/\
 a.frozen? ⟨w.heap.size,0,none⟩=false/\a.frozen? ⟨w.heap.size,1,none⟩=false/\a.frozen? ⟨w.heap.size,2,none⟩=false/\a.frozen? ⟨w.heap.size,3,none⟩=false:=by
 have h:=(c.block _ X).trans YO;refine⟨?_,?_,?_,?_,?_,?_,?_,?_⟩<;>simp[World.cell?,World.frozen?,h]
theorem gu(m:Int)(d:s.size<=6000)(f:w.cell? ⟨14,0,none⟩=some (E m))(h:VI (bl s)=none):
 CP 132 #[.string s] w λe u=>∃sv:Value,e=.returned (.tuple #[sv,.bool false])/\BW w u:=by
 refine(BD s m w d f).mono ?_;rintro e u ⟨sv,ok,rfl,c,g⟩;rcases c.out with⟨_,_,_,_,_,a,_⟩|⟨a,_⟩
 .rw[h]at a;cases a
 .exact⟨sv,by rw[a],g⟩
theorem gw(m:Int)(g:s.size<=6000)(i:w.cell? ⟨14,0,none⟩=some (E m))(h:VI (bl s)=some n):
 CP 132 #[.string s] w λe u=>∃a cap,e=.returned (.tuple #[.slice a n cap,.bool true])/\Hid (u.ownsRow w.heap.size 315 2 (.slice a n cap) n<|ZQ<|Qd<|bl s)/\BW w u:=by
 refine(BD s m w g i).mono ?_;rintro e u ⟨sv,ok,rfl,d,j⟩;rcases d.out with⟨k,a,n',cap,f,c,l⟩|⟨_,c⟩
 .rw[h]at c;obtain rfl:=Uc c;exact⟨a,cap,by rw[k,f],by rwa [<-f],j⟩
 .rw[h]at c;cases c
def SN(w:World)(l:LB)(nm:BA)(lv:Value)(tx:BA)(sv:Value)(sn:Nat):Prop:=∃(inside:LB)(qs:List<|BA×BA),Y3 l=some (bl nm,inside,sn)/\Wp inside=some (qs.map Xt)/\TQ w 0 lv qs.length qs/\bl tx=Wv qs/\w.ownsRow 0 315 2 sv sn (ZQ<|Uw l)
theorem SN.below(h:SN w l nm lv tx sv sn)(a:BW w w'):SN w' l nm lv tx sv sn:=by
 obtain⟨i,qs,c,d,e,f,g⟩:=h;exact⟨i,qs,c,d,e.below a,f,Ze g a⟩
theorem SN.other(h:SN w l nm lv tx sv sn){a:Nat}{c:Array Value}{fr:Nat×Nat}(g:w.heap[a]?=some (.cells c 201 fr))(k:∀j,j≠a->w'.heap[j]?=w.heap[j]?):SN w' l nm lv tx sv sn:=by
 obtain⟨i,qs,n,o,d,p,m⟩:=h;exact⟨i,qs,n,o,⟨LA d.1 λj f=>k j λe=>ZD d.1 g N<|by rw[f,e],d.2⟩,p,LA m λj f=>k j λe=>ZD m g N<|by rw[f,e]⟩
def N9(w:World)(l:LB)(nm:BA)(lv:Value)(tx:BA)(sv:Value)(sn:Nat)(ok:Bool):Prop:=(ok=true/\SN w l nm lv tx sv sn)∨(ok=false/\Y3 l=none)
theorem rV{m:Int}{B:Nat}(a:w.cell? ⟨14,0,none⟩=some (E m))(c:Below B w w')(d:14<B):w'.cell? ⟨14,0,none⟩=some (E m):=
 (c.cell d).trans a
theorem gz(m:Int)(U:s.size<=6000)(hm:w.cell? ⟨14,0,none⟩=some (E m)):
 CP 88 #[.string s] w λe u=>∃(nm:BA)(a:Option Addr)(n cap:Nat)(tx:BA)(sa:Option Addr)(sn sc:Nat)(ok:Bool),e=.returned (.tuple #[.agg #[.string nm,.slice a n cap,.string tx,.slice sa sn sc],.bool ok])/\
  Hid (N9 u (bl s) nm (.slice a n cap) tx (.slice sa sn sc) sn ok)/\BW w u:=by
 have a4:=Xi _ _ hm;have G:∀o,(w.alloc o).cell? _=some _:=λo=>TN _ _ _ a4▸hm;have k:∀o (j:Nat),((w.alloc o).drewN j).cell? _=some _:=λo j=>G o;cases M:cut 123 (bl s)with
 |none=>
  have l:Hid<|∀W nm lv tx sv,N9 W _ nm lv tx sv 0 _:=I λ_ _ _ _ _=>.inr ⟨C,Lz M⟩;have H:=I M;clear M;go_enter func88,ntmps88;go_wp2_with fail;refine(Mm m _ U (G _) H).mono ?_;rintro e u ⟨a,b,rfl,c,j,rfl⟩;have t:b.size<=6000:=by rw[ZE c.2];simp
  go_wp2_with fail;refine(Mm m _ t (k _ _)<|by rw[c.2];rfl).mono ?_;rintro e u ⟨a2,b2,rfl,d,j2,rfl⟩;go_wp2;exact YQ (v:=.tuple #[.agg #[.string ⟨#[]⟩,S0,.string ⟨#[]⟩,S0],.bool false]) (by simp[results,results88,go_sem]) C ⟨⟨#[]⟩,none,0,0,⟨#[]⟩,none,0,0,false,C,I<|l.out _ _ _ _ _,Yh⟩
 |some p=>
  obtain⟨x,r⟩:=p;have a9:x.length<=s.size/\r.length<=s.size:=by rw[<-Zb,(Rm M).1];simp;omega
  have H:=I M;clear M;cases A:cut 125 r with
  |none=>
   have l:Hid<|∀W nm lv tx sv,N9 W _ nm lv tx sv 0 _:=I λ_ _ _ _ _=>.inr ⟨C,Mq H A⟩;have V:=I A;clear A;go_enter func88,ntmps88;go_wp2_with fail;refine(Pg m _ U (G _) H).mono ?_;rintro e u ⟨a,b,rfl,c,j,rfl⟩;have t:b.size<=6000:=by rw[ZE c.2];omega
   go_wp2_with fail;refine(Mm m _ t (k _ _)<|by rwa [c.2]).mono ?_;rintro e u ⟨a2,b2,rfl,d,j2,rfl⟩;go_wp2;exact YQ (v:=.tuple #[.agg #[.string ⟨#[]⟩,S0,.string ⟨#[]⟩,S0],.bool false]) (by simp[results,results88,go_sem]) C ⟨⟨#[]⟩,none,0,0,⟨#[]⟩,none,0,0,false,C,I<|l.out _ _ _ _ _,Yh⟩
  |some q=>
   obtain⟨y,z⟩:=q;have b0:y.length<=r.length/\z.length<=r.length:=by rw[(Rm A).1];simp;omega
   have V:=I A;have g:=Mr H A;clear A;cases O:Zx x
   .have l:Hid<|∀W nm lv tx sv,N9 W _ nm lv tx sv 0 _:=I λ_ _ _ _ _=>.inr ⟨C,by rw[g,O];rfl⟩;have HN:=I O;clear O g;go_enter func88,ntmps88;go_wp2_with fail;refine(Pg m _ U (G _) H).mono ?_;rintro e u ⟨a,b,rfl,c,j,rfl⟩;have P:a.size<=6000:=by rw[ZE c.1];omega
    have t:b.size<=6000:=by rw[ZE c.2];omega
    go_wp2_with fail;refine(Pg m _ t (k _ _)<|by rwa [c.2]).mono ?_;rintro e u ⟨a2,b2,rfl,d,j2,rfl⟩;go_wp2_with fail;refine(Jo (b:=false) P<|by rwa [c.1]).mono ?_;rintro e u ⟨rfl,rfl⟩;go_wp2;exact YQ (v:=.tuple #[.agg #[.string ⟨#[]⟩,S0,.string ⟨#[]⟩,S0],.bool false]) (by simp[results,results88,go_sem]) C ⟨⟨#[]⟩,none,0,0,⟨#[]⟩,none,0,0,false,C,I<|l.out _ _ _ _ _,Yh⟩
   .have HN:=I O;rw[O]at g;clear O;go_enter func88,ntmps88;have i:=I g;clear g;go_wp2_with fail;refine(Pg m _ U (G _) H).mono ?_;rintro e u ⟨a,b,rfl,c,j,rfl⟩;have P:a.size<=6000:=by rw[ZE c.1];omega
    have t:b.size<=6000:=by rw[ZE c.2];omega
    go_wp2_with fail;refine(Pg m _ t (k _ _)<|by rwa [c.2]).mono ?_;rintro e u ⟨a2,b2,rfl,d,j2,rfl⟩;have Q:a2.size<=6000:=by rw[ZE d.1];omega
    have R:b2.size<=6000:=by rw[ZE d.2];omega
    go_wp2_with fail;refine(Jo (b:=true) P<|by rwa [c.1]).mono ?_;rintro e u ⟨rfl,rfl⟩;cases D:(Wp y).isSome
    .have l:Hid<|∀W nm lv tx sv,N9 W _ nm lv tx sv 0 _:=I λ_ _ _ _ _=>.inr ⟨C,by rw[i,D];rfl⟩;have HL:=I D;clear D;go_wp2_with fail;refine(kU m Q (k _ _)<|by rwa [d.1]).mono ?_;rintro e w3 ⟨la,ln,lc,rfl,B⟩;have f:Below (w.heap.size+1) (w.alloc<|.cells _ 201) _:=(Gq B).mono Sm;have J:=((Ym _ w).alloc (Yj _) _).trans<|f.mono X;obtain⟨k0,k1,k2,k3,g0,g1,g2,g3⟩:=NL f;clear B f;go_wp2;exact YQ (v:=.tuple #[.agg #[.string ⟨#[]⟩,S0,.string ⟨#[]⟩,S0],.bool false]) (by simp[results,results88,go_sem,k0,k1,k2,k3]) C ⟨⟨#[]⟩,none,0,0,⟨#[]⟩,none,0,0,false,C,I<|l.out _ _ _ _ _,Yh⟩
    .have HL:=I D;rw[D]at i;clear D;go_wp2_with fail;refine(kV m Q (k _ _)<|by rwa [d.1]).mono ?_;rintro e w3 ⟨la,ln,lc,qs,rfl,HQ,B⟩;have S:w.heap.size+1<=w3.heap.size:=by have:=B.size;simp at this;omega
     have Y:=rV (k _ _) B<|by simp;omega
     have f:Below (w.heap.size+1) (w.alloc<|.cells _ 201) _:=(Gq B).mono Sm;have J:=((Ym _ w).alloc (Yj _) _).trans<|f.mono X;clear B;cases F:VI z with
     |none=>
      have l:Hid<|∀W nm lv tx sv,N9 W _ nm lv tx sv 0 _:=I λ_ _ _ _ _=>.inr ⟨C,by rw[i,F];rfl⟩;have HM:=I F;clear F;go_wp2_with fail;refine(gu m R Y<|by rwa [d.2]).mono ?_;rintro e w4 ⟨sv,rfl,h⟩;obtain⟨k0,k1,k2,k3,g0,g1,g2,g3⟩:=NL<|f.trans<|h.mono S;have T:=J.trans<|h.mono X;clear f h J;go_wp2;exact YQ (v:=.tuple #[.agg #[.string ⟨#[]⟩,S0,.string ⟨#[]⟩,S0],.bool false]) (by simp[results,results88,go_sem,k0,k1,k2,k3]) C ⟨⟨#[]⟩,none,0,0,⟨#[]⟩,none,0,0,false,C,I<|l.out _ _ _ _ _,Yh⟩
     |some n=>
      have l:Hid<|Y3 (bl s)=some (x,y,n):=by rw[i,F];rfl
      have a5:=I<|Bm HN H V;have HM:=I F;clear F;go_wp2_with fail;refine(gw m R Y<|by rwa [d.2]).mono ?_;rintro e w4 ⟨sa,sc,rfl,a6,h⟩;have Z:=I<|TQ.below HQ.1 h;have L:=f.trans<|h.mono S;have a0:=Xb S h.size;have T:=J.trans<|h.mono X;clear f h J;go_wp2_with fail;refine(B3 Z).mono ?_;rintro e w5 ⟨oa,oc,rfl,a1,K⟩;have a3:qs.length=ln:=by have:=Z.1.1;rw[Jd]at this;omega
      have a7:Hid<|SN w5 _ a (.slice oa ln oc) _ _ n:=I ⟨y,qs,by rw[l,c.1],d.1▸HQ.2,a3▸a1,Ta _,a5.out▸d.2▸Ze (GP a6.out) K⟩;clear a3;obtain⟨k0,k1,k2,k3,g0,g1,g2,g3⟩:=NL<|L.trans<|K.mono a0;have a8:=I<|((L.trans<|K.mono a0).block _ X).trans YO;have b1:=T.trans<|K.mono X;clear L K a1 T;go_wp2;exact YQ (v:=.tuple #[.agg #[.string a,.slice oa ln oc,.string ⟨(Wv qs).toArray⟩,.slice sa n sc],.bool true]) (by simp[results,results88,go_sem,k0,k1,k2,k3]) C ⟨a,oa,ln,oc,_,sa,n,sc,true,C,I<|Or.inl ⟨C,a7.other a8.out λj hj=>by first|rfl|(repeat rw[Go.Deep.blk_setCell_other _ _ _ _<|by exact hj])⟩,Yh⟩
theorem EE{i:Int}:
 CP 89 #[E i,.iface 469 what] w λe u=>e=.returned (.iface 92<|Vp w.heap.size)/\u=w.alloc (.cells #[.string ⟨#[108,105,110,101]⟩,E i,.iface 469 what] 96):=by
 go_enter func89,ntmps89;go_wp2;go_ret;exact⟨C,C⟩
theorem Tryz.infoSeries:(Tryz.prog.info? 201).map (λi=>(i.zero,i.size,i.bytes))=some (some<|.agg #[.string ByteArray.empty,S0,.string ByteArray.empty,S0],4,80):=Kr
theorem ti{a:Nat}{u x z:Value}(d:W.cell? ⟨a,0,none⟩=some u)(e:W.cell? ⟨a,1,none⟩=some v)(f:W.cell? ⟨a,2,none⟩=some x)(g:W.cell? ⟨a,3,none⟩=some z):∀j y,[u,v,x,z][j]?=some y->W.cell? ((⟨a,0,none⟩:Addr).add j)=some y:=by
 intro j y c;rw[QJ];match j,c with
 |0,c=>simp at c;subst c;exact d
 |1,c=>simp at c;subst c;exact e
 |2,c=>simp at c;subst c;exact f
 |3,c=>simp at c;subst c;exact g
def TT:List (Value×Value×Value)->List Value
 |[]=>[]
 |r::rs=>r.1::r.2.1::r.2.2::TT rs
theorem sC(a b:List<|Value×Value×Value):TT (a++b)=TT a++TT b:=by
 induction a with
 |nil=>rfl
 |cons r a ih=>simp[TT,ih]
theorem Ds(rs:List<|Value×Value×Value)(j:Nat):(TT rs)[j*3]?=rs[j]?.map (·.1)/\(TT rs)[j*3+1]?=rs[j]?.map (·.2.1)/\(TT rs)[j*3+2]?=rs[j]?.map (·.2.2):=by
 induction rs generalizing j with
 |nil=>simp[TT]
 |cons r rs ih=>
  cases j with
  |zero=>simp[TT]
  |succ j=>
   obtain⟨a,c,d⟩:=ih j;refine⟨?_,?_,?_⟩
   .rw[show(j+1)*3=j*3+1+1+1 by omega];simpa [TT]using a
   .rw[show(j+1)*3+1=j*3+1+1+1+1 by omega];simpa [TT]using c
   .rw[show(j+1)*3+2=j*3+2+1+1+1 by omega];simpa [TT]using d
def Uh:List (Value×Value×Value×Value)->List Value
 |[]=>[]
 |r::rs=>r.1::r.2.1::r.2.2.1::r.2.2.2::Uh rs
theorem sD(a b:List<|Value×Value×Value×Value):Uh (a++b)=Uh a++Uh b:=by
 induction a with
 |nil=>rfl
 |cons r a ih=>simp[Uh,ih]
theorem sE(rs:List<|Value×Value×Value×Value)(j:Nat):(Uh rs)[j*4]?=rs[j]?.map (·.1)/\(Uh rs)[j*4+1]?=rs[j]?.map (·.2.1)/\(Uh rs)[j*4+2]?=rs[j]?.map (·.2.2.1)/\(Uh rs)[j*4+3]?=rs[j]?.map (·.2.2.2):=by
 induction rs generalizing j with
 |nil=>simp[Uh]
 |cons r rs ih=>
  cases j with
  |zero=>simp[Uh]
  |succ j=>
   obtain⟨a,c,d,e⟩:=ih j;refine⟨?_,?_,?_,?_⟩
   .rw[show(j+1)*4=j*4+1+1+1+1 by omega];simpa [Uh]using a
   .rw[show(j+1)*4+1=j*4+1+1+1+1+1 by omega];simpa [Uh]using c
   .rw[show(j+1)*4+2=j*4+2+1+1+1+1 by omega];simpa [Uh]using d
   .rw[show(j+1)*4+3=j*4+3+1+1+1+1 by omega];simpa [Uh]using e
def PN(rs:List<|Value×Value×Value×Value)(es:List Yn):Prop:=rs.length=es.length/\∀j (h:j<es.length),∃nm a n c tx sa sc,rs[j]?=some (.string nm,.slice a n c,.string tx,.slice sa (es[j]).count sc)
theorem PN.snoc(h:PN rs es)(x:Yn)(nm:BA)(a:Option Addr)(n c:Nat)(tx:BA)(sa:Option Addr)(sc:Nat):
 PN (rs++[(.string nm,.slice a n c,.string tx,.slice sa x.count sc)])<|es++[x]:=by
 refine⟨by simp[h.1],λj g=>?_⟩;by_cases d:j<es.length
 .obtain⟨nm',a',n',c',tx',sa',sc',e⟩:=h.2 j d;exact⟨nm',a',n',c',tx',sa',sc',by rw[QQ<|h.1▸d,e,List.getElem_append_left _]⟩
 .have f:j=es.length:=by simp at g;omega
  subst f;refine⟨nm,a,n,c,tx,sa,sc,?_⟩;rw[SJ<|h.1▸Yj _,h.1];simp
theorem SN.grown(h:SN w l nm lv tx sv sn){e:TypeId}{s:Nat}(a:w.grownBy w' v.ownBlock)(c:w.ownsRow b e s v n xs)(d:340≠e)(f:315≠e):SN w' l nm lv tx sv sn:=by
 obtain⟨i,qs,e1,e2,e3,e4,e5⟩:=h;exact⟨i,qs,e1,e2,⟨e3.1.kept a<|QE e3.1 c d,e3.2⟩,e4,e5.kept a<|QE e5 c f⟩
def WQ(w:World)(rs:List<|Value×Value×Value×Value)(es:List Yn)(ps:List<|LB):Prop:=∀j (h:j<es.length),∃(nm:BA)(a:Option Addr)(n c:Nat)(tx:BA)(sa:Option Addr)(sc:Nat),rs[j]?=some (.string nm,.slice a n c,.string tx,.slice sa (es[j]).count sc)/\SN w (ps.getD (es[j]).at_ []) nm (.slice a n c) tx (.slice sa (es[j]).count sc) (es[j]).count/\Y3 (ps.getD (es[j]).at_ [])=some ((es[j]).name,(es[j]).inside,(es[j]).count)
theorem WQ.below (h:WQ w rs es ps)(d:BW w w'):WQ w' rs es ps:=λj e=>by
 obtain⟨nm,a,n,c,tx,sa,sc,e1,e2,e3⟩:=h j e;exact⟨nm,a,n,c,tx,sa,sc,e1,e2.below d,e3⟩
theorem WQ.grown (h:WQ w rs es ps){e:TypeId}{s:Nat}(d:w.grownBy w' v.ownBlock)(f:w.ownsRow b e s v n xs)(g:340≠e)(i:315≠e):WQ w' rs es ps:=λj k=>by
 obtain⟨nm,a,n,c,tx,sa,sc,e1,e2,e3⟩:=h j k;exact⟨nm,a,n,c,tx,sa,sc,e1,e2.grown d f g i,e3⟩
theorem WQ.snoc(e:rs.length=es.length)(h:WQ w rs es ps)(z:Yn)(nm:BA)(a:Option Addr)(n c:Nat)(tx:BA)(sa:Option Addr)(sc:Nat)
 (g:SN w (ps.getD z.at_ []) nm (.slice a n c) tx (.slice sa z.count sc) z.count)(i:Y3 (ps.getD z.at_ [])=some (z.name,z.inside,z.count)):WQ w (rs++[(.string nm,.slice a n c,.string tx,.slice sa z.count sc)]) (es++[z]) ps:=λj k=>by
 by_cases d:j<es.length
 .obtain⟨nm',a',n',c',tx',sa',sc',e1,e2⟩:=h j d;refine⟨nm',a',n',c',tx',sa',sc',?_⟩;rw[QQ<|e▸d,List.getElem_append_left d];exact⟨e1,e2⟩
 .have f:j=es.length:=by simp at k;omega
  subst f;refine⟨nm,a,n,c,tx,sa,sc,?_⟩;rw[SJ<|e▸Yj _,e];simp only[KA,Qp,List.getElem_append_right<|Yj _,List.getElem_cons_zero];exact⟨trivial,g,i⟩
theorem kX{g:Nat}(n:Nat)(A:Nat->Addr)(m:Int)(W:Hid<|n=ps.length)(a9:n<=6001)(Y:Hid<|∀i,i<ps.length->(ps.getD i []).length<=6000)(G:Nk w g ps)(hv:YC w A m):
 CP 42 #[.slice (some ⟨g,0,none⟩) n n] w λe H=>BW w H/\
  ((∃(i:Nat)(fa:Nat),e=.returned (.tuple #[S0,.iface 92<|Vp fa])/\H.heap[fa]?=some (.cells #[.string ⟨#[108,105,110,101]⟩,E i,.iface 469<|.pointer<|some<|A 4] 96 (0,0))/\Hid (ZT 0 [] ps=.inl i))∨
   (∃(v:Value)(es:List Yn)(rs:List<|Value×Value×Value×Value),e=.returned (.tuple #[v,.nilIface])/\H.ownsRow 0 201 4 v es.length (Uh rs)/\Hid (PN rs es/\ZT 0 [] ps=.inr es)/\Hid (WQ H rs es ps))):=by
 obtain⟨i0,hi,Z,a0,a1⟩:=Xv Tryz.infoSeries;have a2:=G.1;go_enter func42,ntmps42;go_wp2;go_loopw [4,11] (λv i wr=>∃(k:Nat)(es:List Yn)(rs:List<|Value×Value×Value×Value),k<=n/\i=E k/\es.length<=k/\wr.ownsRow w.heap.size 201 4 v es.length (Uh rs)/\Hid (PN rs es/\ZT 0 [] ps=ZT k es (ps.drop k))/\Hid (WQ wr rs es ps)/\BW w wr)
  (λ_ i _=>n-(intOf i).toNat);case atStart=>exact⟨0,[],[],Yr _,C,Yr _,Xm _ _ _ _,⟨⟨C,λj h=>by simp at h⟩,C⟩,I λj h=>by simp at h,Ym _ _⟩
 case round=>
  obtain⟨k,es,rs,hk,rfl,b0,f,p,J,d⟩:=hrel;have a3:=d.size;have r:=hv.below d;by_cases a4:k<n
  .have s:k<ps.length:=by rwa [<-W.out]
   obtain⟨sk,b1,K⟩:=(G.below d a2).2 k s;have T:sk.size<=6000:=ZE K▸Y.out k s;have F:=I K;clear K;cases he:sk.toList.isEmpty
   .have O:Hid<|ps.getD k _≠[]:=F.out▸OH he;have P:=r.max;have a5:=r.sent 4 N;go_wp2_with fail;refine(gz m T P).mono ?_;rintro e z ⟨nm,la,ln,lc,tx,sa,sn,sc,ok,rfl,x,t⟩;have a7:z.cell? ⟨4,0,none⟩=some _:=(r.below t).sent _ N;have a8:∀o,(z.alloc o).cell? ⟨4,0,none⟩=some _:=λo=>((r.below t).alloc o).sent _ N;have Q:=d.trans<|t.mono a3;have b2:=Q.size;have c:=Ze f t;clear a5 P r;cases ok
    .have B:Hid<|ZT 0 [] ps=.inl k:=by
      rw[p.2];refine Bi s O ?_;rw[<-F];rcases x.out with⟨h,_⟩|⟨_,h⟩
      .cases h
      .exact h
     go_wp2_with(go_at_call 89;refine(EE).mono ?_;rintro e H ⟨rfl,rfl⟩);go_ret2;refine⟨Yh,.inl ⟨k,z.heap.size+1,C,?_,B⟩⟩;rw[show z.heap.size+1=(z.alloc<|.cells #[.string nm,.slice la ln lc,.string tx,.slice sa sn sc] 201).heap.size by simp];exact J7
    .have R:Hid<|SN z (bl sk) nm (.slice la ln lc) tx (.slice sa sn sc) sn:=by
      rcases x.out with⟨_,h⟩|⟨h,_⟩
      .exact h
      .cases h
     obtain⟨na,a,S⟩:∃name inside,Y3 _=some (name,inside,sn):=by
      obtain⟨a,qs,h,_⟩:=R.out;exact⟨_,a,h⟩
     have U:Hid<|WQ z (rs++[(.string nm,.slice la ln lc,.string tx,.slice sa sn sc)]) (es++[⟨k,na,a,sn⟩]) ps:=I<|WQ.snoc p.1.1 (J.below t) ⟨k,na,a,sn⟩ nm la ln lc tx sa sc (by show SN z (ps.getD k []) nm (.slice la ln lc) tx (.slice sa sn sc) sn;rw[<-F];exact R)<|by show Y3 (ps.getD k [])=some (na,a,sn);rw[<-F];exact S
     have B:Hid<|PN (rs++[(.string nm,.slice la ln lc,.string tx,.slice sa sn sc)]) (es++[⟨k,na,a,sn⟩])/\ZT 0 [] ps=ZT (k+1) (es++[⟨k,na,a,sn⟩]) (ps.drop<|k+1):=
      ⟨p.1.snoc ⟨k,na,a,sn⟩ nm la ln lc tx sa sc,by rw[p.2];exact Bj s O<|by rwa [<-F.out]⟩;clear S x;go_wp2_with(at_builtin;refine XC _ C (.tmp 28) (.tmp 30) 85 C w.heap.size 201 i0 (.agg #[.string ByteArray.empty,S0,.string ByteArray.empty,S0]) 4 80 underlying85 hi Z a0 a1 C N _ _ _ C ((c.alloc _).alloc _) ⟨z.heap.size+1,0,none⟩ 1 1 [.string nm,.slice la ln lc,.string tx,.slice sa sn sc] C C ?c1 ?c2 ?c3 ?c4 ?c5 ?_);case c1=>exact ti Sm Sm Sm Sm
     case c2=>intro u hu;simp at hu;rcases hu with rfl|rfl|rfl|rfl<;>rfl
     case c3=>unfold maxLen;omega
     case c4=>omega
     case c5=>simp;omega
     intro v' w3 D l _;have a6:=((Q.alloc X _).alloc (by simp;omega) _).grown l (by simp;omega) λq hq=>(c.lt q hq).1;have M:w3.ownsRow w.heap.size 201 4 v' (es++[(⟨k,na,a,sn⟩:Yn)]).length<|Uh<|rs++[(.string nm,.slice la ln lc,.string tx,.slice sa sn sc)]:=by
      rw[sD,Yv];exact D
     have L:∀o o':Obj,Below _ _<|(z.alloc o).alloc o':=λo o'=>Yc.alloc Sm _;have V:Hid<|WQ w3 (rs++[(.string nm,.slice la ln lc,.string tx,.slice sa sn sc)]) (es++[⟨k,na,a,sn⟩]) ps:=I<|(U.below<|L _ _).grown l ((c.alloc _).alloc _) N N;clear c f l D L;go_wp2;go_roundw;case rel=>exact⟨k+1,_,_,X,by go_num,by simp;omega,M,B,V,a6⟩
     case measure=>simp[intOf];omega
   .have B:Hid<|PN _ _/\ZT 0 _ _=ZT _ _ _:=
    ⟨p.1,p.2▸Bk s (by rw[<-F.out];exact Pn he)⟩;go_wp2;go_roundw;case rel=>exact⟨k+1,es,rs,X,by go_num,X,f,B,J,d⟩
    case measure=>simp[intOf];omega
  .have B:Hid<|PN _ _/\ZT 0 [] ps=.inr es:=⟨p.1,p.2▸Cs (by rw[<-W.out];exact a4)⟩;go_wp2;go_ret2;exact⟨d,.inr ⟨_,es,rs,C,f.mono<|Yr _,B,J⟩⟩
def Vz(es:List Yn)(k:Nat):Nat:=((es.take k).map (·.count)).sum
theorem zo(k:Nat)(h:k<es.length):Vz es (k+1)=Vz es k+(es[k]).count:=by
 unfold Vz;rw[List.take_succ_eq_append_getElem h,Y9,Ku];rfl
theorem zk(es:List Yn)(h:∀e∈es,e.count<=6001)(k:Nat):Vz es k<=6001*k:=by
 induction k with
 |zero=>simp[Vz]
 |succ k ih=>
  by_cases a:k<es.length
  .rw[zo k a];have:=h _<|List.getElem_mem a;omega
  .have:Vz es (k+1)=Vz es k:=by unfold Vz;rw[Wm X,Wm X]
   omega
theorem uG(d:w.ownsRow 0 201 4 v es.length<|Uh rs)(p:Hid<|PN rs es)(m:Hid<|∀e∈es,e.count<=6001)(z:es.length<=6001):
 CP 44 #[v] w λe u=>e=.returned (E<|Vz es es.length)/\BW w u:=by
 obtain⟨av,cp,rfl⟩:=Zd d;go_enter func44,ntmps44;go_wp2;go_loopw [3,8] (λc i wr=>∃k:Nat,k<=es.length/\i=E k/\c=E (Vz es k)/\BW w wr) (λ_ i _=>es.length-(intOf i).toNat);case atStart=>exact⟨0,Yr _,C,by simp[Vz],Ym _ _⟩
 case round=>
  obtain⟨k,A,rfl,rfl,f⟩:=hrel;have s:=f.size;have t:=zk _ m k;by_cases l:k<es.length
  .have q:=I<|zo k l;have x:=m _<|List.getElem_mem l;obtain⟨nm,a,n,c,tx,sa,sc,o⟩:=p.2 k l;obtain⟨f1,f2,f3,f4⟩:=sE rs k;rw[o]at f1 f2 f3 f4;have r:∃g,av=some ⟨g,0,none⟩:=by
    obtain⟨g,cp',h⟩:=Zm d X;injection h with h1;exact⟨g,h1⟩
   obtain⟨g,rfl⟩:=r;have j:=ZN d;have c1:wr.cell? _=some (.string _):=(f.cell j).trans<|Zc d _ _ f1;have c2:wr.cell? _=some (.slice a n c):=(f.cell j).trans<|Zc d _ _ f2;have c3:wr.cell? _=some (.string _):=(f.cell j).trans<|Zc d _ _ f3;have c4:wr.cell? _=some (.slice _ _ _):=(f.cell j).trans<|Zc d _ _ f4;generalize(es[k]).count=SG at*;clear o f1 f2 f3 f4;go_wp2;go_roundw;case rel=>exact⟨k+1,X,by go_num,by rw[q];go_num,Yh⟩
   case measure=>simp[intOf];omega
  .obtain rfl:k=es.length:=X;go_wp2;go_ret;exact⟨C,f⟩
theorem Tryz.infoRLabel:(Tryz.prog.info? 175).map (λi=>(i.zero,i.size,i.bytes))=some (some<|.agg #[.string ByteArray.empty,.string ByteArray.empty],2,32):=Kr
def Uu:List (BA×BA)->List Value
 |[]=>[]
 |r::rs=>.string r.1::.string r.2::Uu rs
theorem Dr(a b:List<|BA×BA):Uu (a++b)=Uu a++Uu b:=by
 induction a with
 |nil=>rfl
 |cons r a ih=>simp[Uu,ih]
theorem Ls (rs:List<|BA×BA)(j:Nat):(Uu rs)[j*2]?=rs[j]?.map (λr=>.string r.1)/\(Uu rs)[j*2+1]?=rs[j]?.map λr=>.string r.2:=by
 induction rs generalizing j with
 |nil=>simp[Uu]
 |cons r rs ih=>
  cases j with
  |zero=>simp[Uu]
  |succ j=>
   obtain⟨a,c⟩:=ih j;refine⟨?_,?_⟩
   .rw[show(j+1)*2=j*2+1+1 by omega];simpa [Uu]using a
   .rw[show(j+1)*2+1=j*2+1+1+1 by omega];simpa [Uu]using c
def V9(r:BA×BA):LB×LB:=(bl r.1,bl r.2)
theorem GY{b:Bool}(a:s.size<=6000)(h:Zx (bl s)=b):
 CP 69 #[.string s] w λe u=>e=.returned (.bool b)/\u=w:=by
 have:=jg s w a;rwa [h]at this
theorem jl(s:BA)(w:World)(hs:s.size<=6000)(a8:s.toList.isEmpty=false):
 CP 70 #[.string s] w λe G=>∃(a:Option Addr)(n cap:Nat)(ok:Bool),e=.returned (.tuple #[.slice a n cap,.bool ok])/\
  ((ok=true/\∃qs,G.ownsRow w.heap.size 175 2 (.slice a n cap) qs.length (Uu qs)/\Hid (Wf [] [] (split 44<|bl s)=some (qs.map V9)))∨(ok=false/\Hid (Wf [] [] (split 44<|bl s)=none)))/\BW w G:=by
 obtain⟨i0,hi,a0,a1,a2⟩:=Xv Tryz.infoRLabel;go_enter func70,ntmps70;go_wp2_with fail;refine(LK s 44 C hs).mono ?_;rintro e H ⟨g,n,cp,bs,rfl,hn,a9,T,J,A,h⟩;have HN:=I hn;have b0:n<=6001:=by
  have:=Qf 44<|bl s;rw[<-A,Yz,Zb]at this;omega
 clear hn;go_wp2;go_loopw [4,6,7] (λv last i wr=>∃(k:Nat)(ls:BA)(qs:List<|BA×BA),k<=n/\i=E k/\last=.string ls/\qs.length=k/\wr.ownsRow H.heap.size 175 2 v qs.length (Uu qs)/\Hid (Wf [] [] (split 44<|bl s)=Wf (bl ls) (qs.map V9) ((split 44<|bl s).drop k))/\BW H wr)
  (λ_ _ i _=>n-(intOf i).toNat);case atStart=>exact⟨0,⟨#[]⟩,[],Yr _,C,C,C,Xm _ _ _ _,C,Ym _ _⟩
 case round=>
  obtain⟨k,ls,qs,hk,rfl,rfl,U,c,K,j⟩:=hrel;have HQ:=I U;have b5:qs.length<=6001:=X;clear U;have B:=j.size;by_cases a3:k<n
  .have V:k<bs.length:=by rwa [<-HN.out]
   have D:k<(split 44<|bl s).length:=by rwa [<-A.out,Yz]
   have a4:=(j.cell T).trans<|J k V;have L:=I<|Mu A k V;generalize bs[k]=sk at a4 L;have l:sk.size<=6000:=by rw[ZE L];have:=OU _ _ k D;rw[Zb]at this;omega
   cases m:LS.seek 61 (bl sk)with
   |none=>
    have r:Hid _:=K.out▸KK D L.out (C9<|K8 m);have Q:=I m;clear m;go_wp2_with fail;refine(ON C l Q.out).mono ?_;rintro e z ⟨rfl,rfl⟩;go_wp2;go_ret2;exact⟨none,0,0,false,C,.inr ⟨C,r⟩,h.trans<|j.mono h.size⟩
   |some p=>
    have hp:p<sk.size:=by rw[<-Zb];exact NI m
    have d:=C8 (last:=bl ls)<|Lp m;have Q:=I m;clear m;have e1:bl (sk.extract 0 p)=(bl sk).take p:=by rw[WL];simp
    have e2:bl (sk.extract (p+1) sk.size)=(bl sk).drop (p+1):=by rw[WL,Wm<|by rw[Zb];exact Yj _]
    rw[<-e1,<-e2]at d;have W:(sk.extract 0 p).size<=6000:=by rw[<-Zb,e1,Xw,Zb];omega
    have Y:(sk.extract (p+1) sk.size).size<=6000:=by rw[<-Zb,e2,Ur,Zb];omega
    clear e1 e2;have b6:=KD hp;have b7:p+1<=sk.size:=hp;have b8:(p:Int)+1<=(sk.size):=X;have Z:∀o,(wr.alloc o).cell? ⟨g,k,none⟩=some _:=λo=>by rwa [TN _ _ _<|by exact WH T B]
    have a7:∀o,(wr.alloc o).drew.cell? _=some _:=Z;obtain⟨b1,t⟩:∃b,Zx (bl<|sk.extract 0 p)=b:=⟨_,C⟩;obtain⟨b2,x⟩:∃b,ZY (bl<|sk.extract (p+1) sk.size)=b:=⟨_,C⟩;obtain⟨b3,M⟩:∃b,(bl<|sk.extract (p+1) sk.size).isEmpty=b:=⟨_,C⟩;obtain⟨b4,O⟩:∃b,MI (bl<|sk.extract 0 p) (bl ls)=b:=⟨_,C⟩;rw[t,x,M,O]at d;have f1:=I t;have f2:=I x;have f3:(sk.extract (p+1) sk.size).toList.isEmpty=b3:=by rwa [ZA]
    have f4:(Op.bytesLess (sk.extract 0 p).toList ls.toList||(sk.extract 0 p).toList==ls.toList)=b4:=by rwa [Fi]
    clear t x M O;have f:(b1=true/\b2=true/\b3=false/\b4=false)∨(b1=false∨(b1=true/\b2=false)∨(b1=true/\b2=true/\b3=true)∨(b1=true/\b2=true/\b3=false/\b4=true)):=by
     cases b1<;>cases b2<;>cases b3<;>cases b4<;>simp
    rcases f with⟨rfl,rfl,rfl,rfl⟩|f
    .have r:Hid<|Wf [] [] (split 44<|bl s)=Wf (bl<|sk.extract 0 p) ((qs++[(sk.extract 0 p,sk.extract (p+1) sk.size)]).map V9) ((split 44<|bl s).drop<|k+1):=by
      rw[K,Y9];exact Ba D L<|by simpa using d
     clear d K;go_wp2_with fail;refine(Qe C l Q.out).mono ?_;rintro e z ⟨rfl,P⟩;subst P;go_wp2;go_region;have a5:Below _ _<|z.alloc<|.cells #[.string<|sk.extract 0 p,.string<|sk.extract (p+1) sk.size] 175:=j.alloc B _;go_wp2_with(first|(go_at_call 69;refine(GY W f1.out).mono ?_;rintro e G ⟨rfl,rfl⟩)|(go_at_call 109;refine(Jz Y f2.out).mono ?_;rintro e G ⟨rfl,rfl⟩)|(at_builtin;refine XC _ C (.tmp 69) (.tmp 71) 102 C H.heap.size 175 i0 (.agg #[.string ByteArray.empty,.string ByteArray.empty]) 2 32 underlying102 hi a0 a1 a2 C N _ _ _ C (World.ownsRow.drew<|(c.alloc _).alloc _) ⟨z.heap.size+1,0,none⟩ 1 1 [.string<|sk.extract 0 p,.string<|sk.extract (p+1) sk.size] C C ?c1 ?c2 ?c3 ?c4 ?c5 ?_));case c1=>exact PW (by first|simp|exact(Ry _ _ _ _ Sm).trans C)<|by first|simp|exact(Ry _ _ _ _ Sm).trans C
     case c2=>intro u hu;simp at hu;rcases hu with rfl|rfl<;>rfl
     case c3=>unfold maxLen;omega
     case c4=>omega
     case c5=>simp;omega
     intro v' w3 R F _;have a6:=(Below.drew<|(j.alloc B _).alloc (by simp;omega) _).grown F (by simp;omega) λq hq=>(c.lt q hq).1;have S:w3.ownsRow H.heap.size 175 2 v' (qs++[(sk.extract 0 p,sk.extract (p+1) sk.size)]).length<|Uu<|qs++[(sk.extract 0 p,sk.extract (p+1) sk.size)]:=by rwa [Dr,Yv]
     clear c F R a5;go_wp2;go_roundw;case rel=>exact⟨k+1,_,_,X,by go_num,C,by rw[Yv,HQ];rfl,S,r,a6⟩
     case measure=>simp[intOf];omega
    .have r:Hid<|Wf [] [] (split 44<|bl s)=none:=by
      rw[K];refine KK D L ?_;rw[d];rcases f with rfl|⟨rfl,rfl⟩|⟨rfl,rfl,rfl⟩|⟨rfl,rfl,rfl,rfl⟩<;>simp
     clear d;go_wp2_with fail;refine(Qe C l Q.out).mono ?_;rintro e z ⟨rfl,P⟩;subst P;go_wp2;go_region;rcases f with rfl|⟨rfl,rfl⟩|⟨rfl,rfl,rfl⟩|⟨rfl,rfl,rfl,rfl⟩;all_goals
      go_wp2_with(first|(go_at_call 69;refine(GY W f1.out).mono ?_;rintro e G ⟨rfl,rfl⟩)|(go_at_call 109;refine(Jz Y f2.out).mono ?_;rintro e G ⟨rfl,rfl⟩));go_ret2;exact⟨none,0,0,false,C,.inr ⟨C,r⟩,h.trans<|(Below.drew<|j.alloc B _).mono h.size⟩
  .have r:Hid _:=K.out▸Bb (by rw[<-A.out,Yz,<-HN.out];exact a3);obtain⟨av,cp,hv⟩:=Zd c;rw[hv]at c⊢;go_wp2;go_ret2;exact⟨_,_,_,true,C,.inl ⟨C,qs,c.mono h.size,r⟩,h.trans<|j.mono h.size⟩
