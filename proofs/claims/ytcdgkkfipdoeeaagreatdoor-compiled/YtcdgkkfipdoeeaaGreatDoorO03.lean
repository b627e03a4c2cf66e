/- Parts. -/
import Derived.Lib.SplitLaws
import Derived.Test.YtcdgkkfipdoeeaaGreatDoorO02
import Derived.Deep.DrawnRows
set_option linter.all false
set_option maxRecDepth 100000
set_option maxHeartbeats 16000000
namespace Go.Proofs.YtcdgkkfipdoeeaaGreatDoor
open Go.RowKit LS Go.Proofs.Tryz
def Zb1:List (BA×BA×Bool)->List Value
 | []=>[]
 | c::l=>.string c.1::.bool c.2.2::.string c.2.1::Zb1 l
theorem Zpk(l m:List (BA×BA×Bool)):Zb1 (l++m)=Zb1 l++Zb1 m:=by
 induction l with
 | nil=>rfl
 | cons a l ih=>simp[Zb1,ih]
def Zbc(l:List BA):List Value:=l.map .string
theorem Zh2(l m:List BA):Zbc (l++m)=Zbc l++Zbc m:=Yaq
def Z7(c:BA×BA×Bool):LB×LB×Bool:=(bl c.1,bl c.2.1,c.2.2)
def Zbm(w:World)(v:Value)(ns:List (LB)):Prop:=∃bs:List BA,w.ownsRow 0 9 1 v bs.length (Zbc bs)/\bs.map bl=ns
def ZX(w:World)(v:Value)(cs:List (LB×LB×Bool)):Prop:=∃bs:List (BA×BA×Bool),w.ownsRow 0 224 3 v bs.length (Zb1 bs)/\bs.map Z7=cs
theorem Tryz.infoCondD:(Tryz.prog.info? 224).map (fun i=>(i.zero,i.size,i.bytes))=some (some (.agg #[.string ByteArray.empty,.bool false,.string ByteArray.empty]),3,40):=by kernel_rfl
theorem ZcY{W:World}{l:List Value}{t:TypeId}{n:Nat}(a:W.heap.size=n):∀j x,l[j]?=some x->(W.alloc (.cells ⟨l⟩ t)).cell? ((⟨n,0,none⟩:Addr).add j)=some x:=by
 intro j x c;subst a;rw[ZfO];have h:=Go.Deep.blk_alloc_new W (.cells ⟨l⟩ t);simp only[World.cell?,h];simpa using c
theorem Zgi{w:World}{base:Nat}{e:TypeId}{size:Nat}{v:Value}{n:Nat}{xs:List Value}(h:w.ownsRow base e size v n xs):w.ownsRow 0 e size v n xs:=by
 refine⟨h.1,?_⟩;rcases h.2 with a|⟨g,cap,cur,h,_,r⟩
 ·exact .inl a
 ·exact .inr ⟨g,cap,cur,h,Yag _,r⟩
theorem Zfu{w w':World}{base:Nat}{e:TypeId}{size:Nat}{v:Value}{n:Nat}{xs:List Value}(h:w.ownsRow base e size v n xs){b:Nat}(hg:w.grownBy w' (some b))(a:b<base):w'.ownsRow base e size v n xs:=
 h.kept hg (Or.inr (fun q=>by have:=(h.lt b q).1;omega))
theorem Zfn{w0 w w':World}{b:Nat}{v:Value}(h:w0.grownBy w (some b))(hg:w.grownBy w' v.ownBlock)(d:∀q,v.ownBlock=some q->w0.heap.size<=q):w0.grownBy w' (some b):=by
 refine⟨hg.os.trans h.os,hg.tape.trans h.tape,hg.output.trans h.output,Yah h.size hg.size,?_⟩;intro j a c;rw[hg.block j (Yaw a h.size) (fun e=>by have:=d j e.symm;omega),h.block j a c]
theorem RK.grown{w0 w w':World}{R:RS}{k0 k:Nat}{ts0 ts:List Tok}(a:RK w0 R k0 ts0)(h:RK w R k ts){v:Value}(hg:w.grownBy w' v.ownBlock)(c:∀q,v.ownBlock=some q->w0.heap.size<=q):RK w' R k ts:=by
 refine h.blocks (fun j d f=>hg.block j d (fun e=>?_));have:=c j e.symm;have n:=(Yae.1 a.rd.cells).1;have o:=Z1 a.rd.own;have g:=Yai _ _ a.sy;have i:=Yai _ _ a.dp;have l:1<w0.heap.size:=g;have m:2<w0.heap.size:=i;rcases f with rfl|rfl|rfl|rfl <;> omega
theorem Zma{α:Type}{item:List Tok->Out α}{close:LB}{m:Nat}{acc:List α}{ts:List Tok}(h:isT close (hd ts)=true):ZS item close (m+1) acc ts=.ok (acc,ts.tail):=if_pos h
theorem Zmb {α : Type} {item : List Tok -> Out α} {close : LB} {m : Nat} {ts : List Tok} (h : isT close (hd ts) = false) : ZS item close (m + 1) [] ts = bnd (item ts) fun a r => ZS item close m [a] r := by
  show(if isT close (hd ts)=true then _ else _)=_;rw[h];rfl
theorem Zmd {α : Type} {item : List Tok -> Out α} {close : LB} {m : Nat} {acc : List α} {ts : List Tok} (h : isT close (hd ts) = false) (c : acc ≠ []) : ZS item close (m + 1) acc ts = bnd (Zq [44] ts) fun _ r => bnd (item r) fun a r => ZS item close m (acc ++ [a]) r := by
  show(if isT close (hd ts)=true then _ else _)=_;rw[h];cases acc with
  | nil=>exact absurd rfl c
  | cons a l=>rfl
theorem ZdU{s:LB}{ts:List Tok}(h:isT s (hd ts)=true):Zq s ts=.ok ((),ts.tail):=if_pos h
theorem Ze8{s:LB}{ts:List Tok}(h:¬isT s (hd ts)=true):Zq s ts=.error (2,(hd ts).at_):=if_neg h
theorem Zjt{k:Nat}{ts:List Tok}{a:LB}{r:List Tok}(h:ZH k ts=.ok (a,r)):r=ts.tail:=by
 unfold ZH at h;split at h
 ·cases h;rfl
 ·cases h
theorem Zot{ts:List Tok}{a:LB×LB×Bool}{r:List Tok}(h:ZV ts=.ok (a,r)):r.length<=ts.tail.length:=by
 have:=Zos _ _ h;simp only[Yb4]at *
 omega
theorem RK.pos{w:World}{R:RS}{k:Nat}{ts:List Tok}(h:RK w R k ts):0<ts.length:=h.wf.head.2.1
theorem ZyA {w : World} {R : RS} {k : Nat} {ts : List Tok} (h : RK w R k ts) {op cl:BA} (a9 : (bl op).all (fun c => !Zp c) = true /\ bl op ≠ []) (b0 : (bl cl).all (fun c => !Zp c) = true /\ bl cl ≠ []) :
    CP 168 #[Vp R.b,.string op,.string cl,.func (.func 169) #[] #[]] w fun e w'=>∃(la:Option Addr) (ln lc:Nat) (v:Value),e=.returned (.tuple #[.slice la ln lc,v])/\Hid (Res R (fun w' ns=>Zbm w' (.slice la ln lc) ns) w' (bnd (Zq (bl op) ts) fun _ r=>ZS (ZH 2) (bl cl) (r.length+1) [] r) v)/\w.grownBy w' (some R.b):=by
  have H:=hid h;have D:=(Yae.1 h.rd.cells).1;obtain⟨i0,hi,a2,a3,a4⟩:=info_parts Tryz.infoStr;have a5:=hid a9;have E:=hid b0;obtain⟨PL,a6⟩:∃PL:Out _,PL=bnd (Zq (bl op) ts) fun _ r=>ZS (ZH 2) (bl cl) (r.length+1) [] r:=⟨_,rfl⟩
  rw[<-a6];have K:=hid a6;go_enter func168,ntmps168
  go_wp2_with fail
  refine(ZdT H _ a5.1 a5.2).mono ?_;rintro e w1 ⟨v,rfl,d,hg⟩;have a7:=hid hg;by_cases h1:isT (bl op) (hd ts)=true
  · rw[ZdU h1]at d
    have j:Hid (ZS (ZH 2) (bl cl) (ts.tail.length+1) [] ts.tail=PL):=by rw[K,ZdU h1];rfl
    obtain⟨rfl,⟨k1,b1⟩,_⟩:=d.out;have F:Hid (RK _ R _ ts.tail):=b1;obtain⟨r0,b2⟩:∃r0,r0=ts.tail:=⟨_,rfl⟩
    rw[<-b2]at F j;go_wp2
    go_loopg [11] r0.length (fun g v11 wr=>∃(bs:List BA) (r:List Tok) (k2 n:Nat),g=r.length/\Hid (RK wr R k2 r)/\Hid (wr.ownsRow w.heap.size 9 1 v11 bs.length (Zbc bs))/\Hid (r.length<n/\bs.length+r.length<=302/\ZS (ZH 2) (bl cl) n (bs.map bl) r=PL)/\Hid (w.grownBy wr (some R.b)))
    case atStart=>exact⟨[],r0,k1,r0.length+1,rfl,F,Ybc _ _ _ _,⟨by omega,by have:=F.size;have:=F.len;simp;omega,j⟩,a7⟩
    case round=>
      obtain⟨bs,r,k2,n,c6,HK,HO,s,HG⟩:=hrel;obtain⟨m,rfl⟩:∃m,n=m+1:=⟨n - 1,by have:=s.1;omega⟩
      obtain⟨av,cp,hv⟩:=Zl HO;subst hv
      go_wp2_with fail
      refine(Zee HK).mono ?_;rintro e w2 ⟨⟨kd,at_,tx,tv⟩,rfl,ht,L⟩;have M:=hid (HK.below L);have b3:=hid (Zn HO L);have b4:=hid (Zj HG (Zw L))
      go_wp2_with fail
      refine(Zf6 ht.out M.wf.head.1 M.wf.head.2.2 cl E.1 E.2 w2).mono ?_;rintro e w3 ⟨rfl,N⟩;have G:=hid (M.below N);have O:=hid (Zn b3 N);have P:=hid (Zj b4 (Zw N));by_cases hc:isT (bl cl) (hd r)=true
      · rw[hc]
        have j:Hid (PL=.ok _):=hid (by rw[<-s.2.2,Zma hc]);have b5:=hid (ZdU hc)
        go_wp2_with fail
        refine(ZdT G _ E.1 E.2).mono ?_;rintro e w4 ⟨v,rfl,d,t⟩;rw[b5]at d;obtain⟨rfl,Q,_⟩:=d.out;have b6:Hid (∃k,RK _ R k r.tail):=Q;have S:=hid (Zfu O t D);have I:=hid (Zj P t);go_wp2;go_ret2;exact⟨_,_,_,_,rfl,j.out▸⟨rfl,b6.out,bs,Zgi S.out,rfl⟩,I⟩
      · have T:=Yce.2 hc
        rw[T];by_cases hb:bs=[]
        · subst hb
          have j:Hid ((bnd _ _)=PL):=s.2.2▸(Zmb T).symm;have c7:([]:List BA).length=0:=rfl
          go_wp2_with fail
          refine(Zkk G).mono ?_;rintro e w5 ⟨x,v,rfl,d,A⟩;have o:=hid (Zfu O A D);have p:=hid (Zj P A);cases f:(ZH 2) r with
          | error er=>
            rw[f]at d;obtain⟨fa,rfl⟩:=d.shape;have HE:Hid (Z9 _ R _ _):=d;have i:Hid (PL=.error er):=by rw[<-j,f];rfl
            go_wp2;go_ret2;exact⟨_,_,_,_,rfl,by rwa [i.out],p⟩
          | ok pr=>
            obtain⟨a,y⟩:=pr;rw[f]at d;obtain⟨rfl,⟨k5,U⟩,hx⟩:=d.out;have HX:Hid (bl x=a):=hx;have V:Hid (RK _ R _ y):=U;have B:y.length<=(r).tail.length:=(fun h=>Zjt h▸Yac _) f;have hy:y.length<r.length:=by have h9:=G.pos;simp only[Yb4]at B;omega
            have i:Hid (ZS (ZH 2) (bl cl) m (([]++[x]).map bl) y=PL):=by rw[<-j,f,Yaq];rw[<-HX];rfl
            have b7:=s.2.1;have b8:=s.1
            go_wp2_with (at_builtin;refine wpList_append_own _ rfl (.tmp 43) (.tmp 45) 122 rfl w.heap.size 9 i0 (.string ByteArray.empty) 1 16 underlying122 hi a2 a3 a4 rfl Dc _ _ _ rfl (o.alloc _) ⟨w5.heap.size,0,none⟩ 1 1 [.string x] rfl rfl ?c1 ?c2 ?c3 ?c4 ?c5 ?_)
            case c1=>exact ZcY rfl
            case c2=>intro u W;simp at W;rw[W];rfl
            case c3=>unfold maxLen;omega
            case c4=>omega
            case c5=>simp;have:=p.size;omega
            intro v' w6 a1 l _;have X:=hid (Zfn (ZbR p _) l (fun q C=>(o.lt q C).1));have Y:=hid (RK.grown H (V.below Zbal) l (fun q C=>(o.lt q C).1));have Z:Hid (w6.ownsRow w.heap.size 9 1 v' ([]++[x]).length (Zbc ([]++[x]))):=by rwa [Zh2,Yab]
            go_wp2
            go_roundg y.length
            case measure=>omega
            case rel=>exact⟨_,y,k5,m,rfl,Y,Z,⟨by omega,by simp;omega,i⟩,X⟩
        · have b9:=Ycj.2 hb
          have j:Hid ((bnd _ fun _ z=>bnd _ _)=PL):=s.2.2▸(Zmd T (by simpa using hb)).symm
          go_wp2_with fail
          refine(ZdT G _ Dc Dc).mono ?_;rintro e w4 ⟨v,rfl,d,t⟩;have S:=hid (Zfu O t D);have I:=hid (Zj P t);by_cases J:isT [44] (hd r)=true
          · rw[show Zq (bl ⟨#[44]⟩) r=.ok _ from ZdU J]at d
            obtain⟨rfl,⟨k4,Q⟩,_⟩:=d.out;have a8:Hid (RK _ R _ r.tail):=Q;have a0:Hid ((bnd ((ZH 2) r.tail) fun a y=>ZS (ZH 2) (bl cl) m (bs.map bl++[a]) y)=PL):=by rw[<-j,ZdU J];rfl
            go_wp2_with fail
            refine(Zkk a8).mono ?_;rintro e w5 ⟨x,v,rfl,d,A⟩;have o:=hid (Zfu S A D);have p:=hid (Zj I A);cases f:(ZH 2) r.tail with
            | error er=>
              rw[f]at d;obtain⟨fa,rfl⟩:=d.shape;have HE:Hid (Z9 _ R _ _):=d;have i:Hid (PL=.error er):=by rw[<-a0,f];rfl
              go_wp2;go_ret2;exact⟨_,_,_,_,rfl,by rwa [i.out],p⟩
            | ok pr=>
              obtain⟨a,y⟩:=pr;rw[f]at d;obtain⟨rfl,⟨k5,U⟩,hx⟩:=d.out;have HX:Hid (bl x=a):=hx;have V:Hid (RK _ R _ y):=U;have B:y.length<=(r.tail).tail.length:=(fun h=>Zjt h▸Yac _) f;have hy:y.length<r.length:=by have h9:=a8.pos;simp only[Yb4]at h9 B;omega
              have i:Hid (ZS (ZH 2) (bl cl) m ((bs++[x]).map bl) y=PL):=by rw[<-a0,f,Yaq];rw[<-HX];rfl
              have b7:=s.2.1;have b8:=s.1
              go_wp2_with (at_builtin;refine wpList_append_own _ rfl (.tmp 43) (.tmp 45) 122 rfl w.heap.size 9 i0 (.string ByteArray.empty) 1 16 underlying122 hi a2 a3 a4 rfl Dc _ _ _ rfl (o.alloc _) ⟨w5.heap.size,0,none⟩ 1 1 [.string x] rfl rfl ?c1 ?c2 ?c3 ?c4 ?c5 ?_)
              case c1=>exact ZcY rfl
              case c2=>intro u W;simp at W;rw[W];rfl
              case c3=>unfold maxLen;omega
              case c4=>omega
              case c5=>simp;have:=p.size;omega
              intro v' w6 a1 l _;have X:=hid (Zfn (ZbR p _) l (fun q C=>(o.lt q C).1));have Y:=hid (RK.grown H (V.below Zbal) l (fun q C=>(o.lt q C).1));have Z:Hid (w6.ownsRow w.heap.size 9 1 v' (bs++[x]).length (Zbc (bs++[x]))):=by rwa [Zh2,Yab]
              go_wp2
              go_roundg y.length
              case measure=>omega
              case rel=>exact⟨_,y,k5,m,rfl,Y,Z,⟨by omega,by simp;omega,i⟩,X⟩
          · rw[show Zq (bl ⟨#[44]⟩) r=.error _ from Ze8 J]at d
            obtain⟨fa,rfl⟩:=d.shape;have HE:Hid (Z9 _ R _ _):=d;have i:Hid (PL=.error (2,(hd r).at_)):=by rw[<-j,Ze8 J];rfl
            go_wp2;go_ret2;exact⟨_,_,_,_,rfl,by rwa [i.out],I⟩
  · rw[Ze8 h1]at d
    have i:Hid (PL=.error (2,(hd ts).at_)):=by rw[K,Ze8 h1];rfl
    obtain⟨fa,rfl⟩:=d.shape;have HE:Hid (Z9 _ R _ _):=d;go_wp2;go_ret2;exact⟨_,_,_,_,rfl,by rwa [i.out],a7⟩
theorem Zyy {w : World} {R : RS} {k : Nat} {ts : List Tok} (h : RK w R k ts) (op cl : BA) (b1 : (bl op).all (fun c => !Zp c) = true /\ bl op ≠ []) (b2 : (bl cl).all (fun c => !Zp c) = true /\ bl cl ≠ []) :
    CP 172 #[Vp R.b,.string op,.string cl,.func (.func 173) #[] #[]] w fun e w'=>∃(la:Option Addr) (ln lc:Nat) (v:Value),e=.returned (.tuple #[.slice la ln lc,v])/\Hid (Res R (fun w' ns=>ZX w' (.slice la ln lc) ns) w' (bnd (Zq (bl op) ts) fun _ r=>ZS ZV (bl cl) (r.length+1) [] r) v)/\w.grownBy w' (some R.b):=by
  have H:=hid h;have J:=(Yae.1 h.rd.cells).1;obtain⟨i0,hi,a4,a5,a6⟩:=info_parts Tryz.infoCondD;have a7:=hid b1;have K:=hid b2;obtain⟨PL,a8⟩:∃PL:Out _,PL=bnd (Zq (bl op) ts) fun _ r=>ZS ZV (bl cl) (r.length+1) [] r:=⟨_,rfl⟩
  rw[<-a8];have S:=hid a8;go_enter func172,ntmps172
  go_wp2_with fail
  refine(ZdT H _ a7.1 a7.2).mono ?_;rintro e w1 ⟨v,rfl,d,hg⟩;have a9:=hid hg;by_cases h1:isT (bl op) (hd ts)=true
  · rw[ZdU h1]at d
    have j:Hid (ZS ZV (bl cl) (ts.tail.length+1) [] ts.tail=PL):=by rw[S,ZdU h1];rfl
    obtain⟨rfl,⟨k1,b3⟩,_⟩:=d.out;have L:Hid (RK _ R _ ts.tail):=b3;obtain⟨r0,b4⟩:∃r0,r0=ts.tail:=⟨_,rfl⟩
    rw[<-b4]at L j;go_wp2
    go_loopg [11] r0.length (fun g v11 wr=>∃(bs:List (BA×BA×Bool)) (r:List Tok) (k2 n:Nat),g=r.length/\Hid (RK wr R k2 r)/\Hid (wr.ownsRow w.heap.size 224 3 v11 bs.length (Zb1 bs))/\Hid (r.length<n/\bs.length+r.length<=302/\ZS ZV (bl cl) n (bs.map Z7) r=PL)/\Hid (w.grownBy wr (some R.b)))
    case atStart=>exact⟨[],r0,k1,r0.length+1,rfl,L,Ybc _ _ _ _,⟨by omega,by have:=L.size;have:=L.len;simp;omega,j⟩,a9⟩
    case round=>
      obtain⟨bs,r,k2,n,c8,HK,HO,D,HG⟩:=hrel;obtain⟨m,rfl⟩:∃m,n=m+1:=⟨n - 1,by have:=D.1;omega⟩
      obtain⟨av,cp,hv⟩:=Zl HO;subst hv
      go_wp2_with fail
      refine(Zee HK).mono ?_;rintro e w2 ⟨⟨kd,at_,tx,tv⟩,rfl,ht,T⟩;have U:=hid (HK.below T);have b5:=hid (Zn HO T);have b6:=hid (Zj HG (Zw T))
      go_wp2_with fail
      refine(Zf6 ht.out U.wf.head.1 U.wf.head.2.2 cl K.1 K.2 w2).mono ?_;rintro e w3 ⟨rfl,V⟩;have E:=hid (U.below V);have M:=hid (Zn b5 V);have N:=hid (Zj b6 (Zw V));by_cases W:isT (bl cl) (hd r)=true
      · rw[W]
        have j:Hid (PL=.ok _):=hid (by rw[<-D.2.2,Zma W]);have b7:=hid (ZdU W)
        go_wp2_with fail
        refine(ZdT E _ K.1 K.2).mono ?_;rintro e w4 ⟨v,rfl,d,t⟩;rw[b7]at d;obtain⟨rfl,O,_⟩:=d.out;have b8:Hid (∃k,RK _ R k r.tail):=O;have X:=hid (Zfu M t J);have P:=hid (Zj N t);go_wp2;go_ret2;exact⟨_,_,_,_,rfl,j.out▸⟨rfl,b8.out,bs,Zgi X.out,rfl⟩,P⟩
      · have Q:=Yce.2 W
        rw[Q];by_cases hb:bs=[]
        · subst hb
          have j:Hid ((bnd _ _)=PL):=D.2.2▸(Zmb Q).symm;have c9:([]:List (BA×BA×Bool)).length=0:=rfl
          go_wp2_with fail
          refine(Zou E).mono ?_;rintro e w5 ⟨x,ng,z,v,rfl,d,A⟩;have o:=hid (Zfu M A J);have p:=hid (Zj N A);cases f:ZV r with
          | error er=>
            rw[f]at d;obtain⟨fa,rfl⟩:=d.shape;have Y:Hid (Z9 _ R _ _):=d;have l:Hid (PL=.error er):=by rw[<-j,f];rfl
            clear d f;go_wp2;go_ret2;exact⟨_,_,_,_,rfl,l.out▸Y.below Zbal,ZbR p _⟩
          | ok pr=>
            obtain⟨a,y⟩:=pr;rw[f]at d;obtain⟨rfl,⟨k5,F⟩,B⟩:=d.out;have HX:Hid (Z7 (x,z,ng)=a):=hid (by unfold Z7;simp only[B.1,B.2.1,B.2.2]);have Z:Hid (RK _ R _ y):=F;have s:=Zot f;have hy:y.length<r.length:=by have h9:=E.pos;simp only[Yb4]at s;omega
            have l:Hid (ZS ZV (bl cl) m (([]++[(x,z,ng)]).map Z7) y=PL):=by rw[<-j,f,Yaq];rw[<-HX];rfl
            have b9:=D.2.1;have c6:=D.1;clear d F B f s
            go_wp2_with (at_builtin;refine wpList_append_own _ rfl (.tmp 43) (.tmp 45) 146 rfl w.heap.size 224 i0 (.agg #[.string ByteArray.empty,.bool false,.string ByteArray.empty]) 3 40 underlying146 hi a4 a5 a6 rfl Dc _ _ _ rfl ((o.alloc _).alloc _) ⟨w5.heap.size+1,0,none⟩ 1 1 [.string x,.bool ng,.string z] rfl rfl ?c1 ?c2 ?c3 ?c4 ?c5 ?_)
            case c1=>exact ZcY (by simp)
            case c2=>intro u hu;simp at hu;rcases hu with rfl|rfl|rfl <;> rfl
            case c3=>unfold maxLen;omega
            case c4=>omega
            case c5=>simp;have:=p.size;omega
            intro v' w6 C i _;have a0:=hid (Zfn (ZbR (ZbR p _) _) i (fun q I=>(o.lt q I).1));have a1:=hid (RK.grown H (Z.below (Zbal.alloc (by simp) _)) i (fun q I=>(o.lt q I).1));have a2:Hid (w6.ownsRow w.heap.size 224 3 v' ([]++[(x,z,ng)]).length (Zb1 ([]++[(x,z,ng)]))):=by rwa [Zpk,Yab]
            clear C i;go_wp2
            go_roundg y.length
            case measure=>omega
            case rel=>exact⟨_,y,k5,m,rfl,a1,a2,⟨by omega,by simp;omega,l⟩,a0⟩
        · have c7:=Ycj.2 hb
          have j:Hid ((bnd _ fun _ z=>bnd _ _)=PL):=D.2.2▸(Zmd Q (by simpa using hb)).symm;clear W Q hb
          go_wp2_with fail
          refine(ZdT E _ Dc Dc).mono ?_;rintro e w4 ⟨v,rfl,d,t⟩;have X:=hid (Zfu M t J);have P:=hid (Zj N t);clear t;by_cases G:isT [44] (hd r)=true
          · rw[show Zq (bl ⟨#[44]⟩) r=.ok _ from ZdU G]at d
            obtain⟨rfl,⟨k4,O⟩,_⟩:=d.out;have b0:Hid (RK _ R _ r.tail):=O;have a3:Hid ((bnd (ZV r.tail) fun a y=>ZS ZV (bl cl) m (bs.map Z7++[a]) y)=PL):=by rw[<-j,ZdU G];rfl
            clear d O G j E M N
            go_wp2_with fail
            refine(Zou b0).mono ?_;rintro e w5 ⟨x,ng,z,v,rfl,d,A⟩;have o:=hid (Zfu X A J);have p:=hid (Zj P A);clear A;cases f:ZV r.tail with
            | error er=>
              rw[f]at d;obtain⟨fa,rfl⟩:=d.shape;have Y:Hid (Z9 _ R _ _):=d;have l:Hid (PL=.error er):=by rw[<-a3,f];rfl
              clear d f;go_wp2;go_ret2;exact⟨_,_,_,_,rfl,l.out▸Y.below Zbal,ZbR p _⟩
            | ok pr=>
              obtain⟨a,y⟩:=pr;rw[f]at d;obtain⟨rfl,⟨k5,F⟩,B⟩:=d.out;have HX:Hid (Z7 (x,z,ng)=a):=hid (by unfold Z7;simp only[B.1,B.2.1,B.2.2]);have Z:Hid (RK _ R _ y):=F;have s:=Zot f;have hy:y.length<r.length:=by have h9:=b0.pos;simp only[Yb4]at h9 s;omega
              have l:Hid (ZS ZV (bl cl) m ((bs++[(x,z,ng)]).map Z7) y=PL):=by rw[<-a3,f,Yaq];rw[<-HX];rfl
              have b9:=D.2.1;have c6:=D.1;clear d F B f s
              go_wp2_with (at_builtin;refine wpList_append_own _ rfl (.tmp 43) (.tmp 45) 146 rfl w.heap.size 224 i0 (.agg #[.string ByteArray.empty,.bool false,.string ByteArray.empty]) 3 40 underlying146 hi a4 a5 a6 rfl Dc _ _ _ rfl ((o.alloc _).alloc _) ⟨w5.heap.size+1,0,none⟩ 1 1 [.string x,.bool ng,.string z] rfl rfl ?c1 ?c2 ?c3 ?c4 ?c5 ?_)
              case c1=>exact ZcY (by simp)
              case c2=>intro u hu;simp at hu;rcases hu with rfl|rfl|rfl <;> rfl
              case c3=>unfold maxLen;omega
              case c4=>omega
              case c5=>simp;have:=p.size;omega
              intro v' w6 C i _;have a0:=hid (Zfn (ZbR (ZbR p _) _) i (fun q I=>(o.lt q I).1));have a1:=hid (RK.grown H (Z.below (Zbal.alloc (by simp) _)) i (fun q I=>(o.lt q I).1));have a2:Hid (w6.ownsRow w.heap.size 224 3 v' (bs++[(x,z,ng)]).length (Zb1 (bs++[(x,z,ng)]))):=by rwa [Zpk,Yab]
              clear C i;go_wp2
              go_roundg y.length
              case measure=>omega
              case rel=>exact⟨_,y,k5,m,rfl,a1,a2,⟨by omega,by simp;omega,l⟩,a0⟩
          · rw[show Zq (bl ⟨#[44]⟩) r=.error _ from Ze8 G]at d
            obtain⟨fa,rfl⟩:=d.shape;have Y:Hid (Z9 _ R _ _):=d;have l:Hid (PL=.error (2,(hd r).at_)):=by rw[<-j,Ze8 G];rfl
            clear d;go_wp2;go_ret2;exact⟨_,_,_,_,rfl,by rwa [l.out],P⟩
  · rw[Ze8 h1]at d
    have l:Hid (PL=.error (2,(hd ts).at_)):=by rw[S,Ze8 h1];rfl
    obtain⟨fa,rfl⟩:=d.shape;have Y:Hid (Z9 _ R _ _):=d;clear d;go_wp2;go_ret2;exact⟨_,_,_,_,rfl,by rwa [l.out],a9⟩
def canB(s:BA):Bool:=!decide (wOr=bl s) && !decide (wBy=bl s) && !(idx (bl s) ZW).isSome && !(idx (bl s) Z0).isSome
theorem Zus(s:BA){w:World}:CP 171 #[.string s] w fun e u=>e=.returned (.bool (canB s))/\u=w:=Zur s w
theorem Zza{ts:List Tok}{s:BA}(d:bl s=(hd ts).txt)(c:canB s=true):ZdQ ts=ZH 2 ts:=by
 unfold ZdQ;by_cases a:Zgp (hd ts)=true
 ·rw[if_pos a]
  exfalso
  unfold canB at c;rw[d]at c;unfold Zgp at a;simp only[Yas,Ycr,decide_eq_false_iff_not]at c;simp only[Yct]at a;obtain⟨⟨⟨e,f⟩,g⟩,h⟩:=c;rcases a with ((a|a)|a)|a
  ·rw[g]at a;cases a
  ·rw[h]at a;cases a
  ·exact e (Zic a).symm
  ·exact f (Zic a).symm
 ·rw[if_neg a]
theorem Zzb{ts:List Tok}{s:BA}(f:bl s=(hd ts).txt)(c:canB s=false):ZdQ ts=.error (2,(hd ts).at_):=by
 unfold ZdQ;by_cases d:Zgp (hd ts)=true
 ·rw[if_pos d]
 ·rw[if_neg d];refine Zgb (fun g=>d ?_);unfold canB at c;rw[f]at c;unfold Zgp
  have e:∀a:LB,decide (a=(hd ts).txt)=isT a (hd ts):=by
   intro a;unfold isT;rw[g,Ybh,decide_eq_true_iff,Yas,beq_iff_eq];exact⟨fun h=>⟨rfl,h.symm⟩,fun h=>h.2.symm⟩
  rw[e,e]at c;generalize isT wOr (hd ts)=b1 at *
  generalize isT wBy (hd ts)=b2 at *
  generalize(idx (hd ts).txt ZW).isSome=b3 at *
  generalize(idx (hd ts).txt Z0).isSome=b4 at *
  cases b1 <;> cases b2 <;> cases b3 <;> cases b4 <;> first|rfl|cases c
def set2(w:World)(a:Nat)(x y:Value):World:=(w.setCell ⟨a,0,none⟩ x).setCell ⟨a,1,none⟩ y
theorem ZdS{w:World}{a:Nat}{p q x y:Value}{t:TypeId}(h:BAt w a [p,q] t):BAt (set2 w a x y) a [x,y] t:=by
 unfold BAt at h;unfold BAt set2;simp only[World.setCell,Ybn,h,if_true,Ybf];rfl
theorem ret2{P:Program}{fn:Func}{R:Ending->World->Prop}{a:Act}{v:World}{b:Nat}{p q x y r:Value}{t:TypeId}(c:∀W:World,W.cell? ⟨b,0,none⟩=some x->W.cell? ⟨b,1,none⟩=some y->(results fn a.tmps).run P W=.ok r W)(hd:a.defers=[])(d:BAt v b [p,q] t)(e:R (.returned r) (set2 v b x y)):bodyPost P fn R .ret a (set2 v b x y):=by
 have s:=ZdS d (x:=x) (y:=y);exact bodyPost_ret (c _ (s.cell 0) (s.cell 1)) hd e
theorem Zm7(w:World)(a:Nat)(x y:Value){b:Nat}(c:b≠a):(set2 w a x y).heap[b]?=w.heap[b]?:=by
 unfold set2;rw[Go.Deep.blk_setCell_other _ _ _ _ c,Go.Deep.blk_setCell_other _ _ _ _ c]
theorem Zgr{w0 w:World}{a b:Nat}(h:w0.grownBy w (some b))(c:w0.heap.size<=a)(x y:Value):w0.grownBy (set2 w a x y) (some b):=
 ZA (ZA h (Or.inr c) _) (Or.inr c) _
theorem Z9.set2{w:World}{R:RS}{e:Nat×Nat}{v:Value}(h:Z9 w R e v){a:Nat}{c:List Value}{t:TypeId}(d:BAt w a c t)(f:t≠85)(x y:Value):Z9 (set2 w a x y) R e v:=by
 refine h.grown (b:=a) ?_ d f;exact ZA (ZA (ZbM w (some a)) (Or.inl rfl) _) (Or.inl rfl) _
theorem ZX.kept{w w':World}{v:Value}{ns:List (LB×LB×Bool)}(h:ZX w v ns){b:Nat}(hg:w.grownBy w' (some b)){c:Array Value}{t:TypeId}{fr:Nat×Nat}(g:w.heap[b]?=some (.cells c t fr))(i:t≠224):ZX w' v ns:=by
 obtain⟨bs,a,k⟩:=h;have d:=Zcx a g i;exact⟨bs,ZdA a (fun j f=>hg.block j (a.lt j f).2 (fun e=>by cases e;exact d f.symm)),k⟩
theorem Zbm.kept{w w':World}{v:Value}{ns:List (LB)}(h:Zbm w v ns){b:Nat}(hg:w.grownBy w' (some b)){c:Array Value}{t:TypeId}{fr:Nat×Nat}(g:w.heap[b]?=some (.cells c t fr))(i:t≠9):Zbm w' v ns:=by
 obtain⟨bs,a,k⟩:=h;have d:=Zcx a g i;exact⟨bs,ZdA a (fun j f=>hg.block j (a.lt j f).2 (fun e=>by cases e;exact d f.symm)),k⟩
theorem ZX.set2{w:World}{v:Value}{ns:List (LB×LB×Bool)}(h:ZX w v ns){a:Nat}{c:List Value}{t:TypeId}(d:BAt w a c t)(e:t≠224)(x y:Value):ZX (set2 w a x y) v ns:=
 h.kept (b:=a) (ZA (ZA (ZbM w (some a)) (Or.inl rfl) _) (Or.inl rfl) _) d e
theorem Zsd{w:World}{R:RS}{k:Nat}{ts:List Tok}(h:RK w R k ts) :
  CP 108 #[Vp R.b] w fun e u=>∃(nm:BA) (la:Option Addr) (ln lc:Nat) (v:Value),e=.returned (.tuple #[.agg #[.string nm,.slice la ln lc],v])/\Hid (Res R (fun u nd=>bl nm=nd.name/\ZX u (.slice la ln lc) nd.ku) u (selP ts) v)/\w.grownBy u (some R.b):=by
 have H:Hid (RK w R k ts):=h;have a9:R.b<w.heap.size:=(Yae.1 h.rd.cells).1;go_enter func108,ntmps108
 go_wp2_with fail
 refine Zm fun V m=>?_;have F:Hid (RK V R k ts):=hid (by rw[m];exact H.below Zbal);have Z:Hid (BAt V w.heap.size [.string ByteArray.empty,S0] 148):=hid (by rw[m];exact bnw);have a0:Hid (w.grownBy V (some R.b)):=hid (by rw[m];exact ZbR (ZbM _ _) _);refine(Zee F.out).mono ?_;rintro e w1 ⟨⟨kd,at_,tx,tv⟩,rfl,ht,n⟩;have G:=hid (Z.below n);have I:Hid (w.grownBy w1 (some R.b)):=Zj a0.out (Zw n);have J:Hid (RK w1 R k ts):=F.below n;have K:Hid (bl tx=(hd ts).txt):=ht.2.2.1;have hf:∀W:World,(Instr.field 74 (.agg #[Vi kd,Vi at_,.string tx,Vi tv]) 2).run prog W=.ok (.string tx) W:=fun _=>rfl
 go_wp2_with fail
 refine cret (Zus tx) ?_;cases hc:canB tx
 ·have o:Hid (selP ts=.error (2,(hd ts).at_)):=hid (by unfold selP;rw[Zzb K.out hc];rfl)
  go_wp2_with fail
  refine(Zfi J.out).mono ?_;rintro e wE ⟨v,rfl,E,L⟩;obtain⟨fa,rfl⟩:=E.shape;have f:=hid (G.below L);have a1:Hid (w.grownBy wE (some R.b)):=Zj I.out (Zw L);have f0:=f.frozen;have c0:=f.cell;go_wp2;exact ret2 (r:=.tuple #[.agg #[.string ⟨#[]⟩,S0],.iface 81 (Vp fa)]) (fun W s0 s1=>by simp[results,results108,go_sem,s0,s1]) rfl f.out ⟨_,_,_,_,_,rfl,by rw[o.out];exact(E.set2 f.out Dc (.string ⟨#[]⟩) S0),Zgr a1.out (Yac _) (.string ⟨#[]⟩) S0⟩
 ·have M:Hid (ZdQ ts=ZH 2 ts):=Zza K.out hc
  go_wp2_with fail
  refine(Zkk J.out).mono ?_;rintro e z ⟨x,v,rfl,a,hg⟩;have c:Hid (BAt z w.heap.size [.string ByteArray.empty,S0] 148):=G.grown hg (by simp;omega);have N:Hid (w.grownBy z (some R.b)):=Zj I.out hg;by_cases g:(hd ts).jk=2
  ·rw[Zfr g]at a;obtain⟨rfl,⟨k2,hk⟩,hx⟩:=a.out;have O:Hid (RK z R k2 ts.tail):=hk;have HX:Hid (bl x=(hd ts).txt):=hx;have P:Hid (ZdQ ts=.ok ((hd ts).txt,ts.tail)):=hid (by rw[M.out,Zfr g])
   go_wp2_with fail
   refine(Zee O.out).mono ?_;rintro e w3 ⟨⟨kd3,at3,tx3,tv3⟩,rfl,a2,p⟩;have a3:=hid (c.below p);have a4:Hid (w.grownBy w3 (some R.b)):=Zj N.out (Zw p);have q:Hid (RK w3 R k2 ts.tail):=O.below p
   go_wp2_with fail
   refine(Zf6 a2.out q.wf.head.1 q.wf.head.2.2 ⟨#[123]⟩ Dc Dc _).mono ?_;rintro e X ⟨rfl,t⟩;have i:=hid (a3.below t);have Q:Hid (w.grownBy X (some R.b)):=Zj a4.out (Zw t);have A:Hid (RK X R k2 ts.tail):=q.below t;by_cases B:isT [123] (hd ts.tail)=true
   ·rw[show isT (bl ⟨#[123]⟩) (hd ts.tail)=true from B];obtain⟨PL,S⟩:∃PL,PL=bnd (Zq [123] ts.tail) fun _ r=>ZS ZV [125] (r.length+1) [] r:=⟨_,rfl⟩
    have C : Hid (selP ts = bnd PL fun cs r => .ok (⟨1, 0, 0, (hd ts).txt, cs, []⟩, r)) := hid (by
      unfold selP;rw[P.out];show(if isT [123] (hd ts.tail)=true then _ else _)=_;rw[if_pos B,S,ZdU B];have hl:ts.tail.length=ts.tail.tail.length+1:=by have:=A.pos;rw[Yb4 (l:=ts.tail)];omega
      rw[hl];rfl)
    have a5:Hid (PL=bnd (Zq [123] ts.tail) fun _ r=>ZS ZV [125] (r.length+1) [] r):=S
    go_wp2_with fail
    refine(Zyy A.out ⟨#[123]⟩ ⟨#[125]⟩ Dc Dc).mono ?_;rintro e D ⟨la,ln,lc,v,rfl,a,T⟩;rw[show(bnd (Zq (bl ⟨#[123]⟩) ts.tail) fun _ r=>ZS ZV (bl ⟨#[125]⟩) (r.length+1) [] r)=PL from a5.symm]at a;have d:Hid (BAt D w.heap.size [.string ByteArray.empty,S0] 148):=i.grown T (by simp;omega);have a6:Hid (w.grownBy D (some R.b)):=Zj Q.out T;have f0:=d.frozen;have c0:=d.cell;go_wp2;change bodyPost _ _ _ _ _ (set2 D w.heap.size (.string x) (.slice la ln lc));have s:=ZdS d.out (x:=.string x) (y:=.slice la ln lc);have s0:=s.cell 0;have s1:=s.cell 1;simp only[Zget]at s0 s1;have a7:=hid (Zgr a6.out (Yac _) (.string x) (.slice la ln lc))
    have a8 : Hid (Res R (fun u nd => bl x = nd.name /\ ZX u (.slice la ln lc) nd.ku) (set2 D w.heap.size (.string x) (.slice la ln lc)) (selP ts) v) := hid (by
      rw[C.out];cases U:PL with
      | error er=>rw[U]at a;exact Z9.set2 a.out d.out Dc _ _
      | ok pr=>
        rw[U]at a;obtain⟨h1,⟨kk,h2⟩,h3⟩:=a.out;exact⟨h1,⟨kk,RK.fresh H.out h2 (Yac _) (fun j Y=>Zm7 _ _ _ _ Y)⟩,HX.out,ZX.set2 h3 d.out Dc _ _⟩)
    generalize set2 D w.heap.size (.string x) (.slice la ln lc)=WX at *
    exact bodyPost_ret (v:=.tuple #[.agg #[.string x,.slice la ln lc],v]) (by simp[results,results108,go_sem,s0,s1]) rfl ⟨_,_,_,_,_,rfl,a8,a7.out⟩
   ·rw[show isT (bl ⟨#[123]⟩) (hd ts.tail)=false from Yce.2 B]
    have C:Hid (selP ts=.ok (⟨1,0,0,(hd ts).txt,[],[]⟩,ts.tail)):=hid (by
     unfold selP;rw[P.out];show(if isT [123] (hd ts.tail)=true then _ else _)=_;rw[if_neg B])
    have f0:=i.frozen;have c0:=i.cell;go_wp2;exact ret2 (r:=.tuple #[.agg #[.string x,S0],.nilIface]) (fun W s0 s1=>by simp[results,results108,go_sem,s0,s1]) rfl i.out ⟨_,_,_,_,_,rfl,by rw[C.out];exact⟨rfl,⟨_,RK.fresh H.out A.out (w':=set2 X w.heap.size (.string x) S0) (Yac _) (fun j Y=>Zm7 _ _ _ _ Y)⟩,HX.out,[],Ybc _ _ _ _,rfl⟩,Zgr Q.out (Yac _) (.string x) S0⟩
  ·rw[Zgb g]at a;have o:Hid (selP ts=.error (2,(hd ts).at_)):=hid (by unfold selP;rw[M.out,Zgb g];rfl);obtain⟨fa,rfl⟩:=a.shape;have E:Hid (Z9 z R (2,(hd ts).at_) _):=a.out;have f0:=c.frozen;have c0:=c.cell;go_wp2;exact ret2 (r:=.tuple #[.agg #[.string x,S0],.iface 81 (Vp fa)]) (fun W s0 s1=>by simp[results,results108,go_sem,s0,s1]) rfl c.out ⟨_,_,_,_,_,rfl,by rw[o.out];exact(E.set2 c.out Dc (.string x) S0),Zgr N.out (Yac _) (.string x) S0⟩
def Zdb(o:Nat):Nat:=if o=0 then 0 else if o<=2 then 1 else 2
def Ze5(o:Nat):LB:=if o=0 then [111,114] else if o=1 then [43] else if o=2 then [45] else if o=3 then [42] else [47]
theorem Zm0 (o : Nat) (a : o <= 4) {w:World} : CP 53 #[Vi o] w fun e u => e = .returned (Vi (Zdb o)) /\ u = w := by
  have h:o=0∨o=1∨o=2∨o=3∨o=4:=by omega
  rcases h with rfl|rfl|rfl|rfl|rfl
  all_goals
    go_enter func53,ntmps53;go_wp2;go_ret;exact⟨rfl,rfl⟩
theorem ZCd (o : Nat) (a : o <= 4) {w:World} : CP 67 #[Vi o] w fun e u => e = .returned (.string ⟨(Ze5 o).toArray⟩) /\ u = w := by
  have h:o=0∨o=1∨o=2∨o=3∨o=4:=by omega
  rcases h with rfl|rfl|rfl|rfl|rfl
  all_goals
    go_enter func67,ntmps67;go_wp2;go_ret;exact⟨rfl,rfl⟩
def ZhO(t:PTok):Bool:=if ((t.kd:Int) == 0)then true else if ((t.kd:Int) == 1)then !(t.tx.toList == [111,114]) && !(t.tx.toList == [98,121])else ZY t ⟨#[45]⟩ || ZY t ⟨#[40]⟩
theorem Zt1(t:PTok)(w:World) :
  CP 101 #[.agg #[Vi t.kd,Vi t.at_,.string t.tx,Vi t.v]] w fun e u=>e=.returned (.bool (ZhO t))/\BW w u:=by
 have g:Hid (TAt _ w.heap.size t):=bnw;have a:Hid (Below _ w (w.alloc (.cells #[Vi t.kd,Vi t.at_,.string t.tx,Vi t.v] 74))):=Zbal;obtain⟨x0,i⟩:∃x,((t.kd:Int) == 0)=x:=⟨_,rfl⟩
 obtain⟨x1,j⟩:∃x,((t.kd:Int) == 1)=x:=⟨_,rfl⟩
 obtain⟨y1,g1⟩:∃x,(t.tx.toList == [111,114])=x:=⟨_,rfl⟩
 obtain⟨y2,g2⟩:∃x,(t.tx.toList == [98,121])=x:=⟨_,rfl⟩
 obtain⟨z1,f1⟩:∃x,ZY t ⟨#[45]⟩=x:=⟨_,rfl⟩
 obtain⟨z2,f2⟩:∃x,ZY t ⟨#[40]⟩=x:=⟨_,rfl⟩
 have k:Hid (ZhO t=if x0 then true else if x1 then !y1 && !y2 else z1 || z2):=hid (by unfold ZhO;rw[i,j,g1,g2,f1,f2]);have h:Hid (ZY t _=z1/\ZY t _=z2):=⟨f1,f2⟩
 rw[k];cases x0
 ·cases x1
  ·go_enter func101,ntmps101
   go_wp2_with fail
   refine(ZgT t h.1 w g a).mono ?_;rintro e m ⟨rfl,c,d⟩;cases z1
   ·obtain⟨k0,k1,k2,k3⟩:=TAt.all c
    go_wp2_with fail
    refine(ZgT t h.2 w c d).mono ?_;rintro e z ⟨rfl,l,f⟩;cases z2
    ·go_wp2;go_ret;exact⟨rfl,f⟩
    ·go_wp2;go_ret;exact⟨rfl,f⟩
   ·go_wp2;go_ret;exact⟨rfl,d⟩
  ·cases y1 <;> cases y2
   all_goals
    go_enter func101,ntmps101;go_wp2;go_ret;exact⟨rfl,a⟩
 ·go_enter func101,ntmps101;go_wp2;go_ret;exact⟨rfl,a⟩
def opNo(a:Nd):Nat:=if a.jk=6 then 0 else a.op+1
def Zh(w:World):Tr->Value->Prop
 | .nil,_=>False
 | .node _ _ a l r,v=>
  (a.jk=0/\v=.iface 119 (.agg #[Vi a.n]))∨
  (a.jk=1/\∃(nm:BA) (la:Option Addr) (ln lc:Nat),v=.iface 148 (.agg #[.string nm,.slice la ln lc])/\bl nm=a.name/\ZX w (.slice la ln lc) a.ku)∨
  (a.jk=2/\∃(wd nm:BA) (la:Option Addr) (ln lc:Nat),v=.iface 150 (.agg #[.string wd,.string nm,.slice la ln lc,Vi a.n])/\bl wd=Z0.getD a.op []/\bl nm=a.name/\ZX w (.slice la ln lc) a.ku)∨
  (a.jk=3/\∃x,v=.iface 121 (.agg #[x])/\Zh w l x)∨
  (a.jk=5/\∃(wd:BA) (la:Option Addr) (ln lc:Nat) (x:Value),v=.iface 124 (.agg #[.string wd,.slice la ln lc,x])/\bl wd=ZW.getD a.op []/\Zbm w (.slice la ln lc) a.by_/\Zh w l x)∨
  ((a.jk=4∨a.jk=6)/\∃x y,v=.iface 116 (.agg #[Vi (opNo a),x,y])/\Zh w l x/\Zh w r y)
def Zhp(v:Value):Prop:=v=.nilIface∨∃(ty:TypeId) (u:Value),v=.iface ty u
theorem Zh.shape{w:World} : ∀ {t:Tr} {v:Value},Zh w t v->∃(ty:TypeId) (u:Value),v=.iface ty u
 | .nil,_,h=>h.elim
 | .node _ _ a l r, v, h => by
   rcases h with ⟨_,h⟩|⟨_,_,_,_,_,h,_⟩|⟨_,_,_,_,_,_,h,_⟩|⟨_,_,h,_⟩|⟨_,_,_,_,_,_,h,_⟩|⟨_,_,_,h,_⟩
   all_goals exact⟨_,_,h⟩
theorem ZX.below{w w':World}{v:Value}{ns:List (LB×LB×Bool)}(h:ZX w v ns)(a:BW w w'):ZX w' v ns:=by
 obtain⟨bs,c,d⟩:=h;exact⟨bs,Zn c a,d⟩
theorem Zbm.below{w w':World}{v:Value}{ns:List (LB)}(h:Zbm w v ns)(a:BW w w'):Zbm w' v ns:=by
 obtain⟨bs,c,d⟩:=h;exact⟨bs,Zn c a,d⟩
theorem Zh.mono{w w':World}(i:∀v cs,ZX w v cs->ZX w' v cs)(j:∀v ns,Zbm w v ns->Zbm w' v ns):∀(t:Tr) (v:Value),Zh w t v->Zh w' t v
 | .nil,_,h=>h
 | .node _ _ a l r, v, h => by
   have g:=Zh.mono i j l;have n:=Zh.mono i j r;rcases h with h|⟨c,nm,la,ln,lc,d,e,f⟩|⟨c,k,nm,la,ln,lc,d,e,f,m⟩|⟨c,x,d,e⟩|⟨c,k,la,ln,lc,x,d,e,f,m⟩|⟨c,x,y,d,e,f⟩
   · exact .inl h
   · exact .inr (.inl ⟨c,nm,la,ln,lc,d,e,i _ _ f⟩)
   · exact .inr (.inr (.inl ⟨c,k,nm,la,ln,lc,d,e,f,i _ _ m⟩))
   · exact .inr (.inr (.inr (.inl ⟨c,x,d,g x e⟩)))
   · exact .inr (.inr (.inr (.inr (.inl ⟨c,k,la,ln,lc,x,d,e,j _ _ f,g x m⟩))))
   · exact .inr (.inr (.inr (.inr (.inr ⟨c,x,y,d,g x e,n y f⟩))))
theorem Zh.below{w w':World}{t:Tr}{v:Value}(h:Zh w t v)(a:BW w w'):Zh w' t v:=Zh.mono (fun _ _ h=>h.below a) (fun _ _ h=>h.below a) t v h
theorem Zh.kept{w w':World}{t:Tr}{v:Value}(h:Zh w t v){b:Nat}(hg:w.grownBy w' (some b)){c:Array Value}{ty:TypeId}{fr:Nat×Nat}(a:w.heap[b]?=some (.cells c ty fr))(d:ty≠224)(e:ty≠9):Zh w' t v:=
 Zh.mono (fun _ _ h=>h.kept hg a d) (fun _ _ h=>h.kept hg a e) t v h
theorem Zh.read{w w':World}{R:RS}{k:Nat}{ts:List Tok}{t:Tr}{v:Value}(h:Zh w t v)(a:RK w R k ts)(hg:w.grownBy w' (some R.b)):Zh w' t v:=h.kept hg a.rd.cells Dc Dc
theorem ZX.read{w w':World}{R:RS}{k:Nat}{ts:List Tok}{v:Value}{cs:List (LB×LB×Bool)}(h:ZX w v cs)(a:RK w R k ts)(hg:w.grownBy w' (some R.b)):ZX w' v cs:=h.kept hg a.rd.cells Dc
theorem Zbm.read{w w':World}{R:RS}{k:Nat}{ts:List Tok}{v:Value}{cs:List (LB)}(h:Zbm w v cs)(a:RK w R k ts)(hg:w.grownBy w' (some R.b)):Zbm w' v cs:=h.kept hg a.rd.cells Dc
theorem Res.err{α:Type}{R:RS}{V:World->α->Prop}{w:World}{r:Out α}{v:Value}(h:Res R V w r v){e:Nat×Nat}(a:r=.error e):Z9 w R e v:=by subst a;exact h
theorem Res.good{α:Type}{R:RS}{V:World->α->Prop}{w:World}{r:Out α}{v:Value}(h:Res R V w r v){a:α}{ts:List Tok}(c:r=.ok (a,ts)):v=.nilIface/\(∃k,RK w R k ts)/\V w a:=by subst c;exact h
end Go.Proofs.YtcdgkkfipdoeeaaGreatDoor
namespace Go.Proofs.YtcdgkkfipdoeeaaGreatDoor.LS
open Go Go.RowKit
theorem Zjj (c : UInt8) (l : LB) : Lib.index l [c] = match seek c l with | none => -1 | some i => (i : Int) := by
  induction l with
  | nil=>rfl
  | cons b l ih=>
    unfold Lib.index seek;by_cases a:b=c
    · simp_all
    · have d:[c].isPrefixOf (b::l)=false:=by simp[List.isPrefixOf,Ycp a]
      have e:(b == c)=false:=by simp[a]
      rw[if_neg (by simp[d]),ih,e];split<;>simp_all
theorem Zyn{c:UInt8}{l x y:LB}(h:cut c l=some (x,y)):Lib.cut l [c]=(x,y,true):=by
 unfold cut at h;cases a:seek c l with
 | none=>simp_all
 | some i=>
  rw[a]at h;simp only[Ybf,Yci,Yc5]at h;unfold Lib.cut;rw[Zjj,a]
  simp_all
theorem Zym{c:UInt8}{l:LB}(h:cut c l=none):Lib.cut l [c]=(l,[],false):=by
 unfold cut at h;cases a:seek c l with
 | some i=>simp_all
 | none=>
  unfold Lib.cut;rw[Zjj,a];rfl
theorem Zdx{c:UInt8}{l x y:LB}(h:cut c l=some (x,y)):l=x++c::y/\c∉x:=by
 unfold cut at h;cases d:seek c l with
 | none=>simp_all
 | some i=>
  rw[d]at h;simp only[Ybf,Yci,Yc5]at h;obtain⟨a,b,rfl,rfl,e⟩:=Ziv d
  simp_all
theorem ZoE{c:UInt8}{x y:LB}(h:c∉x):cut c (x++c::y)=some (x,y):=by
 unfold cut;rw[Zgq c x y h];simp
theorem Zsq(c:UInt8):∀(n:Nat) (l:LB),l.length<=n->Lib.splitK [c] 0 (Lib.count l [c]) l=split c l:=by
 intro n
 induction n with
 | zero=>
  intro l g;obtain rfl:l=[]:=List.length_eq_zero_iff.1 Om;rfl
 | succ n ih=>
  intro l g;cases d:seek c l with
  | none=>
   rw[Lib.count_miss (by rw[Zjj,d])];have e:=(Zj9 c l).1 d;have:=Zhb c l [] e;rw[Yca]at this;rw[this];simp[Lib.splitK,split,pre]
  | some i=>
   obtain⟨a,b,rfl,rfl,e⟩:=Ziv d;have f:Lib.index (a++c::b) [c]=(a.length):=by rw[Zjj,d]
   rw[Lib.count_hit (by simp) f];have e1:(a++c::b).drop (a.length + [c].length)=b:=by simp
   rw[e1,Nat.add_comm,Lib.splitK,if_neg (by simp_all),f];rw[show((a.length:Int)).toNat=a.length by omega,e1,ih b (by simp_all;omega),Zhb c a _ e,Zhc];simp[pre]
def ZbI(c:UInt8):LB->LB×Bool
 | []=>([],false)
 | b::t=>if b == c then (t,true)else (b::t,false)
theorem Zyo(c:UInt8)(l:LB):(Lib.trimPrefix l [c],Lib.hasPrefix l [c])=ZbI c l:=by
 cases l with
 | nil=>rfl
 | cons b t=>
  by_cases a:b=c
  ·subst a;simp[Lib.trimPrefix,Lib.hasPrefix,ZbI]
  ·have d:[c].isPrefixOf (b::t)=false:=by simp[List.isPrefixOf,Ycp a]
   simp[Lib.trimPrefix,Lib.hasPrefix,ZbI,a,d]
theorem Znm(c:UInt8)(l:LB):(ZbI c l).1.length<=l.length:=by
 cases l with
 | nil=>simp[ZbI]
 | cons b t=>by_cases h:(b == c)=true <;> simp[ZbI,h]
def Zds(d:LB):Bool:=match ZQ 1000000000 (ZbI 45 d).1 with
 | none=>false
 | some v=>!((ZbI 45 d).2 && v == 0)
def Zdn(t:LB):Option Nat:=match cut 58 t with
 | none=>none
 | some (a, d) => match ZQ 1000000 a with
   | none=>none
   | some tm=>if Zds d then some tm else none
def Zcq:Int->Nat->List (LB)->Option Nat
 | _,n,[]=>some n
 | last, n, x :: xs => match Zdn x with
   | none=>none
   | some t=>if (t:Int)<=last then none else Zcq t (n+1) xs
def Zcz(l:LB):Option Nat:=match ZbI 32 l with
 | (r,f)=>if l=[] then some 0 else if f then Zcq (-1) 0 (split 32 r)else none
def leS(a b:LB):Bool:=Op.bytesLess a b || a == b
def Zd5(last:LB)(x:LB):Option (LB×LB):=match cut 61 x with
 | none=>none
 | some (n,v)=>if Zx n && Z3 v && !v.isEmpty && !leS n last then some (n,v)else none
def ZbS:LB->List (LB×LB)->List (LB)->Option (List (LB×LB))
 | _,acc,[]=>some acc
 | last, acc, x :: xs => match Zd5 last x with
   | none=>none
   | some p=>ZbS p.1 (acc++[p]) xs
def Zcc(l:LB):Option (List (LB×LB)):=if l=[] then some [] else ZbS [] [] (split 44 l)
def line(l:LB):Option (LB×LB×Nat):=match cut 123 l with
 | none=>none
 | some (name, rest) => match cut 125 rest with
   | none=>none
   | some (inside,behind)=>if Zx name && (Zcc inside).isSome then (Zcz behind).map (fun n=>(name,inside,n))else none
theorem ZjF{l:LB}(h:cut 123 l=none):line l=none:=by unfold line;rw[h]
theorem ZjE{l name rest:LB}(h:cut 123 l=some (name,rest))(a:cut 125 rest=none):line l=none:=by unfold line;simp_all
theorem ZjG{l name rest inside behind:LB}(h:cut 123 l=some (name,rest))(a:cut 125 rest=some (inside,behind)) :
  line l=if Zx name && (Zcc inside).isSome then (Zcz behind).map (fun n=>(name,inside,n))else none:=by unfold line;simp_all
structure Entry where
 at_:Nat
 name:LB
 inside:LB
 count:Nat
def Zbh:Nat->List Entry->List (LB)->Nat ⊕ List Entry
 | _,acc,[]=>.inr acc
 | i, acc, x :: xs => if x = [] then Zbh (i + 1) acc xs else match line x with
   | none=>.inl i
   | some (a,b,n)=>Zbh (i+1) (acc++[⟨i,a,b,n⟩]) xs
theorem Zyw{i:Nat}{acc:List Entry}{ps:List (LB)}(a:i<ps.length)(h:ps.getD i []=[]):Zbh i acc (ps.drop i)=Zbh (i+1) acc (ps.drop (i+1)):=by
 have e:ps.getD i []=ps[i]:=by simp[a]
 rw[List.drop_eq_getElem_cons a,Zbh,<-e,if_pos h]
theorem Zyu{i:Nat}{acc:List Entry}{ps:List (LB)}(a:i<ps.length)(h:ps.getD i []≠[])(c:line (ps.getD i [])=none):Zbh i acc (ps.drop i)=.inl i:=by
 have e:ps.getD i []=ps[i]:=by simp[a]
 rw[List.drop_eq_getElem_cons a,Zbh,<-e,if_neg h,c]
theorem Zyv{i:Nat}{acc:List Entry}{ps:List (LB)}(c:i<ps.length)(h:ps.getD i []≠[]){a b:LB}{n:Nat}(d:line (ps.getD i [])=some (a,b,n)) :
  Zbh i acc (ps.drop i)=Zbh (i+1) (acc++[⟨i,a,b,n⟩]) (ps.drop (i+1)):=by
 have e:ps.getD i []=ps[i]:=by simp[c]
 rw[List.drop_eq_getElem_cons c,Zbh,<-e,if_neg h,d]
theorem Zyx{i:Nat}{acc:List Entry}{ps:List (LB)}(a:¬i<ps.length):Zbh i acc (ps.drop i)=.inr acc:=by
 rw[Yb8 Om];rfl
end Go.Proofs.YtcdgkkfipdoeeaaGreatDoor.LS
namespace Go.Proofs.YtcdgkkfipdoeeaaGreatDoor
open Go.RowKit LS Go.Proofs.Tryz
theorem Zri(most:Nat)(l:LB) : -1<=numI most l/\numI most l<=most:=by
 cases h:ZQ most l with
 | none=>rw[Zrj h];omega
 | some v=>rw[ZgX h];have:=Zgh h;omega
def Zca:List (Int×Int)->List Value
 | []=>[]
 | x::l=>.int .i64 x.1::.int .i64 x.2::Zca l
theorem Zwg(l m:List (Int×Int)):Zca (l++m)=Zca l++Zca m:=by
 induction l with
 | nil=>rfl
 | cons a l ih=>simp[Zca,ih]
theorem Zwh (l : List (Int × Int)) (j : Nat) : (Zca l)[j * 2]? = l[j]?.map (fun x => Vi x.1) /\ (Zca l)[j * 2 + 1]? = l[j]?.map (fun x => Vi x.2) := by
  induction l generalizing j with
  | nil=>simp[Zca]
  | cons r l ih=>
    cases j with
    | zero=>simp[Zca]
    | succ j=>
      obtain⟨a,c⟩:=ih j;refine⟨?_,?_⟩
      · rw[show(j+1)*2=j*2+1+1 by omega];assumption
      · rw[show(j+1)*2+1=j*2+1+1+1 by omega];assumption
def smOk(x:Int×Int):Prop:=-1000000<=x.1/\x.1<=1000000/\-1000000000<=x.2/\x.2<=1000000000
def valI(d:LB):Int:=match ZbI 45 d with
 | (d',less)=>if less then -(numI 1000000000 d')else numI 1000000000 d'
def smV(x:LB):Int×Int:=match cut 58 x with
 | none=>(0,0)
 | some (a,d)=>(numI 1000000 a,valI d)
def Zez:LB->List (Int×Int)
 | []=>[]
 | _::t=>(split 32 t).map smV
theorem ZCr(x:LB):smOk (smV x):=by
 unfold smV;split
 ·unfold smOk;decide
 ·rename_i a d _;have c:=Zri 1000000 a;unfold valI;cases hd:ZbI 45 d with
  | mk d' less=>
   have e:=Zri 1000000000 d';unfold smOk
   simp_all;omega
theorem Zwi{l:List (LB)}{k:Nat}(a:k<l.length){x:LB}(c:x=l.getD k []){t v:Int}(d:smV x=(t,v)):Zca ((l.map smV).take (k+1))=Zca ((l.map smV).take k)++[Vi t,Vi v]:=by
 have e:l[k]=x:=by rw[c,Yaa,List.getElem?_eq_getElem a];rfl
 rw[<-Yer,<-Yer,List.take_succ_eq_append_getElem a,Yaq,Zwg,Yco,e,d];rfl
def Zdo(l:LB):List (Int×Int):=match LS.seek 125 l with
 | some b=>Zez (l.drop (b+1))
 | none=>[]
theorem Zr1{l x r y z:LB}(a:Zx x=true)(d:cut 123 l=some (x,r))(e:cut 125 r=some (y,z)):Zdo l=Zez z:=by
 obtain⟨e1,n1⟩:=Zdx d;obtain⟨e2,n2⟩:=Zdx e
 have f:(125)∉x:=by
  intro g;unfold Zx at a;rw[Yas]at a;have:=Ybu.1 a.1 _ g;exact absurd this Dc
 have c:l=(x++123::y)++125::z:=by rw[e1,e2];simp
 have i:LS.seek 125 l=some (x++123::y).length:=by
  rw[c];refine Zgq _ _ z ?_;rw[Yar,Yau];rintro(h|h|h)
  ·exact f h
  ·simp_all
  ·exact n2 h
 unfold Zdo;rw[i,c];simp only
 congr 1
 rw[show(x++123::y)++125::z=((x++123::y)++[125])++z by simp,List.drop_append_of_le_length (by simp;omega),Yb8 (by simp;omega)];rfl
def cmpV(x y:LB):Int:=if Op.bytesLess x y then -1 else if Op.bytesLess y x then 1 else 0
theorem ZjM {s:BA} {w:World} : CP 268 #[.string s] w fun e u => e = .returned (.bool false) /\ u = w := by
  go_enter func268,ntmps268;go_wp2;go_ret;exact⟨by simp,rfl⟩
theorem Zra {s:BA} {w:World} : CP 266 #[.string s] w fun e u => e = .returned (.bool false) /\ u = w := by
  go_enter func266,ntmps266;go_wp2;go_ret;exact⟨by simp,rfl⟩
theorem Zoe {a b:BA} {w:World} : CP 237 #[.string a, .string b] w fun e u => e = .returned (Vi (cmpV (bl a) (bl b))) /\ u = w := by
  obtain⟨r,c⟩:∃r,r=cmpV (bl a) (bl b):=⟨_,rfl⟩
  rw[<-c];unfold cmpV at c;rw[<-Zbt,<-Zbt]at c;obtain⟨p,g⟩:∃p,Op.bytesLess a.toList b.toList=p:=⟨_,rfl⟩
  obtain⟨q,d⟩:∃q,Op.bytesLess b.toList a.toList=q:=⟨_,rfl⟩
  rw[g,d]at c;have f:=hid c;clear c;cases p
  · cases q
    · obtain rfl:r=0:=f.out
      have h:(a.toList == b.toList)=true:=by rw[beq_iff_eq];exact Zdh _ _ g d
      go_enter func237,ntmps237
      go_wp2_with (go_at_call 268;refine cret (ZjM) ?_)
      go_ret;exact⟨rfl,rfl⟩
    · obtain rfl:r=1:=f.out
      have h:(a.toList == b.toList)=false:=by rw[beq_eq_false_iff_ne];intro e;rw[e,ZcL]at d;cases d
      go_enter func237,ntmps237
      go_wp2_with (go_at_call 268;refine cret (ZjM) ?_)
      go_ret;exact⟨rfl,rfl⟩
  · obtain rfl:r=-1:=f.out
    go_enter func237,ntmps237
    go_wp2_with (go_at_call 268;refine cret (ZjM) ?_)
    go_ret;exact⟨rfl,rfl⟩
theorem ZxX (a b : BA) (w : World) : CP 262 #[.string a, .string b] w fun e u => e = .returned (.bool (Op.bytesLess (bl a) (bl b))) /\ u = w := by
  rw[<-Zbt,<-Zbt];generalize c:Op.bytesLess a.toList b.toList=p;go_enter func262,ntmps262
  go_wp2_with (go_at_call 268;refine cret (ZjM) ?_)
  go_ret;exact⟨by first|rfl|simp[c],rfl⟩
theorem Zem{s:BA}{a:Array UInt8}(h:bl s=a.toList):s=⟨a⟩:=by
 cases s with
 | mk d=>unfold bl at h;simp at h;rw[h]
theorem ZqY {c:BA} {op:Nat} (d : op <= 4) (h : bl c = Z0.getD op []) (w : World) : CP 124 #[.string c] w fun e u => e = .returned (Vi op) /\ u = w := by
  rcases(by omega:op=0∨op=1∨op=2∨op=3∨op=4)with rfl|rfl|rfl|rfl|rfl
  · obtain rfl:=Zem (a:=#[116,111,116,97,108]) h
    go_enter func124,ntmps124;go_wp2;go_ret;exact⟨rfl,rfl⟩
  · obtain rfl:=Zem (a:=#[112,101,97,107]) h
    go_enter func124,ntmps124;go_wp2;go_ret;exact⟨rfl,rfl⟩
  · obtain rfl:=Zem (a:=#[108,111,119]) h
    go_enter func124,ntmps124;go_wp2;go_ret;exact⟨rfl,rfl⟩
  · obtain rfl:=Zem (a:=#[115,105,122,101]) h
    go_enter func124,ntmps124;go_wp2;go_ret;exact⟨rfl,rfl⟩
  · obtain rfl:=Zem (a:=#[114,105,115,101]) h
    go_enter func124,ntmps124;go_wp2;go_ret;exact⟨rfl,rfl⟩
theorem ZqX {c:BA} {op:Nat} (d : op <= 3) (h : bl c = ZW.getD op []) (w : World) : CP 124 #[.string c] w fun e u => e = .returned (Vi op) /\ u = w := by
  rcases(by omega:op=0∨op=1∨op=2∨op=3)with rfl|rfl|rfl|rfl
  · obtain rfl:=Zem (a:=#[115,117,109]) h
    go_enter func124,ntmps124;go_wp2;go_ret;exact⟨rfl,rfl⟩
  · obtain rfl:=Zem (a:=#[109,97,120]) h
    go_enter func124,ntmps124;go_wp2;go_ret;exact⟨rfl,rfl⟩
  · obtain rfl:=Zem (a:=#[109,105,110]) h
    go_enter func124,ntmps124;go_wp2;go_ret;exact⟨rfl,rfl⟩
  · obtain rfl:=Zem (a:=#[99,111,117,110,116]) h
    go_enter func124,ntmps124;go_wp2;go_ret;exact⟨rfl,rfl⟩
theorem ZhB(v:Value)(w:World):(Instr.typeAssert (.iface 119 v) 44 119 true).run prog w=.ok (.tuple #[v,.bool true]) w:=by rfl
theorem ZkO(v:Value)(w:World):(Instr.typeAssert (.iface 119 v) 44 121 true).run prog w=.ok (.tuple #[.agg #[.nilIface],.bool false]) w:=by rfl
theorem ZkP(v:Value)(w:World):(Instr.typeAssert (.iface 119 v) 44 116 true).run prog w=.ok (.tuple #[.agg #[Vi 0,.nilIface,.nilIface],.bool false]) w:=by rfl
theorem ZkN(v:Value)(w:World):(Instr.typeAssert (.iface 119 v) 44 124 true).run prog w=.ok (.tuple #[.agg #[.string ByteArray.empty,S0,.nilIface],.bool false]) w:=by rfl
theorem ZkQ(v:Value)(w:World):(Instr.typeAssert (.iface 119 v) 44 150 true).run prog w=.ok (.tuple #[.agg #[.string ByteArray.empty,.string ByteArray.empty,S0,Vi 0],.bool false]) w:=by rfl
theorem ZiT(v:Value)(w:World):(Instr.typeAssert (.iface 119 v) 44 148 true).run prog w=.ok (.tuple #[.agg #[.string ByteArray.empty,S0],.bool false]) w:=by rfl
theorem ZhA(v:Value)(w:World):(Instr.typeAssert (.iface 121 v) 44 119 true).run prog w=.ok (.tuple #[.agg #[Vi 0],.bool false]) w:=by rfl
theorem Zhz(v:Value)(w:World):(Instr.typeAssert (.iface 121 v) 44 121 true).run prog w=.ok (.tuple #[v,.bool true]) w:=by rfl
theorem ZkL(v:Value)(w:World):(Instr.typeAssert (.iface 121 v) 44 116 true).run prog w=.ok (.tuple #[.agg #[Vi 0,.nilIface,.nilIface],.bool false]) w:=by rfl
theorem ZkK(v:Value)(w:World):(Instr.typeAssert (.iface 121 v) 44 124 true).run prog w=.ok (.tuple #[.agg #[.string ByteArray.empty,S0,.nilIface],.bool false]) w:=by rfl
theorem ZkM(v:Value)(w:World):(Instr.typeAssert (.iface 121 v) 44 150 true).run prog w=.ok (.tuple #[.agg #[.string ByteArray.empty,.string ByteArray.empty,S0,Vi 0],.bool false]) w:=by rfl
theorem ZiS(v:Value)(w:World):(Instr.typeAssert (.iface 121 v) 44 148 true).run prog w=.ok (.tuple #[.agg #[.string ByteArray.empty,S0],.bool false]) w:=by rfl
theorem ZgB(v:Value)(w:World):(Instr.typeAssert (.iface 116 v) 44 119 true).run prog w=.ok (.tuple #[.agg #[Vi 0],.bool false]) w:=by rfl
theorem ZgA(v:Value)(w:World):(Instr.typeAssert (.iface 116 v) 44 121 true).run prog w=.ok (.tuple #[.agg #[.nilIface],.bool false]) w:=by rfl
theorem ZgC(v:Value)(w:World):(Instr.typeAssert (.iface 116 v) 44 116 true).run prog w=.ok (.tuple #[v,.bool true]) w:=by rfl
theorem ZkR(v:Value)(w:World):(Instr.typeAssert (.iface 116 v) 44 124 true).run prog w=.ok (.tuple #[.agg #[.string ByteArray.empty,S0,.nilIface],.bool false]) w:=by rfl
theorem ZkS(v:Value)(w:World):(Instr.typeAssert (.iface 116 v) 44 150 true).run prog w=.ok (.tuple #[.agg #[.string ByteArray.empty,.string ByteArray.empty,S0,Vi 0],.bool false]) w:=by rfl
theorem ZiU(v:Value)(w:World):(Instr.typeAssert (.iface 116 v) 44 148 true).run prog w=.ok (.tuple #[.agg #[.string ByteArray.empty,S0],.bool false]) w:=by rfl
theorem Zhx(v:Value)(w:World):(Instr.typeAssert (.iface 124 v) 44 119 true).run prog w=.ok (.tuple #[.agg #[Vi 0],.bool false]) w:=by rfl
theorem Zhw(v:Value)(w:World):(Instr.typeAssert (.iface 124 v) 44 121 true).run prog w=.ok (.tuple #[.agg #[.nilIface],.bool false]) w:=by rfl
theorem Zhy(v:Value)(w:World):(Instr.typeAssert (.iface 124 v) 44 116 true).run prog w=.ok (.tuple #[.agg #[Vi 0,.nilIface,.nilIface],.bool false]) w:=by rfl
theorem Zhv(v:Value)(w:World):(Instr.typeAssert (.iface 124 v) 44 124 true).run prog w=.ok (.tuple #[v,.bool true]) w:=by rfl
theorem ZkJ(v:Value)(w:World):(Instr.typeAssert (.iface 124 v) 44 150 true).run prog w=.ok (.tuple #[.agg #[.string ByteArray.empty,.string ByteArray.empty,S0,Vi 0],.bool false]) w:=by rfl
theorem ZiR(v:Value)(w:World):(Instr.typeAssert (.iface 124 v) 44 148 true).run prog w=.ok (.tuple #[.agg #[.string ByteArray.empty,S0],.bool false]) w:=by rfl
theorem ZhJ(v:Value)(w:World):(Instr.typeAssert (.iface 150 v) 44 119 true).run prog w=.ok (.tuple #[.agg #[Vi 0],.bool false]) w:=by rfl
theorem ZhI(v:Value)(w:World):(Instr.typeAssert (.iface 150 v) 44 121 true).run prog w=.ok (.tuple #[.agg #[.nilIface],.bool false]) w:=by rfl
theorem ZhK(v:Value)(w:World):(Instr.typeAssert (.iface 150 v) 44 116 true).run prog w=.ok (.tuple #[.agg #[Vi 0,.nilIface,.nilIface],.bool false]) w:=by rfl
theorem ZhH(v:Value)(w:World):(Instr.typeAssert (.iface 150 v) 44 124 true).run prog w=.ok (.tuple #[.agg #[.string ByteArray.empty,S0,.nilIface],.bool false]) w:=by rfl
theorem ZhL(v:Value)(w:World):(Instr.typeAssert (.iface 150 v) 44 150 true).run prog w=.ok (.tuple #[v,.bool true]) w:=by rfl
theorem ZiV(v:Value)(w:World):(Instr.typeAssert (.iface 150 v) 44 148 true).run prog w=.ok (.tuple #[.agg #[.string ByteArray.empty,S0],.bool false]) w:=by rfl
theorem ZhE(v:Value)(w:World):(Instr.typeAssert (.iface 148 v) 44 119 true).run prog w=.ok (.tuple #[.agg #[Vi 0],.bool false]) w:=by rfl
theorem ZhD(v:Value)(w:World):(Instr.typeAssert (.iface 148 v) 44 121 true).run prog w=.ok (.tuple #[.agg #[.nilIface],.bool false]) w:=by rfl
theorem ZhF(v:Value)(w:World):(Instr.typeAssert (.iface 148 v) 44 116 true).run prog w=.ok (.tuple #[.agg #[Vi 0,.nilIface,.nilIface],.bool false]) w:=by rfl
theorem ZhC(v:Value)(w:World):(Instr.typeAssert (.iface 148 v) 44 124 true).run prog w=.ok (.tuple #[.agg #[.string ByteArray.empty,S0,.nilIface],.bool false]) w:=by rfl
theorem ZhG(v:Value)(w:World):(Instr.typeAssert (.iface 148 v) 44 150 true).run prog w=.ok (.tuple #[.agg #[.string ByteArray.empty,.string ByteArray.empty,S0,Vi 0],.bool false]) w:=by rfl
theorem ZgD(v:Value)(w:World):(Instr.typeAssert (.iface 148 v) 44 148 true).run prog w=.ok (.tuple #[v,.bool true]) w:=by rfl
theorem Zmw:∀l:List (LB),l.length<=nw l
 | []=>Yac _
 | c::l=>by have:=Zmw l;simp only[nw,Yaj];omega
theorem VOk.mono{m n:Nat}{V:VV}(h:VOk m V)(a:m<=n):VOk n V:=by
 cases V with
 | inl _=>trivial
 | inr l=>exact⟨h.1,Yah h.2 a⟩
theorem Zt6{h:Nat}(a:h % 2=1):bitS h=(h / 2) ^^^ 3988292384:=if_pos a
theorem Zt4{h:Nat}(a:¬h % 2=1):bitS h=h / 2:=if_neg a
theorem ZrR{k:IntKind}{a b:Int}(h:a=b):Ending.returned (.int k a)=.returned (.int k b):=by rw[h]
theorem ZE4{a:Nat}(d:a<4294967296)(c:UInt8):bits .xor .u32 (a:Int) ((c.toNat:Int) % 4294967296)=((a ^^^ c.toNat:Nat):Int):=by
 have e:=c.toNat_lt;rw[show((c.toNat:Int) % 4294967296)=(c.toNat) by omega];exact u32_xor_nat _ _ d Om
theorem ZE5{z:Nat}(a:z<4294967296):4294967295 ^^^ z=4294967295 - z:=by
 have h:(BitVec.allOnes _ ^^^ BitVec.ofNat 32 z).toNat=(~~~ BitVec.ofNat 32 z).toNat:=by rw[BitVec.allOnes_xor]
 rw[BitVec.toNat_xor,BitVec.toNat_not,Yeo,Yd4 a]at h;exact h
theorem Zzq{z:Nat}(a:z<4294967296):bits .xor .u32 IntKind.u32.max (z:Int)=4294967295 - (z:Int):=by
 have:=u32_xor_nat 4294967295 z Dc a;rw[ZE5 a]at this;rw[show IntKind.u32.max=((4294967295:Nat)) from rfl,this];omega
theorem ZtI{z:Nat}(a:z<4294967296):bits .and .u32 (z:Int) 1=(z:Int) % 2:=by
 have:=u32_and_nat z 1 a Dc;rw[Nat.and_one_is_mod]at this;rw[show(1)=((1:Nat):Int) from rfl,this];omega
theorem Zru(s:BA)(w:World)(r:s.size<=maxLen) :
  CP 73 #[.string s] w fun e u=>e=.returned (.int .u32 (sumQ (bl s)))/\u=w:=by
 unfold maxLen at r;go_enter func73,ntmps73;go_wp2
 go_loop [3,8] (fun h i=>∃k:Nat,k<=s.size/\i=Vi k/\h=.int .u32 (sumL ((bl s).take k))) (fun _ i=>s.size - (intOf i).toNat)
 case atStart=>exact⟨0,Yag _,rfl,rfl⟩
 case round=>
  obtain⟨k,E,rfl,rfl⟩:=hrel;have c:=ZCX ((bl s).take k);obtain⟨a,d⟩:∃a,sumL ((bl s).take k)=a:=⟨_,rfl⟩
  have f:=hid d;rw[d]at c ⊢;by_cases n:k<s.size
  ·have t:=ZE4 c s[k];have g:Hid (sumL ((bl s).take (k+1))=ZfS 8 (a ^^^ s[k].toNat)):=by rw[ZiB s k n,Zsz,f];rfl
   have l:a ^^^ s[k].toNat<4294967296:=Zty c _;obtain⟨g0,o⟩:∃g0,a ^^^ s[k].toNat=g0:=⟨_,rfl⟩
   rw[o]at t g l;go_wp2
   go_loop [3,17] (fun h i=>∃j:Nat,j<=8/\i=Vi j/\h=.int .u32 (ZfS j g0)) (fun _ i=>8 - (intOf i).toNat)
   case atStart=>exact⟨0,Yag _,rfl,rfl⟩
   case round=>
    obtain⟨j,F,rfl,rfl⟩:=hrel;by_cases C:j<8
    ·have v:=ZkX l j;have p:Hid (ZfS (j+1) g0=bitS _):=rfl;generalize ZfS j g0=z at *
     have x:=ZtI v;by_cases q:z % 2=1
     ·have D:bits .xor .u32 ((z) / 2) 3988292384=((z / 2 ^^^ 3988292384:Nat)):=by
       have:=u32_xor_nat (z / 2) 3988292384 Om Om;simpa using this
      have A:((z:Int) % 2 == 1)=true:=by rw[beq_iff_eq];omega
      have m:=hid (Zt6 q);go_wp2
      go_round
      case rel=>exact⟨j+1,by omega,by go_num,by rw[p,m]⟩
      case measure=>simp[intOf];omega
     ·have A:((z:Int) % 2 == 1)=false:=by rw[beq_eq_false_iff_ne];omega
      have m:=hid (Zt4 q);go_wp2
      go_round
      case rel=>exact⟨j+1,by omega,by go_num,by rw[p,m];go_num⟩
      case measure=>simp[intOf];omega
    ·obtain rfl:j=8:=by omega
     go_wp2
     go_round
     case rel=>exact⟨k+1,by omega,by go_num,by rw[g]⟩
     case measure=>simp[intOf];omega
  ·have B:Hid (sumQ _=4294967295 - a):=hid (by
    unfold sumQ;rw[<-f,Ya5 (by rw[Zd];omega)])
   have G:=Zzq c;go_wp2;go_ret;exact⟨ZrR (by rw[B];omega),rfl⟩
open Go.Proofs.Tryz
open Go.RowKit Go.Extern.Stop Go.Stop Go.Extern LS
theorem ZtR{t:Value}{w:World} :
  CP 33 #[.nilIface,t] w fun e u=>e=.returned (.bool false)/\u=w:=by
 go_enter func33,ntmps33;go_wp2;go_ret;exact⟨rfl,rfl⟩
def Zlu:Array Value->Sem Value:=fun args=>ReflectliteValue.unpack (args.getD 0 (.tuple #[]))
def Zo0 : Array Value → Sem Value := ReflectliteValue.methodAny (ReflectliteValue.valueError "reflectlite.Value.Type" 0) fun t _ _ _ => ReflectliteType.toType t
def Zls : Array Value → Sem Value := ReflectliteValue.method (ReflectliteValue.valueError "reflectlite.Value.IsNil" 0) ReflectliteValue.isNil
def Zlt:Array Value->Sem Value:=ReflectliteType.abiMethod fun t=>do pure (.int .u8 (<-Rtype.kind t))
def ZoY:Array Value->Sem Value:=ReflectliteType.method ReflectliteType.elem
def ZoZ : Array Value → Sem Value := ReflectliteType.relation "Implements" ReflectliteType.implements_
def Zlq : Array Value → Sem Value := ReflectliteType.relation "AssignableTo" ReflectliteType.assignableTo
def Zlr : Array Value → Sem Value := ReflectliteValue.method (ReflectliteValue.valueError "reflectlite.Value.Elem" 0) ReflectliteValue.elem
theorem Ztx (args : Array Value) (w : World) : (callFunc 59 args).run prog w = ((Zlu args).run prog w).andThen fun v u => .ok (.value v) u :=
  run_callFunc_extern func59 Kr Kr Kr Kr args w
theorem Ztw (args : Array Value) (w : World) : (callFunc 60 args).run prog w = ((Zo0 args).run prog w).andThen fun v u => .ok (.value v) u :=
  run_callFunc_extern func60 Kr Kr Kr Kr args w
theorem Ztu (args : Array Value) (w : World) : (callFunc 61 args).run prog w = ((Zls args).run prog w).andThen fun v u => .ok (.value v) u :=
  run_callFunc_extern func61 Kr Kr Kr Kr args w
theorem Ztv (args : Array Value) (w : World) : (callFunc 308 args).run prog w = ((Zlt args).run prog w).andThen fun v u => .ok (.value v) u :=
  run_callFunc_extern func308 Kr Kr Kr Kr args w
theorem Zts (args : Array Value) (w : World) : (callFunc 325 args).run prog w = ((ZoY args).run prog w).andThen fun v u => .ok (.value v) u :=
  run_callFunc_extern func325 Kr Kr Kr Kr args w
theorem Ztt (args : Array Value) (w : World) : (callFunc 326 args).run prog w = ((ZoZ args).run prog w).andThen fun v u => .ok (.value v) u :=
  run_callFunc_extern func326 Kr Kr Kr Kr args w
theorem Ztr (args : Array Value) (w : World) : (callFunc 323 args).run prog w = ((Zlq args).run prog w).andThen fun v u => .ok (.value v) u :=
  run_callFunc_extern func323 Kr Kr Kr Kr args w
theorem ZE2 (args : Array Value) (w : World) : (callFunc 110 args).run prog w = ((Zlr args).run prog w).andThen fun v u => .ok (.value v) u :=
  run_callFunc_extern func110 Kr Kr Kr Kr args w
theorem ZE3 (args : Array Value) (w : World) : (callFunc 111 args).run prog w = ((ReflectliteValue.set args).run prog w).andThen fun v u => .ok (.value v) u :=
  run_callFunc_extern func111 Kr Kr Kr Kr args w
theorem Zpe(t:Addr)(w:World):(Zlu #[.iface 83 (.pointer (some t))]).run prog w
  = .ok (.agg #[.pointer (some ⟨20,83,none⟩),Vp w.heap.size,.int .u64 150]) (w.alloc (.cells #[.pointer (some t)] 83)):=by kernel_rfl
theorem Zpd(a:Addr)(w:World):(Zo0 #[.agg #[.pointer (some ⟨20,83,none⟩),.pointer (some a),.int .u64 150]]).run prog w
  = .ok (.iface 209 (.agg #[.pointer (some ⟨20,83,none⟩)])) w:=by kernel_rfl
theorem ZqQ (h : Value) (w : World) : (Go.method 562 209 (.agg #[h]) "Kind").run Tryz.prog w = .ok (308, h) w := by kernel_rfl
theorem Zpc(w:World):(Zlt #[.pointer (some ⟨20,83,none⟩)]).run prog w=.ok (.int .u8 22) w:=by kernel_rfl
theorem Zpb(w:World):(Zlt #[.pointer (some ⟨20,81,none⟩)]).run prog w=.ok (.int .u8 22) w:=by kernel_rfl
theorem ZqO (h : Value) (w : World) : (Go.method 562 209 (.agg #[h]) "Elem").run Tryz.prog w = .ok (325, .agg #[h]) w := by kernel_rfl
theorem ZqP (h : Value) (w : World) : (Go.method 562 209 (.agg #[h]) "Implements").run Tryz.prog w = .ok (326, .agg #[h]) w := by kernel_rfl
theorem ZqN (h : Value) (w : World) : (Go.method 562 209 (.agg #[h]) "AssignableTo").run Tryz.prog w = .ok (323, .agg #[h]) w := by kernel_rfl
theorem Zo8(w:World):(ZoY #[.agg #[.pointer (some ⟨20,83,none⟩)]]).run prog w=.ok (.iface 209 (.agg #[.pointer (some ⟨20,81,none⟩)])) w:=by kernel_rfl
theorem Zo9(w:World):(ZoZ #[.agg #[.pointer (some ⟨20,81,none⟩)],.iface 209 (.agg #[.pointer (some ⟨20,46,none⟩)])]).run prog w=.ok (.bool true) w:=by kernel_rfl
theorem Zv0(v:Value)(w:World):(ReflectliteType.typeOf #[.iface 81 v]).run prog w=.ok (.iface 209 (.agg #[.pointer (some ⟨20,81,none⟩)])) w:=by kernel_rfl
theorem ZvW(w:World):(Zlq #[.agg #[.pointer (some ⟨20,81,none⟩)],.iface 209 (.agg #[.pointer (some ⟨20,81,none⟩)])]).run prog w=.ok (.bool true) w:=by kernel_rfl
theorem ZvX(w:World):(Zlq #[.agg #[.pointer (some ⟨20,432,none⟩)],.iface 209 (.agg #[.pointer (some ⟨20,81,none⟩)])]).run prog w=.ok (.bool false) w:=by kernel_rfl
theorem Zv1(e:Addr)(w:World):(Zlu #[.iface 81 (.pointer (some e))]).run prog w
  = .ok (.agg #[.pointer (some ⟨20,81,none⟩),Vp w.heap.size,.int .u64 150]) (w.alloc (.cells #[.pointer (some e)] 81)):=by kernel_rfl
theorem Zzm(v:Value)(xT:TypeId)(w:World):(Instr.typeAssert (.iface 432 v) xT 220 true).run prog w=.ok (.tuple #[.nilIface,.bool false]) w:=run_typeAssert_lacksB underlying220 Kr Kr v _ w
theorem Zrv(a:Addr)(w:World):(ReflectliteValue.parts (.agg #[.pointer (some ⟨20,83,none⟩),.pointer (some a),.int .u64 150])).run prog w=.ok (some (83,a,150)) w:=by kernel_rfl
theorem Zpa(a p:Addr)(W:World)(c:W.cell? a=some (.pointer (some p))) :
  (Zls #[.agg #[.pointer (some ⟨20,83,none⟩),.pointer (some a),.int .u64 150]]).run prog W=.ok (.bool false) W:=by
 refine(congrArg (fun q=>Sem.run _ q W) (show Zls _=(ReflectliteValue.parts (.agg _) >>= fun r=>_) from rfl)).trans ?_;simp only[Ye5,Zrv,Result.andThen];simp[ReflectliteValue.isNil,loadVar,isAgg,underlying,underlying83,c,Result.andThen]
theorem Zz6(w:World):(Rtype.elem? 83).run prog w=.ok (some 81) w:=by kernel_rfl
theorem Zz7(p:Addr)(w:World):(ReflectliteValue.mk 81 p ReflectliteValue.flagAddr).run prog w=.ok (.agg #[.pointer (some ⟨20,81,none⟩),.pointer (some p),.int .u64 406]) w:=by kernel_rfl
theorem ZvY(a p:Addr)(W:World)(c:W.cell? a=some (.pointer (some p))) :
  (Zlr #[.agg #[.pointer (some ⟨20,83,none⟩),.pointer (some a),.int .u64 150]]).run prog W
   = .ok (.agg #[.pointer (some ⟨20,81,none⟩),.pointer (some p),.int .u64 406]) W:=by
 refine(congrArg (fun q=>Sem.run _ q W) (show Zlr _=(ReflectliteValue.parts (.agg _) >>= fun r=>_) from rfl)).trans ?_;simp only[Ye5,Zrv,Result.andThen];simp[ReflectliteValue.elem,loadVar,isAgg,underlying,underlying83,c,Result.andThen,Zz6,Zz7]
theorem Zz9(a:Addr)(w:World):(ReflectliteValue.parts (.agg #[.pointer (some ⟨20,81,none⟩),.pointer (some a),.int .u64 406])).run prog w=.ok (some (81,a,406)) w:=by kernel_rfl
theorem Zz8(a:Addr)(w:World):(ReflectliteValue.parts (.agg #[.pointer (some ⟨20,81,none⟩),.pointer (some a),.int .u64 150])).run prog w=.ok (some (81,a,150)) w:=by kernel_rfl
theorem Zz5(w:World):(Rtype.directlyAssignable 81 81).run prog w=.ok true w:=by kernel_rfl
theorem ZvZ(ta b e:Addr)(old:Value)(W:World)(a:W.cell? b=some (.pointer (some e)))(c:W.cell? ta=some old)(d:W.frozen? ta=false) :
  (ReflectliteValue.set #[.agg #[.pointer (some ⟨20,81,none⟩),.pointer (some ta),.int .u64 406],.agg #[.pointer (some ⟨20,81,none⟩),.pointer (some b),.int .u64 150]]).run prog W
   = .ok (.tuple #[]) (W.setCell ta (.pointer (some e))):=by
 refine(congrArg (fun q=>Sem.run _ q W) (show ReflectliteValue.set _=(ReflectliteValue.parts (.agg _) >>= fun r=>ReflectliteValue.parts (.agg _) >>= fun s=>_) from rfl)).trans ?_;simp only[Ye5,Zz9,Zz8,Result.andThen];simp[ReflectliteValue.flagAddr,loadVar,isAgg,underlying,underlying81,a,Result.andThen,Zz5,storeVar,Value.cells,storeCells,Addr.add];rw[run_store _ W _ _ _ (by rfl)];simp[c,d]
theorem ZtP{e t:Addr}(old:Value){w:World}(hg:w.cell? ⟨13,0,none⟩=some (.iface 209 (.agg #[.pointer (some ⟨20,46,none⟩)])))(c:w.cell? t=some old)(f:w.frozen? t=false) :
  CP 33 #[.iface 81 (.pointer (some e)),.iface 83 (.pointer (some t))] w fun ev u=>ev=.returned (.bool true)/\u=((((w.alloc (.cells #[.pointer (some t)] 83)).alloc (.cells #[.pointer (some ⟨20,83,none⟩),Vp w.heap.size,.int .u64 150] 134)).alloc (.cells #[.pointer (some ⟨20,83,none⟩),Vp w.heap.size,.int .u64 150] 134)).alloc (.cells #[.pointer (some e)] 81)).setCell t (.pointer (some e)):=by
 have o:=Ztx;have p:=Ztw;have q:=Ztu;have g:=Ztv;have h:=Zts;have i:=Ztt;have j:=Zhn;have k:=Ztr;have l:=ZE2;have m:=ZE3;have tO:=Zv0;have mA:=ZqN;have a25:=ZvW;have v25:=Zv1;have f6:=Zpe;have f7:=Zpd;have mK:=ZqQ;have mE:=ZqO;have mI:=ZqP;have k27:=Zpc;have k25:=Zpb;have e27:=Zo8;have i25:=Zo9;have n8:=Zpa ⟨w.heap.size,0,none⟩ t ((w.alloc (.cells #[.pointer (some t)] 83)).alloc (.cells #[.pointer (some ⟨20,83,none⟩),Vp w.heap.size,.int .u64 150] 134)) (by simp);have d:13<w.heap.size:=Yai _ _ hg;have n:((w.alloc (.cells #[.pointer (some t)] 83)).alloc (.cells #[.pointer (some ⟨20,83,none⟩),Vp w.heap.size,.int .u64 150] 134)).cell? ⟨13,0,none⟩=some (.iface 209 (.agg #[.pointer (some ⟨20,46,none⟩)])):=by rwa [Ybm _ _ ⟨13,0,none⟩ (by simp;omega),Ybm _ _ ⟨13,0,none⟩ d]
 have a:=Yai _ _ c;have el:=ZvY ⟨w.heap.size,0,none⟩ t (((w.alloc (.cells #[.pointer (some t)] 83)).alloc (.cells #[.pointer (some ⟨20,83,none⟩),Vp w.heap.size,.int .u64 150] 134)).alloc (.cells #[.pointer (some ⟨20,83,none⟩),Vp w.heap.size,.int .u64 150] 134)) (by rw[Ybm _ _ ⟨w.heap.size,0,none⟩ (by simp;omega)];simp)
 have st:=ZvZ t ⟨w.heap.size+1+1+1,0,none⟩ e old ((((w.alloc (.cells #[.pointer (some t)] 83)).alloc (.cells #[.pointer (some ⟨20,83,none⟩),Vp w.heap.size,.int .u64 150] 134)).alloc (.cells #[.pointer (some ⟨20,83,none⟩),Vp w.heap.size,.int .u64 150] 134)).alloc (.cells #[.pointer (some e)] 81))
  (by rw[Ydm _ _ _ _ (by simp)];rfl)
  (by rwa [Ybm _ _ t (by simp;omega),Ybm _ _ t (by simp;omega),Ybm _ _ t (by simp;omega),Ybm _ _ t a])
  (by rwa [Ydc _ _ t (by simp;omega),Ydc _ _ t (by simp;omega),Ydc _ _ t (by simp;omega),Ydc _ _ t (Nat.ne_of_lt a)])
 go_enter func33,ntmps33;go_wp2;refine wp_loop_rounds 1 ?_;rw[rounds_succ];go_wp2;go_ret;exact⟨rfl,rfl⟩
theorem ZtQ{e t:Addr}{w:World}(hg:w.cell? ⟨13,0,none⟩=some (.iface 209 (.agg #[.pointer (some ⟨20,46,none⟩)]))) :
  CP 33 #[.iface 432 (.pointer (some e)),.iface 83 (.pointer (some t))] w fun ev u=>ev=.returned (.bool false)/\BW w u:=by
 have j:=Ztx;have k:=Ztw;have l:=Ztu;have c:=Ztv;have d:=Zts;have f:=Ztt;have g:=Zhn;have h:=Ztr;have tO:=Tryz.isTypeOf;have mA:=ZqN;have a25:=ZvX;have f6:=Zpe;have f7:=Zpd;have mK:=ZqQ;have mE:=ZqO;have mI:=ZqP;have k27:=Zpc;have k25:=Zpb;have e27:=Zo8;have i25:=Zo9;have nA:=Zzm;have uE:=Tryz.noUnwrapE;have vE:=Tryz.noUnwrapsE;have n8:=Zpa ⟨w.heap.size,0,none⟩ t ((w.alloc (.cells #[.pointer (some t)] 83)).alloc (.cells #[.pointer (some ⟨20,83,none⟩),Vp w.heap.size,.int .u64 150] 134)) (by simp);have a:13<w.heap.size:=Yai _ _ hg;have i:((w.alloc (.cells #[.pointer (some t)] 83)).alloc (.cells #[.pointer (some ⟨20,83,none⟩),Vp w.heap.size,.int .u64 150] 134)).cell? ⟨13,0,none⟩=some (.iface 209 (.agg #[.pointer (some ⟨20,46,none⟩)])):=by rwa [Ybm _ _ ⟨13,0,none⟩ (by simp;omega),Ybm _ _ ⟨13,0,none⟩ a]
 go_enter func33,ntmps33;go_wp2;refine wp_loop_rounds 1 ?_;rw[rounds_succ];go_wp2;go_ret;exact⟨rfl,belB⟩
theorem Vars.all{w:World}{A:Nat->Addr}{m:Int}(h:Vars w A m):∀g,g<13->w.cell? ⟨g,0,none⟩=some (.iface 432 (.pointer (some (A g)))):=fun g hg=>h.sent g (by unfold sents;simp;omega)
theorem Zgv {w : World} {A : Nat -> Addr} {m : Int} {fa g h : Nat} (a : Vars w A m) (f : w.cell? ⟨fa, 2, none⟩ = some (.iface 432 (.pointer (some (A g))))) (hg : g ∈ sents := by decide) (d : h ∈ sents := by decide) (i : g ≠ h := by decide) :
    CP 32 #[.iface 81 (Vp fa),.iface 432 (.pointer (some (A h)))] w fun e u=>e=.returned (.bool false)/\u=w:=by
  obtain⟨c,t,r⟩:=a.row g hg;obtain⟨c',t',r'⟩:=a.row h d;exact Zxn f (a.apart _ hg _ d i) r r'
theorem Zg7 {w : World} {A : Nat -> Addr} {m : Int} {g h : Nat} (a : Vars w A m) (hg : g ∈ sents := by decide) (d : h ∈ sents := by decide) (f : g ≠ h := by decide) :
    CP 32 #[.iface 432 (.pointer (some (A g))),.iface 432 (.pointer (some (A h)))] w fun e u=>e=.returned (.bool false)/\u=w:=by
  obtain⟨c,t,r⟩:=a.row g hg;obtain⟨c',t',r'⟩:=a.row h d;exact Zxm (a.apart _ hg _ d f) r r'
theorem Zik(A:Nat->Addr)(m:Int)(w:World)(a:Vars w A m) :
  CP 18 #[.nilIface] w fun e u=>e=.returned (Vi 0)/\u=w:=by
 have v:=a.all;go_enter func18,ntmps18
 iterate 13 (go_wp2_with fail;refine cret (Zxl) ?_)
 go_wp2;go_ret;exact⟨rfl,rfl⟩
theorem ZjQ(A:Nat->Addr)(m:Int)(w:World)(a:Vars w A m) :
  CP 18 #[.iface 432 (.pointer (some (A 0)))] w fun e u=>e=.returned (Vi 1)/\u=w:=by
 have v:=a.all;go_enter func18,ntmps18
 go_wp2_with fail
 refine cret (Zf7) ?_;go_wp2;go_ret;exact⟨rfl,rfl⟩
theorem Zmt(A:Nat->Addr)(m:Int){w:World}(a:Vars w A m)(fa:Nat)(c:w.cell? ⟨fa,2,none⟩=some (.iface 432 (.pointer (some (A 1))))) :
  CP 18 #[.iface 81 (Vp fa)] w fun e u=>e=.returned (Vi 2)/\u=w:=by
 have v:=a.all;go_enter func18,ntmps18
 iterate 1 (go_wp2_with fail;refine cret (Zgv a c) ?_)
 go_wp2_with fail
 refine cret (Zf8 c) ?_;go_wp2;go_ret;exact⟨rfl,rfl⟩
theorem Zms(A:Nat->Addr)(m:Int){w:World}(a:Vars w A m)(fa:Nat)(c:w.cell? ⟨fa,2,none⟩=some (.iface 432 (.pointer (some (A 2))))) :
  CP 18 #[.iface 81 (Vp fa)] w fun e u=>e=.returned (Vi 3)/\u=w:=by
 have v:=a.all;go_enter func18,ntmps18
 iterate 2 (go_wp2_with fail;refine cret (Zgv a c) ?_)
 go_wp2_with fail
 refine cret (Zf8 c) ?_;go_wp2;go_ret;exact⟨rfl,rfl⟩
theorem Zmu(A:Nat->Addr)(m:Int){w:World}(a:Vars w A m) :
  CP 18 #[.iface 432 (.pointer (some (A 3)))] w fun e u=>e=.returned (Vi 4)/\u=w:=by
 have v:=a.all;go_enter func18,ntmps18
 iterate 3 (go_wp2_with fail;refine cret (Zg7 a) ?_)
 go_wp2_with fail
 refine cret (Zf7) ?_;go_wp2;go_ret;exact⟨rfl,rfl⟩
theorem Ziq(w:World) :
  CP 19 #[.nilIface] w fun e u=>e=.returned (Vi 0)/\BW w u:=by
 go_enter func19,ntmps19
 go_wp2_with fail
 refine cret (ZtR) ?_;go_wp2;go_ret;exact⟨rfl,belB⟩
theorem Zdm(A:Nat->Addr)(m:Int){a:Addr}(w:World)(d:Vars w A m) :
  CP 19 #[.iface 432 (.pointer (some a))] w fun e u=>e=.returned (Vi 0)/\BW w u:=by
 have f:Below _ w (w.alloc (.cells #[.pointer none] 81)):=Zbal;go_enter func19,ntmps19
 go_wp2_with fail
 refine(ZtQ (d.alloc _).handle).mono ?_;rintro e u ⟨rfl,g⟩;have c:=f.trans (g.mono (by simp));go_wp2;go_ret;exact⟨rfl,c⟩
theorem ZdB(A:Nat->Addr)(m:Int)(fa:Nat)(i:Int)(w:World)(h:Vars w A m)(f:w.cell? ⟨fa,1,none⟩=some (Vi i)) :
  CP 19 #[.iface 81 (Vp fa)] w fun e a=>e=.returned (Vi i)/\BW w a:=by
 have g:fa<w.heap.size:=Yai _ _ f;go_enter func19,ntmps19
 go_wp2_with fail
 refine(ZtP (.pointer none) (h.alloc _).handle (by simp) (by simp)).mono ?_;rintro e a ⟨rfl,d⟩;have c:BW w a:=d▸belB
 have c1:a.cell? ⟨w.heap.size,0,none⟩=some (Vp fa):=by
  rw[d];refine World.cell?_setCell_same _ _ _ (u:=.pointer none) ?_;refine(Below.cell (B:=w.heap.size+1) (w:=w.alloc (.cells #[.pointer none] 81)) ?_ (Ybd _)).trans (by simp);exact belB
 have c2:=(c.cell g).trans f;clear d;go_wp2;go_ret;exact⟨rfl,c⟩
theorem Zrl(A:Nat->Addr)(m:Int)(w:World)(a:Vars w A m)(fa:Nat)(c:w.cell? ⟨fa,2,none⟩=some (.iface 432 (.pointer (some (A 4))))) :
  CP 18 #[.iface 81 (Vp fa)] w fun e u=>e=.returned (Vi 5)/\u=w:=by
 have v:=a.all;go_enter func18,ntmps18
 iterate 4 (go_wp2_with fail;refine cret (Zgv a c) ?_)
 go_wp2_with fail
 refine cret (Zf8 c) ?_;go_wp2;go_ret;exact⟨rfl,rfl⟩
theorem Zrn(A:Nat->Addr)(m:Int)(w:World)(a:Vars w A m)(fa:Nat)(c:w.cell? ⟨fa,2,none⟩=some (.iface 432 (.pointer (some (A 5))))) :
  CP 18 #[.iface 81 (Vp fa)] w fun e u=>e=.returned (Vi 6)/\u=w:=by
 have v:=a.all;go_enter func18,ntmps18
 iterate 5 (go_wp2_with fail;refine cret (Zgv a c) ?_)
 go_wp2_with fail
 refine cret (Zf8 c) ?_;go_wp2;go_ret;exact⟨rfl,rfl⟩
theorem Zrk(A:Nat->Addr)(m:Int)(w:World)(a:Vars w A m) :
  CP 18 #[.iface 432 (.pointer (some (A 6)))] w fun e u=>e=.returned (Vi 7)/\u=w:=by
 have v:=a.all;go_enter func18,ntmps18
 iterate 6 (go_wp2_with fail;refine cret (Zg7 a) ?_)
 go_wp2_with fail
 refine cret (Zf7) ?_;go_wp2;go_ret;exact⟨rfl,rfl⟩
theorem Zrm(A:Nat->Addr)(m:Int)(w:World)(a:Vars w A m) :
  CP 18 #[.iface 432 (.pointer (some (A 7)))] w fun e u=>e=.returned (Vi 8)/\u=w:=by
 have v:=a.all;go_enter func18,ntmps18
 iterate 7 (go_wp2_with fail;refine cret (Zg7 a) ?_)
 go_wp2_with fail
 refine cret (Zf7) ?_;go_wp2;go_ret;exact⟨rfl,rfl⟩
attribute [local go_sem ↓] Go.wp_at_zero Go.wp_at_succ
theorem ZCi(l:LB):(1<=numI 1000 l ↔ 1<=numV l/\numV l<=1000)/\(1<=numI 1000 l->numI 1000 l=numV l):=by
 unfold numI numV ZQ;by_cases c:l.length<1∨(l.head?=some 48/\1<l.length)∨l.all ZC=false
 ·rw[if_pos (by rcases c with h|h|h;exact .inl h;exact .inr (.inl h);exact .inr (.inr (.inl h)))];rw[if_pos (by rcases c with h|h|h;exact .inl h;exact .inr (.inl h);exact .inr (.inr (.inl h)))];simp
 ·have e:∀most,most<val l->(l.length<1∨(l.head?=some 48/\1<l.length)∨l.all ZC=false∨most<val l):=fun _ h=>.inr (.inr (.inr h))
  have d:∀most,¬most<val l->¬(l.length<1∨(l.head?=some 48/\1<l.length)∨l.all ZC=false∨most<val l):=by
   rintro most h (a|a|a|a)
   ·exact c (.inl a)
   ·exact c (.inr (.inl a))
   ·exact c (.inr (.inr a))
   ·exact h a
  by_cases a:1000<val l
  ·rw[if_pos (e _ a)];by_cases f:1000000000<val l
   ·rw[if_pos (e _ f)];simp
   ·rw[if_neg (d _ f)];simp only[Ya6];constructor
    ·constructor
     ·intro h;omega
     ·intro h;omega
    ·intro h;omega
  ·rw[if_neg (d _ a),if_neg (d _ Om)];simp only[Ya6];constructor
   ·constructor
    ·intro h;omega
    ·intro h;omega
   ·intro _;trivial
def lenP(ts:List Tok):Out Int:=bnd (Zq [91] ts) fun _ r=>bnd (Zc2 r) fun n r=>bnd (Zq [93] r) fun _ r=>.ok (n,r)
theorem Zs8 (o : Nat) (ts : List Tok) : winP o ts = bnd (Zq [40] ts) fun _ r => bnd (selP r) fun p r => bnd (lenP r) fun n r => bnd (Zq [41] r) fun _ r => .ok (Zbg ⟨2, o, n, p.name, p.ku, []⟩, r) := by
  unfold winP lenP;cases a:Zq [40] ts with
  | error e=>rfl
  | ok p1=>
    obtain⟨a1,r1⟩:=p1;simp only[bnd];cases c:selP r1 with
    | error e=>rfl
    | ok p2=>
      obtain⟨a2,r2⟩:=p2;simp only;cases d:Zq [91] r2 with
      | error e=>rfl
      | ok p3=>
        obtain⟨a3,r3⟩:=p3;simp only;cases f:Zc2 r3 with
        | error e=>rfl
        | ok p4=>
          obtain⟨a4,r4⟩:=p4;simp only;cases g:Zq [93] r4 with
          | error e=>rfl
          | ok p5=>rfl
theorem Ze7(s:LB)(ts:List Tok):(isT s (hd ts)=true/\Zq s ts=.ok ((),ts.tail))∨(¬isT s (hd ts)=true/\Zq s ts=.error (2,(hd ts).at_)):=by
 by_cases h:isT s (hd ts)=true
 ·exact .inl ⟨h,ZdU h⟩
 ·exact .inr ⟨h,Ze8 h⟩
theorem ZEJ{w:World}{R:RS}{k:Nat}{ts:List Tok}(h:RK w R k ts) :
  CP 170 #[Vp R.b] w fun e u=>∃(n:Int) (v:Value),e=.returned (.tuple #[Vi n,v])/\Hid (Res R (fun _ m=>n=m) u (lenP ts) v)/\w.grownBy u (some R.b):=by
 have H:=hid h;have a0:=(Yae.1 h.rd.cells).1;go_enter func170,ntmps170
 go_wp2_with fail
 refine(ZdT H _ Dc Dc).mono ?_;rintro e w1 ⟨v,rfl,f,hg⟩;have L:=hid hg;rcases Ze7 [91] ts with ⟨s,c⟩|⟨s,c⟩
 ·obtain⟨rfl,⟨k1,d⟩,_⟩:=f.good c;have M:=hid d;have A:Hid (lenP ts=bnd (Zc2 ts.tail) fun n r=>bnd (Zq [93] r) fun _ r=>.ok (n,r)):=by unfold lenP;rw[c];rfl
  go_wp2_with fail
  refine(Zee M).mono ?_;rintro e z ⟨⟨kd,at_,tx,tv⟩,rfl,B,N⟩;have C:=hid (Zj L (Zw N));have O:=hid (M.below N)
  go_upto_region 5 with fail
  refine ZP fun W6 D=>?_;have E:Below _ _ _:=D▸Zbal;have F:Hid (BAt _ _ [.int _ _,.int _ _,.string _,.int _ _] 74):=D▸bnw;have o:=hid (Zj C (Zw E));have g:=hid (O.below E);have a1:R.b<z.heap.size:=by have:=C.size;omega
  clear D E O C;have t0:=F.cell;have i:=ZCi (hd ts.tail).txt;by_cases d:(hd ts.tail).jk=1
  ·have P:kd=0:=by have:=B.1;rw[d]at this;exact this
   subst P;have p:(tv)=numV _:=B.2.2.2 d;by_cases t:1<=numI 1000 (hd ts.tail).txt
   ·have x:=i.1.1 t;rw[<-p]at x;have Q:=x.1;have G:=x.2;have U:Hid (Zc2 _=.ok _):=hid (by unfold Zc2;rw[if_pos ⟨d,t⟩,i.2 t,<-p]);have HD:Hid (¬((hd ts.tail).jk=0∨(hd ts.tail).jk=5)):=hid Om;obtain⟨rc0,rc1,rfz,rcx⟩:=g.rd.all;have a2:=g.lt;have a3:=g.len;clear t i p x d B
    go_upto_region 8 with fail
    refine ZP fun W8 q=>?_;have V:Hid _:=q▸g.step HD.out;have W:Hid _:=q▸ZA o.out (Or.inl rfl) _;have X:Hid (BAt _ _ _ _):=q▸F.other (by show z.heap.size≠R.b;omega) _;clear q rc0 rc1 rfz rcx t0 F g o;have e3:=X.cell 3;simp only[Zget]at e3;have S:=hid (V.below ((Yaf _ _).drew));have T:=hid (Zj W (Zw ((Yaf _ _).drew)))
    go_region_held3 (fun u => u.cell? ⟨z.heap.size, 3, none⟩ = some (Vi tv)) (first | exact e9 | exact e3 | go_keep) (first
      | (go_at_call 166
         refine(ZdT S.out ⟨#[93]⟩ Dc Dc).mono ?_;rintro e Y ⟨v,rfl,f,I⟩;have e9:Y.cell? ⟨z.heap.size,3,none⟩=some (Vi tv):=(Ycc (a:=⟨z.heap.size,3,none⟩) (I.block _ (Yai _ _ e3) (by simp;omega))).trans e3;have Z:Hid (w.grownBy Y (some R.b)):=Zj T.out I;clear I))
    all_goals
     go_wp2;go_ret2;refine⟨_,_,rfl,?_,Z⟩;rw[A,U];show Hid (Res R _ _ (bnd (Zq [93] ts.tail.tail) _) _);rcases Ze7 [93] ts.tail.tail with ⟨_,c⟩|⟨_,c⟩
     ·obtain⟨s,h2,_⟩:=f.good c;rw[c];exact⟨s,h2,rfl⟩
     ·have:=f.err c;rw[c];exact this
   ·have j:Hid (lenP ts=.error (2,(hd ts.tail).at_)):=by rw[A];unfold Zc2;rw[if_neg (fun h=>t h.2)];rfl
    have x:(tv:Int)<1∨1000<(tv:Int):=by
     rw[p];by_cases s:1<=numV (hd ts.tail).txt/\numV (hd ts.tail).txt<=1000
     ·exact absurd (i.1.2 s) t
     ·omega
    by_cases Q:(tv:Int)<1
    all_goals
     have G:¬(tv:Int)<1->1000<(tv:Int):=by omega
     clear x
     try have a4:=G Q
     clear G
     go_wp2_with fail
     refine(Zfi g).mono ?_;rintro e wE ⟨v,rfl,J,l⟩;obtain⟨fa,rfl⟩:=J.shape;have K:=hid (Zj o (Zw l));clear l;go_wp2;go_ret2;exact⟨_,_,rfl,by rwa [j.out],K⟩
  ·have P:((kd:Int) != 0)=true:=by
    rw[bne_iff_ne];intro e;exact d ((Ze0 g.wf.head.2.2).2.2.2.1.1 (by have:=B.1;simp only at this;omega))
   have j:Hid (lenP ts=.error (2,(hd ts.tail).at_)):=by rw[A];unfold Zc2;rw[if_neg (fun h=>d h.1)];rfl
   clear i B d
   go_wp2_with fail
   refine(Zfi g).mono ?_;rintro e wE ⟨v,rfl,J,l⟩;obtain⟨fa,rfl⟩:=J.shape;have K:=hid (Zj o (Zw l));clear l;go_wp2;go_ret2;exact⟨_,_,rfl,by rwa [j.out],K⟩
 ·have j:Hid (lenP ts=.error (2,(hd ts).at_)):=by unfold lenP;rw[c];rfl
  have J:=hid (f.err c);obtain⟨fa,rfl⟩:=J.shape;clear f c s;go_wp2;go_ret2;exact⟨_,_,rfl,by rwa [j.out],L⟩
end Go.Proofs.YtcdgkkfipdoeeaaGreatDoor
namespace Go.Proofs.YtcdgkkfipdoeeaaGreatDoor
open Go.RowKit LS Go.Proofs.Tryz
attribute [local go_sem ↓] Go.wp_at_zero Go.wp_at_succ
theorem ZEK{w:World}{R:RS}{k:Nat}{ts:List Tok}(h:RK w R k ts){J:BA}(o:Nat)(N:bl J=Z0.getD o []) :
  CP 107 #[Vp R.b,.string J] w fun e u=>∃(pv v:Value),e=.returned (.tuple #[pv,v])/\Zhp pv/\Hid (Res R (fun u t=>Zh u t pv) u (winP o ts) v)/\w.grownBy u (some R.b):=by
 have H:=hid h;have O:=hid N;have a8:=(Yae.1 h.rd.cells).1;go_enter func107,ntmps107
 go_wp2_with fail
 refine(ZdT H _ Dc Dc).mono ?_;rintro e w1 ⟨v,rfl,c,hg⟩;have B:=hid hg;rcases Ze7 [40] ts with ⟨K,d⟩|⟨K,d⟩
 ·obtain⟨rfl,⟨k1,P⟩,_⟩:=c.good d;have Q:=hid P;have C:Hid (winP o ts=bnd (selP ts.tail) fun p r=>bnd (lenP r) fun n r=>bnd (Zq [41] r) fun _ r=>.ok (Zbg ⟨2,o,n,p.name,p.ku,[]⟩,r)):=by rw[Zs8,d];rfl
  go_wp2_with fail
  refine(Zsd Q).mono ?_;rintro e z ⟨nm,la,ln,lc,v,rfl,c,S⟩;have m:=hid (Zj B S);have a9:R.b<z.heap.size:=by have:=m.size;omega
  cases i:selP ts.tail with
  | error er=>
   have l:=hid (c.err i);obtain⟨fa,rfl⟩:=l.shape;have f:Hid (winP o ts=.error er):=by rw[C,i];rfl
   go_wp2;go_ret2;exact⟨_,_,rfl,.inl rfl,f.out▸l.below Zbal,ZbR m _⟩
  | ok pr=>
   obtain⟨nd,r2⟩:=pr;obtain⟨rfl,⟨k2,T⟩,U,V⟩:=c.good i;have D:Hid (winP o ts=bnd (lenP r2) fun n r=>bnd (Zq [41] r) fun _ r=>.ok (Zbg ⟨2,o,n,nd.name,nd.ku,[]⟩,r)):=by rw[C,i];rfl
   have W:=hid U;have X:=hid V;have Y:=hid T
   go_wp2_with fail
   refine Zm fun W3 E=>?_;have q:Below _ _ _:=E▸Zbal;have Z:Hid (BAt _ _ _ 148):=E▸bnw;have a0:=hid (Zj m (Zw q));have F:=hid (Y.below q);have a1:=hid (X.below q);refine(ZEJ F).mono ?_;rintro e w4 ⟨n,v,rfl,c,s⟩;have G:=hid (Zj a0 s);have a2:=hid (a1.read F s);have I:=hid (Z.grown s (by simp;omega));cases j:lenP r2 with
   | error er=>
    have l:=hid (c.err j);obtain⟨fa,rfl⟩:=l.shape;have f:Hid (winP o ts=.error er):=by rw[D,j];rfl
    go_wp2;go_ret2;exact⟨_,_,rfl,.inl rfl,by rwa [f.out],G⟩
   | ok pr=>
    obtain⟨n',r4⟩:=pr;obtain⟨rfl,⟨k4,a3⟩,hn⟩:=c.good j;subst hn;have a4:Hid (winP o ts=bnd (Zq [41] r4) fun _ r=>.ok (Zbg ⟨2,o,n,nd.name,nd.ku,[]⟩,r)):=by rw[D,j];rfl
    have a5:=hid a3;have e0:=I.cell 0;have e1:=I.cell 1;simp only[Zget]at e0 e1;have x:=hid (a5.below ((Yaf _ _).drew));have L:=hid (Zj G (Zw ((Yaf _ _).drew)));have M:=hid (a2.below ((Yaf _ _).drew))
    go_upto_region 10 with fail
    go_region_held3 (fun u => u.cell? ⟨z.heap.size, 0, none⟩ = some (.string nm) /\ u.cell? ⟨z.heap.size, 1, none⟩ = some (.slice la ln lc)) (first | exact ⟨e90, e91⟩ | exact ⟨e0, e1⟩ | go_keep) (first
      | (go_at_call 166
         refine(ZdT x.out ⟨#[41]⟩ Dc Dc).mono ?_;rintro e A ⟨v,rfl,c,g⟩;have e90:A.cell? ⟨z.heap.size,0,none⟩=some (.string nm):=(Ycc (a:=⟨z.heap.size,0,none⟩) (g.block _ (Yai _ _ e0) (by simp;omega))).trans e0;have e91:A.cell? ⟨z.heap.size,1,none⟩=some (.slice la ln lc):=(Ycc (a:=⟨z.heap.size,1,none⟩) (g.block _ (Yai _ _ e1) (by simp;omega))).trans e1;have a6:Hid (w.grownBy A (some R.b)):=Zj L.out g;have a7:Hid (ZX A (.slice la ln lc) nd.ku):=M.read x.out g;clear g))
    all_goals
     go_wp2;go_ret2;refine⟨_,_,rfl,.inr ⟨_,_,rfl⟩,?_,a6⟩;rw[a4];rcases Ze7 [41] r4 with ⟨_,d⟩|⟨_,d⟩
     ·obtain⟨K,h2,_⟩:=c.good d;rw[d];exact⟨K,h2,.inr (.inr (.inl ⟨rfl,J,nm,la,ln,lc,rfl,O,W,a7⟩))⟩
     ·have:=c.err d;rw[d];exact this
 ·have f:Hid (winP o ts=.error (2,(hd ts).at_)):=by rw[Zs8,d];rfl
  have l:=hid (c.err d);obtain⟨fa,rfl⟩:=l.shape;go_wp2;go_ret2;exact⟨_,_,rfl,.inl rfl,by rwa [f.out],B⟩
end Go.Proofs.YtcdgkkfipdoeeaaGreatDoor
namespace Go.Proofs.YtcdgkkfipdoeeaaGreatDoor
open Go.RowKit LS Go.Proofs.Tryz
def ZeO(f:FuncId)(args:Nat->List Value)(P:List Tok->Nat->Out Tr)(ok:List Tok->Prop):Prop:=∀(w:World) (R:RS) (k:Nat) (ts:List Tok) (deep:Nat),RK w R k ts->deep<=20->ok ts->
 CP f ⟨Vp R.b::args deep⟩ w fun e w'=>∃(pv v:Value),e=.returned (.tuple #[pv,v])/\Zhp pv/\Hid (Res R (fun w' t=>Zh w' t pv) w' (P ts deep) v)/\w.grownBy w' (some R.b)
theorem Zug {rec : Nat -> List Tok -> Nat -> Out Tr} {m : Nat} (L : ZeO 28 (fun d => [Vi 0, Vi (d + 1 : Nat)]) (rec 0) (fun ts => ts.length < m)) :
    ZeO 103 (fun d=>[Vi (d+1:Nat)]) (Zbu rec) (fun ts=>ts.length<=m):=by
  intro w R k ts deep h hd u;have H:=hid h;have M:=hid hd;have N:=hid u;go_enter func103,ntmps103
  go_wp2_with fail
  refine(ZdT H _ Dc Dc).mono ?_;rintro e P ⟨v,rfl,c,hg⟩;have j:=hid hg;rcases Ze7 [40] ts with ⟨q,f⟩|⟨q,f⟩
  · obtain⟨rfl,⟨k1,x⟩,_⟩:=c.good f
    have A:=hid x;have l:Hid (Zbu rec ts deep=bnd (rec 0 ts.tail deep) fun a r=>bnd (Zq [41] r) fun _ r=>.ok (a,r)):=by unfold Zbu;rw[f];rfl
    go_wp2_with fail
    refine(L _ R _ _ _ A M (by show ts.tail.length<m;have:=H.pos;have:=N.out;rw[Yb4];omega)).mono ?_;rintro e z ⟨pv,v,rfl,B,c,C⟩;have n:=hid (Zj j C);cases g:rec 0 ts.tail deep with
    | error er=>
      have s:=hid (c.err g);obtain⟨fa,rfl⟩:=s.shape;have i:Hid (Zbu rec ts deep=.error er):=by rw[l,g];rfl
      go_wp2;go_ret2;exact⟨_,_,rfl,.inl rfl,by rwa [i.out],n⟩
    | ok pr=>
      obtain⟨t,r2⟩:=pr;obtain⟨rfl,⟨k2,D⟩,E⟩:=c.good g;have F:Hid (Zbu rec ts deep=bnd (Zq [41] r2) fun _ r=>.ok (t,r)):=by rw[l,g];rfl
      have o:=hid D;have G:=hid E
      go_wp2_with fail
      refine(ZdT o _ Dc Dc).mono ?_;rintro e Q ⟨v,rfl,c,p⟩;have I:=hid (Zj n p);have J:=hid (G.read o p);have K:=hid B;go_wp2;go_ret2;refine⟨_,_,rfl,K,?_,I⟩;rw[F];rcases Ze7 [41] r2 with ⟨_,f⟩|⟨_,f⟩
      · obtain⟨q,O,_⟩:=c.good f
        rw[f];exact⟨q,O,J⟩
      · have:=c.err f
        rw[f];exact this
  · have i:Hid (Zbu rec ts deep=.error (2,(LS.hd ts).at_)):=by unfold Zbu;rw[f];rfl
    have s:=hid (c.err f);obtain⟨fa,rfl⟩:=s.shape;go_wp2;go_ret2;exact⟨_,_,rfl,.inl rfl,by rwa [i.out],j⟩
theorem ZpI (rec : Nat -> List Tok -> Nat -> Out Tr) (g : Nat) (ts : List Tok) (deep : Nat) : Zcb rec g ts deep = bnd (Zq wBy ts) fun _ r => bnd (bnd (Zq [40] r) fun _ r => ZS (ZH 2) [41] (r.length + 1) [] r) fun ns r => bnd (Zbu rec r deep) fun a r => .ok (.node 0 0 ⟨5, g, 0, [], [], ns⟩ a .nil, r) := by
  unfold Zcb;cases c:Zq wBy ts with
  | error e=>rfl
  | ok p1=>
    obtain⟨a1,r1⟩:=p1;simp only[bnd];cases d:Zq [40] r1 with
    | error e=>rfl
    | ok p2=>rfl
theorem Zyz {ts : List Tok} {ns : List (LB)} {r : List Tok} (h : (bnd (Zq [40] ts) fun _ r => ZS (ZH 2) [41] (r.length + 1) [] r) = .ok (ns, r)) : r.length <= ts.length := by
  have l:∀(n:Nat) (acc:List _) (ts:List _) (z:List _×List _),ZS (ZH 2) [41] n acc ts=.ok z->z.2.length<=ts.length:=by
    intro n
    induction n with
    | zero=>intro acc ts z h;cases h
    | succ n ih=>
      intro acc ts z h;by_cases j:isT [41] (hd ts)=true
      · rw[Zma j]at h;cases h;simp
      · have f:=Yce.2 j
        by_cases k:acc=[]
        · subst k
          rw[Zmb f]at h;cases d:ZH 2 ts with
          | error e=>rw[d]at h;cases h
          | ok p=>
            obtain⟨a,r⟩:=p;rw[d]at h;have g:=ih _ _ _ h;have i:=Zjt d;subst i;simp at g;omega
        · rw[Zmd f k]at h
          rcases Ze7 [44] ts with ⟨_,c⟩|⟨_,c⟩
          · rw[c]at h
            simp only[bnd]at h;cases d:ZH 2 ts.tail with
            | error e=>rw[d]at h;cases h
            | ok p=>
              obtain⟨a,r⟩:=p;rw[d]at h;have g:=ih _ _ _ h;have i:=Zjt d;subst i;simp at g;omega
          · rw[c]at h;cases h
  rcases Ze7 [40] ts with ⟨_,c⟩|⟨_,c⟩
  · rw[c]at h
    have:=l _ _ _ _ h;simp at this;omega
  · rw[c]at h;cases h
theorem ZwJ {rec : Nat -> List Tok -> Nat -> Out Tr} {m : Nat} (S : ZeO 103 (fun d => [Vi (d + 1 : Nat)]) (Zbu rec) (fun ts => ts.length <= m)) {x:BA} (g : Nat) (C : bl x = ZW.getD g []) :
    ZeO 105 (fun d=>[.string x,Vi (d+1:Nat)]) (Zcb rec g) (fun ts=>ts.length<=m):=by
  intro w R k ts deep h hd D;have H:=hid h;have E:=hid C;have T:=hid hd;have U:=hid D;go_enter func105,ntmps105
  go_wp2_with fail
  refine(ZC8 H Dc Dc).mono ?_;rintro e X ⟨v,rfl,c,hg⟩;have l:=hid hg;rcases Ze7 wBy ts with ⟨A,f⟩|⟨A,f⟩
  · obtain⟨rfl,⟨k1,F⟩,_⟩:=c.good f
    have G:=hid F;have n:Hid (Zcb rec g ts deep=bnd (bnd (Zq [40] ts.tail) fun _ r=>ZS (ZH 2) [41] (r.length+1) [] r) fun ns r=>bnd (Zbu rec r deep) fun a r=>.ok (.node 0 0 ⟨5,g,0,[],[],ns⟩ a .nil,r)):=by rw[ZpI,f];rfl
    go_wp2_with fail
    refine(ZyA G Dc Dc).mono ?_;rintro e z ⟨la,ln,lc,v,rfl,c,I⟩;have o:=hid (Zj l I);cases i:(bnd (Zq [40] ts.tail) fun _ r=>ZS (ZH 2) [41] (r.length+1) [] r)with
    | error er=>
      have B:=hid (c.err i);obtain⟨fa,rfl⟩:=B.shape;have j:Hid (Zcb rec g ts deep=.error er):=by rw[n,i];rfl
      go_wp2;go_ret2;exact⟨_,_,rfl,.inl rfl,by rwa [j.out],o⟩
    | ok pr=>
      obtain⟨ns,r2⟩:=pr;obtain⟨rfl,⟨k2,J⟩,K⟩:=c.good i;have L:Hid (Zcb rec g ts deep=bnd (Zbu rec r2 deep) fun a r=>.ok (.node 0 0 ⟨5,g,0,[],[],ns⟩ a .nil,r)):=by rw[n,i];rfl
      have p:=hid J;have M:=hid K;have N:Hid (r2.length<=m):=hid (by have:=Zyz i;have:=U.out;rw[Yb4]at *;omega)
      go_wp2_with fail
      refine(S _ R _ _ _ p T N).mono ?_;rintro e Y ⟨pv,v,rfl,O,c,q⟩;have P:=hid (Zj o q);have Q:=hid (M.read p q);rcases O with rfl|⟨ty,u,rfl⟩
      all_goals
        go_wp2;go_ret2;refine⟨_,_,rfl,.inr ⟨_,_,rfl⟩,?_,P⟩;rw[L];cases s:Zbu rec r2 deep with
        | error er=>exact c.err s
        | ok pr=>
          obtain⟨t,r3⟩:=pr;obtain⟨A,V,W⟩:=c.good s;exact⟨A,V,.inr (.inr (.inr (.inr (.inl ⟨rfl,x,la,ln,lc,_,rfl,E,Q,W⟩))))⟩
  · have j:Hid (Zcb rec g ts deep=.error (2,(LS.hd ts).at_)):=by rw[ZpI,f];rfl
    have B:=hid (c.err f);obtain⟨fa,rfl⟩:=B.shape;go_wp2;go_ret2;exact⟨_,_,rfl,.inl rfl,by rwa [j.out],l⟩
end Go.Proofs.YtcdgkkfipdoeeaaGreatDoor
