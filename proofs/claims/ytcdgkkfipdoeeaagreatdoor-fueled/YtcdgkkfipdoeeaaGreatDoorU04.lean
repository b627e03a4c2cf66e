/- Parts. -/
import Derived.Test.YtcdgkkfipdoeeaaGreatDoorU03
import Derived.Deep.RegionHeld3
import Derived.Stop.Asserts
import Derived.RowKitTokens
set_option linter.all false
set_option maxRecDepth 100000
set_option maxHeartbeats 16000000
namespace Go.Proofs.YtcdgkkfipdoeeaaGreatDoor
open Go.RowKit LS Go.Proofs.Tryz
def Zb1:List (BA×BA×Bool)->List Value
 | []=>[]
 | c::l=>.string c.1::.bool c.2.2::.string c.2.1::Zb1 l
theorem Zpk(l m:List (BA×BA×Bool)):Zb1 (l++m)=Zb1 l++Zb1 m:=by
 induction l with
 | nil=>rfl
 | cons a l ih=>simp[Zb1,ih]
def Zbc(l:List BA):List Value:=l.map .string
theorem Zh2(l m:List BA):Zbc (l++m)=Zbc l++Zbc m:=Yaq
def Z7(c:BA×BA×Bool):LB×LB×Bool:=(bl c.1,bl c.2.1,c.2.2)
def Zbm(w:World)(v:Value)(ns:List (LB)):Prop:=∃bs:List BA,w.ownsRow 0 9 1 v bs.length (Zbc bs)/\bs.map bl=ns
def ZX(w:World)(v:Value)(cs:List (LB×LB×Bool)):Prop:=∃bs:List (BA×BA×Bool),w.ownsRow 0 224 3 v bs.length (Zb1 bs)/\bs.map Z7=cs
theorem Tryz.infoCondD:(Tryz.prog.info? 224).map (fun i=>(i.zero,i.size,i.bytes))=some (some (.agg #[.string ByteArray.empty,.bool false,.string ByteArray.empty]),3,40):=by kernel_rfl
theorem ZcY{W:World}{l:List Value}{t:TypeId}{n:Nat}(a:W.heap.size=n):∀j x,l[j]?=some x->(W.alloc (.cells ⟨l⟩ t)).cell? ((⟨n,0,none⟩:Addr).add j)=some x:=by
 intro j x c;subst a;rw[ZfO];have h:=Go.Deep.blk_alloc_new W (.cells ⟨l⟩ t);simp only[World.cell?,h];simpa using c
theorem Zgi{w:World}{base:Nat}{e:TypeId}{size:Nat}{v:Value}{n:Nat}{xs:List Value}(h:w.ownsRow base e size v n xs):w.ownsRow 0 e size v n xs:=by
 refine⟨h.1,?_⟩;rcases h.2 with a|⟨g,cap,cur,h,_,r⟩
 ·exact .inl a
 ·exact .inr ⟨g,cap,cur,h,Yag _,r⟩
theorem Zfu{w w':World}{base:Nat}{e:TypeId}{size:Nat}{v:Value}{n:Nat}{xs:List Value}(h:w.ownsRow base e size v n xs){b:Nat}(a:w.grownBy w' (some b))(c:b<base):w'.ownsRow base e size v n xs:=
 h.kept a (Or.inr (fun q=>by have:=(h.lt b q).1;omega))
theorem Zfn{w0 w w':World}{b:Nat}{v:Value}(h:w0.grownBy w (some b))(a:w.grownBy w' v.ownBlock)(f:∀q,v.ownBlock=some q->w0.heap.size<=q):w0.grownBy w' (some b):=by
 refine⟨a.os.trans h.os,a.tape.trans h.tape,a.output.trans h.output,Yah h.size a.size,?_⟩;intro j c d;rw[a.block j (Yaw c h.size) (fun e=>by have:=f j e.symm;omega),h.block j c d]
theorem RK.grown{w0 w w':World}{R:RS}{k0 k:Nat}{ts0 ts:List Tok}(a:RK w0 R k0 ts0)(h:RK w R k ts){v:Value}(c:w.grownBy w' v.ownBlock)(d:∀q,v.ownBlock=some q->w0.heap.size<=q):RK w' R k ts:=by
 refine h.blocks (fun j f g=>c.block j f (fun e=>?_));have:=d j e.symm;have o:=(Yae.1 a.rd.cells).1;have p:=Z1 a.rd.own;have i:=Yai _ _ a.sy;have l:=Yai _ _ a.dp;have m:1<w0.heap.size:=i;have n:2<w0.heap.size:=l;rcases g with rfl|rfl|rfl|rfl <;> omega
theorem Zma{α:Type}{item:List Tok->Out α}{close:LB}{m:Nat}{acc:List α}{ts:List Tok}(h:isT close (hd ts)=true):ZS item close (m+1) acc ts=.ok (acc,ts.tail):=if_pos h
theorem Zmb {α : Type} {item : List Tok -> Out α} {close : LB} {m : Nat} {ts : List Tok} (h : isT close (hd ts) = false) : ZS item close (m + 1) [] ts = bnd (item ts) fun a r => ZS item close m [a] r := by
  show(if isT close (hd ts)=true then _ else _)=_;rw[h];rfl
theorem Zmd {α : Type} {item : List Tok -> Out α} {close : LB} {m : Nat} {acc : List α} {ts : List Tok} (h : isT close (hd ts) = false) (c : acc ≠ []) : ZS item close (m + 1) acc ts = bnd (Zq [44] ts) fun _ r => bnd (item r) fun a r => ZS item close m (acc ++ [a]) r := by
  show(if isT close (hd ts)=true then _ else _)=_;rw[h];cases acc with
  | nil=>exact absurd rfl c
  | cons a l=>rfl
theorem ZdU{s:LB}{ts:List Tok}(h:isT s (hd ts)=true):Zq s ts=.ok ((),ts.tail):=if_pos h
theorem Ze8{s:LB}{ts:List Tok}(h:¬isT s (hd ts)=true):Zq s ts=.error (2,(hd ts).at_):=if_neg h
theorem Zjt{k:Nat}{ts:List Tok}{a:LB}{r:List Tok}(h:ZH k ts=.ok (a,r)):r=ts.tail:=by
 unfold ZH at h;split at h
 ·cases h;rfl
 ·cases h
theorem Zot{ts:List Tok}{a:LB×LB×Bool}{r:List Tok}(h:ZV ts=.ok (a,r)):r.length<=ts.tail.length:=by
 have:=Zos _ _ h;simp only[Yb4]at *
 omega
theorem RK.pos{w:World}{R:RS}{k:Nat}{ts:List Tok}(h:RK w R k ts):0<ts.length:=h.wf.head.2.1
theorem ZyA {w : World} {R : RS} {k : Nat} {ts : List Tok} (h : RK w R k ts) {op cl:BA} (a9 : (bl op).all (fun c => !Zp c) = true /\ bl op ≠ []) (b0 : (bl cl).all (fun c => !Zp c) = true /\ bl cl ≠ []) :
    CP 168 #[Vp R.b,.string op,.string cl,.func (.func 169) #[] #[]] w fun e w'=>∃(la:Option Addr) (ln lc:Nat) (v:Value),e=.returned (.tuple #[.slice la ln lc,v])/\Hid (Res R (fun w' ns=>Zbm w' (.slice la ln lc) ns) w' (bnd (Zq (bl op) ts) fun _ r=>ZS (ZH 2) (bl cl) (r.length+1) [] r) v)/\w.grownBy w' (some R.b):=by
  have H:=hid h;have D:=(Yae.1 h.rd.cells).1;obtain⟨i0,hi,a2,a3,a4⟩:=info_parts Tryz.infoStr;have a5:=hid a9;have E:=hid b0;obtain⟨PL,a6⟩:∃PL:Out _,PL=bnd (Zq (bl op) ts) fun _ r=>ZS (ZH 2) (bl cl) (r.length+1) [] r:=⟨_,rfl⟩
  rw[<-a6];have K:=hid a6;go_enter func168,ntmps168
  go_wp2_with fail
  refine(ZdT H _ a5.1 a5.2).mono ?_;rintro e w1 ⟨v,rfl,d,hg⟩;have a7:=hid hg;by_cases h1:isT (bl op) (hd ts)=true
  · rw[ZdU h1]at d
    have j:Hid (ZS (ZH 2) (bl cl) (ts.tail.length+1) [] ts.tail=PL):=by rw[K,ZdU h1];rfl
    obtain⟨rfl,⟨k1,b1⟩,_⟩:=d.out;have F:Hid (RK _ R _ ts.tail):=b1;obtain⟨r0,b2⟩:∃r0,r0=ts.tail:=⟨_,rfl⟩
    rw[<-b2]at F j;go_wp2
    go_loopg [11] r0.length (fun g v11 wr=>∃(bs:List BA) (r:List Tok) (k2 n:Nat),g=r.length/\Hid (RK wr R k2 r)/\Hid (wr.ownsRow w.heap.size 9 1 v11 bs.length (Zbc bs))/\Hid (r.length<n/\bs.length+r.length<=302/\ZS (ZH 2) (bl cl) n (bs.map bl) r=PL)/\Hid (w.grownBy wr (some R.b)))
    case atStart=>exact⟨[],r0,k1,r0.length+1,rfl,F,Ybc _ _ _ _,⟨by omega,by have:=F.size;have:=F.len;simp;omega,j⟩,a7⟩
    case round=>
      obtain⟨bs,r,k2,n,c6,HK,HO,s,HG⟩:=hrel;obtain⟨m,rfl⟩:∃m,n=m+1:=⟨n - 1,by have:=s.1;omega⟩
      obtain⟨av,cp,hv⟩:=Zl HO;subst hv
      go_wp2_with fail
      refine(Zee HK).mono ?_;rintro e w2 ⟨⟨kd,at_,tx,tv⟩,rfl,ht,L⟩;have M:=hid (HK.below L);have b3:=hid (Zn HO L);have b4:=hid (Zj HG (Zw L))
      go_wp2_with fail
      refine(Zf6 ht.out M.wf.head.1 M.wf.head.2.2 cl E.1 E.2 w2).mono ?_;rintro e w3 ⟨rfl,N⟩;have G:=hid (M.below N);have O:=hid (Zn b3 N);have P:=hid (Zj b4 (Zw N));by_cases hc:isT (bl cl) (hd r)=true
      · rw[hc]
        have j:Hid (PL=.ok _):=hid (by rw[<-s.2.2,Zma hc]);have b5:=hid (ZdU hc)
        go_wp2_with fail
        refine(ZdT G _ E.1 E.2).mono ?_;rintro e w4 ⟨v,rfl,d,t⟩;rw[b5]at d;obtain⟨rfl,Q,_⟩:=d.out;have b6:Hid (∃k,RK _ R k r.tail):=Q;have S:=hid (Zfu O t D);have I:=hid (Zj P t);go_wp2;go_ret2;exact⟨_,_,_,_,rfl,j.out▸⟨rfl,b6.out,bs,Zgi S.out,rfl⟩,I⟩
      · have T:=Yce.2 hc
        rw[T];by_cases hb:bs=[]
        · subst hb
          have j:Hid ((bnd _ _)=PL):=s.2.2▸(Zmb T).symm;have c7:([]:List BA).length=0:=rfl
          go_wp2_with fail
          refine(Zkk G).mono ?_;rintro e w5 ⟨x,v,rfl,d,A⟩;have o:=hid (Zfu O A D);have p:=hid (Zj P A);cases f:(ZH 2) r with
          | error er=>
            rw[f]at d;obtain⟨fa,rfl⟩:=d.shape;have HE:Hid (Z9 _ R _ _):=d;have i:Hid (PL=.error er):=by rw[<-j,f];rfl
            go_wp2;go_ret2;exact⟨_,_,_,_,rfl,by rwa [i.out],p⟩
          | ok pr=>
            obtain⟨a,y⟩:=pr;rw[f]at d;obtain⟨rfl,⟨k5,U⟩,hx⟩:=d.out;have HX:Hid (bl x=a):=hx;have V:Hid (RK _ R _ y):=U;have B:y.length<=(r).tail.length:=(fun h=>Zjt h▸Yac _) f;have hy:y.length<r.length:=by have h9:=G.pos;simp only[Yb4]at B;omega
            have i:Hid (ZS (ZH 2) (bl cl) m (([]++[x]).map bl) y=PL):=by rw[<-j,f,Yaq];rw[<-HX];rfl
            have b7:=s.2.1;have b8:=s.1
            go_wp2_with (at_builtin;refine wpList_append_own _ rfl (.tmp 43) (.tmp 45) 122 rfl w.heap.size 9 i0 (.string ByteArray.empty) 1 16 underlying122 hi a2 a3 a4 rfl Dc _ _ _ rfl (o.alloc _) ⟨w5.heap.size,0,none⟩ 1 1 [.string x] rfl rfl ?c1 ?c2 ?c3 ?c4 ?c5 ?_)
            case c1=>exact ZcY rfl
            case c2=>intro u W;simp at W;rw[W];rfl
            case c3=>unfold maxLen;omega
            case c4=>omega
            case c5=>simp;have:=p.size;omega
            intro v' w6 a1 l _;have X:=hid (Zfn (ZbR p _) l (fun q C=>(o.lt q C).1));have Y:=hid (RK.grown H (V.below Zbal) l (fun q C=>(o.lt q C).1));have Z:Hid (w6.ownsRow w.heap.size 9 1 v' ([]++[x]).length (Zbc ([]++[x]))):=by rwa [Zh2,Yab]
            go_wp2
            go_roundg y.length
            case measure=>omega
            case rel=>exact⟨_,y,k5,m,rfl,Y,Z,⟨by omega,by simp;omega,i⟩,X⟩
        · have b9:=Ycj.2 hb
          have j:Hid ((bnd _ fun _ z=>bnd _ _)=PL):=s.2.2▸(Zmd T (by simpa using hb)).symm
          go_wp2_with fail
          refine(ZdT G _ Dc Dc).mono ?_;rintro e w4 ⟨v,rfl,d,t⟩;have S:=hid (Zfu O t D);have I:=hid (Zj P t);by_cases J:isT [44] (hd r)=true
          · rw[show Zq (bl ⟨#[44]⟩) r=.ok _ from ZdU J]at d
            obtain⟨rfl,⟨k4,Q⟩,_⟩:=d.out;have a8:Hid (RK _ R _ r.tail):=Q;have a0:Hid ((bnd ((ZH 2) r.tail) fun a y=>ZS (ZH 2) (bl cl) m (bs.map bl++[a]) y)=PL):=by rw[<-j,ZdU J];rfl
            go_wp2_with fail
            refine(Zkk a8).mono ?_;rintro e w5 ⟨x,v,rfl,d,A⟩;have o:=hid (Zfu S A D);have p:=hid (Zj I A);cases f:(ZH 2) r.tail with
            | error er=>
              rw[f]at d;obtain⟨fa,rfl⟩:=d.shape;have HE:Hid (Z9 _ R _ _):=d;have i:Hid (PL=.error er):=by rw[<-a0,f];rfl
              go_wp2;go_ret2;exact⟨_,_,_,_,rfl,by rwa [i.out],p⟩
            | ok pr=>
              obtain⟨a,y⟩:=pr;rw[f]at d;obtain⟨rfl,⟨k5,U⟩,hx⟩:=d.out;have HX:Hid (bl x=a):=hx;have V:Hid (RK _ R _ y):=U;have B:y.length<=(r.tail).tail.length:=(fun h=>Zjt h▸Yac _) f;have hy:y.length<r.length:=by have h9:=a8.pos;simp only[Yb4]at h9 B;omega
              have i:Hid (ZS (ZH 2) (bl cl) m ((bs++[x]).map bl) y=PL):=by rw[<-a0,f,Yaq];rw[<-HX];rfl
              have b7:=s.2.1;have b8:=s.1
              go_wp2_with (at_builtin;refine wpList_append_own _ rfl (.tmp 43) (.tmp 45) 122 rfl w.heap.size 9 i0 (.string ByteArray.empty) 1 16 underlying122 hi a2 a3 a4 rfl Dc _ _ _ rfl (o.alloc _) ⟨w5.heap.size,0,none⟩ 1 1 [.string x] rfl rfl ?c1 ?c2 ?c3 ?c4 ?c5 ?_)
              case c1=>exact ZcY rfl
              case c2=>intro u W;simp at W;rw[W];rfl
              case c3=>unfold maxLen;omega
              case c4=>omega
              case c5=>simp;have:=p.size;omega
              intro v' w6 a1 l _;have X:=hid (Zfn (ZbR p _) l (fun q C=>(o.lt q C).1));have Y:=hid (RK.grown H (V.below Zbal) l (fun q C=>(o.lt q C).1));have Z:Hid (w6.ownsRow w.heap.size 9 1 v' (bs++[x]).length (Zbc (bs++[x]))):=by rwa [Zh2,Yab]
              go_wp2
              go_roundg y.length
              case measure=>omega
              case rel=>exact⟨_,y,k5,m,rfl,Y,Z,⟨by omega,by simp;omega,i⟩,X⟩
          · rw[show Zq (bl ⟨#[44]⟩) r=.error _ from Ze8 J]at d
            obtain⟨fa,rfl⟩:=d.shape;have HE:Hid (Z9 _ R _ _):=d;have i:Hid (PL=.error (2,(hd r).at_)):=by rw[<-j,Ze8 J];rfl
            go_wp2;go_ret2;exact⟨_,_,_,_,rfl,by rwa [i.out],I⟩
  · rw[Ze8 h1]at d
    have i:Hid (PL=.error (2,(hd ts).at_)):=by rw[K,Ze8 h1];rfl
    obtain⟨fa,rfl⟩:=d.shape;have HE:Hid (Z9 _ R _ _):=d;go_wp2;go_ret2;exact⟨_,_,_,_,rfl,by rwa [i.out],a7⟩
section
variable {P:Program} {ops:Array Oper} {Q:Exit->Act->World->Prop} {md:Region.Mode} {S:World->Prop} {k:Nat}
def ZcJ(P:Program)(md:Region.Mode)(ops:Array Oper)(Q:Exit->Act->World->Prop)(S:World->Prop)(k:Nat):Nat->Array Bool->Act->World->Prop
 | 0,ls,a,w=>Region.ready md ops ls=[]/\Q .normal a w
 | f + 1, ls, a, w => (Region.ready md ops ls = [] -> Q .normal a w) /\ ∀ i ∈ Region.ready md ops ls,
     wpOp P ops Q i (fun a' w'=>((ls.setIfInBounds i true).getD k true=false->S w')/\ZcJ P md ops Q S k f (ls.setIfInBounds i true) a' w') a w
theorem ZcJ.any:∀(f:Nat) (ls:Array Bool) (a:Act) (w:World),ZcJ P md ops Q S k f ls a w->wpAny P md ops Q f ls a w
 | 0,_,_,_,h=>h
 | f+1,_,_,_,h=>⟨h.1,fun i c=>wpOp_mono (fun _ _ d=>ZcJ.any f _ _ _ d.2) (h.2 i c)⟩
def ZfE(md:Region.Mode)(ops:Array Oper)(ls:Array Bool):Bool:=
 (List.range ops.size).all fun j=>!ls.getD j true || ((ops[j]?).map (·.after.all fun e=>!Region.binds md e || ls.getD e.on false)).getD false
def Zhk(md:Region.Mode)(ops:Array Oper)(i:Nat):Nat->Nat->Bool
 | 0,_=>false
 | n+1,j=>((ops[j]?).map (·.after.any fun e=>Region.binds md e && (e.on == i || Zhk md ops i n e.on))).getD false
theorem Zsl{ls:Array Bool} : ZfE md ops ls=true ↔ ∀j o,ops[j]?=some o->ls.getD j true=true->∀e∈o.after,Region.binds md e=true->ls.getD e.on false=true:=by
 unfold ZfE;rw[Ybu];constructor
 ·intro h j o a c e d g;have f:=h j (Yb9.2 (Yae.1 a).1);rw[c,a]at f;simp only[Bool.not_true,Yft,Ybf,Ya6,Array.all_eq_true']at f;have l:=f e d
  simp_all
 ·intro h j c;rw[Yb9]at c;have a:=Array.getElem?_eq_getElem c;cases i:ls.getD j true with
  | false=>rfl
  | true=>
   rw[a];simp only[Bool.not_true,Yft,Ybf,Ya6,Array.all_eq_true'];intro e d;cases g:Region.binds md e with
   | false=>rfl
   | true=>simpa using h j _ a i e d g
theorem ZCb{ls:Array Bool}{j:Nat}(h:ZfE md ops ls=true)(n:j∈Region.ready md ops ls):ZfE md ops (ls.setIfInBounds j true)=true:=by
 rw[Zsl]at h ⊢;intro i o c f e g l;obtain⟨_,oj,m,d⟩:=mem_ready.1 n;by_cases a:j=i
 ·subst a;rw[m]at c;cases c;exact getD_set_true (d e g l)
 ·rw[getD_set_ne _ a]at f;exact getD_set_true (h i o c f e g l)
theorem Zs6{ls:Array Bool}{i:Nat}(h:ZfE md ops ls=true)(f:ls.getD i true=false):∀(n j:Nat),Zhk md ops i n j=true->ls.getD j true=false
 | 0,_,a=>by cases a
 | n + 1, j, a => by
   cases g:ls.getD j true with
   | false=>rfl
   | true=>
     unfold Zhk at a;cases c:ops[j]? with
     | none=>simp_all
     | some o=>
       rw[c]at a;simp only[Ybf,Ya6,Array.any_eq_true',Yas,Yct,beq_iff_eq]at a;obtain⟨e,l,m,d⟩:=a;have s:=Zsl.1 h j o c g e l m
       have t:ls.getD e.on true=false:=by
         rcases d with r|p
         · simp_all
         · exact Zs6 h f n _ p
       exfalso
       rcases Yav e.on ls.size with q|q
       · simp_all
       simp_all
theorem Ztl{i n:Nat}{oi:Oper}{v:Value}(t:ops[i]?=some oi)(l:∀(j:Nat) (o:Oper) cs b,ops[j]?=some o->o.op≠.select cs b)
  (L:∀c a w,Q (.panic c) (a.put oi.dst v) w->Q (.panic c) a w) (M:Zhk md ops i n k=true) (B:i≠k) :
  ∀(f:Nat) (ls:Array Bool) (a:Act) (w:World),ZfE md ops ls=true->
   (∀j oj,ops[j]?=some oj->j≠i->ls.getD j true=false->(∀e∈oj.after,Region.binds md e=true->e.on≠i)->oi.apart ops oj=true)->
   i∈Region.ready md ops ls->YieldsIf P ops S oi v a->S w->
   ZcJ P md ops Q S k f (ls.setIfInBounds i true) (a.put oi.dst v) w->ZcJ P md ops Q S k (f+1) ls a w
 | 0, ls, a, w, C, g, E, x, p, H => by
   refine⟨fun h=>(by simp_all),fun j q=>?_⟩;by_cases d:j=i
   · subst d;exact x.wpOp t p ⟨fun _=>p,H⟩
   · have z:=ready_mono q d
     rw[H.1]at z;cases z
 | f + 1, ls, a, w, C, g, E, x, p, H => by
   refine⟨fun h=>(by simp_all),fun j q=>?_⟩;by_cases d:j=i
   · subst d;exact x.wpOp t p ⟨fun _=>p,H⟩
   · have z:=H.2 j (ready_mono q d)
     obtain⟨F,oj,r,G⟩:=mem_ready.1 q;have I:=(mem_ready.1 E).1
     have J : ∀ e ∈ oj.after, Region.binds md e = true -> e.on ≠ i := fun e U V N => by
       have K:=G e U V;rw[N]at K;rcases Yav i ls.size with W|W
       · simp_all
       simp_all
     have s:=ZCb C q;have A:(ls.setIfInBounds j true).getD i true=false:=by rw[getD_set_ne true d];exact I
     have X:(ls.setIfInBounds j true).getD k true=false:=Zs6 s A n k M;have K:=wpOp_putIf r (g j oj r d F J) (fun cs b=>l i oi cs b t) (fun cs b=>l j oj cs b r) L x z;refine wpOp_mono (fun a' u O=>?_) K;have D:S u:=O.2.1 (by rw[Ye4 _ _ (Ycp d),getD_set_ne true B];omega);refine⟨fun _=>D,Ztl t l L M B f (ls.setIfInBounds j true) a' u s (fun m om Y R Z T=>g m om Y R ?_ T) (ready_mono E (Ycp d)) O.1 D ?_⟩
     · by_cases a0:j=m
       · simp_all
       simp_all
     · rw[Ye4 _ _ d]
       simp_all
theorem ZeD{i d:Nat}{oi:Oper}{v:Value}{f:Nat}{ls:Array Bool}{a:Act}{w:World}(e:ops[i]?=some oi)(hd:oi.dst=some d)(g:(Region.noSelect ops && Region.free md ops ls i && (Region.ready md ops ls).contains i && Zhk md ops i ops.size k && ZfE md ops ls && i != k)=true)
  (j:∀c a w,Q (.panic c) (a.put oi.dst v) w->Q (.panic c) a w) (l:YieldsIf P ops S oi v a) (m:S w)
  (h:ZcJ P md ops Q S k f (ls.setIfInBounds i true) { a with tmps:=a.tmps.setIfInBounds d v } w):ZcJ P md ops Q S k (f+1) ls a w:=by
 simp only[Yas,bne_iff_ne]at g;obtain⟨⟨⟨⟨⟨n,o⟩,s⟩,p⟩,q⟩,r⟩:=g;exact Ztl e (Region.noSelect_spec n) j p r f _ a w q (Region.free_spec e o) (by simp_all) l m (by rwa [hd])
theorem Z4{i:Nat}{o:Oper}{f:Nat}{ls:Array Bool}{a:Act}{w:World}(e:Region.ready md ops ls=[i])(g:ops[i]?=some o)
  (h:∀K':Act->World->Prop,Shut (∀a w,S w->(S w->ZcJ P md ops Q S k f (ls.setIfInBounds i true) a w)->K' a w)->if Region.wanted o (yielded ops a.tmps)=true then Oper.wp P o a w K' Q else K' (a.put o.dst undef) w):ZcJ P md ops Q S k (f+1) ls a w:=by
 refine⟨fun n=>(by simp_all),fun j c=>?_⟩;rw[e,Yap]at c;subst c;exact wpOp_step g (fun K' l=>h _ (fun a w d m=>l a w ⟨fun _=>d,m d⟩))
theorem Zbl{o:Oper}{f:Nat}{ls:Array Bool}{a:Act}{w:World}(e:Region.ready md ops ls=[k])(c:Region.ready md ops (ls.setIfInBounds k true)=[])(g:ops[k]?=some o)(n:(ls.setIfInBounds k true).getD k true=true)
  (h:∀K':Act->World->Prop,Shut (∀a w,Q .normal a w->K' a w)->if Region.wanted o (yielded ops a.tmps)=true then Oper.wp P o a w K' Q else K' (a.put o.dst undef) w):ZcJ P md ops Q S k (f+1) ls a w:=by
 refine⟨fun i=>(by simp_all),fun j d=>?_⟩;rw[e,Yap]at d;subst d;refine wpOp_step g (fun K' l=>h _ (fun a w m=>l a w ⟨fun i=>(by simp_all),?_⟩));cases f with
 | zero=>exact⟨c,m⟩
 | succ f=>constructor<;>simp_all
theorem Zbn{id:Nat}{a:Act}{w:World}(k:Nat)(S:World->Prop)(c:P.follows .mixedOrders=true)(d:S w.drew)(h:S w.drew->ZcJ P .any ops Q S k ops.size (Array.replicate ops.size false) a w.drew):(Code.region id ops true).wp P Q a w:=
 wp_region_any c (ZcJ.any _ _ _ _ (h d))
end
end Go.Proofs.YtcdgkkfipdoeeaaGreatDoor
namespace Go.Proofs.YtcdgkkfipdoeeaaGreatDoor
open Go.RowKit LS Go.Proofs.Tryz
section
variable {P:Program} {ops:Array Oper} {Q:Exit->Act->World->Prop} {md:Region.Mode} {S:World->Prop} {k:Nat}
theorem Za (i : Nat) {d : Nat} {oi : Oper} {v : Value} {f : Nat} {ls ls' : Array Bool} {a : Act} {tm' : Array Value} {w : World} (e : S w) (g : ops[i]? = some oi := by rfl) (hd : oi.dst = some d := by rfl) (j : (Region.noSelect ops && Region.free md ops ls i && (Region.ready md ops ls).contains i && Zhk md ops i ops.size k && ZfE md ops ls && i != k) = true := by kernel_rfl)
    (l:∀c a w,Q (.panic c) (a.put oi.dst v) w->Q (.panic c) a w:=by exact fun _ _ _ h=>h) (m:YieldsIf P ops S oi v a:=by(refine Or.inl ⟨by rfl,?_⟩;intro w hSw;go_simp;try with_reducible rfl)) (n:ls.setIfInBounds i true=ls':=by(try simp only[Zset]);rfl) (o:a.tmps.setIfInBounds d v=tm':=by(try simp only[Zset]);rfl)
    (h:ZcJ P md ops Q S k f ls' { a with tmps:=tm' } w):ZcJ P md ops Q S k (f+1) ls a w:=by
  subst n o;exact ZeD g hd j l m e h
end
end Go.Proofs.YtcdgkkfipdoeeaaGreatDoor
namespace Go.Proofs.YtcdgkkfipdoeeaaGreatDoor
open Go.Proofs.Tryz
open Go.RowKit Go.Extern.Stop Go.Stop Go.Extern LS
def ZoX : Array Value → Sem Value := ReflectliteType.method fun t => do Rtype.noPackHeld "Comparable" t; pure (.bool (← typeInfo t).comparable)
theorem Tryz.isTypeOf(v:Value)(w:World):(Extern.ReflectliteType.typeOf #[.iface 432 v]).run Tryz.prog w=.ok (.iface 209 (.agg #[.pointer (some ⟨20,432,none⟩)])) w:=by kernel_rfl
theorem Tryz.isComparable(w:World):(ZoX #[.agg #[.pointer (some ⟨20,432,none⟩)]]).run Tryz.prog w=.ok (.bool true) w:=by kernel_rfl
theorem Tryz.isMethodComparable (v : Value) (w : World) : (Go.method 562 209 v "Comparable").run Tryz.prog w = .ok (324, v) w := by kernel_rfl
theorem Tryz.isComp:(Tryz.prog.info? 432).map (·.comparable)=some true:=by kernel_rfl
theorem Tryz.isSize:(Tryz.prog.info? 451).map (·.size)=some 1:=by kernel_rfl
theorem Tryz.noIsE(v:Value)(xT:TypeId)(w:World):(Instr.typeAssert (.iface 432 v) xT 211 true).run Tryz.prog w=.ok (.tuple #[.nilIface,.bool false]) w:=run_typeAssert_lacksB Tryz.underlying211 Kr Kr v _ w
theorem Tryz.noUnwrapE(v:Value)(xT:TypeId)(w:World):(Instr.typeAssert (.iface 432 v) xT 214 true).run Tryz.prog w=.ok (.tuple #[.nilIface,.bool false]) w:=run_typeAssert_lacksB Tryz.underlying214 Kr Kr v _ w
theorem Tryz.noUnwrapsE(v:Value)(xT:TypeId)(w:World):(Instr.typeAssert (.iface 432 v) xT 215 true).run Tryz.prog w=.ok (.tuple #[.nilIface,.bool false]) w:=run_typeAssert_lacksB Tryz.underlying215 Kr Kr v _ w
theorem Tryz.noIsW(v:Value)(xT:TypeId)(w:World):(Instr.typeAssert (.iface 81 v) xT 211 true).run Tryz.prog w=.ok (.tuple #[.nilIface,.bool false]) w:=run_typeAssert_lacksB Tryz.underlying211 Kr Kr v _ w
theorem Tryz.hasUnwrapW(v:Value)(xT:TypeId)(w:World):(Instr.typeAssert (.iface 81 v) xT 214 true).run Tryz.prog w=.ok (.tuple #[.iface 81 v,.bool true]) w:=run_typeAssert_hasB Tryz.underlying214 Kr v _ w
theorem Tryz.methodUnwrap (v : Value) (w : World) : (Go.method 562 81 v "Unwrap").run Tryz.prog w = .ok (312, v) w := by kernel_rfl
theorem Zhn (args : Array Value) (w : World) : (callFunc 57 args).run prog w = ((ReflectliteType.typeOf args).run prog w).andThen fun v u => .ok (.value v) u :=
  run_callFunc_extern func57 Kr Kr Kr Kr args w
theorem Zkz (args : Array Value) (w : World) : (callFunc 324 args).run prog w = ((ZoX args).run prog w).andThen fun v u => .ok (.value v) u :=
  run_callFunc_extern func324 Kr Kr Kr Kr args w
theorem Zf7{a:Addr}{w:World} :
  CP 32 #[.iface 432 (.pointer (some a)),.iface 432 (.pointer (some a))] w fun e u=>e=.returned (.bool true)/\u=w:=by
 obtain⟨i,d,c⟩:=Ybk.1 Tryz.isComp;obtain⟨j,f,g⟩:=Ybk.1 Tryz.isSize;have l:=Zhn;have h:=Zkz;have tT:=Tryz.isTypeOf;have cT:=Tryz.isComparable;have mR:=Tryz.isMethodComparable;have k:=run_eql_iface_ptr_same w a underlying46 underlying432 d c f;go_enter func32,ntmps32;go_wp2;refine wp_loop_rounds 1 ?_;rw[rounds_succ];go_wp2;go_ret;exact⟨rfl,rfl⟩
theorem Zxl{b:Addr}{w:World} :
  CP 32 #[.nilIface,.iface 432 (.pointer (some b))] w fun e u=>e=.returned (.bool false)/\u=w:=by
 have a:=run_eql_iface_nil_left w 432 (.pointer (some b)) underlying46;go_enter func32,ntmps32;go_wp2;go_ret;exact⟨rfl,rfl⟩
theorem Zxm{a b:Addr}{ca cb:Array Value}{ta tb:TypeId}{w:World}(d:a≠b)(g:w.heap[a.block]?=some (.cells ca ta (0,0)))(h:w.heap[b.block]?=some (.cells cb tb (0,0))) :
  CP 32 #[.iface 432 (.pointer (some a)),.iface 432 (.pointer (some b))] w fun e u=>e=.returned (.bool false)/\u=w:=by
 obtain⟨i,k,c⟩:=Ybk.1 Tryz.isComp;obtain⟨j,l,f⟩:=Ybk.1 Tryz.isSize;have o:=Zhn;have m:=Zkz;have tT:=Tryz.isTypeOf;have cT:=Tryz.isComparable;have mR:=Tryz.isMethodComparable;have nE:=Tryz.noIsE;have uE:=Tryz.noUnwrapE;have vE:=Tryz.noUnwrapsE;have nW:=Tryz.noIsW;have uW:=Tryz.hasUnwrapW;have mU:=Tryz.methodUnwrap;have n:=run_eql_iface_ptr_other w underlying46 underlying432 k c l (by rw[f];decide) d g h;go_enter func32,ntmps32;go_wp2;refine wp_loop_rounds 1 ?_;rw[rounds_succ];go_wp2;go_ret;exact⟨rfl,rfl⟩
theorem Zf8{pb:Nat}{b:Addr}{w:World}(l:w.cell? ⟨pb,2,none⟩=some (.iface 432 (.pointer (some b)))) :
  CP 32 #[.iface 81 (Vp pb),.iface 432 (.pointer (some b))] w fun e u=>e=.returned (.bool true)/\u=w:=by
 obtain⟨i,c,a⟩:=Ybk.1 Tryz.isComp;obtain⟨j,d,f⟩:=Ybk.1 Tryz.isSize;have m:=Zhn;have g:=Zkz;have tT:=Tryz.isTypeOf;have cT:=Tryz.isComparable;have mR:=Tryz.isMethodComparable;have nE:=Tryz.noIsE;have uE:=Tryz.noUnwrapE;have vE:=Tryz.noUnwrapsE;have nW:=Tryz.noIsW;have uW:=Tryz.hasUnwrapW;have mU:=Tryz.methodUnwrap;have h:=run_eql_iface_ptr_same w b underlying46 underlying432 c a d;have k:=run_eql_iface_types 81 432 (Vp pb) (.pointer (some b)) underlying46 Dc w;go_enter func32,ntmps32;go_wp2;refine wp_loop_rounds 2 ?_;rw[rounds_succ];go_wp2;rw[rounds_succ];go_wp2;go_ret;exact⟨rfl,rfl⟩
theorem Zxn{pb:Nat}{b a:Addr}{ca cb:Array Value}{ta tb:TypeId}{w:World}(p:w.cell? ⟨pb,2,none⟩=some (.iface 432 (.pointer (some a))))(d:a≠b)(g:w.heap[a.block]?=some (.cells ca ta (0,0)))(h:w.heap[b.block]?=some (.cells cb tb (0,0))) :
  CP 32 #[.iface 81 (Vp pb),.iface 432 (.pointer (some b))] w fun e u=>e=.returned (.bool false)/\u=w:=by
 obtain⟨i,k,c⟩:=Ybk.1 Tryz.isComp;obtain⟨j,l,f⟩:=Ybk.1 Tryz.isSize;have q:=Zhn;have m:=Zkz;have tT:=Tryz.isTypeOf;have cT:=Tryz.isComparable;have mR:=Tryz.isMethodComparable;have nE:=Tryz.noIsE;have uE:=Tryz.noUnwrapE;have vE:=Tryz.noUnwrapsE;have nW:=Tryz.noIsW;have uW:=Tryz.hasUnwrapW;have mU:=Tryz.methodUnwrap;have n:=run_eql_iface_ptr_other w underlying46 underlying432 k c l (by rw[f];decide) d g h;have o:=run_eql_iface_types 81 432 (Vp pb) (.pointer (some b)) underlying46 Dc w;go_enter func32,ntmps32;go_wp2;refine wp_loop_rounds 2 ?_;rw[rounds_succ];go_wp2;rw[rounds_succ];go_wp2;go_ret;exact⟨rfl,rfl⟩
theorem ZtR{t:Value}{w:World} :
  CP 33 #[.nilIface,t] w fun e u=>e=.returned (.bool false)/\u=w:=by
 go_enter func33,ntmps33;go_wp2;go_ret;exact⟨rfl,rfl⟩
def Zlu:Array Value->Sem Value:=fun args=>ReflectliteValue.unpack (args.getD 0 (.tuple #[]))
def Zo0 : Array Value → Sem Value := ReflectliteValue.methodAny (ReflectliteValue.valueError "reflectlite.Value.Type" 0) fun t _ _ _ => ReflectliteType.toType t
def Zls : Array Value → Sem Value := ReflectliteValue.method (ReflectliteValue.valueError "reflectlite.Value.IsNil" 0) ReflectliteValue.isNil
def Zlt:Array Value->Sem Value:=ReflectliteType.abiMethod fun t=>do pure (.int .u8 (<-Rtype.kind t))
def ZoY:Array Value->Sem Value:=ReflectliteType.method ReflectliteType.elem
def ZoZ : Array Value → Sem Value := ReflectliteType.relation "Implements" ReflectliteType.implements_
def Zlq : Array Value → Sem Value := ReflectliteType.relation "AssignableTo" ReflectliteType.assignableTo
def Zlr : Array Value → Sem Value := ReflectliteValue.method (ReflectliteValue.valueError "reflectlite.Value.Elem" 0) ReflectliteValue.elem
theorem Ztx (args : Array Value) (w : World) : (callFunc 59 args).run prog w = ((Zlu args).run prog w).andThen fun v u => .ok (.value v) u :=
  run_callFunc_extern func59 Kr Kr Kr Kr args w
theorem Ztw (args : Array Value) (w : World) : (callFunc 60 args).run prog w = ((Zo0 args).run prog w).andThen fun v u => .ok (.value v) u :=
  run_callFunc_extern func60 Kr Kr Kr Kr args w
theorem Ztu (args : Array Value) (w : World) : (callFunc 61 args).run prog w = ((Zls args).run prog w).andThen fun v u => .ok (.value v) u :=
  run_callFunc_extern func61 Kr Kr Kr Kr args w
theorem Ztv (args : Array Value) (w : World) : (callFunc 308 args).run prog w = ((Zlt args).run prog w).andThen fun v u => .ok (.value v) u :=
  run_callFunc_extern func308 Kr Kr Kr Kr args w
theorem Zts (args : Array Value) (w : World) : (callFunc 325 args).run prog w = ((ZoY args).run prog w).andThen fun v u => .ok (.value v) u :=
  run_callFunc_extern func325 Kr Kr Kr Kr args w
theorem Ztt (args : Array Value) (w : World) : (callFunc 326 args).run prog w = ((ZoZ args).run prog w).andThen fun v u => .ok (.value v) u :=
  run_callFunc_extern func326 Kr Kr Kr Kr args w
theorem Ztr (args : Array Value) (w : World) : (callFunc 323 args).run prog w = ((Zlq args).run prog w).andThen fun v u => .ok (.value v) u :=
  run_callFunc_extern func323 Kr Kr Kr Kr args w
theorem ZE2 (args : Array Value) (w : World) : (callFunc 110 args).run prog w = ((Zlr args).run prog w).andThen fun v u => .ok (.value v) u :=
  run_callFunc_extern func110 Kr Kr Kr Kr args w
theorem ZE3 (args : Array Value) (w : World) : (callFunc 111 args).run prog w = ((ReflectliteValue.set args).run prog w).andThen fun v u => .ok (.value v) u :=
  run_callFunc_extern func111 Kr Kr Kr Kr args w
theorem Zpe(t:Addr)(w:World):(Zlu #[.iface 83 (.pointer (some t))]).run prog w
  = .ok (.agg #[.pointer (some ⟨20,83,none⟩),Vp w.heap.size,.int .u64 150]) (w.alloc (.cells #[.pointer (some t)] 83)):=by kernel_rfl
theorem Zpd(a:Addr)(w:World):(Zo0 #[.agg #[.pointer (some ⟨20,83,none⟩),.pointer (some a),.int .u64 150]]).run prog w
  = .ok (.iface 209 (.agg #[.pointer (some ⟨20,83,none⟩)])) w:=by kernel_rfl
theorem ZqQ (h : Value) (w : World) : (Go.method 562 209 (.agg #[h]) "Kind").run Tryz.prog w = .ok (308, h) w := by kernel_rfl
theorem Zpc(w:World):(Zlt #[.pointer (some ⟨20,83,none⟩)]).run prog w=.ok (.int .u8 22) w:=by kernel_rfl
theorem Zpb(w:World):(Zlt #[.pointer (some ⟨20,81,none⟩)]).run prog w=.ok (.int .u8 22) w:=by kernel_rfl
theorem ZqO (h : Value) (w : World) : (Go.method 562 209 (.agg #[h]) "Elem").run Tryz.prog w = .ok (325, .agg #[h]) w := by kernel_rfl
theorem ZqP (h : Value) (w : World) : (Go.method 562 209 (.agg #[h]) "Implements").run Tryz.prog w = .ok (326, .agg #[h]) w := by kernel_rfl
theorem ZqN (h : Value) (w : World) : (Go.method 562 209 (.agg #[h]) "AssignableTo").run Tryz.prog w = .ok (323, .agg #[h]) w := by kernel_rfl
theorem Zo8(w:World):(ZoY #[.agg #[.pointer (some ⟨20,83,none⟩)]]).run prog w=.ok (.iface 209 (.agg #[.pointer (some ⟨20,81,none⟩)])) w:=by kernel_rfl
theorem Zo9(w:World):(ZoZ #[.agg #[.pointer (some ⟨20,81,none⟩)],.iface 209 (.agg #[.pointer (some ⟨20,46,none⟩)])]).run prog w=.ok (.bool true) w:=by kernel_rfl
theorem Zv0(v:Value)(w:World):(ReflectliteType.typeOf #[.iface 81 v]).run prog w=.ok (.iface 209 (.agg #[.pointer (some ⟨20,81,none⟩)])) w:=by kernel_rfl
theorem ZvW(w:World):(Zlq #[.agg #[.pointer (some ⟨20,81,none⟩)],.iface 209 (.agg #[.pointer (some ⟨20,81,none⟩)])]).run prog w=.ok (.bool true) w:=by kernel_rfl
theorem ZvX(w:World):(Zlq #[.agg #[.pointer (some ⟨20,432,none⟩)],.iface 209 (.agg #[.pointer (some ⟨20,81,none⟩)])]).run prog w=.ok (.bool false) w:=by kernel_rfl
theorem Zv1(e:Addr)(w:World):(Zlu #[.iface 81 (.pointer (some e))]).run prog w
  = .ok (.agg #[.pointer (some ⟨20,81,none⟩),Vp w.heap.size,.int .u64 150]) (w.alloc (.cells #[.pointer (some e)] 81)):=by kernel_rfl
theorem Zzm(v:Value)(xT:TypeId)(w:World):(Instr.typeAssert (.iface 432 v) xT 220 true).run prog w=.ok (.tuple #[.nilIface,.bool false]) w:=run_typeAssert_lacksB underlying220 Kr Kr v _ w
theorem Zrv(a:Addr)(w:World):(ReflectliteValue.parts (.agg #[.pointer (some ⟨20,83,none⟩),.pointer (some a),.int .u64 150])).run prog w=.ok (some (83,a,150)) w:=by kernel_rfl
theorem Zpa(a p:Addr)(W:World)(c:W.cell? a=some (.pointer (some p))) :
  (Zls #[.agg #[.pointer (some ⟨20,83,none⟩),.pointer (some a),.int .u64 150]]).run prog W=.ok (.bool false) W:=by
 refine(congrArg (fun q=>Sem.run _ q W) (show Zls _=(ReflectliteValue.parts (.agg _) >>= fun r=>_) from rfl)).trans ?_;simp only[Ye5,Zrv,Result.andThen];simp[ReflectliteValue.isNil,loadVar,isAgg,underlying,underlying83,c,Result.andThen]
theorem Zz6(w:World):(Rtype.elem? 83).run prog w=.ok (some 81) w:=by kernel_rfl
theorem Zz7(p:Addr)(w:World):(ReflectliteValue.mk 81 p ReflectliteValue.flagAddr).run prog w=.ok (.agg #[.pointer (some ⟨20,81,none⟩),.pointer (some p),.int .u64 406]) w:=by kernel_rfl
theorem ZvY(a p:Addr)(W:World)(c:W.cell? a=some (.pointer (some p))) :
  (Zlr #[.agg #[.pointer (some ⟨20,83,none⟩),.pointer (some a),.int .u64 150]]).run prog W
   = .ok (.agg #[.pointer (some ⟨20,81,none⟩),.pointer (some p),.int .u64 406]) W:=by
 refine(congrArg (fun q=>Sem.run _ q W) (show Zlr _=(ReflectliteValue.parts (.agg _) >>= fun r=>_) from rfl)).trans ?_;simp only[Ye5,Zrv,Result.andThen];simp[ReflectliteValue.elem,loadVar,isAgg,underlying,underlying83,c,Result.andThen,Zz6,Zz7]
theorem Zz9(a:Addr)(w:World):(ReflectliteValue.parts (.agg #[.pointer (some ⟨20,81,none⟩),.pointer (some a),.int .u64 406])).run prog w=.ok (some (81,a,406)) w:=by kernel_rfl
theorem Zz8(a:Addr)(w:World):(ReflectliteValue.parts (.agg #[.pointer (some ⟨20,81,none⟩),.pointer (some a),.int .u64 150])).run prog w=.ok (some (81,a,150)) w:=by kernel_rfl
theorem Zz5(w:World):(Rtype.directlyAssignable 81 81).run prog w=.ok true w:=by kernel_rfl
theorem ZvZ(ta b e:Addr)(old:Value)(W:World)(a:W.cell? b=some (.pointer (some e)))(c:W.cell? ta=some old)(d:W.frozen? ta=false) :
  (ReflectliteValue.set #[.agg #[.pointer (some ⟨20,81,none⟩),.pointer (some ta),.int .u64 406],.agg #[.pointer (some ⟨20,81,none⟩),.pointer (some b),.int .u64 150]]).run prog W
   = .ok (.tuple #[]) (W.setCell ta (.pointer (some e))):=by
 refine(congrArg (fun q=>Sem.run _ q W) (show ReflectliteValue.set _=(ReflectliteValue.parts (.agg _) >>= fun r=>ReflectliteValue.parts (.agg _) >>= fun s=>_) from rfl)).trans ?_;simp only[Ye5,Zz9,Zz8,Result.andThen];simp[ReflectliteValue.flagAddr,loadVar,isAgg,underlying,underlying81,a,Result.andThen,Zz5,storeVar,Value.cells,storeCells,Addr.add];rw[run_store _ W _ _ _ (by rfl)];simp[c,d]
theorem ZtP{e t:Addr}(old:Value){w:World}(f:w.cell? ⟨13,0,none⟩=some (.iface 209 (.agg #[.pointer (some ⟨20,46,none⟩)])))(c:w.cell? t=some old)(g:w.frozen? t=false) :
  CP 33 #[.iface 81 (.pointer (some e)),.iface 83 (.pointer (some t))] w fun ev u=>ev=.returned (.bool true)/\u=((((w.alloc (.cells #[.pointer (some t)] 83)).alloc (.cells #[.pointer (some ⟨20,83,none⟩),Vp w.heap.size,.int .u64 150] 134)).alloc (.cells #[.pointer (some ⟨20,83,none⟩),Vp w.heap.size,.int .u64 150] 134)).alloc (.cells #[.pointer (some e)] 81)).setCell t (.pointer (some e)):=by
 have p:=Ztx;have q:=Ztw;have r:=Ztu;have h:=Ztv;have i:=Zts;have j:=Ztt;have k:=Zhn;have l:=Ztr;have m:=ZE2;have n:=ZE3;have tO:=Zv0;have mA:=ZqN;have a25:=ZvW;have v25:=Zv1;have f6:=Zpe;have f7:=Zpd;have mK:=ZqQ;have mE:=ZqO;have mI:=ZqP;have k27:=Zpc;have k25:=Zpb;have e27:=Zo8;have i25:=Zo9;have n8:=Zpa ⟨w.heap.size,0,none⟩ t ((w.alloc (.cells #[.pointer (some t)] 83)).alloc (.cells #[.pointer (some ⟨20,83,none⟩),Vp w.heap.size,.int .u64 150] 134)) (by simp);have d:13<w.heap.size:=Yai _ _ f;have o:((w.alloc (.cells #[.pointer (some t)] 83)).alloc (.cells #[.pointer (some ⟨20,83,none⟩),Vp w.heap.size,.int .u64 150] 134)).cell? ⟨13,0,none⟩=some (.iface 209 (.agg #[.pointer (some ⟨20,46,none⟩)])):=by rwa [Ybm _ _ ⟨13,0,none⟩ (by simp;omega),Ybm _ _ ⟨13,0,none⟩ d]
 have a:=Yai _ _ c;have el:=ZvY ⟨w.heap.size,0,none⟩ t (((w.alloc (.cells #[.pointer (some t)] 83)).alloc (.cells #[.pointer (some ⟨20,83,none⟩),Vp w.heap.size,.int .u64 150] 134)).alloc (.cells #[.pointer (some ⟨20,83,none⟩),Vp w.heap.size,.int .u64 150] 134)) (by rw[Ybm _ _ ⟨w.heap.size,0,none⟩ (by simp;omega)];simp)
 have st:=ZvZ t ⟨w.heap.size+1+1+1,0,none⟩ e old ((((w.alloc (.cells #[.pointer (some t)] 83)).alloc (.cells #[.pointer (some ⟨20,83,none⟩),Vp w.heap.size,.int .u64 150] 134)).alloc (.cells #[.pointer (some ⟨20,83,none⟩),Vp w.heap.size,.int .u64 150] 134)).alloc (.cells #[.pointer (some e)] 81))
  (by rw[Ydm _ _ _ _ (by simp)];rfl)
  (by rwa [Ybm _ _ t (by simp;omega),Ybm _ _ t (by simp;omega),Ybm _ _ t (by simp;omega),Ybm _ _ t a])
  (by rwa [Ydc _ _ t (by simp;omega),Ydc _ _ t (by simp;omega),Ydc _ _ t (by simp;omega),Ydc _ _ t (Nat.ne_of_lt a)])
 go_enter func33,ntmps33;go_wp2;refine wp_loop_rounds 1 ?_;rw[rounds_succ];go_wp2;go_ret;exact⟨rfl,rfl⟩
theorem ZtQ{e t:Addr}{w:World}(c:w.cell? ⟨13,0,none⟩=some (.iface 209 (.agg #[.pointer (some ⟨20,46,none⟩)]))) :
  CP 33 #[.iface 432 (.pointer (some e)),.iface 83 (.pointer (some t))] w fun ev u=>ev=.returned (.bool false)/\BW w u:=by
 have k:=Ztx;have l:=Ztw;have m:=Ztu;have d:=Ztv;have f:=Zts;have g:=Ztt;have h:=Zhn;have i:=Ztr;have tO:=Tryz.isTypeOf;have mA:=ZqN;have a25:=ZvX;have f6:=Zpe;have f7:=Zpd;have mK:=ZqQ;have mE:=ZqO;have mI:=ZqP;have k27:=Zpc;have k25:=Zpb;have e27:=Zo8;have i25:=Zo9;have nA:=Zzm;have uE:=Tryz.noUnwrapE;have vE:=Tryz.noUnwrapsE;have n8:=Zpa ⟨w.heap.size,0,none⟩ t ((w.alloc (.cells #[.pointer (some t)] 83)).alloc (.cells #[.pointer (some ⟨20,83,none⟩),Vp w.heap.size,.int .u64 150] 134)) (by simp);have a:13<w.heap.size:=Yai _ _ c;have j:((w.alloc (.cells #[.pointer (some t)] 83)).alloc (.cells #[.pointer (some ⟨20,83,none⟩),Vp w.heap.size,.int .u64 150] 134)).cell? ⟨13,0,none⟩=some (.iface 209 (.agg #[.pointer (some ⟨20,46,none⟩)])):=by rwa [Ybm _ _ ⟨13,0,none⟩ (by simp;omega),Ybm _ _ ⟨13,0,none⟩ a]
 go_enter func33,ntmps33;go_wp2;refine wp_loop_rounds 1 ?_;rw[rounds_succ];go_wp2;go_ret;exact⟨rfl,belB⟩
open Go.RowKit LS Go.Proofs.Tryz
theorem Vars.all{w:World}{A:Nat->Addr}{m:Int}(h:Vars w A m):∀g,g<13->w.cell? ⟨g,0,none⟩=some (.iface 432 (.pointer (some (A g)))):=fun g a=>h.sent g (by unfold sents;simp;omega)
theorem Zgv {w : World} {A : Nat -> Addr} {m : Int} {fa g h : Nat} (a : Vars w A m) (i : w.cell? ⟨fa, 2, none⟩ = some (.iface 432 (.pointer (some (A g))))) (d : g ∈ sents := by decide) (f : h ∈ sents := by decide) (j : g ≠ h := by decide) :
    CP 32 #[.iface 81 (Vp fa),.iface 432 (.pointer (some (A h)))] w fun e u=>e=.returned (.bool false)/\u=w:=by
  obtain⟨c,t,r⟩:=a.row g d;obtain⟨c',t',r'⟩:=a.row h f;exact Zxn i (a.apart _ d _ f j) r r'
theorem Zg7 {w : World} {A : Nat -> Addr} {m : Int} {g h : Nat} (a : Vars w A m) (d : g ∈ sents := by decide) (f : h ∈ sents := by decide) (i : g ≠ h := by decide) :
    CP 32 #[.iface 432 (.pointer (some (A g))),.iface 432 (.pointer (some (A h)))] w fun e u=>e=.returned (.bool false)/\u=w:=by
  obtain⟨c,t,r⟩:=a.row g d;obtain⟨c',t',r'⟩:=a.row h f;exact Zxm (a.apart _ d _ f i) r r'
theorem Zik(A:Nat->Addr)(m:Int)(w:World)(a:Vars w A m) :
  CP 18 #[.nilIface] w fun e u=>e=.returned (Vi 0)/\u=w:=by
 have v:=a.all;go_enter func18,ntmps18
 iterate 13 (go_wp2_with fail;refine cret (Zxl) ?_)
 go_wp2;go_ret;exact⟨rfl,rfl⟩
theorem ZjQ(A:Nat->Addr)(m:Int)(w:World)(a:Vars w A m) :
  CP 18 #[.iface 432 (.pointer (some (A 0)))] w fun e u=>e=.returned (Vi 1)/\u=w:=by
 have v:=a.all;go_enter func18,ntmps18
 go_wp2_with fail
 refine cret (Zf7) ?_;go_wp2;go_ret;exact⟨rfl,rfl⟩
theorem Zmt(A:Nat->Addr)(m:Int){w:World}(a:Vars w A m)(fa:Nat)(c:w.cell? ⟨fa,2,none⟩=some (.iface 432 (.pointer (some (A 1))))) :
  CP 18 #[.iface 81 (Vp fa)] w fun e u=>e=.returned (Vi 2)/\u=w:=by
 have v:=a.all;go_enter func18,ntmps18
 iterate 1 (go_wp2_with fail;refine cret (Zgv a c) ?_)
 go_wp2_with fail
 refine cret (Zf8 c) ?_;go_wp2;go_ret;exact⟨rfl,rfl⟩
theorem Zms(A:Nat->Addr)(m:Int){w:World}(a:Vars w A m)(fa:Nat)(c:w.cell? ⟨fa,2,none⟩=some (.iface 432 (.pointer (some (A 2))))) :
  CP 18 #[.iface 81 (Vp fa)] w fun e u=>e=.returned (Vi 3)/\u=w:=by
 have v:=a.all;go_enter func18,ntmps18
 iterate 2 (go_wp2_with fail;refine cret (Zgv a c) ?_)
 go_wp2_with fail
 refine cret (Zf8 c) ?_;go_wp2;go_ret;exact⟨rfl,rfl⟩
theorem Zmu(A:Nat->Addr)(m:Int){w:World}(a:Vars w A m) :
  CP 18 #[.iface 432 (.pointer (some (A 3)))] w fun e u=>e=.returned (Vi 4)/\u=w:=by
 have v:=a.all;go_enter func18,ntmps18
 iterate 3 (go_wp2_with fail;refine cret (Zg7 a) ?_)
 go_wp2_with fail
 refine cret (Zf7) ?_;go_wp2;go_ret;exact⟨rfl,rfl⟩
theorem Ziq(w:World) :
  CP 19 #[.nilIface] w fun e u=>e=.returned (Vi 0)/\BW w u:=by
 go_enter func19,ntmps19
 go_wp2_with fail
 refine cret (ZtR) ?_;go_wp2;go_ret;exact⟨rfl,belB⟩
theorem Zdm(A:Nat->Addr)(m:Int){a:Addr}(w:World)(d:Vars w A m) :
  CP 19 #[.iface 432 (.pointer (some a))] w fun e u=>e=.returned (Vi 0)/\BW w u:=by
 have f:Below _ w (w.alloc (.cells #[.pointer none] 81)):=Zbal;go_enter func19,ntmps19
 go_wp2_with fail
 refine(ZtQ (d.alloc _).handle).mono ?_;rintro e u ⟨rfl,g⟩;have c:=f.trans (g.mono (by simp));go_wp2;go_ret;exact⟨rfl,c⟩
theorem ZdB(A:Nat->Addr)(m:Int)(fa:Nat)(i:Int)(w:World)(h:Vars w A m)(f:w.cell? ⟨fa,1,none⟩=some (Vi i)) :
  CP 19 #[.iface 81 (Vp fa)] w fun e a=>e=.returned (Vi i)/\BW w a:=by
 have g:fa<w.heap.size:=Yai _ _ f;go_enter func19,ntmps19
 go_wp2_with fail
 refine(ZtP (.pointer none) (h.alloc _).handle (by simp) (by simp)).mono ?_;rintro e a ⟨rfl,d⟩;have c:BW w a:=d▸belB
 have c1:a.cell? ⟨w.heap.size,0,none⟩=some (Vp fa):=by
  rw[d];refine World.cell?_setCell_same _ _ _ (u:=.pointer none) ?_;refine(Below.cell (B:=w.heap.size+1) (w:=w.alloc (.cells #[.pointer none] 81)) ?_ (Ybd _)).trans (by simp);exact belB
 have c2:=(c.cell g).trans f;clear d;go_wp2;go_ret;exact⟨rfl,c⟩
theorem Zrl(A:Nat->Addr)(m:Int)(w:World)(a:Vars w A m)(fa:Nat)(c:w.cell? ⟨fa,2,none⟩=some (.iface 432 (.pointer (some (A 4))))) :
  CP 18 #[.iface 81 (Vp fa)] w fun e u=>e=.returned (Vi 5)/\u=w:=by
 have v:=a.all;go_enter func18,ntmps18
 iterate 4 (go_wp2_with fail;refine cret (Zgv a c) ?_)
 go_wp2_with fail
 refine cret (Zf8 c) ?_;go_wp2;go_ret;exact⟨rfl,rfl⟩
theorem Zrn(A:Nat->Addr)(m:Int)(w:World)(a:Vars w A m)(fa:Nat)(c:w.cell? ⟨fa,2,none⟩=some (.iface 432 (.pointer (some (A 5))))) :
  CP 18 #[.iface 81 (Vp fa)] w fun e u=>e=.returned (Vi 6)/\u=w:=by
 have v:=a.all;go_enter func18,ntmps18
 iterate 5 (go_wp2_with fail;refine cret (Zgv a c) ?_)
 go_wp2_with fail
 refine cret (Zf8 c) ?_;go_wp2;go_ret;exact⟨rfl,rfl⟩
theorem Zrk(A:Nat->Addr)(m:Int)(w:World)(a:Vars w A m) :
  CP 18 #[.iface 432 (.pointer (some (A 6)))] w fun e u=>e=.returned (Vi 7)/\u=w:=by
 have v:=a.all;go_enter func18,ntmps18
 iterate 6 (go_wp2_with fail;refine cret (Zg7 a) ?_)
 go_wp2_with fail
 refine cret (Zf7) ?_;go_wp2;go_ret;exact⟨rfl,rfl⟩
theorem Zrm(A:Nat->Addr)(m:Int)(w:World)(a:Vars w A m) :
  CP 18 #[.iface 432 (.pointer (some (A 7)))] w fun e u=>e=.returned (Vi 8)/\u=w:=by
 have v:=a.all;go_enter func18,ntmps18
 iterate 7 (go_wp2_with fail;refine cret (Zg7 a) ?_)
 go_wp2_with fail
 refine cret (Zf7) ?_;go_wp2;go_ret;exact⟨rfl,rfl⟩
end Go.Proofs.YtcdgkkfipdoeeaaGreatDoor
namespace Go.Proofs.YtcdgkkfipdoeeaaGreatDoor.LS
open Go Go.RowKit
end Go.Proofs.YtcdgkkfipdoeeaaGreatDoor.LS
