/- Parts. -/
import Derived.Test.YtcdgkkfipdoeeaaGreatDoorU21
import Derived.Test.YtcdgkkfipdoeeaaGreatDoorU07
set_option linter.all false
set_option maxRecDepth 100000
set_option maxHeartbeats 16000000
namespace Go.Proofs.YtcdgkkfipdoeeaaGreatDoor
open Go.RowKit LS Go.Proofs.Tryz
variable {nm:BA}{t:Int}{qs:List (BA×BA×Bool)}{l:List (Int×Int)}{cs ns:List (LB×LB×Bool)}{bs xs:List Value}{B b b1 b2 base cp lc ln n off size:Nat}{a nd:Nd}{av la:Option Addr}{p sv v:Value}{w w':World}
def ZkA(w:World)(g off:Nat)(l:List (Int×Int)):Prop:=∃c fr,w.heap[g]?=some (.cells c 358 fr)/\∀j (h:j<l.length),c[off+j*2]?=some (Vi l[j].1)/\c[off+j*2+1]?=some (Vi l[j].2)
theorem ZkA.cells{g:Nat}(h:ZkA w g off l)(j:Nat)(a:j<l.length):w.cell? ⟨g,off+j*2,none⟩=some (Vi l[j].1)/\w.cell? ⟨g,off+j*2+1,none⟩=some (Vi l[j].2):=by
 obtain⟨c,fr,d,e⟩:=h;obtain⟨f,i⟩:=e j a;constructor <;> simp[World.cell?,d,f,i]
def SamV(w:World)(av:Option Addr)(l:List (Int×Int)):Prop:=l=[]∨∃g off,av=some ⟨g,off,none⟩/\ZkA w g off l
theorem SamV.kb{t:TypeId}(h:SamV w av l)(a:Z5 t w w')(d:358≠t):SamV w' av l:=by
 rcases h with h|⟨g,off,e,c,fr,f,i⟩
 ·exact .inl h
 ·exact .inr ⟨g,off,e,c,fr,a _ _ _ _ d f,i⟩
theorem SamV.jv(h:SamV w av l)(a:Zo w w'):SamV w' av l:=by
 rcases h with h|⟨g,off,d,c,fr,e,f⟩
 ·exact .inl h
 ·exact .inr ⟨g,off,d,c,fr,a _ _ _ _ e,f⟩
theorem SamV.below(h:SamV w av l)(a:BW w w'):SamV w' av l:=h.jv (Zo.below a)
theorem ZDH(g:Nat)(n:Nat){i:Nat}(t:Int){x:Int}(c:i<n)(d:w.cell? ⟨b1,0,none⟩=some (.slice (some ⟨g,off,none⟩) n cp))(f:w.cell? ⟨b2,0,none⟩=some (Vi t))(h:w.cell? ⟨g,off+i*2,none⟩=some (Vi x)) :
  CP 270 #[Vi i,Vp b1,Vp b2] w fun e u=>e=.returned (.bool (decide (t<x)))/\BW w u:=by
 have a:(i:Int)<(n):=by omega
 go_enter func270,ntmps270;go_wp2
 go_region
 all_goals go_wp2
 all_goals go_ret
 all_goals exact⟨by first|rfl|simp,belB⟩
theorem ZuJ{k:Nat}(d:k<=l.length)(f:∀j (h:j<l.length),j<k->l[j].1<=t)(g:∀j (h:j<l.length),k<=j->t<l[j].1):Zbb l t=k:=by
 have e:=(Ycn k l).symm;unfold Zbb;rw[e,List.countP_append]
 have a1 : (l.take k).countP (fun x => decide (x.1 <= t)) = k := by
   rw[List.countP_eq_length.2 (fun x a=>?_),Ya7,Yc3 d];obtain⟨j,c,rfl⟩:=List.mem_iff_getElem.1 a;rw[Ya7]at c;rw[List.getElem_take];simpa using f j _ Om
 have a2 : (l.drop k).countP (fun x => decide (x.1 <= t)) = 0 := by
   rw[List.countP_eq_zero];intro x a;obtain⟨j,c,rfl⟩:=List.mem_iff_getElem.1 a;rw[Ybv]at c;rw[List.getElem_drop];have:=g (k+j) Om Om;simp;omega
 rw[a1,a2];rfl
theorem TmS.get(h:TmS l){i j:Nat}(c:i<=j)(d:j<l.length):l[i].1<=l[j].1:=by
 rcases Yav i j with a|a
 ·exact Int.le_of_lt (List.pairwise_iff_getElem.1 h i j _ _ a)
 ·obtain rfl:i=j:=by omega
  exact Yd0 _
theorem ZBW(cp:Nat)(l:List (Int×Int))(t:Int)(z:TmS l)(p:l.length<=6001)(A:w.cell? ⟨b1,0,none⟩=some (.slice av l.length cp))(B:w.cell? ⟨b2,0,none⟩=some (Vi t))(C:SamV w av l) :
  CP 269 #[Vi l.length,.func (.func 270) #[] #[Vp b1,Vp b2]] w fun e u=>e=.returned (Vi (Zbb l t:Nat))/\BW w u:=by
 have D:=hid z;have J:=hid C;have K:=hid A;have L:=hid B;obtain⟨r,q⟩:∃r,r=Zbb l t:=⟨_,rfl⟩
 rw[<-q];have M:=hid q;obtain⟨n,s⟩:∃n,n=l.length:=⟨_,rfl⟩
 rw[<-s]at p ⊢;have o:=hid s;clear z C A B q s;go_enter func269,ntmps269;go_wp2
 go_loopg [5,6] n (fun kx s5 s6 wr=>∃lo a:Nat,s5=Vi lo/\s6=Vi a/\lo<=a/\a<=n/\a - lo<=kx/\Hid (BW w wr)/\Hid ((∀j (h:j<l.length),j<lo->l[j].1<=t)/\(∀j (h:j<l.length),a<=j->t<l[j].1)))
 case atStart=>exact⟨0,n,rfl,rfl,Yag _,Yac _,by omega,hid (Yaf _ _),hid ⟨fun j _ h=>absurd h (Ya1 _),fun j h d=>by have:=o.out;omega⟩⟩
 case round=>
  obtain⟨lo,a,rfl,rfl,O,E,Q,c,I⟩:=hrel;by_cases P:lo<a
  ·have f:(lo+a) / 2<l.length:=by have:=o.out;omega
   have F:l≠[]:=by intro e;rw[e]at f;simp at f
   obtain⟨g,off,rfl,G⟩:=J.resolve_left F;have k1:=(Zo.below c).cell K;have k2:=(Zo.below c).cell L;have k3:=(Zo.below c).cell (G.cells _ f).1;rw[<-o]at k1;have k:=ZDH g n t Om k1 k2 k3;have N:Hid (∀i (h:i<l.length),i<=(lo+a) / 2->l[i].1<=l[(lo+a) / 2].1):=hid (fun i h d=>D.get d _);have H:Hid (∀i (h:i<l.length),(lo+a) / 2<=i->l[(lo+a) / 2].1<=l[i].1):=hid (fun i h d=>D.get d h);rw[show(((lo+a) / 2:Nat))=((lo:Int)+(a)) / 2 by omega]at k;clear k1 k2 k3 G;generalize(l[(lo+a) / 2]).1=x at *
   by_cases v:t<x
   ·rw[decide_eq_true v]at k
    go_wp2_with (go_at_call 270;refine k.mono ?_;rintro e u ⟨rfl,m⟩)
    go_roundg ((lo+a) / 2 - lo)
    case measure=>omega
    case rel=>
     exact⟨lo,(lo+a) / 2,rfl,by rw[show((lo)+(a)) / 2=(((lo+a) / 2:Nat):Int) by omega],by omega,by omega,Yac _,hid (c.trans (m.mono c.size)),hid ⟨I.1,fun j h d=>Int.lt_of_lt_of_le v (H j h d)⟩⟩
   ·rw[decide_eq_false v]at k
    go_wp2_with (go_at_call 270;refine k.mono ?_;rintro e u ⟨rfl,m⟩)
    go_roundg (a - ((lo+a) / 2+1))
    case measure=>omega
    case rel=>
     exact⟨(lo+a) / 2+1,a,by rw[show((lo)+(a)) / 2+1=(((lo+a) / 2+1:Nat):Int) by omega],rfl,by omega,E,Yac _,hid (c.trans (m.mono c.size)),hid ⟨fun j h d=>Int.le_trans (N j h Om) Om,I.2⟩⟩
  ·obtain rfl:a=lo:=by omega
   have e:r=a:=M.out▸ZuJ (by have:=o.out;omega) I.1 I.2;subst e;have m:=c.out;go_wp2;go_ret;exact⟨rfl,m⟩
theorem ZsX(cp:Nat)(l:List (Int×Int))(t:Int)(w:World)(c:TmS l)(a:l.length<=6001)(d:SamV w av l) :
  CP 239 #[.slice av l.length cp,Vi t] w fun e u=>e=.returned (Vi (Zbb l t:Nat))/\BW w u:=by
 have g:Hid (∀W,Below _ w W->SamV W _ l):=hid (fun W h=>d.below h);have i:=hid c;clear d c;go_enter func239,ntmps239
 go_wp2_with fail
 refine(ZBW cp l t i a ?_ ?_ (g _ belB)).mono ?_
 ·simp
 ·simp
 rintro e u ⟨rfl,j⟩;have f:BW w _:=Below.trans belB (j.mono (by simp;omega));go_wp2;go_ret;exact⟨rfl,f⟩
theorem ZEM(h:TmS l){n:Int}(c:0<=n):(Zb6 l n t).length=Zbb l t - Zbb l (t - n)/\∀j (a:j<(Zb6 l n t).length),∃f:Zbb l (t - n)+j<l.length,(Zb6 l n t)[j]=l[Zbb l (t - n)+j]:=by
 have e:=ZEN h (t:=t) c
 have d:(Zb6 l n t).length=Zbb l t - Zbb l (t - n):=by
  rw[<-e,Ybv,Ya7,Yc3 (Zk8 l t)]
 refine⟨d,fun j a=>?_⟩;have:=Zk8 l t;refine⟨by omega,?_⟩
 have e2:(Zb6 l n t)[j]?=l[Zbb l (t - n)+j]?:=by
  rw[<-e,List.getElem?_drop,Ye7 Om]
 rw[List.getElem?_eq_getElem a,List.getElem?_eq_getElem Om]at e2;exact Yax e2
theorem ZA1(n t:Int)(x:TmS l)(p:l.length<=6001)(E:l.length<=cp)(F:0<=n)(U:n<=1000)(V : -1000000<=t)(X:t<=1000000)(G:SamV w av l) :
  CP 210 #[.slice av l.length cp,Vi n,Vi t] w fun e u=>∃av' cp',e=.returned (.slice av' (Zb6 l n t).length cp')/\Hid (SamV u av' (Zb6 l n t))/\BW w u:=by
 have A:=ZEM x (t:=t) F;have O:Zbb l (t - n)<=Zbb l t:=ZuK l Om;have H:=Zk8 l t;have I:=hid A;have J:=hid x;have r:=hid G;have B:=hid p;have s:=A.1;clear A x G;have U1:=hid (fun W C=>ZsX cp l (t - n) W J B (r.below C));have U2:=hid (fun W C=>ZsX cp l t W J B (r.below C));obtain⟨lo,k⟩:∃lo,Zbb l (t - n)=lo:=⟨_,rfl⟩
 obtain⟨D,d⟩:∃D,Zbb l t=D:=⟨_,rfl⟩
 obtain⟨ln,f⟩:∃ln,l.length=ln:=⟨_,rfl⟩
 obtain⟨K,m⟩:∃K,(Zb6 l n t).length=K:=⟨_,rfl⟩
 rw[k,d]at I;rw[k,d,m]at s;rw[m];rw[f,k]at U1;rw[f,d]at U2;rw[k,d]at O;rw[d,f]at H;rw[f]at p E ⊢;have L:=hid f;have v:=hid m;clear k d f m B;subst s
 have M:av=none->D=0/\lo=0:=by
  intro e;rcases r.out with h|⟨g,off,o,_⟩
  ·have:=L.out;rw[h]at this;simp at this;omega
  ·rw[e]at o;cases o
 cases av with
 | none=>
  obtain⟨rfl,rfl⟩:=M rfl;have P:=hid (Ya3 (by have:=v.out;omega));go_enter func210,ntmps210
  go_wp2_with fail
  refine(U1 _ (Yaf _ _)).mono ?_;rintro e Q ⟨rfl,a⟩
  go_wp2_with fail
  refine(U2 _ a).mono ?_;rintro e z ⟨rfl,q⟩;have i:=a.trans (q.mono a.size);go_wp2;go_ret;exact⟨_,_,rfl,hid (.inl P),i⟩
 | some a0=>
  go_enter func210,ntmps210
  go_wp2_with fail
  refine(U1 _ (Yaf _ _)).mono ?_;rintro e Q ⟨rfl,a⟩
  go_wp2_with fail
  refine(U2 _ a).mono ?_;rintro e z ⟨rfl,q⟩;have i:=a.trans (q.mono a.size);go_wp2;go_ret
  ·exact⟨_,⟨_,rfl⟩,hid (.inl (Ya3 (by have:=v.out;omega))),i⟩
  ·go_ret;rcases r.out with h|⟨g,off,o,c,fr,R,S⟩
   ·exact⟨_,⟨_,rfl⟩,hid (.inl (by rw[h];rfl)),i⟩
   ·injection o with o;subst o;refine⟨_,⟨_,rfl⟩,hid (.inr ⟨g,off+lo*2,?_,c,fr,Zo.below i _ _ _ _ R,fun j T=>?_⟩),i⟩
    ·simp[Addr.add]
    ·obtain⟨N,e⟩:=I.2 j T;have:=S _ N;rw[e,show off+lo*2+j*2=off+(lo+j)*2 by omega];exact this
theorem Ztd:∀(l:List Lab) (n:LB) (k:Nat) (d:k<l.length),(∀p∈l.take k,p.1≠n)->l[k].1=n->ZeI l n=l[k].2
 | p::l,n,0,_,_,a=>by rw[ZeI];exact if_pos a
 | p :: l, n, k + 1, d, c, a => by
   rw[ZeI,if_neg (c p (by simp))];exact Ztd l n k _ (fun q e=>c q (List.take_succ_cons▸Yam _ e)) a
theorem Zte:∀(l:List Lab) (n:LB),(∀p∈l,p.1≠n)->ZeI l n=[]
 | [],_,_=>rfl
 | p::l,n,h=>by rw[ZeI,if_neg (h p (Yay ..))];exact Zte l n (fun q a=>h q (Yam _ a))
theorem Zyl(tx nm:BA)(qs:List (BA×BA))(h:ZcB w 0 (.slice av n cp) n qs) :
  CP 238 #[.agg #[.slice av n cp,.string tx],.string nm] w fun e u=>∃r:BA,e=.returned (.string r)/\Hid (bl r=ZeI (qs.map blP) (bl nm))/\BW w u:=by
 have m:qs.length=n:=by have:=h.1.1;rw[Zi9]at this;omega
 subst m;have t:=hid h;have C:=h.2.1;clear h;go_enter func238,ntmps238;go_wp2
 go_loopw [10] (fun i wr=>∃k:Nat,k<=qs.length/\i=Vi k/\Hid (∀q∈qs.take k,bl q.1≠bl nm)/\Hid (BW w wr)) (fun i _=>qs.length - (intOf i).toNat)
 case atStart=>exact⟨0,Yag _,rfl,hid (by intro q d;simp at d),hid Zbal⟩
 case round=>
  obtain⟨k,D,rfl,o,j⟩:=hrel;by_cases f:k<qs.length
  ·obtain⟨g,cpx,A⟩:=ZF t.1 Om;injection A with hg1 _ hg2;subst hg1 hg2;have a:=Zn t.1 j;have c1:wr.cell? _=some (.string _):=Zi a _ _ (by rw[(Zi8 _ k).1,List.getElem?_eq_getElem f];rfl);have c2:wr.cell? _=some (.string _):=Zi a _ _ (by rw[(Zi8 _ k).2,List.getElem?_eq_getElem f];rfl);have v:=j.size;clear a;by_cases d:bl (qs[k]).1=bl nm
   ·have s:Hid (ZeI (qs.map blP) (bl nm)=bl (qs[k]).2):=by
     rw [Ztd _ _ k (by rwa [Yak]) (fun p l => by
       rw[<-Yer]at l;obtain⟨q,c,rfl⟩:=Ybe.1 l;exact o q c) (by rwa [List.getElem_map]),List.getElem_map]
     rfl
    have B:((qs[k]).1.toList == nm.toList)=true:=by rw[Zbt,Zbt,d];simp
    generalize(qs[k]).1=x at *
    generalize(qs[k]).2=y at *
    go_wp2;go_ret;exact⟨_,rfl,hid s.symm,belB⟩
   ·have B:((qs[k]).1.toList == nm.toList)=false:=by rw[Zbt,Zbt];simp[d]
    have z:Hid (∀q∈qs.take (k+1),bl q.1≠bl nm):=by
     intro q c;rw[List.take_succ_eq_append_getElem f]at c;rcases Yar.mp c with h|h
     ·exact o q h
     ·rw[Yap]at h;subst h;exact d
    generalize(qs[k]).1=x at *
    generalize(qs[k]).2=y at *
    go_wp2
    go_roundw
    case rel=>exact⟨k+1,by omega,by go_num,z,hid (j.alloc v _)⟩
    case measure=>simp[intOf];omega
  ·obtain rfl:k=qs.length:=by omega
   have s : Hid (ZeI (qs.map blP) _ = []) := hid (Zte _ _ (fun p l => by
     obtain⟨q,d,rfl⟩:=Ybe.1 l;exact o q (by rwa [Ya4])))
   go_wp2;go_ret;exact⟨_,rfl,hid s.symm,j⟩
structure Srs where
 nm:BA
 a:Option Addr
 n:Nat
 c:Nat
 tx:BA
 qs:List (BA×BA)
 sa:Option Addr
 sc:Nat
 jn:List (Int×Int)
def Srs.enc(s:Srs):List Value:=[.string s.nm,.slice s.a s.n s.c,.string s.tx,.slice s.sa s.jn.length s.sc]
def Srs.ser(s:Srs):Ser:=⟨bl s.nm,s.qs.map blP,s.jn⟩
structure SrsOk (w:World) (s:Srs):Prop where
 lb:LbOk w s.a s.n s.c s.tx s.qs
 sam:SamV w s.sa s.jn
 tm:TmS s.jn
 len:s.jn.length<=6001
 cap:s.jn.length<=s.sc
 ok:∀x∈s.jn,smOk x
theorem SrsOk.jv{s:Srs}(h:SrsOk w s)(a:Zo w w'):SrsOk w' s:=⟨h.lb.jv a,h.sam.jv a,h.tm,h.len,h.cap,h.ok⟩
theorem ZX.jv(h:ZX w v ns)(a:Zo w w'):ZX w' v ns:=by
 obtain⟨bs,c,d⟩:=h;exact⟨bs,a.own c,d⟩
theorem Zbm.jv{ns:List (LB)}(h:Zbm w v ns)(a:Zo w w'):Zbm w' v ns:=by
 obtain⟨bs,c,d⟩:=h;exact⟨bs,a.own c,d⟩
theorem Zwb(l:List (BA×BA×Bool))(j:Nat)(c:j<l.length):(Zb1 l)[j*3]?=some (.string l[j].1)/\(Zb1 l)[j*3+1]?=some (.bool l[j].2.2)/\(Zb1 l)[j*3+2]?=some (.string l[j].2.1):=by
 induction l generalizing j with
 | nil=>simp at c
 | cons a l ih=>
  cases j with
  | zero=>exact⟨rfl,rfl,rfl⟩
  | succ j=>
   have h:=ih j (by simpa using c);rw[show(j+1)*3=j*3+1+1+1 by omega];simpa [Zb1] using h
theorem ZAP(s:Ser)(h:qs.map Z7=a.ku)(k:Nat)(c:k<qs.length)(d:ZfW s (Z7 qs[k])=false):Zc1 a s=false:=by
 unfold Zc1;rw[<-h,show(qs.map _).all _=false from ?_];rfl;rw[List.all_eq_false];exact⟨Z7 _,Ybe.mpr ⟨_,List.getElem_mem c,rfl⟩,by simp[d]⟩
theorem ZAQ(s:Ser)(h:qs.map Z7=a.ku)(d:∀q∈qs,ZfW s (Z7 q)=true):Zc1 a s=decide (a.name=s.name):=by
 unfold Zc1;rw[<-h,show(qs.map _).all _=true from ?_];rfl;rw[Ybu];intro c e;obtain⟨q,f,rfl⟩:=Ybe.mp e;exact d q f
theorem ZzY{e:TypeId}(h:w.ownsRow base e size v n xs):n<=9223372036854775807:=by
 rcases h.2 with ⟨_,c⟩|⟨g,cap,cur,d,f,i,j,a,r⟩
 ·omega
 ·unfold maxLen at a;omega
theorem ZkY(a b:BA):(a.toList == b.toList)=decide (bl a=bl b):=by
 rw[Zbt,Zbt,Ybh,beq_iff_eq,decide_eq_true_iff]
theorem ZAR(s:Srs)(E:bl nm=nd.name)(hc:ZX w (.slice la ln lc) nd.ku)(P:LbOk w s.a s.n s.c s.tx s.qs) :
  CP 209 #[.agg #[.string nm,.slice la ln lc],.agg #[.string s.nm,.slice s.a s.n s.c,.string s.tx,.slice s.sa s.jn.length s.sc]] w fun e u=>e=.returned (.bool (Zc1 nd s.ser))/\BW w u:=by
 obtain⟨cs,f,F⟩:=hc;have a0:=ZzY f;obtain⟨av,cp,hv⟩:=Zl f;injection hv with hv1 hv2 hv3;subst hv2;have Q:=hid f;have m:Hid (bl _=nd.name/\cs.map _=nd.ku):=⟨E,F⟩
 obtain⟨snm,a,n,c,tx,qs,sa,sc,jn⟩:=s;have HL:Hid (ZcB w 0 (.slice a n c) n qs):=P.row;clear f hv1 hv3 F E P;obtain⟨S,o⟩:∃S,S=Srs.ser ⟨snm,a,n,c,tx,qs,sa,sc,jn⟩:=⟨_,rfl⟩
 have G:Hid (S.name=bl snm/\S.labs=qs.map blP):=o▸⟨rfl,rfl⟩;rw[<-o];clear o;simp only
 have R:Hid ((snm.toList == nm.toList)=decide (nd.name=S.name)):=by
  rw[ZkY,m.1,G.1,decide_eq_decide];exact⟨fun h=>h.symm,fun h=>h.symm⟩
 by_cases d:nd.name≠S.name
 ·have L:=R.out;rw[decide_eq_false d]at L;have i:Hid (Zc1 _ S=false):=hid (by unfold Zc1;rw[decide_eq_false d,Ydi]);go_enter func209,ntmps209;go_wp2;go_ret;exact⟨by rw[i];rfl,belB⟩
 replace d:=Classical.not_not.1 d;have L:=R.out;rw[decide_eq_true d]at L;have T:=hid d;clear d;go_enter func209,ntmps209;go_wp2
 go_loopg [16] cs.length (fun gk v16 wr=>∃k:Nat,k<=cs.length/\gk=cs.length - k/\v16=Vi k/\Hid (∀q∈cs.take k,ZfW S (Z7 q)=true)/\Hid (BW w wr)/\Hid (BAt wr (w.heap.size+1) [.string snm,.slice a n c,.string tx,.slice sa jn.length sc] 271))
 case atStart=>exact⟨0,Yag _,rfl,rfl,hid (by intro q hq;simp at hq),hid (Zbal.alloc (by simp) _),hid (by have:=Go.Deep.blk_alloc_new (w.alloc (.cells #[.string nm,.slice la cs.length lc] 148)) (.cells #[.string snm,.slice a n c,.string tx,.slice sa jn.length sc] 271);rw[Go.Deep.nblk_alloc]at this;exact this)⟩
 case round=>
  obtain⟨k,hk,a1,rfl,U,p,M⟩:=hrel;by_cases t:k<cs.length
  ·have hg:∃g,la=some ⟨g,0,none⟩:=by
    obtain⟨g,cp',h⟩:=ZF Q.out Om;injection h with h1;exact⟨g,h1⟩
   obtain⟨g,rfl⟩:=hg;have j:=hid (Zn Q p);obtain⟨f1,f2,f3⟩:=Zwb _ k t;have d1:=Zi j _ _ f1;have d2:=Zi j _ _ f2;have d3:=Zi j _ _ f3;have HK:=hid (fun h=>ZAP S m.2 k t h)
   have HN:Hid (ZfW S (Z7 cs[k])=true->∀q∈cs.take (k+1),ZfW S (Z7 q)=true):=by
     intro hh q H;rw[List.take_succ_eq_append_getElem t]at H;rcases Yar.mp H with h|h
     ·exact U q h
     ·rw[Yap]at h;subst h;exact hh
   generalize cs[k]=q at *
   obtain⟨x,y,v⟩:=q;simp only at d1 d2 d3;clear f1 f2 f3;have a2:(k:Int)<(cs.length):=by omega
   go_upto_region 6 with fail
   refine ZP fun W N=>?_;have z:Below _ _ W:=N▸Zbal;have A:Hid (BAt W _ _ 224):=N▸bnw;have B:=hid (p.trans (z.mono p.size));have C:=hid (M.below z);have a3:=M.lt;have a4:=A.lt;have V:=hid (HL.below B);clear N z p M d1 d2 d3 j;have b1:=C.cell 1;have b2:=C.cell 2;have c0:=A.cell 0;have c1:=A.cell 1;have c2:=A.cell 2;simp only[Zget]at b1 b2 c0 c1 c2
   go_region_held3 (fun u => u.cell? ⟨w.heap.size + 1, 1, none⟩ = some (.slice a n c) /\ u.cell? ⟨w.heap.size + 1, 2, none⟩ = some (.string tx) /\ u.cell? ⟨wr.heap.size, 0, none⟩ = some (.string x) /\ u.cell? ⟨wr.heap.size, 2, none⟩ = some (.string y)) (first | exact ⟨b51, b52, c50, c52⟩ | exact ⟨b1, b2, c0, c2⟩ | go_keep) (first
     | (go_at_call 238
        refine(Zyl tx x qs (by exact V.below ⟨rfl,rfl,rfl,Yac _,fun _ _=>rfl⟩)).mono ?_;rintro e w5 ⟨r,rfl,X,I⟩;have D:Hid (BW W w5):=hid (ZkW I);have Y:=hid (A.below D.out);have J:=hid (C.below D.out);have c50:=Y.cell;have b51:=J.cell;clear I))
   have Z:Hid (ZfW S (Z7 (x,y,v))=!((r.toList == y.toList) == v)):=by
    rw[ZkY,X,<-G.2];rfl
   have K:=hid (B.trans (D.mono B.size));generalize(r.toList == y.toList)=b at *
   by_cases l:b=v
   ·have i:=hid (HK (by rw[Z,l];simp));have O:(b == v)=true:=by rw[l];simp
    go_wp2;go_ret;exact⟨by rw[i];rfl,K⟩
   ·have i:=hid (HN (by rw[Z];simp[l]));have O:(b == v)=false:=by simp[l]
    go_wp2
    go_roundg (cs.length - (k+1))
    case measure=>omega
    case rel=>exact⟨k+1,by omega,rfl,by go_num,i,K,J⟩
  ·obtain rfl:k=cs.length:=by omega
   have i:=hid (ZAQ S m.2 (by have:=U.out;rwa [Ya4]at this));go_wp2;go_ret;exact⟨by rw[i,decide_eq_true T.out];rfl,p⟩
structure Str where
 a:Option Addr
 n:Nat
 c:Nat
 tx:BA
 qs:List (BA×BA)
 sa:Option Addr
 sc:Nat
 jn:List (Int×Int)
def Str.enc(s:Str):List Value:=[.slice s.a s.n s.c,.string s.tx,.slice s.sa s.jn.length s.sc]
def Str.pr(s:Str):List Lab×List (Int×Int):=(s.qs.map blP,s.jn)
structure StrOk (w:World) (s:Str):Prop where
 lb:LbOk w s.a s.n s.c s.tx s.qs
 sam:SamV w s.sa s.jn
 ne:s.jn≠[]
 len:s.jn.length<=6001
 ok:∀x∈s.jn,smOk x
theorem StrOk.kb{t:TypeId}{s:Str}(h:StrOk w s)(a:Z5 t w w')(c:378≠t)(d:358≠t):StrOk w' s:=⟨h.lb.kb a c,h.sam.kb a d,h.ne,h.len,h.ok⟩
theorem StrOk.jv{s:Str}(h:StrOk w s)(a:Zo w w'):StrOk w' s:=⟨h.lb.jv a,h.sam.jv a,h.ne,h.len,h.ok⟩
def encR(l:List Str):List Value:=(l.map Str.enc).flatten
theorem ZvN(l m:List Str):encR (l++m)=encR l++encR m:=by unfold encR;rw[Yaq,List.flatten_append]
theorem ZoV(l:List Str)(j:Nat)(d:j<l.length):(encR l)[j*3]?=some (.slice l[j].a l[j].n l[j].c)/\(encR l)[j*3+1]?=some (.string l[j].tx)/\(encR l)[j*3+2]?=some (.slice l[j].sa l[j].jn.length l[j].sc):=by
 induction l generalizing j with
 | nil=>simp at d
 | cons a l ih=>
  have e:encR (a::l)=.slice _ _ _::.string _::.slice _ _ _::encR l:=rfl;cases j with
  | zero=>rw[e];exact⟨rfl,rfl,rfl⟩
  | succ j=>
   have h:=ih j (by simpa using d);rw[e,show(j+1)*3=j*3+1+1+1 by omega];simpa using h
structure RngV (w:World) (v:Value) (rs:List Str):Prop where
 row:w.ownsRow 0 356 3 v rs.length (encR rs)
 ok:∀s∈rs,StrOk w s
theorem RngV.jv{rs:List Str}(h:RngV w v rs)(a:Zo w w'):RngV w' v rs:=⟨a.own h.row,fun s c=>(h.ok s c).jv a⟩
theorem RngV.below{rs:List Str}(h:RngV w v rs)(a:BW w w'):RngV w' v rs:=h.jv (Zo.below a)
def ZbH(st:List Ser)(a:Nd)(n t:Int):List (List Lab×List (Int×Int)):=(st.filter fun s=>Zc1 a s && !(Zb6 s.jn n t).isEmpty).map fun s=>(s.labs,Zb6 s.jn n t)
theorem ZA3{st:List Ser}{s:Ser}{n:Int}:ZbH (st++[s]) a n t=if Zc1 a s && !(Zb6 s.jn n t).isEmpty then ZbH st a n t++[(s.labs,Zb6 s.jn n t)] else ZbH st a n t:=by
 unfold ZbH;rw[List.filter_append,Yaq];split
 ·rename_i h;rw[Yda (by simpa using h)];rfl
 ·rename_i h;rw[Ydb (by simpa using h)];simp
theorem ZmZ(st:List Ser)(a:Nd)(n t:Int):(ZbH st a n t).length<=st.length:=by
 unfold ZbH;rw[Yak];exact Ydj _ _
theorem ZAI (st : List Ser) (a : Nd) (op : Option Nat) (n t : Int) : ZeZ st a op n t = (ZbH st a n t).map fun p => (p.1, oneV op p.2) := by
  unfold ZeZ ZbH;rw[Yb1];rfl
def encS(l:List Srs):List Value:=(l.map Srs.enc).flatten
theorem ZvO(l:List Srs)(j:Nat)(d:j<l.length):(encS l)[j*4]?=some (.string l[j].nm)/\(encS l)[j*4+1]?=some (.slice l[j].a l[j].n l[j].c)/\(encS l)[j*4+2]?=some (.string l[j].tx)/\(encS l)[j*4+3]?=some (.slice l[j].sa l[j].jn.length l[j].sc):=by
 induction l generalizing j with
 | nil=>simp at d
 | cons a l ih=>
  have e:encS (a::l)=.string _::.slice _ _ _::.string _::.slice _ _ _::encS l:=rfl;cases j with
  | zero=>rw[e];exact⟨rfl,rfl,rfl,rfl⟩
  | succ j=>
   have h:=ih j (by simpa using d);rw[e,show(j+1)*4=j*4+1+1+1+1 by omega];simpa using h
structure StoP (w:World) (v:Value) (ss:List Srs):Prop where
 row:w.ownsRow 0 271 4 v ss.length (encS ss)
 ok:∀s∈ss,SrsOk w s
 len:ss.length<=30
theorem StoP.jv{ss:List Srs}(h:StoP w v ss)(a:Zo w w'):StoP w' v ss:=⟨a.own h.row,fun s c=>(h.ok s c).jv a,h.len⟩
theorem StoP.below{ss:List Srs}(h:StoP w v ss)(a:BW w w'):StoP w' v ss:=h.jv (Zo.below a)
theorem Tryz.infoStretch:(Tryz.prog.info? 356).map (fun i=>(i.zero,i.size,i.bytes))=some (some (.agg #[S0,.string ByteArray.empty,S0]),3,64):=by kernel_rfl
theorem ZmR{ss:List Srs}(n t:Int)(w:World)(O:StoP w sv ss)(a6:bl nm=nd.name)(hc:ZX w (.slice la ln lc) nd.ku)(b4:0<=n)(b5:n<=1000)(b6 : -1000000<=t)(b7:t<=1000000) :
  CP 160 #[sv,.agg #[.string nm,.slice la ln lc],Vi n,Vi t] w fun e w'=>∃v rs,e=.returned v/\Hid (RngV w' v rs/\rs.map Str.pr=ZbH (ss.map Srs.ser) nd n t)/\BW w w':=by
 obtain⟨i0,hi,b8,b9,c6⟩:=info_parts Tryz.infoStretch;obtain⟨sa,scp,rfl⟩:=Zl O.row;have a7:=hid O;have d6:=O.len;have c7:=hid a6;have HC:=hid hc;clear O a6 hc;go_enter func160,ntmps160;go_wp2
 go_loopw [9, 15] (fun v i wr => ∃ (k : Nat) (rs : List Str), k <= ss.length /\ i = Vi k /\ rs.length <= k /\ wr.ownsRow (w.heap.size + 1) 356 3 v rs.length (encR rs) /\ Hid ((∀ s ∈ rs, StrOk wr s) /\ rs.map Str.pr = ZbH ((ss.take k).map Srs.ser) nd n t) /\ Hid (BAt wr w.heap.size [.string nm, .slice la ln lc] 148) /\ Hid (BW w wr))
   (fun _ i _=>ss.length - (intOf i).toNat)
 case atStart=>exact⟨0,[],Yag _,rfl,Yag _,Ybc _ _ _ _,hid ⟨(by intro s I;cases I),by simp[ZbH]⟩,hid bnw,hid Zbal⟩
 case round=>
  obtain⟨k,rs,hk,rfl,d7,J,X,E,Y⟩:=hrel;by_cases Z:k<ss.length
  ·have hg:∃g,sa=some ⟨g,0,none⟩:=by
    obtain⟨g,cp',h⟩:=ZF a7.row Om;injection h with h1;exact⟨g,h1⟩
   obtain⟨g,rfl⟩:=hg;have r:=hid (a7.below Y);obtain⟨f1,f2,f3,f4⟩:=ZvO _ k Z;have d1:=Zi r.row _ _ f1;have d2:=Zi r.row _ _ f2;have d3:=Zi r.row _ _ f3;have d4:=Zi r.row _ _ f4;have a8:=hid (r.ok _ (List.getElem_mem Z));have F:Hid (ZbH ((ss.take (k+1)).map Srs.ser) nd n t=if Zc1 nd (ss[k]).ser && !(Zb6 (ss[k]).jn n t).isEmpty then ZbH ((ss.take k).map Srs.ser) nd n t++[((ss[k]).qs.map blP,Zb6 (ss[k]).jn n t)] else ZbH ((ss.take k).map Srs.ser) nd n t):=List.take_succ_eq_append_getElem Z▸Yaq▸ZA3;generalize ss[k]=s at *
   clear f1 f2 f3 f4 r;have d8:(k:Int)<(ss.length):=by omega
   have x0:=E.cell 0;have x1:=E.cell 1;simp only[Zget]at x0 x1;have d9:=E.lt
   go_wp2_with fail
   refine Zm fun W hW=>?_;have A:Below _ _ W:=hW▸Zbal;have P:=hid (Y.trans (A.mono Y.size));have a9:Hid (BAt W _ [.string _,.slice _ _ _,.string _,.slice _ _ _] 271):=hW▸bnw;have a0:=hid (E.below A);have Q:=Zn J A;have a1:Hid ((∀s∈rs,StrOk W s)/\rs.map _=ZbH _ _ n t):=hid ⟨fun s I=>(X.1 s I).jv (Zo.below A),X.2⟩;have K:=hid (a8.jv (Zo.below A));clear hW A J X E x0 x1 d1 d2 d3 d4 a8 Y;refine(ZAR s c7 (HC.below P) K.lb).mono ?_;rintro e w1 ⟨rfl,m⟩;have R:=hid (P.trans (m.mono P.size));have f:=hid (a9.below m);have L:=hid (a0.below m);have B:=Zn Q m;have G:Hid ((∀s∈rs,StrOk _ s)/\rs.map _=ZbH _ _ n t):=hid ⟨fun s I=>(a1.1 s I).jv (Zo.below m),a1.2⟩;have j:=hid (K.jv (Zo.below m));clear m P a9 a0 Q a1 K;cases hp:Zc1 nd s.ser with
   | false=>
    have H:Hid ((∀s∈rs,StrOk _ s)/\rs.map Str.pr=ZbH ((ss.take (k+1)).map Srs.ser) nd n t):=hid ⟨G.1,F.out▸hp▸G.2⟩;clear hp;go_wp2
    go_roundw
    case rel=>exact⟨k+1,rs,by omega,by go_num,by omega,B,H,L,R⟩
    case measure=>simp[intOf];omega
   | true=>
    have HP:=hid hp;clear hp;have x0:=f.cell 0;have x1:=f.cell 1;have x2:=f.cell 2;have x3:=f.cell 3;simp only[Zget]at x0 x1 x2 x3
    go_wp2_with fail
    refine(ZA1 n t j.tm j.len j.cap b4 b5 b6 b7 j.sam).mono ?_;rintro e w2 ⟨av',cp',rfl,a2,p⟩;have a3:=hid (R.trans (p.mono R.size));have b2:=hid (f.below p);have M:=hid (L.below p);have d:=Zn B p;have S:Hid ((∀s∈rs,StrOk _ s)/\rs.map _=ZbH _ _ n t):=hid ⟨fun s I=>(G.1 s I).jv (Zo.below p),G.2⟩;have N:=hid (j.jv (Zo.below p));clear p R f L B G j x0 x1 x2 x3;obtain⟨l,T⟩:∃l,Zb6 s.jn n t=l:=⟨_,rfl⟩
    rw[T]at a2 F ⊢;by_cases U:l=[]
    ·have H:Hid ((∀s∈rs,StrOk _ s)/\rs.map _=ZbH _ _ n t):=hid ⟨S.1,by rw[F,U];simpa using S.2⟩;subst U;go_wp2
     go_roundw
     case rel=>exact⟨k+1,rs,by omega,by go_num,by omega,d,H,M,a3⟩
     case measure=>simp[intOf];omega
    ·have d5:=Ycj.2 U
     have c8:Hid (ZbH _ _ n t=ZbH ((ss.take k).map _) _ n t++[(s.qs.map blP,l)]):=hid (by
      rw[F,HP,if_pos];simpa using U)
     have c9:Hid (StrOk _ ⟨s.a,s.n,s.c,s.tx,s.qs,av',cp',l⟩):=hid ⟨N.lb,a2,U,by
      have:l.length<=s.jn.length:=T▸Ydj _ _;have:=N.len;show l.length<=6001;omega,fun x hx=>N.ok x (by rw[<-T]at hx;exact(Ycg.1 hx).1)⟩
     have e0:(0:Int)<(l.length):=by omega
     have x0:=b2.cell;have e1:=a3.size;have e2:=M.lt;clear T U F HP a2
     go_wp2_with (at_builtin;refine wpList_append_own _ rfl (.tmp 31) (.tmp 36) 299 rfl (w.heap.size+1) 356 i0 (.agg #[S0,.string ByteArray.empty,S0]) 3 64 underlying299 hi b8 b9 c6 rfl Dc _ _ _ rfl (d.alloc _) ⟨w2.heap.size,0,none⟩ 1 1 [.slice s.a s.n s.c,.string s.tx,.slice av' l.length cp'] rfl rfl ?c1 ?c2 ?c3 ?c4 ?c5 ?_)
     case c1=>exact Zuy (by simp) (by simp) (by simp)
     case c2=>intro u hu;simp at hu;rcases hu with rfl|rfl|rfl <;> rfl
     case c3=>unfold maxLen;omega
     case c4=>omega
     case c5=>simp;omega
     intro v' w3 a4 C _;have b0:=(a3.alloc Om _).grown C (by simp;omega) (fun q hq=>by have:=(d.lt q hq).1;omega);have b1:∀o,Z5 356 _ (w2.alloc o):=fun o=>Z5.below Zbal _;have D:=(b1 _).trans (Z5.grown C (d.alloc _));have a5:w3.ownsRow (w.heap.size+1) 356 3 v' (rs++[(⟨s.a,s.n,s.c,s.tx,s.qs,av',cp',l⟩:Str)]).length (encR (rs++[(⟨s.a,s.n,s.c,s.tx,s.qs,av',cp',l⟩)])):=by rwa [ZvN,Yab]
     have H : Hid ((∀ z ∈ rs ++ [(⟨s.a, s.n, s.c, s.tx, s.qs, av', cp', l⟩)], StrOk _ z) /\ (rs ++ [(⟨s.a, s.n, s.c, s.tx, s.qs, av', cp', l⟩ : Str)]).map _ = ZbH _ _ n t) := hid ⟨fun z V => by
       rcases Yar.1 V with V|V
       · exact(S.1 z V).kb D Dc Dc
       · rw[Yap]at V;subst V;exact c9.kb D Dc Dc,by rw[c8,Yaq,S.2];rfl⟩
     have b3:Hid (BAt _ _ _ _):=hid (D _ _ _ _ Dc M);clear d C a4 b1 D x0;have d0:=hid b0;clear b0;go_wp2
     go_roundw
     case rel=>exact⟨k+1,_,by omega,by go_num,by simp;omega,a5,H,b3,d0⟩
     case measure=>simp[intOf];omega
  ·obtain rfl:k=ss.length:=by omega
   have H:Hid ((∀s∈rs,StrOk _ s)/\rs.map _=ZbH _ _ n t):=hid ⟨X.1,by have:=X.2;rwa [Ya4]at this⟩;go_wp2;go_ret;exact⟨_,rs,rfl,hid ⟨⟨J.mono (Yag _),H.1⟩,H.2⟩,Y⟩
theorem ZnW{T e:TypeId}(h:Lib.BuilderAtF T e B b p bs w)(a:BW w w'):Lib.BuilderAtF T e B b p bs w':=by
 obtain⟨i,v,c,⟨j,k⟩,l⟩:=h;refine⟨i,v,(a.block b (Yae.1 c).1).trans c,⟨j,?_⟩,l⟩;rcases k with d|⟨g,cap,cur,fz,d,m,f,n⟩
 ·simp_all
 ·exact .inr ⟨g,cap,cur,fz,d,m,(a.block g (Yae.1 f).1).trans f,n⟩
theorem Zt7{T e:TypeId}(h:Lib.IsBuilderF T e B b bs w)(a:BW w w'):Lib.IsBuilderF T e B b bs w':=by
 rcases h with h|h
 ·exact .inl (ZnW h a)
 ·exact .inr (ZnW h a)
theorem ZzT{e:TypeId}{b:Option Nat}(h:BW w w'):Lib.OthersKept e b w w':=fun k _ a _ _=>(h.block k (Yae.1 a).1).trans a
structure WB (w:World) (B b:Nat) (l:LB):Prop where
 bd:Lib.IsBuilderF 89 5 B b (Lib.byteCells l) w
 le:B<=w.heap.size
structure WK (B b:Nat) (w w':World):Prop where
 low:Below B w w'
 kept:Lib.OthersKept 5 (some b) w w'
theorem WK.trans{a z c:World}(h:WK B b a z)(d:WK B b z c):WK B b a c:=⟨h.low.trans d.low,h.kept.trans d.kept⟩
theorem WK.below(h:BW w w')(a:B<=w.heap.size):WK B b w w':=⟨h.mono a,ZzT h⟩
theorem WB.below{l:LB}(h:WB w B b l)(a:BW w w'):WB w' B b l:=⟨Zt7 h.bd a,Yah h.le a.size⟩
theorem WB.ne{l:LB}(h:WB w B b l):b<w.heap.size/\∃c,w.heap[b]?=some (.cells c 89 (0,0)):=by
 rcases h.bd with h|h
 ·obtain⟨_,v,a,_⟩:=h;exact⟨(Yae.1 a).1,_,a⟩
 ·obtain⟨_,v,a,_⟩:=h;exact⟨(Yae.1 a).1,_,a⟩
theorem WK.block{l:LB}(d:WB w B b l)(h:WK B b w w'){a:Nat}{c:Array Value}{t:TypeId}{fr:Nat×Nat}(f:w.heap[a]?=some (.cells c t fr))(g:t≠89)(i:t≠5):w'.heap[a]?=some (.cells c t fr):=by
 refine h.kept a _ f ?_ ?_
 ·intro e;injection e with e;subst e;obtain⟨_,c',j⟩:=d.ne
  simp_all
 simp_all
theorem WK.bat{l:LB}(d:WB w B b l)(h:WK B b w w'){a:Nat}{c:List Value}{t:TypeId}(e:BAt w a c t)(f:t≠89)(g:t≠5):BAt w' a c t:=WK.block d h e f g
theorem WK.own{l:LB}(d:WB w B b l)(h:WK B b w w'){e:TypeId}(a:w.ownsRow base e size v n xs)(f:e≠89)(i:e≠5):w'.ownsRow base e size v n xs:=by
 refine⟨a.1,?_⟩;rcases a.2 with c|⟨g,cap,cur,c,j,k,m⟩
 ·simp_all
 ·exact .inr ⟨g,cap,cur,c,j,WK.block d h k f i,m⟩
theorem Zh.wrote{l:LB}(d:WB w B b l)(h:WK B b w w'){t:Tr}(e:Zh w t v):Zh w' t v:=
 Zh.mono (fun _ _ ⟨bs,a,c⟩=>⟨bs,WK.own d h a Dc Dc,c⟩) (fun _ _ ⟨bs,a,c⟩=>⟨bs,WK.own d h a Dc Dc,c⟩) t v e
theorem ZX.wrote{l:LB}(a:WB w B b l)(h:WK B b w w')(c:ZX w v cs):ZX w' v cs:=by
 obtain⟨bs,d,e⟩:=c;exact⟨bs,WK.own a h d Dc Dc,e⟩
theorem Zn4(l:LB)(s:BA):Lib.byteCells l++Lib.strCells s=Lib.byteCells (l++bl s):=by
 unfold Lib.byteCells Lib.strCells bl;simp
def big:Nat:=1000000
theorem Zda{l:LB}(h:WB w B b l)(s:BA)(d:l.length+s.size<=big) :
  CP 63 #[Vp b,.string s] w fun e u=>e=.returned (.tuple #[Vi s.size,.nilIface])/\Hid (WB u B b (l++bl s))/\Hid (WK B b w u):=by
 refine(ZhR B b s w h.bd (by rw[Lib.byteCells_length];unfold big at d;omega) h.le).mono ?_;rintro e u ⟨rfl,a,c,f⟩;rw[Zn4]at a;exact⟨rfl,⟨.inr a,Yah h.le c.size⟩,⟨c,f⟩⟩
theorem Zlk(n:Nat):Lib.decDigits n=decS n:=by
 induction n using Nat.strongRecOn with
 | _ n ih=>
  by_cases h:n<=9
  ·rw[Zh0 h,Lib.decDigits,dif_pos Om];rfl
  ·rw[Zi6 h,Lib.decDigits,dif_neg Om,ih _ Om];rfl
def ZR (w : World) : Prop := Lib.TabIs Tryz.prog w "internal/strconv.uint64pow10" .u64 Lib.pow10Tab
theorem Tryz.gPow : Tryz.prog.globalNamed "internal/strconv.uint64pow10" = some 15 := by rfl
theorem ZR.low(h:ZR w)(a:Below B w w')(c:20<=B):ZR w':=var?_below a Tryz.gPow (Yaw Dc c) h
theorem ZlT(h:ZR w)(n:Int)(c:0<=n)(d:n<=1000000000) :
  CP 64 #[Vi n] w fun e u=>∃s:BA,e=.returned (.string s)/\Hid (bl s=decS n.toNat)/\BW w u:=by
 refine(strconv_Itoa n Om Om w h).mono ?_;rintro e u ⟨rfl,k,os,rfl⟩;refine⟨_,rfl,hid ?_,?_⟩
 ·rw[ZbF];unfold Lib.itoa;rw[if_neg Om,Zlk]
 ·exact⟨rfl,rfl,rfl,by simp,fun k a=>by simp[Go.Sort.grow,World.drewN,Yfo,a]⟩
attribute [local go_sem ↓] Go.wp_at_zero Go.wp_at_succ
theorem ZoC(x y:BA)(ng:Bool) :
  CP 115 #[.agg #[.string x,.bool ng,.string y]] w fun e u=>e=.returned (.string (if ng then ⟨#[33,61]⟩else ⟨#[61]⟩))/\BW w u:=by
 cases ng
 ·go_enter func115,ntmps115;go_wp2;go_ret;exact⟨rfl,belB⟩
 ·go_enter func115,ntmps115;go_wp2;go_ret;exact⟨rfl,belB⟩
theorem Zwc (l : List (BA × BA × Bool)) (j : Nat) : (Zb1 l)[j * 3]? = l[j]?.map (fun t => .string t.1) /\ (Zb1 l)[j * 3 + 1]? = l[j]?.map (fun t => .bool t.2.2) /\ (Zb1 l)[j * 3 + 2]? = l[j]?.map (fun t => .string t.2.1) := by
  induction l generalizing j with
  | nil=>simp[Zb1]
  | cons r l ih=>
    cases j with
    | zero=>simp[Zb1]
    | succ j=>
      obtain⟨a,c,d⟩:=ih j;refine⟨?_,?_,?_⟩
      · rw[show(j+1)*3=j*3+1+1+1 by omega];simpa [Zb1] using a
      · rw[show(j+1)*3+1=j*3+1+1+1+1 by omega];simpa [Zb1] using c
      · rw[show(j+1)*3+2=j*3+1+1+1+1+1 by omega];simpa [Zb1] using d
def ZcN(bs:List (BA×BA×Bool))(k:Nat):LB:=commas ((bs.take k).map fun c=>Z8 (Z7 c))
theorem Zvc{bs:List (BA×BA×Bool)}(k:Nat)(h:k<bs.length):ZcN bs (k+1)=(if k=0 then [] else ZcN bs k++[44])++Z8 (Z7 bs[k]):=by
 unfold ZcN;rw[List.take_succ_eq_append_getElem h,Yaq,Yco,Zlc];by_cases a:k=0
 ·subst a;rfl
 ·rw[if_neg a,if_neg (by rw[Ydl,Ydt];intro e;have:=congrArg List.length e;rw[Ya7,Ybq]at this;omega)]
theorem Zld(bs:List (BA×BA×Bool))(k:Nat):(ZcN bs k).length<=cw (bs.map Z7):=by
 unfold ZcN;refine Yah (ZeS _) ?_;rw[show(fun c=>Z8 _)=Z8 ∘ Z7 from rfl,<-Yb1];refine Yah (Zmv _) ?_;rw[Yer];have:=ZoG ((bs.map Z7).take k) ((bs.map Z7).drop k);rw[Ycn]at this;omega
theorem Zvb(bs:List (BA×BA×Bool)):ZcN bs bs.length=commas ((bs.map Z7).map Z8):=by
 unfold ZcN;rw[Ya4,Yb1];rfl
theorem Zu7(c:BA×BA×Bool):Z8 (Z7 c)=bl c.1++(if c.2.2 then [33,61] else [61])++[34]++bl c.2.1++[34]:=rfl
theorem Ztq{l:LB}(h:WB w B b l)(nm:BA)(la:Option Addr)(ln lc:Nat)(a:Nd)(T:bl nm=a.name)(hc:ZX w (.slice la ln lc) a.ku)(c9:l.length+a.name.length+cw a.ku+10<=big) :
  CP 69 #[Vp b,.agg #[.string nm,.slice la ln lc]] w fun e u=>e=.returned (.tuple #[])/\Hid (WB u B b (l++selS a))/\Hid (WK B b w u):=by
 obtain⟨bs,v,I⟩:=hc;have d5:ln=bs.length:=by obtain⟨_,_,e⟩:=Zl v;injection e
 subst d5;have HW:=hid h;have b7:=hid T;have J:=hid I;have o:Hid (l.length+nm.size+cw (bs.map Z7)+10<=big):=by rwa [I,ZU T]
 have HO:=hid v
 have e6:bs.length<=1000000:=by
  have j:=o.out
  have S:bs.length<=cw (bs.map Z7):=by
   clear j o HO J v I
   induction bs with
   | nil=>exact Yag _
   | cons c l ih=>simp only[Ybb,cw,Yaj];omega
  unfold big at j;omega
 clear h T I c9 v;go_enter func69,ntmps69
 go_upto_region 1 with fail
 refine ZP fun W0 U=>?_;have K:Below _ w _:=U▸Zbal;have L:Hid (BAt _ _ _ 148):=U▸bnw;have M:=hid (HW.below K);have b8:Hid (WK B b w _):=WK.below K HW.le;have b9:=hid (Zn HO K);clear U K;have s0:=L.cell 0;have s1:=L.cell 1;simp only[Zget]at s0 s1
 go_wp2_with fail
 refine(Zda M _ (by have:=o.out;omega)).mono ?_;rintro e w1 ⟨rfl,N,A⟩;have V:=hid (b8.trans A);have X:=hid (WK.bat M A L Dc Dc);have Y:=hid (WK.own M A b9 Dc Dc);clear A s0 s1 L b8 M b9;have s1:=X.cell 1;simp only[Zget]at s1;by_cases hz:bs.length=0
 ·have HE:Hid (selS a=bl nm):=by
   have:=Ya3 hz;unfold selS;rw[<-J,this,b7];rfl
  rw[hz]at s1;go_wp2;exact bodyPost_ret (results_none rfl _ _ _) rfl ⟨rfl,by rwa [HE.out],V⟩
 ·have hp:0<bs.length:=by omega
  have HE:Hid (selS a=bl _++[123]++ZcN _ _++[125]):=hid (by
   unfold selS;rw[if_neg (by rw[<-J];intro e;rw[Ydt]at e;subst e;exact hz rfl),Zvb,J,b7])
  have e7:((bs.length:Int) == 0)=false:=by rw[beq_eq_false_iff_ne];omega
  obtain⟨g,cp,hg⟩:=ZF Y.out hp;injection hg with hg1 _ hg2;subst hg1 hg2
  go_wp2_with fail
  refine(Zda N _ (by rw[Yab,Zd];have:=o.out;show _+1<=_;omega)).mono ?_;rintro e z ⟨rfl,d6,C⟩;have c3:=hid (V.trans C);have c4:=hid (WK.bat N C X Dc Dc);have c5:=hid (WK.own N C Y Dc Dc);have d7:Hid (l++bl nm++[123]++ZcN bs 0=l++bl nm++[123]):=by show _++commas ([]:List (LB))=_;simp[commas]
  clear C s1 X V N Y;have s1:=c4.cell;go_wp2
  go_loopg [19] bs.length (fun gk v19 wr=>∃k:Nat,k<=bs.length/\gk=bs.length - k/\v19=Vi k/\Hid (WB wr B b (l++bl nm++[123]++ZcN bs k))/\Hid (WK B b w wr)/\Hid (wr.ownsRow 0 224 3 (.slice (some ⟨g,0,none⟩) bs.length lc) bs.length (Zb1 bs)))
  case atStart=>exact⟨0,Yag _,rfl,rfl,by rwa [d7.out],c3,c5⟩
  case round=>
   obtain⟨k,hk,e8,rfl,O,Z,s⟩:=hrel;clear d6 c3 c5 s1 c4;by_cases c6:k<bs.length
   ·have E:=hid (Zvc k c6);have c7:=hid (Zld bs (k+1));have p:=hid (Zu7 bs[k]);obtain⟨f1,f2,f3⟩:=Zwc bs k;rw[List.getElem?_eq_getElem c6]at f1 f2 f3;simp only[Ybf]at f1 f2 f3;have r0:=Zi s _ _ f1;have r1:=Zi s _ _ f2;have r2:=Zi s _ _ f3;clear f1 f2 f3;obtain⟨⟨x,y,ng⟩,hc⟩:∃c,c=bs[k]:=⟨_,rfl⟩
    rw[<-hc]at r0 r1 r2 E p;simp only at r0 r1 r2 p;have e9:=Z1 s;clear hc
    go_upto_region 7 with fail
    refine ZP fun W3 a0=>?_;have P:Below _ _ _:=a0▸Zbal;have F:Hid (BAt _ _ _ 224):=a0▸bnw;have t:=hid (O.below P);have Q:=hid (Z.trans (WK.below P O.le));have R:=hid (Zn s P);clear a0 P O Z s r0 r1 r2;have d8:Hid (k=0∨0<k):=hid Om;rcases d8.out with a5|a5
    ·have m:Hid (WB W3 B b (l++bl nm++[123]++(if k=0 then [] else ZcN bs k++[44]))):=by
      rw[if_pos a5,Yca];have h3:=t.out;rw[a5,show ZcN _ 0=[] from rfl,Yca]at h3;exact h3
     have n:=F;have a6:=Q;have a7:=R;clear t F Q R;have d9:¬(0:Int)<k:=by omega
     go_upto_region 9 with fail
     have c0:=n.cell 0;have c1:=n.cell 1;have c2:=n.cell 2;simp only[Zget]at c0 c1 c2;obtain⟨sg,q⟩:∃sg:BA,sg=(if ng then ⟨#[33,61]⟩else ⟨#[61]⟩):=⟨_,rfl⟩
     have a8:=hid q;have r:Hid (bl sg=(if ng then [33,61] else [61])):=by rw[q];cases ng <;> rfl
     have G:Hid (l.length+nm.size+1+(if k=0 then [] else ZcN bs k++[44]).length+(Z8 (Z7 (x,y,ng))).length+8<=big):=hid (by
      have j:=o.out;have S:=c7.out;rw[E,Yab]at S;omega)
     have a9:x.size+sg.size+y.size+2<=1000000:=by
      have j:=G.out;rw[p,<-r]at j;simp only[Yab,Zd,Yaj,Ybq]at j;unfold big at j;omega
     clear q;have a1:∀W,(Op.stringOp _ x sg).run prog W=.ok _ W:=fun W=>run_string_add_sum W _ _ Om;have y1:(x++sg).size=x.size+sg.size:=by rw[Yaz]
     have a2:∀W,(Op.stringOp _ _ ⟨#[34]⟩).run prog W=.ok _ W:=fun W=>run_string_add_sum W _ _ (by rw[y1];show _+1<=_;omega);have y2:((x++sg)++⟨#[34]⟩).size=x.size+sg.size+1:=by rw[Yaz,y1];rfl
     have a3:∀W,(Op.stringOp _ _ y).run prog W=.ok _ W:=fun W=>run_string_add_sum W _ _ (by rw[y2];omega);have y3:(((x++sg)++⟨#[34]⟩)++y).size=x.size+sg.size+1+y.size:=by rw[Yaz,y2]
     have a4:∀W,(Op.stringOp _ _ ⟨#[34]⟩).run prog W=.ok _ W:=fun W=>run_string_add_sum W _ _ (by rw[y3];show _+1<=_;omega)
     have b0:Hid (((((x++sg)++⟨#[34]⟩)++y)++⟨#[34]⟩).size=(Z8 (Z7 (x,y,ng))).length):=by
      rw[p,<-r];simp only[Yab,Zd,Yaz];rfl
     have b1:Hid (bl ((((x++sg)++⟨#[34]⟩)++y)++⟨#[34]⟩)=Z8 (Z7 (x,y,ng))):=by
      rw[p,<-r,ZcV,ZcV,ZcV,ZcV];rfl
     clear y1 y2 y3 a9
     go_region_held3 (fun u => u.cell? ⟨wr.heap.size, 0, none⟩ = some (.string x) /\ u.cell? ⟨wr.heap.size, 1, none⟩ = some (.bool ng) /\ u.cell? ⟨wr.heap.size, 2, none⟩ = some (.string y)) (first | exact ⟨e0, e1, e2⟩ | exact ⟨d0, d1, d2⟩ | exact ⟨c0, c1, c2⟩ | go_keep) (first
       | (go_at_call 115
          refine(ZoC x y ng).mono ?_;rintro e w5 ⟨rfl,d⟩;rw[<-a8.out];have f:Hid (BW W3 w5):=hid ⟨d.os,d.tape,d.output,d.size,d.block⟩;have H:=hid (n.below f.out);have d0:=H.cell;clear d)
       | (go_at_call 63
          refine(Zda (m.below f.out) _ (by rw[b0.out];have:=G.out;simp only[Yab,Zd,Yaj,Ybq];omega)).mono ?_;rintro e w6 ⟨rfl,e3,i⟩;have b2:=hid (WK.bat (m.below f.out) i.out H.out Dc Dc);have e0:=b2.cell;have b3:Hid (WK B b w w6):=a6.trans ((WK.below f.out m.le).trans i.out);have b4:=hid (WK.own (m.below f.out) i.out (Zn a7.out f.out) Dc Dc);clear i))
     have b5:Hid (WB w6 B b (l++bl nm++[123]++ZcN bs (k+1))):=by rwa [E.out,<-b1.out,<-Yan]
     go_wp2
     go_roundg (bs.length - (k+1))
     case measure=>omega
     case rel=>exact⟨k+1,by omega,rfl,by go_num,b5,b3,b4⟩
    ·have d3:=F;have d9:(0:Int)<k:=by omega
     go_wp2_with fail
     refine(Zda t _ (by have j:=o.out;have S:=Zld bs k;simp only[Yab,Zd];show _+1<=_;simp only[Yaj,Ybq];omega)).mono ?_;rintro e w4 ⟨rfl,d4,D⟩;have m:Hid (WB w4 B b (l++bl nm++[123]++(if k=0 then [] else ZcN bs k++[44]))):=by rwa [if_neg Om,<-Yan]
     have n:=hid (WK.bat t D F Dc Dc);have a6:=hid (Q.trans D);have a7:=hid (WK.own t D R Dc Dc);clear t F Q R D d4 d3
     go_upto_region 9 with fail
     have c0:=n.cell 0;have c1:=n.cell 1;have c2:=n.cell 2;simp only[Zget]at c0 c1 c2;obtain⟨sg,q⟩:∃sg:BA,sg=(if ng then ⟨#[33,61]⟩else ⟨#[61]⟩):=⟨_,rfl⟩
     have a8:=hid q;have r:Hid (bl sg=(if ng then [33,61] else [61])):=by rw[q];cases ng <;> rfl
     have G:Hid (l.length+nm.size+1+(if k=0 then [] else ZcN bs k++[44]).length+(Z8 (Z7 (x,y,ng))).length+8<=big):=hid (by
      have j:=o.out;have S:=c7.out;rw[E,Yab]at S;omega)
     have a9:x.size+sg.size+y.size+2<=1000000:=by
      have j:=G.out;rw[p,<-r]at j;simp only[Yab,Zd,Yaj,Ybq]at j;unfold big at j;omega
     clear q;have a1:∀W,(Op.stringOp _ x sg).run prog W=.ok _ W:=fun W=>run_string_add_sum W _ _ Om;have y1:(x++sg).size=x.size+sg.size:=by rw[Yaz]
     have a2:∀W,(Op.stringOp _ _ ⟨#[34]⟩).run prog W=.ok _ W:=fun W=>run_string_add_sum W _ _ (by rw[y1];show _+1<=_;omega);have y2:((x++sg)++⟨#[34]⟩).size=x.size+sg.size+1:=by rw[Yaz,y1];rfl
     have a3:∀W,(Op.stringOp _ _ y).run prog W=.ok _ W:=fun W=>run_string_add_sum W _ _ (by rw[y2];omega);have y3:(((x++sg)++⟨#[34]⟩)++y).size=x.size+sg.size+1+y.size:=by rw[Yaz,y2]
     have a4:∀W,(Op.stringOp _ _ ⟨#[34]⟩).run prog W=.ok _ W:=fun W=>run_string_add_sum W _ _ (by rw[y3];show _+1<=_;omega)
     have b0:Hid (((((x++sg)++⟨#[34]⟩)++y)++⟨#[34]⟩).size=(Z8 (Z7 (x,y,ng))).length):=by
      rw[p,<-r];simp only[Yab,Zd,Yaz];rfl
     have b1:Hid (bl ((((x++sg)++⟨#[34]⟩)++y)++⟨#[34]⟩)=Z8 (Z7 (x,y,ng))):=by
      rw[p,<-r,ZcV,ZcV,ZcV,ZcV];rfl
     clear y1 y2 y3 a9
     go_region_held3 (fun u => u.cell? ⟨wr.heap.size, 0, none⟩ = some (.string x) /\ u.cell? ⟨wr.heap.size, 1, none⟩ = some (.bool ng) /\ u.cell? ⟨wr.heap.size, 2, none⟩ = some (.string y)) (first | exact ⟨e0, e1, e2⟩ | exact ⟨d0, d1, d2⟩ | exact ⟨c0, c1, c2⟩ | go_keep) (first
       | (go_at_call 115
          refine(ZoC x y ng).mono ?_;rintro e w5 ⟨rfl,d⟩;rw[<-a8.out];have f:Hid (BW w4 w5):=hid ⟨d.os,d.tape,d.output,d.size,d.block⟩;have H:=hid (n.below f.out);have d0:=H.cell;clear d)
       | (go_at_call 63
          refine(Zda (m.below f.out) _ (by rw[b0.out];have:=G.out;simp only[Yab,Zd,Yaj,Ybq];omega)).mono ?_;rintro e w6 ⟨rfl,e3,i⟩;have b2:=hid (WK.bat (m.below f.out) i.out H.out Dc Dc);have e0:=b2.cell;have b3:Hid (WK B b w w6):=a6.trans ((WK.below f.out m.le).trans i.out);have b4:=hid (WK.own (m.below f.out) i.out (Zn a7.out f.out) Dc Dc);clear i))
     have b5:Hid (WB w6 B b (l++bl nm++[123]++ZcN bs (k+1))):=by rwa [E.out,<-b1.out,<-Yan]
     go_wp2
     go_roundg (bs.length - (k+1))
     case measure=>omega
     case rel=>exact⟨k+1,by omega,rfl,by go_num,b5,b3,b4⟩
   ·obtain rfl:k=bs.length:=by omega
    go_wp2_with fail
    refine(Zda O _ (by have j:=o.out;have S:=Zld bs bs.length;simp only[Yab,Zd,Yaj,Ybq];show _+1<=_;omega)).mono ?_;rintro e w8 ⟨rfl,c8,b6⟩;have e4:=hid (Z.trans b6);have e5:Hid (WB w8 B b (l++selS a)):=by rw[HE];have:=c8.out;simp only[Yan]at this ⊢;exact this
    clear b6 c8;go_wp2
    go_end0
    exact⟨rfl,e5,e4⟩
