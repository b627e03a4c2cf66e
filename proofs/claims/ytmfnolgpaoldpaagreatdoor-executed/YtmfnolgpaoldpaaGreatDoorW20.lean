/- Parts. -/
import Derived.Test.YtmfnolgpaoldpaaGreatDoorW19
set_option linter.all false
set_option maxRecDepth 100000
set_option maxHeartbeats 16000000
namespace Go.Proofs.YtmfnolgpaoldpaaGreatDoor
open Go.RowKit LS Go.Proofs.Tryz
variable {s:BA}{b:Bool}{l last:LB}{ps:List<|LB}{acc:List<|LB×LB}{k:Nat}{w:World}
theorem BD(s:BA)(m:Int)(w:World)(o:s.size<=6000)(p:w.cell? ⟨14,0,none⟩=some (E m)):
 CP 132 #[.string s] w λe u=>∃(sv:Value)(ok:Bool),e=.returned (.tuple #[sv,.bool ok])/\
  Hid ((ok=true/\∃a n cap,sv=.slice a n cap/\VI (bl s)=some n/\u.ownsRow w.heap.size 315 2 sv n (ZQ<|Qd<|bl s))∨(ok=false/\VI (bl s)=none))/\BW w u:=by
 cases h:s.toList.isEmpty
 .have g:=OH h;cases d:Z6 32 (bl s)with
  |mk r f=>
   cases f
   .have i:Hid<|VI _=none:=I<|by unfold VI;rw[d];simp[g]
    have j:=I d;clear d g;go_enter func132,ntmps132;go_wp2_with fail;refine(K7 j).mono ?_;rintro e u ⟨a,rfl,z,rfl⟩;go_wp2;go_ret2;exact⟨_,false,C,.inr ⟨C,i⟩,Ym _ _⟩
   .have q:VI (bl s)=Vk (-1) 0 (split 32 r):=by unfold VI;rw[d];simp[g]
    have v:Qd (bl s)=(split 32 r).map UJ:=by
     cases k:bl s with
     |nil=>exact absurd k g
     |cons c t=>
      rw[k]at d;by_cases l:c=32
      .subst l;simp[Z6]at d;rw[<-d];rfl
      .simp[Z6,l]at d
    rw[q,v];have:=iK s ⟨r.toArray⟩ m w o p (by rwa [Ta]) h;rwa [Ta]at this
 .have i:Hid<|VI (bl s)=some 0:=by rw[Pn h];rfl
  go_enter func132,ntmps132;go_wp2;go_ret2;have x:Hid<|Qd (bl s)=[]:=by rw[Pn h];rfl
  exact⟨_,true,C,.inl ⟨C,none,0,0,C,i,x.out▸Xm _ _ _ _⟩,Ym _ _⟩
def UG:List (BA×BA)->List Value
 |[]=>[]
 |p::l=>.string p.1::.string p.2::UG l
def Xt(p:BA×BA):LB×LB:=(bl p.1,bl p.2)
theorem DB(l m:List<|BA×BA):UG (l++m)=UG l++UG m:=by
 induction l with
 |nil=>rfl
 |cons a l ih=>simp[UG,ih]
theorem Jd(l:List<|BA×BA):(UG l).length=l.length*2:=by
 induction l with
 |nil=>rfl
 |cons a l ih=>simp[UG,ih];omega
theorem Jc (l:List<|BA×BA)(j:Nat):(UG l)[j*2]?=l[j]?.map (λp=>.string p.1)/\(UG l)[j*2+1]?=l[j]?.map λp=>.string p.2:=by
 induction l generalizing j with
 |nil=>simp[UG]
 |cons r l ih=>
  cases j with
  |zero=>simp[UG]
  |succ j=>
   obtain⟨a,c⟩:=ih j;refine⟨?_,?_⟩
   .rw[show(j+1)*2=j*2+1+1 by omega];simpa [UG]using a
   .rw[show(j+1)*2+1=j*2+1+1+1 by omega];simpa [UG]using c
theorem GP{base:Nat}{e:TypeId}{size:Nat}{v:Value}{n:Nat}{xs:List Value}(h:w.ownsRow base e size v n xs):w.ownsRow 0 e size v n xs:=by
 refine⟨h.1,?_⟩;rcases h.2 with a|⟨g,cap,cur,rfl,_,r⟩
 .exact .inl a
 .exact .inr ⟨g,cap,cur,C,Yr _,r⟩
def TQ(w:World)(base:Nat)(v:Value)(n:Nat)(qs:List<|BA×BA):Prop:=w.ownsRow base 340 2 v n (UG qs)/\n<=6001/\∀p∈qs,p.1.size<=6000/\p.2.size<=6000
theorem Tryz.infoLabel:(Tryz.prog.info? 340).map (λi=>(i.zero,i.size,i.bytes))=some (some<|.agg #[.string ByteArray.empty,.string ByteArray.empty],2,32):=Kr
theorem Ba(a:k<ps.length)(c:l=ps.getD k []){p:LB×LB}(d:Rq last l=some p):
 Wf last acc (ps.drop k)=Wf p.1 (acc++[p]) (ps.drop<|k+1):=by
 have e:ps.getD k []=ps[k]:=by simp[a]
 rw[List.drop_eq_getElem_cons a,Wf,<-e,<-c,d]
theorem KK(a:k<ps.length)(c:l=ps.getD k [])(d:Rq last l=none):
 Wf last acc (ps.drop k)=none:=by
 have e:ps.getD k []=ps[k]:=by simp[a]
 rw[List.drop_eq_getElem_cons a,Wf,<-e,<-c,d]
theorem Bb(a:¬k<ps.length):Wf last acc (ps.drop k)=some acc:=by
 rw[Ts X];rfl
theorem C8{n v:LB}(h:cut 61 l=some (n,v)):Rq last l=if Zx n&&ZY v&&!v.isEmpty&&!MI n last then some (n,v)else none:=by
 unfold Rq;rw[h]
theorem C9(h:cut 61 l=none):Rq last l=none:=by unfold Rq;rw[h]
theorem Fi(a b:BA):(Op.bytesLess a.toList b.toList||a.toList==b.toList)=MI (bl a) (bl b):=by rw[ZA,ZA];rfl
theorem Jo(a:s.size<=6000)(h:Zx (bl s)=b):
 CP 130 #[.string s] w λe u=>e=.returned (.bool b)/\u=w:=by
 have:=FK s w a;rwa [h]at this
theorem AV(a:s.size<=6000)(h:ZY (bl s)=b):
 CP 168 #[.string s] w λe u=>e=.returned (.bool b)/\u=w:=by
 have:=FL s w a;rwa [h]at this
theorem kW(s:BA)(m:Int)(w:World)(hs:s.size<=6000)(hm:w.cell? ⟨14,0,none⟩=some (E m))(a8:s.toList.isEmpty=false):
 CP 131 #[.string s] w λe P=>∃(a:Option Addr)(n cap:Nat)(ok:Bool),e=.returned (.tuple #[.slice a n cap,.bool ok])/\
  Hid (ok=(Wf [] []<|split 44<|bl s).isSome/\(ok=true->∃qs,TQ P 0 (.slice a n cap) n qs/\Wf [] [] (split 44<|bl s)=some (qs.map Xt)))/\BW w P:=by
 obtain⟨i0,hi,a0,a1,a2⟩:=Xv Tryz.infoLabel;have Y:=Xi _ _ hm;go_enter func131,ntmps131;go_wp2_with fail;refine(Fc s m hs hm).mono ?_;rintro e w1 ⟨n,rfl,hn,Q,K⟩;have HP:=I hn;have a9:n<=6001:=by rw[hn];have:=Qf 44<|bl s;rw[Zb]at this;omega
 clear hn;have a3:w.heap.size+1<=w1.heap.size:=Q.1;go_wp2;go_loopw [4,5,16] (λv last i wr=>∃(k:Nat)(ls:BA)(qs:List<|BA×BA),k<=n/\i=E k/\last=.string ls/\wr.ownsRow (w.heap.size+1) 340 2 v k (UG qs)/\Hid (Wf [] [] (split 44<|bl s)=Wf (bl ls) (qs.map Xt) ((split 44<|bl s).drop k))/\Below (w.heap.size+1) w1 wr/\Hid (∀p∈qs,p.1.size<=6000/\p.2.size<=6000))
  (λ_ _ i _=>n-(intOf i).toNat);case atStart=>exact⟨0,⟨#[]⟩,[],Yr _,C,C,Xm _ _ _ _,C,Ym _ _,λp hp=>(by cases hp)⟩
 case round=>
  obtain⟨k,ls,qs,hk,rfl,rfl,f,T,g,HZ⟩:=hrel;have b0:=Xb a3 g.size;by_cases Z:k<n
  .have r:k<(split _ _).length:=HP.out▸Z;obtain⟨sk,b5,R⟩:=(Q.below g<|RA _).2 k r;have A:sk.size<=6000:=by rw[ZE R];have:=OU _ _ k r;rw[Zb]at this;omega
   have HK:=I R;clear R;have S:wr.cell? _=some _:=g.cell (p:=⟨_,0,none⟩) (by simpa using Nat.lt_succ_of_lt Y)▸K.cell (p:=⟨_,0,none⟩) Y▸hm;cases B:cut 61 (bl sk)with
   |none=>
    have D:Hid _:=T.out▸KK r HK.out (C9 B);have U:=I B;clear B;go_wp2_with fail;refine(Mm m _ A S U).mono ?_;rintro e z ⟨a,b,rfl,c,j,rfl⟩;go_wp2;go_ret2;exact⟨none,0,0,false,C,⟨by rw[D];rfl,λh=>(by cases h)⟩,K.trans<|Wn (g.mono X) _⟩
   |some p=>
    obtain⟨x,y⟩:=p;have b6:x.length<=sk.size/\y.length<=sk.size:=by rw[<-Zb,(Rm B).1];simp;omega
    have l:=C8 (last:=bl ls) B;have U:=I B;clear B;obtain⟨b1,F⟩:∃b,Zx x=b:=⟨_,C⟩;obtain⟨b2,G⟩:∃b,y.isEmpty=b:=⟨_,C⟩;obtain⟨b3,H⟩:∃b,ZY y=b:=⟨_,C⟩;obtain⟨b4,J⟩:∃b,MI x (bl ls)=b:=⟨_,C⟩;rw[F,G,H,J]at l;have t:Hid<|Zx x=b1/\y.isEmpty=b2/\ZY y=b3/\MI x _=b4:=⟨F,G,H,J⟩;clear F G H J;have d:(b1=true/\b2=false/\b3=true/\b4=false)∨(b1=false∨(b1=true/\b2=true)∨(b1=true/\b2=false/\b3=false)∨(b1=true/\b2=false/\b3=true/\b4=true)):=by
     cases b1<;>cases b2<;>cases b3<;>cases b4<;>simp
    rcases d with⟨rfl,rfl,rfl,rfl⟩|d
    .have D:Hid<|Wf [] [] (split 44<|bl s)=Wf x (qs.map Xt++[(x,y)]) ((split 44<|bl s).drop<|k+1):=by
      rw[T];exact Ba r HK<|by simpa using l
     clear l;go_wp2_with fail;refine(Pg m _ A S U).mono ?_;rintro e z ⟨a,b,rfl,c,j,rfl⟩;have L:a.size<=6000:=by rw[ZE c.1];omega
     have M:b.size<=6000:=by rw[ZE c.2];omega
     have f1:Hid _:=c.1▸t.1;have f2:b.toList.isEmpty=false:=by rw[ZA,c.2];exact t.2.1
     have f3:Hid _:=c.2▸t.2.2.1;have f4:(Op.bytesLess a.toList ls.toList||a.toList==ls.toList)=false:=by rw[Fi,c.1];exact t.2.2.2
     have a4:Hid<|Wf [] [] (split 44<|bl s)=Wf (bl a) ((qs++[(a,b)]).map Xt) ((split 44<|bl s).drop<|k+1):=by rwa [Y9,PE,Xt,c.1,c.2]
     have a5:Hid<|∀p∈qs++[(a,b)],p.1.size<=6000/\p.2.size<=6000:=by
      intro p hp;rcases Wk.1 hp with h|h
      .exact HZ p h
      .rw[Vs.1 h];exact⟨L,M⟩
     have o:=FF f j;go_wp2_with(first|(go_at_call 130;refine(Jo L f1.out).mono ?_;rintro e P ⟨rfl,rfl⟩)|(go_at_call 168;refine(AV M f3.out).mono ?_;rintro e P ⟨rfl,rfl⟩)|(at_builtin;refine XC _ C (.tmp 47) (.tmp 51) 196 C (w.heap.size+1) 340 i0 (.agg #[.string ByteArray.empty,.string ByteArray.empty]) 2 32 underlying196 hi a0 a1 a2 C N _ _ _ C (o.alloc _) ⟨wr.heap.size,0,none⟩ 1 1 [.string a,.string b] C C ?c1 ?c2 ?c3 ?c4 ?c5 ?_));case c1=>exact PW ((Ry _ _ _ _ C).trans C)<|(Ry _ _ _ _ C).trans C
     case c2=>intro u hu;simp at hu;rcases hu with rfl|rfl<;>rfl
     case c3=>unfold maxLen;omega
     case c4=>omega
     case c5=>simp;omega
     intro v' w3 V O _;have a6:=((Wn g j).alloc (by simp;omega) _).grown O (by simp;omega) λq hq=>(o.lt q hq).1;have W:w3.ownsRow (w.heap.size+1) 340 2 v' (k+1)<|UG<|qs++[(a,b)]:=by rwa [DB]
     clear o f O V;go_wp2;go_roundw;case rel=>exact⟨k+1,a,_,X,by go_num,C,W,a4,a6,a5⟩
     case measure=>simp[intOf];omega
    .have D:Hid<|Wf [] [] (split 44<|bl s)=none:=by
      rw[T];refine KK r HK ?_;rw[l];rcases d with rfl|⟨rfl,rfl⟩|⟨rfl,rfl,rfl⟩|⟨rfl,rfl,rfl,rfl⟩<;>simp
     clear l;go_wp2_with fail;refine(Pg m _ A S U).mono ?_;rintro e z ⟨a,b,rfl,c,j,rfl⟩;have L:a.size<=6000:=by rw[ZE c.1];omega
     have M:b.size<=6000:=by rw[ZE c.2];omega
     have f1:Hid _:=c.1▸t.1;have f2:b.toList.isEmpty=b2:=by rw[ZA,c.2];exact t.2.1
     have f3:Hid _:=c.2▸t.2.2.1;have f4:(Op.bytesLess a.toList ls.toList||a.toList==ls.toList)=b4:=by rw[Fi,c.1];exact t.2.2.2
     rcases d with rfl|⟨rfl,rfl⟩|⟨rfl,rfl,rfl⟩|⟨rfl,rfl,rfl,rfl⟩;all_goals
      go_wp2_with(first|(go_at_call 130;refine(Jo L f1.out).mono ?_;rintro e P ⟨rfl,rfl⟩)|(go_at_call 168;refine(AV M f3.out).mono ?_;rintro e P ⟨rfl,rfl⟩));go_ret2;exact⟨none,0,0,false,C,⟨by rw[D];rfl,λh=>(by cases h)⟩,K.trans<|Wn (g.mono X) _⟩
  .have D:Hid _:=T.out▸Bb (by rw[<-HP.out];exact Z);obtain⟨av,cp,hv⟩:=Zd f;rw[hv];rw[hv]at f;have a7:k<=6001:=X;go_wp2;go_ret2;exact⟨_,_,_,true,C,⟨by rw[D];rfl,λ_=>⟨qs,⟨GP f,a7,HZ⟩,D⟩⟩,K.trans<|g.mono X⟩
