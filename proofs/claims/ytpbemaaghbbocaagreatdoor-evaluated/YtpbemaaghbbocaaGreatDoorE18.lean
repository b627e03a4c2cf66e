/- Parts. -/
import Derived.Test.YtpbemaaghbbocaaGreatDoorE17
set_option linter.all false
set_option maxRecDepth 100000
set_option maxHeartbeats 16000000
namespace Go.Proofs.YtpbemaaghbbocaaGreatDoor
open Go.RowKit LS Go.Proofs.Tryz
variable {inside l last:LB}{p:LB×LB}{P ps seen:List (LB)}{acc:List (LB×LB)}{rs:List (Value×Value×Value)}{es:List Entry}{xs:List Value}{a b i k n s:Nat}{lv v:Value}{w w':World}
theorem ZNs{s:BA}(o:s.size<=6000) :
  CP 99 #[.string s] w fun e u => ∃ (a : Option Addr) (n cap : Nat) (ok : Bool), e = .returned (.tuple #[.slice a n cap, .bool ok]) /\
    Hid ((ok=true/\Zcz (bl s)=some n)∨(ok=false/\Zcz (bl s)=none))/\Hid (ok=true->u.ownsRow w.heap.size 220 2 (.slice a n cap) n (Zca (Zez (bl s))))/\BW w u:=by
 cases d:s.toList.isEmpty
 ·have i:=Zij d;cases f:bl s with
  | nil=>exact absurd f i
  | cons b t=>
   by_cases l:b=32
   ·subst l;have x:Zcz (32::t)=Zcq (-1) 0 (split 32 t):=by unfold Zcz;simp[ZbI]
    rw[x];exact ZNt s t w o d f
   ·have m:Hid (Zcz (b::t)=none):=hid (by unfold Zcz;simp[ZbI,l]);have z:Hid (bl s=b::t):=f;clear f i;go_enter func99,ntmps99
    go_wp2_with fail
    refine(ZKh s 32 rfl o).mono ?_;rintro e y ⟨g,n,cp,bs,rfl,p,B,C,c,j,q⟩
    have k:0<bs.length:=by
     have:bs.length=(split 32 (bl s)).length:=by rw[<-j.out,Yak]
     rw[this];exact Ycj.2 (Zix 32 (bl s))
    have D:0<n:=by omega
    have r:y.cell? ⟨g,0,none⟩=some (.string bs[0]):=c.out 0 k
    have v:bs[0].toList.isEmpty=false:=by
     rw[Zbt,ZJ6 j.out 0 k,z.out,Zke 32 b t (by simp[l])];cases split 32 t <;> rfl
    generalize bs[0]=s0 at r v;have E:Hid (n=bs.length):=p;clear p;go_wp2;go_ret2;exact⟨none,0,0,false,rfl,Or.inr ⟨rfl,m.out⟩,hid (fun h=>by cases h),q⟩
 ·have m:Hid (Zcz (bl s)=some 0):=hid (by rw[ZgW d];rfl);go_enter func99,ntmps99;go_wp2;go_ret2;have A:Hid (Zez (bl s)=[]):=hid (by rw[ZgW d];rfl);exact⟨none,0,0,true,rfl,Or.inl ⟨rfl,m.out⟩,hid (fun _=>by rw[A.out];exact Ybc _ _ _ _),Yaf _ _⟩
theorem ZNl{s:BA}(d:s.size<=6000) :
  CP 98 #[.string s] w fun e u => ∃ (a : Option Addr) (n cap : Nat) (ok : Bool), e = .returned (.tuple #[.slice a n cap, .bool ok]) /\
    ((ok=true/\∃qs,u.ownsRow w.heap.size 216 2 (.slice a n cap) qs.length (ZJt qs)/\Hid (Zcc (bl s)=some (qs.map bl2)))∨(ok=false/\Hid (Zcc (bl s)=none)))/\BW w u:=by
 cases c:s.toList.isEmpty
 ·have f:Zcc (bl s)=ZbS [] [] (split 44 (bl s)):=by unfold Zcc;rw[if_neg (Zij c)]
  rw[f];exact ZNm s w d c
 ·have g:Hid (Zcc (bl s)=some (([]:List (BA×BA)).map bl2)):=hid (by rw[ZgW c];rfl);go_enter func98,ntmps98;go_wp2;go_ret2;exact⟨none,0,0,true,rfl,Or.inl ⟨rfl,[],Ybc _ _ _ _,g⟩,Yaf _ _⟩
theorem ZMX(e:LS.seek 123 l=some a)(f:LS.seek 125 l=some b)(i:a<b) :
  cut 123 l=some (l.take a,l.drop (a+1))/\cut 125 (l.drop (a+1))=some ((l.take b).drop (a+1),l.drop (b+1)):=by
 refine⟨ZKb e,?_⟩;obtain⟨x,y,c,d,g⟩:=Ziv f;have e1:l.drop (a+1)=x.drop (a+1)++125::y:=by rw[c,Ygb Om]
 have e2:l.take b=x:=by rw[c,<-d];simp
 have e3:l.drop (b+1)=y:=by rw[c,<-d];simp
 rw[e1,e2,e3];exact ZoE (fun h=>g (List.mem_of_mem_drop h))
theorem ZMV(g:LS.seek 123 l=some a)(h:LS.seek 125 l=some b)(d:b<a):line l=none:=by
 obtain⟨x,y,i,j,k⟩:=Ziv h
 have e:Zx (l.take a)=false:=by
  have:(l.take a).all Zp=false:=by
   rw[Yf1];refine⟨125,?_,by decide⟩;rw[List.mem_iff_getElem?];refine⟨b,?_⟩;rw[Ygk,if_pos d,i,<-j];simp
  unfold Zx;rw[this];rfl
 have f:=ZKb g;cases c:cut 125 (l.drop (a+1))with
 | none=>exact ZjE f c
 | some q=>obtain⟨y,z⟩:=q;rw[ZjG f c,e];rfl
theorem ZMY(c:LS.seek 123 l=some a)(d:LS.seek 125 l=none):line l=none:=by
 have e:=(Zj9 125 l).1 d;refine ZjE (ZKb c) ?_;exact ZKl ((Zj9 _ _).2 (fun h=>e (List.mem_of_mem_drop h)))
theorem ZLx{a:World}{x y z x' y' z':Value}{t:TypeId}(c:Below (w.heap.size+1+1) ((w.alloc (.cells #[x,y,z] t)).alloc (.cells #[x',y',z'] t)) a) :
  (a.cell? ⟨w.heap.size,0,none⟩=some x/\a.cell? ⟨w.heap.size,1,none⟩=some y/\a.cell? ⟨w.heap.size,2,none⟩=some z/\
  a.frozen? ⟨w.heap.size,0,none⟩=false/\a.frozen? ⟨w.heap.size,1,none⟩=false/\a.frozen? ⟨w.heap.size,2,none⟩=false)/\
  (a.cell? ⟨w.heap.size+1,0,none⟩=some x'/\a.cell? ⟨w.heap.size+1,1,none⟩=some y'/\a.cell? ⟨w.heap.size+1,2,none⟩=some z'/\
  a.frozen? ⟨w.heap.size+1,0,none⟩=false/\a.frozen? ⟨w.heap.size+1,1,none⟩=false/\a.frozen? ⟨w.heap.size+1,2,none⟩=false):=by
 have d:∀o,a.cell? ⟨w.heap.size+1,o,none⟩=((w.alloc (.cells #[x,y,z] t)).alloc (.cells #[x',y',z'] t)).cell? ⟨w.heap.size+1,o,none⟩:=fun o=>c.cell (p:=⟨_,o,none⟩) (Ybd _);have f2:∀o,a.frozen? ⟨w.heap.size+1,o,none⟩=((w.alloc (.cells #[x,y,z] t)).alloc (.cells #[x',y',z'] t)).frozen? ⟨w.heap.size+1,o,none⟩:=fun o=>c.frozen (p:=⟨_,o,none⟩) (Ybd _);have b1:Below (w.heap.size+1) (w.alloc (.cells #[x,y,z] t)) a:=((Yaf _ _).alloc (by simp) _).trans (c.mono Om);obtain⟨k0,k1,k2,g0,g1,g2⟩:=box3 b1;exact⟨⟨k0,k1,k2,g0,g1,g2⟩,by simp[d,f2]⟩
theorem ZNn(s:BA)(g:s.size<=6000) :
  CP 51 #[.string s] w fun e u => ∃ (nm : BA) (la : Option Addr) (ln lc : Nat) (sa : Option Addr) (sn sc : Nat) (ok : Bool), e = .returned (.tuple #[.agg #[.string nm, .slice la ln lc, .slice sa sn sc], .bool ok]) /\
    ((ok=true/\∃(inside:LB) (qs:List (BA×BA)),u.ownsRow w.heap.size 216 2 (.slice la ln lc) qs.length (ZJt qs)/\Hid (line (bl s)=some (bl nm,inside,sn)/\Zcc inside=some (qs.map bl2)/\u.ownsRow w.heap.size 220 2 (.slice sa sn sc) sn (Zca (Zdo (bl s)))))∨(ok=false/\Hid (line (bl s)=none)))/\BW w u:=by
 cases r:LS.seek 123 (bl s)with
 | none=>
  have t:Hid (line (bl s)=none):=ZjF (ZKl r);have i:Hid (LS.seek 123 (bl s)=none):=r;clear r;cases d:LS.seek 125 (bl s)with
  | none=>
   have f:Hid (LS.seek 125 (bl s)=none):=d;clear d;go_enter func51,ntmps51
   go_wp2_with fail
   refine(ZJ0 (c:=123) rfl g i.out).mono ?_;rintro e z ⟨rfl,rfl⟩
   go_wp2_with fail
   refine(ZJ0 (c:=125) rfl g f.out).mono ?_;rintro e z ⟨rfl,rfl⟩;go_wp2;exact bodyPost_ret (v:=.tuple #[.agg #[.string ⟨#[]⟩,S0,S0],.bool false]) (by simp[results,results51,go_sem]) rfl ⟨⟨#[]⟩,none,0,0,none,0,0,false,rfl,Or.inr ⟨rfl,t⟩,belB⟩
  | some b=>
   have f:Hid (LS.seek 125 (bl s)=some b):=d;clear d;go_enter func51,ntmps51
   go_wp2_with fail
   refine(ZJ0 (c:=123) rfl g i.out).mono ?_;rintro e z ⟨rfl,rfl⟩
   go_wp2_with fail
   refine(ZJN (c:=125) rfl g f.out).mono ?_;rintro e z ⟨rfl,rfl⟩;go_wp2;exact bodyPost_ret (v:=.tuple #[.agg #[.string ⟨#[]⟩,S0,S0],.bool false]) (by simp[results,results51,go_sem]) rfl ⟨⟨#[]⟩,none,0,0,none,0,0,false,rfl,Or.inr ⟨rfl,t⟩,belB⟩
 | some a=>
  have i:Hid (LS.seek 123 (bl s)=some a):=r;have S:a<s.size:=by rw[<-Zd];exact ZBY r
  clear r;cases d:LS.seek 125 (bl s)with
  | none=>
   have t:Hid (line (bl s)=none):=ZMY i.out d;have f:Hid (LS.seek 125 (bl s)=none):=d;clear d;go_enter func51,ntmps51
   go_wp2_with fail
   refine(ZJN (c:=123) rfl g i.out).mono ?_;rintro e z ⟨rfl,rfl⟩
   go_wp2_with fail
   refine(ZJ0 (c:=125) rfl g f.out).mono ?_;rintro e z ⟨rfl,rfl⟩;go_wp2;exact bodyPost_ret (v:=.tuple #[.agg #[.string ⟨#[]⟩,S0,S0],.bool false]) (by simp[results,results51,go_sem]) rfl ⟨⟨#[]⟩,none,0,0,none,0,0,false,rfl,Or.inr ⟨rfl,t⟩,belB⟩
  | some b=>
   have f:Hid (LS.seek 125 (bl s)=some b):=d;have M:b<s.size:=by rw[<-Zd];exact ZBY d
   have P:a≠b:=by
    intro e;subst e;obtain⟨x,y,e1,e2,_⟩:=Ziv d;obtain⟨x',y',e3,e4,_⟩:=Ziv i.out;have Q:(bl s)[a]?=some 125:=by rw[e1,<-e2];simp
    have A:(bl s)[a]?=some 123:=by rw[e3,<-e4];simp
    rw[Q]at A;exact absurd A Dc
   clear d;by_cases T:b<a
   ·have t:Hid (line (bl s)=none):=ZMV i.out f.out T;go_enter func51,ntmps51
    go_wp2_with fail
    refine(ZJN (c:=123) rfl g i.out).mono ?_;rintro e z ⟨rfl,rfl⟩
    go_wp2_with fail
    refine(ZJN (c:=125) rfl g f.out).mono ?_;rintro e z ⟨rfl,rfl⟩;go_wp2;exact bodyPost_ret (v:=.tuple #[.agg #[.string ⟨#[]⟩,S0,S0],.bool false]) (by simp[results,results51,go_sem]) rfl ⟨⟨#[]⟩,none,0,0,none,0,0,false,rfl,Or.inr ⟨rfl,t⟩,belB⟩
   ·have N:a<b:=by omega
    have a1:a+1<=b:=N;clear P;have e0:bl (s.extract 0 a)=(bl s).take a:=by rw[Zfh];simp
    have e1:bl (s.extract (a+1) b)=((bl s).take b).drop (a+1):=Zfh s (a+1) b;have e2:bl (s.extract (b+1) s.size)=(bl s).drop (b+1):=by rw[Zfh,Ya5 (by rw[Zd];exact Yac _)]
    have j : Hid (line (bl s) = if Zx (bl (s.extract 0 a)) && (Zcc (bl (s.extract (a + 1) b))).isSome then (Zcz (bl (s.extract (b + 1) s.size))).map (fun n => (bl (s.extract 0 a), bl (s.extract (a + 1) b), n)) else none) := hid (by
      obtain⟨c1,c2⟩:=ZMX i.out f.out N;rw[e0,e1,e2];exact ZjG c1 c2)
    have R:Hid (Zdo (bl s)=Zez (bl (s.extract (b+1) s.size))):=hid (by unfold Zdo;rw[f.out,e2]);clear e0 e1 e2;have U:(s.extract 0 a).size<=6000:=by rw[Yga];omega
    have V:(s.extract (a+1) b).size<=6000:=by rw[Yga];omega
    have X:(s.extract (b+1) s.size).size<=6000:=by rw[Yga];omega
    have a2:a<=s.size:=Ygo S;have a3:b<=s.size:=Ygo M;have a4:b+1<=s.size:=M;go_enter func51,ntmps51
    go_wp2_with fail
    refine(ZJN (c:=123) rfl g i.out).mono ?_;rintro e z ⟨rfl,rfl⟩
    go_wp2_with fail
    refine(ZJN (c:=125) rfl g f.out).mono ?_;rintro e z ⟨rfl,rfl⟩
    go_wp2_with fail
    obtain⟨b0,p⟩:∃b0,Zx (bl (s.extract 0 a))=b0:=⟨_,rfl⟩
    refine(ZKJ U p).mono ?_;rintro e z ⟨rfl,rfl⟩;rw[p]at j;have HN:Hid _:=p;clear p
    go_wp2_with fail
    refine(ZNl V).mono ?_;rintro e Y ⟨la,ln,lc,ok1,rfl,B,C⟩;have D:Below (w.heap.size+1+1) ((w.alloc (.cells #[.string ⟨#[]⟩,S0,S0] 122)).alloc (.cells #[.string (s.extract 0 a),S0,S0] 122)) Y:=C.mono (B':=w.heap.size+1+1) (by simp);have O:w.heap.size+1+1<=Y.heap.size:=by have:=C.size;simp at this;omega
    clear C
    go_wp2_with fail
    refine(ZNs X).mono ?_;rintro e L ⟨sa,sn,sc,ok2,rfl,E,F,G⟩;have k:=D.trans (G.mono O);obtain⟨⟨k0,k1,k2,g0,g1,g2⟩,⟨m0,m1,m2,n0,n1,n2⟩⟩:=ZLx k;have Z:BW w L:=(((Yaf w.heap.size w).alloc (Yac _) _).alloc (by simp) _).trans (k.mono Om);clear k D
    have l:(b0 && ok1 && ok2)=true/\(∃qs,L.ownsRow (w.heap.size+1+1) 216 2 (.slice la ln lc) qs.length (ZJt qs)/\Hid (line (bl s)=some (bl (s.extract 0 a),bl (s.extract (a+1) b),sn)/\Zcc (bl (s.extract (a+1) b))=some (qs.map bl2)/\L.ownsRow (w.heap.size+1+1) 220 2 (.slice sa sn sc) sn (Zca (Zdo (bl s)))))∨((b0 && ok1 && ok2)=false/\Hid (line (bl s)=none)):=by
     have q:=j.out;rcases B with ⟨rfl,qs,m,H⟩|⟨rfl,H⟩
     ·rcases E.out with ⟨rfl,I⟩|⟨rfl,I⟩
      ·cases b0
       ·exact Or.inr ⟨rfl,by rw[q];rfl⟩
       ·refine Or.inl ⟨rfl,qs,Zn (m.mono (by simp)) G,by rw[q,H.out,I];rfl,H.out,by rw[R.out];exact(F.out rfl).mono O⟩
      ·exact Or.inr ⟨by cases b0 <;> rfl,by rw[q,H.out,I];cases b0 <;> rfl⟩
     ·exact Or.inr ⟨by cases b0 <;> cases ok2 <;> rfl,by rw[q,H.out];cases b0 <;> rfl⟩
    clear B E F G j HN;obtain⟨okk,o⟩:∃okk,(b0 && ok1 && ok2)=okk:=⟨_,rfl⟩
    rw[o]at l
    have J:∀W:World,W=((((L.setCell ⟨w.heap.size+1,1,none⟩ (.slice la ln lc)).setCell ⟨w.heap.size+1,2,none⟩ (.slice sa sn sc)).setCell ⟨w.heap.size,0,none⟩ (.string (s.extract 0 a))).setCell ⟨w.heap.size,1,none⟩ (.slice la ln lc)).setCell ⟨w.heap.size,2,none⟩ (.slice sa sn sc)->
      ((okk=true/\∃(inside:LB) (qs:List (BA×BA)),W.ownsRow w.heap.size 216 2 (.slice la ln lc) qs.length (ZJt qs)/\Hid (line (bl s)=some (bl (s.extract 0 a),inside,sn)/\Zcc inside=some (qs.map bl2)/\W.ownsRow w.heap.size 220 2 (.slice sa sn sc) sn (Zca (Zdo (bl s)))))∨(okk=false/\Hid (line (bl s)=none)))/\BW w W:=by
     rintro W rfl;refine⟨?_,belB⟩;rcases l with ⟨Q,qs,m,A⟩|h
     ·refine Or.inl ⟨Q,_,qs,?_,A.1,A.2.1,?_⟩
      ·refine World.ownsRow.mono (base:=w.heap.size+1+1) ?_ Om;exact ownsRow_setCell_below (ownsRow_setCell_below (ownsRow_setCell_below (ownsRow_setCell_below (ownsRow_setCell_below m (by simp) _) (by simp) _) (by simp;omega) _) (by simp;omega) _) (by simp;omega) _
      ·refine World.ownsRow.mono (base:=w.heap.size+1+1) ?_ Om;exact ownsRow_setCell_below (ownsRow_setCell_below (ownsRow_setCell_below (ownsRow_setCell_below (ownsRow_setCell_below A.2.2 (by simp) _) (by simp) _) (by simp;omega) _) (by simp;omega) _) (by simp;omega) _
     ·exact Or.inr h
    clear l Z;have K:Hid _:=J;clear J;have a0:Hid _:=o;clear o;cases b0 <;> cases ok1 <;> cases ok2
    all_goals
     obtain rfl:=a0.out;go_wp2;exact bodyPost_ret (v:=.tuple #[.agg #[.string (s.extract 0 a),.slice la ln lc,.slice sa sn sc],.bool _]) (by simp[results,results51,go_sem,k0,k1,k2]) rfl ⟨s.extract 0 a,la,ln,lc,sa,sn,sc,_,rfl,(K.out _ rfl).1,(K.out _ rfl).2⟩
def ZfK(ps:List (LB×LB)):Nat->LB
 | 0=>[]
 | k+1=>(if 0<k then ZfK ps k++[44] else ZfK ps k)++(ps.getD k ([],[])).1++[61]++(ps.getD k ([],[])).2
theorem ZJI(a b:BA):bl (a++b)=bl a++bl b:=by simp[bl]
theorem ZLd(v:Value)(base:Nat)(qs:List (BA×BA))(w:World)(a:w.ownsRow base 216 2 v qs.length (ZJt qs))(A:qs.length<=6001)(p:Hid (∀q∈qs,q.1.size<=6000/\q.2.size<=6000)) :
  CP 52 #[v] w fun e u=>∃r:BA,e=.returned (.string r)/\Hid (bl r=ZfK (qs.map bl2) qs.length)/\∃n,u=w.drewN n:=by
 obtain⟨av,cp,rfl⟩:=Zl a;go_enter func52,ntmps52;go_wp2
 go_loopw [3,4] (fun sv i wr=>∃(k:Nat) (r:BA) (nd:Nat),k<=qs.length/\i=Vi k/\sv=.string r/\r.size<=12002*k/\Hid (bl r=ZfK (qs.map bl2) k)/\wr=w.drewN nd) (fun _ i _=>qs.length - (intOf i).toNat)
 case atStart=>exact⟨0,⟨#[]⟩,0,Yag _,rfl,rfl,Yac _,rfl,rfl⟩
 case round=>
  obtain⟨k,r,nd,B,rfl,rfl,t,j,rfl⟩:=hrel;by_cases c:k<qs.length
  ·obtain⟨f1,f2⟩:=ZKc qs k;have f:qs[k]?=some qs[k]:=List.getElem?_eq_getElem c;rw[f]at f1 f2
   have s:∃g,av=some ⟨g,0,none⟩:=by
    obtain⟨g,cp',h⟩:=ZF a Om;injection h with h1;exact⟨g,h1⟩
   obtain⟨g,rfl⟩:=s;have c1:w.cell? ⟨g,k*2,none⟩=some (.string (qs[k]).1):=Zi a _ _ f1;have c2:w.cell? ⟨g,k*2+1,none⟩=some (.string (qs[k]).2):=Zi a _ _ f2;have m:Hid ((qs.map bl2).getD k ([],[])=(bl (qs[k]).1,bl (qs[k]).2)):=hid (by simp[c,bl2]);have z:=p.out _ (List.getElem_mem c);generalize(qs[k]).1=x at *
   generalize(qs[k]).2=y at *
   clear f f1 f2;by_cases o:0<k
   ·have l:Hid (bl (((r++⟨#[44]⟩)++x)++⟨#[61]⟩++y)=ZfK (qs.map bl2) (k+1)):=hid (by
     rw[ZfK,if_pos o,m.out,ZJI,ZJI,ZJI,ZJI,j.out];rfl)
    have d:(((r++⟨#[44]⟩)++x)++⟨#[61]⟩++y).size<=12002*(k+1):=by simp only[Yaz];have e44:(⟨#[44]⟩:BA).size=1:=rfl;have e61:(⟨#[61]⟩:BA).size=1:=rfl;omega
    have a1:∀W,(Op.stringOp .add r ⟨#[44]⟩).run prog W=.ok (.string (r++⟨#[44]⟩)) W:=fun W=>run_string_add_sum W r ⟨#[44]⟩ (by have e44:(⟨#[44]⟩:BA).size=1:=rfl;omega);have a2:∀W,(Op.stringOp .add (r++⟨#[44]⟩) x).run prog W=.ok (.string ((r++⟨#[44]⟩)++x)) W:=fun W=>run_string_add_sum W _ _ (by simp only[Yaz];have e44:(⟨#[44]⟩:BA).size=1:=rfl;omega);have a3:∀W,(Op.stringOp .add ((r++⟨#[44]⟩)++x) ⟨#[61]⟩).run prog W=.ok (.string (((r++⟨#[44]⟩)++x)++⟨#[61]⟩)) W:=fun W=>run_string_add_sum W _ _ (by simp only[Yaz];have e44:(⟨#[44]⟩:BA).size=1:=rfl;have e61:(⟨#[61]⟩:BA).size=1:=rfl;omega);have a4:∀W,(Op.stringOp .add (((r++⟨#[44]⟩)++x)++⟨#[61]⟩) y).run prog W=.ok (.string ((((r++⟨#[44]⟩)++x)++⟨#[61]⟩)++y)) W:=fun W=>run_string_add_sum W _ _ (by simp only[Yaz];have e44:(⟨#[44]⟩:BA).size=1:=rfl;have e61:(⟨#[61]⟩:BA).size=1:=rfl;omega);go_wp2
    go_quiet (fail)
    go_wp2
    go_roundw
    case rel=>exact⟨k+1,_,_,by omega,by go_num,rfl,d,l,rfl⟩
    case measure=>simp[intOf];omega
   ·have l:Hid (bl ((r++x)++⟨#[61]⟩++y)=ZfK (qs.map bl2) (k+1)):=hid (by
     rw[ZfK,if_neg o,m.out,ZJI,ZJI,ZJI,j.out];rfl)
    have d:((r++x)++⟨#[61]⟩++y).size<=12002*(k+1):=by simp only[Yaz];have e61:(⟨#[61]⟩:BA).size=1:=rfl;omega
    have a2:∀W,(Op.stringOp .add r x).run prog W=.ok (.string (r++x)) W:=fun W=>run_string_add_sum W _ _ Om;have a3:∀W,(Op.stringOp .add (r++x) ⟨#[61]⟩).run prog W=.ok (.string ((r++x)++⟨#[61]⟩)) W:=fun W=>run_string_add_sum W _ _ (by simp only[Yaz];have e61:(⟨#[61]⟩:BA).size=1:=rfl;omega);have a4:∀W,(Op.stringOp .add ((r++x)++⟨#[61]⟩) y).run prog W=.ok (.string (((r++x)++⟨#[61]⟩)++y)) W:=fun W=>run_string_add_sum W _ _ (by simp only[Yaz];have e61:(⟨#[61]⟩:BA).size=1:=rfl;omega);go_wp2
    go_quiet (fail)
    go_wp2
    go_roundw
    case rel=>exact⟨k+1,_,_,by omega,by go_num,rfl,d,l,rfl⟩
    case measure=>simp[intOf];omega
  ·obtain rfl:k=qs.length:=by omega
   go_wp2;go_ret;exact⟨r,rfl,j,nd,rfl⟩
open Go.Proofs.Tryz
open Go.RowKit Go.Maps Go.WideMaps LS
def Zdz(l:LB):LB:=match cut 125 l with|some p=>p.1|none=>l
def ZbZ:Nat->List (LB)->List (LB)->Option Nat
 | _,_,[]=>none
 | i,seen,x::xs=>if x=[] then ZbZ (i+1) seen xs else if seen.contains (Zdz x)then some i else ZbZ (i+1) (seen++[Zdz x]) xs
theorem ZDq(a:i<ps.length)(h:ps.getD i []=[]):ZbZ i seen (ps.drop i)=ZbZ (i+1) seen (ps.drop (i+1)):=by
 have e:ps.getD i []=ps[i]:=by simp[a]
 rw[List.drop_eq_getElem_cons a,ZbZ,<-e,if_pos h]
theorem ZDs(a:i<ps.length)(h:ps.getD i []≠[])(c:seen.contains (Zdz (ps.getD i []))=true):ZbZ i seen (ps.drop i)=some i:=by
 have e:ps.getD i []=ps[i]:=by simp[a]
 rw[List.drop_eq_getElem_cons a,ZbZ,<-e,if_neg h,if_pos c]
theorem ZDt(a:i<ps.length)(h:ps.getD i []≠[])(c:seen.contains (Zdz (ps.getD i []))=false):ZbZ i seen (ps.drop i)=ZbZ (i+1) (seen++[Zdz (ps.getD i [])]) (ps.drop (i+1)):=by
 have e:ps.getD i []=ps[i]:=by simp[a]
 rw[List.drop_eq_getElem_cons a,ZbZ,<-e,if_neg h,if_neg (by rw[c];exact Ycv)]
theorem ZDr(a:¬i<ps.length):ZbZ i seen (ps.drop i)=none:=by
 rw[Yb8 Om];rfl
theorem law9:Keyed prog 9:=string_keyed underlying9
theorem Ztz:(zeroValue 205).run prog w=.ok (.agg #[]) w:=by kernel_rfl
def Sd(seen:List (LB)):DataW Unit:=setOf (.agg []) (seen.map Lit.string)
theorem ZtD(seen:List (LB))(x:LB):Sd (seen++[x])=(Sd seen).put (.string x) (.agg []):=by
 unfold Sd;rw[Yaq,Ybb,Ydg,setOf_snoc]
theorem Zxh(seen:List (LB)):∀x∈seen.map Lit.string,WideAt.IsKeyLit x:=by
 intro x a;obtain⟨y,_,rfl⟩:=Ybe.1 a
 trivial
theorem ZwR(seen:List (LB))(x:LB):Maps.has (Sd seen) (.string x)=seen.contains x:=by
 unfold Sd;rw[has_setOf _ _ _ (Zxh seen)]
 induction seen with
 | nil=>rfl
 | cons a l ih=>
  rw[Ybb,Ygs,ih,List.contains_cons]
  congr 1
  show(a == x)=(x == a)
  exact BEq.comm
theorem Zvp{s:BA}(m:Int)(g:s.size<=6000)(i:w.cell? ⟨14,0,none⟩=some (Vi m)) :
  CP 91 #[.string s,.string ⟨#[125]⟩] w fun e u=>∃(a b:BA) (f:Bool),e=.returned (.tuple #[.string a,.string b,.bool f])/\Hid (bl a=Zdz (bl s))/\a.size<=6000/\∃n,u=w.drewN n:=by
 cases d:cut 125 (bl s)with
 | none=>
  refine(ZgH m w g i d).mono ?_;rintro e u ⟨a,b,rfl,c,h⟩;exact⟨a,b,_,rfl,hid (by unfold Zdz;rw[d];exact c.1),by rw[ZU c.1,Zd];exact g,h⟩
 | some p=>
  obtain⟨x,y⟩:=p;refine(Zep m w g i d).mono ?_;rintro e u ⟨a,b,rfl,c,h⟩;refine⟨a,b,_,rfl,hid (by unfold Zdz;rw[d];exact c.1),?_,h⟩;have:(bl s).length=x.length+(y.length+1):=by rw[(Zdx d).1];simp
  rw[ZU c.1];rw[Zd]at this;omega
theorem ZyC(g:Nat)(ps:List (LB))(n:Nat)(A:Nat->Addr)(m:Int)(L:Hid (n=ps.length))(W:n<=6001)(M:Hid (∀i,i<ps.length->(ps.getD i []).length<=6000))(v:ZfN w g ps)(R:Vars w A m) :
  CP 44 #[.slice (some ⟨g, 0, none⟩) n n] w fun e u => BW w u /\
    ((∃(i:Nat) (fa:Nat),e=.returned (.iface 94 (Vp fa))/\u.heap[fa]?=some (.cells #[.string ⟨#[108,105,110,101]⟩,Vi i,.iface 389 (.pointer (some (A 5)))] 98 (0,0))/\Hid (ZbZ 0 [] ps=some i))∨
     (e=.returned .nilIface/\Hid (ZbZ 0 [] ps=none))):=by
 have X:=@run_makeMap prog;have N:g<w.heap.size:=v.1;go_enter func44,ntmps44;go_wp2
 go_loopw [14] (fun i wr => ∃ (k : Nat) (seen : List (LB)), k <= n /\ i = Vi k /\ wr.ownsMap prog 9 unitElem w.heap.size k (Sd seen) /\ Hid (ZbZ 0 [] ps = ZbZ k seen (ps.drop k)) /\ BW w wr /\ w.heap.size + 1 <= wr.heap.size)
   (fun i _=>n - (intOf i).toNat)
 case atStart=>exact⟨0,[],Yag _,rfl,World.ownsMap_made _ _ _ _,rfl,Zbal,by simp⟩
 case round=>
  obtain⟨k,seen,hk,rfl,x,D,d,O⟩:=hrel;have h:=R.below d;by_cases G:k<n
  ·have l:k<ps.length:=by rw[<-L.out];exact G
   obtain⟨sk,Y,B⟩:=(v.below d N).2 k l;have K:sk.size<=6000:=by rw[ZU B];exact M.out k l
   have E:Hid (bl sk=ps.getD k []):=B;clear B;cases P:sk.toList.isEmpty
   ·have I:Hid (ps.getD k []≠[]):=by rw[<-E.out];exact Zij P
    have J:=h.max
    go_wp2_with fail
    refine(Zvp m K J).mono ?_;rintro e z ⟨a,b,f,rfl,Q,Z,j,rfl⟩;have S:∀o,((wr.alloc o).drewN j).cell? ⟨5,0,none⟩=some (.iface 389 (.pointer (some (A 5)))):=fun o=>(h.alloc o).sent _ Dc;have T:∀o,(wr.alloc o).cell? ⟨5,0,none⟩=some (.iface 389 (.pointer (some (A 5)))):=fun o=>(h.alloc o).sent _ Dc;have U:∀o,((wr.drewN j).alloc o).cell? ⟨5,0,none⟩=some (.iface 389 (.pointer (some (A 5)))):=fun o=>((h.drewN j).alloc o).sent _ Dc;have r:keyOf prog 9 (.string a)=some (.string a.data.toList):=keyOf_string_mk underlying9 (by unfold maxLen;omega)
    have C:Maps.has (Sd seen) (.string a.data.toList)=seen.contains (Zdz (ps.getD k [])):=by
     rw[ZwR];show seen.contains (bl a)=_;rw[Q.out,E.out]
    have c:(wr.drewN j).ownsMap prog 9 unitElem w.heap.size k (Sd seen):=x;clear J h;cases t:seen.contains (Zdz (ps.getD k []))
    ·have s:Hid (ZbZ 0 [] ps=ZbZ (k+1) (seen++[Zdz (ps.getD k [])]) (ps.drop (k+1))):=hid (by rw[D.out];exact ZDt l I.out t);rw[t]at C;clear t
     go_wp2_with (first
       | (at_lookup;refine wpList_lookup_own_unit _ rfl _ _ 202 rfl 9 205 law9 underlying202 (Ztz) w.heap.size k _ rfl c _ _ rfl r ?_)
       | (at_mapUpdate;refine wpList_mapUpdate_own _ rfl _ _ _ 202 rfl 9 205 law9 underlying202 (unitElem (H:=Unit)) w.heap.size k _ rfl (c.alloc _) (by unfold maxLen;omega) _ _ _ rfl rfl r _ [] unitElem_mk ?_;intro y F p))
     have s1:=p.size;simp at s1
     go_roundw
     case rel=>
      refine⟨k+1,_,by omega,by go_num,?_,s,?_,by omega⟩
      ·rw[ZtD,<-E.out,<-Q.out];exact F
      ·exact((ZhQ d j).alloc (by simp;omega) _).grown p (by simp;omega) (fun q V=>by cases V;exact Yac _)
     case measure=>simp[intOf];omega
    ·have s:Hid (ZbZ 0 [] ps=some k):=hid (by rw[D.out];exact ZDs l I.out t);rw[t]at C;clear t
     go_wp2_with (first
       | (at_lookup;refine wpList_lookup_own_unit _ rfl _ _ 202 rfl 9 205 law9 underlying202 (Ztz) w.heap.size k _ rfl c _ _ rfl r ?_)
       | (go_at_call 90;refine(ZnV).mono ?_;rintro e u ⟨rfl,rfl⟩))
     go_ret;refine⟨belB,Or.inl ⟨k,wr.heap.size+1,rfl,?_,s⟩⟩;rw[show wr.heap.size+1=(wr.alloc (.cells #[] 205)).heap.size by simp];exact Ye3
   ·have s:Hid (ZbZ 0 [] ps=ZbZ (k+1) seen (ps.drop (k+1))):=hid (by rw[D.out];exact ZDq l (by rw[<-E.out];exact ZgW P));go_wp2
    go_roundw
    case rel=>exact⟨k+1,seen,by omega,by go_num,x.mono (Nat.le_succ _),s,d,O⟩
    case measure=>simp[intOf];omega
  ·have s:Hid (ZbZ 0 [] ps=none):=hid (by rw[D.out];exact ZDr (by rw[<-L.out];exact G));go_wp2;go_ret;exact⟨d,Or.inr ⟨rfl,s⟩⟩
def Zbp(l:LB):Nat×Nat:=
 if 6000<l.length then (1,0)else match Zbh 0 [] (split 10 l)with
  | .inl i=>(5,i)
  | .inr es => match ZbZ 0 [] (split 10 l) with
    | some i=>(6,i)
    | none=>if 30<es.length∨200<ZcS es es.length then (7,0)else (0,0)
def Zei(w:World)(A:Nat->Addr)(err:Value)(r:Nat×Nat):Prop:=
 (err=.nilIface/\r=(0,0))∨
 (err=.iface 389 (.pointer (some (A 0)))/\r=(1,0))∨
 (err=.iface 389 (.pointer (some (A 6)))/\r=(7,0))∨
 (∃i fa:Nat,err=.iface 94 (Vp fa)/\r=(5,i)/\w.cell? ⟨fa,1,none⟩=some (Vi i)/\w.cell? ⟨fa,2,none⟩=some (.iface 389 (.pointer (some (A 4)))))∨
 (∃i fa:Nat,err=.iface 94 (Vp fa)/\r=(6,i)/\w.cell? ⟨fa,1,none⟩=some (Vi i)/\w.cell? ⟨fa,2,none⟩=some (.iface 389 (.pointer (some (A 5)))))
theorem Zn8{fa:Nat}{x y z:Value}{t:TypeId}(h:w.heap[fa]?=some (.cells #[x,y,z] t (0,0))):w.cell? ⟨fa,1,none⟩=some y/\w.cell? ⟨fa,2,none⟩=some z:=by
 simp[World.cell?,h]
theorem ZBI{last:Int}(h:Zcq last n ps=some k):k<=n+ps.length:=by
 induction ps generalizing last n with
 | nil=>simp[Zcq]at h;omega
 | cons x xs ih=>
  unfold Zcq at h;cases a:Zdn x with
  | none=>rw[a]at h;cases h
  | some t=>
   rw[a]at h;simp only at h;split at h
   ·cases h
   ·have:=ih h;simp;omega
theorem ZBK(h:Zcz l=some n):n<=l.length+1:=by
 unfold Zcz at h;have a:=Znm 32 l;generalize ZbI 32 l=st at h a;obtain⟨r,f⟩:=st;simp only at h a;split at h
 ·have:=Yax h;omega
 ·split at h
  ·have c:=ZBI h;have d:=Zhd 32 r;omega
  ·cases h
theorem Zys{a b:LB}(h:line l=some (a,b,n)):n<=l.length+1:=by
 cases d:cut 123 l with
 | none=>rw[ZjF d]at h;cases h
 | some p=>
  obtain⟨x,r⟩:=p;cases c:cut 125 r with
  | none=>rw[ZjE d c]at h;cases h
  | some q=>
   obtain⟨y,z⟩:=q;rw[ZjG d c]at h
   have f:z.length<=l.length:=by
    rw[(Zdx d).1,(Zdx c).1];simp;omega
   split at h
   ·cases e:Zcz z with
    | none=>rw[e]at h;cases h
    | some k=>
     rw[e]at h;simp at h;have:=ZBK e;omega
   ·cases h
theorem ZqJ{acc:List Entry}(h:Zbh i acc ps=.inr es)(f:∀e∈acc,e.count<=6001)(g:∀p∈ps,p.length<=6000) :
  es.length<=acc.length+ps.length/\∀e∈es,e.count<=6001:=by
 induction ps generalizing i acc with
 | nil=>
  simp only[Zbh,Sum.inr.injEq]at h;subst h;exact⟨by simp,f⟩
 | cons x xs ih=>
  unfold Zbh at h;split at h
  ·have:=ih h f (fun p d=>g p (by simp[d]));exact⟨by simp;omega,this.2⟩
  ·cases j:line x with
   | none=>rw[j]at h;cases h
   | some t=>
    obtain⟨a,b,n⟩:=t;rw[j]at h;simp only at h;have k:=g x (by simp);have l:=Zys j
    have := ih h (fun e c => by
      rcases Yar.1 c with c|c
      · exact f e c
      · simp at c;subst c;show n<=6001;omega) (fun p d=>g p (by simp[d]))
    exact⟨by have:=this.1;simp at this ⊢;omega,this.2⟩
theorem ZBr(s:BA)(A:Nat->Addr)(m:Int)(w:World)(c:Vars w A m)(d:6000<s.size)(a:s.size<=maxLen) :
  CP 24 #[.string s] w fun e u=>∃sv err,e=.returned (.tuple #[sv,err])/\Hid (Zei u A err (1,0))/\BW w u:=by
 unfold maxLen at a;have f:=c.sent 0 Dc;go_enter func24,ntmps24;go_wp2
 go_region
 all_goals (try go_wp2)
 all_goals (go_ret2;exact⟨_,_,rfl,Or.inr (Or.inl ⟨rfl,rfl⟩),belB⟩)
def ZiM(w:World)(v:Value)(l:LB):Prop:=∃(es:List Entry) (rs:List (Value×Value×Value×Value)),Zbh 0 [] (split 10 l)=.inr es/\es.length<=30/\w.ownsRow 0 199 4 v es.length (ZbP rs)/\AllV w rs es (split 10 l)
theorem ZiM.below(h:ZiM w v l)(a:BW w w'):ZiM w' v l:=by
 obtain⟨es,rs,c,d,e,f⟩:=h;exact⟨es,rs,c,d,Zn e a,f.below a⟩
theorem ZBt(s:BA)(A:Nat->Addr)(m:Int)(w:World)(R:Vars w A m)(hs:s.size<=6000) :
  CP 24 #[.string s] w fun e u=>∃sv err,e=.returned (.tuple #[sv,err])/\Hid (Zei u A err (Zbp (bl s)))/\BW w u/\Hid ((Zbp (bl s)).1=0->ZiM u sv (bl s)):=by
 have q:Hid (∀x,(match Zbh 0 [] (split 10 (bl s))with
  | .inl i=>(5,i)
  | .inr es => match ZbZ 0 [] (split 10 (bl s)) with
    | some i=>(6,i)
    | none=>if 30<es.length∨200<ZcS es es.length then (7,0)else (0,0))=x->Zbp (bl s)=x):=by
  intro x hx;unfold Zbp;rw[if_neg (by rw[Zd];omega)];exact hx
 have S:(split 10 (bl s)).length<=6001:=by have:=Zhd 10 (bl s);rw[Zd]at this;omega
 have H : Hid (∀ i, i < (split 10 (bl s)).length -> ((split 10 (bl s)).getD i []).length <= 6000) := fun i hi => by
   have:=Zkd 10 (bl s) i hi;rw[Zd]at this;omega
 go_enter func24,ntmps24
 go_wp2_with fail
 refine(Znd 10 s m hs R.max).mono ?_;rintro e y ⟨n,rfl,T,f,r⟩;have M:Hid (n=(split 10 (bl s)).length):=T;have I:n<=6001:=by omega
 have U:w.heap.size<y.heap.size:=f.1;clear T S;have J:=R.below r
 go_wp2_with fail
 refine(ZBh w.heap.size (split 10 (bl s)) n A m M I H f J).mono ?_;rintro e z ⟨t,E⟩;have K:=J.below t;have B:BW w z:=r.trans (t.mono r.size);rcases E with ⟨i,fa,rfl,d,c⟩|⟨v,es,rs,rfl,g,c,V⟩
 ·obtain⟨c1,c2⟩:=Zn8 d;have N:Hid (Zbp (bl s)=(5,i)):=hid (q.out (5,i) (by rw[c.out]))
  have a:Hid (Zei z A (.iface 94 (Vp fa)) (Zbp (bl s))):=by
   rw[q.out (5,i) (by rw[c.out])];exact Or.inr (Or.inr (Or.inr (Or.inl ⟨i,fa,rfl,rfl,c1,c2⟩)))
  clear c1 c2 d;go_wp2;go_ret2;exact⟨_,_,rfl,a,B,hid (fun h=>by rw[N.out]at h;cases h)⟩
 ·have j := ZqJ c.2 (fun e he => by simp at he) (fun p hp => by
    have:=Zne 10 (bl s) p hp;rw[Zd]at this;omega)
  have F:=f.below t U
  go_wp2_with fail
  refine(ZyC w.heap.size (split 10 (bl s)) n A m M I H F K).mono ?_;rintro e W ⟨k,C⟩;have L:=K.below k;have D:BW w W:=B.trans (k.mono B.size);rcases C with ⟨i,fa,rfl,d,G⟩|⟨rfl,G⟩
  ·obtain⟨c1,c2⟩:=Zn8 d;have N:Hid (Zbp (bl s)=(6,i)):=hid (q.out (6,i) (by rw[c.2];simp only[G.out]))
   have a:Hid (Zei W A (.iface 94 (Vp fa)) (Zbp (bl s))):=by
    rw[q.out (6,i) (by rw[c.2];simp only[G.out])];exact Or.inr (Or.inr (Or.inr (Or.inr ⟨i,fa,rfl,rfl,c1,c2⟩)))
   clear c1 c2 d;go_wp2;go_ret2;exact⟨_,_,rfl,a,D,hid (fun h=>by rw[N.out]at h;cases h)⟩
  ·have l:=Zn g k;have X:es.length<=6001:=by have:=j.1;simp at this;have:=M.out;omega
   have HC:Hid (∀e∈es,e.count<=6001):=j.2;have a2:=ZsA es j.2 es.length;have O:Hid (Zbp (bl s)=if 30<es.length∨200<ZcS es es.length then (7,0)else (0,0)):=q.out _ (by rw[c.2];simp only[G.out]);have hR:Hid (ZeP rs es):=c.1;have a3:=L.sent 6 Dc;obtain⟨av,cp,rfl⟩:=Zl g;have Y:Hid (Zbh 0 [] (split 10 (bl s))=.inr es):=c.2;have P:=hid (V.below k);clear j g c;by_cases Z:30<es.length
   ·have hd:decide (30<(es.length:Int))=true:=by simp;omega
    have a:Hid (Zbp (bl s)=(7,0)):=hid (by rw[O.out,if_pos (Or.inl Z)]);go_wp2
    go_region
    all_goals (try go_wp2)
    all_goals (go_ret2;exact⟨_,_,rfl,(by rw[a.out];exact Or.inr (Or.inr (Or.inl ⟨rfl,rfl⟩))),belB,hid (fun h=>by rw[a.out]at h;cases h)⟩)
   ·have hd:decide (30<(es.length:Int))=false:=by simp;omega
    go_wp2_with fail
    refine(Zvm es rs l hR HC X).mono ?_;rintro e w4 ⟨rfl,o⟩;have a0:BW w w4:=D.trans (o.mono D.size);have a4:=(L.below o).sent 6 Dc;by_cases Q:200<ZcS es es.length
    ·have a:Hid (Zbp (bl s)=(7,0)):=hid (by rw[O.out,if_pos (Or.inr Q)]);have a1:decide (200<(ZcS es es.length:Int))=true:=by simp;omega
     go_wp2
     go_region
     all_goals (try go_wp2)
     all_goals (go_ret2;exact⟨_,_,rfl,(by rw[a.out];exact Or.inr (Or.inr (Or.inl ⟨rfl,rfl⟩))),belB,hid (fun h=>by rw[a.out]at h;cases h)⟩)
    ·have a:Hid (Zbp (bl s)=(0,0)):=hid (by rw[O.out,if_neg (by rintro(h|h) <;> omega)]);have a1:decide (200<(ZcS es es.length:Int))=false:=by simp;omega
     go_wp2;go_ret2;exact⟨_,_,rfl,(by rw[a.out];exact Or.inl ⟨rfl,rfl⟩),a0,hid (fun _=>⟨es,rs,Y.out,by omega,Zn l o,P.below o⟩)⟩
def Zd4:List (LB)->LB
 | []=>[]
 | [x]=>x
 | x::y::r=>x++44::Zd4 (y::r)
theorem ZlU(x:LB)(l:List (LB))(h:l≠[]):Zd4 (x::l)=x++44::Zd4 l:=by
 cases l with
 | nil=>exact absurd rfl h
 | cons y r=>rfl
theorem Zxp{p:LB}{l:List (LB)}(h:l≠[]):Zd4 (pre p l)=p++Zd4 l:=by
 cases l with
 | nil=>exact absurd rfl h
 | cons y r=>
  cases r with
  | nil=>rfl
  | cons z t=>simp[pre,Zd4]
theorem Zxr(l:LB):Zd4 (split 44 l)=l:=by
 induction l with
 | nil=>rfl
 | cons b l ih=>
  by_cases a:b=44
  ·subst a;rw[Zhc,ZlU _ _ (Zix 44 l),ih];rfl
  ·rw[Zke 44 b l (by simp[a]),Zxp (Zix 44 l),ih];rfl
theorem Zxq(xs:List (LB))(x:LB)(h:xs≠[]):Zd4 (xs++[x])=Zd4 xs++44::x:=by
 induction xs with
 | nil=>exact absurd rfl h
 | cons y r ih=>
  cases r with
  | nil=>rfl
  | cons z t=>
   rw[Yby,ZlU y (z::t++[x]) (by simp),ih (by simp),ZlU y (z::t) (by simp)];simp
def wr1(p:LB×LB):LB:=p.1++[61]++p.2
theorem ZE0(ps:List (LB×LB))(k:Nat)(d:k<=ps.length):ZfK ps k=Zd4 ((ps.take k).map wr1):=by
 induction k with
 | zero=>rfl
 | succ k ih=>
  have ih':=ih Om;have e:ps.getD k ([],[])=ps[k]:=by simp[show k<ps.length by omega]
  rw[ZfK,e,List.take_succ_eq_append_getElem Om,Yaq,Ybb,Ydg];by_cases c:0<k
  ·rw[if_pos c,Zxq _ _ (by intro h;have a:=congrArg List.length h;rw[Yak,Ya7]at a;simp only[Ybq]at a;omega),ih'];simp[wr1]
  ·obtain rfl:k=0:=by omega
   simp[ZfK,Zd4,wr1]
theorem ZxG{x:LB}(h:Zd5 last x=some p):x=wr1 p:=by
 unfold Zd5 at h;cases a:cut 61 x with
 | none=>rw[a]at h;cases h
 | some q=>
  obtain⟨n,v⟩:=q;rw[a]at h;simp only at h;split at h
  ·have:=Yax h;subst this;rw[(Zdx a).1];simp[wr1]
  ·cases h
theorem ZxJ{ps:List (LB×LB)}{xs:List (LB)}(h:ZbS last acc xs=some ps):∃qs,ps=acc++qs/\xs=qs.map wr1:=by
 induction xs generalizing last acc with
 | nil=>simp only[ZbS,Yci]at h;exact⟨[],by simp[h],rfl⟩
 | cons x xs ih=>
  unfold ZbS at h;cases a:Zd5 last x with
  | none=>rw[a]at h;cases h
  | some p=>
   rw[a]at h;obtain⟨qs,e1,e2⟩:=ih h;exact⟨p::qs,by rw[e1];simp,by rw[e2,Ybb,ZxG a]⟩
theorem ZE1{ps:List (LB×LB)}(h:Zcc l=some ps):ZfK ps ps.length=l:=by
 unfold Zcc at h;split at h
 ·rename_i a;have:=Yax h;subst this;rw[a];rfl
 ·obtain⟨qs,e1,e2⟩:=ZxJ h;simp at e1;subst e1;rw[ZE0 _ _ (Yac _),Ya4,<-e2,Zxr]
def ZdO(e:Entry):LB:=e.name++123::e.inside
theorem Zrf{n:LB}(h:Zx n=true):(123:UInt8)∉n:=by
 intro a;unfold Zx at h;rw[Yas]at h;have:=Ybu.1 h.1 _ a;exact absurd this Dc
theorem Zxv{e f:Entry}(d:Zx e.name=true)(g:Zx f.name=true):ZdO e=ZdO f ↔ e.name=f.name/\e.inside=f.inside:=by
 constructor
 ·intro h;have a:=Zgq 123 e.name e.inside (Zrf d);have c:=Zgq 123 f.name f.inside (Zrf g);unfold ZdO at h;rw[h,c]at a;have i:=Yax a;have:=List.append_inj h i.symm;exact⟨this.1,(List.cons.inj this.2).2⟩
 ·rintro⟨a,c⟩;unfold ZdO;rw[a,c]
theorem Zyt{a b:LB}(h:line l=some (a,b,n)):Zx a=true/\(Zcc b).isSome=true/\Zdz l=a++123::b:=by
 cases e:cut 123 l with
 | none=>rw[ZjF e]at h;cases h
 | some p=>
  obtain⟨x,r⟩:=p;cases c:cut 125 r with
  | none=>rw[ZjE e c]at h;cases h
  | some q=>
   obtain⟨y,z⟩:=q;rw[ZjG e c]at h;split at h
   ·rename_i d;rw[Yas]at d;cases g:Zcz z with
    | none=>rw[g]at h;cases h
    | some k=>
     rw[g]at h;simp only[Ybf,Yci,Yc5]at h;obtain⟨rfl,rfl,rfl⟩:=h;refine⟨d.1,d.2,?_⟩;have j:l=(x++123::y)++125::z:=by rw[(Zdx e).1,(Zdx c).1];simp
     have i:(125:UInt8)∉x:=by
      intro m;have f:=d.1;unfold Zx at f;rw[Yas]at f;exact absurd (Ybu.1 f.1 _ m) Dc
     have o:(125:UInt8)∉x++123::y:=by
      simp only[Yar,Yau,not_or];exact⟨i,by decide,(Zdx c).2⟩
     unfold Zdz;rw[j,ZoE o]
   ·cases h
def Zfk:List Entry->List Entry->Option Nat
 | _,[]=>none
 | seen,e::r=>if (seen.map ZdO).contains (ZdO e)then some e.at_ else Zfk (seen++[e]) r
theorem ZDu{acc:List Entry}(h:Zbh i acc ps=.inr es):∃rest,es=acc++rest/\ZbZ i (acc.map ZdO) ps=Zfk acc rest:=by
 induction ps generalizing i acc with
 | nil=>simp only[Zbh,Sum.inr.injEq]at h;exact⟨[],by simp[h],rfl⟩
 | cons x xs ih=>
  unfold Zbh at h;unfold ZbZ;split at h
  ·rename_i c;rw[if_pos c];exact ih h
  ·rename_i c;rw[if_neg c];cases d:line x with
   | none=>rw[d]at h;cases h
   | some t=>
    obtain⟨a,b,n⟩:=t;rw[d]at h;simp only at h;obtain⟨rest,e1,e2⟩:=ih h;refine⟨⟨i,a,b,n⟩::rest,by rw[e1];simp,?_⟩;have e:Zdz x=ZdO ⟨i,a,b,n⟩:=(Zyt d).2.2;rw[e,Zfk];split
    ·rfl
    ·rw[Yaq]at e2;exact e2
theorem ZDv(h:Zbh 0 [] ps=.inr es):ZbZ 0 [] ps=Zfk [] es:=by
 obtain⟨rest,e1,e2⟩:=ZDu h;simp at e1;subst e1;exact e2
theorem ZLC   (a : i < es.length) (d : k < i) (c : ZdO (es[k]' Om) = ZdO es[i]) : Zfk (es.take i) (es.drop i) = some (es[i]).at_ := by
  rw[List.drop_eq_getElem_cons a,Zfk,if_pos];rw[Ydk,<-c];refine Ybe.2 ⟨es[k]' Om,?_,rfl⟩;rw[List.mem_iff_getElem];exact⟨k,by rw[Ya7];omega,by simp⟩
theorem ZLD   (a : i < es.length) (e : ∀ k (c : k < i), ZdO (es[k]' Om) ≠ ZdO es[i]) : Zfk (es.take i) (es.drop i) = Zfk (es.take (i + 1)) (es.drop (i + 1)) := by
  rw[List.drop_eq_getElem_cons a,Zfk,if_neg,List.take_succ_eq_append_getElem a];rw[Ydk];intro g;obtain⟨f,h,d⟩:=Ybe.1 g;obtain⟨k,c,rfl⟩:=List.mem_iff_getElem.1 h;rw[Ya7]at c;exact e k Om (by simpa using d)
theorem ZMR{x:LB}(h:Zd5 last x=some p):p.1.length<=8/\p.2.length<=8:=by
 unfold Zd5 at h;cases e:cut 61 x with
 | none=>rw[e]at h;cases h
 | some q=>
  obtain⟨n,v⟩:=q;rw[e]at h;simp only at h;split at h
  ·rename_i a;have:=Yax h;subst this;simp only[Yas]at a;have c:=a.1.1.1;have d:=a.1.1.2;unfold Zx at c;unfold Z3 at d;simp only[Yas,decide_eq_true_eq]at c d;exact⟨by have:=c.2.2;show n.length<=8;omega,by have:=d.2;show v.length<=8;omega⟩
  ·cases h
theorem ZMS{ps:List (LB×LB)}{xs:List (LB)}(h:ZbS last acc xs=some ps)(d:∀p∈acc,p.1.length<=8/\p.2.length<=8):ps.length=acc.length+xs.length/\∀p∈ps,p.1.length<=8/\p.2.length<=8:=by
 induction xs generalizing last acc with
 | nil=>simp only[ZbS,Yci]at h;subst h;exact⟨rfl,d⟩
 | cons x xs ih=>
  unfold ZbS at h;cases c:Zd5 last x with
  | none=>rw[c]at h;cases h
  | some p=>
   rw[c]at h
   have := ih h (fun q a => by
     rcases Yar.1 a with a|a
     · exact d q a
     · simp at a;subst a;exact ZMR c)
   exact⟨by rw[this.1];simp;omega,this.2⟩
theorem ZK5{ps:List (LB×LB)}(h:Zcc l=some ps)(a:l.length<=6000):ps.length<=6001/\∀p∈ps,p.1.length<=8/\p.2.length<=8:=by
 unfold Zcc at h;split at h
 ·have:=Yax h;subst this;simp
 ·have:=ZMS h (by simp);exact⟨by rw[this.1];have:=Zhd 44 l;simp;omega,this.2⟩
theorem ZMW{a b:LB}(h:line l=some (a,b,n)):b.length<=l.length:=by
 have c:=(Zyt h).2.2
 have:(Zdz l).length<=l.length:=by
  unfold Zdz;cases d:cut 125 l with
  | none=>exact Yac _
  | some p=>obtain⟨x,y⟩:=p;rw[(Zdx d).1];simp
 rw[c]at this;simp at this;omega
def ZJL(w:World)(lv:Value)(inside:LB):Prop:=∃qs:List (BA×BA),w.ownsRow 0 216 2 lv qs.length (ZJt qs)/\Zcc inside=some (qs.map bl2)
theorem ZJL.below(h:ZJL w lv inside)(a:BW w w'):ZJL w' lv inside:=by
 obtain⟨qs,c,d⟩:=h;exact⟨qs,Zn c a,d⟩
theorem ZJL.grown{e:TypeId}(h:ZJL w lv inside)(c:w.grownBy w' v.ownBlock)(d:w.ownsRow b e s v n xs)(f:216≠e):ZJL w' lv inside:=by
 obtain⟨qs,a,g⟩:=h;exact⟨qs,a.kept c (ZmC a d f),g⟩
def ZJA(w:World)(rs:List (Value×Value×Value))(es:List Entry):Prop:=rs.length=es.length/\∀j (h:j<es.length),∃(nm:BA) (la:Option Addr) (ln lc:Nat) (sa:Option Addr) (sc:Nat),
 rs[j]?=some (.string nm,.slice la ln lc,.slice sa (es[j]).count sc)/\bl nm=(es[j]).name/\Zx (es[j]).name=true/\(es[j]).inside.length<=6000/\ZJL w (.slice la ln lc) (es[j]).inside
theorem ZJA.nil(w:World):ZJA w [] []:=⟨rfl,fun j h=>by simp at h⟩
theorem ZJA.below(h:ZJA w rs es)(a:BW w w'):ZJA w' rs es:=
 ⟨h.1,fun j c=>by obtain⟨nm,la,ln,lc,sa,sc,e1,e2,e3,e4,e5⟩:=h.2 j c;exact⟨nm,la,ln,lc,sa,sc,e1,e2,e3,e4,e5.below a⟩⟩
theorem ZJA.grown{e:TypeId}(h:ZJA w rs es)(a:w.grownBy w' v.ownBlock)(c:w.ownsRow b e s v n xs)(d:216≠e):ZJA w' rs es:=
 ⟨h.1,fun j f=>by obtain⟨nm,la,ln,lc,sa,sc,e1,e2,e3,e4,e5⟩:=h.2 j f;exact⟨nm,la,ln,lc,sa,sc,e1,e2,e3,e4,e5.grown a c d⟩⟩
theorem ZJA.snoc(h:ZJA w rs es)(x:Entry)(nm:BA)(la:Option Addr)(ln lc:Nat)(sa:Option Addr)(sc:Nat)
  (d:bl nm=x.name) (e:Zx x.name=true) (f:x.inside.length<=6000) (g:ZJL w (.slice la ln lc) x.inside):ZJA w (rs++[(.string nm,.slice la ln lc,.slice sa x.count sc)]) (es++[x]):=by
 refine⟨by simp[h.1],fun j i=>?_⟩;by_cases a:j<es.length
 ·obtain⟨nm',la',ln',lc',sa',sc',e1,e2⟩:=h.2 j a;refine⟨nm',la',ln',lc',sa',sc',?_⟩;rw[Ybr (by rw[h.1];exact a),List.getElem_append_left a];exact⟨e1,e2⟩
 ·have c:j=es.length:=by simp at i;omega
  subst c;refine⟨nm,la,ln,lc,sa,sc,?_⟩;rw[Yb3 (by rw[h.1];exact Yac _),h.1];simp[d,e,f,g]
def ZJv(w:World)(rs:List (Value×Value×Value))(es:List Entry)(P:List (LB)):Prop:=∀j (h:j<es.length),∃(x y:Value) (sa:Option Addr) (sc:Nat),rs[j]?=some (x,y,.slice sa (es[j]).count sc)/\w.ownsRow 0 220 2 (.slice sa (es[j]).count sc) (es[j]).count (Zca (Zdo (P.getD (es[j]).at_ [])))
theorem ZJv.nil(w:World)(P:List (LB)):ZJv w [] [] P:=fun j h=>by simp at h
theorem ZJv.below  {rs : List (Value × Value × Value)}   (h : ZJv w rs es P) (a : BW w w') : ZJv w' rs es P := fun j c => by
  obtain⟨x,y,sa,sc,e1,e2⟩:=h j c;exact⟨x,y,sa,sc,e1,Zn e2 a⟩
theorem ZJv.grown  {rs : List (Value × Value × Value)}    {e : TypeId}     (h : ZJv w rs es P) (a : w.grownBy w' v.ownBlock) (c : w.ownsRow b e s v n xs) (d : 220 ≠ e) : ZJv w' rs es P := fun j f => by
  obtain⟨x,y,sa,sc,e1,e2⟩:=h j f;exact⟨x,y,sa,sc,e1,e2.kept a (ZmC e2 c d)⟩
theorem ZJv.snoc(c:rs.length=es.length)(h:ZJv w rs es P)(z:Entry)(x y:Value)(sa:Option Addr)(sc:Nat)
  (e:w.ownsRow 0 220 2 (.slice sa z.count sc) z.count (Zca (Zdo (P.getD z.at_ [])))):ZJv w (rs++[(x,y,.slice sa z.count sc)]) (es++[z]) P:=fun j f=>by
 by_cases a:j<es.length
 ·obtain⟨x',y',sa',sc',e1,e2⟩:=h j a;refine⟨x',y',sa',sc',?_⟩;rw[Ybr (by rw[c];exact a),List.getElem_append_left a];exact⟨e1,e2⟩
 ·have d:j=es.length:=by simp at f;omega
  subst d;refine⟨x,y,sa,sc,?_⟩;rw[Yb3 (by rw[c];exact Yac _),c];simp only[Yfw,Ycy,List.getElem_append_right (Yac _),List.getElem_cons_zero];exact⟨trivial,e⟩
def ZJT(w:World)(v:Value)(l:LB):Prop:=∃(es:List Entry) (rs:List (Value×Value×Value)),Zbh 0 [] (split 10 l)=.inr es/\Zfk [] es=none/\es.length<=30/\w.ownsRow 0 122 3 v es.length (ZJD rs)/\ZJA w rs es/\ZJv w rs es (split 10 l)
theorem ZJT.below(h:ZJT w v l)(a:BW w w'):ZJT w' v l:=by
 obtain⟨es,rs,c,d,e,f,g,i⟩:=h;exact⟨es,rs,c,d,e,Zn f a,g.below a,i.below a⟩
theorem ZLe(h:ZJL w lv inside)(g:inside.length<=6000) :
  CP 52 #[lv] w fun e u=>∃r:BA,e=.returned (.string r)/\Hid (bl r=inside)/\∃n,u=w.drewN n:=by
 obtain⟨qs,c,f⟩:=h;have a:=ZK5 f g;have d:qs.length<=6001:=by have:=a.1;rwa [Yak]at this
 refine(ZLd lv 0 qs w c d (fun q i=>?_)).mono ?_
 ·have:=a.2 (bl2 q) (Ybe.2 ⟨q,i,rfl⟩);have l:q.1.size<=8:=by rw[<-Zd];exact this.1
  have m:q.2.size<=8:=by rw[<-Zd];exact this.2
  exact⟨by omega,by omega⟩
 ·rintro e u ⟨r,rfl,j,k⟩;refine⟨r,rfl,?_,k⟩;rw[j.out];have:=ZE1 f
  rwa [Yak]at this
theorem Tryz.infoRSeries:(Tryz.prog.info? 122).map (fun i=>(i.zero,i.size,i.bytes))=some (some (.agg #[.string ByteArray.empty,S0,S0]),3,64):=by kernel_rfl
theorem Tryz.infoInt:(Tryz.prog.info? 3).map (fun i=>(i.zero,i.size,i.bytes))=some (some (Vi 0),1,8):=by kernel_rfl
theorem ZNo(s:BA)(w:World)(c:6000<s.size)(a:s.size<=maxLen) :
  CP 26 #[.string s] w fun e u=>∃v,e=.returned (.tuple #[v,Vi 1,Vi 0])/\BW w u:=by
 unfold maxLen at a;go_enter func26,ntmps26;go_wp2
 go_ret3
 exact⟨_,rfl,Yaf _ _⟩
def ZJ9(es:List Entry):List Value:=es.map fun e=>.int .i64 (e.at_:Int)
theorem ZNI(es:List Entry)(x:Entry):ZcS (es++[x]) (es++[x]).length=ZcS es es.length+x.count:=by
 unfold ZcS;rw[Ya4,Ya4,Yaq,Ygh];simp
def ZJz(es:List Entry)(i:Nat):LB:=(es[i]?.map ZdO).getD []
theorem ZJ5(h:i<es.length):ZJz es i=ZdO es[i]:=by unfold ZJz;rw[List.getElem?_eq_getElem h];rfl
theorem ZLE(a:i<es.length)(c:k<i)(d:ZJz es k=ZJz es i):Zfk (es.take i) (es.drop i)=some (es[i]).at_:=
 ZLC a c (by rw[<-ZJ5,<-ZJ5];exact d)
theorem ZLF(a:i<es.length)(c:∀k,k<i->ZJz es k≠ZJz es i):Zfk (es.take i) (es.drop i)=Zfk (es.take (i+1)) (es.drop (i+1)):=
 ZLD a (fun k d=>by rw[<-ZJ5,<-ZJ5];exact c k d)
theorem ZMQ(a:i<es.length)(c:k<es.length)(n1:Zx (es[i]).name=true)(n2:Zx (es[k]).name=true):ZJz es k=ZJz es i ↔ (es[i]).name=(es[k]).name/\(es[i]).inside=(es[k]).inside:=by
 rw[ZJ5 a,ZJ5 c,Zxv n2 n1];exact⟨fun h=>⟨h.1.symm,h.2.symm⟩,fun h=>⟨h.1.symm,h.2.symm⟩⟩
theorem ZNp(s:BA)(w:World)(hs:s.size<=6000) :
  CP 26 #[.string s] w fun e w'=>∃v,e=.returned (.tuple #[v,Vi (Zbp (bl s)).1,Vi (Zbp (bl s)).2])/\BW w w'/\Hid ((Zbp (bl s)).1=0->ZJT w' v (bl s)):=by
 obtain⟨i0,hi,c9,d0,d1⟩:=info_parts Tryz.infoRSeries;obtain⟨j0,hj,d2,d3,d4⟩:=info_parts Tryz.infoInt
 have hL:Hid (∀x,(match Zbh 0 [] (split 10 (bl s))with
  | .inl i=>(5,i)
  | .inr es => match ZbZ 0 [] (split 10 (bl s)) with
    | some i=>(6,i)
    | none=>if 30<es.length∨200<ZcS es es.length then (7,0)else (0,0))=x->Zbp (bl s)=x):=by
  intro x hx;unfold Zbp;rw[if_neg (by rw[Zd];omega)];exact hx
 go_enter func26,ntmps26
 go_wp2_with fail
 refine(ZKh s 10 rfl hs).mono ?_;rintro e y ⟨g,n,cp,bs,rfl,hn,f6,d5,K,L,U⟩;have HN:Hid (n=bs.length):=hn
 have f7:n<=6001:=by
  have:=Zhd 10 (bl s);rw[<-L.out,Yak,Zd]at this;omega
 clear hn;go_wp2
 go_loopw [5, 6, 8, 9] (fun v av nv i wr => ∃ (k : Nat) (es : List Entry) (rs : List (Value × Value × Value)), k <= n /\ i = Vi k /\ es.length <= k /\ nv = Vi (ZcS es es.length) /\ ZcS es es.length <= 6001 * k /\
     wr.ownsRow y.heap.size 122 3 v es.length (ZJD rs)/\wr.ownsRow y.heap.size 3 1 av es.length (ZJ9 es)/\Hid (ZJA wr rs es/\ZJv wr rs es (split 10 (bl s)))/\Hid (Zbh 0 [] (split 10 (bl s))=Zbh k es ((split 10 (bl s)).drop k))/\BW y wr)
   (fun _ _ _ i _=>n - (intOf i).toNat)
 case atStart=>exact⟨0,[],[],Yag _,rfl,Yac _,rfl,Yac _,Ybc _ _ _ _,Ybc _ _ _ _,⟨ZJA.nil _,ZJv.nil _ _⟩,rfl,Yaf _ _⟩
 case round=>
  obtain⟨k,es,rs,hk,rfl,f8,rfl,f4,d,G,B,Z,M⟩:=hrel;have d6:y.heap.size<=wr.heap.size:=M.size;by_cases a7:k<n
  ·have a0:k<bs.length:=by rw[<-HN.out];exact a7
   have V:k<(split 10 (bl s)).length:=by rw[<-L.out,Yak];exact a0
   have d7:wr.cell? ⟨g,k,none⟩=some (.string bs[k]):=(M.cell (p:=⟨g,k,none⟩) d5).trans (K.out k a0);have O:Hid (bl bs[k]=(split 10 (bl s)).getD k []):=ZJ6 L.out k a0;generalize bs[k]=sk at d7 O;have b6:sk.size<=6000:=by rw[ZU O.out];have:=Zkd 10 (bl s) k V;rw[Zd]at this;omega
   cases he:sk.toList.isEmpty
   ·have a8:Hid ((split 10 (bl s)).getD k []≠[]):=by rw[<-O.out];exact Zij he
    go_wp2_with fail
    refine(ZNn sk b6).mono ?_;rintro e z ⟨nm,la,ln,lc,sa,sn,sc,ok,rfl,b7,H⟩;have f9:wr.heap.size<=z.heap.size:=H.size;have a9:BW y z:=M.trans (H.mono d6);rcases b7 with ⟨rfl,inside,qs,a1,t⟩|⟨rfl,t⟩
    ·have r:=t.1;have g0:sn<=6001:=by have:=Zys r;rw[Zd]at this;omega
     have b0:Zx (bl nm)=true:=(Zyt r).1;have b1:inside.length<=6000:=by have:=ZMW r;rw[Zd]at this;omega
     have F:Hid (Zbh 0 [] (split 10 (bl s))=Zbh (k+1) (es++[⟨k,bl nm,inside,sn⟩]) ((split 10 (bl s)).drop (k+1))):=hid (by
      rw[Z.out];exact Zyv V a8.out (by rw[<-O.out];exact r))
     have b2:ZJL z (.slice la ln lc) inside:=⟨qs,a1.mono (Yag _),t.2.1⟩
     have P:Hid (ZJA z (rs++[(.string nm,.slice la ln lc,.slice sa sn sc)]) (es++[⟨k,bl nm,inside,sn⟩])/\ZJv z (rs++[(.string nm,.slice la ln lc,.slice sa sn sc)]) (es++[⟨k,bl nm,inside,sn⟩]) (split 10 (bl s))):=⟨(B.1.below H).snoc ⟨k,bl nm,inside,sn⟩ nm la ln lc sa sc rfl b0 b1 b2,ZJv.snoc B.1.1 (B.2.below H) ⟨k,bl nm,inside,sn⟩ _ _ sa sc (by show z.ownsRow 0 220 2 (.slice sa sn sc) sn (Zca (Zdo ((split 10 (bl s)).getD k [])));rw[<-O.out];exact t.2.2.mono (Yag _))⟩
     have l:=Zn d H;have Q:=Zn G H;have HS:Hid (ZcS (es++[(⟨k,bl nm,inside,sn⟩:Entry)]) (es++[(⟨k,bl nm,inside,sn⟩:Entry)]).length=ZcS es es.length+sn):=ZNI es ⟨k,bl nm,inside,sn⟩;clear r a1 t b2 B Z d G b0 b1
     go_wp2_with (at_builtin;refine wpList_append_own _ rfl (.tmp 43) (.tmp 45) 67 rfl y.heap.size 122 i0 (.agg #[.string ByteArray.empty,S0,S0]) 3 64 underlying67 hi c9 d0 d1 rfl Dc _ _ _ rfl ((l.alloc _).alloc _) ⟨z.heap.size+1,0,none⟩ 1 1 [.string nm,.slice la ln lc,.slice sa sn sc] rfl rfl ?c1 ?c2 ?c3 ?c4 ?c5 ?_)
     case c1=>exact Zuy (by simp) (by simp) (by simp)
     case c2=>intro u hu;simp at hu;rcases hu with rfl|rfl|rfl <;> rfl
     case c3=>unfold maxLen;omega
     case c4=>omega
     case c5=>simp;omega
     intro v3 C W c _;have g1:z.heap.size+1+1<=C.heap.size:=by have:=c.size;simp at this;omega
     have d8:BW y C:=((a9.alloc Om _).alloc (by simp;omega) _).grown c (by simp;omega) (fun q hq=>(l.lt q hq).1);have A:C.ownsRow y.heap.size 3 1 _ es.length (ZJ9 es):=((Q.alloc _).alloc _).kept c (ZmC Q l Dc);have R:∀o o':Obj,BW z ((z.alloc o).alloc o'):=fun o o'=>Zbal.alloc (by simp) _;have S:Hid (ZJA C (rs++[(.string nm,.slice la ln lc,.slice sa sn sc)]) (es++[⟨k,bl nm,inside,sn⟩])/\ZJv C (rs++[(.string nm,.slice la ln lc,.slice sa sn sc)]) (es++[⟨k,bl nm,inside,sn⟩]) (split 10 (bl s))):=⟨ZJA.grown (P.1.below (R _ _)) c ((l.alloc _).alloc _) Dc,ZJv.grown (P.2.below (R _ _)) c ((l.alloc _).alloc _) Dc⟩
     have a2:C.heap[z.heap.size]?=some (.cells #[.string nm,.slice la ln lc,.slice sa sn sc] 122 (0,0)):=by
      refine(c.block z.heap.size (by simp;omega) ?_).trans ?_
      ·intro he;have:=(l.lt _ he.symm).2;simp at this
      ·rw[Below.heap_alloc _ _ _ (by simp)];exact Ye3
     have b3:C.cell? ⟨z.heap.size,2,none⟩=some (.slice sa sn sc):=(Zn8 a2).2
     have I:C.ownsRow y.heap.size 122 3 v3 (es++[(⟨k,bl nm,inside,sn⟩:Entry)]).length (ZJD (rs++[(.string nm,.slice la ln lc,.slice sa sn sc)])):=by
      rw[ZMr,Yab];exact W
     clear W c l Q P
     go_wp2_with (at_builtin;refine wpList_append_own _ rfl (.tmp 47) (.tmp 49) 38 rfl y.heap.size 3 j0 (Vi 0) 1 8 underlying38 hj d2 d3 d4 rfl Dc _ _ _ rfl (A.alloc _) ⟨C.heap.size,0,none⟩ 1 1 [Vi k] rfl rfl ?c1 ?c2 ?c3 ?c4 ?c5 ?_)
     case c1=>exact cell_one_new _ _ _
     case c2=>intro u hu;simp at hu;subst hu;rfl
     case c3=>unfold maxLen;omega
     case c4=>omega
     case c5=>simp;omega
     intro v5 w5 a3 f _;have d9:BW y w5:=(d8.alloc Om _).grown f (by simp;omega) (fun q hq=>(A.lt q hq).1);have a6:=(I.alloc (.cells #[Vi k] 3)).kept f (ZmC I A Dc);have T:∀o:Obj,BW C (C.alloc o):=fun o=>Zbal;have b8:Hid (ZJA w5 (rs++[(.string nm,.slice la ln lc,.slice sa sn sc)]) (es++[⟨k,bl nm,inside,sn⟩])/\ZJv w5 (rs++[(.string nm,.slice la ln lc,.slice sa sn sc)]) (es++[⟨k,bl nm,inside,sn⟩]) (split 10 (bl s))):=⟨ZJA.grown (S.1.below (T _)) f (A.alloc _) Dc,ZJv.grown (S.2.below (T _)) f (A.alloc _) Dc⟩
     have g2:w5.cell? ⟨z.heap.size,2,none⟩=some (.slice sa sn sc):=by
      refine f.cell (a:=⟨z.heap.size,2,none⟩) ?_ (Zcx A a2 Dc);rw[Ybm _ _ _ (by show z.heap.size<C.heap.size;omega)];exact b3
     have b9:w5.ownsRow y.heap.size 3 1 v5 (es++[(⟨k,bl nm,inside,sn⟩:Entry)]).length (ZJ9 (es++[(⟨k,bl nm,inside,sn⟩:Entry)])):=by
      unfold ZJ9;rw[Yaq,Yab];exact a3
     clear a3 f I A S b3 a2 R T;go_wp2
     go_roundw
     case rel=>exact⟨k+1,_,_,by omega,by go_num,by simp;omega,by rw[HS.out];go_num,by rw[HS.out];omega,a6,b9,b8,F,d9⟩
     case measure=>simp[intOf];omega
    ·have F:Hid (Zbh 0 [] (split 10 (bl s))=.inl k):=hid (by
      rw[Z.out];exact Zyu V a8.out (by rw[<-O.out];exact t.out))
     have D:Hid (Zbp (bl s)=(5,k)):=hL.out _ (by rw[F.out]);go_wp2
     go_ret3
     exact⟨_,by rw[D.out];rfl,U.trans ((a9.alloc Om _).mono U.size),hid (fun h=>by rw[D.out]at h;cases h)⟩
   ·have F:Hid (Zbh 0 [] (split 10 (bl s))=Zbh (k+1) es ((split 10 (bl s)).drop (k+1))):=hid (by
     rw[Z.out];exact Zyw V (by rw[<-O.out];exact ZgW he))
    go_wp2
    go_roundw
    case rel=>exact⟨k+1,es,rs,by omega,by go_num,by omega,rfl,by omega,d,G,B,F,M⟩
    case measure=>simp[intOf];omega
  ·have F:Hid (Zbh 0 [] (split 10 (bl s))=.inr es):=hid (by
    rw[Z.out];exact Zyx (by rw[<-L.out,Yak,<-HN.out];exact a7))
   have f5:es.length<=6001:=by omega
   have b4:Hid (ZbZ 0 [] (split 10 (bl s))=Zfk [] es):=ZDv F.out;obtain⟨lv,lcp,rfl⟩:=Zl d;obtain⟨tv,tcp,rfl⟩:=Zl G;have g3:BW w wr:=U.trans (M.mono U.size);clear Z K L;go_wp2
   go_loopw [12] (fun i wi=>∃(m nd:Nat),m<=es.length/\i=Vi m/\wi=wr.drewN nd/\Hid (Zfk [] es=Zfk (es.take m) (es.drop m))) (fun i _=>es.length - (intOf i).toNat)
   case atStart=>exact⟨0,0,Yag _,rfl,rfl,rfl⟩
   case round=>
    obtain⟨m,nd,hm,rfl,rfl,HD⟩:=hrel;by_cases N:m<es.length
    ·obtain⟨gl,c0⟩:∃gl,lv=some ⟨gl,0,none⟩:=by
      obtain⟨gl,cp',h⟩:=ZF d Om;injection h with J;exact⟨gl,J⟩
     obtain⟨ga,c6⟩:∃ga,tv=some ⟨ga,0,none⟩:=by
      obtain⟨ga,cp',h⟩:=ZF G Om;injection h with J;exact⟨ga,J⟩
     subst c0;subst c6;have e0:wr.cell? ⟨ga,m,none⟩=some (Vi (es[m]).at_):=Zi G m _ (by simp[ZJ9,N]);obtain⟨nmi,lai,lni,lci,sai,sci,r1,r2,r3,r4,r5⟩:=B.1.2 m N;obtain⟨f1,f2,_⟩:=ZKY rs m;rw[r1]at f1 f2;have ci1:wr.cell? ⟨gl,m*3,none⟩=some (.string nmi):=Zi d _ _ f1;have ci2:wr.cell? ⟨gl,m*3+1,none⟩=some (.slice lai lni lci):=Zi d _ _ f2;have HI:Hid (bl nmi=(es[m]).name/\Zx (es[m]).name=true/\(es[m]).inside.length<=6000/\ZJL wr (.slice lai lni lci) (es[m]).inside):=⟨r2,r3,r4,r5⟩
     have b5:Hid (Zfk (es.take m) (es.drop m)=Zfk [] es):=HD.symm;generalize hat_:(es[m]).at_=atm at e0;have c7:Hid ((es[m]).at_=atm):=hat_;clear r1 r2 r3 r4 r5 f1 f2 hat_ HD;go_wp2
     go_loopw [13] (fun j wj=>∃(q nd:Nat),q<=m/\j=Vi q/\wj=wr.drewN nd/\Hid (∀k,k<q->ZJz es k≠ZJz es m)) (fun j _=>m - (intOf j).toNat)
     case atStart=>exact⟨0,nd,Yag _,rfl,rfl,fun k h=>absurd h (Ya1 _)⟩
     case round=>
      obtain⟨q,nd2,g4,rfl,rfl,HQ⟩:=hrel;by_cases e3:q<m
      ·have a4:q<es.length:=by omega
       obtain⟨nmk,lak,lnk,lck,sak,sck,r1,r2,r3,r4,r5⟩:=B.1.2 q a4;obtain⟨f1,f2,_⟩:=ZKY rs q;rw[r1]at f1 f2;have ck1:wr.cell? ⟨gl,q*3,none⟩=some (.string nmk):=Zi d _ _ f1;have ck2:wr.cell? ⟨gl,q*3+1,none⟩=some (.slice lak lnk lck):=Zi d _ _ f2;have X:Hid (bl nmk=(es[q]).name/\Zx (es[q]).name=true/\(es[q]).inside.length<=6000/\ZJL wr (.slice lak lnk lck) (es[q]).inside):=⟨r2,r3,r4,r5⟩
       clear r1 r2 r3 r4 r5 f1 f2
       go_wp2_with fail
       refine(ZLe (HI.2.2.2.below (ZiX _ _ _)) HI.2.2.1).mono ?_;rintro e wx ⟨ra,rfl,e4,na,rfl⟩
       go_wp2_with fail
       refine(ZLe (X.2.2.2.below (ZiX _ _ _)) X.2.2.1).mono ?_;rintro e wx ⟨rb,rfl,e5,nb,rfl⟩;have Y:=ZMQ N a4 HI.2.1 X.2.1
       have e6:((nmi.toList == nmk.toList)=true/\(ra.toList == rb.toList)=true/\ZJz es q=ZJz es m)∨((nmi.toList == nmk.toList)=true/\(ra.toList == rb.toList)=false/\ZJz es q≠ZJz es m)∨((nmi.toList == nmk.toList)=false/\ZJz es q≠ZJz es m):=by
        rw[Zbt,Zbt,Zbt,Zbt,HI.1,X.1,e4.out,e5.out];by_cases J:(es[m]).name=(es[q]).name
        ·by_cases h2:(es[m]).inside=(es[q]).inside
         ·exact Or.inl ⟨by rw[J];simp,by rw[h2];simp,Y.2 ⟨J,h2⟩⟩
         ·exact Or.inr (Or.inl ⟨by rw[J];simp,by simp[h2],fun h=>h2 (Y.1 h).2⟩)
        ·exact Or.inr (Or.inr ⟨by simp[J],fun h=>J (Y.1 h).1⟩)
       clear Y;rcases e6 with ⟨e1,e2,E⟩|⟨e1,e2,E⟩|⟨e1,E⟩
       ·have D:Hid (Zbp (bl s)=(6,atm)):=hL.out _ (by
         rw[F.out];simp only[b4.out];rw[<-b5.out,ZLE N e3 E,c7.out])
        clear E;go_wp2
        go_quiet (fail)
        go_wp2
        go_quiet (fail)
        go_wp2
        go_ret3
        exact⟨_,by rw[D.out];rfl,belB,hid (fun h=>by rw[D.out]at h;cases h)⟩
       ·have a5 : Hid (∀ k, k < q + 1 -> ZJz es k ≠ ZJz es m) := fun k hk => by
          rcases Ygf.1 hk with h|rfl
          · exact HQ.out k h
          · exact E
        clear E;go_wp2
        go_quiet (fail)
        go_wp2
        go_roundw
        case rel=>exact⟨q+1,_,by omega,by go_num,rfl,a5⟩
        case measure=>simp[intOf];omega
       ·have a5 : Hid (∀ k, k < q + 1 -> ZJz es k ≠ ZJz es m) := fun k hk => by
          rcases Ygf.1 hk with h|rfl
          · exact HQ.out k h
          · exact E
        clear E;go_wp2
        go_quiet (fail)
        go_wp2
        go_roundw
        case rel=>exact⟨q+1,_,by omega,by go_num,rfl,a5⟩
        case measure=>simp[intOf];omega
      ·obtain rfl:q=m:=by omega
       have e7:Hid (Zfk [] es=Zfk (es.take (q+1)) (es.drop (q+1))):=hid (by rw[<-b5.out];exact ZLF N HQ.out);go_wp2
       go_roundw
       case rel=>exact⟨q+1,nd2,by omega,by go_num,rfl,e7⟩
       case measure=>simp[intOf];omega
    ·have e8:Hid (Zfk [] es=none):=hid (by rw[HD.out,Yb8 Om];rfl)
     have HM:Hid (Zbp (bl s)=if 30<es.length∨200<ZcS es es.length then (7,0)else (0,0)):=hL.out _ (by
      have h0:Zfk [] es=none:=by rw[HD.out,Yb8 Om];rfl
      rw[F.out];simp only[b4.out,h0])
     by_cases e9:30<es.length
     ·have hd:decide (30<(es.length:Int))=true:=by simp;omega
      have D:Hid (Zbp (bl s)=(7,0)):=hid (by rw[HM.out,if_pos (Or.inl e9)]);go_wp2
      go_ret3
      exact⟨_,by rw[D.out];rfl,belB,hid (fun h=>by rw[D.out]at h;cases h)⟩
     ·have hd:decide (30<(es.length:Int))=false:=by simp;omega
      by_cases c8:200<ZcS es es.length
      ·have f0:decide (200<(ZcS es es.length:Int))=true:=by simp;omega
       have D:Hid (Zbp (bl s)=(7,0)):=hid (by rw[HM.out,if_pos (Or.inr c8)]);go_wp2
       go_ret3
       exact⟨_,by rw[D.out];rfl,belB,hid (fun h=>by rw[D.out]at h;cases h)⟩
      ·have f0:decide (200<(ZcS es es.length:Int))=false:=by simp;omega
       have D:Hid (Zbp (bl s)=(0,0)):=hid (by rw[HM.out,if_neg (by rintro(h|h) <;> omega)]);have f3:Hid (∀nd,ZJT (wr.drewN nd) (.slice lv es.length lcp) (bl s)):=hid (fun nd=>ZJT.below ⟨es,rs,F.out,e8.out,by omega,d.mono (Yag _),B.1,B.2⟩ (ZiX _ _ _));go_wp2
       go_ret3
       exact⟨_,by rw[D.out];rfl,belB,hid (fun _=>f3.out _)⟩
