/- Parts. -/
import Derived.Test.YtpbemaaghbbocaaGreatDoorE19
import Derived.Deep.AppendLies
set_option linter.all false
set_option maxRecDepth 100000
set_option maxHeartbeats 16000000
namespace Go.Proofs.YtpbemaaghbbocaaGreatDoor
open Go.RowKit LS Go.Proofs.Tryz
variable {p:Addr}{l:LB}{os zs zs':List (Value×El)}{bs c xa xs ya:List Value}{B a b:Nat}{v vv:Value}{W w w' wr y:World}
def serE(P:List (LB))(e:Entry):Ser:=⟨e.name,(Zcc e.inside).getD [],Zdo (P.getD e.at_ [])⟩
def Ze6(l:LB):List Ser:=match Zbh 0 [] (split 10 l)with
 | .inr es=>es.map (serE (split 10 l))
 | .inl _=>[]
theorem ZMt(l:List (Int×Int)):(Zca l).length=l.length*2:=by
 induction l with
 | nil=>rfl
 | cons a l ih=>simp only[Zca,Yaj,ih];omega
theorem ZBM:∀x∈Zdo l,smOk x:=by
 intro x a;unfold Zdo at a;split at a
 ·rename_i b _;cases hd:l.drop (b+1)with
  | nil=>rw[hd]at a;cases a
  | cons c t=>
   rw[hd]at a;obtain⟨y,_,rfl⟩:=Ybe.1 a;exact ZCr y
 ·cases a
theorem Zoa{α:Type}(Q:Nat->α->Prop):∀n:Nat,(∀j,j<n->∃z,Q j z)->∃zs:List α,zs.length=n/\∀j (h:j<zs.length),Q j zs[j]
 | 0,_=>⟨[],rfl,fun j h=>absurd h (Ya1 _)⟩
 | n + 1, h => by
   obtain⟨zs,c,f⟩:=Zoa Q n (fun j d=>h j Om);obtain⟨z,g⟩:=h n Om;refine⟨zs++[z],by simp[c],fun j d=>?_⟩;by_cases a:j<zs.length
   · rw[List.getElem_append_left a];exact f j a
   · have e:j=zs.length:=by simp at d;omega
     subst e;rw[List.getElem_append_right (Yac _)];simp only[Yfw,List.getElem_cons_zero];rw[c];exact g
theorem ZMv(zs:List SZ)(rs:List (Value×Value×Value))(a:rs.length=zs.length)(h:∀j (d:j<zs.length),rs[j]?=some (.string zs[j].1,zs[j].2.1,zs[j].2.2.1)):ZJM zs=ZJD rs:=by
 induction zs generalizing rs with
 | nil => cases rs with
   | nil=>rfl
   | cons _ _=>simp at a
 | cons z zs ih=>
  cases rs with
  | nil=>simp at a
  | cons r rs=>
   have c:=h 0 (by simp);simp only[Ycy,List.getElem_cons_zero,Yci]at c;subst c;rw[ZJM,ZJD,ih rs (by simpa using a) (fun j d=>by have:=h (j+1) (by simp;omega);simpa using this)]
theorem ZoQ : ∀ (rest seen : List Entry), Zfk seen rest = none -> (rest.Pairwise fun a b => ZdO a ≠ ZdO b) /\ ∀ e ∈ rest, ∀ s ∈ seen, ZdO s ≠ ZdO e
  | [],_,_=>⟨List.Pairwise.nil,fun _ h=>by cases h⟩
  | e :: rest, seen, h => by
    unfold Zfk at h;split at h
    · cases h
    · rename_i i
      obtain⟨j,d⟩:=ZoQ rest (seen++[e]) h;refine⟨Ybg.2 ⟨fun b k=>d b k e (by simp),j⟩,fun f c s g=>?_⟩;rcases Yau.1 c with rfl|c
      · intro l
        refine i ?_;rw[Ydk,<-l];exact Ybe.2 ⟨s,g,rfl⟩
      · exact d f c s (Yc7 _ g)
theorem Ztn{ps:List Lab}(h:Zcc l=some ps):wrt ps=l:=by
 have:=ZE1 h
 rwa [Ztm ps _ (Yac _),Ya4]at this
theorem ZJT.sto(N:l.length<=6000)(h:ZJT w v l):∃ss:List SZ,StoV w v ss/\ZJQ ss=Ze6 l/\Dst (Ze6 l)/\ss.length<=30:=by
 obtain⟨es,rs,s,D,P,E,g,F⟩:=h
 have G : ∀ j (c : j < es.length), (es[j]).count <= 6001 := fun j c => (ZqJ s (by simp) (fun p H => by
   obtain⟨i,m,rfl⟩:=List.mem_iff_getElem.1 H;have:=Zkd 10 l i m;rw[Yaa,List.getElem?_eq_getElem m,Ya6]at this;omega)).2 _ (List.getElem_mem c)
 have t := Zoa (fun j (z : SZ) => ∃ c : j < es.length, rs[j]? = some (.string z.1, z.2.1, z.2.2.1) /\ z.2.2.2 = serE (split 10 l) es[j] /\ ZJ8 w z) es.length (fun j c => by
   obtain⟨nm,la,ln,lc,sa,sc,e1,e2,e3,e4,qs,e5,e6⟩:=g.2 j c;obtain⟨x,y,sa',sc',d1,d2⟩:=F j c;rw[e1]at d1;injection d1 with d1;injection d1 with _ d1;injection d1 with _ d1;injection d1 with d1 _ d3;subst d1 d3;have o:=ZK5 e6 e4;have u:=d2.1;rw[ZMt]at u;have d:(Zdo ((split 10 l).getD (es[j]).at_ [])).length=(es[j]).count:=by omega
   refine⟨(nm,.slice la ln lc,.slice sa (es[j]).count sc,serE (split 10 l) es[j]),c,e1,rfl,e2,⟨qs,e5,?_,?_,fun q I=>?_⟩,?_,?_,ZBM⟩
   · show qs.map bl2=(Zcc (es[j]).inside).getD []
     rw[e6];rfl
   · have:=o.1;rwa [Yak]at this
   · have:=o.2 (bl2 q) (Ybe.2 ⟨q,I,rfl⟩)
     have g1:q.1.size<=8:=by rw[<-Zd];exact this.1
     have g2:q.2.size<=8:=by rw[<-Zd];exact this.2
     exact⟨by omega,by omega⟩
   · show w.ownsRow 0 220 2 (.slice sa (es[j]).count sc) (Zdo ((split 10 l).getD (es[j]).at_ [])).length (Zca (Zdo ((split 10 l).getD (es[j]).at_ [])))
     rw[d];exact d2
   · show(Zdo ((split 10 l).getD (es[j]).at_ [])).length<=6001
     rw[d];exact G j c)
 obtain⟨zs,e,f⟩:=t;have r:Ze6 l=es.map (serE (split 10 l)):=by unfold Ze6;rw[s]
 refine⟨zs,⟨?_,by omega,fun z J=>?_⟩,?_,?_,by omega⟩
 ·have:=ZMv zs rs (by rw[g.1,e]) (fun j c=>(f j c).2.1);rw[this,e];exact E
 ·obtain⟨j,c,rfl⟩:=List.mem_iff_getElem.1 J;exact(f j c).2.2.2
 ·rw[r];unfold ZJQ;refine List.ext_getElem (by rw[Yak,Yak,e]) (fun j A O=>?_);rw[List.getElem_map,List.getElem_map];exact(f j (by simpa using A)).2.2.1
 ·rw[r];unfold Dst;rw[Ybx];refine Ycx ?_ (ZoQ es [] D).1;intro a b K L B C;obtain⟨i,m,rfl⟩:=List.mem_iff_getElem.1 K;obtain⟨k,M,rfl⟩:=List.mem_iff_getElem.1 L;obtain⟨_,_,_,_,_,_,_,_,n1,_,q1,_,l1⟩:=g.2 i m;obtain⟨_,_,_,_,_,_,_,_,n2,_,q2,_,l2⟩:=g.2 k M;refine B ((Zxv n1 n2).2 ⟨C.1,?_⟩);have n:=C.2;unfold serE at n;simp only[l1,l2,Ya6]at n;rw[Ztn l1,Ztn l2]at n;exact n
theorem ZoJ(n:Nat):(decS n).length<=n+1:=by
 induction n using Nat.strongRecOn with
 | ind n ih=>
  by_cases h:n<=9
  ·rw[Zh0 h];simp
  ·rw[Zi6 h,Yab];have:=ih (n / 10) Om;simp only[Yaj,Ybq];omega
theorem Zlj(n:Int)(h:vOk n):(decI n).length<=1000000002:=by
 unfold vOk at h;unfold decI;split
 ·have:=ZoJ n.natAbs;rw[Yab,Ybj];omega
 ·have:=ZoJ n.toNat;omega
theorem ZKm(n:Int)(h:vOk n) :
  CP 53 #[Vi n] w fun e u=>∃r:BA,e=.returned (.string r)/\Hid (bl r=decI n)/\BW w u:=by
 obtain⟨l,o⟩:=h;by_cases d:n<0
 ·obtain⟨m,p⟩:∃m:Nat,n=-(m:Int):=⟨n.natAbs,by omega⟩
  have g:Hid (decI n=[45]++decS m):=hid (by unfold decI;rw[if_pos d];congr 2;omega);have f:m<=1000000000:=by omega
  have j:0<m:=by omega
  have k : -n=(m:Int):=by omega
  go_enter func53,ntmps53
  go_wp2_with fail
  refine(ZKV m f).mono ?_;rintro e y ⟨r,rfl,i,a,c⟩;have a1:∀W,(Op.stringOp .add ⟨#[45]⟩ r).run prog W=.ok (.string (⟨#[45]⟩++r)) W:=fun W=>run_string_add_sum W _ _ (by show 1+r.size<=_;omega);go_wp2;go_ret;exact⟨_,rfl,hid (by rw[g.out,ZJI,a.out];rfl),c⟩
 ·obtain⟨m,rfl⟩:∃m:Nat,n=(m:Int):=⟨n.toNat,by omega⟩
  refine(ZKV m Om).mono ?_;rintro e y ⟨r,rfl,i,a,c⟩;exact⟨r,rfl,hid (by unfold decI;rw[if_neg d];exact a.out),c⟩
theorem ZN3(l:List Lab)(h:∀p∈l,p.1.length<=6000/\p.2.length<=6000):(wrt l).length<=12002*l.length:=by
 refine Yah (ZeS _) ?_
 induction l with
 | nil=>exact Yac _
 | cons p l ih=>
  have c:=h p (Yay ..);have d:=ih (fun q a=>h q (Yam _ a));simp only[Ybb,nw,Yaj,lab1,Yab,Ybq];omega
theorem LabsV.wlen{l:List Lab}{qs:List (BA×BA)}(h:LabsV w v l qs):(wrt l).length<=72024002:=by
 have d:=ZN3 l (by
  rw[<-h.say];intro p a;obtain⟨q,c,rfl⟩:=Ybe.mp a;have:=h.ok q c;rw[<-Zd,<-Zd]at this;exact this)
 have e:l.length<=6001:=by rw[<-h.say,Yak];exact h.len
 omega
def elsS(zs:List (Value×El)):LB:=(zs.map fun z=>elS z.2).flatten
theorem ZMh(zs:List (Value×El))(k:Nat)(h:k<zs.length):elsS (zs.take (k+1))=elsS (zs.take k)++elS (zs[k]).2:=by
 unfold elsS;rw[List.take_succ_eq_append_getElem h,Yaq,Ygi];simp
theorem ZKQ(l:LB):bl ⟨l.toArray⟩=l:=by simp[bl]
theorem ZLr(t:Int)(M:vOk t)(n:Int)(zs:List (Value×El))(w:World)(h:ElsV w v zs)(a0:zs.length<=1000) :
  CP 28 #[Vi t,.agg #[.bool false,Vi n,v]] w fun e u=>∃r:BA,e=.returned (.string r)/\Hid (bl r=Zel t (.inr (zs.map (·.2))))/\r.size<=2000000000000/\BW w u:=by
 obtain⟨sa,sc,rfl⟩:=Zl h.own;have N:Hid (ElsV w (.slice sa zs.length sc) zs):=h;clear h;go_enter func28,ntmps28
 go_wp2_with fail
 refine(ZKm t M).mono ?_;rintro e y ⟨r1,rfl,C,m⟩;have D:Hid (BW w y):=hid (Zbal.trans (m.mono (by simp)));have o:Hid (BAt y w.heap.size [.bool false,Vi n,.slice sa zs.length sc] 76):=hid ((m.block _ (by simp)).trans (Go.Deep.blk_alloc_new _ _));clear m;have a5:r1.size<=1000000002:=by rw[ZU C.out];exact Zlj t M
 have x0:=o.cell 0;simp only[Ycy]at x0;go_wp2
 go_loopg [5,6] zs.length (fun gk v5 v6 wr=>∃(k:Nat) (r:BA),k<=zs.length/\gk=zs.length - k/\v6=Vi k/\v5=.string r/\r.size<=1000000002+1100000000*k/\Hid (bl r=decI t++elsS (zs.take k))/\Hid (BW w wr)/\Hid (BAt wr w.heap.size [.bool false,Vi n,.slice sa zs.length sc] 76))
 case atStart=>exact⟨0,r1,Yag _,rfl,rfl,rfl,by omega,hid (by rw[C.out];simp[elsS]),D,o⟩
 case round=>
  clear D o x0;obtain⟨k,r,hk,a6,rfl,rfl,a7,O,B,J⟩:=hrel;have x2:=J.cell 2;simp only[Zget]at x2;have E:=J.lt;by_cases i:k<zs.length
  ·obtain⟨g,cpx,Y⟩:=ZF N.own Om;injection Y with hg1 _ hg2;subst hg1 hg2;have j:Hid (ElsV wr (.slice (some ⟨g,0,none⟩) zs.length sc) zs):=N.below B.out;have r0:=Zi j.own _ _ (by rw[(ZJy zs k).1,List.getElem?_eq_getElem i];rfl);have r1':=Zi j.own _ _ (by rw[(ZJy zs k).2,List.getElem?_eq_getElem i];rfl);have l:=Z1 j.own;have P:=j.ok _ (List.getElem_mem i);have Z:=hid (ZMh zs k i);generalize zs[k]=z at *
   obtain⟨zv,zl,zn⟩:=z;obtain⟨⟨qz,f⟩,q⟩:=P;simp only at r0 r1' f q;obtain⟨lz,cz,rfl⟩:=Zl f.own;have Q:Hid (LabsV wr (.slice lz qz.length cz) zl qz):=f;have F:=f.wlen;have G:=Zlj zn q;clear f;obtain⟨rx,H⟩:∃rx:BA,rx=⟨(wrt zl).toArray⟩:=⟨_,rfl⟩
   obtain⟨rd,I⟩:∃rd:BA,rd=⟨(decI zn).toArray⟩:=⟨_,rfl⟩
   have s:Hid (bl rx=wrt zl):=hid (by rw[H,ZKQ]);have x:Hid (bl rd=decI zn):=hid (by rw[I,ZKQ]);have sx:rx.size<=72024002:=by rw[ZU s.out];exact F
   have sd:rd.size<=1000000002:=by rw[ZU x.out];exact G
   clear H I F G;have z1:(r++⟨#[32,123]⟩:BA).size=r.size+2:=by rw[Yaz];rfl
   have z2:((r++⟨#[32,123]⟩)++rx:BA).size=r.size+2+rx.size:=by rw[Yaz,z1]
   have z3:(((r++⟨#[32,123]⟩)++rx)++⟨#[125]⟩:BA).size=r.size+2+rx.size+1:=by rw[Yaz,z2];rfl
   have a1:∀W,(Op.stringOp .add r ⟨#[32,123]⟩).run prog W=.ok (.string (r++⟨#[32,123]⟩)) W:=fun W=>run_string_add_sum W _ _ (by show r.size+2<=_;omega);have a2:∀W,(Op.stringOp .add (r++⟨#[32,123]⟩) rx).run prog W=.ok (.string ((r++⟨#[32,123]⟩)++rx)) W:=fun W=>run_string_add_sum W _ _ (by rw[z1];omega);have a3:∀W,(Op.stringOp .add ((r++⟨#[32,123]⟩)++rx) ⟨#[125]⟩).run prog W=.ok (.string (((r++⟨#[32,123]⟩)++rx)++⟨#[125]⟩)) W:=fun W=>run_string_add_sum W _ _ (by rw[z2];show _+1<=_;omega);have a4:∀W,(Op.stringOp .add (((r++⟨#[32,123]⟩)++rx)++⟨#[125]⟩) rd).run prog W=.ok (.string ((((r++⟨#[32,123]⟩)++rx)++⟨#[125]⟩)++rd)) W:=fun W=>run_string_add_sum W _ _ (by rw[z3];omega);have R:((((r++⟨#[32,123]⟩)++rx)++⟨#[125]⟩)++rd:BA).size<=1000000002+1100000000*(k+1):=by rw[Yaz,z3];omega
   have K:Hid (bl ((((r++⟨#[32,123]⟩)++rx)++⟨#[125]⟩)++rd)=decI t++elsS (zs.take (k+1))):=hid (by
    rw[ZJI,ZJI,ZJI,ZJI,O.out,s.out,x.out,Z.out];simp[elS,bl])
   clear z1 z2 z3
   go_upto_region 7 with fail
   go_region_held3 (fun u => u.cell? ⟨w.heap.size, 2, none⟩ = some (.slice (some ⟨g, 0, none⟩) zs.length sc) /\ u.cell? ⟨g, k * 2, none⟩ = some (.slice lz qz.length cz) /\ u.cell? ⟨g, k * 2 + 1, none⟩ = some (Vi zn)) (first | exact ⟨(d.cell (p := ⟨w.heap.size, 2, none⟩) E).trans x2, (d.cell (p := ⟨g, k * 2, none⟩) l).trans r0, (d.cell (p := ⟨g, k * 2 + 1, none⟩) l).trans r1'⟩ | exact ⟨(a.cell (p := ⟨w.heap.size, 2, none⟩) E).trans x2, (a.cell (p := ⟨g, k * 2, none⟩) l).trans r0, (a.cell (p := ⟨g, k * 2 + 1, none⟩) l).trans r1'⟩ | exact ⟨x2, r0, r1'⟩ | go_keep) (first
     | (go_at_call 52
        refine(ZJ3 zl qz (by first|exact Q.below ⟨a.os,a.tape,a.output,a.size,a.block⟩|exact Q.below ⟨rfl,rfl,rfl,Yac _,fun _ _=>rfl⟩)).mono ?_;rintro e S ⟨q5,rfl,T,n5,A⟩;obtain rfl:q5=rx:=ZcW (by rw[T.out,s.out])
        first
          | have d:Hid (BW wr S):=hid (by rw[A];exact⟨a.os,a.tape,a.output,a.size,a.block⟩)
          | have a:Hid (BW wr S):=hid (by rw[A];exact⟨rfl,rfl,rfl,Yac _,fun _ _=>rfl⟩)
        clear A)
     | (go_at_call 53
        refine(ZKm zn q).mono ?_;rintro e L ⟨q6,rfl,U,c⟩;obtain rfl:q6=rd:=ZcW (by rw[U.out,x.out])
        first
          | have d:Hid (BW wr L):=hid (a.trans ((⟨c.os,c.tape,c.output,c.size,c.block⟩:Below _ _ L).mono a.size))
          | have a:Hid (BW wr L):=hid ⟨c.os,c.tape,c.output,c.size,c.block⟩
        clear c))
   all_goals
    have V:=hid (B.trans (d.mono B.size));have X:=hid (J.below d.out);go_wp2
    go_roundg (zs.length - (k+1))
    case measure=>omega
    case rel=>exact⟨k+1,_,by omega,rfl,by go_num,rfl,R,K,V,X⟩
  ·obtain rfl:k=zs.length:=by omega
   have K:Hid (bl r=Zel t (.inr (zs.map (·.2)))):=hid (by
    rw[O.out,Ya4];unfold elsS;show _=decI t++((zs.map (·.2)).map elS).flatten;rw[Yb1];rfl)
   go_wp2;go_ret;exact⟨_,rfl,K,by omega,B.out⟩
theorem ZLq(t:Int)(i:vOk t)(n:Int)(j:vOk n)(ea:Option Addr)(el ec:Nat)(w:World) :
  CP 28 #[Vi t,.agg #[.bool true,Vi n,.slice ea el ec]] w fun e u=>∃r:BA,e=.returned (.string r)/\Hid (bl r=Zel t (.inl n))/\r.size<=2000000000000/\BW w u:=by
 go_enter func28,ntmps28
 go_wp2_with fail
 refine(ZKm t i).mono ?_;rintro e y ⟨r1,rfl,d,c⟩;have f:Hid (BW w y):=hid (Zbal.trans (c.mono (by simp)));have g:Hid (BAt y w.heap.size [.bool true,Vi n,.slice ea el ec] 76):=hid ((c.block _ (by simp)).trans (Go.Deep.blk_alloc_new _ _));clear c;have o:r1.size<=1000000002:=by rw[ZU d.out];exact Zlj t i
 have x0:=g.cell 0;have x1:=g.cell 1;simp only[Zget]at x0 x1;have a1:∀W,(Op.stringOp .add r1 ⟨#[32]⟩).run prog W=.ok (.string (r1++⟨#[32]⟩)) W:=fun W=>run_string_add_sum W _ _ (by show r1.size+1<=_;omega);have z1:(r1++⟨#[32]⟩:BA).size=r1.size+1:=by rw[Yaz];rfl
 go_wp2_with fail
 refine(ZKm n j).mono ?_;rintro e z ⟨r2,rfl,h,a⟩;have p:r2.size<=1000000002:=by rw[ZU h.out];exact Zlj n j
 have a2:∀W,(Op.stringOp .add (r1++⟨#[32]⟩) r2).run prog W=.ok (.string ((r1++⟨#[32]⟩)++r2)) W:=fun W=>run_string_add_sum W _ _ (by rw[z1];omega)
 have m:Hid (bl ((r1++⟨#[32]⟩)++r2)=Zel t (.inl n)):=hid (by
  rw[ZJI,ZJI,d.out,h.out];rfl)
 have k:((r1++⟨#[32]⟩)++r2:BA).size<=2000000000000:=by rw[Yaz,z1];omega
 have l:Hid (BW w z):=hid (f.trans (Below.mono ⟨a.os,a.tape,a.output,a.size,a.block⟩ f.size));clear z1 a;go_wp2;go_ret;exact⟨_,rfl,m,k,l.out⟩
def TimP(w':World)(f l s:Int)(ft:Addr)(tv ev:Value):Prop:=(Zdr f l s=none/\tv=.slice none 0 0/\ev=.iface 389 (.pointer (some ft)))∨(∃ts,Zdr f l s=some ts/\ts.length<=50/\(∀t∈ts,-1000000<=t/\t<=1000000)/\ev=.nilIface/\w'.ownsRow 0 3 1 tv ts.length (ts.map (Value.int .i64)))
theorem ZyO(n:Nat):(madeCells #[Value.int .i64 0] n).toList=List.replicate n (Value.int .i64 0):=by
 refine List.ext_getElem (by simp[madeCells]) (fun i a c=>?_);simp[madeCells,Nat.mod_one]
theorem ZrI(f l s:Int)(ft:Addr)(w:World)(y:w.cell? ⟨7,0,none⟩=some (.iface 389 (.pointer (some ft)))) :
  CP 40 #[.agg #[Vi f,Vi l,Vi s]] w fun e u=>∃tv ev,e=.returned (.tuple #[tv,ev])/\Hid (TimP u f l s ft tv ev)/\BW w u:=by
 obtain⟨i0,V,I,J,K⟩:=info_parts Tryz.infoInt3;have L:7<w.heap.size:=Yai _ _ y;have F:∀o,(w.alloc o).cell? ⟨7,0,none⟩=some (.iface 389 (.pointer (some ft))):=fun o=>by rw[Ybm _ _ _ L];exact y
 by_cases j:badT f l s
 ·have n:Hid (∀u,TimP u f l s ft S0 (.iface 389 (.pointer (some ft)))):=hid (fun u=>Or.inl ⟨by unfold Zdr;rw[if_pos j],rfl,rfl⟩);by_cases c1:(-1000000<=f/\f<=1000000)
  ·obtain⟨d1,d2⟩:=c1;by_cases c2:(-1000000<=l/\l<=1000000)
   ·obtain⟨d3,d4⟩:=c2;by_cases c3:l<f
    ·clear j;go_enter func40,ntmps40
     go_wp2_with (go_at_call 84;refine(Zf9).mono ?_;rintro e u ⟨rfl,rfl⟩)
     go_region
     all_goals (try go_wp2)
     all_goals (go_ret2;exact⟨_,_,rfl,hid (n.out _),belB⟩)
    ·by_cases c4:s<1
     ·clear j;go_enter func40,ntmps40
      go_wp2_with (go_at_call 84;refine(Zf9).mono ?_;rintro e u ⟨rfl,rfl⟩)
      go_region
      all_goals (try go_wp2)
      all_goals (go_ret2;exact⟨_,_,rfl,hid (n.out _),belB⟩)
     ·have c5:1000000<s:=by unfold badT at j;omega
      clear j;go_enter func40,ntmps40
      go_wp2_with (go_at_call 84;refine(Zf9).mono ?_;rintro e u ⟨rfl,rfl⟩)
      go_region
      all_goals (try go_wp2)
      all_goals (go_ret2;exact⟨_,_,rfl,hid (n.out _),belB⟩)
   ·have c3:(decide (-1000000<=l) && decide (l<=1000000))=false:=by simp;omega
    clear j c2;go_enter func40,ntmps40
    go_wp2_with (go_at_call 84;refine(Zf9).mono ?_;rintro e u ⟨rfl,rfl⟩)
    go_region
    all_goals (try go_wp2)
    all_goals (go_ret2;exact⟨_,_,rfl,hid (n.out _),belB⟩)
  ·have c3:(decide (-1000000<=f) && decide (f<=1000000))=false:=by simp;omega
   clear j c1;go_enter func40,ntmps40
   go_wp2_with (go_at_call 84;refine(Zf9).mono ?_;rintro e u ⟨rfl,rfl⟩)
   go_region
   all_goals (try go_wp2)
   all_goals (go_ret2;exact⟨_,_,rfl,hid (n.out _),belB⟩)
 ·have G:Hid (Zdr f l s=if 50<cnt l s f then none else some ((List.range (cnt l s f)).map fun(i:Nat)=>f+(i:Int)*s)):=hid (ZsN j);have M : -1000000<=f/\f<=1000000/\-1000000<=l/\l<=1000000/\1<=s/\s<=1000000/\f<=l:=by unfold badT at j;omega
  obtain⟨d1,d2,d3,d4,d5,d6,d7⟩:=M;clear j;obtain⟨m,x⟩:∃m:Nat,(l - f).tdiv s=(m:Int):=⟨((l - f).tdiv s).toNat,by have:=Int.tdiv_nonneg (a:=l - f) (b:=s) Om Om;omega⟩
  have A:cnt l s f=m+1:=by
   unfold cnt;rw[if_pos d7,<-Yes Om,x];omega
  have a0:m<=2000000:=by
   have c:((l - f).tdiv s).natAbs<=(l - f).natAbs:=by rw[Yff];exact Yfg _ _
   rw[x]at c;omega
  rw[A]at G;have a1:(s == 0)=false:=by rw[beq_eq_false_iff_ne];omega
  have N:s≠0:=by omega
  clear A;by_cases B:50<m+1
  ·have n:Hid (∀u,TimP u f l s ft S0 (.iface 389 (.pointer (some ft)))):=hid (fun u=>Or.inl ⟨by rw[G.out,if_pos B],rfl,rfl⟩);have O:(50:Int)<(m:Int)+1:=by omega
   go_enter func40,ntmps40
   go_wp2_with (go_at_call 84;refine(Zf9).mono ?_;rintro e u ⟨rfl,rfl⟩)
   go_region
   all_goals (try go_wp2)
   all_goals (go_ret2;exact⟨_,_,rfl,hid (n.out _),belB⟩)
  ·have n:Hid (Zdr f l s=some ((List.range (m+1)).map fun(i:Nat)=>f+(i:Int)*s)):=hid (by rw[G.out,if_neg B]);have O:(m:Int)+1<=50:=by omega
   have C : Hid (∀ i, i < m + 1 -> -1000000 <= f + (i : Int) * s /\ f + (i : Int) * s <= 1000000) := hid (fun i D => by
     have c:(i:Int)*s<=(m:Int)*s:=Int.mul_le_mul_of_nonneg_right Om Om
     have h2:(m:Int)*s<=l - f:=by
       rw[<-x,Yes Om];exact Int.ediv_mul_le _ N
     have h3:0<=(i:Int)*s:=Int.mul_nonneg Om Om;omega)
   go_enter func40,ntmps40
   go_wp2_with (first
     | (go_at_call 84;refine(Zf9).mono ?_;rintro e u ⟨rfl,rfl⟩)
     | (at_make;refine wpList_make_full _ rfl _ _ 38 rfl w.heap.size 3 i0 _ 1 underlying38 V I J _ _ _ _ (m+1) rfl rfl ?e1 ?e2 ?b2 ?b3 ?b4 ?_))
   case e1=>rfl
   case e2=>rfl
   case b2=>rw[K];omega
   case b3=>unfold maxLen;omega
   case b4=>simp
   rw[ZyO];intro z r d;have P:Hid (BAt z w.heap.size [Vi f,Vi l,Vi s] 23):=hid ((d.block _ (by simp) (by simp)).trans (Go.Deep.blk_alloc_new _ _));have Q:Hid (BW w z):=hid (Zbal.grown d (by simp) (fun q W=>by cases W));clear d x F;have X:w.heap.size+1<z.heap.size:=Z1 r;go_wp2
   go_loopw [50] (fun i wr => ∃ k : Nat, k <= m + 1 /\ i = Vi k /\ Hid (wr.ownsRow w.heap.size 3 1 (.slice (some ⟨w.heap.size + 1, 0, none⟩) (m + 1) (m + 1)) (m + 1) ((List.range k).map (fun (i : Nat) => Value.int .i64 (f + (i : Int) * s)) ++ List.replicate (m + 1 - k) (Value.int .i64 0))) /\ Hid (BAt wr w.heap.size [Vi f, Vi l, Vi s] 23) /\ Hid (BW w wr))
     (fun i _=>m+1 - (intOf i).toNat)
   case atStart=>exact⟨0,Yag _,rfl,hid (by simpa using r),P,Q⟩
   case round=>
    obtain⟨k,hk,rfl,v,H,R⟩:=hrel;by_cases E:k<m+1
    ·have x0:=H.cell 0;have x2:=H.cell 2;simp only[Zget]at x0 x2;have a2:=C.out k E;have a3:0<=(k:Int)*s:=Int.mul_nonneg Om Om
     have a4:(Go.IntKind.i64).wrap ((k:Int)*s)=(k:Int)*s:=by
      generalize(k:Int)*s=ks at *
      rw[Ybo];omega
     have a5:(Go.IntKind.i64).wrap (f+(k:Int)*s)=f+(k:Int)*s:=by
      generalize(k:Int)*s=ks at *
      rw[Ybo];omega
     have U:wr.cell? ⟨w.heap.size+1,k,none⟩=some (Vi 0):=Zi v.out _ _ (by rw[Yb3 (by simp),Yak,List.length_range,Yfw,List.getElem?_replicate,if_pos Om])
     have a6:wr.frozen? ⟨w.heap.size+1,k,none⟩=false:=by
      rcases v.2 with ⟨h,_⟩|⟨g,cap,cur,h,_,Y,_⟩
      ·cases h
      ·injection h with c;injection c with c;injection c with c;subst c;simp[World.frozen?,Y]
     have a7:(k:Int)<(m:Int)+1:=by omega
     have S : Hid ((wr.setCell ⟨w.heap.size + 1, k, none⟩ (Vi (f + (k : Int) * s))).ownsRow w.heap.size 3 1 (.slice (some ⟨w.heap.size + 1, 0, none⟩) (m + 1) (m + 1)) (m + 1) ((List.range (k + 1)).map (fun (i : Nat) => Value.int .i64 (f + (i : Int) * s)) ++ List.replicate (m + 1 - (k + 1)) (Value.int .i64 0))) := hid (by
       have:=ZmD v.out k (Vi (f+(k:Int)*s));rw[ZB6 (m+1) k (fun(i:Nat)=>Value.int .i64 (f+(i:Int)*s)) E]at this;exact this)
     go_wp2
     go_roundw
     case rel=>exact⟨k+1,by omega,by go_num,S,hid (H.other (p:=⟨w.heap.size+1,k,none⟩) (by show w.heap.size≠w.heap.size+1;omega) _),hid (R.setCell (p:=⟨w.heap.size+1,k,none⟩) (by show w.heap.size<=w.heap.size+1;omega) _)⟩
     case measure=>simp[intOf];omega
    ·obtain rfl:k=m+1:=by omega
     have T : Hid (TimP wr f l s ft (.slice (some ⟨w.heap.size + 1, 0, none⟩) (m + 1) (m + 1)) .nilIface) := hid (Or.inr ⟨_, n.out, by simp; omega, fun t Z => by
       obtain⟨i,D,rfl⟩:=Ybe.1 Z;exact C.out i (Yb9.1 D),rfl,by
       have c:=v.out;rw[Yfw,List.replicate_zero,Yca]at c;rw[Yak,List.length_range,Yb1];exact c.mono (Yag _)⟩)
     go_wp2;go_ret2;exact⟨_,_,rfl,T,R.out⟩
theorem ZnW{T e:TypeId}{p:Value}(h:Lib.BuilderAtF T e B b p bs w)(c:BW w w'):Lib.BuilderAtF T e B b p bs w':=by
 obtain⟨i,v,d,⟨j,k⟩,l⟩:=h;refine⟨i,v,(c.block b (Yae.1 d).1).trans d,⟨j,?_⟩,l⟩;rcases k with a|⟨g,cap,cur,fz,a,m,f,n⟩
 ·exact Or.inl a
 ·exact Or.inr ⟨g,cap,cur,fz,a,m,(c.block g (Yae.1 f).1).trans f,n⟩
theorem Zt7{T e:TypeId}(h:Lib.IsBuilderF T e B b bs w)(a:BW w w'):Lib.IsBuilderF T e B b bs w':=by
 rcases h with h|h
 ·exact Or.inl (ZnW h a)
 ·exact Or.inr (ZnW h a)
theorem ZzT{e:TypeId}{b:Option Nat}(h:BW w w'):Lib.OthersKept e b w w':=fun k _ a _ _=>(h.block k (Yae.1 a).1).trans a
structure WB (w:World) (B b:Nat) (l:LB):Prop where
 bd:Lib.IsBuilderF 101 5 B b (Lib.byteCells l) w
 le:B<=w.heap.size
structure WK (B b:Nat) (w w':World):Prop where
 low:Below B w w'
 kept:Lib.OthersKept 5 (some b) w w'
theorem WK.refl(B b:Nat)(w:World):WK B b w w:=⟨Yaf _ _,Lib.OthersKept.refl _ _ _⟩
theorem WK.trans{z a:World}(h:WK B b y z)(c:WK B b z a):WK B b y a:=⟨h.low.trans c.low,h.kept.trans c.kept⟩
theorem WK.below(h:BW w w')(a:B<=w.heap.size):WK B b w w':=⟨h.mono a,ZzT h⟩
theorem WB.below(h:WB w B b l)(a:BW w w'):WB w' B b l:=⟨Zt7 h.bd a,Yah h.le a.size⟩
theorem WB.ne(h:WB w B b l):b<w.heap.size/\∃c,w.heap[b]?=some (.cells c 101 (0,0)):=by
 rcases h.bd with h|h
 ·obtain⟨_,v,a,_⟩:=h;exact⟨(Yae.1 a).1,_,a⟩
 ·obtain⟨_,v,a,_⟩:=h;exact⟨(Yae.1 a).1,_,a⟩
theorem WK.block(f:WB w B b l)(h:WK B b w w'){c:Array Value}{t:TypeId}{fr:Nat×Nat}(d:w.heap[a]?=some (.cells c t fr))(g:t≠101)(i:t≠5):w'.heap[a]?=some (.cells c t fr):=by
 refine h.kept a _ d ?_ ?_
 ·intro e;injection e with e;subst e;obtain⟨_,c',j⟩:=f.ne;rw[j]at d;injection d with d;injection d with _ d;exact g d.symm
 ·intro c' fz e;injection e with _ e;exact i e
theorem WK.bat(d:WB w B b l)(h:WK B b w w'){t:TypeId}(e:BAt w a c t)(f:t≠101)(g:t≠5):BAt w' a c t:=WK.block d h e f g
theorem WK.own(d:WB w B b l)(h:WK B b w w'){base:Nat}{e:TypeId}{size:Nat}{n:Nat}(c:w.ownsRow base e size v n xs)(f:e≠101)(i:e≠5):w'.ownsRow base e size v n xs:=by
 refine⟨c.1,?_⟩;rcases c.2 with a|⟨g,cap,cur,a,j,k,m⟩
 ·exact Or.inl a
 ·exact Or.inr ⟨g,cap,cur,a,j,WK.block d h k f i,m⟩
theorem Zn4(l:LB)(s:BA):Lib.byteCells l++Lib.strCells s=Lib.byteCells (l++bl s):=by
 unfold Lib.byteCells Lib.strCells bl;rw[Yaq]
theorem Zlk(n:Nat):Lib.decDigits n=decS n:=by
 induction n using Nat.strongRecOn with
 | _ n ih=>
  by_cases h:n<=9
  ·rw[Zh0 h,Lib.decDigits,dif_pos Om];rfl
  ·rw[Zi6 h,Lib.decDigits,dif_neg Om,ih (n / 10) Om];rfl
def ZR (w : World) : Prop := Lib.TabIs Tryz.prog w "internal/strconv.uint64pow10" .u64 Lib.pow10Tab
theorem Tryz.gPow : Tryz.prog.globalNamed "internal/strconv.uint64pow10" = some 15 := by kernel_rfl
theorem ZR.low(h:ZR w)(a:Below B w w')(c:20<=B):ZR w':=var?_below a Tryz.gPow (Yaw Dc c) h
structure ArI (w wr:World) (xa ya:List Value) (vv:Value) (zs:List (Value×El)):Prop where
 bel:BW w wr
 xb:BAt wr w.heap.size xa 76
 yb:BAt wr (w.heap.size+1) ya 76
 rb:BAt wr (w.heap.size+2) [.bool false,Vi 0,S0] 76
 vb:BAt wr (w.heap.size+3) [.bool false,Vi 0,vv] 76
 own:wr.ownsRow (w.heap.size+4) 128 2 vv zs.length (ZJp zs)
theorem ArI.below(h:ArI w wr xa ya vv zs)(a:BW wr w'):ArI w w' xa ya vv zs:=
 ⟨h.bel.trans (a.mono h.bel.size),h.xb.below a,h.yb.below a,h.rb.below a,h.vb.below a,Zn h.own a⟩
theorem ArI.app{v':Value}(h:ArI w wr xa ya vv zs)(c:wr.grownBy y vv.ownBlock)(g:y.ownsRow (w.heap.size+4) 128 2 v' zs'.length (ZJp zs')) :
  ArI w (y.setCell ⟨w.heap.size+3,2,none⟩ v') xa ya v' zs':=by
 have i:BAt y w.heap.size xa 76:=h.xb.ownGrown h.own c Dc;have k:BAt y (w.heap.size+1) ya 76:=h.yb.ownGrown h.own c Dc;have l:BAt y (w.heap.size+2) [.bool false,Vi 0,S0] 76:=h.rb.ownGrown h.own c Dc;have d:BAt y (w.heap.size+3) [.bool false,Vi 0,vv] 76:=h.vb.ownGrown h.own c Dc;have a:∀j,j≠w.heap.size+3->(y.setCell ⟨w.heap.size+3,2,none⟩ v').heap[j]?=y.heap[j]?:=fun j f=>Go.Deep.blk_setCell_other _ _ _ _ f;refine⟨(ZJO h.bel c (fun q m=>by have:=(h.own.lt q m).1;omega)).setCell (p:=⟨w.heap.size+3,2,none⟩) (by show w.heap.size<=w.heap.size+3;omega) _,(a _ Om).trans i,(a _ Om).trans k,(a _ Om).trans l,?_,ZdA g (fun j f=>a j (fun e=>Zcx g d Dc (by rw[f,e])))⟩;unfold BAt at d ⊢;simp only[World.setCell,Ybn,d,if_true,Ybf];rfl
theorem BAt.alloc{t:TypeId}(h:BAt w a c t)(o:Obj):BAt (w.alloc o) a c t:=h.below Zbal
theorem ArI.start(w:World)(x0 x1 x2 y0 y1 y2:Value):ArI w ((((w.alloc (.cells #[x0,x1,x2] 76)).alloc (.cells #[y0,y1,y2] 76)).alloc (.cells #[.bool false,Vi 0,S0] 76)).alloc (.cells #[.bool false,Vi 0,S0] 76)) [x0,x1,x2] [y0,y1,y2] S0 []:=by
 have g3:BAt (w.alloc (.cells #[x0,x1,x2] 76)) w.heap.size [x0,x1,x2] 76:=Go.Deep.blk_alloc_new w _
 have g2:BAt ((w.alloc (.cells #[x0,x1,x2] 76)).alloc (.cells #[y0,y1,y2] 76)) (w.heap.size+1) [y0,y1,y2] 76:=by
  have:=Go.Deep.blk_alloc_new (w.alloc (.cells #[x0,x1,x2] 76)) (.cells #[y0,y1,y2] 76)
  rwa [Yf7]at this
 have g1:BAt (((w.alloc (.cells #[x0,x1,x2] 76)).alloc (.cells #[y0,y1,y2] 76)).alloc (.cells #[.bool false,Vi 0,S0] 76)) (w.heap.size+2) [.bool false,Vi 0,S0] 76:=by
  have:=Go.Deep.blk_alloc_new ((w.alloc (.cells #[x0,x1,x2] 76)).alloc (.cells #[y0,y1,y2] 76)) (.cells #[.bool false,Vi 0,S0] 76)
  rwa [Yf7,Yf7]at this
 have g0:=Go.Deep.blk_alloc_new (((w.alloc (.cells #[x0,x1,x2] 76)).alloc (.cells #[y0,y1,y2] 76)).alloc (.cells #[.bool false,Vi 0,S0] 76)) (.cells #[.bool false,Vi 0,S0] 76);rw[Yf7,Yf7,Yf7]at g0;exact⟨belB,((g3.alloc _).alloc _).alloc _,(g2.alloc _).alloc _,g1.alloc _,g0,Ybc _ _ _ _⟩
theorem ZJw(h:W.cell? p=some v)(o:Obj):(W.alloc o).cell? p=some v:=by rw[World.cell?_alloc_some _ _ _ (by rw[h];rfl)];exact h
theorem ZJx{r:Option Nat}(c:W.grownBy y r)(h:W.cell? p=some v)(a:some p.block≠r):y.cell? p=some v:=(c.cell_far p (Yai W p h) a).trans h
theorem ArI.done{va:Option Addr}{vn vc:Nat}(h:ArI w wr xa ya (.slice va vn vc) os)(f:os.length<=1000000)(d:∀z∈os,ElOk wr z) :
  BAt (set3 wr (w.heap.size+2) (.bool false) (Vi 0) (.slice va vn vc)) (w.heap.size+2) [.bool false,Vi 0,.slice va vn vc] 76/\ElsV (set3 wr (w.heap.size+2) (.bool false) (Vi 0) (.slice va vn vc)) (.slice va vn vc) os/\BW w (set3 wr (w.heap.size+2) (.bool false) (Vi 0) (.slice va vn vc)):=by
 have g:BW w (set3 wr (w.heap.size+2) (.bool false) (Vi 0) (.slice va vn vc)):=(((h.bel.setCell (p:=⟨w.heap.size+2,0,none⟩) (by show w.heap.size<=w.heap.size+2;omega) _).setCell (p:=⟨w.heap.size+2,1,none⟩) (by show w.heap.size<=w.heap.size+2;omega) _).setCell (p:=⟨w.heap.size+2,2,none⟩) (by show w.heap.size<=w.heap.size+2;omega) _)
 refine⟨Zcr h.rb (x:=.bool false) (y:=Vi 0) (z:=.slice va vn vc),⟨ZdA (Zgi h.own) (fun j c=>Zsf (fun e=>Zcx h.own h.rb Dc (by rw[c,e]))),f,fun z i=>?_⟩,g⟩;obtain⟨⟨qs,a⟩,k⟩:=d z i;exact⟨⟨qs,ZdA a.own (fun j c=>Zsf (fun e=>Zcx a.own h.rb Dc (by rw[c,e]))),a.say,a.len,a.ok⟩,k⟩
def svZ(op:Nat)(n:Int)(z:Value×El):Value×El:=(z.1,z.2.1,twoV op n z.2.2)
def vsZ(op:Nat)(n:Int)(z:Value×El):Value×El:=(z.1,z.2.1,twoV op z.2.2 n)
theorem ZLu(op:Nat)(X:op<=3)(n:Int)(Y:vOk n)(ea:Option Addr)(ec:Nat)(zs:List (Value×El))(w:World)(h:ElsV w v zs)(b7:zs.length<=1000) :
  CP 57 #[Vi op,.agg #[.bool true,Vi n,.slice ea 0 ec],.agg #[.bool false,Vi 0,v]] w fun e s=>∃v',e=.returned (.agg #[.bool false,Vi 0,v'])/\Hid (ElsV s v' (zs.map (svZ op n)))/\BW w s:=by
 obtain⟨sa,sl,rfl⟩:=Zl h.own;have N:Hid (ElsV w (.slice sa zs.length sl) zs):=h;have O:Hid (vOk n):=Y;obtain⟨i0,hi,Z,a0,a1⟩:=info_parts Tryz.infoREl;clear h Y;go_enter func57,ntmps57
 go_upto_region 2 with fail
 refine ZP fun W0 P=>?_;have B:Hid (ArI w W0 [.bool true,Vi n,.slice ea 0 ec] [.bool false,Vi 0,.slice sa zs.length sl] S0 []):=hid (by rw[P];exact ArI.start w _ _ _ _ _ _);clear P;have x0:=B.xb.cell 0;have y0:=B.yb.cell 0;simp only[Zget]at x0 y0;go_wp2;clear x0 y0
 go_loopg [8] zs.length (fun gk v8 wr=>∃(k:Nat) (vv:Value),k<=zs.length/\gk=zs.length - k/\v8=Vi k/\Hid (ArI w wr [.bool true,Vi n,.slice ea 0 ec] [.bool false,Vi 0,.slice sa zs.length sl] vv ((zs.take k).map (svZ op n))))
 case atStart=>exact⟨0,_,Yag _,rfl,rfl,B⟩
 case round=>
  clear B;obtain⟨k,vv,hk,b8,rfl,l⟩:=hrel;obtain⟨va,vc,Q⟩:=Zl l.own;have t:((zs.take k).map (svZ op n)).length=k:=by rw[Yak,Ya7];omega
  rw[t]at Q;subst Q;have y2:=l.yb.cell 2;simp only[Zget]at y2;by_cases C:k<zs.length
  ·obtain⟨g,cpx,A⟩:=ZF N.own Om;injection A with hg1 _ hg2;subst hg1 hg2;have E:Hid (ElsV wr (.slice (some ⟨g,0,none⟩) zs.length sl) zs):=N.below l.bel;have r0:=Zi E.own _ _ (by rw[(ZJy zs k).1,List.getElem?_eq_getElem C];rfl);have r1:=Zi E.own _ _ (by rw[(ZJy zs k).2,List.getElem?_eq_getElem C];rfl);have a2:=E.ok _ (List.getElem_mem C);have HT:Hid ((zs.take (k+1)).map (svZ op n)=(zs.take k).map (svZ op n)++[svZ op n zs[k]]):=hid (by rw[List.take_succ_eq_append_getElem C,Yaq];rfl);have F:g<w.heap.size:=Z1 N.own;generalize zs[k]=z at *
   obtain⟨zv,zl,zn⟩:=z;obtain⟨⟨qz,G⟩,R⟩:=a2;have a3:Hid (vOk zn):=R;simp only at r0 r1 G;obtain⟨lz,cz,rfl⟩:=Zl G.own;clear G R;obtain⟨os,H⟩:∃os,os=(zs.take k).map (svZ op n):=⟨_,rfl⟩
   rw[<-H]at l t HT;obtain⟨n1,I⟩:∃n1,n1=k:=⟨_,rfl⟩
   rw[<-I]at l t;have b6:n1<=1000:=by omega
   have S:Hid (os.length=n1):=t;obtain⟨XA,J⟩:∃XA:List Value,XA=[.bool true,Vi n,.slice ea 0 ec]:=⟨_,rfl⟩
   obtain⟨YA,L⟩:∃YA:List Value,YA=[.bool false,Vi 0,.slice (some ⟨g,0,none⟩) zs.length sl]:=⟨_,rfl⟩
   have x1:=l.xb.cell 1;simp only[Zget]at x1;rw[<-J,<-L]at l;have v2:=l.vb.cell 2;simp only[Zget]at v2;have a4:=hid (And.intro J L);have b9:=hid (And.intro I H);have a5:=hid F;have T:Hid (∀o,(wr.drew.alloc o).ownsRow (w.heap.size+4) 128 2 (.slice va n1 vc) n1 (ZJp os)):=hid (fun o=>by have:=l.own;rw[S.out]at this;exact this.drew.alloc o);have U:Hid (∀o,ArI w (wr.drew.alloc o) XA YA (.slice va n1 vc) os):=hid (fun o=>l.below (((Yaf _ _).drew).alloc (Yac _) _));have a6:Hid (∀o,(wr.drew.alloc o).heap[wr.heap.size]?=some o):=hid (fun o=>Go.Deep.blk_alloc_new wr.drew o);have c0:=l.vb.lt;clear J L I H t F;have V:wr.drew.cell? ⟨w.heap.size+1,2,none⟩=some (.slice (some ⟨g,0,none⟩) zs.length sl)/\wr.drew.cell? ⟨g,k*2,none⟩=some (.slice lz qz.length cz)/\wr.drew.cell? ⟨g,k*2+1,none⟩=some (Vi zn)/\wr.drew.cell? ⟨w.heap.size,1,none⟩=some (Vi n)/\wr.drew.cell? ⟨w.heap.size+3,2,none⟩=some (.slice va n1 vc):=⟨y2,r0,r1,x1,v2⟩
   have a7:Hid (∀o,(wr.drew.cell? ⟨w.heap.size+1,2,none⟩=some (.slice (some ⟨g,0,none⟩) zs.length sl)/\wr.drew.cell? ⟨g,k*2,none⟩=some (.slice lz qz.length cz)/\wr.drew.cell? ⟨g,k*2+1,none⟩=some (Vi zn)/\wr.drew.cell? ⟨w.heap.size,1,none⟩=some (Vi n)/\wr.drew.cell? ⟨w.heap.size+3,2,none⟩=some (.slice va n1 vc))->((wr.drew.alloc o).cell? ⟨w.heap.size+1,2,none⟩=some (.slice (some ⟨g,0,none⟩) zs.length sl)/\(wr.drew.alloc o).cell? ⟨g,k*2,none⟩=some (.slice lz qz.length cz)/\(wr.drew.alloc o).cell? ⟨g,k*2+1,none⟩=some (Vi zn)/\(wr.drew.alloc o).cell? ⟨w.heap.size,1,none⟩=some (Vi n)/\(wr.drew.alloc o).cell? ⟨w.heap.size+3,2,none⟩=some (.slice va n1 vc))):=hid (fun o ⟨a,b,c,d,e⟩=>⟨ZJw a o,ZJw b o,ZJw c o,ZJw d o,ZJw e o⟩)
   have a8 : Hid (∀ W p : World, (W.cell? ⟨w.heap.size + 1, 2, none⟩ = some (.slice (some ⟨g, 0, none⟩) zs.length sl) /\ W.cell? ⟨g, k * 2, none⟩ = some (.slice lz qz.length cz) /\ W.cell? ⟨g, k * 2 + 1, none⟩ = some (Vi zn) /\ W.cell? ⟨w.heap.size, 1, none⟩ = some (Vi n) /\ W.cell? ⟨w.heap.size + 3, 2, none⟩ = some (.slice va n1 vc)) -> W.grownBy p (Value.slice va n1 vc).ownBlock -> (p.cell? ⟨w.heap.size + 1, 2, none⟩ = some (.slice (some ⟨g, 0, none⟩) zs.length sl) /\ p.cell? ⟨g, k * 2, none⟩ = some (.slice lz qz.length cz) /\ p.cell? ⟨g, k * 2 + 1, none⟩ = some (Vi zn) /\ p.cell? ⟨w.heap.size, 1, none⟩ = some (Vi n) /\ p.cell? ⟨w.heap.size + 3, 2, none⟩ = some (.slice va n1 vc))) := hid (fun W p ⟨a, b, c, d, e⟩ A => by
     have x:∀j,j<w.heap.size+4->some j≠(Value.slice va n1 vc).ownBlock:=fun j hj he=>by have:=(l.own.lt j he.symm).1;omega
     have:=a5.out;exact⟨ZJx A a (x _ (by show w.heap.size+1<_;omega)),ZJx A b (x _ (by show g<_;omega)),ZJx A c (x _ (by show g<_;omega)),ZJx A d (x _ (by show w.heap.size<_;omega)),ZJx A e (x _ (by show w.heap.size+3<_;omega))⟩)
   clear r0 r1 x1 v2
   go_upto_region 10 with fail
   clear y2;refine Zbn 22 (fun s=>s.cell? ⟨w.heap.size+1,2,none⟩=some (.slice (some ⟨g,0,none⟩) zs.length sl)/\s.cell? ⟨g,k*2,none⟩=some (.slice lz qz.length cz)/\s.cell? ⟨g,k*2+1,none⟩=some (Vi zn)/\s.cell? ⟨w.heap.size,1,none⟩=some (Vi n)/\s.cell? ⟨w.heap.size+3,2,none⟩=some (.slice va n1 vc)) Kr (by exact V) (fun f=>?_);clear V;refine Za 0 f (h:=?_);refine Za 1 f (h:=?_);refine Za 2 f (h:=?_);refine Za 3 f (h:=?_);refine Za 4 f (h:=?_);refine Za 5 f (h:=?_);refine Za 6 f (h:=?_);refine Za 7 f (h:=?_);refine Za 8 f (h:=?_);refine Za 9 f (h:=?_);refine Za 10 f (h:=?_);refine Za 11 f (h:=?_);refine Za 12 f (h:=?_);refine Za 13 f (h:=?_);refine Za 14 f (h:=?_);refine Za 15 f (h:=?_);refine Za 16 f (h:=?_);refine Z4 (i:=17) Kr rfl (fun K q=>?_);go_simp;refine(ZKv op X n zn O.out a3.out _).mono ?_;rintro e p ⟨rfl,rfl⟩;go_simp;refine q.out _ _ f (fun f=>?_);clear q K
   try simp only[Act.put,Zset]
   refine Za 18 f (h:=?_);refine Z4 (i:=19) Kr rfl (fun K q=>?_);go_simp;refine q.out _ _ (a7.out _ f) (fun f=>?_);clear q K
   try simp only[Act.put,Zset]
   refine Z4 (i:=20) Kr rfl (fun K q=>?_);refine ZfF rfl (.tmp 38) (.tmp 56) 74 rfl (w.heap.size+4) 128 i0 _ 2 32 underlying74 hi Z a0 a1 rfl Dc (.slice va n1 vc) n1 (ZJp os) (by simp[Act.eval]) (by exact T.out _) ⟨wr.heap.size,0,none⟩ 1 1 [.slice lz qz.length cz,Vi (twoV op n zn)] (by simp[Act.eval]) rfl ?h2 ?h3 ?h4 ?h5 ?h6 ?_
   case h2=>first|exact ZcY (a6.out _)|exact ZcY rfl|exact Zn9 (by first|simp|exact(Ydm _ _ _ _ (by simp)).trans rfl) (by first|simp|exact(Ydm _ _ _ _ (by simp)).trans rfl)
   case h3=>intro u hu;simp at hu;rcases hu with rfl|rfl <;> rfl
   case h4=>unfold maxLen;omega
   case h5=>omega
   case h6=>simp;omega
   intro v1 p r m _;obtain⟨g1,cp1,a9⟩:=ZF r Om;subst a9;have HN:Hid (ArI w (p.setCell ⟨w.heap.size+3,2,none⟩ (.slice (some ⟨g1,0,none⟩) (n1+1) cp1)) XA YA (.slice (some ⟨g1,0,none⟩) (n1+1) cp1) (os++[(.slice lz qz.length cz,zl,twoV op n zn)])):=hid ((U.out _).app (by exact m) (by rw[ZJW,Yab,S.out];exact r));have M:BAt p (w.heap.size+3) [.bool false,Vi 0,.slice va n1 vc] 76:=(U.out _).vb.ownGrown (T.out _) m Dc;have b3:=a8.out _ p (by exact f) (by exact m);refine q.out _ _ b3 (fun f=>?_);clear q K
   try simp only[Act.put,Zset]
   refine Za 21 f (h:=?_);refine Zbl Kr Kr rfl Kr (fun K q=>?_);have y2:=M.cell 2;have yf:=M.frozen 2;simp only[Zget]at y2;clear M r m;go_simp;refine q.out _ _ ?_;clear q K;go_wp2
   go_roundg (zs.length - (k+1))
   case measure=>omega
   case rel=>exact⟨k+1,_,by omega,rfl,by go_num,hid (by rw[HT.out];obtain⟨hX,hY⟩:=a4.out;rw[<-hX,<-hY];exact HN.out)⟩
  ·obtain rfl:k=zs.length:=by omega
   rw[Ya4]at l;have b0:=l.vb.cell 0;have b1:=l.vb.cell 1;have b2:=l.vb.cell 2;have z0:=l.rb.frozen 0;have z1:=l.rb.frozen 1;have z2:=l.rb.frozen 2;have t0:=l.rb.cell 0;have t1:=l.rb.cell 1;have t2:=l.rb.cell 2;simp only[Zget]at b0 b1 b2 t0 t1 t2
   have D := hid (l.done (by rw [Yak]; omega) (fun z hz => by
     obtain⟨y,hy,rfl⟩:=Ybe.mp hz;have:=(N.ok y hy).below l.bel;exact⟨this.1,Zhj _ _ _ O.out⟩))
   go_wp2;change bodyPost _ _ _ _ _ (set3 wr (w.heap.size+2) (.bool false) (Vi 0) (.slice va zs.length vc));have s0:=D.1.cell 0;have s1:=D.1.cell 1;have s2:=D.1.cell 2;simp only[Zget]at s0 s1 s2;have b4:=hid D.2.1;have b5:=hid D.2.2;clear D;generalize set3 wr (w.heap.size+2) (.bool false) (Vi 0) (.slice va zs.length vc)=WX at *
   exact bodyPost_ret (v:=.agg #[.bool false,Vi 0,.slice va zs.length vc]) (by simp[results,results57,go_sem,s0,s1,s2]) rfl ⟨.slice va zs.length vc,rfl,b4,b5.out⟩
theorem ZLv(op:Nat)(V:op<=3)(n:Int)(X:vOk n)(ea:Option Addr)(ec:Nat)(zs:List (Value×El))(w:World)(h:ElsV w v zs)(b7:zs.length<=1000) :
  CP 57 #[Vi op,.agg #[.bool false,Vi 0,v],.agg #[.bool true,Vi n,.slice ea 0 ec]] w fun e s=>∃v',e=.returned (.agg #[.bool false,Vi 0,v'])/\Hid (ElsV s v' (zs.map (vsZ op n)))/\BW w s:=by
 obtain⟨sa,sl,rfl⟩:=Zl h.own;have N:Hid (ElsV w (.slice sa zs.length sl) zs):=h;have Y:Hid (vOk n):=X;obtain⟨i0,hi,Z,a0,a1⟩:=info_parts Tryz.infoREl;clear h X;go_enter func57,ntmps57
 go_upto_region 2 with fail
 refine ZP fun W0 O=>?_;have B:Hid (ArI w W0 [.bool false,Vi 0,.slice sa zs.length sl] [.bool true,Vi n,.slice ea 0 ec] S0 []):=hid (by rw[O];exact ArI.start w _ _ _ _ _ _);clear O;have x0:=B.xb.cell 0;have y0:=B.yb.cell 0;simp only[Zget]at x0 y0;go_wp2;clear x0 y0
 go_loopg [9] zs.length (fun gk v8 wr=>∃(k:Nat) (vv:Value),k<=zs.length/\gk=zs.length - k/\v8=Vi k/\Hid (ArI w wr [.bool false,Vi 0,.slice sa zs.length sl] [.bool true,Vi n,.slice ea 0 ec] vv ((zs.take k).map (vsZ op n))))
 case atStart=>exact⟨0,_,Yag _,rfl,rfl,B⟩
 case round=>
  clear B;obtain⟨k,vv,hk,b8,rfl,l⟩:=hrel;obtain⟨va,vc,P⟩:=Zl l.own;have t:((zs.take k).map (vsZ op n)).length=k:=by rw[Yak,Ya7];omega
  rw[t]at P;subst P;have y2:=l.xb.cell 2;have y0:=l.yb.cell 0;simp only[Zget]at y2 y0;by_cases C:k<zs.length
  ·obtain⟨g,cpx,A⟩:=ZF N.own Om;injection A with hg1 _ hg2;subst hg1 hg2;have E:Hid (ElsV wr (.slice (some ⟨g,0,none⟩) zs.length sl) zs):=N.below l.bel;have r0:=Zi E.own _ _ (by rw[(ZJy zs k).1,List.getElem?_eq_getElem C];rfl);have r1:=Zi E.own _ _ (by rw[(ZJy zs k).2,List.getElem?_eq_getElem C];rfl);have a2:=E.ok _ (List.getElem_mem C);have HT:Hid ((zs.take (k+1)).map (vsZ op n)=(zs.take k).map (vsZ op n)++[vsZ op n zs[k]]):=hid (by rw[List.take_succ_eq_append_getElem C,Yaq];rfl);have F:g<w.heap.size:=Z1 N.own;generalize zs[k]=z at *
   obtain⟨zv,zl,zn⟩:=z;obtain⟨⟨qz,G⟩,Q⟩:=a2;have a3:Hid (vOk zn):=Q;simp only at r0 r1 G;obtain⟨lz,cz,rfl⟩:=Zl G.own;clear G Q;obtain⟨os,H⟩:∃os,os=(zs.take k).map (vsZ op n):=⟨_,rfl⟩
   rw[<-H]at l t HT;obtain⟨n1,I⟩:∃n1,n1=k:=⟨_,rfl⟩
   rw[<-I]at l t;have b6:n1<=1000:=by omega
   have R:Hid (os.length=n1):=t;obtain⟨XA,J⟩:∃XA:List Value,XA=[.bool false,Vi 0,.slice (some ⟨g,0,none⟩) zs.length sl]:=⟨_,rfl⟩
   obtain⟨YA,L⟩:∃YA:List Value,YA=[.bool true,Vi n,.slice ea 0 ec]:=⟨_,rfl⟩
   have x1:=l.yb.cell 1;simp only[Zget]at x1;rw[<-J,<-L]at l;have v2:=l.vb.cell 2;simp only[Zget]at v2;have a4:=hid (And.intro J L);have b9:=hid (And.intro I H);have a5:=hid F;have S:Hid (∀o,(wr.drew.alloc o).ownsRow (w.heap.size+4) 128 2 (.slice va n1 vc) n1 (ZJp os)):=hid (fun o=>by have:=l.own;rw[R.out]at this;exact this.drew.alloc o);have T:Hid (∀o,ArI w (wr.drew.alloc o) XA YA (.slice va n1 vc) os):=hid (fun o=>l.below (((Yaf _ _).drew).alloc (Yac _) _));have a6:Hid (∀o,(wr.drew.alloc o).heap[wr.heap.size]?=some o):=hid (fun o=>Go.Deep.blk_alloc_new wr.drew o);have c0:=l.vb.lt;clear J L I H t F;have U:wr.drew.cell? ⟨w.heap.size,2,none⟩=some (.slice (some ⟨g,0,none⟩) zs.length sl)/\wr.drew.cell? ⟨g,k*2,none⟩=some (.slice lz qz.length cz)/\wr.drew.cell? ⟨g,k*2+1,none⟩=some (Vi zn)/\wr.drew.cell? ⟨w.heap.size+1,1,none⟩=some (Vi n)/\wr.drew.cell? ⟨w.heap.size+3,2,none⟩=some (.slice va n1 vc):=⟨y2,r0,r1,x1,v2⟩
   have a7:Hid (∀o,(wr.drew.cell? ⟨w.heap.size,2,none⟩=some (.slice (some ⟨g,0,none⟩) zs.length sl)/\wr.drew.cell? ⟨g,k*2,none⟩=some (.slice lz qz.length cz)/\wr.drew.cell? ⟨g,k*2+1,none⟩=some (Vi zn)/\wr.drew.cell? ⟨w.heap.size+1,1,none⟩=some (Vi n)/\wr.drew.cell? ⟨w.heap.size+3,2,none⟩=some (.slice va n1 vc))->((wr.drew.alloc o).cell? ⟨w.heap.size,2,none⟩=some (.slice (some ⟨g,0,none⟩) zs.length sl)/\(wr.drew.alloc o).cell? ⟨g,k*2,none⟩=some (.slice lz qz.length cz)/\(wr.drew.alloc o).cell? ⟨g,k*2+1,none⟩=some (Vi zn)/\(wr.drew.alloc o).cell? ⟨w.heap.size+1,1,none⟩=some (Vi n)/\(wr.drew.alloc o).cell? ⟨w.heap.size+3,2,none⟩=some (.slice va n1 vc))):=hid (fun o ⟨a,b,c,d,e⟩=>⟨ZJw a o,ZJw b o,ZJw c o,ZJw d o,ZJw e o⟩)
   have a8 : Hid (∀ W p : World, (W.cell? ⟨w.heap.size, 2, none⟩ = some (.slice (some ⟨g, 0, none⟩) zs.length sl) /\ W.cell? ⟨g, k * 2, none⟩ = some (.slice lz qz.length cz) /\ W.cell? ⟨g, k * 2 + 1, none⟩ = some (Vi zn) /\ W.cell? ⟨w.heap.size + 1, 1, none⟩ = some (Vi n) /\ W.cell? ⟨w.heap.size + 3, 2, none⟩ = some (.slice va n1 vc)) -> W.grownBy p (Value.slice va n1 vc).ownBlock -> (p.cell? ⟨w.heap.size, 2, none⟩ = some (.slice (some ⟨g, 0, none⟩) zs.length sl) /\ p.cell? ⟨g, k * 2, none⟩ = some (.slice lz qz.length cz) /\ p.cell? ⟨g, k * 2 + 1, none⟩ = some (Vi zn) /\ p.cell? ⟨w.heap.size + 1, 1, none⟩ = some (Vi n) /\ p.cell? ⟨w.heap.size + 3, 2, none⟩ = some (.slice va n1 vc))) := hid (fun W p ⟨a, b, c, d, e⟩ A => by
     have x:∀j,j<w.heap.size+4->some j≠(Value.slice va n1 vc).ownBlock:=fun j hj he=>by have:=(l.own.lt j he.symm).1;omega
     have:=a5.out;exact⟨ZJx A a (x _ (by show w.heap.size<_;omega)),ZJx A b (x _ (by show g<_;omega)),ZJx A c (x _ (by show g<_;omega)),ZJx A d (x _ (by show w.heap.size+1<_;omega)),ZJx A e (x _ (by show w.heap.size+3<_;omega))⟩)
   clear r0 r1 x1 v2
   go_upto_region 16 with fail
   clear y2 y0;refine Zbn 22 (fun s=>s.cell? ⟨w.heap.size,2,none⟩=some (.slice (some ⟨g,0,none⟩) zs.length sl)/\s.cell? ⟨g,k*2,none⟩=some (.slice lz qz.length cz)/\s.cell? ⟨g,k*2+1,none⟩=some (Vi zn)/\s.cell? ⟨w.heap.size+1,1,none⟩=some (Vi n)/\s.cell? ⟨w.heap.size+3,2,none⟩=some (.slice va n1 vc)) Kr (by exact U) (fun f=>?_);clear U;refine Za 0 f (h:=?_);refine Za 1 f (h:=?_);refine Za 2 f (h:=?_);refine Za 3 f (h:=?_);refine Za 4 f (h:=?_);refine Za 5 f (h:=?_);refine Za 6 f (h:=?_);refine Za 7 f (h:=?_);refine Za 8 f (h:=?_);refine Za 9 f (h:=?_);refine Za 10 f (h:=?_);refine Za 11 f (h:=?_);refine Za 12 f (h:=?_);refine Za 13 f (h:=?_);refine Za 14 f (h:=?_);refine Za 15 f (h:=?_);refine Za 16 f (h:=?_);refine Z4 (i:=17) Kr rfl (fun K q=>?_);go_simp;refine(ZKv op V zn n a3.out Y.out _).mono ?_;rintro e p ⟨rfl,rfl⟩;go_simp;refine q.out _ _ f (fun f=>?_);clear q K
   try simp only[Act.put,Zset]
   refine Za 18 f (h:=?_);refine Z4 (i:=19) Kr rfl (fun K q=>?_);go_simp;refine q.out _ _ (a7.out _ f) (fun f=>?_);clear q K
   try simp only[Act.put,Zset]
   refine Z4 (i:=20) Kr rfl (fun K q=>?_);refine ZfF rfl (.tmp 70) (.tmp 88) 74 rfl (w.heap.size+4) 128 i0 _ 2 32 underlying74 hi Z a0 a1 rfl Dc (.slice va n1 vc) n1 (ZJp os) (by simp[Act.eval]) (by exact S.out _) ⟨wr.heap.size,0,none⟩ 1 1 [.slice lz qz.length cz,Vi (twoV op zn n)] (by simp[Act.eval]) rfl ?h2 ?h3 ?h4 ?h5 ?h6 ?_
   case h2=>first|exact ZcY (a6.out _)|exact ZcY rfl|exact Zn9 (by first|simp|exact(Ydm _ _ _ _ (by simp)).trans rfl) (by first|simp|exact(Ydm _ _ _ _ (by simp)).trans rfl)
   case h3=>intro u hu;simp at hu;rcases hu with rfl|rfl <;> rfl
   case h4=>unfold maxLen;omega
   case h5=>omega
   case h6=>simp;omega
   intro v1 p r m _;obtain⟨g1,cp1,a9⟩:=ZF r Om;subst a9;have HN:Hid (ArI w (p.setCell ⟨w.heap.size+3,2,none⟩ (.slice (some ⟨g1,0,none⟩) (n1+1) cp1)) XA YA (.slice (some ⟨g1,0,none⟩) (n1+1) cp1) (os++[(.slice lz qz.length cz,zl,twoV op zn n)])):=hid ((T.out _).app (by exact m) (by rw[ZJW,Yab,R.out];exact r));have M:BAt p (w.heap.size+3) [.bool false,Vi 0,.slice va n1 vc] 76:=(T.out _).vb.ownGrown (S.out _) m Dc;have b3:=a8.out _ p (by exact f) (by exact m);refine q.out _ _ b3 (fun f=>?_);clear q K
   try simp only[Act.put,Zset]
   refine Za 21 f (h:=?_);refine Zbl Kr Kr rfl Kr (fun K q=>?_);have y2:=M.cell 2;have yf:=M.frozen 2;simp only[Zget]at y2;clear M r m;go_simp;refine q.out _ _ ?_;clear q K;go_wp2
   go_roundg (zs.length - (k+1))
   case measure=>omega
   case rel=>exact⟨k+1,_,by omega,rfl,by go_num,hid (by rw[HT.out];obtain⟨hX,hY⟩:=a4.out;rw[<-hX,<-hY];exact HN.out)⟩
  ·obtain rfl:k=zs.length:=by omega
   rw[Ya4]at l;have b0:=l.vb.cell 0;have b1:=l.vb.cell 1;have b2:=l.vb.cell 2;have z0:=l.rb.frozen 0;have z1:=l.rb.frozen 1;have z2:=l.rb.frozen 2;have t0:=l.rb.cell 0;have t1:=l.rb.cell 1;have t2:=l.rb.cell 2;simp only[Zget]at b0 b1 b2 t0 t1 t2
   have D := hid (l.done (by rw [Yak]; omega) (fun z hz => by
     obtain⟨y,hy,rfl⟩:=Ybe.mp hz;have:=(N.ok y hy).below l.bel;exact⟨this.1,Zhj _ _ _ this.2⟩))
   go_wp2;change bodyPost _ _ _ _ _ (set3 wr (w.heap.size+2) (.bool false) (Vi 0) (.slice va zs.length vc));have s0:=D.1.cell 0;have s1:=D.1.cell 1;have s2:=D.1.cell 2;simp only[Zget]at s0 s1 s2;have b4:=hid D.2.1;have b5:=hid D.2.2;clear D;generalize set3 wr (w.heap.size+2) (.bool false) (Vi 0) (.slice va zs.length vc)=WX at *
   exact bodyPost_ret (v:=.agg #[.bool false,Vi 0,.slice va zs.length vc]) (by simp[results,results57,go_sem,s0,s1,s2]) rfl ⟨.slice va zs.length vc,rfl,b4,b5.out⟩
