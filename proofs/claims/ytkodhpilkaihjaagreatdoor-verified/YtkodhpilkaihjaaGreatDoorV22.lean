/- Parts. -/
import Derived.Test.YtkodhpilkaihjaaGreatDoorV21
import Derived.Test.YtkodhpilkaihjaaGreatDoorV12
set_option linter.all false
set_option maxRecDepth 100000
set_option maxHeartbeats 16000000
namespace Go.Proofs.YtkodhpilkaihjaaGreatDoor
open Go.RowKit LS Go.Proofs.Tryz
variable {a:Ah}{tmps:Array Value}{c code:CodeQ}{r:Except (Nat×Nat) (CodeQ×Nat×Nat)}{fn:Func}{l:List Ah}{sl st:List Nat}{i o p:Nat}{x:Nat×Nat}{P:Program}{v:Value}{w:World}
def ZTl:List Ah->List Value
 | []=>[]
 | a::l=>ahC a++ZTl l
theorem ZTE(a:Ah):(ahC a).length=4:=rfl
theorem ZUo:∀l:List Ah,(ZTl l).length=4*l.length
 | []=>rfl
 | a :: l => by
   show(ahC a++ZTl l).length=_;rw[Yab,ZTE,ZUo l,Yaj];omega
theorem ZTs:∀(l:List Ah) (i j:Nat),i<l.length->j<4->(ZTl l)[i*4+j]?=(ahC (l.getD i ah0))[j]?
 | [],i,j,h,_=>absurd h (Ya1 _)
 | a :: l, 0, j, _, b => by
   show(ahC a++ZTl l)[0*4+j]?=(ahC a)[j]?;rw[Yg9,Ycf,Ybr (by rw[ZTE];exact b)]
 | a :: l, i + 1, j, h, b => by
   have:=ZTs l i j (by simpa using h) b;show(ahC a++ZTl l)[(i+1)*4+j]?=(ahC (l.getD i ah0))[j]?;rw[Yb3 (by rw[ZTE];omega),ZTE,show(i+1)*4+j - 4=i*4+j by omega];exact this
theorem ZUp:∀(l:List Ah) (i:Nat) (b:Ah) (v0 v1 v2 v3:Value),ahC b=[v0,v1,v2,v3]->i<l.length->((((ZTl l).set (i*4) v0).set (i*4+1) v1).set (i*4+2) v2).set (i*4+3) v3=ZTl (l.set i b)
 | [],i,b,_,_,_,_,_,h=>absurd h (Ya1 _)
 | a :: l, 0, b, v0, v1, v2, v3, c, _ => by
   show((((ahC a++ZTl l).set 0 v0).set 1 v1).set 2 v2).set 3 v3=ahC b++ZTl l;rw[c];rfl
 | a :: l, i + 1, b, v0, v1, v2, v3, c, h => by
   have ih:=ZUp l i b v0 v1 v2 v3 c (by simpa using h);show((((ahC a++ZTl l).set ((i+1)*4) v0).set ((i+1)*4+1) v1).set ((i+1)*4+2) v2).set ((i+1)*4+3) v3=ahC a++ZTl (l.set i b)
   rw [Yd5 _ _ (by rw [ZTE]; omega), Yd5 _ _ (by rw [ZTE]; omega), Yd5 _ _ (by rw [ZTE]; omega), Yd5 _ _ (by rw [ZTE]; omega), ZTE,
     show(i+1)*4 - 4=i*4 by omega,show(i+1)*4+1 - 4=i*4+1 by omega,show(i+1)*4+2 - 4=i*4+2 by omega,show(i+1)*4+3 - 4=i*4+3 by omega,ih]
def ZTB(w:World)(g o:Nat)(x y z u:Value):World:=(((w.setCell ⟨g,o,none⟩ x).setCell ⟨g,o+1,none⟩ y).setCell ⟨g,o+2,none⟩ z).setCell ⟨g,o+3,none⟩ u
theorem ZUJ{g:Nat}{b:Ah}{v0 v1 v2 v3:Value}{t:TypeId}(h:BAt w g (ZTl l) t)(a:i<l.length)(c:ahC b=[v0,v1,v2,v3]):BAt (ZTB w g (i*4) v0 v1 v2 v3) g (ZTl (l.set i b)) t:=by
 rw[<-ZUp l i b v0 v1 v2 v3 c a];exact(((h.setk _ _).setk _ _).setk _ _).setk _ _
theorem ZWe{g a:Nat}{c:List Value}{t:TypeId}{v0 v1 v2 v3:Value}(h:BAt w a c t)(b:a≠g):BAt (ZTB w g o v0 v1 v2 v3) a c t:=
 (((h.other (p:=⟨g,o,none⟩) b _).other (p:=⟨g,o+1,none⟩) b _).other (p:=⟨g,o+2,none⟩) b _).other (p:=⟨g,o+3,none⟩) b _
theorem ZUa{w0:World}{g:Nat}(h:BW w0 w)(a:w0.heap.size<=g){x y z u:Value}:BW w0 (ZTB w g o x y z u):=
 (((h.setCell (p:=⟨g,o,none⟩) a _).setCell (p:=⟨g,o+1,none⟩) a _).setCell (p:=⟨g,o+2,none⟩) a _).setCell (p:=⟨g,o+3,none⟩) a _
theorem ZVD(n:Nat):(madeCells #[.bool false,.bool false,.string ⟨#[]⟩,.string ⟨#[]⟩] (n*4)).toList=ZTl (List.replicate n ah0):=by
 apply Ycs;intro t;by_cases d:t<4*n
 ·have b:(madeCells #[.bool false,.bool false,.string ⟨#[]⟩,.string ⟨#[]⟩] (n*4)).toList[t]?=some ((#[.bool false,.bool false,.string ⟨#[]⟩,.string ⟨#[]⟩]:Array Value)[t % 4]!):=by
   unfold madeCells;rw[Array.toList_map,Ya2,Array.toList_range,Yg2 Om];rfl
  have a:=ZTs (List.replicate n ah0) (t / 4) (t % 4) (by rw[Yfn];omega) Om;rw[show t / 4*4+t % 4=t by omega]at a
  have c:(List.replicate n ah0).getD (t / 4) ah0=ah0:=by
   rw[Yaa,Ybs];split <;> rfl
  rw[c]at a;rw[b,a];rcases(by omega:t % 4=0∨t % 4=1∨t % 4=2∨t % 4=3)with e|e|e|e <;> rw[e] <;> rfl
 ·rw[Ya9 (by simp[madeCells];omega),Ya9 (by rw[ZUo,Yfn];omega)]
structure AhK (a:Ah):Prop where
 ok:AhOk a
 st:∀k∈a.jy,k<=3
 sl:∀k∈a.jx,k<=3
theorem ahK0:AhK ah0:=⟨ZnK,(fun k a=>(by cases a)),fun k a=>by rw[(Yg5.1 a).2];decide⟩
theorem ZUM:AhK ⟨true,false,[],List.replicate 16 0⟩:=⟨ZtF,(fun k a=>(by cases a)),fun k a=>by rw[(Yg5.1 a).2];decide⟩
theorem ZVM(n:Nat):∀a∈ZeY n,AhK a:=by
 intro a b;rcases Yau.1 b with rfl|b
 ·exact ZUM
 ·rw[(Yg5.1 b).2];exact ahK0
theorem ZUi:∀(x y:List Nat),(∀k∈x,k<=3)->∀k∈both x y,k<=3
 | [],y,_=>by intro k c;simp[both]at c
 | a::x,[],_=>by intro k c;simp[both]at c
 | a :: x, b :: y, d => by
   intro k c;unfold both at c;rw[Yg6]at c;rcases Yau.1 c with rfl|c
   · split
     · exact d a (by simp)
     · decide
   · exact ZUi x y (fun k c=>d k (by simp[c])) k c
theorem ZVE(b:AhK a)(c:st.length<=64)(d:∀k∈st,k≠0)(e:sl.length=16)(f:∀k∈st,k<=3)(g:∀k∈sl,k<=3):AhK (Zbi a st sl):=by
 refine⟨ZyZ b.ok c d e,?_,?_⟩
 ·unfold Zbi;split
  ·exact b.st
  ·exact f
 ·unfold Zbi;split
  ·exact ZUi _ _ b.sl
  ·exact g
theorem ZWf   (b : ∀ x ∈ l, AhK x) (c : AhK a) (i : Nat) : ∀ x ∈ l.set i a, AhK x := fun x d => by
  rcases Yck d with h|h
  · exact b x h
  · rw[h];exact c
theorem ZT5(b:∀x∈l,AhK x)(i:Nat):AhK (l.getD i ah0):=by
 rw[Yaa];cases h:l[i]? with
 | none=>exact ahK0
 | some a=>exact b a (Ycq h)
theorem ZV2(a:Ah)(st sl:List Nat)(b:AhK a)(c:sl.length=16)(f:∀k∈st,k<=3)(g:∀k∈sl,k<=3) :
  ∃(cl:Bool) (S L:BA),Hid (ahC (Zbi a st sl)=[.bool true,.bool cl,.string S,.string L])/\Hid (∀w:World,CP 57 #[.agg #[.bool a.kz,.bool a.kq,.string (stB a.jy),.string (if a.kz then slB a.jx else ⟨#[]⟩)],.string (stB st),.string (slB sl)] w fun e u=>e=.returned (.agg #[.bool true,.bool cl,.string S,.string L])/\BW w u):=by
 cases d:a.kz with
 | true=>
  refine⟨a.kq || decide (stB a.jy≠stB st),stB a.jy,baOf (ZTn (bl (slB a.jx)) (bl (slB sl))),hid ?_,hid (fun w=>?_)⟩
  ·unfold Zbi;rw[if_pos d]
   have i:baOf (ZTn (bl (slB a.jx)) (bl (slB sl)))=slB (both a.jx sl):=by
    rw[ZTR,ZTR,ZUg _ _ b.sl g];rfl
   have j:decide (stB a.jy≠stB st)=decide (a.jy≠st):=by
    rw[decide_eq_decide];exact not_congr (ZUc b.st f)
   rw[i,j];rfl
  ·exact ZUG true a.kq (stB a.jy) (slB a.jx) (stB st) (slB sl) w (fun _=>by rw[ZTQ,ZTQ,b.ok.sl,c]) (by rw[ZTQ,c];exact Yac _)
 | false=>
  refine⟨false,stB st,slB sl,hid ?_,hid (fun w=>?_)⟩
  ·unfold Zbi;rw[d];rfl
  ·exact ZUG false a.kq (stB a.jy) _ (stB st) (slB sl) w (fun h=>(by cases h)) (by rw[ZTQ,c];exact Yac _)
theorem ZTP{t u v x:Tmp}(h:fn.results=#[.tmp t,.tmp u,.tmp v,.tmp x]) :
  (results fn tmps).run P w=.ok (.tuple #[tmps.getD t undef,tmps.getD u undef,tmps.getD v undef,tmps.getD x undef]) w:=by
 simp[results,h]
theorem Tryz.infoAhead:(Tryz.prog.info? 139).map (fun i=>(i.zero,i.size,i.bytes))=some (some (.agg #[.bool false,.bool false,.string ⟨#[]⟩,.string ⟨#[]⟩]),4,40):=by kernel_rfl
def verV(r:Except (Nat×Nat) (Nat×Nat)):Nat×Nat×Nat×Nat:=match r with
 | .ok x=>(x.1,x.2,0,0)
 | .error x=>(0,0,x.1,x.2)
structure VerP (w:World) (cb:Nat) (c:CodeQ) (cv pv gv iv:Value) (pl:List PV) (gl:List (Option Addr×Nat×Nat)):Prop where
 code:RCode w cb c cv pv gv iv pl gl
 ln:c.jz.length<=65535
 op:∀x∈c.jz,x.1<=13/\x.2<65536
theorem ZVS(c:CodeQ)(op arg:Nat)(took sl:BA):(ZTt c op arg took sl).size<=took.size+1:=by
 unfold ZTt;split
 all_goals first
  | (show(1:Nat)<=_;omega)
  | (show(0:Nat)<=_;omega)
  | (split <;> (show(1:Nat)<=_;omega))
  | omega
  | (rw[Yga];omega)
theorem ZUD : ∀ {n:Nat},Zcp c n=.ok ()->∀i,i<n->Zy c i (c.jz.getD i (0,0))=true
 | 0,_,i,b=>absurd b (Ya1 _)
 | n + 1, h, i, b => by
   unfold Zcp at h;cases a:Zcp c n with
   | error e=>rw[a]at h;cases h
   | ok u=>
     rw[a]at h;simp only at h;by_cases e:i=n
     · subst e
       cases d:Zy c i (c.jz.getD i (0,0))with
       | true=>rfl
       | false=>rw[d]at h;cases h
     · exact ZUD a i Om
structure MPack (l:List Ah) (i:Nat) (st sl:List Nat) (X H:BA) (bk bc:Bool) (bs bz:BA) (cl:Bool) (S1 L1:BA):Prop where
 at0:∀(W:World) (g:Nat) (t:TypeId),BAt W g (ZTl l) t->W.cell? ⟨g,i*4,none⟩=some (.bool bk)/\W.cell? ⟨g,i*4+1,none⟩=some (.bool bc)/\W.cell? ⟨g,i*4+2,none⟩=some (.string bs)/\W.cell? ⟨g,i*4+3,none⟩=some (.string bz)
 call:∀W:World,CP 57 #[.agg #[.bool bk,.bool bc,.string bs,.string bz],.string X,.string H] W fun e w'=>e=.returned (.agg #[.bool true,.bool cl,.string S1,.string L1])/\BW W w'
 put:∀(W:World) (g:Nat) (t:TypeId),BAt W g (ZTl l) t->BAt (ZTB W g (i*4) (.bool true) (.bool cl) (.string S1) (.string L1)) g (ZTl (l.set i (Zbi (l.getD i ah0) st sl))) t
 ok:∀x∈l.set i (Zbi (l.getD i ah0) st sl),AhK x
theorem ZUy{X H:BA}(b:i<l.length)(d:∀x∈l,AhK x)(n:st.length<=64)(o:∀k∈st,k≠0)(e:sl.length=16)(f:∀k∈st,k<=3)(h:∀k∈sl,k<=3)(p:X=stB st)(q:H=slB sl) :
  ∃bk bc bs bz cl S1 L1,Hid (MPack l i st sl X H bk bc bs bz cl S1 L1):=by
 have j:=ZT5 d i;obtain⟨cl,S1,L1,m,c⟩:=ZV2 (l.getD i ah0) st sl j e f h;rw[<-p,<-q]at c;refine⟨_,_,_,_,cl,S1,L1,hid ⟨fun W g t a=>⟨?_,?_,?_,?_⟩,c.out,fun W g t a=>ZUJ a b m.out,ZWf d (ZVE j n o e f h) i⟩⟩
 ·rw[a.cell];exact ZTs l i 0 b Dc
 ·rw[a.cell];exact ZTs l i 1 b Dc
 ·rw[a.cell];exact ZTs l i 2 b Dc
 ·rw[a.cell];exact ZTs l i 3 b Dc
theorem ZVW(w:World)(cb:Nat)(c:CodeQ)(cv pv gv iv:Value)(pl:List PV)(gl:List (Option Addr×Nat×Nat))(h:VerP w cb c cv pv gv iv pl gl) :
  CP 28 #[Vp cb] w fun e u=>∃a b d p:Nat,e=.returned (.tuple #[Vi a,Vi b,Vi d,Vi p])/\Hid (verV (ZcT c)=(a,b,d,p))/\BW w u:=by
 obtain⟨ia,ic,rfl⟩:=Zl h.code.is;have HP:=hid h;have o8:=h.ln;obtain⟨i0,hi,o9,p0,p1⟩:=info_parts Tryz.infoAhead;obtain⟨n,hn⟩:∃n,n=c.jz.length:=⟨_,rfl⟩
 rw[<-hn]at o8;have O:=hid hn;clear h hn;go_enter func28,ntmps28;go_wp2
 go_loopw [6, 7] (fun nv iv wr => ∃ (k sn : Nat), k <= n /\ iv = Vi k /\ nv = Vi sn /\ sn <= 16 /\ Hid (Zcp c k = .ok ()) /\ Hid (Zdd (c.jz.take k) = sn) /\ Hid (BW w wr))
   (fun _ iv _=>n - (intOf iv).toNat)
 case atStart=>exact⟨0,0,Yag _,rfl,rfl,by decide,hid rfl,hid rfl,hid (Yaf _ _)⟩
 case round=>
  obtain⟨k,sn,hk,rfl,rfl,r3,b0,i5,q⟩:=hrel;have s:=hid (HP.code.below q.out);have d3:=s.box.cell 3;simp only[Zget]at d3;rw[<-O.out]at d3;have Q:=s.box.lt;by_cases d0:k<n
  ·as_aux_lemma=>
   have D:k<c.jz.length:=by rw[<-O.out];exact d0
   obtain⟨gi,cpi,d1⟩:=ZF s.is Om;injection d1 with hgi1 hgi2 hgi3;subst hgi1;rcases hx0:c.jz[k]with ⟨op,arg⟩
   have i6:=HP.op (op,arg) (by rw[<-hx0];exact List.getElem_mem D);obtain⟨Z,c6⟩:=i6;simp only at Z c6;have b1:=hid (ZVZ wr cb c s.out k D HP.op);rw[hx0]at b1;have b5:Hid (c.jz.getD k (0,0)=(op,arg)):=hid (by rw[Yaa,List.getElem?_eq_getElem D,hx0];rfl);have m3:=hid hx0;clear hx0 hgi2 hgi3;cases hr:Zy c k (op,arg)with
   | false=>
    rw[hr]at b1
    have f9:Hid (verV (ZcT c)=(0,0,11,k)):=hid (by
     unfold ZcT;rw[ZBu (k:=k+1) (e:=(11,k)) (by unfold Zcp;rw[b0.out];simp only;rw[b5.out,hr];rfl) _ (by rw[<-O.out];omega)];rfl)
    go_wp2_with fail
    refine b1.mono ?_;rintro e z ⟨rfl,b6⟩;have t:Hid (BW w z):=hid (q.trans (b6.mono q.size));clear b6 d3;go_wp2
    (try simp only[Exit.inBlock,Exit.then])
    refine bodyPost_ret (ZTP rfl) rfl ?_;exact⟨0,0,11,k,rfl,f9,t.out⟩
   | true=>
    rw[hr]at b1;have a6:Hid (Zcp c (k+1)=.ok ()):=hid (by unfold Zcp;rw[b0.out];simp only;rw[b5.out,hr];rfl)
    have d2:Hid (Zdd (c.jz.take (k+1))=if Zf4 op then max sn (arg+1)else sn):=hid (by
     rw[List.take_succ_eq_append_getElem D,m3.out,ZCq,i5.out])
    have U:op=12∨op=13->arg<16:=by
     rintro(rfl|rfl) <;> simpa [Zy] using hr
    go_wp2_with fail
    refine b1.mono ?_;rintro e z ⟨rfl,b6⟩;have t:Hid (BW w z):=hid (q.trans (b6.mono q.size));have a7:=hid (s.below b6);clear b6 d3 s Q b1;have d3:=a7.box.cell 3;simp only[Zget]at d3;rw[<-O.out]at d3;have i0c:=Zi a7.is _ _ (Zfm c.jz k D).1;have i1c:=Zi a7.is _ _ (Zfm c.jz k D).2;rw[m3.out]at i0c i1c;simp only at i0c i1c;have Q:=a7.box.lt;have i7:=Z1 a7.is;by_cases a0:op=12
    ·subst a0;have r:=U (Or.inl rfl);clear U;by_cases p2:sn<=arg
     ·have V:Hid (Zdd (c.jz.take (k+1))=arg+1):=hid (by rw[d2.out];show max sn (arg+1)=_;omega);go_wp2
      go_roundw
      case rel=>exact⟨k+1,arg+1,by omega,by go_num,by go_num,by omega,a6,V,hid (t.alloc t.size _)⟩
      case measure=>simp[intOf];omega
     ·have V:Hid (Zdd (c.jz.take (k+1))=sn):=hid (by rw[d2.out];show max sn (arg+1)=_;omega);go_wp2
      go_roundw
      case rel=>exact⟨k+1,sn,by omega,by go_num,by go_num,by omega,a6,V,hid (t.alloc t.size _)⟩
      case measure=>simp[intOf];omega
    ·by_cases N:op=13
     ·subst N;have r:=U (Or.inr rfl);clear U;by_cases p2:sn<=arg
      ·have V:Hid (Zdd (c.jz.take (k+1))=arg+1):=hid (by rw[d2.out];show max sn (arg+1)=_;omega);go_wp2
       go_roundw
       case rel=>exact⟨k+1,arg+1,by omega,by go_num,by go_num,by omega,a6,V,hid (t.alloc t.size _)⟩
       case measure=>simp[intOf];omega
      ·have V:Hid (Zdd (c.jz.take (k+1))=sn):=hid (by rw[d2.out];show max sn (arg+1)=_;omega);go_wp2
       go_roundw
       case rel=>exact⟨k+1,sn,by omega,by go_num,by go_num,by omega,a6,V,hid (t.alloc t.size _)⟩
       case measure=>simp[intOf];omega
     ·have V:Hid (Zdd (c.jz.take (k+1))=sn):=hid (by
       rw[d2.out];have:Zf4 op=false:=by unfold Zf4;simp[a0,N]
       rw[this];rfl)
      have e12:((op:Int) == 12)=false:=by rw[beq_eq_false_iff_ne];omega
      have e13:((op:Int) == 13)=false:=by rw[beq_eq_false_iff_ne];omega
      clear U;go_wp2
      go_roundw
      case rel=>exact⟨k+1,sn,by omega,by go_num,by go_num,by omega,a6,V,hid (t.alloc t.size _)⟩
      case measure=>simp[intOf];omega
  ·obtain rfl:n=k:=by omega
   have m4:Hid (Zdd c.jz=sn):=hid (by rw[<-i5.out,Ya5 (by rw[<-O.out];exact Yac _)])
   have p3 : Hid (∀ m, Zdj c = .ok m -> verV (ZcT c) = (m, sn, 0, 0)) := hid (fun m hm => by
     unfold ZcT;rw[<-O.out,b0.out];simp only;rw[hm];simp only;rw[m4.out];rfl)
   have f9 : Hid (∀ p, Zdj c = .error (12, p) -> verV (ZcT c) = (0, 0, 12, p)) := hid (fun p hp => by
     unfold ZcT;rw[<-O.out,b0.out];simp only;rw[hp];rfl)
   have p4:=hid (ZUD b0.out);clear b0 i5 m4 hk d0
   go_wp2_with (at_make;refine wpList_make_full _ rfl _ _ 137 rfl wr.heap.size 139 i0 _ 4 underlying137 hi o9 p0 _ _ _ _ (n+1) rfl rfl ?e1 ?e2 ?b2 ?b3 ?b4 ?_)
   case e1=>go_num
   case e2=>go_num
   case b2=>rw[p1];omega
   case b3=>unfold maxLen;omega
   case b4=>simp
   intro w1 i8 J;have m5:BW wr w1:=⟨J.os,J.tape,J.output,J.size,fun k hk=>J.block k hk (by simp)⟩
   have E:Hid (BAt w1 wr.heap.size (ZTl (List.replicate (n+1) ah0)) 139):=hid (by have:=ZzX i8;rwa [ZVD]at this);have m6:Hid (BW w w1):=hid (q.trans (m5.mono q.size));have i9:w.heap.size<=wr.heap.size:=q.size;clear i8 J m5 d3 Q s q;generalize wr.heap.size=g at *
   have g0:w1.cell? ⟨g,0,none⟩=some (.bool false):=by rw[E.cell];rfl
   have g1:w1.cell? ⟨g,1,none⟩=some (.bool false):=by rw[E.cell];rfl
   have g2:w1.cell? ⟨g,2,none⟩=some (.string ⟨#[]⟩):=by rw[E.cell];rfl
   have g3:w1.cell? ⟨g,3,none⟩=some (.string ⟨#[]⟩):=by rw[E.cell];rfl
   have f0:=E.frozen 0;have f1:=E.frozen 1;have f2:=E.frozen 2;have f3:=E.frozen 3;have a1:=E.lt
   have m7:Hid (BAt (ZTB w1 g 0 (.bool true) (.bool false) (.string ⟨#[]⟩) (.string ⟨#[45,45,45,45,45,45,45,45,45,45,45,45,45,45,45,45]⟩)) g (ZTl (ZeY n)) 139):=hid (by
    have:=ZUJ (i:=0) (b:=⟨true,false,[],List.replicate 16 0⟩) E.out (by simp) (show ahC _=[.bool true,.bool false,.string ⟨#[]⟩,.string ⟨#[45,45,45,45,45,45,45,45,45,45,45,45,45,45,45,45]⟩] from rfl);exact this)
   have t:Hid (BW w (ZTB w1 g 0 (.bool true) (.bool false) (.string ⟨#[]⟩) (.string ⟨#[45,45,45,45,45,45,45,45,45,45,45,45,45,45,45,45]⟩))):=hid (ZUa m6.out i9);clear m6 E;go_wp2;clear g0 g1 g2 g3 f0 f1 f2 f3 a1
   go_loopw [11, 12] (fun mv iv wr => ∃ (k mo : Nat) (l : List Ah), k <= n /\ iv = Vi k /\ mv = Vi mo /\ mo <= 64 /\ Hid (l.length = n + 1) /\ Hid (Zbx c k = .ok (l, mo)) /\ Hid (∀ x ∈ l, AhK x) /\ Hid (BAt wr g (ZTl l) 139) /\ Hid (BW w wr))
     (fun _ iv _=>n - (intOf iv).toNat)
   case atStart=>exact⟨0,0,ZeY n,Yag _,rfl,rfl,by decide,hid (by simp[ZeY]),hid (by rw[O.out];rfl),hid (ZVM n),m7,t⟩
   case round=>
    obtain⟨k,mo,l,hk,rfl,rfl,p5,d4,d5,d6,B,q⟩:=hrel;clear m7 t;have s:=hid (HP.code.below q.out);have d3:=s.box.cell 3;simp only[Zget]at d3;rw[<-O.out]at d3;have Q:=s.box.lt;have a1:=B.lt;by_cases d0:k<n
    ·have D:k<c.jz.length:=by rw[<-O.out];exact d0
     obtain⟨gi,cpi,d1⟩:=ZF s.is Om;injection d1 with hgi1 hgi2 hgi3;subst hgi1;rcases hx0:c.jz[k]with ⟨op,arg⟩
     have i6:=HP.op (op,arg) (by rw[<-hx0];exact List.getElem_mem D);obtain⟨Z,c6⟩:=i6;simp only at Z c6;have b5:Hid (c.jz.getD k (0,0)=(op,arg)):=hid (by rw[Yaa,List.getElem?_eq_getElem D,hx0];rfl);have i0c:=Zi s.is _ _ (Zfm c.jz k D).1;have i1c:=Zi s.is _ _ (Zfm c.jz k D).2;rw[hx0]at i0c i1c;simp only at i0c i1c;have i7:=Z1 s.is;have hr:Zy c k (op,arg)=true:=by have:=p4.out k d0;rwa [b5.out]at this
     have HR:=hid hr;clear hx0 hgi2 hgi3 hr;obtain⟨a,r⟩:∃a,a=l.getD k ah0:=⟨_,rfl⟩
     have d7:=hid r;have v:Hid (AhK a):=hid (by rw[r];exact ZT5 d6.out k);have F:k<l.length:=by rw[d4.out];omega
     have c0:wr.cell? ⟨g,k*4,none⟩=some (.bool a.kz):=by rw[B.cell,r];exact ZTs l k 0 F Dc
     have c1:wr.cell? ⟨g,k*4+1,none⟩=some (.bool a.kq):=by rw[B.cell,r];exact ZTs l k 1 F Dc
     have c2:wr.cell? ⟨g,k*4+2,none⟩=some (.string (stB a.jy)):=by rw[B.cell,r];exact ZTs l k 2 F Dc
     have c3:wr.cell? ⟨g,k*4+3,none⟩=some (.string (if a.kz then slB a.jx else ⟨#[]⟩)):=by rw[B.cell,r];exact ZTs l k 3 F Dc
     have g4:Hid (Zbx c (k+1)=Zfx c k l mo):=hid (by show(match Zbx c k with|.error e=>_|.ok x=>_)=_;rw[d5.out]);clear r F;cases R:a.kz with
     | false=>
      rw[R]at c0 c3;have g5:Hid (Zbx c (k+1)=.ok (l,mo)):=hid (by rw[g4.out];unfold Zfx;simp only;rw[<-d7.out,R];rfl);go_wp2
      go_roundw
      case rel=>exact⟨k+1,mo,l,by omega,by go_num,rfl,p5,d4,g5,d6,hid (B.below Zbal),hid (q.alloc q.size _)⟩
      case measure=>simp[intOf];omega
     | true=>
      rw[R]at c0 c3;rw[if_pos rfl]at c3
      have j0 : Hid (Zfx c k l mo = .error (12, k) -> verV (ZcT c) = (0, 0, 12, k)) := hid (fun he => f9.out k (by
        unfold Zdj;rw[Zrx (k:=k+1) (e:=(12,k)) (by rw[g4.out,he]) _ (by rw[<-O.out];omega)]))
      have j1 : Hid (a.kq = true -> Zfx c k l mo = .error (12, k)) := hid (fun hc => by
        unfold Zfx;simp only;rw[<-d7.out,R,hc];rfl)
      have d8 : Hid (a.kq = false -> Zt c (op, arg) a.jy a.jx = none -> Zfx c k l mo = .error (12, k)) := hid (fun hc hs => by
        unfold Zfx;simp only;rw[<-d7.out,R,hc,b5.out];simp only[if_true,if_false,Yde];rw[hs])
      have j2 : Hid (a.kq = false -> ∀ st sl, Zt c (op, arg) a.jy a.jx = some (st, sl) -> Zbx c (k + 1) = .ok (goOn (op, arg) k st sl l, max mo st.length)) := hid (fun hc st sl hs => by
        rw[g4.out];unfold Zfx;simp only;rw[<-d7.out,R,hc,b5.out];simp only[if_true,if_false,Yde];rw[hs])
      have HD:=hid (ZU2 c k op arg a.jy a.jx Z HR.out v.ok.ln (fun x hx=>⟨v.ok.kd x hx,v.st x hx⟩) v.ok.sl v.sl);have p6:(stB a.jy).size<=64:=by rw[ZTq];exact v.ok.ln
      have j3:(slB a.jx).size=16:=by rw[ZTQ];exact v.ok.sl
      have m8:=hid j3;clear j3 R g4 d5 d7;obtain⟨S,hS⟩:∃S,stB a.jy=S:=⟨_,rfl⟩
      obtain⟨L,hL⟩:∃L,slB a.jx=L:=⟨_,rfl⟩
      rw[hS]at c2 p6 HD;rw[hL]at c3 m8 HD;clear hS hL;obtain⟨acl,j4⟩:∃acl,a.kq=acl:=⟨_,rfl⟩
      rw[j4]at c1 j1 d8 j2;clear j4
      go_upto_region 20 with fail
      refine ZP fun W hW=>?_;have a8:BW wr W:=by rw[hW];exact Zbal.alloc (by simp) _
      have a2:Hid (BAt W wr.heap.size [.bool true,.bool acl,.string S,.string L] 139):=hid (by
       rw[hW];exact BAt.below (show BAt _ _ _ _ from Go.Deep.blk_alloc_new wr _) Zbal)
      have g6:Hid (BAt W (wr.heap.size+1) [Vi op,Vi arg] 136):=hid (by
       rw[hW];have:=fun o=>Go.Deep.blk_alloc_new (wr.alloc o) (.cells #[Vi op,Vi arg] 136);simp only[Go.Deep.nblk_alloc]at this;exact this _)
      have m9:=hid (B.below a8);have a3:Hid (BW w W):=hid (q.trans (a8.mono q.size));have r4:¬wr.heap.size=g:=by omega
      have d1:¬wr.heap.size+1=g:=by omega
      clear hW a8 c0 c1 c2 c3 i0c i1c d3 s B q Q a1 i7;generalize wr.heap.size+1=xi at *
      generalize wr.heap.size=xa at *
      have x1:=a2.cell 1;have x2:=a2.cell 2;have x3:=a2.cell 3;have y0:=g6.cell 0;have y1:=g6.cell 1;simp only[Zget]at x1 x2 x3 y0 y1
      go_wp2_with fail
      refine(ZWy op Z).mono ?_;rintro e W ⟨rfl,rfl⟩;obtain⟨Wd,n0⟩:∃Wd,ZTT op=Wd:=⟨_,rfl⟩
      rw[n0]at HD ⊢;clear n0;have p7:=HD.wle
      go_wp2_with fail
      refine(ZVl S Wd Om p7).mono ?_;rintro e w3 ⟨rfl,d9⟩;have e0:Hid (BW w w3):=hid (a3.trans (d9.mono a3.size));have a9:=hid (a2.below d9);have c7:=hid (g6.below d9);have n1:=hid (m9.below d9);clear d9 x1 x2 x3 y0 y1 a2 g6 m9 a3;have x1:=a9.cell 1;have x2:=a9.cell 2;have x3:=a9.cell 3;have y0:=c7.cell 0;have y1:=c7.cell 1;simp only[Zget]at x1 x2 x3 y0 y1;obtain⟨fb,j5⟩:∃fb,ZTi S Wd=fb:=⟨_,rfl⟩
      rw[j5];have j6:=hid j5;clear j5;obtain⟨bad,j7⟩:∃bad:Bool,bad=(acl || (!fb || (decide (op=13) && decide ((bl L).getD arg 0=45)))):=⟨_,rfl⟩
      have G:=hid j7;clear j7;have n2:Hid (op=13->arg<L.size):=hid HD.ld
      have j8 : Hid (∀ h : arg < L.size, (bl L).getD arg 0 = L[arg]) := hid (fun h => by
        rw[Yaa,List.getElem?_eq_getElem (by rw[Zd];exact h),ZgE L arg h];rfl)
      go_upto_region 22 with fail
      go_cut [16,119] from 71 to 204 (fun s16 s119 wx=>s16=.bool fb/\s119=.bool bad/\wx=w3)
      case first => as_aux_lemma =>
        cases j:acl with
        | true=>
          rw[j]at x1;have M:bad=true:=by rw[G.out,j];rfl
          subst M;go_wp2
          go_meet
          exact⟨rfl,rfl,rfl⟩
        | false=>
          rw[j]at x1;cases a4:fb with
          | false=>
            have M:bad=true:=by rw[G.out,j,a4];rfl
            subst M;go_wp2
            go_meet
            exact⟨by rw[a4],rfl,rfl⟩
          | true=>
            by_cases N:op=13
            · have n3:=n2.out N
              have e13:((op:Int) == 13)=true:=by rw[beq_iff_eq];omega
              by_cases b7:(bl L).getD arg 0=45
              · have M:bad=true:=by rw[G.out,j,a4,decide_eq_true N,decide_eq_true b7];rfl
                have d45:(((L[arg].toNat:Nat):Int) == 45)=true:=by rw[<-j8.out n3,b7];rfl
                clear b7 N;subst M;go_wp2
                go_meet
                exact⟨by rw[a4],rfl,rfl⟩
              · have M:bad=false:=by rw[G.out,j,a4,decide_eq_true N,decide_eq_false b7];rfl
                have d45:(((L[arg].toNat:Nat):Int) == 45)=false:=by rw[beq_eq_false_iff_ne];intro e;exact b7 (by rw[j8.out n3];exact Ydf.1 (by show _=45;omega))
                clear b7 N;subst M;go_wp2
                go_meet
                exact⟨by rw[a4],rfl,rfl⟩
            · have M:bad=false:=by rw[G.out,j,a4,decide_eq_false N];rfl
              have e13:((op:Int) == 13)=false:=by rw[beq_eq_false_iff_ne];omega
              clear N;subst M;go_wp2
              go_meet
              exact⟨by rw[a4],rfl,rfl⟩
      case rest=>
      obtain⟨rfl,rfl,rfl⟩:=hcut
      rename World=>w3
      cases M:bad with
      | true=>
       have HV:=hid (j0.out (by
        have A:=G.out;rw[M]at A;cases r:acl with
        | true=>exact j1.out r
        | false=>
         cases hf:fb with
         | false=>exact d8.out r (HD.no (by rw[j6.out,hf]))
         | true=>
          rw[r,hf]at A;have h2:(decide (op=13) && decide ((bl L).getD arg 0=45))=true:=A.symm;rw[Yas]at h2;exact d8.out r (HD.no2 (of_decide_eq_true h2.1) (of_decide_eq_true h2.2))))
       go_wp2
       (try simp only[Exit.inBlock,Exit.then])
       refine bodyPost_ret (ZTP rfl) rfl ?_;exact⟨0,0,12,k,rfl,HV,e0.out⟩
      | false=>
       have m2:acl=false/\fb=true/\(op=13->¬(bl L).getD arg 0=45):=by
        have A:=G.out;rw[M]at A;cases r:acl with
        | true=>rw[r]at A;cases A
        | false=>
         cases hf:fb with
         | false=>rw[r,hf]at A;cases A
         | true=>
          refine⟨rfl,rfl,fun e1 e2=>?_⟩;rw[r,hf,decide_eq_true e1,decide_eq_true e2]at A;cases A
       obtain⟨j,n4,n5⟩:=m2;have j9:=hid (d8.out j);have k4:=hid (j2.out j);have HF:Hid (ZTi S Wd=true):=hid (by rw[j6.out,n4]);have k5:=hid n5;have p8:Wd.size<=S.size:=HD.le HF.out;clear d8 j2 j1 G j6 j8 j n4 n5 M
       go_upto_region 25 with fail
       obtain⟨LO,e3⟩:∃LO,S.extract 0 (S.size - Wd.size)=LO:=⟨_,rfl⟩
       rw[e3];have j3:LO.size<=S.size:=by rw[<-e3,Yga];omega
       have e4:Hid (S.size - Wd.size=LO.size):=hid (by rw[<-e3,Yga];omega);have g7:=hid e3;clear e3
       go_upto_region 26 with fail
       obtain⟨TK,b8⟩:∃TK,S.extract LO.size S.size=TK:=⟨_,rfl⟩
       rw[b8];have r5:TK.size<=2:=by rw[<-b8,Yga,<-e4.out];omega
       have g8:Hid (64<(LO++ZTt c op arg TK L).size->Zt c (op,arg) a.jy a.jx=none):=hid (fun h=>HD.big HF.out k5.out (by rw[g7.out,e4.out,b8];exact h))
       have e5 : Hid (¬ 64 < (LO ++ ZTt c op arg TK L).size -> ∃ st' sl', Zt c (op, arg) a.jy a.jx = some (st', sl') /\ LO ++ ZTt c op arg TK L = stB st' /\ hasB op arg TK L = slB sl') := hid (fun h => by
         have:=HD.ok HF.out k5.out (by rw[g7.out,e4.out,b8];exact h)
         rwa [g7.out,e4.out,b8]at this)
       have k6:Hid ((ZTt c op arg TK L).size<=3):=hid (by have:=ZVS c op arg TK L;omega);clear b8 g7 e4 p8 HD HF k5
       go_wp2_with fail
       refine(ZVT w3 cb c op arg TK L Z c6 ((HP.code.below e0.out).pickAt HR.out) n2.out).mono ?_;rintro e w4 ⟨rfl,e6⟩;have k7:Hid (BW w w4):=hid (e0.trans (e6.mono e0.size));have k8:=hid (a9.below e6);have c8:=hid (c7.below e6);have n6:=hid (n1.below e6);obtain⟨P,hP⟩:∃P,ZTt c op arg TK L=P:=⟨_,rfl⟩
       rw[hP]at g8 e5 k6 ⊢;have r6:=k6.out;clear e6 x1 x2 x3 y0 y1 a9 c7 n1 e0 k6 hP;have x3:=k8.cell 3;have y0:=c8.cell 0;have y1:=c8.cell 1;simp only[Zget]at x3 y0 y1
       go_upto_if 147 with fail
       obtain⟨X,hX⟩:∃X,LO++P=X:=⟨_,rfl⟩
       rw[hX]at g8 e5 ⊢;obtain⟨H,hH⟩:∃H,hasB op arg TK L=H:=⟨_,rfl⟩
       rw[hH]at e5;have HH:=hid hH;clear hX hH
       go_cut [20] from 71 to 204 (fun s20 wx=>s20=.string H/\Hid (BW w4 wx))
       case first => as_aux_lemma =>
         by_cases a0:op=12
         · have e12:((op:Int) == 12)=true:=by rw[beq_iff_eq];omega
           have r0:arg<16:=by have:=HR.out;rw[a0]at this;simpa [Zy] using this
           have o2:=m8.out;have k9:Hid (L.extract 0 arg++TK++L.extract (arg+1) L.size=H):=hid (by rw[<-HH.out];unfold hasB;rw[if_pos a0]);have r1:arg+1<=L.size:=by omega
           have r2:L.size<=16:=by omega
           clear a0 o2;go_wp2
           go_quiet (fail)
           go_wp2
           go_meet
           exact⟨by rw[k9.out],hid belB⟩
         · have e12:((op:Int) == 12)=false:=by rw[beq_eq_false_iff_ne];omega
           have k9:Hid (L=H):=hid (by rw[<-HH.out];unfold hasB;rw[if_neg a0]);clear a0;go_wp2
           go_meet
           exact⟨by rw[k9.out],hid (Yaf _ _)⟩
       case rest=>
       obtain⟨rfl,g9⟩:=hcut
       rename World=>w5
       have e7:Hid (BW w w5):=hid (k7.trans (g9.mono k7.size));have T:=hid (c8.below g9.out);have b9:=hid (n6.below g9.out);clear x3 y0 y1 k8 c8 n6 k7 g9 HH;by_cases l0:64<X.size
       ·have HV:=hid (j0.out (j9.out (g8.out l0)));go_wp2
        (try simp only[Exit.inBlock,Exit.then])
        refine bodyPost_ret (ZTP rfl) rfl ?_;exact⟨0,0,12,k,rfl,HV,e7.out⟩
       ·obtain⟨st',sl',i1,l2,n7⟩:=e5.out l0;obtain⟨z1,z2,z3⟩:=ZCP HR.out v.ok.ln v.ok.kd v.ok.sl i1;obtain⟨z4,z5⟩:=ZWm v.st v.sl i1;have n8:=hid (And.intro z1 (And.intro z2 (And.intro z3 (And.intro z4 (And.intro z5 (And.intro l2 n7))))));obtain⟨mo2,c9⟩:∃mo2,mo2=max mo X.size:=⟨_,rfl⟩
        have g5:Hid (Zbx c (k+1)=.ok (goOn (op,arg) k st' sl' l,mo2)):=hid (by rw[k4.out st' sl' i1,c9,l2,ZTq]);have i2:mo2<=64:=by omega
        clear i1 l2 n7 z1 z2 z3 z4 z5 g8 e5 j9 k4
        go_upto_if 167 with fail
        go_cut [11] from 71 to 204 (fun s11 wx=>s11=Vi mo2/\wx=w5)
        case first => as_aux_lemma =>
          by_cases r7:mo<X.size
          · have l3:mo2=X.size:=by omega
            clear c9;subst l3;go_wp2
            go_meet
            exact⟨rfl,rfl⟩
          · have l3:mo2=mo:=by omega
            clear c9;subst l3;go_wp2
            go_meet
            exact⟨rfl,rfl⟩
        case rest=>
        obtain⟨rfl,rfl⟩:=hcut
        rename World=>w5
        clear c9;obtain⟨cj,o0⟩:∃cj,cj=ZcE op:=⟨_,rfl⟩
        have c4:=hid o0;clear o0;have y0:=T.cell 0;have y1:=T.cell 1;simp only[Zget]at y0 y1
        go_upto_region 34 with fail
        go_cut [177] from 71 to 204 (fun s177 wx=>s177=.bool cj/\wx=w5)
        case first => as_aux_lemma =>
          by_cases h9:op=9
          · have e9:((op:Int) == 9)=true:=by rw[beq_iff_eq];omega
            have hj:cj=true:=by rw[c4.out,h9];rfl
            clear h9;subst hj;go_wp2
            go_meet
            exact⟨rfl,rfl⟩
          · have e9:((op:Int) == 9)=false:=by rw[beq_eq_false_iff_ne];omega
            by_cases i3:op=10
            · have e10:((op:Int) == 10)=true:=by rw[beq_iff_eq];omega
              have hj:cj=true:=by rw[c4.out,i3];rfl
              clear h9 i3;subst hj;go_wp2
              go_meet
              exact⟨rfl,rfl⟩
            · have e10:((op:Int) == 10)=false:=by rw[beq_eq_false_iff_ne];omega
              have hj:cj=false:=by rw[c4.out];unfold ZcE;simp[h9,i3]
              clear h9 i3;subst hj;go_wp2
              go_meet
              exact⟨rfl,rfl⟩
        case rest=>
        obtain⟨rfl,rfl⟩:=hcut
        rename World=>w5
        obtain⟨l1,i4⟩:∃l1,l1=if cj then l.set arg (Zbi (l.getD arg ah0) st' sl')else l:=⟨_,rfl⟩
        have e8:=hid i4;clear i4
        go_upto_if 177 with fail
        go_cut [] from 71 to 204 (fun wx=>Hid (BAt wx g (ZTl l1) 139)/\Hid (∀x∈l1,AhK x)/\Hid (BAt wx xi [Vi op,Vi arg] 136)/\Hid (BW w wx))
        case first => as_aux_lemma =>
          cases hj:cj with
          | false=>
            have i4:l1=l:=by rw[e8.out,hj];rfl
            subst i4;go_wp2
            go_meet
            exact⟨b9,d6,T,e7⟩
          | true=>
            have l4:k<arg/\arg<=n:=by
              have A:=HR.out;have h2:=c4.out;rw[hj]at h2
              have h3:op=9∨op=10:=by
                have:=h2.symm;unfold ZcE at this;simpa using this
              rw[O.out];rcases h3 with h3|h3 <;> (rw[h3]at A;simpa [Zy] using A)
            have q9:=l4.2;clear l4;have f4:arg<l.length:=by rw[d4.out];omega
            obtain⟨q1,q2,q3,q4,q5,q6,q7⟩:=n8.out;obtain⟨bk,bc,bs,bz,cl,S1,L1,C⟩:=ZUy f4 d6.out q1 q2 q3 q4 q5 q6 q7;have l5:Hid (l1=l.set arg (Zbi (l.getD arg ah0) st' sl')):=hid (by rw[e8.out,hj];rfl);clear q1 q2 q3 q4 q5 q6 q7 f4 hj;obtain⟨k0,k1,k2,k3⟩:=C.at0 _ _ _ b9.out;have a1:=b9.lt;have r8:=T.lt;have ab1:arg<n+1:=by omega
            have ab2:(arg:Int)<(n:Int)+1:=by omega
            have ab3:(arg:Int)<((n+1:Nat):Int):=by omega
            have o1:w5.drew.cell? ⟨xi,1,none⟩=some (Vi arg)/\w5.drew.cell? ⟨g,arg*4,none⟩=some (.bool bk)/\w5.drew.cell? ⟨g,arg*4+1,none⟩=some (.bool bc)/\w5.drew.cell? ⟨g,arg*4+2,none⟩=some (.string bs)/\w5.drew.cell? ⟨g,arg*4+3,none⟩=some (.string bz):=⟨y1,k0,k1,k2,k3⟩
            have p9 : Hid (∀ w6 : World, BW w5 w6 -> (w6.cell? ⟨xi, 1, none⟩ = some (Vi arg) /\ w6.cell? ⟨g, arg * 4, none⟩ = some (.bool bk) /\ w6.cell? ⟨g, arg * 4 + 1, none⟩ = some (.bool bc) /\ w6.cell? ⟨g, arg * 4 + 2, none⟩ = some (.string bs) /\ w6.cell? ⟨g, arg * 4 + 3, none⟩ = some (.string bz))) := hid (fun w6 M => by
              obtain⟨k0,k1,k2,k3⟩:=C.at0 _ _ _ (b9.below M);exact⟨(T.below M).cell 1,k0,k1,k2,k3⟩)
            go_wp2_with fail
            clear k0 k1 k2 k3 y0 y1;refine Zbn 12 (fun u=>u.cell? ⟨xi,1,none⟩=some (Vi arg)/\u.cell? ⟨g,arg*4,none⟩=some (.bool bk)/\u.cell? ⟨g,arg*4+1,none⟩=some (.bool bc)/\u.cell? ⟨g,arg*4+2,none⟩=some (.string bs)/\u.cell? ⟨g,arg*4+3,none⟩=some (.string bz)) Kr (by exact o1) (fun f=>?_);clear o1;refine Za 0 f (h:=?_);refine Za 1 f (h:=?_);refine Za 2 f (h:=?_);refine Za 3 f (h:=?_);refine Za 4 f (h:=?_);refine Za 5 f (h:=?_);refine Za 6 f (h:=?_);refine Za 7 f (h:=?_);refine Za 8 f (h:=?_);refine Za 9 f (h:=?_);refine Z4 (i:=10) Kr rfl (fun K hK=>?_);go_simp;refine(C.call _).mono ?_;rintro e w6 ⟨rfl,c5⟩;have a5:Hid (BW w5 w6):=hid ⟨c5.os,c5.tape,c5.output,c5.size,c5.block⟩;clear c5;go_simp;refine hK.out _ _ (p9.out _ a5.out) (fun f=>?_);clear hK K
            try simp only[Act.put,Zset]
            refine Za 11 f (h:=?_);refine Zbl Kr Kr rfl Kr (fun K hK=>?_);have I:=hid (b9.below a5.out);obtain⟨k0,k1,k2,k3⟩:=C.at0 _ _ _ I.out;have f0:=I.frozen (arg*4);have f1:=I.frozen (arg*4+1);have f2:=I.frozen (arg*4+2);have f3:=I.frozen (arg*4+3);have Y:Hid (BAt (ZTB w6 g (arg*4) (.bool true) (.bool cl) (.string S1) (.string L1)) g (ZTl l1) 139):=hid (by rw[l5.out];exact C.put _ _ _ I.out);have o3:Hid (∀x∈l1,AhK x):=hid (by rw[l5.out];exact C.ok);have o4:Hid (BAt (ZTB w6 g (arg*4) (.bool true) (.bool cl) (.string S1) (.string L1)) xi [Vi op,Vi arg] 136):=hid (ZWe (T.below a5.out) d1);have l6:Hid (BW w (ZTB w6 g (arg*4) (.bool true) (.bool cl) (.string S1) (.string L1))):=hid (ZUa (e7.trans (a5.mono e7.size)) i9);clear f;go_simp;refine hK.out _ _ ?_;clear hK K k0 k1 k2 k3 f0 f1 f2 f3;go_wp2
            go_meet
            exact⟨Y,o3,o4,l6⟩
        case rest=>
        obtain⟨I,l7,o5,a5⟩:=hcut
        rename World=>w6
        clear y0 y1 b9 T e7;have y0:=o5.cell 0;simp only[Ycy]at y0;have f6:Hid (l1.length=n+1):=hid (by rw[e8.out];split <;> simp[d4.out]);by_cases h9:op=9
        ·as_aux_lemma=>
         have n9:((op:Int) != 9)=false:=by rw[bne_eq_false_iff_eq];omega
         have f7:Hid (Zbx c (k+1)=.ok (l1,mo2)):=hid (by rw[g5.out];unfold goOn;simp only;rw[if_pos h9,e8.out,c4.out]);clear h9;go_wp2
         go_roundw
         case rel=>exact⟨k+1,mo2,l1,by omega,by go_num,rfl,i2,f6,f7,l7,I,a5⟩
         case measure=>simp[intOf];omega
        ·as_aux_lemma=>
         have n9:((op:Int) != 9)=true:=by rw[bne_iff_ne];omega
         have f4:k+1<l1.length:=by rw[f6.out];omega
         obtain⟨q1,q2,q3,q4,q5,q6,q7⟩:=n8.out;obtain⟨bk,bc,bs,bz,cl,S1,L1,C⟩:=ZUy f4 l7.out q1 q2 q3 q4 q5 q6 q7;have f7:Hid (Zbx c (k+1)=.ok (l1.set (k+1) (Zbi (l1.getD (k+1) ah0) st' sl'),mo2)):=hid (by rw[g5.out];unfold goOn;simp only;rw[if_neg h9,e8.out,c4.out]);have o6:Hid ((l1.set (k+1) (Zbi (l1.getD (k+1) ah0) st' sl')).length=n+1):=hid (by rw[Yat,f6.out]);clear q1 q2 q3 q4 q5 q6 q7 f4 h9;obtain⟨k0,k1,k2,k3⟩:=C.at0 _ _ _ I.out;have a1:=I.lt
         go_wp2_with fail
         refine(C.call _).mono ?_;rintro e w7 ⟨rfl,l8⟩;have Y:=hid (I.below l8);have l6:Hid (BW w w7):=hid (a5.trans (l8.mono a5.size));clear l8 k0 k1 k2 k3 y0 a1;obtain⟨k0,k1,k2,k3⟩:=C.at0 _ _ _ Y.out;have f0:=Y.frozen ((k+1)*4);have f1:=Y.frozen ((k+1)*4+1);have f2:=Y.frozen ((k+1)*4+2);have f3:=Y.frozen ((k+1)*4+3);have a1:=Y.lt;have q0:=hid (C.put _ _ _ Y.out);have o7:=hid C.ok;have q8:Hid (BW w (ZTB w7 g ((k+1)*4) (.bool true) (.bool cl) (.string S1) (.string L1))):=hid (ZUa l6.out i9);go_wp2
         go_roundw
         case rel=>exact⟨k+1,mo2,_,by omega,by go_num,rfl,i2,o6,f7,o7,q0,q8⟩
         case measure=>simp[intOf];omega
    ·as_aux_lemma=>
     obtain rfl:n=k:=by omega
     have F:n<l.length:=by rw[d4.out];omega
     obtain⟨a,r⟩:∃a,a=l.getD n ah0:=⟨_,rfl⟩
     have v:Hid (AhK a):=hid (by rw[r];exact ZT5 d6.out n);have c0:wr.cell? ⟨g,n*4,none⟩=some (.bool a.kz):=by rw[B.cell,r];exact ZTs l n 0 F Dc
     have c1:wr.cell? ⟨g,n*4+1,none⟩=some (.bool a.kq):=by rw[B.cell,r];exact ZTs l n 1 F Dc
     have c2:wr.cell? ⟨g,n*4+2,none⟩=some (.string (stB a.jy)):=by rw[B.cell,r];exact ZTs l n 2 F Dc
     have c3:wr.cell? ⟨g,n*4+3,none⟩=some (.string (if a.kz then slB a.jx else ⟨#[]⟩)):=by rw[B.cell,r];exact ZTs l n 3 F Dc
     have f8 : Hid (Zd1 a = true -> verV (ZcT c) = (mo, sn, 0, 0)) := hid (fun h => p3.out mo (by
       unfold Zdj;rw[<-O.out,d5.out];simp only;rw[<-r,h];rfl))
     have l9 : Hid (Zd1 a = false -> verV (ZcT c) = (0, 0, 12, n)) := hid (fun h => f9.out n (by
       unfold Zdj;rw[<-O.out,d5.out];simp only;rw[<-r,h];rfl))
     have f5:Hid (Zd1 a=(!a.kq && (decide (stB a.jy=⟨#[115]⟩) || decide (stB a.jy=⟨#[118]⟩)))):=hid (by
      unfold Zd1;have A:decide (stB a.jy=⟨#[115]⟩)=decide (a.jy=[1]):=decide_eq_decide.2 (ZUc (y:=[1]) v.st Dc);have h2:decide (stB a.jy=⟨#[118]⟩)=decide (a.jy=[2]):=decide_eq_decide.2 (ZUc (y:=[2]) v.st Dc);rw[A,h2])
     clear F d5 r;generalize stB a.jy=S at *
     generalize(if a.kz then slB a.jx else ⟨#[]⟩)=L at *
     generalize a.kz=kn at *
     generalize j:a.kq=acl at *
     obtain⟨ans,m0⟩:∃ans,Zd1 a=ans:=⟨_,rfl⟩
     rw[m0]at f8 l9 f5;clear m0 j
     go_upto_region 39 with fail
     refine ZP fun W hW=>?_;have a8:BW wr W:=by rw[hW];exact Zbal
     have a2:Hid (BAt W wr.heap.size [.bool kn,.bool acl,.string S,.string L] 139):=hid (by rw[hW];exact(show BAt _ _ _ _ from Go.Deep.blk_alloc_new wr _));have a3:Hid (BW w W):=hid (q.trans (a8.mono q.size));have m1:=hid (s.below a8);clear hW a8 c0 c1 c2 c3 d3 s B q Q a1;generalize wr.heap.size=xa at *
     have x1:=a2.cell 1;have x2:=a2.cell 2;have d3:=m1.box.cell 3;simp only[Zget]at x1 x2 d3;rw[<-O.out]at d3;have Q:=m1.box.lt;cases j:acl with
     | true=>
      rw[j]at x1;have hA:ans=false:=by rw[f5.out,j];rfl
      have HV:=hid (l9.out hA);go_wp2
      go_quiet (fail)
      go_wp2
      (try simp only[Exit.inBlock,Exit.then])
      refine bodyPost_ret (ZTP rfl) rfl ?_;exact⟨0,0,12,n,rfl,HV,(by have:=a3.out;first|exact this|exact this.drew|exact ZhQ this _)⟩
     | false=>
      rw[j]at x1;by_cases hs:S=⟨#[115]⟩
      ·have hA:ans=true:=by rw[f5.out,j,decide_eq_true hs];rfl
       have HV:=hid (f8.out hA);subst hs;go_wp2
       (try simp only[Exit.inBlock,Exit.then])
       refine bodyPost_ret (ZTP rfl) rfl ?_;exact⟨mo,sn,0,0,rfl,HV,a3.out⟩
      ·have s1:(S.toList == [115])=false:=by
        have A:=(ZTJ S ⟨#[115]⟩).trans (decide_eq_false hs);rw[Zbt ⟨#[115]⟩]at A;exact A
       by_cases hv:S=⟨#[118]⟩
       ·have hA:ans=true:=by rw[f5.out,j,decide_eq_true hv,Bool.or_true];rfl
        have HV:=hid (f8.out hA);subst hv;clear s1;go_wp2
        (try simp only[Exit.inBlock,Exit.then])
        refine bodyPost_ret (ZTP rfl) rfl ?_;exact⟨mo,sn,0,0,rfl,HV,a3.out⟩
       ·have s2:(S.toList == [118])=false:=by
         have A:=(ZTJ S ⟨#[118]⟩).trans (decide_eq_false hv);rw[Zbt ⟨#[118]⟩]at A;exact A
        have hA:ans=false:=by rw[f5.out,j,decide_eq_false hs,decide_eq_false hv];rfl
        have HV:=hid (l9.out hA);clear hs hv;go_wp2
        go_quiet (fail)
        go_wp2
        (try simp only[Exit.inBlock,Exit.then])
        refine bodyPost_ret (ZTP rfl) rfl ?_;exact⟨0,0,12,n,rfl,HV,(by have:=a3.out;first|exact this|exact this.drew|exact ZhQ this _)⟩
theorem ZUE{c:CodeQ}{x:Nat×Nat} : ∀ {n:Nat},Zcp c n=.error x->x.1=11
 | 0,h=>by cases h
 | n + 1, h => by
   unfold Zcp at h;cases a:Zcp c n with
   | error e=>rw[a]at h;injection h with h;subst h;exact ZUE a
   | ok u=>
     rw[a]at h;simp only at h;split at h
     · cases h
     · injection h with h;subst h;rfl
theorem ZUA{c:CodeQ}{x:Nat×Nat} : ∀ {n:Nat},Zbx c n=.error x->x.1=12
 | 0,h=>by cases h
 | n + 1, h => by
   unfold Zbx at h;cases a:Zbx c n with
   | error e=>rw[a]at h;injection h with h;subst h;exact ZUA a
   | ok u=>
     rw[a]at h;simp only at h;unfold Zfx at h;simp only at h;split at h
     · split at h
       · injection h with h;subst h;rfl
       · split at h
         · injection h with h;subst h;rfl
         · cases h
     · cases h
theorem ZWv(h:ZcT c=.error x):x.1≠0:=by
 unfold ZcT at h;split at h
 ·rename_i e a;injection h with h;subst h;rw[ZUE a];decide
 ·split at h
  ·rename_i e a;injection h with h;subst h;unfold Zdj at a;split at a
   ·rename_i e2 b;injection a with a;subst a;rw[ZUA b];decide
   ·split at a
    ·cases a
    ·injection a with a;subst a;show(12:Nat)≠0;decide
  ·cases h
theorem ZUF{t u v x y:Tmp}(h:fn.results=#[.tmp t,.tmp u,.tmp v,.tmp x,.tmp y]) :
  (results fn tmps).run P w=.ok (.tuple #[tmps.getD t undef,tmps.getD u undef,tmps.getD v undef,tmps.getD x undef,tmps.getD y undef]) w:=by
 simp[results,h]
def ZTw(w:World)(r:Except (Nat×Nat) (CodeQ×Nat×Nat))(v:Value)(a b c p:Nat):Prop:=match r with
 | .error x=>a=0/\b=0/\c=x.1/\p=x.2/\c≠0
 | .ok x=>a=x.2.1/\b=x.2.2/\c=0/\p=0/\∃(cb:Nat) (cv pv gv iv:Value) (l:List PV) (g:List (Option Addr×Nat×Nat)),v=.pointer (some ⟨cb,0,none⟩)/\VerP w cb x.1 cv pv gv iv l g
theorem ZTw.kj{c:Nat}(h:r=.error (c,p))(a:c≠0):ZTw w r v 0 0 c p:=by subst h;exact⟨rfl,rfl,rfl,rfl,a⟩
theorem ZTw.mkOk{a b cb:Nat}{cv pv gv iv:Value}{l:List PV}{g:List (Option Addr×Nat×Nat)}(h:r=.ok (code,a,b))(c:VerP w cb code cv pv gv iv l g):ZTw w r (Vp cb) a b 0 0:=by subst h;exact⟨rfl,rfl,rfl,rfl,cb,cv,pv,gv,iv,l,g,rfl,c⟩
theorem ZTw.zero{a b c:Nat}(h:ZTw w r v a b c p)(d:c≠0):a=0/\b=0:=by
 cases r with
 | error x=>exact⟨h.1,h.2.1⟩
 | ok x=>exact absurd h.2.2.1 d
theorem ZVB(s:BA)(w:World)(H:s.size<=maxLen) :
  CP 15 #[.string s] w fun e u=>∃(v:Value) (a b c p:Nat),e=.returned (.tuple #[v,Vi a,Vi b,Vi c,Vi p])/\Hid (ZTw u (ZcR (bl s)) v a b c p)/\BW w u:=by
 go_enter func15,ntmps15
 go_wp2_with fail
 refine(ZUV s w H).mono ?_;rintro e y ⟨v,c,p,rfl,o,r⟩;have j:=hid r;clear r;cases hd:Zb7 (bl s)with
 | error x=>
  have k:=o.out;rw[hd]at k;obtain⟨_,h,i,I⟩:=k;have J:Hid (ZcR (bl s)=.error (c,p)):=hid (by unfold ZcR;rw[hd,h,i]);have L:((c:Int) != 0)=true:=by rw[bne_iff_ne];omega
  clear hd o h i;go_wp2
  (try simp only[Exit.inBlock,Exit.then])
  refine bodyPost_ret (ZUF rfl) rfl ?_;exact⟨_,0,0,c,p,rfl,hid (ZTw.kj J.out I),j.out⟩
 | ok code=>
  have k:=o.out;rw[hd]at k;obtain⟨rfl,rfl,cb,cv,pv,gv,iv,l,g,rfl,t,A,B⟩:=k;have m:=hid (show VerP y cb code cv pv gv iv l g from⟨t,A,B⟩)
  have C:Hid (ZcR (bl s)=match ZcT code with
   | .error e=>.error e
   | .ok x=>.ok (code,x)):=hid (by unfold ZcR;rw[hd];simp only;cases ZcT code <;> rfl)
  clear hd o t A B
  go_wp2_with fail
  refine(ZVW y cb code cv pv gv iv l g m.out).mono ?_;rintro e z ⟨a,b,d,q,rfl,E,n⟩;have F:Hid (BW w z):=hid (j.trans (n.mono j.size));have G:Hid (VerP z cb code cv pv gv iv l g):=hid ⟨m.code.below n,m.ln,m.op⟩
  have K:Hid (ZTw z (ZcR (bl s)) (Vp cb) a b d q):=hid (by
   have h:=E.out;have i:=C.out;cases D:ZcT code with
   | error x=>
    rw[D]at h i;have f:((0:Nat),(0:Nat),x.1,x.2)=(a,b,d,q):=h;injection f with e1 f;injection f with e2 f;injection f with e3 e4;subst e1 e2 e3 e4;exact ZTw.kj i (ZWv D)
   | ok x=>
    rw[D]at h i;have f:(x.1,x.2,(0:Nat),(0:Nat))=(a,b,d,q):=h;injection f with e1 f;injection f with e2 f;injection f with e3 e4;subst e1 e2 e3 e4;exact ZTw.mkOk i G.out)
  clear n E C m j;go_wp2
  (try simp only[Exit.inBlock,Exit.then])
  refine bodyPost_ret (ZUF rfl) rfl ?_;exact⟨_,a,b,d,q,rfl,K,F.out⟩
theorem ZXL{a b c:Nat}(h:ZTw w r v a b c p):verR r=(a,b,c,p):=by
 cases r with
 | error x=>obtain⟨rfl,rfl,rfl,rfl,_⟩:=h;rfl
 | ok x=>obtain⟨rfl,rfl,rfl,rfl,_⟩:=h;rfl
theorem ZWw {v:Int}  : CP 16 #[Vi v] w fun e u => e = .returned (Vi v) /\ u = w := by
  go_enter func16,ntmps16;go_wp2;go_ret;exact⟨rfl,rfl⟩
theorem ZXQ(s:BA)(A:Nat->Addr)(m:Int)(w:World)(x:Vars w A m)(B:ZR w)(C:20<=w.heap.size)(q:s.size<=maxLen) :
  CP 6 #[.string s] w fun e u=>e=.returned (.bool true)/\BW w u:=by
 have D:Hid (CP 10 #[.string s] w _):=hid (Zwr s A m w x B C q);have E:Hid (∀W,CP 15 #[.string s] W _):=hid (fun W=>ZVB s W q);clear x B C q;go_enter func6,ntmps6
 go_wp2_with fail
 refine D.mono ?_;rintro e y ⟨a,b,c,p,rfl,F,j⟩;have d:=hid j;clear j D
 go_wp2_with fail
 refine Zm fun W r=>?_;have k:BW y W:=by rw[r];exact belB
 have l:Hid (BAt W y.heap.size [Vi a,Vi b] 31):=hid (by rw[r];exact(show BAt _ _ _ _ from Go.Deep.blk_alloc_new y _));have f:Hid (BW w W):=hid (d.trans (k.mono d.size));clear r k d;generalize y.heap.size=nb at *
 refine(E.out W).mono ?_;rintro e z ⟨v,a2,b2,c2,p2,rfl,t,g⟩;have n:Hid (BW w z):=hid (f.trans (g.mono f.size));have o:=hid (l.below g);have i:(a2,b2,c2,p2)=(a,b,c,p):=(ZXL t.out).symm.trans F.out;injection i with e1 i;injection i with e2 i;injection i with e3 e4;subst e1 e2 e3 e4;have H:Hid (c2≠0->a2=0/\b2=0):=hid (fun h=>t.zero h);have n0:=o.cell 0;have n1:=o.cell 1;simp only[Zget]at n0 n1;clear g t F E f l;by_cases G:c2=0
 ·subst G
  go_wp2_with (go_at_call 16;refine(ZWw).mono ?_;rintro e u ⟨rfl,rfl⟩)
  go_ret;exact⟨by simp,n.out⟩
 ·obtain⟨e1,e2⟩:=H.out G;subst e1 e2;have I:((c2:Int) != 0)=true:=by rw[bne_iff_ne];omega
  go_wp2_with (go_at_call 16;refine(ZWw).mono ?_;rintro e u ⟨rfl,rfl⟩)
  go_ret;exact⟨by simp,n.out⟩
theorem ZWg (w : World) : CP 7 #[] w fun e u => ∃ r : BA, e = .returned (.string r) /\ r.size <= maxLen /\ BW w u := by
  go_enter func7,ntmps7
  go_wp2_with fail
  refine(ZUC w Dc).mono ?_;rintro e y ⟨r,rfl,a,b⟩
  have c:r.size<=maxLen:=by
    have d:=congrArg List.length a.out;rw[Yab,Zd,Zd,ZT1]at d;rw[d];decide
  have f:=hid c;clear c a;go_wp2;go_ret;exact⟨r,rfl,f.out,b⟩
theorem ZXP(s t:BA)(A:Nat->Addr)(m:Int)(w:World)(n:Vars w A m)(d:ZR w)(l:20<=w.heap.size)(o:s.size<=maxLen)(p:t.size<=maxLen) :
  CP 3 #[.string s,.string t] w fun e u=>e=.returned (.bool true)/\BW w u:=by
 have c:Hid (∀(q:BA) (u:World),BW w u->q.size<=maxLen->CP 6 #[.string q] u fun e f=>e=.returned (.bool true)/\BW w f):=hid (fun q u a G=>(ZXQ q A m u (n.below a) (d.low a l) (Yah l a.size) G).mono (fun e f ⟨H,I⟩=>⟨H,a.trans (I.mono a.size)⟩));have b:=hid (And.intro o p);clear n d l o p;go_enter func3,ntmps3
 go_wp2_with fail
 refine(c.out s w (Yaf _ _) b.1).mono ?_;rintro e y ⟨rfl,g⟩;have v:=hid g;clear g
 go_wp2_with fail
 refine(c.out t y v.out b.2).mono ?_;rintro e z ⟨rfl,h⟩;have x:=hid h;clear h
 go_wp2_with fail
 refine(c.out s z x.out b.1).mono ?_;rintro e J ⟨rfl,i⟩;have j:=hid i;clear i
 go_wp2_with fail
 refine(ZWg J).mono ?_;rintro e B ⟨r,rfl,C,k⟩;have D:Hid (BW w B):=hid (j.trans (k.mono j.size));have E:=hid C;clear k C
 go_wp2_with fail
 refine(c.out r B D.out E.out).mono ?_;rintro e K ⟨rfl,F⟩;go_wp2;go_ret;exact⟨rfl,F⟩
