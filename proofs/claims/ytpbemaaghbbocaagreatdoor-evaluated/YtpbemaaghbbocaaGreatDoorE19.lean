/- Parts. -/
import Derived.Test.YtpbemaaghbbocaaGreatDoorE18
import Derived.Test.YtpbemaaghbbocaaGreatDoorE10
set_option linter.all false
set_option maxRecDepth 100000
set_option maxHeartbeats 16000000
namespace Go.Proofs.YtpbemaaghbbocaaGreatDoor
open Go.RowKit LS Go.Proofs.Tryz
variable {qs:List (BA×BA)}{zs zs':List (Value×El)}{l:List Lab}{c xs:List Value}{a base n sz:Nat}{p:PV}{lv sv v vv:Value}{w w' wr:World}
structure SamsV (w:World) (v:Value) (l:List (Int×Int)):Prop where
 own:w.ownsRow 0 220 2 v l.length (Zca l)
 len:l.length<=6001
 ok:∀x∈l,smOk x
theorem SamsV.below{l:List (Int×Int)}(h:SamsV w v l)(a:BW w w'):SamsV w' v l:=⟨Zn h.own a,h.len,h.ok⟩
theorem ZKi (n : Int) (w : World) : CP 102 #[Vi n] w fun e u => e = .returned (Vi (cutV n)) /\ u = w := by
  unfold cutV;by_cases a:1000000000<n
  · rw[if_pos a]
    go_enter func102,ntmps102;go_wp2;go_ret;exact⟨rfl,rfl⟩
  · rw[if_neg a]
    by_cases c:n < -1000000000
    · rw[if_pos c]
      go_enter func102,ntmps102;go_wp2;go_ret;exact⟨rfl,rfl⟩
    · rw[if_neg c]
      go_enter func102,ntmps102;go_wp2;go_ret;exact⟨rfl,rfl⟩
theorem ZNJ(l:List (Int×Int))(h:∀x∈l,smOk x) : -1000000000*(l.length:Int)<=(l.map (·.2)).sum/\(l.map (·.2)).sum<=1000000000*(l.length:Int):=by
 induction l with
 | nil=>simp
 | cons a l ih=>
  have e:=ih (fun x c=>h x (Yam _ c));have d:=h a (Yay ..);unfold smOk at d;simp only[Ybb,List.sum_cons,Yaj];omega
theorem ZNO(l:List (Int×Int))(k:Nat)(h:k<l.length):(l.take (k+1)).map (·.2)=(l.take k).map (·.2)++[l[k].2]:=by
 rw[List.take_succ_eq_append_getElem h,Yaq];rfl
theorem ZLk(op:Nat)(U:op<=4)(l:List (Int×Int))(h:SamsV w v l)(d:0<l.length) :
  CP 103 #[Vi op,v] w fun e u=>e=.returned (Vi (ZfI op (l.map (·.2))))/\∃n,u=w.drewN n:=by
 obtain⟨g,cp,rfl⟩:=ZF h.own d;have R:=h.len;have A:Hid (SamsV w (.slice (some ⟨g,0,none⟩) l.length cp) l):=h;have G:∀(j:Nat) (H:j<l.length),w.cell? ⟨g,j*2+1,none⟩=some (Vi (l[j]).2):=fun j H=>Zi h.own _ _ (by rw[(Zwh l j).2,List.getElem?_eq_getElem H];rfl);have J:Hid (∀(j:Nat) (H:j<l.length),w.cell? ⟨g,j*2+1,none⟩=some (Vi (l[j]).2)):=G;have S:w.cell? ⟨g,1,none⟩=some (Vi (l[0]).2):=by simpa using G 0 d
 obtain⟨x0,q⟩:∃x0,x0=(l[0]).2:=⟨_,rfl⟩
 have r:Hid (x0=(l.map (·.2)).headD 0):=hid (by rw[q];cases l with|nil=>simp at d|cons a l=>rfl);rw[<-q]at S;clear h G q;go_enter func103,ntmps103;go_wp2
 go_loop [5,6,7,8] (fun s5 s6 s7 s8=>∃(k:Nat) (sm mx mn:Int),k<=l.length/\s8=Vi k/\s5=Vi sm/\s6=Vi mx/\s7=Vi mn/\Hid (sm=((l.take k).map (·.2)).sum/\mx=maxL x0 ((l.take k).map (·.2))/\mn=minL x0 ((l.take k).map (·.2)))) (fun _ _ _ s8=>l.length - (intOf s8).toNat)
 case atStart=>exact⟨0,0,x0,x0,Yag _,rfl,rfl,rfl,rfl,rfl,rfl,rfl⟩
 case round=>
  obtain⟨k,sm,mx,mn,hk,rfl,rfl,rfl,rfl,p⟩:=hrel;by_cases s:k<l.length
  ·have ck:=J.out k s;have K:=hid (ZNO l k s);have L:=ZNJ (l.take k) (fun x B=>A.ok x (Ydn B));rw[<-p.1,Ya7]at L;have B:=A.ok l[k] (List.getElem_mem s);unfold smOk at B;obtain⟨M,N,O,P⟩:=B;obtain⟨C,D⟩:=L;have t:min k l.length=k:=by omega
   rw[t]at C D;have V:(k:Int)<=6001:=by omega
   have W : -6001000000000<=sm:=by omega
   have X:sm<=6001000000000:=by omega
   have c:Hid (sm+(l[k]).2=((l.take (k+1)).map (·.2)).sum/\(if mx<(l[k]).2 then (l[k]).2 else mx)=maxL x0 ((l.take (k+1)).map (·.2))/\(if (l[k]).2<mn then (l[k]).2 else mn)=minL x0 ((l.take (k+1)).map (·.2))):=hid (by
    rw[K.out,Ygh,ZyW,Zy1,<-p.1,<-p.2.1,<-p.2.2];exact⟨by simp,rfl,rfl⟩)
   obtain⟨x,E⟩:∃x,x=(l[k]).2:=⟨_,rfl⟩
   rw[<-E]at ck c O P;clear t C D M N K p E;by_cases o:mx<x
   ·by_cases f:x<mn
    ·go_wp2
     go_round
     case rel=>exact⟨k+1,_,_,_,by omega,by go_num,rfl,rfl,rfl,⟨c.1,by rw[<-c.2.1,if_pos o],by rw[<-c.2.2,if_pos f]⟩⟩
     case measure=>simp[intOf];omega
    ·go_wp2
     go_round
     case rel=>exact⟨k+1,_,_,_,by omega,by go_num,rfl,rfl,rfl,⟨c.1,by rw[<-c.2.1,if_pos o],by rw[<-c.2.2,if_neg f]⟩⟩
     case measure=>simp[intOf];omega
   ·by_cases f:x<mn
    ·go_wp2
     go_round
     case rel=>exact⟨k+1,_,_,_,by omega,by go_num,rfl,rfl,rfl,⟨c.1,by rw[<-c.2.1,if_neg o],by rw[<-c.2.2,if_pos f]⟩⟩
     case measure=>simp[intOf];omega
    ·go_wp2
     go_round
     case rel=>exact⟨k+1,_,_,_,by omega,by go_num,rfl,rfl,rfl,⟨c.1,by rw[<-c.2.1,if_neg o],by rw[<-c.2.2,if_neg f]⟩⟩
     case measure=>simp[intOf];omega
  ·obtain rfl:k=l.length:=by omega
   have I:Hid (sm=(l.map (·.2)).sum/\mx=maxL ((l.map (·.2)).headD 0) (l.map (·.2))/\mn=minL ((l.map (·.2)).headD 0) (l.map (·.2))):=hid (by
    have:=p.out;rw[Ya4,r.out]at this;exact this)
   have cl:=J.out (l.length - 1) Om;obtain⟨xl,y⟩:∃xl,xl=(l[l.length - 1]).2:=⟨_,rfl⟩
   have Q:Hid (xl=(l.map (·.2)).getLastD 0):=hid (by
    rw[y,Yey,Ygm,Yak,Ya2,List.getElem?_eq_getElem Om];rfl)
   have i:=A.ok l[0] (List.getElem_mem d);have m:=A.ok l[l.length - 1] (List.getElem_mem Om)
   have z:x0=(l[0]).2:=by
    have T:=r.out;cases l with
    | nil=>simp at d
    | cons a l=>exact T
   unfold smOk at i m;rw[<-z]at i;rw[<-y]at m cl;obtain⟨_,_,y1,y2⟩:=i;obtain⟨_,_,y3,y4⟩:=m;clear y z;rcases(by omega:op=0∨op=1∨op=2∨op=3∨op=4)with rfl|rfl|rfl|rfl|rfl
   ·go_wp2;go_ret;exact⟨ZBw (by rw[I.1];rfl),0,rfl⟩
   ·go_wp2;go_ret;exact⟨ZBw (by rw[I.2.1];rfl),0,rfl⟩
   ·go_wp2;go_ret;exact⟨ZBw (by rw[I.2.2];rfl),0,rfl⟩
   ·go_wp2;go_ret;exact⟨ZBw (by unfold ZfI;rw[Yak];rfl),0,rfl⟩
   ·obtain⟨n1,F⟩:∃n1:Nat,n1=l.length - 1:=⟨_,rfl⟩
    have Y:(l.length:Int) - 1=(n1:Int):=by omega
    have Z:(n1:Int)<l.length:=by omega
    rw[<-F]at cl;clear F;go_wp2
    go_quiet (fail)
    go_wp2;go_ret;exact⟨ZBw (by unfold ZfI;rw[<-r.out,<-Q.out];rfl),_,rfl⟩
theorem Tryz.infoRSm:(Tryz.prog.info? 220).map (fun i=>(i.zero,i.size,i.bytes))=some (some (.agg #[Vi 0,Vi 0]),2,16):=by kernel_rfl
theorem ZJO{w0:World}(h:BW w0 w)(a:w.grownBy w' v.ownBlock)(d:∀q,v.ownBlock=some q->w0.heap.size<=q):BW w0 w':=by
 refine⟨a.os.trans h.os,a.tape.trans h.tape,a.output.trans h.output,Yah h.size a.size,?_⟩;intro j c;rw[a.block j (Yaw c h.size) (fun e=>by have:=d j e.symm;omega),h.block j c]
theorem BAt.ownGrown{t:TypeId}(h:BAt w a c t){e:TypeId}(d:w.ownsRow base e sz v n xs)(f:w.grownBy w' v.ownBlock)(g:t≠e):BAt w' a c t:=
 (f.block a h.lt (Zcx d h g)).trans h
theorem ZNX(l:List (Int×Int))(k:Nat)(h:k<l.length)(n t:Int):Zb6 (l.take (k+1)) n t=Zb6 (l.take k) n t++(if t - n<l[k].1/\l[k].1<=t then [l[k]] else []):=by
 unfold Zb6;rw[List.take_succ_eq_append_getElem h,Ygd]
 congr 1
 by_cases a:t - n<l[k].1/\l[k].1<=t
 ·rw[if_pos a];simp[a.1,a.2]
 ·rw[if_neg a]
  have:(decide (t - n<l[k].1) && decide (l[k].1<=t))=false:=by
   rw[Yfm,decide_eq_false_iff_not,decide_eq_false_iff_not];by_cases c:t - n<l[k].1
   ·right;intro d;exact a ⟨c,d⟩
   ·exact Or.inl c
  simp only[Ygg,this,Ygp];rfl
theorem ZLm(l:List (Int×Int))(n t:Int):(Zb6 l n t).length<=l.length:=Ydj _ _
theorem ZNY(nm:BA)(la:Option Addr)(ln lc:Nat)(K:lv=.slice la ln lc)(l:List (Int×Int))(n t:Int)(Z:0<=n)(a0:n<=1000)(a1 : -1000000<=t)(a2:t<=1000000)(h:SamsV w sv l) :
  CP 101 #[.agg #[.string nm,lv,sv],Vi n,Vi t] w fun e u=>∃rv:Value,e=.returned rv/\Hid (SamsV u rv (Zb6 l n t))/\BW w u:=by
 obtain⟨sa,sc,rfl⟩:=Zl h.own;subst K;have B:Hid (SamsV w (.slice sa l.length sc) l):=h;have G:=h.len;obtain⟨i0,S,L,M,N⟩:=info_parts Tryz.infoRSm;clear h;go_enter func101,ntmps101;go_wp2
 go_loopg [7,8] l.length (fun gk v7 v8 wr=>∃k:Nat,k<=l.length/\gk=l.length - k/\v8=Vi k/\Hid (wr.ownsRow (w.heap.size+1) 220 2 v7 (Zb6 (l.take k) n t).length (Zca (Zb6 (l.take k) n t)))/\Hid (BW w wr)/\Hid (BAt wr w.heap.size [.string nm,.slice la ln lc,.slice sa l.length sc] 122))
 case atStart=>exact⟨0,Yag _,rfl,rfl,Ybc _ _ _ _,hid Zbal,hid (Go.Deep.blk_alloc_new _ _)⟩
 case round=>
  obtain⟨k,hk,a3,rfl,C,v,z⟩:=hrel;have b2:=z.cell 2;simp only[Zget]at b2;obtain⟨av,cp,T⟩:=Zl C.out;subst T;by_cases j:k<l.length
  ·obtain⟨g,cpx,U⟩:=ZF B.own Om;injection U with hg1 _ hg2;subst hg1 hg2;have A:Hid (SamsV wr (.slice (some ⟨g,0,none⟩) l.length sc) l):=B.below v.out;have r0:=Zi A.own _ _ (by rw[(Zwh l k).1,List.getElem?_eq_getElem j];rfl);have r1:=Zi A.own _ _ (by rw[(Zwh l k).2,List.getElem?_eq_getElem j];rfl);have c:=hid (ZNX l k j n t);have m:=B.ok l[k] (List.getElem_mem j);unfold smOk at m;obtain⟨⟨x,y⟩,D⟩:∃p,p=l[k]:=⟨_,rfl⟩
   rw[<-D]at r0 r1 c m;simp only at r0 r1 c m;obtain⟨o1,o2,o3,o4⟩:=m;have O:=ZLm (l.take k) n t;rw[Ya7]at O;clear D
   go_upto_region 6 with fail
   refine ZP fun W H=>?_;have o:BW wr W:=by rw[H];exact Zbal
   have I:Hid (BAt W wr.heap.size [Vi x,Vi y] 220):=hid (by rw[H];exact Go.Deep.blk_alloc_new _ _);have d:=hid (Zn C.out o);have r:Hid (BW w W):=v.trans (o.mono v.size);have i:=hid (z.below o);have a4:wr.heap.size<W.heap.size:=I.lt;have V:=v.size;clear H o C v z r0 r1 b2 A;have x0:=I.cell 0;have x1:=I.cell 1;simp only[Zget]at x0 x1;by_cases E:t - n<x
   ·by_cases F:x<=t
    ·go_wp2_with (at_builtin;refine wpList_append_own _ rfl (.tmp 34) (.tmp 36) 120 rfl (w.heap.size+1) 220 i0 (.agg #[Vi 0,Vi 0]) 2 16 underlying120 S L M N rfl Dc _ _ _ rfl (d.alloc _) ⟨W.heap.size,0,none⟩ 1 1 [Vi x,Vi y] rfl rfl (ZcY rfl) ?c2 ?c3 ?c4 ?c5 ?_)
     case c2=>exact⟨rfl,rfl⟩
     case c3=>unfold maxLen;omega
     case c4=>omega
     case c5=>omega
     intro v' P s a _;have Q:Hid (BW w P):=hid (ZJO (r.alloc r.size _) a (fun q X=>by have:=(d.lt q X).1;omega));have J:=hid (BAt.ownGrown (i.below Zbal) (d.alloc _) a Dc)
     have f:Hid (P.ownsRow (w.heap.size+1) 220 2 v' (Zb6 (l.take (k+1)) n t).length (Zca (Zb6 (l.take (k+1)) n t))):=hid (by
      rw[c.out,if_pos ⟨E,F⟩,Zwg,Yab];exact s)
     clear s a;go_wp2
     go_roundg (l.length - (k+1))
     case measure=>omega
     case rel=>exact⟨k+1,by omega,rfl,by go_num,f,Q,J⟩
    ·have f:Hid (W.ownsRow (w.heap.size+1) 220 2 (.slice av (Zb6 (l.take k) n t).length cp) (Zb6 (l.take (k+1)) n t).length (Zca (Zb6 (l.take (k+1)) n t))):=hid (by
      rw[c.out,if_neg (fun h=>F h.2),Yca];exact d.out)
     go_wp2
     go_roundg (l.length - (k+1))
     case measure=>omega
     case rel=>exact⟨k+1,by omega,rfl,by go_num,f,r,i⟩
   ·have f:Hid (W.ownsRow (w.heap.size+1) 220 2 (.slice av (Zb6 (l.take k) n t).length cp) (Zb6 (l.take (k+1)) n t).length (Zca (Zb6 (l.take (k+1)) n t))):=hid (by
     rw[c.out,if_neg (fun h=>E h.1),Yca];exact d.out)
    go_wp2
    go_roundg (l.length - (k+1))
    case measure=>omega
    case rel=>exact⟨k+1,by omega,rfl,by go_num,f,r,i⟩
  ·obtain rfl:k=l.length:=by omega
   have R:Hid (wr.ownsRow 0 220 2 (.slice av (Zb6 (l.take l.length) n t).length cp) (Zb6 l n t).length (Zca (Zb6 l n t))):=hid (by
    have:=Zgi C.out;rw[Ya4]at this ⊢;exact this)
   go_wp2;go_ret;exact⟨_,rfl,⟨R.out,Yah (ZLm _ _ _) G,fun x Y=>B.ok x ((Ycg.1 Y).1)⟩,v.out⟩
structure LabsV (w:World) (v:Value) (l:List Lab) (qs:List (BA×BA)):Prop where
 own:w.ownsRow 0 216 2 v qs.length (ZJt qs)
 say:qs.map bl2=l
 len:qs.length<=6001
 ok:∀q∈qs,q.1.size<=6000/\q.2.size<=6000
theorem LabsV.below(h:LabsV w v l qs)(a:BW w w'):LabsV w' v l qs:=⟨Zn h.own a,h.say,h.len,h.ok⟩
theorem LabsV.drewN(h:LabsV w v l qs)(n:Nat):LabsV (w.drewN n) v l qs:=⟨ZzW h.own n,h.say,h.len,h.ok⟩
theorem ZLn(l:List Lab)(n:LB)(k:Nat)(h:∀p∈l.take k,p.1≠n):ZeI l n=ZeI (l.drop k) n:=by
 induction l generalizing k with
 | nil=>simp
 | cons p l ih=>
  cases k with
  | zero=>rfl
  | succ k=>
   have a:=h p (by simp);rw[ZeI,if_neg a];exact ih k (fun q c=>h q (by simp[c]))
theorem ZcW{a b:BA}(h:bl a=bl b):a=b:=by
 cases a with | mk x => cases b with | mk y =>
   have:x=y:=by
     have c:x.toList=y.toList:=h;exact Array.toList_inj.mp c
   rw[this]
theorem ZJ1(a b:BA):(a.toList == b.toList)=decide (bl a=bl b):=by
 rw[Zbt,Zbt];by_cases h:bl a=bl b
 ·simp[h]
 ·simp[h]
theorem ZN1(l:List Lab)(qs:List (BA×BA))(h:qs.map bl2=l)(n:LB)(k:Nat)(c:k<qs.length)(d:∀q∈qs.take k,bl q.1≠n)(e:bl (qs[k]).1=n):ZeI l n=bl (qs[k]).2:=by
 subst h;rw[ZLn _ n k (by intro p a;rw[<-Yer]at a;obtain⟨q,f,rfl⟩:=Ybe.mp a;exact d q f)];rw[<-List.map_drop,List.drop_eq_getElem_cons c,Ybb,ZeI,if_pos (show(bl2 qs[k]).1=n from e)];rfl
theorem ZN2(l:List Lab)(qs:List (BA×BA))(h:qs.map bl2=l)(n:LB)(c:∀q∈qs,bl q.1≠n):ZeI l n=[]:=by
 subst h;rw[ZLn _ n qs.length (by intro p a;rw[<-Yer,Ya4]at a;obtain⟨q,d,rfl⟩:=Ybe.mp a;exact c q d)];rw[<-List.map_drop,List.drop_length];rfl
theorem ZN0(nm:BA)(h:LabsV w v l qs) :
  CP 149 #[v,.string nm] w fun e u=>∃r:BA,e=.returned (.string r)/\Hid (bl r=ZeI l (bl nm))/\∃n,u=w.drewN n:=by
 obtain⟨av,cp,rfl⟩:=Zl h.own;have d:Hid (LabsV w (.slice av qs.length cp) l qs):=h;have o:=h.len;clear h;go_enter func149,ntmps149;go_wp2
 go_loopw [5] (fun i wr=>∃(k:Nat) (nd:Nat),k<=qs.length/\i=Vi k/\Hid (∀q∈qs.take k,bl q.1≠bl nm)/\wr=w.drewN nd) (fun i _=>qs.length - (intOf i).toNat)
 case atStart=>exact⟨0,0,Yag _,rfl,hid (by intro q c;simp at c),rfl⟩
 case round=>
  obtain⟨k,nd,z,rfl,j,rfl⟩:=hrel;by_cases a:k<qs.length
  ·have p:∃g,av=some ⟨g,0,none⟩:=by
    obtain⟨g,cp',h⟩:=ZF d.own Om;injection h with h1;exact⟨g,h1⟩
   obtain⟨g,rfl⟩:=p;have c1:w.cell? ⟨g,k*2,none⟩=some (.string (qs[k]).1):=Zi d.own _ _ (by rw[(ZKc qs k).1,List.getElem?_eq_getElem a];rfl);have c2:w.cell? ⟨g,k*2+1,none⟩=some (.string (qs[k]).2):=Zi d.own _ _ (by rw[(ZKc qs k).2,List.getElem?_eq_getElem a];rfl);by_cases c:bl (qs[k]).1=bl nm
   ·have m:=hid (ZN1 l qs d.say (bl nm) k a j.out c);have s:((qs[k]).1.toList == nm.toList)=true:=by rw[ZJ1];simp[c]
    generalize(qs[k]).1=x at *
    generalize(qs[k]).2=y at *
    go_wp2;go_ret;exact⟨_,rfl,hid m.symm,_,rfl⟩
   ·have s:((qs[k]).1.toList == nm.toList)=false:=by rw[ZJ1];simp[c]
    have t:Hid (∀q∈qs.take (k+1),bl q.1≠bl nm):=hid (by
     intro q f;rw[List.take_succ_eq_append_getElem a]at f;rcases Yar.mp f with h|h
     ·exact j.out q h
     ·rw[Yap]at h;subst h;exact c)
    generalize(qs[k]).1=x at *
    generalize(qs[k]).2=y at *
    go_wp2
    go_roundw
    case rel=>exact⟨k+1,_,by omega,by go_num,t,rfl⟩
    case measure=>simp[intOf];omega
  ·obtain rfl:k=qs.length:=by omega
   have m:=hid (ZN2 l qs d.say (bl nm) (by have:=j.out;rwa [Ya4]at this));go_wp2;go_ret;exact⟨_,rfl,hid m.symm,_,rfl⟩
theorem ZKv (op : Nat) (g : op <= 3) (a b : Int) (d : vOk a) (f : vOk b) (w : World) : CP 106 #[Vi op, Vi a, Vi b] w fun e u => e = .returned (Vi (twoV op a b)) /\ u = w := by
  obtain⟨a1,a2⟩:=d;obtain⟨b1,b2⟩:=f;rcases(by omega:op=0∨op=1∨op=2∨op=3)with rfl|rfl|rfl|rfl
  · rw[ZDy]
    go_enter func106,ntmps106
    go_wp2_with (go_at_call 102;refine(ZKi _ _).mono ?_;rintro e u ⟨rfl,rfl⟩)
    go_ret;exact⟨rfl,rfl⟩
  · rw[ZDz]
    go_enter func106,ntmps106
    go_wp2_with (go_at_call 102;refine(ZKi _ _).mono ?_;rintro e u ⟨rfl,rfl⟩)
    go_ret;exact⟨rfl,rfl⟩
  · have i:(Go.IntKind.i64).wrap (a*b)=a*b:=by
      have j:=Zy5 a b a1 a2 b1 b2;generalize a*b=ab at *
      rw[Ybo];omega
    rw[ZDA];go_enter func106,ntmps106
    go_wp2_with (go_at_call 102;refine(ZKi _ _).mono ?_;rintro e u ⟨rfl,rfl⟩)
    go_ret;exact⟨rfl,rfl⟩
  · have h:(a.tdiv b).natAbs<=a.natAbs:=by rw[Yff];exact Yfg _ _
    have k:(Go.IntKind.i64).wrap (a.tdiv b)=a.tdiv b:=by rw[Ybo];omega
    by_cases c:b=0
    · subst c
      rw[ZDC];go_enter func106,ntmps106;go_wp2;go_ret;exact⟨rfl,rfl⟩
    · rw[ZDB a b c]
      go_enter func106,ntmps106;go_wp2;go_ret;exact⟨rfl,rfl⟩
theorem ZM8(a:Nd)(s:Ser)(qs:List (BA×BA×Bool))(h:qs.map blC=a.jq)(k:Nat)(c:k<qs.length)(d:ZfW s (blC qs[k])=false):Zc1 a s=false:=by
 unfold Zc1;rw[<-h,show(qs.map blC).all (ZfW s)=false from ?_];rfl;rw[Yf1];exact⟨blC qs[k],Ybe.mpr ⟨_,List.getElem_mem c,rfl⟩,by simp[d]⟩
theorem ZM9(a:Nd)(s:Ser)(qs:List (BA×BA×Bool))(h:qs.map blC=a.jq)(d:∀q∈qs,ZfW s (blC q)=true):Zc1 a s=decide (a.name=s.name):=by
 unfold Zc1;rw[<-h,show(qs.map blC).all (ZfW s)=true from ?_];rfl;rw[Ybu];intro c e;obtain⟨q,f,rfl⟩:=Ybe.mp e;exact d q f
theorem ZNa(p:PV)(nd:Nd)(s:Ser)(H:bl p.nm=nd.name)(hc:ZJq w 0 p nd.jq)(o:nd.jq.length<=100000)(sn:BA)(I:bl sn=s.name)(qs:List (BA×BA))(P:LabsV w lv s.labs qs)(sa:Option Addr)(sln slc:Nat) :
  CP 100 #[.agg #[Vi p.k,Vi p.n,Vi p.op,.string p.nm,.slice p.ca p.cn p.cc,.slice p.ba p.bn p.bc,Vi p.a,Vi p.b],.agg #[.string sn,lv,.slice sa sln slc]] w fun e u=>e=.returned (.bool (Zc1 nd s))/\BW w u:=by
 obtain⟨cs,f,t⟩:=hc;obtain⟨av,cp,hv⟩:=Zl f;injection hv with hv1 hv2 hv3;obtain⟨la,lc,rfl⟩:=Zl P.own;have Q:Hid (w.ownsRow 0 283 3 (.slice p.ca cs.length p.cc) cs.length (ZJo cs)):=hid (by have:=f;rw[hv2]at this;exact this);have d:Hid (bl p.nm=nd.name/\cs.map blC=nd.jq/\bl sn=s.name):=⟨H,t,I⟩
 have HL:Hid (LabsV w (.slice la qs.length lc) s.labs qs):=P;have a1:cs.length<=100000:=by rw[<-t,Yak]at o;exact o
 clear f hv3 t H I P o;obtain⟨pk,pn,pop,pnm,pca,pcn,pcc,pba,pbn,pbc,pa,pb⟩:=p;simp only at hv1 hv2 d Q;subst hv2;clear hv1;have U:Hid ((pnm.toList == sn.toList)=decide (nd.name=s.name)):=hid (by rw[ZJ1,d.1,d.2.2]);go_enter func100,ntmps100;go_wp2
 go_loopg [5] cs.length (fun gk v5 wr=>∃k:Nat,k<=cs.length/\gk=cs.length - k/\v5=Vi k/\Hid (∀q∈cs.take k,ZfW s (blC q)=true)/\Hid (BW w wr)/\Hid (PAt wr w.heap.size ⟨pk,pn,pop,pnm,pca,cs.length,pcc,pba,pbn,pbc,pa,pb⟩)/\Hid (BAt wr (w.heap.size+1) [.string sn,.slice la qs.length lc,.slice sa sln slc] 122))
 case atStart=>exact⟨0,Yag _,rfl,rfl,hid (by intro q hq;simp at hq),hid (Zbal.alloc (by simp) _),hid (Zbal.block _ (by simp) |>.trans (Go.Deep.blk_alloc_new _ _)),hid (by have:=Go.Deep.blk_alloc_new (w.alloc (.cells #[Vi pk,Vi pn,Vi pop,.string pnm,.slice pca cs.length pcc,.slice pba pbn pbc,Vi pa,Vi pb] 131)) (.cells #[.string sn,.slice la qs.length lc,.slice sa sln slc] 122);rw[Yf7]at this;exact this)⟩
 case round=>
  obtain⟨k,hk,a2,rfl,V,z,A,B⟩:=hrel;have b1:=B.cell 0;have b2:=B.cell 1;simp only[Zget]at b1 b2;obtain⟨k0,k1,k2,k3,k4,k5,k6,k7⟩:=A.all;by_cases C:k<cs.length
  ·have hg:∃g,pca=some ⟨g,0,none⟩:=by
    obtain⟨g,cp',h⟩:=ZF Q.out Om;injection h with h1;exact⟨g,h1⟩
   obtain⟨g,rfl⟩:=hg;have i:=hid (Zn Q.out z.out);obtain⟨f1,f2,f3⟩:=ZMs cs k;rw[List.getElem?_eq_getElem C]at f1 f2 f3;have d1:=Zi i.out _ _ f1;have d2:=Zi i.out _ _ f2;have d3:=Zi i.out _ _ f3;have HK:=hid (fun h=>ZM8 nd s cs d.2.1 k C h)
   have HN:Hid (ZfW s (blC cs[k])=true->∀q∈cs.take (k+1),ZfW s (blC q)=true):=hid (by
     intro hh q J;rw[List.take_succ_eq_append_getElem C]at J;rcases Yar.mp J with h|h
     ·exact V.out q h
     ·rw[Yap]at h;subst h;exact hh)
   generalize cs[k]=c at *
   obtain⟨x,y,v⟩:=c;simp only at d1 d2 d3;clear f1 f2 f3
   go_upto_region 5 with fail
   refine ZP fun W R=>?_;have j:BW wr W:=by rw[R];exact Zbal
   have D:Hid (BAt W wr.heap.size [.string x,.string y,.bool v] 283):=hid (by rw[R];exact Go.Deep.blk_alloc_new _ _);have E:Hid (BW w W):=z.trans (j.mono z.size);have K:=hid (B.below j);have L:Hid (PAt W w.heap.size ⟨pk,pn,pop,pnm,some ⟨g,0,none⟩,cs.length,pcc,pba,pbn,pbc,pa,pb⟩):=hid ((j.block _ A.lt).trans A.out);have a3:=A.lt;have a4:=B.lt;have a5:=D.lt;have X:Hid (LabsV W (.slice la qs.length lc) s.labs qs):=HL.below E.out;clear R j z B A b1 b2 k0 k1 k2 k3 k4 k5 k6 k7 d1 d2 d3 i;have b2:=K.cell 1;have c0:=D.cell 0;have c1:=D.cell 1;have c2:=D.cell 2;simp only[Zget]at b2 c0 c1 c2
   go_region_held3 (fun u => u.cell? ⟨w.heap.size + 1, 1, none⟩ = some (.slice la qs.length lc) /\ u.cell? ⟨wr.heap.size, 0, none⟩ = some (.string x) /\ u.cell? ⟨wr.heap.size, 1, none⟩ = some (.string y)) (first | exact ⟨b52, c50, c51⟩ | exact ⟨b2, c0, c1⟩ | go_keep) (first
     | (go_at_call 149
        refine(ZN0 x (by exact X.below ⟨rfl,rfl,rfl,Yac _,fun _ _=>rfl⟩)).mono ?_;rintro e S ⟨r,rfl,Y,n5,M⟩;have l:Hid (BW W S):=hid (by rw[M];exact⟨rfl,rfl,rfl,Yac _,fun _ _=>rfl⟩);have F:=hid (D.below l.out);have N:=hid (K.below l.out);have c50:=F.cell 0;have c51:=F.cell 1;have c52:=F.cell 2;have b52:=N.cell 1;simp only[Zget]at c50 c51 c52 b52;clear M))
   have Z:Hid (ZfW s (blC (x,y,v))=!((r.toList == y.toList) == v)):=hid (by
    rw[ZJ1,Y.out];rfl)
   have O:Hid (BW w S):=E.trans (l.mono E.size);have a0:Hid (PAt S w.heap.size ⟨pk,pn,pop,pnm,some ⟨g,0,none⟩,cs.length,pcc,pba,pbn,pbc,pa,pb⟩):=hid ((l.block _ L.lt).trans L.out);generalize(r.toList == y.toList)=b at *
   by_cases m:b=v
   ·have G:=hid (HK.out (by rw[Z.out,m];simp));have T:(b == v)=true:=by rw[m];simp
    go_wp2;go_ret;exact⟨by rw[G.out];rfl,O.out⟩
   ·have G:=hid (HN.out (by rw[Z.out];simp[m]));have T:(b == v)=false:=by simp[m]
    go_wp2
    go_roundg (cs.length - (k+1))
    case measure=>omega
    case rel=>exact⟨k+1,by omega,rfl,by go_num,G,O,a0,N⟩
  ·obtain rfl:k=cs.length:=by omega
   have G:=hid (ZM9 nd s cs d.2.1 (by have:=V.out;rwa [Ya4]at this));have a6:=U.out;go_wp2;go_ret;exact⟨by rw[G.out,<-U.out];rfl,z.out⟩
theorem Ztm(l:List Lab):∀k,k<=l.length->ZfK l k=wrt (l.take k)
 | 0,_=>rfl
 | k + 1, h => by
   have a:k<l.length:=h;rw[ZfK,Ztm l k Om];unfold wrt;rw[List.take_succ_eq_append_getElem a,Yaq,Yco,Zlc];have c:l.getD k ([],[])=l[k]:=by rw[Yaa,List.getElem?_eq_getElem a];rfl
   rw[c];by_cases d:0<k
   · rw[if_pos d,if_neg]
     · simp[lab1]
     · rw[Ydl]
       intro e;have:=congrArg List.length e;rw[Yak,Ya7,Ybq]at this;omega
   · obtain rfl:k=0:=by omega
     simp[lab1,commas]
theorem ZJ3(l:List Lab)(qs:List (BA×BA))(h:LabsV w v l qs) :
  CP 52 #[v] w fun e u=>∃r:BA,e=.returned (.string r)/\Hid (bl r=wrt l)/\∃n,u=w.drewN n:=by
 refine(ZLd v 0 qs w h.own h.len (hid h.ok)).mono ?_;rintro e u ⟨r,rfl,a,n,rfl⟩;refine⟨r,rfl,hid ?_,n,rfl⟩;rw[a.out,h.say,Ztm l _ (by rw[<-h.say,Yak];exact Yac _),<-h.say,Ya5 (by rw[Yak];exact Yac _)]
def ZJp:List (Value×El)->List Value
 | []=>[]
 | z::l=>z.1::.int .i64 z.2.2::ZJp l
theorem ZJW(l m:List (Value×El)):ZJp (l++m)=ZJp l++ZJp m:=by
 induction l with
 | nil=>rfl
 | cons a l ih=>simp[ZJp,ih]
theorem ZJy (l : List (Value × El)) (j : Nat) : (ZJp l)[j * 2]? = l[j]?.map (fun z => z.1) /\ (ZJp l)[j * 2 + 1]? = l[j]?.map (fun z => Vi z.2.2) := by
  induction l generalizing j with
  | nil=>simp[ZJp]
  | cons r l ih=>
    cases j with
    | zero=>simp[ZJp]
    | succ j=>
      obtain⟨a,c⟩:=ih j;refine⟨?_,?_⟩
      · rw[show(j+1)*2=j*2+1+1 by omega];simpa [ZJp] using a
      · rw[show(j+1)*2+1=j*2+1+1+1 by omega];simpa [ZJp] using c
def ElOk(w:World)(z:Value×El):Prop:=(∃qs,LabsV w z.1 z.2.1 qs)/\vOk z.2.2
theorem ElOk.below{z:Value×El}(h:ElOk w z)(a:BW w w'):ElOk w' z:=⟨h.1.elim fun qs c=>⟨qs,c.below a⟩,h.2⟩
structure ElsV (w:World) (v:Value) (zs:List (Value×El)):Prop where
 own:w.ownsRow 0 128 2 v zs.length (ZJp zs)
 len:zs.length<=1000000
 ok:∀z∈zs,ElOk w z
theorem ElsV.below(h:ElsV w v zs)(a:BW w w'):ElsV w' v zs:=⟨Zn h.own a,h.len,fun z c=>(h.ok z c).below a⟩
def ZJr:List (Value×El)->Value×El->List (Value×El)
 | [],x=>[x]
 | y::l,x=>if Op.bytesLess (wrt x.2.1) (wrt y.2.1)then x::y::l else y::ZJr l x
theorem ZK8(l:List (Value×El))(x:Value×El):(ZJr l x).map (·.2)=Zcd (l.map (·.2)) x.2:=by
 induction l with
 | nil=>rfl
 | cons y l ih=>
  rw[ZJr,Ybb,Zcd];by_cases h:Op.bytesLess (wrt x.2.1) (wrt y.2.1)=true
  ·rw[if_pos h,if_pos h];rfl
  ·rw[if_neg h,if_neg h,Ybb,ih]
theorem ZK9(l:List (Value×El))(x z:Value×El)(h:z∈ZJr l x):z=x∨z∈l:=by
 induction l with
 | nil=>rw[ZJr,Yap]at h;exact Or.inl h
 | cons y l ih=>
  rw[ZJr]at h;by_cases a:Op.bytesLess (wrt x.2.1) (wrt y.2.1)=true
  ·rw[if_pos a,Yau]at h;exact h
  ·rw[if_neg a,Yau]at h;rcases h with h|h
   ·exact Or.inr (by rw[h];exact Yay ..)
   ·rcases ih h with h|h
    ·exact Or.inl h
    ·exact Or.inr (Yam _ h)
theorem ZKg(l:List (Value×El))(x:Value×El):(ZJr l x).length=l.length+1:=by
 induction l with
 | nil=>rfl
 | cons y l ih=>
  rw[ZJr];split
  ·simp
  ·simp[ih]
theorem BAt.ownGrownLt{t:TypeId}(h:BAt w a c t){e:TypeId}(d:w.ownsRow base e sz v n xs)(f:w.grownBy w' v.ownBlock)(g:a<base):BAt w' a c t:=
 (f.block a h.lt (fun e=>by have:=(d.lt a e.symm).1;omega)).trans h
theorem ZNb(l:List (Value×El))(x:Value×El)(k:Nat)(h:k<l.length)(a:Op.bytesLess (wrt x.2.1) (wrt l[k].2.1)=true):ZJr (l.drop k) x=x::l[k]::l.drop (k+1):=by
 rw[List.drop_eq_getElem_cons h,ZJr,if_pos a]
theorem ZNc(l:List (Value×El))(x:Value×El)(k:Nat)(h:k<l.length)(a:¬Op.bytesLess (wrt x.2.1) (wrt l[k].2.1)=true):ZJr (l.drop k) x=l[k]::ZJr (l.drop (k+1)) x:=by
 rw[List.drop_eq_getElem_cons h,ZJr,if_neg a]
theorem Tryz.infoREl:(Tryz.prog.info? 128).map (fun i=>(i.zero,i.size,i.bytes))=some (some (.agg #[S0,Vi 0]),2,32):=by kernel_rfl
theorem ZKI(zs:List (Value×El))(x:Value×El)(w:World)(h:ElsV w v zs)(hx:ElOk w x)(c0:zs.length<=1000) :
  CP 104 #[v,.agg #[x.1,Vi x.2.2]] w fun e w'=>∃rv:Value,e=.returned rv/\Hid (ElsV w' rv (ZJr zs x))/\BW w w':=by
 obtain⟨sa,sc,rfl⟩:=Zl h.own;obtain⟨xv,xl,xn⟩:=x;obtain⟨⟨qs,L⟩,R⟩:=hx;simp only at L R;obtain⟨la,lc,rfl⟩:=Zl L.own;have S:Hid (ElsV w (.slice sa zs.length sc) zs):=h;have HX:Hid (LabsV w (.slice la qs.length lc) xl qs):=L;obtain⟨i0,T,D,E,F⟩:=info_parts Tryz.infoREl;clear h L;go_enter func104,ntmps104
 go_wp2_with fail
 refine(ZJ3 xl qs (by exact HX.below Zbal)).mono ?_;rintro e y ⟨tx,rfl,a4,n1,U⟩;have Y:Hid (BW w y):=hid (by rw[U];exact ZhQ Zbal _);have V:Hid (BAt y w.heap.size [.slice la qs.length lc,Vi xn] 128):=hid (by rw[U];exact Go.Deep.blk_alloc_new _ _);clear U;go_wp2
 go_loopg [5,6,8] zs.length (fun gk v5 v6 v8 wr=>∃(k:Nat) (os:List (Value×El)) (dn:Bool),k<=zs.length/\gk=zs.length - k/\v8=Vi k/\v6=.bool dn/\os.length=k+dn.toNat/\Hid (wr.ownsRow (w.heap.size+1) 128 2 v5 os.length (ZJp os))/\Hid (ZJr zs (.slice la qs.length lc,xl,xn)=os++(if dn then zs.drop k else ZJr (zs.drop k) (.slice la qs.length lc,xl,xn)))/\Hid (BW w wr)/\Hid (BAt wr w.heap.size [.slice la qs.length lc,Vi xn] 128))
 case atStart=>exact⟨0,[],false,Yag _,rfl,rfl,rfl,rfl,Ybc _ _ _ _,rfl,Y,V⟩
 case round=>
  obtain⟨k,os,dn,hk,c8,rfl,rfl,X,P,Q,B,G⟩:=hrel;clear Y V;have c1:os.length<=1001:=by rw[X];cases dn <;> simp <;> omega
  have K:=hid X;clear X;have b0:=G.cell 0;have b1:=G.cell 1;simp only[Zget]at b0 b1;obtain⟨av,cp,hv⟩:=Zl P.out;subst hv;have c9:=G.lt;by_cases m:k<zs.length
  ·obtain⟨g,cpx,hg⟩:=ZF S.own Om;injection hg with hg1 _ hg2;subst hg1 hg2;have t:Hid (ElsV wr (.slice (some ⟨g,0,none⟩) zs.length sc) zs):=S.below B.out;have r0:=Zi t.own _ _ (by rw[(ZJy zs k).1,List.getElem?_eq_getElem m];rfl);have r1:=Zi t.own _ _ (by rw[(ZJy zs k).2,List.getElem?_eq_getElem m];rfl);have Z:Hid (∀W:World,W.ownsRow 0 128 2 (.slice (some ⟨g,0,none⟩) zs.length sc) zs.length (ZJp zs)->W.cell? ⟨g,k*2,none⟩=some (zs[k]).1/\W.cell? ⟨g,k*2+1,none⟩=some (Vi (zs[k]).2.2)):=hid (fun W h=>⟨Zi h _ _ (by rw[(ZJy zs k).1,List.getElem?_eq_getElem m];rfl),Zi h _ _ (by rw[(ZJy zs k).2,List.getElem?_eq_getElem m];rfl)⟩);have a0:=Z1 t.own;have a5:=t.ok _ (List.getElem_mem m);have a6:=hid (List.drop_eq_getElem_cons m);have a7:=hid (fun h=>ZNb zs (.slice la qs.length lc,xl,xn) k m h);have a8:=hid (fun h=>ZNc zs (.slice la qs.length lc,xl,xn) k m h);generalize zs[k]=z at *
   obtain⟨zv,zl,zn⟩:=z;obtain⟨⟨qz,M⟩,a9⟩:=a5;simp only at r0 r1 M a9;obtain⟨lz,cz,rfl⟩:=Zl M.own;have b2:Hid (LabsV wr (.slice lz qz.length cz) zl qz):=M;clear M;simp only at Z
   go_wp2_with fail
   refine(ZJ3 zl qz (by exact b2.out)).mono ?_;rintro e H ⟨tz,rfl,b3,n2,a1⟩;have n:BW wr H:=by rw[a1];exact ZhQ (Yaf _ _) _
   have A:Hid (BW w H):=B.trans (n.mono B.size);have r:=hid (G.below n);have f:=hid (Zn P.out n);have c6:=hid (t.below n);have c7:wr.heap.size<=H.heap.size:=n.size;have r02:H.cell? ⟨g,k*2,none⟩=_:=(n.cell (p:=⟨g,k*2,none⟩) a0).trans r0;have r12:H.cell? ⟨g,k*2+1,none⟩=_:=(n.cell (p:=⟨g,k*2+1,none⟩) a0).trans r1;clear a1 n r0 r1 b0 b1 G P B t;have b0:=r.cell 0;have b1:=r.cell 1;simp only[Zget]at b0 b1;have a2:Hid (Op.bytesLess tx.toList tz.toList=Op.bytesLess (wrt xl) (wrt zl)):=hid (by rw[Zbt,Zbt,a4.out,b3.out]);cases dn with
   | true=>
    have I:Hid ((os++[((.slice lz qz.length cz,zl,zn):Value×El)]).length=k+1+true.toNat):=hid (by rw[Yab,K.out];simp;try omega)
    have J:Hid (ZJr zs (.slice la qs.length lc,xl,xn)=(os++[(.slice lz qz.length cz,zl,zn)])++zs.drop (k+1)):=hid (by
     rw[Q.out,if_pos rfl,a6.out,Yan];rfl)
    go_wp2_with (at_builtin;refine wpList_append_own _ rfl (.tmp 36) (.tmp 41) 74 rfl (w.heap.size+1) 128 i0 (.agg #[S0,Vi 0]) 2 32 underlying74 T D E F rfl Dc _ _ _ rfl (f.alloc _) ⟨H.heap.size,0,none⟩ 1 1 [.slice lz qz.length cz,Vi zn] rfl rfl (ZcY rfl) ?c2 ?c3 ?c4 ?c5 ?_)
    case c2=>intro u i;simp at i;rcases i with rfl|rfl <;> rfl
    case c3=>unfold maxLen;first|omega|(simp;omega)
    case c4=>first|omega|(simp;omega)
    case c5=>first|omega|(simp;omega)
    intro v' j c a _;have d:Hid (BW w j):=hid (ZJO (A.alloc A.size _) a (fun q C=>by have:=(f.lt q C).1;omega));have l:=hid (BAt.ownGrownLt (r.below Zbal) (f.alloc _) a Om)
    have o:Hid (j.ownsRow (w.heap.size+1) 128 2 v' (os++[((.slice lz qz.length cz,zl,zn):Value×El)]).length (ZJp (os++[(.slice lz qz.length cz,zl,zn)]))):=hid (by
      rw[ZJW,Yab];exact c)
    clear c a;go_wp2
    go_roundg (zs.length - (k+1))
    case measure=>omega
    case rel=>exact⟨k+1,_,true,by omega,rfl,by go_num,rfl,I.out,o,J,d,l⟩
   | false=>
    by_cases N:Op.bytesLess (wrt xl) (wrt zl)=true
    ·have J:Hid (ZJr zs (.slice la qs.length lc,xl,xn)=(os++[(.slice la qs.length lc,xl,xn)]++[(.slice lz qz.length cz,zl,zn)])++zs.drop (k+1)):=hid (by
      rw[Q.out,if_neg Dc,a7.out N,Yan,Yan];rfl)
     have b4:Op.bytesLess tx.toList tz.toList=true:=by rw[a2.out,N]
     have I:Hid ((os++[((.slice la qs.length lc,xl,xn):Value×El)]++[((.slice lz qz.length cz,zl,zn):Value×El)]).length=k+1+true.toNat):=hid (by rw[Yab,Yab,K.out];simp;try omega)
     go_wp2_with (at_builtin;refine wpList_append_own _ rfl (.tmp 32) (.tmp 34) 74 rfl (w.heap.size+1) 128 i0 (.agg #[S0,Vi 0]) 2 32 underlying74 T D E F rfl Dc _ _ _ rfl (f.alloc _) ⟨H.heap.size,0,none⟩ 1 1 [.slice la qs.length lc,Vi xn] rfl rfl (ZcY rfl) ?c2 ?c3 ?c4 ?c5 ?_)
     case c2=>intro u i;simp at i;rcases i with rfl|rfl <;> rfl
     case c3=>unfold maxLen;first|omega|(simp;omega)
     case c4=>first|omega|(simp;omega)
     case c5=>first|omega|(simp;omega)
     intro v' j c a _;have d:Hid (BW w j):=hid (ZJO (A.alloc A.size _) a (fun q C=>by have:=(f.lt q C).1;omega));have l:=hid (BAt.ownGrownLt (r.below Zbal) (f.alloc _) a Om)
     have o:Hid (j.ownsRow (w.heap.size+1) 128 2 v' (os++[((.slice la qs.length lc,xl,xn):Value×El)]).length (ZJp (os++[(.slice la qs.length lc,xl,xn)]))):=hid (by
      rw[ZJW,Yab];exact c)
     have b5:Hid (ElsV j (.slice (some ⟨g,0,none⟩) zs.length sc) zs):=S.below d.out;obtain⟨e0,e1⟩:=Z.out j b5.own;obtain⟨av6,cp6,b6⟩:=Zl o.out;subst b6;have d0:=l.lt;have d1:(os++[((.slice la qs.length lc,xl,xn):Value×El)]).length<=1002:=by simp;omega
     clear c a r02 r12 b0 b1;generalize d2:os++[((.slice la qs.length lc,xl,xn):Value×El)]=os6 at *
     go_wp2_with (at_builtin;refine wpList_append_own _ rfl (.tmp 36) (.tmp 41) 74 rfl (w.heap.size+1) 128 i0 (.agg #[S0,Vi 0]) 2 32 underlying74 T D E F rfl Dc _ _ _ rfl (o.alloc _) ⟨j.heap.size,0,none⟩ 1 1 [.slice lz qz.length cz,Vi zn] rfl rfl (ZcY rfl) ?c2 ?c3 ?c4 ?c5 ?_)
     case c2=>intro u i;simp at i;rcases i with rfl|rfl <;> rfl
     case c3=>unfold maxLen;first|omega|(simp;omega)
     case c4=>first|omega|(simp;omega)
     case c5=>first|omega|(simp;omega)
     intro v' w7 O s _;have b7:Hid (BW w w7):=hid (ZJO (d.alloc d.size _) s (fun q C=>by have:=(o.lt q C).1;omega));have a3:=hid (BAt.ownGrownLt (l.below Zbal) (o.alloc _) s Om)
     have b8:Hid (w7.ownsRow (w.heap.size+1) 128 2 v' (os6++[((.slice lz qz.length cz,zl,zn):Value×El)]).length (ZJp (os6++[(.slice lz qz.length cz,zl,zn)]))):=hid (by
      rw[ZJW,Yab];exact O)
     clear O s;go_wp2
     go_roundg (zs.length - (k+1))
     case measure=>omega
     case rel=>exact⟨k+1,_,true,by omega,rfl,by go_num,rfl,I.out,b8,J,b7,a3⟩
    ·have J:Hid (ZJr zs (.slice la qs.length lc,xl,xn)=(os++[(.slice lz qz.length cz,zl,zn)])++ZJr (zs.drop (k+1)) (.slice la qs.length lc,xl,xn)):=hid (by
      rw[Q.out,if_neg Dc,a8.out N,Yan];rfl)
     have I:Hid ((os++[((.slice lz qz.length cz,zl,zn):Value×El)]).length=k+1+false.toNat):=hid (by rw[Yab,K.out];simp;try omega);have b4:Op.bytesLess tx.toList tz.toList=false:=by rw[a2.out];simpa using N
     go_wp2_with (at_builtin;refine wpList_append_own _ rfl (.tmp 36) (.tmp 41) 74 rfl (w.heap.size+1) 128 i0 (.agg #[S0,Vi 0]) 2 32 underlying74 T D E F rfl Dc _ _ _ rfl (f.alloc _) ⟨H.heap.size,0,none⟩ 1 1 [.slice lz qz.length cz,Vi zn] rfl rfl (ZcY rfl) ?c2 ?c3 ?c4 ?c5 ?_)
     case c2=>intro u i;simp at i;rcases i with rfl|rfl <;> rfl
     case c3=>unfold maxLen;first|omega|(simp;omega)
     case c4=>first|omega|(simp;omega)
     case c5=>first|omega|(simp;omega)
     intro v' j c a _;have d:Hid (BW w j):=hid (ZJO (A.alloc A.size _) a (fun q C=>by have:=(f.lt q C).1;omega));have l:=hid (BAt.ownGrownLt (r.below Zbal) (f.alloc _) a Om)
     have o:Hid (j.ownsRow (w.heap.size+1) 128 2 v' (os++[((.slice lz qz.length cz,zl,zn):Value×El)]).length (ZJp (os++[(.slice lz qz.length cz,zl,zn)]))):=hid (by
      rw[ZJW,Yab];exact c)
     clear c a;go_wp2
     go_roundg (zs.length - (k+1))
     case measure=>omega
     case rel=>exact⟨k+1,_,false,by omega,rfl,by go_num,rfl,I.out,o,J,d,l⟩
  ·obtain rfl:k=zs.length:=by omega
   rw[List.drop_length]at Q;cases dn with
   | true=>
    have HF:Hid (ElsV wr (.slice av os.length cp) (ZJr zs (.slice la qs.length lc,xl,xn))):=hid (by
     have he:ZJr zs (.slice la qs.length lc,xl,xn)=os:=by rw[Q.out,if_pos rfl,Yca]
     have b9:=ZKg zs (.slice la qs.length lc,xl,xn);refine⟨by rw[he];exact Zgi P.out,by omega,fun z hz=>?_⟩;rcases ZK9 _ _ _ hz with h|h
     ·rw[h];exact ElOk.below ⟨⟨qs,HX.out⟩,R⟩ B.out
     ·exact(S.ok z h).below B.out)
    go_wp2;go_ret;exact⟨_,rfl,HF,B.out⟩
   | false=>
    go_wp2_with (at_builtin;refine wpList_append_own _ rfl (.tmp 45) (.tmp 47) 74 rfl (w.heap.size+1) 128 i0 (.agg #[S0,Vi 0]) 2 32 underlying74 T D E F rfl Dc _ _ _ rfl (P.alloc _) ⟨wr.heap.size,0,none⟩ 1 1 [.slice la qs.length lc,Vi xn] rfl rfl (ZcY rfl) ?c2 ?c3 ?c4 ?c5 ?_)
    case c2=>intro u i;simp at i;rcases i with rfl|rfl <;> rfl
    case c3=>unfold maxLen;first|omega|(simp;omega)
    case c4=>first|omega|(simp;omega)
    case c5=>first|omega|(simp;omega)
    intro v' j c a _;have d:Hid (BW w j):=hid (ZJO (B.alloc B.size _) a (fun q C=>by have:=(P.lt q C).1;omega))
    have HF:Hid (ElsV j v' (ZJr zs (.slice la qs.length lc,xl,xn))):=hid (by
     have he:ZJr zs (.slice la qs.length lc,xl,xn)=os++[(.slice la qs.length lc,xl,xn)]:=by rw[Q.out,if_neg Dc];rfl
     have b9:=ZKg zs (.slice la qs.length lc,xl,xn);refine⟨by rw[he,ZJW,Yab];exact Zgi c,by omega,fun z hz=>?_⟩;rcases ZK9 _ _ _ hz with h|h
     ·rw[h];exact ElOk.below ⟨⟨qs,HX.out⟩,R⟩ d.out
     ·exact(S.ok z h).below d.out)
    clear c a;go_wp2;go_ret;exact⟨_,rfl,HF,d.out⟩
def ZJK(by_:List (LB))(qs:List (BA×BA)):List (BA×BA):=qs.filter fun q=>by_.contains (bl q.1)
theorem ZMN(by_:List (LB))(qs:List (BA×BA)):(ZJK by_ qs).map bl2=ZB (qs.map bl2) by_:=by
 induction qs with
 | nil=>rfl
 | cons q qs ih=>
  unfold ZJK ZB at *
  rw[Ybb,Ygg,Ygg];by_cases h:by_.contains (bl q.1)=true
  ·rw[if_pos h,if_pos (show by_.contains (bl2 q).1=true from h),Ybb,ih]
  ·rw[if_neg h,if_neg (show ¬by_.contains (bl2 q).1=true from h),ih]
theorem ZMO(by_:List (LB))(qs:List (BA×BA))(k:Nat)(h:k<qs.length):ZJK by_ (qs.take (k+1))=ZJK by_ (qs.take k)++(if by_.contains (bl (qs[k]).1)then [qs[k]] else []):=by
 unfold ZJK;rw[List.take_succ_eq_append_getElem h,Ygd,Ygg,Ygp]
theorem ZM1 (ns : List BA) (x : BA) : (ns.map bl).contains (bl x) = ns.any (fun n => n.toList == x.toList) := by
  induction ns with
  | nil=>rfl
  | cons n ns ih=>
    rw[Ybb,List.contains_cons,Ygs,ih,ZJ1]
    congr 1
    by_cases h:bl n=bl x
    · simp[h]
    · have a:¬bl x=bl n:=fun e=>h e.symm
      simp[h,a]
theorem ZLs (ns : List BA) (x : BA) (j : Nat) (h : j < ns.length) : (ns.take (j + 1)).any (fun n => n.toList == x.toList) = ((ns.take j).any (fun n => n.toList == x.toList) || (ns[j].toList == x.toList)) := by
  rw[List.take_succ_eq_append_getElem h,List.any_append];simp
structure NamsV (w:World) (v:Value) (ns:List BA):Prop where
 own:w.ownsRow 0 9 1 v ns.length (ns.map .string)
 len:ns.length<=100000
theorem NamsV.below{ns:List BA}(h:NamsV w v ns)(a:BW w w'):NamsV w' v ns:=⟨Zn h.own a,h.len⟩
theorem ZK4{bv:Value}(l:List Lab)(qs:List (BA×BA))(ns:List BA)(h:LabsV w v l qs)(p:NamsV w bv ns) :
  CP 105 #[v,bv] w fun e F=>∃(rv:Value) (qs':List (BA×BA)),e=.returned rv/\Hid (LabsV F rv (ZB l (ns.map bl)) qs')/\BW w F:=by
 obtain⟨la,lc,rfl⟩:=Zl h.own;obtain⟨ba,bc,rfl⟩:=Zl p.own;have r:Hid (LabsV w (.slice la qs.length lc) l qs):=h;have Q:Hid (NamsV w (.slice ba ns.length bc) ns):=p;have B:=h.len;have V:=p.len;obtain⟨i0,R,G,H,I⟩:=info_parts Tryz.infoRLabel;clear h p;go_enter func105,ntmps105;go_wp2
 go_loopg [5,6] qs.length (fun gk v5 v6 wr=>∃k:Nat,k<=qs.length/\gk=qs.length - k/\v6=Vi k/\Hid (wr.ownsRow w.heap.size 216 2 v5 (ZJK (ns.map bl) (qs.take k)).length (ZJt (ZJK (ns.map bl) (qs.take k))))/\Hid (BW w wr))
 case atStart=>exact⟨0,Yag _,rfl,rfl,Ybc _ _ _ _,Yaf _ _⟩
 case round=>
  obtain⟨k,Z,W,rfl,s,a⟩:=hrel;obtain⟨av,cp,S⟩:=Zl s.out;subst S;by_cases i:k<qs.length
  ·obtain⟨g,cpx,T⟩:=ZF r.own Om;injection T with hg1 _ hg2;subst hg1 hg2;have m:Hid (LabsV wr (.slice (some ⟨g,0,none⟩) qs.length lc) l qs):=r.below a.out;have t:Hid (NamsV wr (.slice ba ns.length bc) ns):=Q.below a.out;have r0:=Zi m.own _ _ (by rw[(ZKc qs k).1,List.getElem?_eq_getElem i];rfl);have r1:=Zi m.own _ _ (by rw[(ZKc qs k).2,List.getElem?_eq_getElem i];rfl);have f:=hid (ZMO (ns.map bl) qs k i)
   have X:(ZJK (ns.map bl) (qs.take k)).length<=6001:=by
    have:=Ydj (fun q:BA×BA=>(ns.map bl).contains (bl q.1)) (qs.take k);rw[Ya7]at this;unfold ZJK;omega
   generalize qs[k]=q at *
   obtain⟨x,y⟩:=q;simp only at r0 r1;rw[ZM1]at f;have Y:=a.size;clear m;go_wp2
   go_loopw [7,8] (fun v7 v8 U=>∃(j:Nat) (o:Bool) (nd:Nat),j<=ns.length/\v8=Vi j/\v7=.bool o/\Hid (o=(ns.take j).any (fun n=>n.toList == x.toList))/\U=wr.drewN nd) (fun _ v8 _=>ns.length - (intOf v8).toNat)
   case atStart=>exact⟨0,false,0,Yag _,rfl,rfl,rfl,rfl⟩
   case round=>
    obtain⟨j,o,nd,hj,rfl,rfl,C,rfl⟩:=hrel;by_cases z:j<ns.length
    ·obtain⟨gb,cpb,J⟩:=ZF t.own Om;injection J with hgb1 _ hgb2;subst hgb1 hgb2;have n0:=Zi t.own j (.string ns[j]) (by rw[Ya2,List.getElem?_eq_getElem z];rfl);have D:=hid (ZLs ns x j z);rw[<-C.out]at D;generalize ns[j]=n at *
     cases o with
     | true=>
      go_wp2
      go_quiet (fail)
      go_wp2
      go_roundw
      case rel=>exact⟨j+1,true,_,by omega,by go_num,rfl,hid D.symm,rfl⟩
      case measure=>simp[intOf];omega
     | false=>
      go_wp2
      go_quiet (fail)
      go_wp2
      go_roundw
      case rel=>exact⟨j+1,_,_,by omega,by go_num,rfl,hid (by rw[D.out,Yft]),rfl⟩
      case measure=>simp[intOf];omega
    ·obtain rfl:j=ns.length:=by omega
     rw[Ya4]at C;rw[<-C.out]at f;have A:=hid (ZzW s.out nd);cases o with
     | true=>
      rw[if_pos rfl]at f
      go_wp2_with (at_builtin;refine wpList_append_own _ rfl (.tmp 35) (.tmp 40) 119 rfl w.heap.size 216 i0 (.agg #[.string ByteArray.empty,.string ByteArray.empty]) 2 32 underlying119 R G H I rfl Dc _ _ _ rfl (A.alloc _) ⟨wr.heap.size,0,none⟩ 1 1 [.string x,.string y] rfl rfl (ZcY rfl) ?c2 ?c3 ?c4 ?c5 ?_)
      case c2=>intro u K;simp at K;rcases K with rfl|rfl <;> rfl
      case c3=>unfold maxLen;first|omega|(simp;omega)
      case c4=>first|omega|(simp;omega)
      case c5=>first|omega|(simp;omega)
      intro v' L c d _;have M:Hid (BW w L):=hid (ZJO ((ZhQ a.out nd).alloc a.size _) d (fun q E=>by have:=(s.lt q E).1;omega))
      have N:Hid (L.ownsRow w.heap.size 216 2 v' (ZJK (ns.map bl) (qs.take (k+1))).length (ZJt (ZJK (ns.map bl) (qs.take (k+1))))):=hid (by
       rw[f.out,ZKX,Yab];exact c)
      clear c d;go_wp2
      go_roundg (qs.length - (k+1))
      case measure=>omega
      case rel=>exact⟨k+1,by omega,rfl,by go_num,N,M⟩
     | false=>
      rw[if_neg Dc,Yca]at f;go_wp2
      go_roundg (qs.length - (k+1))
      case measure=>omega
      case rel=>exact⟨k+1,by omega,rfl,by go_num,hid (by rw[f.out];exact A.out),hid (ZhQ a.out nd)⟩
  ·obtain rfl:k=qs.length:=by omega
   have O:Hid (LabsV wr (.slice av (ZJK (ns.map bl) (qs.take qs.length)).length cp) (ZB l (ns.map bl)) (ZJK (ns.map bl) qs)):=hid (by
    have P:=Zgi s.out;rw[Ya4]at P ⊢;refine⟨P,by rw[ZMN,r.say],Yah (Ydj _ _) B,fun q E=>r.ok q ((Ycg.1 E).1)⟩)
   go_wp2;go_ret;exact⟨_,_,rfl,O,a.out⟩
abbrev SZ:=BA×Value×Value×Ser
def ZJM:List SZ->List Value
 | []=>[]
 | s::l=>.string s.1::s.2.1::s.2.2.1::ZJM l
theorem ZMu (l : List SZ) (j : Nat) : (ZJM l)[j * 3]? = l[j]?.map (fun s => .string s.1) /\ (ZJM l)[j * 3 + 1]? = l[j]?.map (fun s => s.2.1) /\ (ZJM l)[j * 3 + 2]? = l[j]?.map (fun s => s.2.2.1) := by
  induction l generalizing j with
  | nil=>simp[ZJM]
  | cons r l ih=>
    cases j with
    | zero=>simp[ZJM]
    | succ j=>
      obtain⟨a,c,d⟩:=ih j;refine⟨?_,?_,?_⟩
      · rw[show(j+1)*3=j*3+1+1+1 by omega];simpa [ZJM] using a
      · rw[show(j+1)*3+1=j*3+1+1+1+1 by omega];simpa [ZJM] using c
      · rw[show(j+1)*3+2=j*3+2+1+1+1 by omega];simpa [ZJM] using d
def ZJ8(w:World)(s:SZ):Prop:=bl s.1=s.2.2.2.name/\(∃qs,LabsV w s.2.1 s.2.2.2.labs qs)/\SamsV w s.2.2.1 s.2.2.2.jz
theorem ZJ8.below{s:SZ}(h:ZJ8 w s)(a:BW w w'):ZJ8 w' s:=⟨h.1,h.2.1.elim fun qs c=>⟨qs,c.below a⟩,h.2.2.below a⟩
structure StoV (w:World) (v:Value) (ss:List SZ):Prop where
 own:w.ownsRow 0 122 3 v ss.length (ZJM ss)
 len:ss.length<=900
 ok:∀s∈ss,ZJ8 w s
theorem StoV.below{ss:List SZ}(h:StoV w v ss)(a:BW w w'):StoV w' v ss:=⟨Zn h.own a,h.len,fun s c=>(h.ok s c).below a⟩
def ZJQ(ss:List SZ):List Ser:=ss.map (·.2.2.2)
theorem ZNW(ss:List SZ)(k:Nat)(h:k<ss.length)(a:Nd)(op:Option Nat)(n t:Int):Zc4 (ZJQ (ss.take (k+1))) a op n t =
  if Zc1 a ss[k].2.2.2 && !(Zb6 ss[k].2.2.2.jz n t).isEmpty then Zcd (Zc4 (ZJQ (ss.take k)) a op n t) (ss[k].2.2.2.labs,oneV op (Zb6 ss[k].2.2.2.jz n t))else Zc4 (ZJQ (ss.take k)) a op n t:=by
 unfold Zc4 ZJQ;rw[List.take_succ_eq_append_getElem h,Yaq,Ydy,Yco,Ybp,List.foldl_nil]
theorem LabsV.other(h:LabsV w v l qs)(d:BAt w a c 76)(f:∀j,j≠a->w'.heap[j]?=w.heap[j]?):LabsV w' v l qs:=
 ⟨ZdA h.own (fun j g=>f j (fun e=>Zcx h.own d Dc (by rw[g,e]))),h.say,h.len,h.ok⟩
theorem ElsV.other(h:ElsV w v zs)(d:BAt w a c 76)(f:∀j,j≠a->w'.heap[j]?=w.heap[j]?):ElsV w' v zs:=
 ⟨ZdA h.own (fun j k=>f j (fun e=>Zcx h.own d Dc (by rw[k,e]))),h.len,fun z g=>⟨(h.ok z g).1.elim fun qs i=>⟨qs,i.other d f⟩,(h.ok z g).2⟩⟩
structure WinI (w wr:World) (p:PV) (vv:Value) (zs:List (Value×El)):Prop where
 bel:BW w wr
 pb:PAt wr w.heap.size p
 rb:BAt wr (w.heap.size+1) [.bool false,Vi 0,S0] 76
 vb:BAt wr (w.heap.size+2) [.bool false,Vi 0,vv] 76
 els:ElsV wr vv zs
theorem WinI.below(h:WinI w wr p vv zs)(a:BW wr w'):WinI w w' p vv zs:=
 ⟨h.bel.trans (a.mono h.bel.size),(a.block _ h.pb.lt).trans h.pb,h.rb.below a,h.vb.below a,h.els.below a⟩
theorem WinI.set{rv:Value}(h:WinI w wr p vv zs)(c:ElsV wr rv zs'):WinI w (wr.setCell ⟨w.heap.size+2,2,none⟩ rv) p rv zs':=by
 have a:∀j,j≠w.heap.size+2->(wr.setCell ⟨w.heap.size+2,2,none⟩ rv).heap[j]?=wr.heap[j]?:=fun j d=>Go.Deep.blk_setCell_other _ _ _ _ d;refine⟨h.bel.setCell (p:=⟨w.heap.size+2,2,none⟩) (by show w.heap.size<=w.heap.size+2;omega) _,(a _ Om).trans h.pb,(a _ Om).trans h.rb,?_,c.other h.vb a⟩;have:=h.vb;unfold BAt at this ⊢;simp only[World.setCell,Ybn,this,if_true,Ybf];rfl
theorem ZOc(w:World)(v:Value)(ss:List SZ)(p:PV)(nd:Nd)(a5:bl p.nm=nd.name)(hc:ZJq w 0 p nd.jq)(a6:nd.jq.length<=100000)(op:Option Nat)(oi:Int)(a7:(op=none/\oi=-1)∨∃o:Nat,o<=4/\op=some o/\oi=o)
  (n t:Int) (c2:0<=n) (P:n<=1000) (c3 : -1000000<=t) (c4:t<=1000000) (h:StoV w v ss) :
  CP 54 #[v,.agg #[Vi p.k,Vi p.n,Vi p.op,.string p.nm,.slice p.ca p.cn p.cc,.slice p.ba p.bn p.bc,Vi p.a,Vi p.b],Vi oi,Vi n,Vi t] w fun e i=>
   ∃(vv:Value) (zs:List (Value×El)),e=.returned (.agg #[.bool false,Vi 0,vv])/\Hid (ElsV i vv zs)/\Hid (zs.map (·.2)=Zc4 (ZJQ ss) nd op n t)/\zs.length<=ss.length/\BW w i:=by
 obtain⟨sa,sc,rfl⟩:=Zl h.own;have HS:Hid (StoV w (.slice sa ss.length sc) ss):=h;have HC:Hid (ZJq w 0 p nd.jq/\bl p.nm=nd.name/\nd.jq.length<=100000):=⟨hc,a5,a6⟩
 have c5:Hid ((op=none/\oi=-1)∨∃o:Nat,o<=4/\op=some o/\oi=o):=a7;have d9:=h.len;clear h hc a5 a6 a7;obtain⟨pk,pn,pop,pnm,pca,pcn,pcc,pba,pbn,pbc,pa,pb⟩:=p;go_enter func54,ntmps54;go_wp2;refine ZP fun W0 a8=>?_
 have a9:Hid (WinI w W0 ⟨pk,pn,pop,pnm,pca,pcn,pcc,pba,pbn,pbc,pa,pb⟩ S0 []):=hid (by
  rw[a8];refine⟨belB,?_,?_,?_,⟨Ybc _ _ _ _,Yag _,fun z hz=>by cases hz⟩⟩
  ·exact((((Yaf (w.heap.size+1) _).alloc (by simp) _).alloc (by simp) _).block _ (by simp)).trans (Go.Deep.blk_alloc_new _ _)
  ·exact(((Yaf (w.heap.size+2) _).alloc (by simp) _).block _ (by simp)).trans (by have:=Go.Deep.blk_alloc_new (w.alloc (.cells #[Vi pk,Vi pn,Vi pop,.string pnm,.slice pca pcn pcc,.slice pba pbn pbc,Vi pa,Vi pb] 131)) (.cells #[.bool false,Vi 0,S0] 76);rw[Yf7]at this;exact this)
  ·have:=Go.Deep.blk_alloc_new ((w.alloc (.cells #[Vi pk,Vi pn,Vi pop,.string pnm,.slice pca pcn pcc,.slice pba pbn pbc,Vi pa,Vi pb] 131)).alloc (.cells #[.bool false,Vi 0,S0] 76)) (.cells #[.bool false,Vi 0,S0] 76);rw[Yf7,Yf7]at this;exact this)
 clear a8
 go_loopg [12] ss.length (fun gk v12 wr=>∃(k:Nat) (vv:Value) (zs:List (Value×El)),k<=ss.length/\gk=ss.length - k/\v12=Vi k/\zs.length<=k/\Hid (WinI w wr ⟨pk,pn,pop,pnm,pca,pcn,pcc,pba,pbn,pbc,pa,pb⟩ vv zs)/\Hid (zs.map (·.2)=Zc4 (ZJQ (ss.take k)) nd op n t))
 case atStart=>exact⟨0,_,[],Yag _,rfl,rfl,Yag _,a9,rfl⟩
 case round=>
  clear a9;obtain⟨k,vv,zs,hk,e0,rfl,c6,d,V⟩:=hrel;obtain⟨va,vc,c7⟩:=Zl d.els.own;subst c7;have q:Hid (StoV wr (.slice sa ss.length sc) ss):=HS.below d.bel;obtain⟨k0,k1,k2,k3,k4,k5,k6,k7⟩:=d.pb.all;by_cases W:k<ss.length
  ·obtain⟨g,cpx,hg⟩:=ZF HS.own Om;injection hg with hg1 _ hg2;subst hg1 hg2;obtain⟨f1,f2,f3⟩:=ZMu ss k;rw[List.getElem?_eq_getElem W]at f1 f2 f3;have r0:=Zi q.own _ _ f1;have r1:=Zi q.own _ _ f2;have r2:=Zi q.own _ _ f3;have r:=Z1 q.own;have c8:=q.ok _ (List.getElem_mem W);have X:=hid (ZNW ss k W nd op n t);generalize ss[k]=s at *
   obtain⟨nm,lv,sv,S⟩:=s;obtain⟨hn,⟨qs,Q⟩,R⟩:=c8;simp only at r0 r1 r2 hn Q R X;obtain⟨la,lc,rfl⟩:=Zl Q.own;obtain⟨ta,tc,rfl⟩:=Zl R.own;have HQ:Hid (LabsV wr (.slice la qs.length lc) S.labs qs):=Q;have HM:Hid (SamsV wr (.slice ta S.jz.length tc) S.jz):=R;have HN:Hid (bl nm=S.name):=hn;clear Q R hn f1 f2 f3;simp only at k0 k1 k2 k3 k4 k5 k6 k7;have b3:Hid (ZJq wr 0 ⟨pk,pn,pop,pnm,pca,pcn,pcc,pba,pbn,pbc,pa,pb⟩ nd.jq):=hid (HC.1.below d.bel);obtain⟨bp,b4⟩:∃b,b=Zc1 nd S:=⟨_,rfl⟩
   have b5:=hid b4;clear b4;have l:w.heap.size<wr.heap.size:=d.pb.lt
   go_upto_region 5 with fail
   go_region_held3 (fun i => i.cell? ⟨w.heap.size, 0, none⟩ = some (Vi pk) /\ i.cell? ⟨w.heap.size, 1, none⟩ = some (Vi pn) /\ i.cell? ⟨w.heap.size, 2, none⟩ = some (Vi pop) /\ i.cell? ⟨w.heap.size, 3, none⟩ = some (.string pnm) /\ i.cell? ⟨w.heap.size, 4, none⟩ = some (.slice pca pcn pcc) /\ i.cell? ⟨w.heap.size, 5, none⟩ = some (.slice pba pbn pbc) /\ i.cell? ⟨w.heap.size, 6, none⟩ = some (Vi pa) /\ i.cell? ⟨w.heap.size, 7, none⟩ = some (Vi pb) /\ i.cell? ⟨g, k * 3, none⟩ = some (.string nm) /\ i.cell? ⟨g, k * 3 + 1, none⟩ = some (.slice la qs.length lc) /\ i.cell? ⟨g, k * 3 + 2, none⟩ = some (.slice ta S.jz.length tc)) (first | exact ⟨k0, k1, k2, k3, k4, k5, k6, k7, r0, r1, r2⟩ | exact ⟨(c.cell (p := ⟨w.heap.size, 0, none⟩) l).trans k0, (c.cell (p := ⟨w.heap.size, 1, none⟩) l).trans k1, (c.cell (p := ⟨w.heap.size, 2, none⟩) l).trans k2, (c.cell (p := ⟨w.heap.size, 3, none⟩) l).trans k3, (c.cell (p := ⟨w.heap.size, 4, none⟩) l).trans k4, (c.cell (p := ⟨w.heap.size, 5, none⟩) l).trans k5, (c.cell (p := ⟨w.heap.size, 6, none⟩) l).trans k6, (c.cell (p := ⟨w.heap.size, 7, none⟩) l).trans k7, (c.cell (p := ⟨g, k * 3, none⟩) r).trans r0, (c.cell (p := ⟨g, k * 3 + 1, none⟩) r).trans r1, (c.cell (p := ⟨g, k * 3 + 2, none⟩) r).trans r2⟩ | go_keep) (first
     | (go_at_call 100
        refine(ZNa ⟨pk,pn,pop,pnm,pca,pcn,pcc,pba,pbn,pbc,pa,pb⟩ nd S HC.2.1 (by exact b3.below ⟨rfl,rfl,rfl,Yac _,fun _ _=>rfl⟩) HC.2.2 nm HN.out qs (by exact HQ.below ⟨rfl,rfl,rfl,Yac _,fun _ _=>rfl⟩) ta S.jz.length tc).mono ?_;rintro e Y ⟨rfl,C⟩;rw[<-b5.out];have c:Hid (BW wr Y):=hid ⟨C.os,C.tape,C.output,C.size,C.block⟩;clear C))
   have b6:=hid (d.below c.out);have b7:=hid (HQ.below c.out);have b8:=hid (HM.below c.out);have c9:=hid (q.below c.out);have q0:Y.cell? ⟨g,k*3,none⟩=_:=(c.cell (p:=⟨g,k*3,none⟩) r).trans r0;have q1:Y.cell? ⟨g,k*3+1,none⟩=_:=(c.cell (p:=⟨g,k*3+1,none⟩) r).trans r1;have q2:Y.cell? ⟨g,k*3+2,none⟩=_:=(c.cell (p:=⟨g,k*3+2,none⟩) r).trans r2;have Z:g<Y.heap.size:=Yaw r c.size;clear k0 k1 k2 k3 k4 k5 k6 k7 r0 r1 r2 d HQ HM q b3 c l
   go_wp2_with fail
   refine(ZNY nm la qs.length lc rfl S.jz n t c2 P c3 c4 (by exact b8.out)).mono ?_;rintro e H ⟨rv,rfl,I,E⟩;have m:=hid (b6.below E);have a0:=hid (b7.below E);have p1:H.cell? ⟨g,k*3+1,none⟩=_:=(E.cell (p:=⟨g,k*3+1,none⟩) Z).trans q1;have c0:g<H.heap.size:=Yaw Z E.size;clear q0 q1 q2 b6 b7 b8 c9 E;obtain⟨ra,rc,d0⟩:=Zl I.own;subst d0;rw[<-b5.out]at X;generalize Zb6 S.jz n t=L at *
   have e1:=I.len;by_cases a1:L.length=0
   ·have D:Hid (zs.map (·.2)=Zc4 (ZJQ (ss.take (k+1))) nd op n t):=hid (by
     rw[X.out,Ygc.1 a1];simpa using V.out)
    have c1:((L.length:Int) == 0)=true:=by rw[a1];rfl
    cases bp
    all_goals
     go_wp2
     go_roundg (ss.length - (k+1))
     case measure=>omega
     case rel=>exact⟨k+1,_,_,by omega,rfl,by go_num,by omega,m,D⟩
   ·have c1:((L.length:Int) == 0)=false:=by rw[beq_eq_false_iff_ne];omega
    cases bp with
    | false=>
     have D:Hid (zs.map (·.2)=Zc4 (ZJQ (ss.take (k+1))) nd op n t):=hid (by
      rw[X.out];simpa using V.out)
     go_wp2
     go_roundg (ss.length - (k+1))
     case measure=>omega
     case rel=>exact⟨k+1,_,_,by omega,rfl,by go_num,by omega,m,D⟩
    | true=>
     obtain⟨gr,cpr,d1⟩:=ZF I.own Om;injection d1 with hgr1 _ hgr2;subst hgr1 hgr2;have cl:=Zi I.own _ _ (by rw[(Zwh L (L.length - 1)).2,List.getElem?_eq_getElem Om];rfl);obtain⟨xl,T⟩:∃xl,xl=(L[L.length - 1]).2:=⟨_,rfl⟩
     have d2:Hid (xl=(L.getLastD (0,0)).2):=hid (by
      rw[T,Yey,Ygm,List.getElem?_eq_getElem Om];rfl)
     have d3:vOk xl:=by
      have:=I.ok _ (List.getElem_mem (show L.length - 1<L.length by omega));unfold smOk at this;rw[<-T]at this;exact this.2.2
     simp only at cl;rw[<-T]at cl;obtain⟨n1,P⟩:∃n1:Nat,n1=L.length - 1:=⟨_,rfl⟩
     have e2:(L.length:Int) - 1=(n1:Int):=by omega
     have e3:(n1:Int)<L.length:=by omega
     rw[<-P]at cl;clear P T
     have D:Hid (∀u zs',u=oneV op L->zs'=ZJr zs (.slice la qs.length lc,S.labs,u)->zs'.map (·.2)=Zc4 (ZJQ (ss.take (k+1))) nd op n t):=hid (by
      intro u zs' hu hz;have d4:L.isEmpty=false:=by cases L with|nil=>simp at a1|cons a L=>rfl
      rw[X.out,hz,ZK8,V.out,d4,hu];rfl)
     rcases c5.out with ⟨A,J⟩|⟨o,ho,A,J⟩
     ·have HU:Hid (xl=oneV op L):=hid (by rw[A];exact d2.out);have K:=d3;subst J;clear A
      go_upto_region 11 with fail
      have v2:=m.vb.cell 2;have vf:=m.vb.frozen 2;simp only[Zget]at v2;have a2:Hid (ElOk H (.slice la qs.length lc,S.labs,xl)):=⟨⟨qs,a0.out⟩,K⟩
      have M:zs.length<=1000:=by omega
      have d5:=m.vb.lt
      go_region_with (first
        | (go_at_call 104
           refine(ZKI zs (.slice la qs.length lc,S.labs,xl) _ (by exact m.els.below ⟨rfl,rfl,rfl,Yac _,fun _ _=>rfl⟩) (by exact a2.below ⟨rfl,rfl,rfl,Yac _,fun _ _=>rfl⟩) M).mono ?_;rintro e w8 ⟨rv,rfl,F,f⟩;obtain⟨ya,yc,N⟩:=Zl F.own;subst N;have B:=hid (m.below (⟨f.os,f.tape,f.output,f.size,f.block⟩:Below (H).heap.size H w8));have vf8:=B.vb.frozen 2;have v8:=B.vb.cell 2;simp only[Zget]at v8;have a3:=hid (B.set F.out);have a4:=hid (D.out xl _ HU.out rfl);have O:(ZJr zs (.slice la qs.length lc,S.labs,xl)).length<=k+1:=by rw[ZKg];omega
           clear f))
      all_goals
       go_wp2
       go_roundg (ss.length - (k+1))
       case measure=>omega
       case rel=>exact⟨k+1,_,_,by omega,rfl,by go_num,O,a3,a4⟩
     ·have HU:Hid (cutV (ZfI o (L.map (·.2)))=oneV op L):=hid (by rw[A];rfl);have K:=ZhY (ZfI o (L.map (·.2)));subst J;clear A
      go_wp2_with fail
      refine(ZLk o ho L (by exact I.out) Om).mono ?_;rintro e w3 ⟨rfl,nd3,b9⟩;have U:BW H w3:=by rw[b9];exact ZiX _ _ _
      have G:=hid (m.below U);have d6:=hid (a0.below U);have p13:w3.cell? ⟨g,k*3+1,none⟩=_:=(U.cell (p:=⟨g,k*3+1,none⟩) c0).trans p1;clear b9 U p1 cl m a0 I;generalize ZfI o (L.map (·.2))=tl at *
      go_wp2_with fail
      refine(ZKi _ _).mono ?_;rintro e w4 ⟨rfl,rfl⟩;generalize cutV tl=cu at *
      go_upto_region 11 with fail
      have v2:=G.vb.cell 2;have vf:=G.vb.frozen 2;simp only[Zget]at v2;have a2:Hid (ElOk w4 (.slice la qs.length lc,S.labs,cu)):=⟨⟨qs,d6.out⟩,K⟩
      have M:zs.length<=1000:=by omega
      have d5:=G.vb.lt
      go_region_with (first
        | (go_at_call 104
           refine(ZKI zs (.slice la qs.length lc,S.labs,cu) _ (by exact G.els.below ⟨rfl,rfl,rfl,Yac _,fun _ _=>rfl⟩) (by exact a2.below ⟨rfl,rfl,rfl,Yac _,fun _ _=>rfl⟩) M).mono ?_;rintro e w8 ⟨rv,rfl,F,f⟩;obtain⟨ya,yc,N⟩:=Zl F.own;subst N;have B:=hid (G.below (⟨f.os,f.tape,f.output,f.size,f.block⟩:Below (w4).heap.size w4 w8));have vf8:=B.vb.frozen 2;have v8:=B.vb.cell 2;simp only[Zget]at v8;have a3:=hid (B.set F.out);have a4:=hid (D.out cu _ HU.out rfl);have O:(ZJr zs (.slice la qs.length lc,S.labs,cu)).length<=k+1:=by rw[ZKg];omega
           clear f))
      all_goals
       go_wp2
       go_roundg (ss.length - (k+1))
       case measure=>omega
       case rel=>exact⟨k+1,_,_,by omega,rfl,by go_num,O,a3,a4⟩
  ·obtain rfl:k=ss.length:=by omega
   rw[Ya4]at V;have b0:=d.vb.cell 0;have b1:=d.vb.cell 1;have b2:=d.vb.cell 2;simp only[Zget]at b0 b1 b2;have y0:=d.rb.frozen 0;have y1:=d.rb.frozen 1;have y2:=d.rb.frozen 2;have t0:=d.rb.cell 0;have t1:=d.rb.cell 1;have t2:=d.rb.cell 2;simp only[Zget]at t0 t1 t2;go_wp2;change bodyPost _ _ _ _ _ (set3 wr (w.heap.size+1) (.bool false) (Vi 0) (.slice va zs.length vc));have s9:=Zcr d.rb (x:=.bool false) (y:=Vi 0) (z:=.slice va zs.length vc);have s0:=s9.cell 0;have s1:=s9.cell 1;have s2:=s9.cell 2;simp only[Zget]at s0 s1 s2;have d7:Hid (ElsV (set3 wr (w.heap.size+1) (.bool false) (Vi 0) (.slice va zs.length vc)) (.slice va zs.length vc) zs):=hid (d.els.other d.rb (fun j hj=>Zsf hj));have d8:Hid (BW w (set3 wr (w.heap.size+1) (.bool false) (Vi 0) (.slice va zs.length vc))):=hid (((d.bel.setCell (p:=⟨w.heap.size+1,0,none⟩) (by show w.heap.size<=w.heap.size+1;omega) _).setCell (p:=⟨w.heap.size+1,1,none⟩) (by show w.heap.size<=w.heap.size+1;omega) _).setCell (p:=⟨w.heap.size+1,2,none⟩) (by show w.heap.size<=w.heap.size+1;omega) _);generalize set3 wr (w.heap.size+1) (.bool false) (Vi 0) (.slice va zs.length vc)=WX at *
   exact bodyPost_ret (v:=.agg #[.bool false,Vi 0,.slice va zs.length vc]) (by simp[results,results54,go_sem,s0,s1,s2]) rfl ⟨.slice va zs.length vc,rfl,zs,d7,V,c6,d8.out⟩
