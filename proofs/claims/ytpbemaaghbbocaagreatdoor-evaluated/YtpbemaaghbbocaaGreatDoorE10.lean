/- Parts. -/
import Derived.Test.YtpbemaaghbbocaaGreatDoorE09
set_option linter.all false
set_option maxRecDepth 100000
set_option maxHeartbeats 16000000
namespace Go.Proofs.YtpbemaaghbbocaaGreatDoor
open Go.RowKit LS Go.Proofs.Tryz
variable {a:Act}{ls:Array Bool}{s:BA}{ms ns:List (LB)}{d f i n:Nat}{o oi:Oper}{v z:Value}{w:World}
section
def cmpV(x y:LB):Int:=if Op.bytesLess x y then -1 else if Op.bytesLess y x then 1 else 0
theorem ZjM   : CP 229 #[.string s] w fun e u => e = .returned (.bool false) /\ u = w := by
  go_enter func229,ntmps229;go_wp2;go_ret;exact⟨by simp,rfl⟩
theorem Zra   : CP 227 #[.string s] w fun e u => e = .returned (.bool false) /\ u = w := by
  go_enter func227,ntmps227;go_wp2;go_ret;exact⟨by simp,rfl⟩
theorem Zoe {a b:BA}  : CP 200 #[.string a, .string b] w fun e u => e = .returned (Vi (cmpV (bl a) (bl b))) /\ u = w := by
  obtain⟨r,c⟩:∃r,r=cmpV (bl a) (bl b):=⟨_,rfl⟩
  rw[<-c];unfold cmpV at c;rw[<-Zbt,<-Zbt]at c;obtain⟨p,g⟩:∃p,Op.bytesLess a.toList b.toList=p:=⟨_,rfl⟩
  obtain⟨q,f⟩:∃q,Op.bytesLess b.toList a.toList=q:=⟨_,rfl⟩
  rw[g,f]at c;have d:Hid (r=if p=true then -1 else if q=true then 1 else 0):=c;clear c;cases p
  · cases q
    · obtain rfl:r=0:=d.out
      have h:(a.toList == b.toList)=true:=by rw[beq_iff_eq];exact Zdh _ _ g f
      clear d;go_enter func200,ntmps200
      go_wp2_with (go_at_call 229;refine(ZjM).mono ?_;rintro e u ⟨rfl,rfl⟩)
      go_ret;exact⟨rfl,rfl⟩
    · obtain rfl:r=1:=d.out
      have h:(a.toList == b.toList)=false:=by rw[beq_eq_false_iff_ne];intro e;rw[e,ZcL]at f;cases f
      clear d;go_enter func200,ntmps200
      go_wp2_with (go_at_call 229;refine(ZjM).mono ?_;rintro e u ⟨rfl,rfl⟩)
      go_ret;exact⟨rfl,rfl⟩
  · obtain rfl:r=-1:=d.out
    clear d;go_enter func200,ntmps200
    go_wp2_with (go_at_call 229;refine(ZjM).mono ?_;rintro e u ⟨rfl,rfl⟩)
    go_ret;exact⟨rfl,rfl⟩
theorem ZxX (a b : BA) (w : World) : CP 223 #[.string a, .string b] w fun e u => e = .returned (.bool (Op.bytesLess (bl a) (bl b))) /\ u = w := by
  rw[<-Zbt,<-Zbt];generalize c:Op.bytesLess a.toList b.toList=p;go_enter func223,ntmps223
  go_wp2_with (go_at_call 229;refine(ZjM).mono ?_;rintro e u ⟨rfl,rfl⟩)
  go_ret;exact⟨by first|rfl|simp[c],rfl⟩
theorem Zem{a:Array UInt8}(h:bl s=a.toList):s=⟨a⟩:=by
 cases s with
 | mk d=>unfold bl at h;simp at h;rw[h]
theorem ZqY (c : BA) (op : Nat) (d : op <= 4) (h : bl c = Z0.getD op []) (w : World) : CP 131 #[.string c] w fun e u => e = .returned (Vi op) /\ u = w := by
  rcases(by omega:op=0∨op=1∨op=2∨op=3∨op=4)with rfl|rfl|rfl|rfl|rfl
  · obtain rfl:=Zem (a:=#[116,111,116,97,108]) h
    go_enter func131,ntmps131;go_wp2;go_ret;exact⟨rfl,rfl⟩
  · obtain rfl:=Zem (a:=#[112,101,97,107]) h
    go_enter func131,ntmps131;go_wp2;go_ret;exact⟨rfl,rfl⟩
  · obtain rfl:=Zem (a:=#[108,111,119]) h
    go_enter func131,ntmps131;go_wp2;go_ret;exact⟨rfl,rfl⟩
  · obtain rfl:=Zem (a:=#[115,105,122,101]) h
    go_enter func131,ntmps131;go_wp2;go_ret;exact⟨rfl,rfl⟩
  · obtain rfl:=Zem (a:=#[114,105,115,101]) h
    go_enter func131,ntmps131;go_wp2;go_ret;exact⟨rfl,rfl⟩
theorem ZqX (c : BA) (op : Nat) (d : op <= 3) (h : bl c = ZW.getD op []) (w : World) : CP 131 #[.string c] w fun e u => e = .returned (Vi op) /\ u = w := by
  rcases(by omega:op=0∨op=1∨op=2∨op=3)with rfl|rfl|rfl|rfl
  · obtain rfl:=Zem (a:=#[115,117,109]) h
    go_enter func131,ntmps131;go_wp2;go_ret;exact⟨rfl,rfl⟩
  · obtain rfl:=Zem (a:=#[109,97,120]) h
    go_enter func131,ntmps131;go_wp2;go_ret;exact⟨rfl,rfl⟩
  · obtain rfl:=Zem (a:=#[109,105,110]) h
    go_enter func131,ntmps131;go_wp2;go_ret;exact⟨rfl,rfl⟩
  · obtain rfl:=Zem (a:=#[99,111,117,110,116]) h
    go_enter func131,ntmps131;go_wp2;go_ret;exact⟨rfl,rfl⟩
theorem ZMs (l : List (BA × BA × Bool)) (j : Nat) : (ZJo l)[j * 3]? = l[j]?.map (fun c => .string c.1) /\ (ZJo l)[j * 3 + 1]? = l[j]?.map (fun c => .string c.2.1) /\ (ZJo l)[j * 3 + 2]? = l[j]?.map (fun c => .bool c.2.2) := by
  induction l generalizing j with
  | nil=>simp[ZJo]
  | cons r l ih=>
    obtain⟨x,y,z⟩:=r;cases j with
    | zero=>simp[ZJo]
    | succ j=>
      obtain⟨a,d,e⟩:=ih j;refine⟨?_,?_,?_⟩
      · rw[show(j+1)*3=j*3+1+1+1 by omega];simpa [ZJo] using a
      · rw[show(j+1)*3+1=j*3+1+1+1+1 by omega];simpa [ZJo] using d
      · rw[show(j+1)*3+2=j*3+2+1+1+1 by omega];simpa [ZJo] using e
theorem ZJU.zero{p:PV}(h:ZJU w 0 p ns):∃bs:List BA,p.bn=bs.length/\w.ownsRow 0 9 1 (.slice p.ba bs.length p.bc) bs.length (bs.map .string)/\bs.map bl=ns:=by
 obtain⟨bs,c,d⟩:=h;obtain⟨av,cp,a⟩:=Zl c;injection a with _ a _;exact⟨bs,a,by rw[<-a];rw[<-a]at c;exact c,d⟩
section
variable {P:Program} {ops:Array Oper} {Q:Exit->Act->World->Prop} {md:Region.Mode} {S:World->Prop} {k:Nat}
def ZcJ(P:Program)(md:Region.Mode)(ops:Array Oper)(Q:Exit->Act->World->Prop)(S:World->Prop)(k:Nat):Nat->Array Bool->Act->World->Prop
 | 0,ls,a,w=>Region.ready md ops ls=[]/\Q .normal a w
 | f + 1, ls, a, w => (Region.ready md ops ls = [] -> Q .normal a w) /\ ∀ i ∈ Region.ready md ops ls,
     wpOp P ops Q i (fun a' w'=>((ls.setIfInBounds i true).getD k true=false->S w')/\ZcJ P md ops Q S k f (ls.setIfInBounds i true) a' w') a w
theorem ZcJ.any:∀(f:Nat) (ls:Array Bool) (a:Act) (w:World),ZcJ P md ops Q S k f ls a w->wpAny P md ops Q f ls a w
 | 0,_,_,_,h=>h
 | f+1,_,_,_,h=>⟨h.1,fun i c=>wpOp_mono (fun _ _ d=>ZcJ.any f _ _ _ d.2) (h.2 i c)⟩
def ZfE(md:Region.Mode)(ops:Array Oper)(ls:Array Bool):Bool:=
 (List.range ops.size).all fun j=>!ls.getD j true || ((ops[j]?).map (·.after.all fun e=>!Region.binds md e || ls.getD e.on false)).getD false
def Zhk(md:Region.Mode)(ops:Array Oper)(i:Nat):Nat->Nat->Bool
 | 0,_=>false
 | n+1,j=>((ops[j]?).map (·.after.any fun e=>Region.binds md e && (e.on == i || Zhk md ops i n e.on))).getD false
theorem Zsl : ZfE md ops ls=true ↔ ∀j o,ops[j]?=some o->ls.getD j true=true->∀e∈o.after,Region.binds md e=true->ls.getD e.on false=true:=by
 unfold ZfE;rw[Ybu];constructor
 ·intro h j o a c e d f;have g:=h j (Yb9.2 (Yae.1 a).1);rw[c,a]at g;simp only[Bool.not_true,Yft,Ybf,Ya6,Array.all_eq_true']at g;have i:=g e d;rw[f]at i;simpa using i
 ·intro h j c;rw[Yb9]at c;have a:ops[j]?=some ops[j]:=Array.getElem?_eq_getElem c;cases l:ls.getD j true with
  | false=>rfl
  | true=>
   rw[a];simp only[Bool.not_true,Yft,Ybf,Ya6,Array.all_eq_true'];intro e d;cases f:Region.binds md e with
   | false=>rfl
   | true=>simpa using h j _ a l e d f
theorem ZCb{j:Nat}(h:ZfE md ops ls=true)(n:j∈Region.ready md ops ls):ZfE md ops (ls.setIfInBounds j true)=true:=by
 rw[Zsl]at h ⊢;intro i o a f e g l;obtain⟨_,oj,m,d⟩:=mem_ready.1 n;by_cases c:j=i
 ·subst c;rw[m]at a;injection a with a;subst a;exact getD_set_true (d e g l)
 ·rw[getD_set_ne true c]at f;exact getD_set_true (h i o a f e g l)
theorem Zs6(h:ZfE md ops ls=true)(g:ls.getD i true=false):∀(n j:Nat),Zhk md ops i n j=true->ls.getD j true=false
 | 0,_,a=>by cases a
 | n + 1, j, a => by
   cases q:ls.getD j true with
   | false=>rfl
   | true=>
     unfold Zhk at a;cases d:ops[j]? with
     | none=>rw[d]at a;cases a
     | some o=>
       rw[d]at a;simp only[Ybf,Ya6,Array.any_eq_true',Yas,Yct,beq_iff_eq]at a;obtain⟨e,r,s,l⟩:=a;have c:=Zsl.1 h j o d q e r s
       have m:ls.getD e.on true=false:=by
         rcases l with p|t
         · rw[p];exact g
         · exact Zs6 h g n _ t
       exfalso
       rcases Yav e.on ls.size with f|f
       · simp[f]at c m;rw[m]at c;cases c
       · simp[f]at c
theorem Ztl(A:ops[i]?=some oi)(l:∀(j:Nat) (o:Oper) cs b,ops[j]?=some o->o.op≠.select cs b)
  (R:∀c a w,Q (.panic c) (a.put oi.dst v) w->Q (.panic c) a w) (T:Zhk md ops i n k=true) (E:i≠k) :
  ∀(f:Nat) (ls:Array Bool) (a:Act) (w:World),ZfE md ops ls=true->
   (∀j oj,ops[j]?=some oj->j≠i->ls.getD j true=false->(∀e∈oj.after,Region.binds md e=true->e.on≠i)->oi.apart ops oj=true)->
   i∈Region.ready md ops ls->YieldsIf P ops S oi v a->S w->
   ZcJ P md ops Q S k f (ls.setIfInBounds i true) (a.put oi.dst v) w->ZcJ P md ops Q S k (f+1) ls a w
 | 0, ls, a, w, F, g, p, B, s, H => by
   refine⟨fun h=>(by rw[h]at p;cases p),fun j t=>?_⟩;by_cases d:j=i
   · subst d;exact B.wpOp A s ⟨fun _=>s,H⟩
   · have C:=ready_mono t d
     rw[H.1]at C;cases C
 | f + 1, ls, a, w, F, g, p, B, s, H => by
   refine⟨fun h=>(by rw[h]at p;cases p),fun j t=>?_⟩;by_cases d:j=i
   · subst d;exact B.wpOp A s ⟨fun _=>s,H⟩
   · have C:=H.2 j (ready_mono t d)
     obtain⟨x,oj,y,K⟩:=mem_ready.1 t;have q:=(mem_ready.1 p).1
     have L : ∀ e ∈ oj.after, Region.binds md e = true -> e.on ≠ i := fun e X Y U => by
       have r:=K e X Y;rw[U]at r;rcases Yav i ls.size with M|M
       · simp[M]at q r;rw[q]at r;cases r
       · simp[M]at r
     have z:=ZCb F t;have D:(ls.setIfInBounds j true).getD i true=false:=by rw[getD_set_ne true d];exact q
     have N:(ls.setIfInBounds j true).getD k true=false:=Zs6 z D n k T;have r:=wpOp_putIf y (g j oj y d x L) (fun cs b=>l i oi cs b A) (fun cs b=>l j oj cs b y) R B C;refine wpOp_mono (fun a' u O=>?_) r;have G:S u:=O.2.1 (by rw[Ye4 _ _ (Ycp d),getD_set_ne true E];exact N);refine⟨fun _=>G,Ztl A l R T E f (ls.setIfInBounds j true) a' u z (fun m om Z V I W=>g m om Z V ?_ W) (ready_mono p (Ycp d)) O.1 G ?_⟩
     · by_cases J:j=m
       · subst J;exact x
       · rw[getD_set_ne true J]at I;exact I
     · rw[Ye4 _ _ d]
       exact O.2.2
theorem ZeD(e:ops[i]?=some oi)(hd:oi.dst=some d)(g:(Region.noSelect ops && Region.free md ops ls i && (Region.ready md ops ls).contains i && Zhk md ops i ops.size k && ZfE md ops ls && i != k)=true)
  (j:∀c a w,Q (.panic c) (a.put oi.dst v) w->Q (.panic c) a w) (l:YieldsIf P ops S oi v a) (m:S w)
  (h:ZcJ P md ops Q S k f (ls.setIfInBounds i true) { a with tmps:=a.tmps.setIfInBounds d v } w):ZcJ P md ops Q S k (f+1) ls a w:=by
 simp only[Yas,bne_iff_ne]at g;obtain⟨⟨⟨⟨⟨n,o⟩,p⟩,q⟩,r⟩,s⟩:=g;exact Ztl e (Region.noSelect_spec n) j q s f ls a w r (Region.free_spec e o) (by simpa using p) l m (by rw[hd];exact h)
theorem Z4(c:Region.ready md ops ls=[i])(l:ops[i]?=some o)
  (h:∀K':Act->World->Prop,Shut (∀a w,S w->(S w->ZcJ P md ops Q S k f (ls.setIfInBounds i true) a w)->K' a w)->if Region.wanted o (yielded ops a.tmps)=true then Oper.wp P o a w K' Q else K' (a.put o.dst undef) w):ZcJ P md ops Q S k (f+1) ls a w:=by
 refine⟨fun d=>(by rw[c]at d;cases d),fun j e=>?_⟩;rw[c,Yap]at e;subst e;exact wpOp_step l (fun K' m=>h K' (fun a w g n=>m a w ⟨fun _=>g,n g⟩))
theorem Zbl(g:Region.ready md ops ls=[k])(e:Region.ready md ops (ls.setIfInBounds k true)=[])(l:ops[k]?=some o)(m:(ls.setIfInBounds k true).getD k true=true)
  (h:∀K':Act->World->Prop,Shut (∀a w,Q .normal a w->K' a w)->if Region.wanted o (yielded ops a.tmps)=true then Oper.wp P o a w K' Q else K' (a.put o.dst undef) w):ZcJ P md ops Q S k (f+1) ls a w:=by
 refine⟨fun c=>(by rw[g]at c;cases c),fun j d=>?_⟩;rw[g,Yap]at d;subst d;refine wpOp_step l (fun K' n=>h K' (fun a w i=>n a w ⟨fun c=>(by rw[m]at c;cases c),?_⟩));cases f with
 | zero=>exact⟨e,i⟩
 | succ f=>exact⟨fun _=>i,fun j d=>by rw[e]at d;cases d⟩
theorem Zbn{id:Nat}(k:Nat)(S:World->Prop)(c:P.follows .mixedOrders=true)(d:S w.drew)(h:S w.drew->ZcJ P .any ops Q S k ops.size (Array.replicate ops.size false) a w.drew):(Code.region id ops true).wp P Q a w:=
 wp_region_any c (ZcJ.any _ _ _ _ (h d))
end
end
section
section
variable {P:Program} {ops:Array Oper} {Q:Exit->Act->World->Prop} {md:Region.Mode} {S:World->Prop} {k:Nat}
theorem Za (i : Nat)     {ls':Array Bool}  {tm' : Array Value}  (e : S w) (g : ops[i]? = some oi := by rfl) (hd : oi.dst = some d := by rfl) (j : (Region.noSelect ops && Region.free md ops ls i && (Region.ready md ops ls).contains i && Zhk md ops i ops.size k && ZfE md ops ls && i != k) = true := by kernel_rfl)
    (l:∀c a w,Q (.panic c) (a.put oi.dst v) w->Q (.panic c) a w:=by exact fun _ _ _ h=>h) (m:YieldsIf P ops S oi v a:=by(refine Or.inl ⟨by rfl,?_⟩;intro w hSw;go_simp;try with_reducible rfl)) (n:ls.setIfInBounds i true=ls':=by(try simp only[Zset]);rfl) (o:a.tmps.setIfInBounds d v=tm':=by(try simp only[Zset]);rfl)
    (h:ZcJ P md ops Q S k f ls' { a with tmps:=tm' } w):ZcJ P md ops Q S k (f+1) ls a w:=by
  subst n o;exact ZeD g hd j l m e h
end
end
section
theorem ZmD{base:Nat}{e:TypeId}{g cap:Nat}{xs:List Value}(h:w.ownsRow base e 1 (.slice (some ⟨g,0,none⟩) n cap) n xs)(i:Nat)(u:Value):(w.setCell ⟨g,i,none⟩ u).ownsRow base e 1 (.slice (some ⟨g,0,none⟩) n cap) n (xs.set i u):=by
 obtain⟨c,h⟩:=h;refine⟨by rw[List.length_set];exact c,?_⟩;rcases h with ⟨h,_⟩|⟨g',cap',cur,d,f,j,k,l,m,a⟩
 ·cases h
 ·injection d with h1 _ h3;injection h1 with h1;injection h1 with h1;subst h1 h3;refine Or.inr ⟨g,cap,cur.setIfInBounds i u,rfl,f,?_,k,l,by simpa using m,?_⟩
  ·simp[World.setCell,Ybn,j]
  ·rw[Nat.mul_one]at a ⊢;rw[<-a,Array.toList_setIfInBounds,List.take_set]
theorem ZB6(c k:Nat)(f:Nat->Value)(a:k<c):((List.range k).map f++List.replicate (c - k) z).set k (f k)=(List.range (k+1)).map f++List.replicate (c - (k+1)) z:=by
 have e:c - k=(c - (k+1))+1:=by omega
 rw[e,List.replicate_succ,List.set_append_right _ _ (by simp),List.range_succ,Yaq,Yan];simp
theorem Tryz.infoInt3:(Tryz.prog.info? 3).map (fun i=>(i.zero,i.size,i.bytes))=some (some (Vi 0),1,8):=by kernel_rfl
theorem Zf9 {t:Int}  : CP 84 #[Vi t] w fun e u => e = .returned (.bool (decide (-1000000 <= t) && decide (t <= 1000000))) /\ u = w := by
  by_cases a : -1000000<=t
  · by_cases c:t<=1000000
    · rw[show(decide (-1000000<=t) && decide (t<=1000000))=true by simp;omega]
      go_enter func84,ntmps84;go_wp2;go_ret;exact⟨rfl,rfl⟩
    · rw[show(decide (-1000000<=t) && decide (t<=1000000))=false by simp;omega]
      go_enter func84,ntmps84;go_wp2;go_ret;exact⟨rfl,rfl⟩
  · rw[show(decide (-1000000<=t) && decide (t<=1000000))=false by simp;omega]
    go_enter func84,ntmps84;go_wp2;go_ret;exact⟨rfl,rfl⟩
theorem Zqi(h:∀z,z∈ns ↔ z∈ms)(l:List Lab):ZB l ns=ZB l ms:=by
 unfold ZB;refine Ygl (fun p _=>?_);rw[Ybh,Ydk,Ydk];exact h p.1
theorem ZpH(h:∀z,z∈ns ↔ z∈ms)(op:Nat)(all:List El):∀(l pre:List El),ZcF op ns all pre l=ZcF op ms all pre l
 | [],_=>rfl
 | e :: l, pre => by
   rw[ZcF,ZcF,ZpH h op all l (pre++[e])];have a:(fun f:El=>ZB f.1 ns)=fun f=>ZB f.1 ms:=funext fun f=>Zqi h f.1;simp only[Zqi h]
theorem ZpJ(h:∀z,z∈ns ↔ z∈ms)(op:Nat)(l:List El):Zcv op ns l=Zcv op ms l:=by unfold Zcv;rw[ZpH h]
theorem Zmw:∀l:List (LB),l.length<=nw l
 | []=>Yac _
 | c::l=>by have:=Zmw l;simp only[nw,Yaj];omega
theorem VOk.mono{m:Nat}{V:VV}(h:VOk m V)(a:m<=n):VOk n V:=by
 cases V with
 | inl _=>trivial
 | inr l=>exact⟨h.1,Yah h.2 a⟩
theorem ZS2{b:Nat}{av:Option Addr}{cp:Nat}(h:w.cell? ⟨b,0,none⟩=some (.slice av (n+1:Nat) cp))(a:n+1<=301) :
  CP 30 #[Vp b] w fun e u=>e=.returned (Vi n)/\u=w:=by
 go_enter func30,ntmps30;go_wp2;go_ret;exact⟨ZBw Om,rfl⟩
