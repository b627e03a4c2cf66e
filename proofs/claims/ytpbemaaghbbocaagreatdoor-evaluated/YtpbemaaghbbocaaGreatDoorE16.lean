/- Parts. -/
import Derived.Test.YtpbemaaghbbocaaGreatDoorE15
import Derived.Test.YtpbemaaghbbocaaGreatDoorE00
import Derived.Lib.SplitLaws
import Derived.Lib.IndexMore
import Derived.Test.YtpbemaaghbbocaaGreatDoorEX
namespace Go.Proofs.YtpbemaaghbbocaaGreatDoor
open Go.RowKit LS
def winT:Tr→Prop
 | .nil=>True
 | .node _ _ a l r=>(a.kind=2→1≤a.n∧a.n≤1000)∧winT l∧winT r
def InvW(rec:Nat→List Tok→Nat→Out Tr):Prop:=∀lv t d z,rec lv t d=.ok z→winT z.1
theorem Zhd{a:Nd}(h:a.kind=2→1≤a.n∧a.n≤1000):winT (ZbI a):=⟨h,trivial,trivial⟩
theorem Ztn{o:Nat}{ts:List Tok}{z:Tr×List Tok}(h:winP o ts=.ok z):winT z.1:=by
 unfold winP at h
 obtain⟨_,t1,h1,h⟩:=Zq h
 obtain⟨p,t2,h2,h⟩:=Zq h
 obtain⟨_,t3,h3,h⟩:=Zq h
 obtain⟨m,t4,h4,h⟩:=Zq h
 obtain⟨_,t5,h5,h⟩:=Zq h
 obtain⟨_,t6,h6,h⟩:=Zq h
 injection h with h;subst h
 have a4:1≤m∧m≤1000:=by
  unfold ZbN at h4
  split at h4
  ·rename_i hh
   injection h4 with h4;injection h4 with h4 h4';subst h4
   exact⟨hh.2,(ZdX 1000 _).2⟩
  ·cases h4
 exact Zhd (fun _=>a4)
theorem Zlc{rec:Nat→List Tok→Nat→Out Tr}(hr:InvW rec){ts:List Tok}{deep:Nat}{z:Tr×List Tok}(h:ZP rec ts deep=.ok z):winT z.1:=by
 unfold ZP at h
 obtain⟨_,t1,h1,h⟩:=Zq h
 obtain⟨a,t2,h2,h⟩:=Zq h
 obtain⟨_,t3,h3,h⟩:=Zq h
 injection h with h;subst h
 show winT a
 exact hr _ _ _ _ h2
theorem Ztl{rec:Nat→List Tok→Nat→Out Tr}(hr:InvW rec){g:Nat}{ts:List Tok}{deep:Nat}{z:Tr×List Tok}(h:ZbH rec g ts deep=.ok z):winT z.1:=by
 unfold ZbH at h
 obtain⟨_,t1,h1,h⟩:=Zq h
 obtain⟨_,t2,h2,h⟩:=Zq h
 obtain⟨ns,t3,h3,h⟩:=Zq h
 obtain⟨a,t4,h4,h⟩:=Zq h
 injection h with h;subst h
 exact⟨fun h=>absurd (show(5:Nat)=2 from h) (by decide),Zlc hr h4,trivial⟩
theorem Ztm{rec:Nat→List Tok→Nat→Out Tr}(hr:InvW rec){ts:List Tok}{deep:Nat}{z:Tr×List Tok}(h:ZG rec ts deep=.ok z):winT z.1:=by
 unfold ZG at h
 split at h
 ·injection h with h;subst h
  exact Zhd (fun h=>absurd (show(0:Nat)=2 from h) (by decide))
 ·split at h
  ·obtain⟨a,t1,h1,h⟩:=Zq h
   injection h with h;subst h
   exact⟨fun h=>absurd (show(3:Nat)=2 from h) (by decide),hr _ _ _ _ h1,trivial⟩
  ·split at h
   ·exact Zlc hr h
   ·split at h
    ·exact Ztl hr h
    ·split at h
     ·exact Ztn h
     ·obtain⟨p,t1,h1,h⟩:=Zq h
      injection h with h;subst h
      obtain⟨a1,a2,a3,a4,a5⟩:=Zgn h1
      simp only at a2
      exact Zhd (fun h=>absurd (a2.symm.trans h) (by decide))
theorem Zfn:∀(n:Nat) (m:Bool) (lv:Nat) (a:Tr) (ts:List Tok) (deep:Nat) (z:Tr×List Tok),(m=true→winT a)→Zi n m lv a ts deep=.ok z→winT z.1
 | 0,_,_,_,_,_,_,_,h=>by cases h
 | n + 1, false, lv, a, ts, deep, z, _, h => by
   have hr:InvW (fun lv t d=>Zi n false lv .nil t d):=fun lv t d z h=>Zfn n false lv .nil t d z (fun h=>nomatch h) h
   unfold Zi at h
   split at h
   · unfold Zbh at h
     split at h
     · split at h
       · cases h
       · exact Ztm hr h
     · cases h
   · obtain⟨b,t1,h1,h2⟩:=Zq h
     exact Zfn n true lv b t1 deep z (fun _=>hr _ _ _ _ h1) h2
 | n + 1, true, lv, a, ts, deep, z, ha, h => by
   unfold Zi at h
   split at h
   · injection h with h;subst h;exact ha rfl
   · rename_i p hp
     obtain⟨b,t1,h1,h2⟩:=Zq h
     have l1:=Zfn n false _ _ _ _ _ (fun h=>nomatch h) h1
     refine Zfn n true lv (.node 0 0 (nd0 p.1 p.2) a b) t1 deep z (fun _=>⟨fun hk=>?_,ha rfl,l1⟩) h2
     unfold LS.opAt at hp
     exfalso
     have hk':p.1=2:=hk
     repeat (first|(split at hp)|(injection hp with hp;subst hp;exact absurd hk' (by decide))|cases hp)
theorem Zkq{l:List UInt8}{t:Tr}(h:Zbd l=.ok t):winT t∧Zc t≠0:=by
 unfold Zbd at h
 split at h
 ·cases h
 ·split at h
  ·cases h
  ·rename_i t' r hp
   split at h
   ·split at h
    ·cases h
    ·injection h with h;subst h;rename_i hk;exact⟨(Zfn _ false _ _ _ _ (t',r) (fun h=>nomatch h) hp:winT t'),hk⟩
   ·cases h
def Zc7:VV→Bool
 | .sc _=>false
 | .vec _=>true
theorem ZlM(op:Nat)(a b:VV):Zc7 (Zdz op a b)=(Zc7 a || Zc7 b):=by cases a <;> cases b <;> rfl
theorem Zft(st:List Ser)(tm:Int):∀t:Tr,wfT t→isNil t=false→Zc t≠0→Zc7 (sayT st tm t)=decide (Zc t=2)
 | .nil,_,h,_=>by cases h
 | .node x y a l r, hw, _, hk => by
   obtain⟨w1,w2,w3,w4,w5,w6,w7,w8,w9,w10,wl,wr⟩:=hw
   have ihl:=Zft st tm l wl
   have ihr:=Zft st tm r wr
   unfold Zc at hk ⊢
   unfold sayT
   by_cases h0:a.kind=0
   · rw[if_pos h0,if_pos h0];rfl
   rw[if_neg h0]at hk ⊢
   rw[if_neg h0]
   by_cases h1:a.kind=1
   · rw[if_pos h1,if_pos (Or.inl h1)];rfl
   by_cases h2:a.kind=2
   · rw[if_neg h1,if_pos h2,if_pos (Or.inr h2)];rfl
   rw[if_neg (show ¬(a.kind=1∨a.kind=2) by omega)]at hk ⊢
   rw[if_neg h1,if_neg h2]
   by_cases h3:a.kind=3
   · rw[if_pos h3]at hk ⊢
     rw[if_pos h3,←ihl (w7 (by omega)) hk]
     cases sayT st tm l <;> rfl
   rw[if_neg h3]at hk ⊢
   rw[if_neg h3]
   by_cases h5:a.kind=5
   · rw[if_pos h5]at hk ⊢
     rw[if_pos h5]
     by_cases hl:Zc l=2
     · rw[if_pos hl];rfl
     · rw[if_neg hl]at hk;exact absurd rfl hk
   rw[if_neg h5]at hk ⊢
   rw[if_neg h5]
   have hnr:=w8 (by omega)
   have hnl:=w7 (by omega)
   by_cases hb:Zc l=0∨Zc r=0∨(a.kind=6∧Zc l+Zc r≠4)
   · rw[if_pos hb]at hk;exact absurd rfl hk
   rw[if_neg hb]at hk ⊢
   have hl0:Zc l≠0:=fun h=>hb (Or.inl h)
   have hr0:Zc r≠0:=fun h=>hb (Or.inr (Or.inl h))
   have kl:=ZdT l
   have kr:=ZdT r
   have il:=ihl hnl hl0
   have ir:=ihr hnr hr0
   by_cases h6:a.kind=6
   · have h4:Zc l+Zc r=4:=by
       refine Classical.byContradiction fun h=>hb (Or.inr (Or.inr ⟨h6,h⟩))
     rw[if_pos h6,if_neg (show ¬Zc l+Zc r=2 by omega)]
     split
     · rw[ir];simp;omega
     · rw[il];simp;omega
   · rw[if_neg h6,ZlM,il,ir]
     split
     · simp;omega
     · simp;omega
theorem Zc5:∀x:List UInt8,Op.bytesLess x x=false
 | []=>rfl
 | a :: x => by
   have h:¬a<a:=UInt8.lt_irrefl a
   simp[Op.bytesLess,Zc5 x,h]
theorem ZdN:∀x y z:List UInt8,Op.bytesLess x y=true→Op.bytesLess y z=true→Op.bytesLess x z=true
 | x,y,[],_,h=>by cases y <;> simp[Op.bytesLess]at h
 | x,[],c::z,h,_=>by cases x <;> simp[Op.bytesLess]at h
 | [],b::y,c::z,_,_=>rfl
 | a :: x, b :: y, c :: z, h1, h2 => by
   simp only[Op.bytesLess,Bool.or_eq_true,decide_eq_true_eq,Bool.and_eq_true,beq_iff_eq]at h1 h2 ⊢
   rcases h1 with h1|⟨rfl,h1⟩
   · rcases h2 with h2|⟨rfl,h2⟩
     · exact Or.inl (UInt8.lt_trans h1 h2)
     · exact Or.inl h1
   · rcases h2 with h2|⟨rfl,h2⟩
     · exact Or.inl h2
     · exact Or.inr ⟨rfl,ZdN x y z h1 h2⟩
theorem ZdO:∀x y:List UInt8,Op.bytesLess x y=false→Op.bytesLess y x=false→x=y
 | [],[],_,_=>rfl
 | [],b::y,h,_=>by simp[Op.bytesLess]at h
 | a::x,[],_,h=>by simp[Op.bytesLess]at h
 | a :: x, b :: y, h1, h2 => by
   simp only[Op.bytesLess,Bool.or_eq_false_iff,decide_eq_false_iff_not,Bool.and_eq_false_iff,beq_eq_false_iff_ne]at h1 h2
   have hab:a=b:=by
     have k1:¬a.toNat<b.toNat:=fun h=>h1.1 (UInt8.lt_iff_toNat_lt.2 h)
     have k2:¬b.toNat<a.toNat:=fun h=>h2.1 (UInt8.lt_iff_toNat_lt.2 h)
     exact UInt8.toNat_inj.1 (by omega)
   subst hab
   have e:=ZdO x y (h1.2.resolve_left (fun h=>h rfl)) (h2.2.resolve_left (fun h=>h rfl))
   rw[e]
def lt1(a b:El):Prop:=Op.bytesLess (wrt a.1) (wrt b.1)=true
def Srt(l:List El):Prop:=l.Pairwise lt1
theorem Zhx(l:List El)(x z:El):z∈Zbu l x ↔ z=x∨z∈l:=by
 induction l with
 | nil=>simp[Zbu]
 | cons y l ih=>
  rw[Zbu]
  split
  ·simp
  ·rw[List.mem_cons,ih,List.mem_cons]
   constructor
   ·rintro(h|h|h)
    ·exact Or.inr (Or.inl h)
    ·exact Or.inl h
    ·exact Or.inr (Or.inr h)
   ·rintro(h|h|h)
    ·exact Or.inr (Or.inl h)
    ·exact Or.inl h
    ·exact Or.inr (Or.inr h)
theorem ZqQ(l:List El)(x:El):(Zbu l x).length=l.length+1:=by
 induction l with
 | nil=>rfl
 | cons y l ih=>
  rw[Zbu]
  split
  ·rfl
  ·rw[List.length_cons,ih,List.length_cons]
theorem ZqR(l:List El)(x:El)(h:Srt l)(hx:∀y∈l,wrt y.1≠wrt x.1):Srt (Zbu l x):=by
 induction l with
 | nil=>exact List.pairwise_singleton _ _
 | cons y l ih=>
  obtain⟨h1,h2⟩:=List.pairwise_cons.1 h
  rw[Zbu]
  split
  ·rename_i hlt
   refine List.pairwise_cons.2 ⟨fun z hz=>?_,h⟩
   rcases List.mem_cons.1 hz with rfl|hz
   ·exact hlt
   ·exact ZdN _ _ _ hlt (h1 z hz)
  ·rename_i hlt
   refine List.pairwise_cons.2 ⟨fun z hz=>?_,ih h2 (fun y hy=>hx y (List.mem_cons_of_mem _ hy))⟩
   rcases(Zhx l x z).1 hz with rfl|hz
   ·unfold lt1
    cases h3:Op.bytesLess (wrt y.1) (wrt z.1)with
    | true=>rfl
    | false=>exact absurd (ZdO _ _ h3 (Bool.eq_false_iff.2 hlt)) (hx y (List.mem_cons_self ..))
   ·exact h1 z hz
theorem Zfb (L : List El) : ∀ acc : List El, Srt acc → (L.Pairwise fun a b => wrt a.1 ≠ wrt b.1) → (∀ y ∈ acc, ∀ x ∈ L, wrt y.1 ≠ wrt x.1) →
    Srt (L.foldl Zbu acc)∧(L.foldl Zbu acc).length=acc.length+L.length∧∀z,z∈L.foldl Zbu acc ↔ z∈acc∨z∈L:=by
  induction L with
  | nil=>intro acc h _ _;exact⟨h,rfl,by simp⟩
  | cons x L ih=>
    intro acc h hp hd
    obtain⟨h1,h2⟩:=List.pairwise_cons.1 hp
    obtain ⟨k1, k2, k3⟩ := ih (Zbu acc x) (ZqR acc x h (fun y hy => hd y hy x (List.mem_cons_self ..))) h2 (fun y hy z hz => by
      rcases(Zhx acc x y).1 hy with rfl|hy
      · exact h1 z hz
      · exact hd y hy z (List.mem_cons_of_mem _ hz))
    refine⟨k1,by rw[List.foldl_cons,k2,ZqQ,List.length_cons];omega,fun z=>?_⟩
    rw[List.foldl_cons,k3,Zhx,List.mem_cons]
    constructor
    · rintro((h|h)|h)
      · exact Or.inr (Or.inl h)
      · exact Or.inl h
      · exact Or.inr (Or.inr h)
    · rintro(h|h|h)
      · exact Or.inl (Or.inr h)
      · exact Or.inl (Or.inl h)
      · exact Or.inr h
def Dst(st:List Ser):Prop:=st.Pairwise fun s r=>¬(s.name=r.name∧wrt s.labs=wrt r.labs)
def Zdq(st:List Ser)(a:Nd)(op:Option Nat)(size t:Int):List El:=(st.filter fun s=>Zby a s && !(ZF s.sams size t).isEmpty).map fun s=>(s.labs,oneV op (ZF s.sams size t))
theorem ZhP(st:List Ser)(a:Nd)(op:Option Nat)(size t:Int):ZbA st a op size t=(Zdq st a op size t).foldl Zbu []:=by
 unfold ZbA Zdq
 generalize([]:List El)=acc
 induction st generalizing acc with
 | nil=>rfl
 | cons s st ih=>
  rw[List.foldl_cons]
  by_cases h:(Zby a s && !(ZF s.sams size t).isEmpty)=true
  ·rw[if_pos h,List.filter_cons_of_pos (by simpa using h),List.map_cons,List.foldl_cons];exact ih _
  ·rw[if_neg h,List.filter_cons_of_neg (by simpa using h)];exact ih _
theorem Zhw {st : List Ser} (h : Dst st) (a : Nd) (op : Option Nat) (size t : Int) : (Zdq st a op size t).Pairwise fun x y => wrt x.1 ≠ wrt y.1 := by
  unfold Zdq
  rw[List.pairwise_map]
  refine List.Pairwise.imp_of_mem ?_ (h.filter _)
  intro s r hs hr hn he
  have n1:=(List.mem_filter.1 hs).2
  have n2:=(List.mem_filter.1 hr).2
  simp only[Bool.and_eq_true,Zby,decide_eq_true_eq]at n1 n2
  exact hn ⟨n1.1.2.symm.trans n2.1.2,he⟩
def VOk(n:Nat):VV→Prop
 | .sc _=>True
 | .vec l=>Srt l∧l.length≤n
theorem Zlj{st:List Ser}(h:Dst st)(a:Nd)(op:Option Nat)(size t:Int):VOk st.length (.vec (ZbA st a op size t)):=by
 rw[ZhP]
 obtain⟨h1,h2,_⟩:=Zfb (Zdq st a op size t) [] List.Pairwise.nil (Zhw h a op size t) (by simp)
 refine⟨h1,?_⟩
 rw[h2]
 unfold Zdq
 rw[List.length_map]
 have:=List.length_filter_le (fun s=>Zby a s && !(ZF s.sams size t).isEmpty) st
 simpa using this
theorem Zhn{l:List El}(h:Srt l)(f:El→El)(hf:∀e,(f e).1=e.1):Srt (l.map f):=by
 unfold Srt
 rw[List.pairwise_map]
 exact h.imp (fun {a b} hab=>by unfold lt1 at *;rw[hf,hf];exact hab)
theorem ZnU {y : List El} (h : Srt y) (k : List UInt8) : y.filter (fun f => decide (k = wrt f.1)) = (y.find? fun f => decide (k = wrt f.1)).toList := by
  induction y with
  | nil=>rfl
  | cons e y ih=>
    obtain⟨h1,h2⟩:=List.pairwise_cons.1 h
    by_cases he:k=wrt e.1
    · rw[List.filter_cons_of_pos (by simpa using he),List.find?_cons_of_pos (by simpa using he)]
      have : y.filter (fun f => decide (k = wrt f.1)) = [] := by
        rw[List.filter_eq_nil_iff]
        intro f hf hk
        have h3:=h1 f hf
        unfold lt1 at h3
        rw[←he,of_decide_eq_true hk,Zc5]at h3
        cases h3
      rw[this];rfl
    · rw[List.filter_cons_of_neg (by simpa using he),List.find?_cons_of_neg (by simpa using he)]
      exact ih h2
theorem Zn4 {α β : Type} (f : α → Option β) (l : List α) : l.flatMap (fun a => (f a).toList) = l.filterMap f := by
  induction l with
  | nil=>rfl
  | cons a l ih=>
    rw[List.flatMap_cons,ih,List.filterMap_cons]
    cases f a <;> rfl
def vvF(op:Nat)(y:List El)(e:El):Option El:=(y.find? fun f=>decide (wrt e.1=wrt f.1)).map fun f=>(e.1,twoV op e.2 f.2)
theorem Zh4(op:Nat)(x y:List El)(hy:Srt y):Zdz op (.vec x) (.vec y)=.vec (x.filterMap (vvF op y)):=by
 have h : ∀ e : El, (y.filter fun f => decide (wrt e.1 = wrt f.1)).map (fun f => (e.1, twoV op e.2 f.2)) = (vvF op y e).toList := fun e => by
   rw[ZnU hy]
   unfold vvF
   cases y.find? (fun f=>decide (wrt e.1=wrt f.1)) <;> rfl
 show VV.vec (x.flatMap fun e=>(y.filter fun f=>decide (wrt e.1=wrt f.1)).map fun f=>(e.1,twoV op e.2 f.2))=_
 rw[←Zn4,funext h]
theorem Ztj(op:Nat)(x y:List El)(hx:Srt x):Srt (x.filterMap (vvF op y)):=by
 unfold Srt
 rw[List.pairwise_filterMap]
 refine hx.imp ?_
 intro a b hab c hc d hd
 unfold vvF at hc hd
 cases h1:y.find? (fun f=>decide (wrt a.1=wrt f.1))with
 | none=>rw[h1]at hc;cases hc
 | some f=>
  cases h2:y.find? (fun f=>decide (wrt b.1=wrt f.1))with
  | none=>rw[h2]at hd;cases hd
  | some g=>
   rw[h1]at hc;rw[h2]at hd
   cases hc;cases hd
   exact hab
theorem ZlO(op n:Nat)(a b:VV)(ha:VOk n a)(hb:VOk n b):VOk n (Zdz op a b):=by
 cases a with
 | sc a=>
  cases b with
  | sc b=>trivial
  | vec y=>exact⟨Zhn hb.1 _ (fun _=>rfl),by rw[List.length_map];exact hb.2⟩
 | vec x=>
  cases b with
  | sc b=>exact⟨Zhn ha.1 _ (fun _=>rfl),by rw[List.length_map];exact ha.2⟩
  | vec y=>
   rw[Zh4 op x y hb.1]
   exact⟨Ztj op x y ha.1,Nat.le_trans (List.length_filterMap_le _ _) ha.2⟩
theorem Zp7(n:Nat)(a:VV)(ha:VOk n a):VOk n (negV a):=by
 cases a with
 | sc a=>trivial
 | vec x=>exact⟨Zhn ha.1 _ (fun _=>rfl),by rw[List.length_map];exact ha.2⟩
theorem ZgX (op : Nat) (bs : List (List UInt8)) (all : List El) : ∀ (l pre : List El), ((Zbc op bs all pre l).Pairwise fun x y => wrt x.1 ≠ wrt y.1) ∧ (Zbc op bs all pre l).length ≤ l.length ∧ ∀ x ∈ Zbc op bs all pre l, ∀ f ∈ pre, wrt (Zu f.1 bs) ≠ wrt x.1
  | [],pre=>⟨List.Pairwise.nil,Nat.le_refl _,by simp[Zbc]⟩
  | e :: l, pre => by
    obtain⟨h1,h2,h3⟩:=ZgX op bs all l (pre++[e])
    rw[Zbc]
    split
    · refine⟨by simpa using h1,by simp;omega,fun x hx f hf=>h3 x (by simpa using hx) f (List.mem_append_left _ hf)⟩
    · rename_i hn
      refine⟨?_,by simp;omega,?_⟩
      · rw[List.singleton_append,List.pairwise_cons]
        exact⟨fun x hx=>h3 x hx e (by simp),h1⟩
      · intro x hx f hf
        rw[List.singleton_append,List.mem_cons]at hx
        rcases hx with rfl|hx
        · intro he
          exact hn (List.any_eq_true.2 ⟨f,hf,by simpa using he⟩)
        · exact h3 x hx f (List.mem_append_left _ hf)
theorem Zoi(op:Nat)(bs:List (List UInt8))(n:Nat)(l:List El)(h:l.length≤n):VOk n (.vec (Zcx op bs l)):=by
 obtain⟨h1,h2,_⟩:=ZgX op bs l l []
 obtain⟨k1,k2,_⟩:=Zfb (Zbc op bs l [] l) [] List.Pairwise.nil h1 (by simp)
 exact⟨k1,by show(List.foldl Zbu [] _).length≤n;rw[k2];simp;omega⟩
theorem ZiN{n:Nat}{v:VV}(h:VOk n v):(ZcJ v).length≤n:=by
 cases v with
 | sc _=>exact Nat.zero_le _
 | vec l=>exact h.2
theorem Zfu{st:List Ser}(h:Dst st)(tm:Int):∀t:Tr,VOk st.length (sayT st tm t)
 | .nil=>⟨List.Pairwise.nil,Nat.zero_le _⟩
 | .node x y a l r => by
   have il:=Zfu h tm l
   have ir:=Zfu h tm r
   unfold sayT
   split
   · trivial
   split
   · exact Zlj h a _ _ _
   split
   · exact Zlj h a _ _ _
   split
   · exact Zp7 _ _ il
   split
   · exact Zoi _ _ _ _ (ZiN il)
   split
   · split
     · exact ir
     · exact il
   · exact ZlO _ _ _ _ il ir
end Go.Proofs.YtpbemaaghbbocaaGreatDoor
namespace Go.Proofs.YtpbemaaghbbocaaGreatDoor.LS
open Go Go.RowKit
theorem ZfY (c : UInt8) (l : List UInt8) : Lib.index l [c] = match seek c l with | none => -1 | some i => (i : Int) := by
  induction l with
  | nil=>rfl
  | cons b l ih=>
    unfold Lib.index seek
    by_cases hb:b=c
    · subst hb;simp[List.isPrefixOf]
    · have h1:[c].isPrefixOf (b::l)=false:=by simp[List.isPrefixOf,Ne.symm hb]
      have h2:(b == c)=false:=by simp[hb]
      rw[if_neg (by simp[h1]),ih,h2]
      cases seek c l with
      | none=>rfl
      | some i=>
        have h3:¬(((i:Int) == -1)=true):=by simp
        simp only[Bool.false_eq_true,if_false,Option.map_some]
        rw[if_neg h3];rfl
theorem Zpw{c:UInt8}{l x y:List UInt8}(h:cut c l=some (x,y)):Lib.cut l [c]=(x,y,true):=by
 unfold cut at h
 cases hs:seek c l with
 | none=>rw[hs]at h;cases h
 | some i=>
  rw[hs]at h
  simp only[Option.map_some,Option.some.injEq,Prod.mk.injEq]at h
  unfold Lib.cut
  rw[ZfY,hs]
  simp only[List.length_singleton,Int.toNat_natCast]
  rw[if_pos (by omega),h.1,h.2]
theorem Zpv{c:UInt8}{l:List UInt8}(h:cut c l=none):Lib.cut l [c]=(l,[],false):=by
 unfold cut at h
 cases hs:seek c l with
 | some i=>rw[hs]at h;cases h
 | none=>
  unfold Lib.cut
  rw[ZfY,hs]
  rfl
theorem ZcI{c:UInt8}{l x y:List UInt8}(h:cut c l=some (x,y)):l=x++c::y∧c∉x:=by
 unfold cut at h
 cases hs:seek c l with
 | none=>rw[hs]at h;cases h
 | some i=>
  rw[hs]at h
  simp only[Option.map_some,Option.some.injEq,Prod.mk.injEq]at h
  obtain⟨a,b,rfl,rfl,hn⟩:=Zeh hs
  have e1:x=a:=by rw[←h.1];simp
  have e2:y=b:=by rw[←h.2];simp
  subst e1;subst e2
  exact⟨rfl,hn⟩
theorem ZgJ{c:UInt8}{x y:List UInt8}(h:c∉x):cut c (x++c::y)=some (x,y):=by
 unfold cut;rw[Zfv c x y h];simp
theorem Zsq(c:UInt8):∀(n:Nat) (l:List UInt8),l.length≤n→Lib.splitK [c] 0 (Lib.count l [c]) l=split c l:=by
 intro n
 induction n with
 | zero=>
  intro l hl
  obtain rfl:l=[]:=List.length_eq_zero_iff.1 (by omega)
  rw[Lib.count_miss rfl];rfl
 | succ n ih=>
  intro l hl
  cases hs:seek c l with
  | none=>
   rw[Lib.count_miss (by rw[ZfY,hs])]
   have hn:=(Zfw c l).1 hs
   have:=ZeW c l [] hn
   rw[List.append_nil]at this
   rw[this];simp[Lib.splitK,split,pre]
  | some i=>
   obtain⟨a,b,rfl,rfl,hn⟩:=Zeh hs
   have hi:Lib.index (a++c::b) [c]=(a.length:Int):=by rw[ZfY,hs]
   rw[Lib.count_hit (by simp) hi]
   have e1:(a++c::b).drop (a.length + [c].length)=b:=by simp
   rw[e1,Nat.add_comm,Lib.splitK,if_neg (by rw[hi];simp),hi]
   rw[show((a.length:Int)).toNat=a.length by omega,e1,ih b (by simp at hl;omega),ZeW c a _ hn,Zey]
   simp[pre]
def ZT(c:UInt8):List UInt8→List UInt8×Bool
 | []=>([],false)
 | b::t=>if b == c then (t,true)else (b::t,false)
theorem Zpx(c:UInt8)(l:List UInt8):(Lib.trimPrefix l [c],Lib.hasPrefix l [c])=ZT c l:=by
 cases l with
 | nil=>rfl
 | cons b t=>
  by_cases hb:b=c
  ·subst hb;simp[Lib.trimPrefix,Lib.hasPrefix,ZT]
  ·have h1:[c].isPrefixOf (b::t)=false:=by simp[List.isPrefixOf,Ne.symm hb]
   simp[Lib.trimPrefix,Lib.hasPrefix,ZT,hb,h1]
theorem ZhK(c:UInt8)(l:List UInt8):(ZT c l).1.length≤l.length:=by
 cases l with
 | nil=>simp[ZT]
 | cons b t=>by_cases h:(b == c)=true <;> simp[ZT,h]
def ZbP(d:List UInt8):Bool:=match ZC 1000000000 (ZT 45 d).1 with
 | none=>false
 | some v=>!((ZT 45 d).2 && v == 0)
def ZbX(t:List UInt8):Option Nat:=match cut 58 t with
 | none=>none
 | some (a, d) => match ZC 1000000 a with
   | none=>none
   | some tm=>if ZbP d then some tm else none
def ZR:Int→Nat→List (List UInt8)→Option Nat
 | _,n,[]=>some n
 | last, n, x :: xs => match ZbX x with
   | none=>none
   | some t=>if (t:Int)≤last then none else ZR t (n+1) xs
def Zbe(l:List UInt8):Option Nat:=match ZT 32 l with
 | (r,f)=>if l=[] then some 0 else if f then ZR (-1) 0 (split 32 r)else none
def leS(a b:List UInt8):Bool:=Op.bytesLess a b || a == b
def ZcN(last:List UInt8)(x:List UInt8):Option (List UInt8×List UInt8):=match cut 61 x with
 | none=>none
 | some (n,v)=>if Zx n && ZH v && !v.isEmpty && !leS n last then some (n,v)else none
def ZS:List UInt8→List (List UInt8×List UInt8)→List (List UInt8)→Option (List (List UInt8×List UInt8))
 | _,acc,[]=>some acc
 | last, acc, x :: xs => match ZcN last x with
   | none=>none
   | some p=>ZS p.1 (acc++[p]) xs
def ZY(l:List UInt8):Option (List (List UInt8×List UInt8)):=if l=[] then some [] else ZS [] [] (split 44 l)
def line(l:List UInt8):Option (List UInt8×List UInt8×Nat):=match cut 123 l with
 | none=>none
 | some (name, rest) => match cut 125 rest with
   | none=>none
   | some (inside,behind)=>if Zx name && (ZY inside).isSome then (Zbe behind).map (fun n=>(name,inside,n))else none
theorem Zfi{l:List UInt8}(h:cut 123 l=none):line l=none:=by unfold line;rw[h]
theorem ZeJ{l name rest:List UInt8}(h:cut 123 l=some (name,rest))(h2:cut 125 rest=none):line l=none:=by unfold line;rw[h];simp only[h2]
theorem ZeK{l name rest inside behind:List UInt8}(h:cut 123 l=some (name,rest))(h2:cut 125 rest=some (inside,behind)) :
  line l=if Zx name && (ZY inside).isSome then (Zbe behind).map (fun n=>(name,inside,n))else none:=by unfold line;rw[h];simp only[h2]
structure Entry where
 at_:Nat
 name:List UInt8
 inside:List UInt8
 count:Nat
def ZI:Nat→List Entry→List (List UInt8)→Nat ⊕ List Entry
 | _,acc,[]=>.inr acc
 | i, acc, x :: xs => if x = [] then ZI (i + 1) acc xs else match line x with
   | none=>.inl i
   | some (a,b,n)=>ZI (i+1) (acc++[⟨i,a,b,n⟩]) xs
theorem ZjJ{i:Nat}{acc:List Entry}{ps:List (List UInt8)}(hk:i<ps.length)(h:ps.getD i []=[]):ZI i acc (ps.drop i)=ZI (i+1) acc (ps.drop (i+1)):=by
 have e:ps.getD i []=ps[i]:=by simp[hk]
 rw[List.drop_eq_getElem_cons hk,ZI,←e,if_pos h]
theorem ZjH{i:Nat}{acc:List Entry}{ps:List (List UInt8)}(hk:i<ps.length)(h:ps.getD i []≠[])(hl:line (ps.getD i [])=none):ZI i acc (ps.drop i)=.inl i:=by
 have e:ps.getD i []=ps[i]:=by simp[hk]
 rw[List.drop_eq_getElem_cons hk,ZI,←e,if_neg h,hl]
theorem ZjI{i:Nat}{acc:List Entry}{ps:List (List UInt8)}(hk:i<ps.length)(h:ps.getD i []≠[]){a b:List UInt8}{n:Nat}(hl:line (ps.getD i [])=some (a,b,n)) :
  ZI i acc (ps.drop i)=ZI (i+1) (acc++[⟨i,a,b,n⟩]) (ps.drop (i+1)):=by
 have e:ps.getD i []=ps[i]:=by simp[hk]
 rw[List.drop_eq_getElem_cons hk,ZI,←e,if_neg h,hl]
theorem ZjK{i:Nat}{acc:List Entry}{ps:List (List UInt8)}(hk:¬i<ps.length):ZI i acc (ps.drop i)=.inr acc:=by
 rw[List.drop_of_length_le (by omega)];rfl
end Go.Proofs.YtpbemaaghbbocaaGreatDoor.LS
namespace Go.Proofs.YtpbemaaghbbocaaGreatDoor
open Go.RowKit LS
theorem ZdD{c:UInt8}{s:ByteArray}{x y:List UInt8}(m:Int)(w:World)(hs:s.size≤6000)(hm:w.cell? ⟨14,0,none⟩=some (.int .i64 m))(h:cut c (bl s)=some (x,y)) :
  Calls Tryz.prog 91 #[.string s,.string ⟨#[c]⟩] w fun e w'=>∃a b:ByteArray,e=.returned (.tuple #[.string a,.string b,.bool true])∧Hid (bl a=x∧bl b=y)∧∃n,w'=w.drewN n:=by
 refine(Tryz.strings_Cut s ⟨#[c]⟩ m w (by omega) hm).mono ?_
 rintro e w' ⟨rfl,hw⟩
 have e1:Lib.cut s.data.toList (⟨#[c]⟩:ByteArray).data.toList=(x,y,true):=Zpw h
 rw[e1]
 exact⟨_,_,rfl,⟨Zc4 x,Zc4 y⟩,hw⟩
theorem ZeH{c:UInt8}{s:ByteArray}(m:Int)(w:World)(hs:s.size≤6000)(hm:w.cell? ⟨14,0,none⟩=some (.int .i64 m))(h:cut c (bl s)=none) :
  Calls Tryz.prog 91 #[.string s,.string ⟨#[c]⟩] w fun e w'=>∃a b:ByteArray,e=.returned (.tuple #[.string a,.string b,.bool false])∧Hid (bl a=bl s∧bl b=[])∧∃n,w'=w.drewN n:=by
 refine(Tryz.strings_Cut s ⟨#[c]⟩ m w (by omega) hm).mono ?_
 rintro e w' ⟨rfl,hw⟩
 have e1:Lib.cut s.data.toList (⟨#[c]⟩:ByteArray).data.toList=(bl s,[],false):=Zpv h
 rw[e1]
 exact⟨_,_,rfl,⟨Zc4 _,Zc4 _⟩,hw⟩
theorem ZmL(c:UInt8)(s:ByteArray)(w:World) :
  Calls Tryz.prog 182 #[.string s,.string ⟨#[c]⟩] w fun e w'=>∃a:ByteArray,e=.returned (.tuple #[.string a,.bool (ZT c (bl s)).2])∧Hid (bl a=(ZT c (bl s)).1)∧w'=w:=by
 refine(Tryz.strings_CutPrefix s ⟨#[c]⟩ w).mono ?_
 rintro e w' ⟨rfl,hw⟩
 have e1:=Zpx c (bl s)
 rw[←e1]
 exact⟨_,rfl,Zc4 _,hw⟩
def ZeD(w:World)(g:Nat)(ps:List (List UInt8)):Prop:=g<w.heap.size∧∀i,i<ps.length→∃s:ByteArray,w.cell? ⟨g,i,none⟩=some (.string s)∧bl s=ps.getD i []
theorem ZeD.below{w w':World}{g:Nat}{ps:List (List UInt8)}{B:Nat}(h:ZeD w g ps)(hb:Below B w w')(hB:g<B):ZeD w' g ps:=
 ⟨Nat.lt_of_lt_of_le h.1 hb.size, fun i hi => by
   obtain⟨s,h1,h2⟩:=h.2 i hi
   exact⟨s,(hb.cell (p:=⟨g,i,none⟩) hB).trans h1,h2⟩⟩
theorem ZhH(c:UInt8)(s:ByteArray)(m:Int)(w:World)(hs:s.size≤6000)(hm:w.cell? ⟨14,0,none⟩=some (.int .i64 m)) :
  Calls Tryz.prog 42 #[.string s,.string ⟨#[c]⟩] w fun e w'=>
   ∃n,e=.returned (.slice (some ⟨w.heap.size,0,none⟩) n n)∧n=(split c (bl s)).length∧ZeD w' w.heap.size (split c (bl s))∧Below w.heap.size w w':=by
 refine(Tryz.strings_Split s ⟨#[c]⟩ m w (by omega) hm (Nat.le_refl 1)).mono ?_
 rintro e w' ⟨rfl,rfl⟩
 have hd:(Lib.splitB ⟨#[c]⟩ 0 (Lib.countB s ⟨#[c]⟩) s).map bl=split c (bl s):=by
  refine(Lib.splitB_data ⟨#[c]⟩ 0 (Lib.countB s ⟨#[c]⟩) s).trans ?_
  exact Zsq c _ (bl s) (Nat.le_refl _)
 have hl:(Lib.splitB ⟨#[c]⟩ 0 (Lib.countB s ⟨#[c]⟩) s).length=Lib.countB s ⟨#[c]⟩+1:=Lib.splitB_all ⟨#[c]⟩ (Nat.le_refl 1) 0 _ s rfl
 have hl2:(split c (bl s)).length=Lib.countB s ⟨#[c]⟩+1:=by rw[←hd,List.length_map,hl]
 refine⟨_,rfl,hl2.symm,⟨by simp,fun i hi=>?_⟩,Zbal⟩
 have hi2:i<(Lib.splitB ⟨#[c]⟩ 0 (Lib.countB s ⟨#[c]⟩) s).length:=by rw[hl,←hl2];exact hi
 refine⟨(Lib.splitB ⟨#[c]⟩ 0 (Lib.countB s ⟨#[c]⟩) s)[i],?_,?_⟩
 ·rw[World.cell?_alloc_at _ _ _ _ rfl]
  simp[hi2]
 ·rw[←hd];simp[hi2]
theorem Zj4(most:Nat)(l:List UInt8) : -1≤numI most l∧numI most l≤most:=by
 cases h:ZC most l with
 | none=>rw[Zeb h];omega
 | some v=>rw[Zdp h];have:=Zfj h;omega
def ZK:List (Int×Int)→List Value
 | []=>[]
 | x::l=>.int .i64 x.1::.int .i64 x.2::ZK l
theorem ZgV(l m:List (Int×Int)):ZK (l++m)=ZK l++ZK m:=by
 induction l with
 | nil=>rfl
 | cons a l ih=>simp[ZK,ih]
theorem Zfa (l : List (Int × Int)) (j : Nat) : (ZK l)[j * 2]? = l[j]?.map (fun x => .int .i64 x.1) ∧ (ZK l)[j * 2 + 1]? = l[j]?.map (fun x => .int .i64 x.2) := by
  induction l generalizing j with
  | nil=>simp[ZK]
  | cons r l ih=>
    cases j with
    | zero=>simp[ZK]
    | succ j=>
      obtain⟨h1,h2⟩:=ih j
      refine⟨?_,?_⟩
      · rw[show(j+1)*2=j*2+1+1 by omega];simpa [ZK] using h1
      · rw[show(j+1)*2+1=j*2+1+1+1 by omega];simpa [ZK] using h2
def smOk(x:Int×Int):Prop:=-1000000≤x.1∧x.1≤1000000∧-1000000000≤x.2∧x.2≤1000000000
def valI(d:List UInt8):Int:=match ZT 45 d with
 | (d',less)=>if less then -(numI 1000000000 d')else numI 1000000000 d'
def smV(x:List UInt8):Int×Int:=match cut 58 x with
 | none=>(0,0)
 | some (a,d)=>(numI 1000000 a,valI d)
def ZcQ:List UInt8→List (Int×Int)
 | []=>[]
 | _::t=>(split 32 t).map smV
theorem ZhF{x a d d':List UInt8}{less:Bool}{t v:Int}(hc:cut 58 x=some (a,d))(hst:ZT 45 d=(d',less))(ht:numI 1000000 a=t)(hv:numI 1000000000 d'=v):smV x=(t,if less then -v else v):=by
 unfold smV valI;rw[hc];simp only[hst,ht,hv]
theorem Zsh(x:List UInt8):smOk (smV x):=by
 unfold smV
 split
 ·unfold smOk;decide
 ·rename_i a d _
  have h1:=Zj4 1000000 a
  unfold valI
  cases hd:ZT 45 d with
  | mk d' less=>
   have h2:=Zj4 1000000000 d'
   unfold smOk
   cases less
   ·simp only[Bool.false_eq_true,if_false];omega
   ·simp only[if_true];omega
theorem ZfT{l:List (List UInt8)}{k:Nat}(hk:k<l.length){x:List UInt8}(hx:x=l.getD k []){t v:Int}(hs:smV x=(t,v)):ZK ((l.map smV).take (k+1))=ZK ((l.map smV).take k)++[.int .i64 t,.int .i64 v]:=by
 have e:l[k]=x:=by rw[hx,List.getD_eq_getElem?_getD,List.getElem?_eq_getElem hk];rfl
 rw[←List.map_take,←List.map_take,List.take_succ_eq_append_getElem hk,List.map_append,ZgV,List.map_singleton,e,hs]
 rfl
def Zbm(l:List UInt8):List (Int×Int):=match LS.seek 125 l with
 | some b=>ZcQ (l.drop (b+1))
 | none=>[]
theorem Zkx{l x r y z:List UInt8}(hn:Zx x=true)(h1:cut 123 l=some (x,r))(h2:cut 125 r=some (y,z)):Zbm l=ZcQ z:=by
 obtain⟨e1,n1⟩:=ZcI h1
 obtain⟨e2,n2⟩:=ZcI h2
 have hx:(125:UInt8)∉x:=by
  intro hm
  unfold Zx at hn
  rw[Bool.and_eq_true]at hn
  have:=List.all_eq_true.1 hn.1 _ hm
  exact absurd this (by decide)
 have hl:l=(x++123::y)++125::z:=by rw[e1,e2];simp
 have hs:LS.seek 125 l=some (x++123::y).length:=by
  rw[hl]
  refine Zfv 125 _ z ?_
  rw[List.mem_append,List.mem_cons]
  rintro(h|h|h)
  ·exact hx h
  ·exact absurd h (by decide)
  ·exact n2 h
 unfold Zbm
 rw[hs,hl]
 simp only
 congr 1
 rw[show(x++123::y)++125::z=((x++123::y)++[125])++z by simp,List.drop_append_of_le_length (by simp;omega),List.drop_of_length_le (by simp;omega)]
 rfl
theorem Ztf{d:List UInt8}(h:ZC 1000000000 (ZT 45 d).1=none):ZbP d=false:=by unfold ZbP;rw[h]
theorem Ztg{d:List UInt8}{v:Nat}(h:ZC 1000000000 (ZT 45 d).1=some v):ZbP d=!((ZT 45 d).2 && v == 0):=by unfold ZbP;rw[h]
theorem Zla{r:List UInt8}(s:ByteArray)(most:Nat)(mi:Int)(w:World)(hmi:mi=most)(hs:s.size≤6000)(hm9:9≤most)(hm:most≤1000000000)(hr:bl s=r)(hn:ZC most r=none) :
  Calls Tryz.prog 60 #[.string s,.int .i64 mi] w fun e w'=>e=.returned (.tuple #[.int .i64 0,.bool false])∧w'=w:=by
 subst hmi;subst hr
 have:=Zgr s most w hs hm9 hm
 rwa [ZeP hn]at this
theorem Zlb{r:List UInt8}{v:Nat}(s:ByteArray)(most:Nat)(mi:Int)(w:World)(hmi:mi=most)(hs:s.size≤6000)(hm9:9≤most)(hm:most≤1000000000)(hr:bl s=r)(hn:ZC most r=some v) :
  Calls Tryz.prog 60 #[.string s,.int .i64 mi] w fun e w'=>e=.returned (.tuple #[.int .i64 v,.bool true])∧w'=w:=by
 subst hmi;subst hr
 have:=Zgr s most w hs hm9 hm
 rwa [Zho hn]at this
theorem ZfM{c:UInt8}{s:ByteArray}{r:List UInt8}{f:Bool}(w:World)(h:ZT c (bl s)=(r,f)) :
  Calls Tryz.prog 182 #[.string s,.string ⟨#[c]⟩] w fun e w'=>∃a:ByteArray,e=.returned (.tuple #[.string a,.bool f])∧Hid (bl a=r)∧w'=w:=by
 have:=ZmL c s w
 rwa [h]at this
theorem Zs9{d d':List UInt8}{less:Bool}{v:Int}(hst:ZT 45 d=(d',less))(hv:numI 1000000000 d'=v):valI d=if less then -v else v:=by
 unfold valI;rw[hst];simp only[hv]
set_option maxHeartbeats 1000000 in
theorem Zrz(s:ByteArray)(w:World)(hs:s.size≤6000) :
  Calls Tryz.prog 208 #[.string s] w fun e w'=>∃v:Int,e=.returned (.tuple #[.int .i64 v,.bool (ZbP (bl s))])∧w'=w∧Hid (ZbP (bl s)=true→v=valI (bl s)):=by
 have hl:(ZT 45 (bl s)).1.length≤s.size:=by rw[←Zg];exact ZhK 45 (bl s)
 have hVn:=@Ztf (bl s)
 have hVs:=@Ztg (bl s)
 generalize hst:ZT 45 (bl s)=st at *
 obtain⟨r,f⟩:=st
 have Hst:Hid (ZT 45 (bl s)=(r,f)):=hst
 clear hst
 simp only at hl hVn hVs
 cases hn:ZC 1000000000 r with
 | none=>
  have HV:Hid (ZbP (bl s)=false):=hVn hn
  have HN:Hid (ZC 1000000000 r=none):=hn
  clear hn hVn hVs
  cases f <;>
  ·go_enter Tryz.func208,Tryz.ntmps208
   go_wp2_with fail
   refine(ZfM _ Hst.out).mono ?_
   rintro e w' ⟨a,rfl,ha,rfl⟩
   have hsa:a.size≤6000:=by rw[Z5 ha.out];omega
   go_wp2_with fail
   refine(Zla a 1000000000 _ _ rfl hsa (by omega) (by omega) ha.out HN.out).mono ?_
   rintro e w' ⟨rfl,rfl⟩
   go_wp2
   go_ret2
   exact⟨_,by rw[HV.out];rfl,rfl,hid (fun h=>by rw[HV.out]at h;cases h)⟩
 | some v=>
  have hv:=Zfj hn
  have HN:Hid (ZC 1000000000 r=some v):=hn
  have hV:=hVs hn
  clear hn hVn hVs
  have hcase:(f=false∧ZbP (bl s)=true)∨(f=true∧((v:Int) != 0)=true∧ZbP (bl s)=true)∨(f=true∧((v:Int) != 0)=false∧ZbP (bl s)=false):=by
   cases f
   ·exact Or.inl ⟨rfl,by simpa using hV⟩
   ·by_cases hz:v=0
    ·subst hz;exact Or.inr (Or.inr ⟨rfl,rfl,by simpa using hV⟩)
    ·exact Or.inr (Or.inl ⟨rfl,by simp;omega,by rw[hV];simp[hz]⟩)
  clear hV
  rcases hcase with ⟨rfl,hV⟩|⟨rfl,hb,hV⟩|⟨rfl,hb,hV⟩
  all_goals
   have HV:Hid (ZbP (bl s)=_):=hV
   have HVI:=hid (Zs9 Hst.out (Zdp HN.out)).symm
   clear hV
   go_enter Tryz.func208,Tryz.ntmps208
   go_wp2_with fail
   refine(ZfM _ Hst.out).mono ?_
   rintro e w' ⟨a,rfl,ha,rfl⟩
   have hsa:a.size≤6000:=by rw[Z5 ha.out];omega
   go_wp2_with fail
   refine(Zlb a 1000000000 _ _ rfl hsa (by omega) (by omega) ha.out HN.out).mono ?_
   rintro e w' ⟨rfl,rfl⟩
   go_wp2
   go_ret2
   exact⟨_,by rw[HV.out];rfl,rfl,hid (fun h=>by first|(rw[HV.out]at h;cases h;done)|exact HVI.out)⟩
def ZfH(l:List UInt8)(tm v:Int)(ok:Bool):Prop:=(ok=true∧∃t:Nat,ZbX l=some t∧tm=t∧t≤1000000∧smV l=(tm,v))∨(ok=false∧ZbX l=none)
set_option maxHeartbeats 1000000 in
theorem Zrv(s:ByteArray)(m:Int)(w:World)(hs:s.size≤6000)(hm:w.cell? ⟨14,0,none⟩=some (.int .i64 m)) :
  Calls Tryz.prog 183 #[.string s] w fun e w'=>∃(tm v:Int) (ok:Bool),e=.returned (.tuple #[.agg #[.int .i64 tm,.int .i64 v],.bool ok])∧Hid (ZfH (bl s) tm v ok)∧Below w.heap.size w w':=by
 have hm1 : ∀ o, (w.alloc o).cell? ⟨14, 0, none⟩ = some (.int .i64 m) := fun o => by
   rw[World.cell?_alloc_lt _ _ _ (World.block_lt_of_cell? _ _ hm)];exact hm
 cases hc:cut 58 (bl s)with
 | none=>
  have HS:Hid (ZfH (bl s) 0 0 false):=Or.inr ⟨rfl,by unfold ZbX;rw[hc]⟩
  have HC:Hid (cut 58 (bl s)=none):=hc
  clear hc
  go_enter Tryz.func183,Tryz.ntmps183
  go_wp2_with fail
  refine(ZeH m _ hs (hm1 _) HC.out).mono ?_
  rintro e w' ⟨a,b,rfl,hab,n,rfl⟩
  go_wp2
  exact bodyPost_ret (v:=.tuple #[.agg #[.int .i64 0,.int .i64 0],.bool false]) (by simp[results,Tryz.results183,go_sem]) rfl ⟨0,0,false,rfl,HS,(by repeat first|exact Below.refl _ _|assumption|refine Below.alloc ?_ ?_ _|refine Below.setCell ?_ ?_ _|refine Zk ?_ _|refine Below.drew ?_|omega|(simp;omega)|simp)⟩
 | some xy=>
  obtain⟨x,y⟩:=xy
  have hxl:x.length≤s.size∧y.length≤s.size:=by
   rw[←Zg,(ZcI hc).1];simp;omega
  have HC:Hid (cut 58 (bl s)=some (x,y)):=hc
  cases hn:ZC 1000000 x with
  | none=>
   have HS:Hid (ZfH (bl s) 0 0 false):=Or.inr ⟨rfl,by unfold ZbX;rw[hc];simp only[hn]⟩
   have HN:Hid (ZC 1000000 x=none):=hn
   clear hc hn
   go_enter Tryz.func183,Tryz.ntmps183
   go_wp2_with fail
   refine(ZdD m _ hs (hm1 _) HC.out).mono ?_
   rintro e w' ⟨a,b,rfl,hab,n,rfl⟩
   have hsa:a.size≤6000:=by rw[Z5 hab.1];omega
   go_wp2_with fail
   refine(Zla a 1000000 _ _ rfl hsa (by omega) (by omega) hab.1 HN.out).mono ?_
   rintro e w' ⟨rfl,rfl⟩
   go_wp2
   exact bodyPost_ret (v:=.tuple #[.agg #[.int .i64 0,.int .i64 0],.bool false]) (by simp[results,Tryz.results183,go_sem]) rfl ⟨0,0,false,rfl,HS,(by repeat first|exact Below.refl _ _|assumption|refine Below.alloc ?_ ?_ _|refine Below.setCell ?_ ?_ _|refine Zk ?_ _|refine Below.drew ?_|omega|(simp;omega)|simp)⟩
  | some t=>
   have ht:=Zfj hn
   have HS:Hid (∀v:Int,(ZbP y=true→v=valI y)→ZfH (bl s) t v (ZbP y)):=hid (by
    intro v hvv
    cases hv:ZbP y
    ·exact Or.inr ⟨rfl,by unfold ZbX;rw[hc];simp[hn,hv]⟩
    ·exact Or.inl ⟨rfl,t,by unfold ZbX;rw[hc];simp[hn,hv],rfl,ht,by unfold smV;rw[hc];simp only[Zdp hn,hvv hv]⟩)
   have HN:Hid (ZC 1000000 x=some t):=hn
   clear hc hn
   go_enter Tryz.func183,Tryz.ntmps183
   go_wp2_with fail
   refine(ZdD m _ hs (hm1 _) HC.out).mono ?_
   rintro e w' ⟨a,b,rfl,hab,n,rfl⟩
   have hsa:a.size≤6000:=by rw[Z5 hab.1];omega
   have hsb:b.size≤6000:=by rw[Z5 hab.2];omega
   go_wp2_with fail
   refine(Zlb a 1000000 _ _ rfl hsa (by omega) (by omega) hab.1 HN.out).mono ?_
   rintro e w' ⟨rfl,rfl⟩
   go_wp2_with fail
   refine(Zrz b _ hsb).mono ?_
   rintro e w' ⟨v,rfl,rfl,HVV⟩
   rw[hab.2]
   rw[hab.2]at HVV
   go_wp2
   exact bodyPost_ret (v:=.tuple #[.agg #[.int .i64 t,.int .i64 v],.bool (ZbP y)]) (by simp[results,Tryz.results183,go_sem]) rfl ⟨t,v,ZbP y,rfl,hid (HS.out v HVV.out),(by repeat first|exact Below.refl _ _|assumption|refine Below.alloc ?_ ?_ _|refine Below.setCell ?_ ?_ _|refine Zk ?_ _|refine Below.drew ?_|omega|(simp;omega)|simp)⟩
end Go.Proofs.YtpbemaaghbbocaaGreatDoor
