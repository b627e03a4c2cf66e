/- Parts. -/
import Derived.Test.YtcdgkkfipdoeeaaGreatDoorT38
namespace Go.Proofs.YtcdgkkfipdoeeaaGreatDoor
open Go.RowKit LS
def hdS(S:List Sh):Sh:=S.headD (0,[])
def isS(s:List UInt8)(x:Sh):Bool:=(x.1 == 2 || x.1 == 4) && x.2 == s
def opSh(lv:Nat)(x:Sh):Option (Nat×Nat):=LS.opAt lv ⟨x.1,x.2,0⟩
theorem ZcA(s:List UInt8)(t:Tok):isT s t=isS s (sh t):=rfl
theorem Zip(lv:Nat)(t:Tok):LS.opAt lv t=opSh lv (sh t):=rfl
theorem ZhS(ts:List Tok):sh (hd ts)=hdS (ts.map sh):=by cases ts <;> rfl
theorem Z2{ts:List Tok}{x:Sh}{S:List Sh}(h:ts.map sh=x::S):sh (hd ts)=x/\ts.tail.map sh=S/\ts.length=S.length+1:=by
 cases ts with
 | nil=>cases h
 | cons t r=>
  rw[List.map_cons]at h
  injection h with h1 h2
  exact⟨h1,h2,by rw[<-h2,List.length_map];rfl⟩
theorem Zde{ts:List Tok}{s:List UInt8}{x:Sh}{S:List Sh}(h:ts.map sh=x::S)(hx:isS s x=true):Zp s ts=.ok ((),ts.tail):=by
 unfold Zp
 rw[ZcA,(Z2 h).1,if_pos hx]
theorem Zh8{ts:List Tok}{k:Nat}{x:List UInt8}{S:List Sh}(h:ts.map sh=(k,x)::S):ZD k ts=.ok (x,ts.tail):=by
 have h1:=(Z2 h).1
 unfold ZD
 rw[show(hd ts).kind=k from congrArg Prod.fst h1,if_pos rfl,show(hd ts).txt=x from congrArg Prod.snd h1]
theorem Zlo (x : List Sh) : ∀ L : List (List Sh), sepT (x :: L) = x ++ L.flatMap fun y => (4, [44]) :: y
  | []=>by simp[sepT]
  | y :: L => by
    show x++(4,[44])::sepT (y::L)=_
    rw[Zlo y L]
    rfl
theorem Zpu{α:Type}(g:α->List Sh)(hg:∀a,1<=(g a).length):∀l:List α,l.length<=(sepT (l.map g)).length
 | []=>Nat.zero_le _
 | a :: l => by
   rw[List.map_cons,Zlo,List.length_append,List.length_cons]
   have h1:=hg a
   have : ∀ m : List α, m.length <= ((m.map g).flatMap fun y => ((4, [44]) : Sh) :: y).length := by
     intro m
     induction m with
     | nil=>exact Nat.zero_le _
     | cons b m ih=>rw[List.map_cons,List.flatMap_cons,List.length_append,List.length_cons,List.length_cons];omega
   have:=this l
   omega
theorem ZkB{α:Type}(item:List Tok->Out α)(close:List UInt8)(g:α->List Sh)(ok:α->Prop)
  (hi:∀a,ok a->∀ts S,ts.map sh=g a++S->∃r,r.map sh=S/\item ts=.ok (a,r))
  (hc:∀a,ok a->∀S,isS close (hdS (g a++S))=false) (hcm:isS close (4,[44])=false) :
  ∀(l acc:List α) (n:Nat) (ts:List Tok) (S:List Sh),(∀a∈l,ok a)->l.length<n->
   ts.map sh=(if acc.isEmpty then sepT (l.map g)else (l.map g).flatMap fun y=>(4,[44])::y)++(4,close)::S->∃r,r.map sh=S/\ZE item close n acc ts=.ok (acc++l,r)
 | [], acc, n, ts, S, _, hn, h => by
   obtain⟨n,rfl⟩:∃k,n=k+1:=⟨n - 1,by simp at hn;omega⟩
   have h':ts.map sh=(4,close)::S:=by rw[h];cases acc <;> rfl
   obtain⟨h1,h2,_⟩:=Z2 h'
   refine⟨ts.tail,h2,?_⟩
   rw[ZE,ZcA,h1,if_pos (by simp[isS]),List.append_nil]
 | a :: l, acc, n, ts, S, hok, hn, h => by
   obtain⟨n,rfl⟩:∃k,n=k+1:=⟨n - 1,by simp at hn;omega⟩
   have ha:=hok a (List.mem_cons_self ..)
   have hl:∀x∈l,ok x:=fun x hx=>hok x (List.mem_cons_of_mem _ hx)
   have hn':l.length<n:=by simp at hn;omega
   have hne:(acc++[a]).isEmpty=false:=by cases acc <;> rfl
   have fin : ∀ t1 : List Tok, t1.map sh = g a ++ (((l.map g).flatMap fun y => (4, [44]) :: y) ++ (4, close) :: S) -> ∃ r, r.map sh = S /\ (bnd (item t1) fun a r => ZE item close n (acc ++ [a]) r) = .ok (acc ++ a :: l, r) := by
     intro t1 ht1
     obtain⟨r1,e1,e2⟩:=hi a ha t1 _ ht1
     obtain⟨r,e3,e4⟩:=ZkB item close g ok hi hc hcm l (acc++[a]) n r1 S hl hn' (by rw[hne];exact e1)
     refine⟨r,e3,?_⟩
     rw[e2]
     show ZE item close n (acc++[a]) r1=_
     rw[e4,List.append_assoc];rfl
   cases hacc:acc.isEmpty with
   | true=>
     rw[hacc,if_pos rfl,List.map_cons,Zlo,List.append_assoc]at h
     obtain⟨r,e1,e2⟩:=fin ts h
     refine⟨r,e1,?_⟩
     rw[ZE,ZcA,ZhS,h,hc a ha,if_neg Bool.false_ne_true,hacc]
     exact e2
   | false=>
     rw[hacc,if_neg Bool.false_ne_true,List.map_cons,List.flatMap_cons,List.cons_append,List.cons_append,List.append_assoc]at h
     obtain⟨h1,h2,_⟩:=Z2 h
     obtain⟨r,e1,e2⟩:=fin ts.tail h2
     refine⟨r,e1,?_⟩
     rw[ZE,ZcA,h1,hcm,if_neg Bool.false_ne_true,hacc,if_neg Bool.false_ne_true,Zde h (by rfl)]
     exact e2
theorem Zr1(c:Cnd)(_:Zfg c)(ts:List Tok)(S:List Sh)(h:ts.map sh=Zd5 c++S):∃r,r.map sh=S/\ZO ts=.ok (c,r):=by
 obtain⟨n,v,b⟩:=c
 have h':ts.map sh=(2,n)::(4,if b then [33,61] else [61])::(3,v)::S:=h
 obtain⟨_,h2,_⟩:=Z2 h'
 obtain⟨h3,h4,_⟩:=Z2 h2
 obtain⟨_,h6,_⟩:=Z2 h4
 refine⟨ts.tail.tail.tail,h6,?_⟩
 unfold ZO
 rw[Zh8 h']
 show(bnd (Zc9 ts.tail) fun m r=>bnd (ZD 3 r) fun b r=>.ok ((n,b,m),r))=_
 have hs:Zc9 ts.tail=.ok (b,ts.tail.tail):=by
  unfold Zc9
  cases b with
  | true=>rw[ZcA,h3,if_pos (by rfl)]
  | false=>rw[ZcA,h3,if_neg (by decide),Zde h2 (by rfl)];rfl
 rw[hs]
 show(bnd (ZD 3 ts.tail.tail) fun b_1 r=>.ok ((n,b_1,b),r))=_
 rw[Zh8 h4]
 rfl
theorem Zil{x:List UInt8}(h:ZA x=true)(c:UInt8)(hc:Zk c=false):x≠[c]:=by
 rintro rfl
 unfold ZA at h
 rw[Bool.and_eq_true,List.all_cons,hc]at h
 exact absurd h.1 (by decide)
theorem Zps(a:Nd)(h:Zhe a.name a.conds)(ts:List Tok)(S:List Sh)(hts:ts.map sh=ZdT a++S)(hS:isS [123] (hdS S)=false):∃r,r.map sh=S/\selP ts=.ok (⟨1,0,0,a.name,a.conds,[]⟩,r):=by
 obtain⟨g1,g2,g3,g4,g5,g6⟩:=h
 unfold ZdT at hts
 have hts':ts.map sh=(2,a.name)::((if a.conds=[] then [] else (4,[123])::(sepT (a.conds.map Zd5)++[(4,[125])]))++S):=hts
 obtain⟨h1,h2,_⟩:=Z2 hts'
 have hk:(hd ts).kind=2:=congrArg Prod.fst h1
 have hx:(hd ts).txt=a.name:=congrArg Prod.snd h1
 have hnm:Zdw ts=.ok (a.name,ts.tail):=by
  unfold Zdw
  rw[if_neg,Zh8 hts']
  unfold Zfr
  rw[hx,g2,g3,ZcA,ZcA,h1]
  simp[isS,g4,g5]
 unfold selP
 rw[hnm]
 show ∃r,r.map sh=S/\(if isT [123] (hd ts.tail)then bnd (ZE ZO [125] ts.tail.length [] ts.tail.tail) fun cs r=>.ok ((⟨1,0,0,a.name,cs,[]⟩:Nd),r)else .ok ((⟨1,0,0,a.name,[],[]⟩:Nd),ts.tail))=(.ok ((⟨1,0,0,a.name,a.conds,[]⟩:Nd),r):Out Nd)
 by_cases hc:a.conds=[]
 ·rw[if_pos hc,List.nil_append]at h2
  refine⟨ts.tail,h2,?_⟩
  rw[ZcA,ZhS,h2,hS,if_neg Bool.false_ne_true,hc]
 ·rw[if_neg hc,List.cons_append,List.append_assoc]at h2
  obtain⟨h3,h4,h5⟩:=Z2 h2
  have hlen:=Zpu Zd5 (fun _=>by show 1<=3;omega) a.conds
  rw[List.length_append]at h5
  obtain ⟨r, e1, e2⟩ := ZkB ZO [125] Zd5 Zfg Zr1 (fun c hc S => by
    have:c.1≠[125]:=Zil hc.1 125 (by decide)
    simp[Zd5,hdS,isS,this]) (by rfl) a.conds [] ts.tail.length ts.tail.tail S g6 (by omega) (by simpa using h4)
  refine⟨r,e1,?_⟩
  rw[ZcA,h3,if_pos (by rfl),e2]
  rfl
def stops(lv:Nat)(S:List Sh):Prop:=isS [123] (hdS S)=false/\∀k,lv<=k->k<=2->opSh k (hdS S)=none
theorem ZpJ{lv:Nat}{S:List Sh}(h:stops lv S):stops (lv+1) S:=⟨h.1,fun k hk h2=>h.2 k (by omega) h2⟩
theorem ZpH (lv : Nat) : stops lv [(0, [])] := ⟨rfl, fun k _ h => by
  obtain rfl|rfl|rfl:k=0∨k=1∨k=2:=by omega
  all_goals rfl⟩
theorem ZpI (lv : Nat) (S : List Sh) : stops lv ((4, [41]) :: S) := ⟨rfl, fun k _ h => by
  obtain rfl|rfl|rfl:k=0∨k=1∨k=2:=by omega
  all_goals rfl⟩
def DP(t:Tr)(lv:Nat):Prop:=∀n ts rs deep,ts.map sh=toks t (lv+1)++rs->stops lv rs->5*(toks t (lv+1)).length+4<=n+lv->deep+nd t (lv+1)<=20->∃r,r.map sh=rs/\Zj n false lv .nil ts deep=.ok (t,r)
def CP(t:Tr)(lv:Nat):Prop:=∀n ts rs deep,ts.map sh=toks t (lv+1)++rs->stops (lv+1) rs->5*(toks t (lv+1)).length+4<=n+lv->deep+nd t (lv+1)<=20->∃r n',r.map sh=rs/\n<=n'+5*(toks t (lv+1)).length/\1<=n'/\Zj n false lv .nil ts deep=Zj n' true lv t r deep
theorem ZmH{t:Tr}{lv:Nat}(hlv:lv<=2)(h:CP t lv):DP t lv:=by
 intro n ts rs deep h1 h2 h3 h4
 obtain⟨r,n',e1,e2,e3,e4⟩:=h n ts rs deep h1 (ZpJ h2) h3 h4
 refine⟨r,e1,?_⟩
 obtain⟨n',rfl⟩:∃k,n'=k+1:=⟨n' - 1,by omega⟩
 rw[e4,Zj,Zip,ZhS,e1,h2.2 lv (Nat.le_refl _) hlv]
theorem Zru{t:Tr}{lv:Nat}(hlv:lv<=2)(ht:toks t (lv+2)=toks t (lv+1))(hn:nd t (lv+2)=nd t (lv+1))(hp:1<=(toks t (lv+1)).length)(h:DP t (lv+1)):CP t lv:=by
 intro n ts rs deep h1 h2 h3 h4
 obtain⟨n,rfl⟩:∃k,n=k+1:=⟨n - 1,by omega⟩
 obtain ⟨r, e1, e2⟩ := h n ts rs deep (by rw [h1]; exact congrArg (· ++ rs) ht.symm) h2 (by
   show 5*(toks t (lv+2)).length+4<=n+(lv+1)
   rw[ht];omega) (by
   show deep+nd t (lv+2)<=20
   rw[hn];exact h4)
 refine⟨r,n,e1,by omega,by omega,?_⟩
 rw[Zj,if_neg (by omega),e2]
 rfl
theorem Zhk{t:Tr}{m:Nat}(h:m<=ZcX t):toks t m=toks t 0:=by
 cases t with
 | nil=>rfl
 | node x y a l r=>
  show ZbS (decide (ZC a<m)) _=ZbS (decide (ZC a<0)) _
  have h':m<=ZC a:=h
  rw[decide_eq_false (by omega),decide_eq_false (by omega)]
theorem ZlA{t:Tr}{m:Nat}(h:ZcX t<m)(ht:t≠.nil):toks t m=(4,[40])::(toks t 0++[(4,[41])]):=by
 cases t with
 | nil=>exact absurd rfl ht
 | node x y a l r=>
  show ZbS (decide (ZC a<m)) _=(4,[40])::(ZbS (decide (ZC a<0)) _++[(4,[41])])
  have h':ZC a<m:=h
  rw[decide_eq_true h',decide_eq_false (by omega)]
  rfl
theorem ZfM{t:Tr}{m:Nat}(h:m<=ZcX t):nd t m=Zcs t:=by
 unfold nd brk;rw[if_neg (by omega)];omega
theorem ZkG{t:Tr}{m:Nat}(h:ZcX t<m):nd t m=Zcs t+1:=by
 unfold nd brk;rw[if_pos h];omega
theorem Zue{t:Tr}{lv:Nat}(hn:t≠.nil)(h:ZcX t≠lv+1):toks t (lv+2)=toks t (lv+1)/\nd t (lv+2)=nd t (lv+1):=by
 by_cases hl:lv+2<=ZcX t
 ·exact⟨by rw[Zhk hl,Zhk (m:=lv+1) (by omega)],by rw[ZfM hl,ZfM (m:=lv+1) (by omega)]⟩
 ·exact⟨by rw[ZlA (m:=lv+2) (by omega) hn,ZlA (m:=lv+1) (by omega) hn],by rw[ZkG (m:=lv+2) (by omega),ZkG (m:=lv+1) (by omega)]⟩
theorem Zny{rec:Nat->List Tok->Nat->Out Tr}{ts:List Tok}{deep:Nat}{S:List Sh}(h:ts.map sh=(4,[40])::S):Zbd rec ts deep=Z3 rec ts deep:=by
 have h1:=(Z2 h).1
 have hk:(hd ts).kind=4:=congrArg Prod.fst h1
 unfold Zbd
 rw[if_neg (by omega),ZcA,h1,if_neg (by decide),ZcA,h1,if_pos (by rfl)]
theorem Zqj {t : Tr} (h : DP t 0) {n : Nat} {ts : List Tok} {rs : List Sh} {deep : Nat} (h1 : ts.map sh = (4, [40]) :: (toks t 1 ++ (4, [41]) :: rs)) (hf : 5 * (toks t 1).length + 4 <= n) (hd : deep + nd t 1 <= 20) : ∃ r, r.map sh = rs /\ Z3 (fun lv ts d => Zj n false lv .nil ts d) ts deep = .ok (t, r) := by
  obtain⟨_,h2,_⟩:=Z2 h1
  obtain⟨r,e1,e2⟩:=h n ts.tail _ deep h2 (ZpI 0 rs) (by omega) hd
  obtain⟨_,e3,_⟩:=Z2 e1
  refine⟨r.tail,e3,?_⟩
  unfold Z3
  rw[Zde h1 (by rfl)]
  show(bnd (Zj n false 0 .nil ts.tail deep) fun a r=>bnd (Zp [41] r) fun _ r=>.ok (a,r))=_
  rw[e2]
  show(bnd (Zp [41] r) fun _ r=>.ok (t,r))=_
  rw[Zde e1 (by rfl)]
  rfl
theorem ZfE {n : Nat} {ts : List Tok} {deep : Nat} (h1 : Zda (hd ts) = true) (h2 : deep < 20) : Zj (n + 1) false 3 .nil ts deep = Zbd (fun lv ts d => Zj n false lv .nil ts d) ts (deep + 1) := by
  rw[Zj,if_pos rfl,ZbZ,if_pos h1,if_neg (by omega)]
theorem Ze2{ts:List Tok}{x:Sh}{S:List Sh}(h:ts.map sh=x::S)(hx:Zda ⟨x.1,x.2,0⟩=true):Zda (hd ts)=true:=by
 have e:Zda (hd ts)=Zda ⟨(sh (hd ts)).1,(sh (hd ts)).2,0⟩:=rfl
 rw[e,(Z2 h).1];exact hx
theorem ZjL{t:Tr}(hn:t≠.nil)(ht:ZcX t<4)(h1:1<=ZcX t)(h:DP t 0):DP t 3:=by
 intro n ts rs deep hts hs hf hd
 have e1:toks t 4=(4,[40])::(toks t 1++[(4,[41])]):=by rw[ZlA ht hn,Zhk h1]
 have e2:nd t 4=nd t 1+1:=by rw[ZkG ht,ZfM h1]
 have hts':ts.map sh=(4,[40])::(toks t 1++(4,[41])::rs):=by rw[hts,show toks t (3+1)=_ from e1];simp
 have hf':5*(toks t 1).length+14<=n+3:=by
  have:(toks t (3+1)).length=(toks t 1).length+2:=by rw[show toks t (3+1)=_ from e1];simp
  omega
 have hd':deep+(nd t 1+1)<=20:=by rw[<-e2];exact hd
 obtain⟨n,rfl⟩:∃k,n=k+1:=⟨n - 1,by omega⟩
 rw[ZfE (Ze2 hts' (by rfl)) (by omega),Zny hts']
 exact Zqj h hts' (by omega) (by omega)
theorem ZhR{t:Tr}(h:GT t):t≠.nil:=by cases h <;> intro h <;> cases h
theorem Zfs(b:Bool)(S:List Sh)(h:1<=S.length):1<=(ZbS b S).length:=by
 cases b
 ·exact h
 ·simp[ZbS]
theorem ZiV{t:Tr}(h:GT t)(m:Nat):1<=(toks t m).length:=by
 cases h with
 | num n h=>exact Zfs _ _ (by simp[Zcy])
 | sel nm cs h=>exact Zfs _ _ (by simp[Zcy,ZdT])
 | win o n nm cs _ _ _ _=>exact Zfs _ _ (by simp[Zcy])
 | neg l _=>exact Zfs _ _ (by simp[Zcy,nd0])
 | grp g ns l _ _ _=>exact Zfs _ _ (by simp[Zcy])
 | bin o l r _ _ _=>exact Zfs _ _ (by simp[Zcy,nd0];omega)
 | or l r _ _=>exact Zfs _ _ (by simp[Zcy,nd0];omega)
def AllP(t:Tr):Prop:=(∀lv,lv<=3->DP t lv)/\∀lv,lv<=2->CP t lv
theorem Zhv {t : Tr} (d0 : DP t 0) (d1 : DP t 1) (d2 : DP t 2) (d3 : DP t 3) (c0 : CP t 0) (c1 : CP t 1) (c2 : CP t 2) : AllP t := ⟨fun lv hlv => by
    obtain rfl|rfl|rfl|rfl:lv=0∨lv=1∨lv=2∨lv=3:=by omega
    · exact d0
    · exact d1
    · exact d2
    · exact d3,fun lv hlv=>by
    obtain rfl|rfl|rfl:lv=0∨lv=1∨lv=2:=by omega
    · exact c0
    · exact c1
    · exact c2⟩
theorem down{t:Tr}(h:GT t){lv:Nat}(hlv:lv<=2)(ht:ZcX t≠lv+1)(hd:DP t (lv+1)):CP t lv/\DP t lv:=by
 obtain⟨e1,e2⟩:=Zue (ZhR h) ht
 have hc:=Zru hlv e1 e2 (ZiV h _) hd
 exact⟨hc,ZmH hlv hc⟩
theorem Zgg{t:Tr}(h:GT t)(ht:ZcX t=4)(d3:DP t 3):AllP t:=by
 have k2:=down h (lv:=2) (by omega) (by omega) d3
 have k1:=down h (lv:=1) (by omega) (by omega) k2.2
 have k0:=down h (lv:=0) (by omega) (by omega) k1.2
 exact Zhv k0.2 k1.2 k2.2 d3 k0.1 k1.1 k2.1
theorem ZlW{t:Tr}(h:GT t){lv:Nat}(hlv:lv<=2)(ht:ZcX t=lv+1)(hc:CP t lv):AllP t:=by
 have hd:=ZmH hlv hc
 obtain rfl|rfl|rfl:lv=0∨lv=1∨lv=2:=by omega
 ·have d3:=ZjL (ZhR h) (by omega) (by omega) hd
  have k2:=down h (lv:=2) (by omega) (by omega) d3
  have k1:=down h (lv:=1) (by omega) (by omega) k2.2
  exact Zhv hd k1.2 k2.2 d3 hc k1.1 k2.1
 ·have k0:=down h (lv:=0) (by omega) (by omega) hd
  have d3:=ZjL (ZhR h) (by omega) (by omega) k0.2
  have k2:=down h (lv:=2) (by omega) (by omega) d3
  exact Zhv k0.2 hd k2.2 d3 k0.1 hc k2.1
 ·have k1:=down h (lv:=1) (by omega) (by omega) hd
  have k0:=down h (lv:=0) (by omega) (by omega) k1.2
  have d3:=ZjL (ZhR h) (by omega) (by omega) k0.2
  exact Zhv k0.2 k1.2 hd d3 k0.1 k1.1 hc
theorem Zmb{l r:Tr}{p:Nat×Nat}{lv:Nat}{x:Sh}(hlv:lv<=2)(hx:opSh lv x=some p)(hst:∀S,stops (lv+1) (x::S))(htk:toks (.node 0 0 (nd0 p.1 p.2) l r) (lv+1)=toks l (lv+1)++x::toks r (lv+2))(hnd:nd (.node 0 0 (nd0 p.1 p.2) l r) (lv+1)=max (nd l (lv+1)) (nd r (lv+2)))(hl:CP l lv)(hr:DP r (lv+1)):CP (.node 0 0 (nd0 p.1 p.2) l r) lv:=by
 intro n ts rs deep h1 h2 h3 h4
 rw[htk]at h1 h3
 rw[hnd]at h4
 rw[List.append_assoc,List.cons_append]at h1
 rw[List.length_append,List.length_cons]at h3
 obtain⟨r1,n1,e1,e2,e3,e4⟩:=hl n ts _ deep h1 (hst _) (by omega) (by omega)
 obtain⟨f1,f2,_⟩:=Z2 e1
 obtain⟨m,rfl⟩:∃k,n1=k+1:=⟨n1 - 1,by omega⟩
 obtain⟨r2,g1,g2⟩:=hr m r1.tail rs deep f2 h2 (by show 5*(toks r (lv+2)).length+4<=m+(lv+1);omega) (by show deep+nd r (lv+2)<=20;omega)
 refine⟨r2,m,g1,?_,by omega,?_⟩
 ·rw[htk,List.length_append,List.length_cons];omega
 ·rw[e4,Zj,Zip,f1,hx]
  show(bnd (Zj m false (lv+1) .nil r1.tail deep) fun b r=>Zj m true lv (.node 0 0 (nd0 p.1 p.2) l b) r deep)=_
  rw[g2]
  rfl
theorem ZkU:∀o,o<4->opSh (if o<2 then 1 else 2) (opTk o)=some (4,o):=by decide
theorem ZkV(o:Nat)(ho:o<4)(S:List Sh):stops ((if o<2 then 1 else 2)+1) (opTk o::S):=by
 obtain rfl|rfl|rfl|rfl:o=0∨o=1∨o=2∨o=3:=by omega
 all_goals refine⟨rfl,fun k hk h2=>?_⟩
 ·obtain rfl:k=2:=by simp at hk;omega
  rfl
 ·obtain rfl:k=2:=by simp at hk;omega
  rfl
 ·exfalso;simp at hk;omega
 ·exfalso;simp at hk;omega
theorem ZkW (S : List Sh) : stops 1 ((2, wOr) :: S) := ⟨rfl, fun k hk h2 => by
  obtain rfl|rfl:k=1∨k=2:=by omega
  all_goals rfl⟩
theorem Zi2{x:List UInt8}(h1:x≠wOr)(h2:x≠wBy):Zda ⟨2,x,0⟩=true:=by
 simp[Zda,isT,h1,h2]
theorem ZvQ:∀o,o<5->idx (ZV.getD o []) ZG=none/\idx (ZV.getD o []) ZV=some o/\ZV.getD o []≠wOr/\ZV.getD o []≠wBy:=by decide
theorem Znq:∀o,o<4->idx (ZG.getD o []) ZG=some o/\ZG.getD o []≠wOr/\ZG.getD o []≠wBy:=by decide
theorem ZhY{rec:Nat->List Tok->Nat->Out Tr}{ts:List Tok}{deep:Nat}{x:List UInt8}{S:List Sh}(h:ts.map sh=(2,x)::S)(hx:ZA x=true):Zbd rec ts deep=match idx x ZG with
  | some g=>Zb0 rec g ts.tail deep
  | none => match idx x ZV with
    | some o=>winP o ts.tail
    | none=>bnd (selP ts) fun p r=>.ok (Z6 p,r):=by
 have h1:=(Z2 h).1
 have hk:(hd ts).kind=2:=congrArg Prod.fst h1
 have ht:(hd ts).txt=x:=congrArg Prod.snd h1
 have n1:=Zil hx 45 (by decide)
 have n2:=Zil hx 40 (by decide)
 unfold Zbd
 rw[if_neg (by omega),ZcA,h1,if_neg (by simp[isS,n1]),ZcA,h1,if_neg (by simp[isS,n2]),ht]
 rfl
theorem Zk1{t:Tr}(h:GT t):AllP t:=by
 induction h with
 | num v hv=>
  refine Zgg (GT.num v hv) rfl ?_
  intro n ts rs deep hts hs hf hd
  have hts':ts.map sh=(1,decS v)::rs:=hts
  have hd':deep+1<=20:=hd
  obtain⟨n,rfl⟩:∃k,n=k+1:=⟨n - 1,by have:=ZiV (GT.num v hv) (3+1);omega⟩
  obtain⟨h1,h2,_⟩:=Z2 hts'
  have hk:(LS.hd ts).kind=1:=congrArg Prod.fst h1
  have ht:(LS.hd ts).txt=decS v:=congrArg Prod.snd h1
  refine⟨ts.tail,h2,?_⟩
  rw[ZfE (Ze2 hts' (by rfl)) (by omega)]
  unfold Zbd
  rw[if_pos hk,ht]
  have e:numV (decS v)=(v:Int):=by unfold numV;rw[ZkM hv];rfl
  rw[e]
 | sel nm cs hs=>
  refine Zgg (GT.sel nm cs hs) rfl ?_
  intro n ts rs deep hts hst hf hd
  have hts':ts.map sh=ZdT ⟨1,0,0,nm,cs,[]⟩++rs:=hts
  have hd':deep+1<=20:=hd
  obtain⟨n,rfl⟩:∃k,n=k+1:=⟨n - 1,by have:=ZiV (GT.sel nm cs hs) (3+1);omega⟩
  have htc:ts.map sh=(2,nm)::_:=hts'
  rw[ZfE (Ze2 htc (Zi2 hs.2.2.2.1 hs.2.2.2.2.1)) (by omega),ZhY htc hs.1,hs.2.1,hs.2.2.1]
  obtain⟨r,e1,e2⟩:=Zps ⟨1,0,0,nm,cs,[]⟩ hs ts rs hts' hst.1
  refine⟨r,e1,?_⟩
  show(bnd (selP ts) fun p r=>.ok (Z6 p,r))=_
  rw[e2]
  rfl
 | win o v nm cs ho hv1 hv2 hs=>
  refine Zgg (GT.win o v nm cs ho hv1 hv2 hs) rfl ?_
  intro n ts rs deep hts hst hf hd
  have hts':ts.map sh=(2,ZV.getD o [])::(4,[40])::(ZdT ⟨2,o,(v:Int),nm,cs,[]⟩++(4,[91])::(1,decS v)::(4,[93])::(4,[41])::rs):=by
   rw[hts]
   show(2,ZV.getD o [])::(4,[40])::(ZdT ⟨2,o,(v:Int),nm,cs,[]⟩++[(4,[91]),(1,decS v),(4,[93]),(4,[41])])++rs=_
   simp
  have hd':deep+1<=20:=hd
  obtain⟨n,rfl⟩:∃k,n=k+1:=⟨n - 1,by have:=ZiV (GT.win o v nm cs ho hv1 hv2 hs) (3+1);omega⟩
  obtain⟨g1,g2,g3,g4⟩:=ZvQ o ho
  obtain⟨_,h2,_⟩:=Z2 hts'
  obtain⟨_,h3,_⟩:=Z2 h2
  obtain⟨r,e1,e2⟩:=Zps ⟨2,o,(v:Int),nm,cs,[]⟩ hs ts.tail.tail _ h3 (by rfl)
  obtain⟨_,f1,_⟩:=Z2 e1
  obtain⟨f0,f2,_⟩:=Z2 f1
  obtain⟨_,f3,_⟩:=Z2 f2
  obtain⟨_,f4,_⟩:=Z2 f3
  refine⟨r.tail.tail.tail.tail,f4,?_⟩
  rw[ZfE (Ze2 hts' (Zi2 g3 g4)) (by omega),ZhY hts' (ZoP o ho),g1,g2]
  show winP o ts.tail=_
  unfold winP
  rw[Zde h2 (by rfl)]
  show(bnd (selP ts.tail.tail) _)=_
  rw[e2]
  show(bnd (Zp [91] r) _)=_
  rw[Zde e1 (by rfl)]
  show(bnd (ZcV r.tail) _)=_
  have hsz:ZcV r.tail=.ok ((v:Int),r.tail.tail):=by
   have hk:(LS.hd r.tail).kind=1:=congrArg Prod.fst f0
   have ht:(LS.hd r.tail).txt=decS v:=congrArg Prod.snd f0
   unfold ZcV
   rw[hk,ht,ZfO (ZkM hv2),if_pos ⟨rfl,by omega⟩]
  rw[hsz]
  show(bnd (Zp [93] r.tail.tail) _)=_
  rw[Zde f2 (by rfl)]
  show(bnd (Zp [41] r.tail.tail.tail) _)=_
  rw[Zde f3 (by rfl)]
  rfl
 | neg l hl ih=>
  refine Zgg (GT.neg l hl) rfl ?_
  intro n ts rs deep hts hst hf hd
  have hts':ts.map sh=(4,[45])::(toks l 4++rs):=hts
  have hd':deep+(1+nd l 4)<=20:=by
   have:nd (.node 0 0 (nd0 3 0) l .nil) (3+1)=1+nd l 4:=by rw[ZfM (by show 4<=4;omega)];rfl
   rw[this]at hd;exact hd
  have hf':5*((toks l 4).length+1)+4<=n+3:=hf
  obtain⟨n,rfl⟩:∃k,n=k+1:=⟨n - 1,by omega⟩
  obtain⟨h1,h2,_⟩:=Z2 hts'
  have hk:(LS.hd ts).kind=4:=congrArg Prod.fst h1
  obtain⟨r,e1,e2⟩:=ih.1 3 (by omega) n ts.tail rs (deep+1) h2 hst (by show 5*(toks l 4).length+4<=n+3;omega) (by show deep+1+nd l 4<=20;omega)
  refine⟨r,e1,?_⟩
  rw[ZfE (Ze2 hts' (by rfl)) (by omega)]
  unfold Zbd
  rw[if_neg (by omega),ZcA,h1,if_pos (by rfl)]
  show(bnd (Zj n false 3 .nil ts.tail (deep+1)) fun a r=>.ok ((.node 0 0 (nd0 3 0) a .nil:Tr),r))=_
  rw[e2]
  rfl
 | grp g ns l hg hns hl ih=>
  refine Zgg (GT.grp g ns l hg hns hl) rfl ?_
  intro n ts rs deep hts hst hf hd
  have hts' : ts.map sh = (2, ZG.getD g []) :: (2, wBy) :: (4, [40]) :: (sepT (ns.map fun x => [(2, x)]) ++ (4, [41]) :: (4, [40]) :: (toks l 1 ++ (4, [41]) :: rs)) := by
    rw[hts]
    show(2,ZG.getD g [])::(2,wBy)::(4,[40])::(sepT (ns.map fun x=>[(2,x)])++(4,[41])::(4,[40])::(toks l 1++[(4,[41])]))++rs=_
    simp
  have hd':deep+(1+nd l 1)<=20:=by
   have:nd (.node 0 0 ⟨5,g,0,[],[],ns⟩ l .nil) (3+1)=1+nd l 1:=by rw[ZfM (by show 4<=4;omega)];rfl
   rw[this]at hd;exact hd
  have hlen : (toks (Go.Deep.BT.node 0 0 (⟨5, g, 0, [], [], ns⟩ : Nd) l .nil) (3 + 1)).length = (sepT (ns.map fun x => [(2, x)])).length + (toks l 1).length + 6 := by
    show((2,ZG.getD g [])::(2,wBy)::(4,[40])::(sepT (ns.map fun x=>[(2,x)])++(4,[41])::(4,[40])::(toks l 1++[(4,[41])]))).length=_
    simp;omega
  rw[hlen]at hf
  obtain⟨n,rfl⟩:∃k,n=k+1:=⟨n - 1,by omega⟩
  obtain⟨g1,g2,g3⟩:=Znq g hg
  obtain⟨_,h2,_⟩:=Z2 hts'
  obtain⟨_,h3,_⟩:=Z2 h2
  obtain⟨_,h4,_⟩:=Z2 h3
  have hnl:=Zpu (fun x:List UInt8=>[((2,x):Sh)]) (fun _=>Nat.le_refl 1) ns
  have hl4:=congrArg List.length h4
  rw[List.length_map,List.length_append]at hl4
  obtain ⟨r, e1, e2⟩ := ZkB (ZD 2) [41] (fun x : List UInt8 => [((2, x) : Sh)]) (fun x => ZA x = true) (fun a _ ts S h => ⟨ts.tail, (Z2 h).2.1, Zh8 h⟩) (fun a ha S => by
    have:=Zil ha 41 (by decide)
    simp[hdS,isS,this]) (by rfl) ns [] (ts.tail.tail.tail.length+1) ts.tail.tail.tail _ hns (by omega) (by simpa using h4)
  obtain⟨r2,f1,f2⟩:=Zqj (ih.1 0 (by omega)) (n:=n) (ts:=r) (rs:=rs) (deep:=deep+1) e1 (by omega) (by omega)
  refine⟨r2,f1,?_⟩
  rw[ZfE (Ze2 hts' (Zi2 g2 g3)) (by omega),ZhY hts' (ZhP g hg),g1]
  show Zb0 _ g ts.tail (deep+1)=_
  unfold Zb0
  rw[Zde h2 (by rfl)]
  show(bnd (Zp [40] ts.tail.tail) _)=_
  rw[Zde h3 (by rfl)]
  show(bnd (ZE (ZD 2) [41] (ts.tail.tail.tail.length+1) [] ts.tail.tail.tail) _)=_
  rw[e2]
  show(bnd (Z3 _ r (deep+1)) _)=_
  rw[f2]
  rfl
 | bin o l r ho hl hr ihl ihr=>
  have htn:ZcX (.node 0 0 (nd0 4 o) l r)=(if o<2 then 1 else 2)+1:=by
   show(if o<2 then 2 else 3)=_
   split <;> rfl
  have hle:(if o<2 then 1 else 2)<=2:=by split <;> omega
  have hT:ZC (nd0 4 o)=(if o<2 then 1 else 2)+1:=htn
  refine ZlW (GT.bin o l r ho hl hr) hle htn (Zmb (p:=(4,o)) hle (ZkU o ho) (ZkV o ho) ?_ ?_ (ihl.2 _ hle) (ihr.1 _ (by omega)))
  ·rw[Zhk (t:=.node 0 0 (nd0 (4,o).1 (4,o).2) l r) (Nat.le_of_eq htn.symm)]
   show toks l (ZC (nd0 4 o))++opTk o::toks r (ZC (nd0 4 o)+1)=_
   rw[hT]
  ·exact(ZkJ (p:=(4,o)) hT (Or.inr ⟨rfl,ho⟩) hl hr).2
 | or l r hl hr ihl ihr=>
  refine ZlW (GT.or l r hl hr) (lv:=0) (by omega) rfl (Zmb (p:=(6,0)) (x:=(2,wOr)) (by omega) (by rfl) ZkW ?_ ?_ (ihl.2 0 (by omega)) (ihr.1 1 (by omega)))
  ·rfl
  ·exact(ZkJ (p:=(6,0)) rfl (Or.inl rfl) hl hr).2
theorem Zw2{q:List UInt8}{t:Tr}(h:ZB q=.ok t):ZB (Zm t 1)=if 300<(Zm t 1).length then .error (1,0)else .ok t:=by
 unfold ZB at h
 split at h
 ·cases h
 split at h
 ·cases h
 rename_i t' r hp
 split at h
 ·split at h
  ·cases h
  ·rename_i hkt
   injection h with h
   subst h
   obtain⟨g1,g2,_⟩:=Zfp _ false 0 .nil _ 0 _ (by omega) (Zks q _ _) (fun _=>by omega) (fun h=>by cases h) hp
   simp only at g1 g2
   unfold ZB
   split
   ·rfl
   ·have hl:=Zuw g1 1
    have hlen:=congrArg List.length hl
    rw[List.length_map,List.length_append,List.length_singleton]at hlen
    obtain⟨r',e1,e2⟩:=(Zk1 g1).1 0 (by omega) (10*(ZH (Zm t' 1) ((Zm t' 1).length+1) 0).length+5) _ _ 0 hl (ZpH 0) (by show 5*(toks t' 1).length+4<=_;omega) g2
    rw[e2]
    have hk:(hd r').kind=0:=congrArg Prod.fst (Z2 e1).1
    simp only
    rw[if_pos hk,if_neg hkt]
 ·cases h
section
variable {α β:Type}
def Zb4(x y:Out α):Prop:=∀z,x=.ok z->y=.ok z∨∃p,y=.error (3,p)
theorem Zb4.refl(x:Out α):Zb4 x x:=fun _ h=>Or.inl h
theorem Zb4.bnd{x y:Out α}{f g:α->List Tok->Out β}(h:Zb4 x y)(hf:∀a r,Zb4 (f a r) (g a r)):Zb4 (LS.bnd x f) (LS.bnd y g):=by
 intro z hz
 obtain⟨a,r,h1,h2⟩:=Zl hz
 rcases h _ h1 with e|⟨p,e⟩
 ·rw[e];exact hf a r z h2
 ·rw[e];exact Or.inr ⟨p,rfl⟩
theorem Zty{rec:Nat->List Tok->Nat->Out Tr}(hr:∀lv ts d d',Zb4 (rec lv ts d) (rec lv ts d'))(ts:List Tok)(d d':Nat):Zb4 (Zbd rec ts d) (Zbd rec ts d'):=by
 have hw:∀ts,Zb4 (Z3 rec ts d) (Z3 rec ts d'):=fun ts=>(Zb4.refl _).bnd fun _ r=>(hr 0 r d d').bnd fun _ _=>Zb4.refl _
 unfold Zbd
 split
 ·exact Zb4.refl _
 ·split
  ·exact(hr 3 _ d d').bnd fun _ _=>Zb4.refl _
  ·split
   ·exact hw ts
   ·split
    ·exact(Zb4.refl _).bnd fun _ _=>(Zb4.refl _).bnd fun _ _=>(Zb4.refl _).bnd fun _ r=>(hw r).bnd fun _ _=>Zb4.refl _
    ·split <;> exact Zb4.refl _
theorem ZfT:∀(n:Nat) (m:Bool) (lv:Nat) (a:Tr) (ts:List Tok) (d d':Nat),Zb4 (Zj n m lv a ts d) (Zj n m lv a ts d')
 | 0,_,_,_,_,_,_=>fun _ h=>by cases h
 | n + 1, false, lv, a, ts, d, d' => by
   rw[Zj,Zj]
   split
   · unfold ZbZ
     split
     · intro z hz
       split at hz
       · cases hz
       · split
         · exact Or.inr ⟨_,rfl⟩
         · exact Zty (fun lv ts d d'=>ZfT n false lv .nil ts d d') ts _ _ z hz
     · exact Zb4.refl _
   · exact(ZfT n false (lv+1) .nil ts d d').bnd fun a r=>ZfT n true lv a r d d'
 | n + 1, true, lv, a, ts, d, d' => by
   rw[Zj,Zj]
   split
   · exact Zb4.refl _
   · exact(ZfT n false (lv+1) .nil ts.tail d d').bnd fun b r=>ZfT n true lv _ r d d'
end
section
variable {x y:List Sh} {t l r:Tr} {lv:Nat}
def Rd(x:List Sh)(t:Tr)(lv:Nat):Prop:=∀n ts rs deep,ts.map sh=x++rs->stops lv rs->5*x.length+4<=n+lv->(∃r,r.map sh=rs/\Zj n false lv .nil ts deep=.ok (t,r))∨∃p,Zj n false lv .nil ts deep=.error (3,p)
def Rc(x:List Sh)(t:Tr)(lv:Nat):Prop:=∀n ts rs deep,ts.map sh=x++rs->stops (lv+1) rs->5*x.length+4<=n+lv->(∃r n',r.map sh=rs/\n<=n'+5*x.length/\1<=n'/\Zj n false lv .nil ts deep=Zj n' true lv t r deep)∨∃p,Zj n false lv .nil ts deep=.error (3,p)
theorem Zo6(h:DP t lv)(hn:nd t (lv+1)<=20):Rd (toks t (lv+1)) t lv:=by
 intro n ts rs deep h1 h2 h3
 obtain⟨r,e1,e2⟩:=h n ts rs 0 h1 h2 h3 (by omega)
 rcases ZfT n false lv .nil ts 0 deep _ e2 with e|e
 ·exact Or.inl ⟨r,e1,e⟩
 ·exact Or.inr e
theorem Ze0(hlv:lv<=2)(h:Rc x t lv):Rd x t lv:=by
 intro n ts rs deep h1 h2 h3
 rcases h n ts rs deep h1 (ZpJ h2) h3 with ⟨r,n',e1,e2,e3,e4⟩|e
 ·refine Or.inl ⟨r,e1,?_⟩
  obtain⟨n',rfl⟩:∃k,n'=k+1:=⟨n' - 1,by omega⟩
  rw[e4,Zj,Zip,ZhS,e1,h2.2 lv (Nat.le_refl _) hlv]
 ·exact Or.inr e
theorem ZfX(hlv:lv<=2)(hp:1<=x.length)(h:Rd x t (lv+1)):Rc x t lv:=by
 intro n ts rs deep h1 h2 h3
 obtain⟨n,rfl⟩:∃k,n=k+1:=⟨n - 1,by omega⟩
 have e:Zj (n+1) false lv .nil ts deep=bnd (Zj n false (lv+1) .nil ts deep) fun a r=>Zj n true lv a r deep:=by rw[Zj,if_neg (by omega)]
 rcases h n ts rs deep h1 h2 (by omega)with ⟨r,e1,e2⟩|⟨p,e1⟩
 ·refine Or.inl ⟨r,n,e1,by omega,by omega,?_⟩
  rw[e,e2];rfl
 ·exact Or.inr ⟨p,by rw[e,e1];rfl⟩
theorem ZdQ(hlv:lv<=2)(hp:1<=x.length)(h:Rd x t (lv+1)):Rd x t lv:=Ze0 hlv (ZfX hlv hp h)
theorem ZiA{p:Nat×Nat}{s:Sh}(hlv:lv<=2)(hx:opSh lv s=some p)(hst:∀S,stops (lv+1) (s::S))(hl:Rc x l lv)(hr:Rd y r (lv+1)):Rc (x++s::y) (.node 0 0 (nd0 p.1 p.2) l r) lv:=by
 intro n ts rs deep h1 h2 h3
 rw[List.append_assoc,List.cons_append]at h1
 rw[List.length_append,List.length_cons]at h3 ⊢
 rcases hl n ts _ deep h1 (hst _) (by omega)with ⟨r1,n1,e1,e2,e3,e4⟩|e
 ·obtain⟨f1,f2,_⟩:=Z2 e1
  obtain⟨m,rfl⟩:∃k,n1=k+1:=⟨n1 - 1,by omega⟩
  have e5:Zj n false lv .nil ts deep=bnd (Zj m false (lv+1) .nil r1.tail deep) fun b r=>Zj m true lv (.node 0 0 (nd0 p.1 p.2) l b) r deep:=by rw[e4,Zj,Zip,f1,hx]
  rcases hr m r1.tail rs deep f2 h2 (by omega)with ⟨r2,g1,g2⟩|⟨q,g⟩
  ·refine Or.inl ⟨r2,m,g1,by omega,by omega,?_⟩
   rw[e5,g2];rfl
  ·exact Or.inr ⟨q,by rw[e5,g];rfl⟩
 ·exact Or.inr e
theorem Zqi (h : Rd x t 0) {n : Nat} {ts : List Tok} {rs : List Sh} {deep : Nat} (h1 : ts.map sh = (4, [40]) :: (x ++ (4, [41]) :: rs)) (hf : 5 * x.length + 4 <= n) : (∃ r, r.map sh = rs /\ Z3 (fun lv ts d => Zj n false lv .nil ts d) ts deep = .ok (t, r)) ∨ ∃ p, Z3 (fun lv ts d => Zj n false lv .nil ts d) ts deep = .error (3, p) := by
  obtain⟨_,h2,_⟩:=Z2 h1
  have e : Z3 (fun lv ts d => Zj n false lv .nil ts d) ts deep = bnd (Zj n false 0 .nil ts.tail deep) fun a r => bnd (Zp [41] r) fun _ r => .ok (a, r) := by
    unfold Z3
    rw[Zde h1 (by rfl)]
    rfl
  rcases h n ts.tail _ deep h2 (ZpI 0 rs) (by omega)with ⟨r,e1,e2⟩|⟨p,e1⟩
  · obtain⟨_,e3,_⟩:=Z2 e1
    refine Or.inl ⟨r.tail,e3,?_⟩
    rw[e,e2]
    show(bnd (Zp [41] r) fun _ r=>.ok (t,r))=_
    rw[Zde e1 (by rfl)]
    rfl
  · exact Or.inr ⟨p,by rw[e,e1];rfl⟩
theorem Zm2 {n : Nat} {ts : List Tok} {deep : Nat} (h1 : Zda (hd ts) = true) : (∃ p, Zj (n + 1) false 3 .nil ts deep = .error (3, p)) ∨ Zj (n + 1) false 3 .nil ts deep = Zbd (fun lv ts d => Zj n false lv .nil ts d) ts (deep + 1) := by
  rw[Zj,if_pos rfl,ZbZ,if_pos h1]
  split
  · exact Or.inl ⟨_,rfl⟩
  · exact Or.inr rfl
theorem ZwL(h:Rd x t 0):Rd (ZbS true x) t 3:=by
 intro n ts rs deep h1 h2 h3
 have hts:ts.map sh=(4,[40])::(x++(4,[41])::rs):=by rw[h1];simp[ZbS]
 have hl:(ZbS true x).length=x.length+2:=by simp[ZbS]
 obtain⟨n,rfl⟩:∃k,n=k+1:=⟨n - 1,by omega⟩
 rcases Zm2 (n:=n) (deep:=deep) (Ze2 hts (by rfl))with e|e
 ·exact Or.inr e
 ·rw[e,Zny hts]
  exact Zqi h hts (by omega)
def ZeD(x:List Sh):List Sh:=(2,ZG.getD 0 [])::(2,wBy)::(4,[40])::(4,[41])::ZbS true x
theorem ZwM(h:Rd x t 0):Rd (ZeD x) (.node 0 0 ⟨5,0,0,[],[],[]⟩ t .nil) 3:=by
 intro n ts rs deep h1 h2 h3
 have hts:ts.map sh=(2,ZG.getD 0 [])::(2,wBy)::(4,[40])::(4,[41])::(4,[40])::(x++(4,[41])::rs):=by rw[h1];simp[ZeD,ZbS]
 have hl:(ZeD x).length=x.length+6:=by simp[ZeD,ZbS]
 obtain⟨n,rfl⟩:∃k,n=k+1:=⟨n - 1,by omega⟩
 obtain⟨g1,g2,g3⟩:=Znq 0 (by decide)
 rcases Zm2 (n:=n) (deep:=deep) (Ze2 hts (Zi2 g2 g3))with e|e
 ·exact Or.inr e
 ·rw[e,ZhY hts (ZhP 0 (by decide)),g1]
  obtain⟨_,h4,_⟩:=Z2 hts
  obtain⟨_,h5,_⟩:=Z2 h4
  obtain⟨_,h6,_⟩:=Z2 h5
  obtain⟨q1,h7,_⟩:=Z2 h6
  have e2 : Zb0 (fun lv ts d => Zj n false lv .nil ts d) 0 ts.tail (deep + 1) = bnd (Z3 (fun lv ts d => Zj n false lv .nil ts d) ts.tail.tail.tail.tail (deep + 1)) fun a r => .ok (.node 0 0 ⟨5, 0, 0, [], [], []⟩ a .nil, r) := by
    unfold Zb0
    rw[Zde h4 (by rfl)]
    show(bnd (Zp [40] ts.tail.tail) _)=_
    rw[Zde h5 (by rfl)]
    show(bnd (ZE (ZD 2) [41] (ts.tail.tail.tail.length+1) [] ts.tail.tail.tail) _)=_
    rw[ZE,ZcA,q1,if_pos (by rfl)]
    rfl
  simp only
  rw[e2]
  rcases Zqi h (n:=n) (deep:=deep+1) h7 (by omega)with ⟨r,f1,f2⟩|⟨p,f⟩
  ·exact Or.inl ⟨r,f1,by rw[f2];rfl⟩
  ·exact Or.inr ⟨p,by rw[f];rfl⟩
def Rt(s:List UInt8)(t:Tr):Prop:=ZB s=.error (1,0)∨(∃p,ZB s=.error (3,p))∨ZB s=if Zf t=0 then .error (4,0)else .ok t
theorem ZfY{s:List UInt8}(hx:LxP s x)(h:Rd x t 0):Rt s t:=by
 unfold Rt ZB
 split
 ·exact Or.inl rfl
 ·have hl:=Zoj (by have:=hx [] _ ZpG Lx.nil;rw[List.append_nil]at this;exact this) s 0 (s.length+1) rfl (Nat.zero_le _) (Nat.le_refl _)
  have hlen:=congrArg List.length hl
  rw[List.length_map,List.length_append,List.length_singleton]at hlen
  rcases h (10*(ZH s (s.length+1) 0).length+5) _ _ 0 hl (ZpH 0) (by omega)with ⟨r',e1,e2⟩|⟨p,e⟩
  ·rw[e2]
   have hk:(hd r').kind=0:=congrArg Prod.fst (Z2 e1).1
   simp only
   rw[if_pos hk]
   exact Or.inr (Or.inr rfl)
  ·rw[e];exact Or.inr (Or.inl ⟨p,rfl⟩)
theorem Zg4 {a b : List UInt8} {c : UInt8} (hc : c ∈ Zcj) (ha : LxP a x) (hb : LxP b y) : LxP (a ++ 32 :: c :: 32 :: b) (x ++ (4, [c]) :: y) := fun r T hs hr => by
  have e1:a++32::c::32::b++r=a++32::c::32::(b++r):=by simp
  have e2:x++(4,[c])::y++T=x++(4,[c])::(y++T):=by simp
  rw[e1,e2]
  exact ha _ _ (Zb1 _ (by decide) (by decide)) (Lx.skip (Lx.sign hc (Lx.skip (hb _ _ hs hr))))
theorem Zon {a b : List UInt8} (ha : LxP a x) (hb : LxP b y) : LxP (a ++ 32 :: 111 :: 114 :: 32 :: b) (x ++ (2, wOr) :: y) := fun r T hs hr => by
  have e1:a++32::111::114::32::b++r=a++32::(wOr++32::(b++r)):=by simp[wOr]
  have e2:x++(2,wOr)::y++T=x++(2,wOr)::(y++T):=by simp
  rw[e1,e2]
  exact ha _ _ (Zb1 _ (by decide) (by decide)) (Lx.skip (Zdk (by decide) (Zb1 _ (by decide) (by decide)) (Lx.skip (hb _ _ hs hr))))
theorem ZfK{a:List UInt8}(h:ZA a=true):LxP a [(2,a)]:=fun _ _ hs hr=>Zdk h hs hr
def sumB(s:List UInt8):List UInt8:=[115,117,109,32,98,121,32,40,41,32,40]++s++[41]
theorem ZuW {s : List UInt8} (h : LxP s x) : LxP (sumB s) (ZeD x) := fun r T hs hr => by
  have e1:sumB s++r=ZG.getD 0 []++32::(wBy++32::40::41::32::40::(s++41::r)):=by simp[sumB,ZG,wBy]
  have e2:ZeD x++T=(2,ZG.getD 0 [])::(2,wBy)::(4,[40])::(4,[41])::(4,[40])::(x++(4,[41])::T):=by simp[ZeD,ZbS]
  rw[e1,e2]
  exact Zdk (ZhP 0 (by decide)) (Zb1 _ (by decide) (by decide)) (Lx.skip (Zdk (by decide) (Zb1 _ (by decide) (by decide)) (Lx.skip (Lx.sign (by decide) (Lx.sign (by decide) (Lx.skip (Lx.sign (by decide) (h _ _ (Zb1 _ (by decide) (by decide)) (Lx.sign (by decide) hr)))))))))
def selX(c:UInt8):Tr:=Z6 ⟨1,0,0,[c],[],[]⟩
theorem ZfG:GT (selX 120)/\GT (selX 121):=by
 refine⟨GT.sel [120] [] ⟨by decide,by decide,by decide,by decide,by decide,fun _ h=>by cases h⟩,GT.sel [121] [] ⟨by decide,by decide,by decide,by decide,by decide,fun _ h=>by cases h⟩⟩
theorem ZiB{c:UInt8}(h:GT (selX c))(lv:Nat)(hlv:lv<=3):Rd [(2,[c])] (selX c) lv:=by
 have e:toks (selX c) (lv+1)=[(2,[c])]:=by rw[Zhk (by show lv+1<=4;omega)];rfl
 rw[<-e]
 exact Zo6 ((Zk1 h).1 lv hlv) (by rw[ZfM (by show lv+1<=4;omega)];show 1<=20;omega)
structure Prd (t:Tr):Prop where
 gt:GT t
 nd:nd t 1<=20
theorem Zo3{q:List UInt8}{t:Tr}(h:ZB q=.ok t):Prd t/\Zf t≠0:=by
 unfold ZB at h
 split at h
 ·cases h
 split at h
 ·cases h
 rename_i t' r hp
 split at h
 ·split at h
  ·cases h
  ·rename_i hkt
   injection h with h
   subst h
   obtain⟨g1,g2,_⟩:=Zfp _ false 0 .nil _ 0 _ (by omega) (Zks q _ _) (fun _=>by omega) (fun h=>by cases h) hp
   simp only at g1 g2
   exact⟨⟨g1,by have:0+nd t' 1<=20:=g2;omega⟩,hkt⟩
 ·cases h
theorem Prd.rd(h:Prd t):Rd (ZbS true (toks t 1)) t 3:=ZwL (Zo6 ((Zk1 h.gt).1 0 (by omega)) h.nd)
theorem Prd.len(_:Prd t):1<=(ZbS true (toks t 1)).length:=by simp[ZbS]
theorem Prd.rd2(h:Prd t):Rd (ZbS true (toks t 1)) t 2:=ZdQ (by omega) h.len h.rd
theorem Prd.rd1(h:Prd t):Rd (ZbS true (toks t 1)) t 1:=ZdQ (by omega) h.len h.rd2
theorem Prd.lx(h:Prd t):LxP (Zdn true (Zm t 1)) (ZbS true (toks t 1)):=ZeV (Zol h.gt 1)
def brT(t:Tr):List UInt8:=Zdn true (Zm t 1)
def binT(o:Nat)(l r:Tr):Tr:=.node 0 0 (nd0 4 o) l r
def orT(l r:Tr):Tr:=.node 0 0 (nd0 6 0) l r
def sumT(l:Tr):Tr:=.node 0 0 ⟨5,0,0,[],[],[]⟩ l .nil
variable {c:UInt8}
theorem Zlh(h:GT (selX c))(lv:Nat)(hlv:lv<=2):Rc [(2,[c])] (selX c) lv:=ZfX hlv (by simp) (ZiB h (lv+1) (by omega))
theorem Zw1(h:Prd t):Rt (brT t++32::111::114::32::[120]) (orT t (selX 120)):=
 ZfY (Zon h.lx (ZfK (by decide))) (Ze0 (by omega) (ZiA (p:=(6,0)) (by omega) (by rfl) ZkW (ZfX (by omega) h.len h.rd1) (ZiB ZfG.1 1 (by omega))))
theorem bin1{o:Nat}(ho:o<2)(hl:Rc x l 1)(hr:Rd y r 2):Rc (x++opTk o::y) (binT o l r) 1:=by
 have h1:=ZkU o (by omega)
 have h2:=ZkV o (by omega)
 rw[if_pos ho]at h1 h2
 exact ZiA (p:=(4,o)) (by omega) h1 h2 hl hr
theorem bin2{o:Nat}(ho:o<4)(h2o:2<=o)(hl:Rc x l 2)(hr:Rd y r 3):Rc (x++opTk o::y) (binT o l r) 2:=by
 have h1:=ZkU o (by omega)
 have h2:=ZkV o (by omega)
 rw[if_neg (by omega)]at h1 h2
 exact ZiA (p:=(4,o)) (by omega) h1 h2 hl hr
theorem Zfw(s:Sh):1<=(x++s::y).length:=by simp;omega
theorem Zw6(h:Prd t):Rt ([120]++32::43::32::brT t) (binT 0 (selX 120) t):=
 ZfY (Zg4 (by decide) (ZfK (by decide)) h.lx) (ZdQ (by omega) (Zfw _) (Ze0 (by omega) (bin1 (o:=0) (by omega) (Zlh ZfG.1 1 (by omega)) h.rd2)))
theorem Zw0(h:Prd t):Rt (brT t++32::42::32::[120]) (binT 2 t (selX 120)):=
 ZfY (Zg4 (by decide) h.lx (ZfK (by decide))) (ZdQ (by omega) (Zfw _) (ZdQ (by omega) (Zfw _) (Ze0 (by omega) (bin2 (o:=2) (by omega) (by omega) (ZfX (by omega) h.len h.rd) (ZiB ZfG.1 3 (by omega))))))
theorem Zw4(h:Prd t):Rt (sumB ([120]++32::45::32::brT t)) (sumT (binT 1 (selX 120) t)):=
 ZfY (ZuW (Zg4 (by decide) (ZfK (by decide)) h.lx)) (by
   have h0:=ZwM (ZdQ (lv:=0) (by omega) (Zfw _) (Ze0 (by omega) (bin1 (o:=1) (by omega) (Zlh ZfG.1 1 (by omega)) h.rd2)))
   have hl:∀x:List Sh,1<=(ZeD x).length:=fun x=>by simp[ZeD]
   exact ZdQ (by omega) (hl _) (ZdQ (by omega) (hl _) (ZdQ (by omega) (hl _) h0)))
theorem ZwY(h:Prd t):Rt ([120]++32::111::114::32::(brT t++32::47::32::[121])) (orT (selX 120) (binT 3 t (selX 121))):=
 ZfY (Zon (ZfK (by decide)) (Zg4 (by decide) h.lx (ZfK (by decide)))) (Ze0 (by omega) (ZiA (p:=(6,0)) (by omega) (by rfl) ZkW (Zlh ZfG.1 0 (by omega)) (ZdQ (by omega) (Zfw _) (Ze0 (by omega) (bin2 (o:=3) (by omega) (by omega) (ZfX (by omega) h.len h.rd) (ZiB ZfG.2 3 (by omega)))))))
theorem Zw5(h:Prd t):Rt (brT t++32::43::32::brT t) (binT 0 t t):=
 ZfY (Zg4 (by decide) h.lx h.lx) (ZdQ (by omega) (Zfw _) (Ze0 (by omega) (bin1 (o:=0) (by omega) (ZfX (by omega) h.len h.rd2) h.rd2)))
end
end Go.Proofs.YtcdgkkfipdoeeaaGreatDoor
