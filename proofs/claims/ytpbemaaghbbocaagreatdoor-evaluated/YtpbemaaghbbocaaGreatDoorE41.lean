/- Parts. -/
import Derived.Test.YtpbemaaghbbocaaGreatDoorE22
import Derived.Maps.OwnSet
import Derived.Test.YtpbemaaghbbocaaGreatDoorE40
import Derived.Test.YtpbemaaghbbocaaGreatDoorE23
namespace Go.Proofs.YtpbemaaghbbocaaGreatDoor
open Go.RowKit Go.Maps Go.WideMaps LS
def Zci(l:List UInt8):List UInt8:=match cut 125 l with|some p=>p.1|none=>l
def Zbl:Nat→List (List UInt8)→List (List UInt8)→Option Nat
 | _,_,[]=>none
 | i,seen,x::xs=>if x=[] then Zbl (i+1) seen xs else if seen.contains (Zci x)then some i else Zbl (i+1) (seen++[Zci x]) xs
theorem ZsU{i:Nat}{seen ps:List (List UInt8)}(hk:i<ps.length)(h:ps.getD i []=[]):Zbl i seen (ps.drop i)=Zbl (i+1) seen (ps.drop (i+1)):=by
 have e:ps.getD i []=ps[i]:=by simp[hk]
 rw[List.drop_eq_getElem_cons hk,Zbl,←e,if_pos h]
theorem ZsW{i:Nat}{seen ps:List (List UInt8)}(hk:i<ps.length)(h:ps.getD i []≠[])(hs:seen.contains (Zci (ps.getD i []))=true):Zbl i seen (ps.drop i)=some i:=by
 have e:ps.getD i []=ps[i]:=by simp[hk]
 rw[List.drop_eq_getElem_cons hk,Zbl,←e,if_neg h,if_pos hs]
theorem ZsX{i:Nat}{seen ps:List (List UInt8)}(hk:i<ps.length)(h:ps.getD i []≠[])(hs:seen.contains (Zci (ps.getD i []))=false):Zbl i seen (ps.drop i)=Zbl (i+1) (seen++[Zci (ps.getD i [])]) (ps.drop (i+1)):=by
 have e:ps.getD i []=ps[i]:=by simp[hk]
 rw[List.drop_eq_getElem_cons hk,Zbl,←e,if_neg h,if_neg (by rw[hs];exact Bool.false_ne_true)]
theorem ZsV{i:Nat}{seen ps:List (List UInt8)}(hk:¬i<ps.length):Zbl i seen (ps.drop i)=none:=by
 rw[List.drop_of_length_le (by omega)];rfl
theorem law9:Keyed Tryz.prog 9:=string_keyed Tryz.underlying9
theorem ZlA(w:World):(zeroValue 205).run Tryz.prog w=.ok (.agg #[]) w:=by kernel_rfl
def Sd(seen:List (List UInt8)):DataW Unit:=setOf (.agg []) (seen.map Lit.string)
theorem ZlC(seen:List (List UInt8))(x:List UInt8):Sd (seen++[x])=(Sd seen).put (.string x) (.agg []):=by
 unfold Sd;rw[List.map_append,List.map_cons,List.map_nil,setOf_snoc]
theorem ZoP(seen:List (List UInt8)):∀x∈seen.map Lit.string,WideAt.IsKeyLit x:=by
 intro x hx
 obtain⟨y,_,rfl⟩:=List.mem_map.1 hx
 trivial
theorem Zos(seen:List (List UInt8))(x:List UInt8):Maps.has (Sd seen) (.string x)=seen.contains x:=by
 unfold Sd
 rw[has_setOf _ _ _ (ZoP seen)]
 induction seen with
 | nil=>rfl
 | cons a l ih=>
  rw[List.map_cons,List.any_cons,ih,List.contains_cons]
  congr 1
  show(a == x)=(x == a)
  exact BEq.comm
theorem ZmM{s:ByteArray}(m:Int)(w:World)(hs:s.size≤6000)(hm:w.cell? ⟨14,0,none⟩=some (.int .i64 m)) :
  Calls Tryz.prog 91 #[.string s,.string ⟨#[125]⟩] w fun e w'=>∃(a b:ByteArray) (f:Bool),e=.returned (.tuple #[.string a,.string b,.bool f])∧Hid (bl a=Zci (bl s))∧a.size≤6000∧∃n,w'=w.drewN n:=by
 cases hc:cut 125 (bl s)with
 | none=>
  refine(ZeH m w hs hm hc).mono ?_
  rintro e w' ⟨a,b,rfl,hab,hw⟩
  exact⟨a,b,_,rfl,hid (by unfold Zci;rw[hc];exact hab.1),by rw[Z5 hab.1,Zg];exact hs,hw⟩
 | some p=>
  obtain⟨x,y⟩:=p
  refine(ZdD m w hs hm hc).mono ?_
  rintro e w' ⟨a,b,rfl,hab,hw⟩
  refine⟨a,b,_,rfl,hid (by unfold Zci;rw[hc];exact hab.1),?_,hw⟩
  have:(bl s).length=x.length+(y.length+1):=by rw[(ZcI hc).1];simp
  rw[Z5 hab.1];rw[Zg]at this;omega
set_option maxRecDepth 100000 in
set_option maxHeartbeats 2000000 in
theorem ZpK(g:Nat)(ps:List (List UInt8))(n:Nat)(A:Nat→Addr)(m:Int)(w:World)(hn:Hid (n=ps.length))(hn6:n≤6001)(hp6:Hid (∀i,i<ps.length→(ps.getD i []).length≤6000))(hrow:ZeD w g ps)(hv:Vars w A m) :
  Calls Tryz.prog 44 #[.slice (some ⟨g, 0, none⟩) n n] w fun e w' => Below w.heap.size w w' ∧
    ((∃(i:Nat) (fa:Nat),e=.returned (.iface 94 (.pointer (some ⟨fa,0,none⟩)))∧w'.heap[fa]?=some (.cells #[.string ⟨#[108,105,110,101]⟩,.int .i64 i,.iface 389 (.pointer (some (A 5)))] 98 (0,0))∧Hid (Zbl 0 [] ps=some i))∨
     (e=.returned .nilIface∧Hid (Zbl 0 [] ps=none))):=by
 have hmm:=@run_makeMap Tryz.prog
 have hgl:g<w.heap.size:=hrow.1
 go_enter Tryz.func44,Tryz.ntmps44
 go_wp2
 go_loopw [14] (fun i wr => ∃ (k : Nat) (seen : List (List UInt8)), k ≤ n ∧ i = .int .i64 k ∧ wr.ownsMap Tryz.prog 9 unitElem w.heap.size k (Sd seen) ∧ Hid (Zbl 0 [] ps = Zbl k seen (ps.drop k)) ∧ Below w.heap.size w wr ∧ w.heap.size + 1 ≤ wr.heap.size)
   (fun i _=>n - (intOf i).toNat)
 case atStart=>exact⟨0,[],Nat.zero_le _,rfl,World.ownsMap_made _ _ _ _,rfl,Zbal,by simp⟩
 case round=>
  obtain⟨k,seen,hk,rfl,hown,HA,hbr,hwr⟩:=hrel
  have hvr:=hv.below hbr
  by_cases hlt:k<n
  ·have hkl:k<ps.length:=by rw[←hn.out];exact hlt
   obtain⟨sk,hck,hsk⟩:=(hrow.below hbr hgl).2 k hkl
   have hsk6:sk.size≤6000:=by rw[Z5 hsk];exact hp6.out k hkl
   have HK:Hid (bl sk=ps.getD k []):=hsk
   clear hsk
   cases he:sk.toList.isEmpty
   ·have HNE:Hid (ps.getD k []≠[]):=by rw[←HK.out];exact Zeu he
    have hmr:=hvr.max
    go_wp2_with fail
    refine(ZmM m _ hsk6 hmr).mono ?_
    rintro e w2 ⟨a,b,f,rfl,ha,ha6,j,rfl⟩
    have hst3:∀o,((wr.alloc o).drewN j).cell? ⟨5,0,none⟩=some (.iface 389 (.pointer (some (A 5)))):=fun o=>(hvr.alloc o).sent _ (by decide)
    have hst4:∀o,(wr.alloc o).cell? ⟨5,0,none⟩=some (.iface 389 (.pointer (some (A 5)))):=fun o=>(hvr.alloc o).sent _ (by decide)
    have hst5:∀o,((wr.drewN j).alloc o).cell? ⟨5,0,none⟩=some (.iface 389 (.pointer (some (A 5)))):=fun o=>((hvr.drewN j).alloc o).sent _ (by decide)
    have hkey:keyOf Tryz.prog 9 (.string a)=some (.string a.data.toList):=keyOf_string_mk Tryz.underlying9 (by unfold maxLen;omega)
    have hhas:Maps.has (Sd seen) (.string a.data.toList)=seen.contains (Zci (ps.getD k [])):=by
     rw[Zos];show seen.contains (bl a)=_;rw[ha.out,HK.out]
    have hownd:(wr.drewN j).ownsMap Tryz.prog 9 unitElem w.heap.size k (Sd seen):=hown
    clear hmr hvr
    cases hs:seen.contains (Zci (ps.getD k []))
    ·have HF:Hid (Zbl 0 [] ps=Zbl (k+1) (seen++[Zci (ps.getD k [])]) (ps.drop (k+1))):=hid (by rw[HA.out];exact ZsX hkl HNE.out hs)
     rw[hs]at hhas
     clear hs
     go_wp2_with (first
       | (at_lookup;refine wpList_lookup_own_unit _ rfl _ _ 202 rfl 9 205 law9 Tryz.underlying202 (ZlA _) w.heap.size k _ rfl hownd _ _ rfl hkey ?_)
       | (at_mapUpdate;refine wpList_mapUpdate_own _ rfl _ _ _ 202 rfl 9 205 law9 Tryz.underlying202 (unitElem (H:=Unit)) w.heap.size k _ rfl (hownd.alloc _) (by unfold maxLen;omega) _ _ _ rfl rfl hkey _ [] unitElem_mk ?_;intro w1 hown1 hgrow1))
     have s1:=hgrow1.size
     simp at s1
     go_roundw
     case rel=>
      refine⟨k+1,_,by omega,by go_num,?_,HF,?_,by omega⟩
      ·rw[ZlC,←HK.out,←ha.out];exact hown1
      ·exact((Zk hbr j).alloc (by simp;omega) _).grown hgrow1 (by simp;omega) (fun q hq=>by cases hq;exact Nat.le_refl _)
     case measure=>simp[intOf];omega
    ·have HF:Hid (Zbl 0 [] ps=some k):=hid (by rw[HA.out];exact ZsW hkl HNE.out hs)
     rw[hs]at hhas
     clear hs
     go_wp2_with (first
       | (at_lookup;refine wpList_lookup_own_unit _ rfl _ _ 202 rfl 9 205 law9 Tryz.underlying202 (ZlA _) w.heap.size k _ rfl hownd _ _ rfl hkey ?_)
       | (go_at_call 90;refine(Zio _ _ _).mono ?_;rintro e w' ⟨rfl,rfl⟩))
     go_ret
     refine⟨(by repeat first|exact Below.refl _ _|assumption|refine Below.alloc ?_ ?_ _|refine Below.setCell ?_ ?_ _|refine Zk ?_ _|refine Below.drew ?_|omega|(simp;omega)|simp),Or.inl ⟨k,wr.heap.size+1,rfl,?_,HF⟩⟩
     rw[show wr.heap.size+1=(wr.alloc (.cells #[] 205)).heap.size by simp]
     exact Array.getElem?_push_size
   ·have HF:Hid (Zbl 0 [] ps=Zbl (k+1) seen (ps.drop (k+1))):=hid (by rw[HA.out];exact ZsU hkl (by rw[←HK.out];exact ZdW he))
    go_wp2
    go_roundw
    case rel=>exact⟨k+1,seen,by omega,by go_num,hown.mono (Nat.le_succ _),HF,hbr,hwr⟩
    case measure=>simp[intOf];omega
  ·have HF:Hid (Zbl 0 [] ps=none):=hid (by rw[HA.out];exact ZsV (by rw[←hn.out];exact hlt))
   go_wp2
   go_ret
   exact⟨hbr,Or.inr ⟨rfl,HF⟩⟩
end Go.Proofs.YtpbemaaghbbocaaGreatDoor
namespace Go.Proofs.YtpbemaaghbbocaaGreatDoor
open Go.RowKit LS
def ZD(l:List UInt8):Nat×Nat:=
 if 6000<l.length then (1,0)else match ZI 0 [] (split 10 l)with
  | .inl i=>(5,i)
  | .inr es => match Zbl 0 [] (split 10 l) with
    | some i=>(6,i)
    | none=>if 30<es.length∨200<Z7 es es.length then (7,0)else (0,0)
def ZeB(w:World)(A:Nat→Addr)(err:Value)(r:Nat×Nat):Prop:=
 (err=.nilIface∧r=(0,0))∨
 (err=.iface 389 (.pointer (some (A 0)))∧r=(1,0))∨
 (err=.iface 389 (.pointer (some (A 6)))∧r=(7,0))∨
 (∃i fa:Nat,err=.iface 94 (.pointer (some ⟨fa,0,none⟩))∧r=(5,i)∧w.cell? ⟨fa,1,none⟩=some (.int .i64 i)∧w.cell? ⟨fa,2,none⟩=some (.iface 389 (.pointer (some (A 4)))))∨
 (∃i fa:Nat,err=.iface 94 (.pointer (some ⟨fa,0,none⟩))∧r=(6,i)∧w.cell? ⟨fa,1,none⟩=some (.int .i64 i)∧w.cell? ⟨fa,2,none⟩=some (.iface 389 (.pointer (some (A 5)))))
theorem ZgE{w:World}{fa:Nat}{x y z:Value}{t:TypeId}(h:w.heap[fa]?=some (.cells #[x,y,z] t (0,0))):w.cell? ⟨fa,1,none⟩=some y∧w.cell? ⟨fa,2,none⟩=some z:=by
 simp[World.cell?,h]
theorem ZrK{last:Int}{n:Nat}{ps:List (List UInt8)}{k:Nat}(h:ZR last n ps=some k):k≤n+ps.length:=by
 induction ps generalizing last n with
 | nil=>simp[ZR]at h;omega
 | cons x xs ih=>
  unfold ZR at h
  cases hs:ZbX x with
  | none=>rw[hs]at h;cases h
  | some t=>
   rw[hs]at h
   simp only at h
   split at h
   ·cases h
   ·have:=ih h;simp;omega
theorem ZrM{l:List UInt8}{n:Nat}(h:Zbe l=some n):n≤l.length+1:=by
 unfold Zbe at h
 have h3:=ZhK 32 l
 generalize ZT 32 l=st at h h3
 obtain⟨r,f⟩:=st
 simp only at h h3
 split at h
 ·have:=Option.some.inj h;omega
 ·split at h
  ·have h1:=ZrK h;have h2:=Zd0 32 r;omega
  ·cases h
theorem ZjG{l a b:List UInt8}{n:Nat}(h:line l=some (a,b,n)):n≤l.length+1:=by
 cases hc:cut 123 l with
 | none=>rw[Zfi hc]at h;cases h
 | some p=>
  obtain⟨x,r⟩:=p
  cases hc2:cut 125 r with
  | none=>rw[ZeJ hc hc2]at h;cases h
  | some q=>
   obtain⟨y,z⟩:=q
   rw[ZeK hc hc2]at h
   have h1:z.length≤l.length:=by
    rw[(ZcI hc).1,(ZcI hc2).1];simp;omega
   split at h
   ·cases hs:Zbe z with
    | none=>rw[hs]at h;cases h
    | some k=>
     rw[hs]at h
     simp at h
     have:=ZrM hs
     omega
   ·cases h
theorem Zhj{i:Nat}{acc es:List Entry}{ps:List (List UInt8)}(h:ZI i acc ps=.inr es)(ha:∀e∈acc,e.count≤6001)(hp:∀p∈ps,p.length≤6000) :
  es.length≤acc.length+ps.length∧∀e∈es,e.count≤6001:=by
 induction ps generalizing i acc with
 | nil=>
  simp only[ZI,Sum.inr.injEq]at h
  subst h;exact⟨by simp,ha⟩
 | cons x xs ih=>
  unfold ZI at h
  split at h
  ·have:=ih h ha (fun p hp'=>hp p (by simp[hp']));exact⟨by simp;omega,this.2⟩
  ·cases hl:line x with
   | none=>rw[hl]at h;cases h
   | some t=>
    obtain⟨a,b,n⟩:=t
    rw[hl]at h
    simp only at h
    have h6:=hp x (by simp)
    have hn:=ZjG hl
    have := ih h (fun e he => by
      rcases List.mem_append.1 he with he|he
      · exact ha e he
      · simp at he;subst he;show n≤6001;omega) (fun p hp'=>hp p (by simp[hp']))
    exact⟨by have:=this.1;simp at this ⊢;omega,this.2⟩
set_option maxHeartbeats 1000000 in
theorem ZrB(s:ByteArray)(A:Nat→Addr)(m:Int)(w:World)(hv:Vars w A m)(hs:6000<s.size)(hs2:s.size≤maxLen) :
  Calls Tryz.prog 24 #[.string s] w fun e w'=>∃sv err,e=.returned (.tuple #[sv,err])∧Hid (ZeB w' A err (1,0))∧Below w.heap.size w w':=by
 unfold maxLen at hs2
 have hg:=hv.sent 0 (by decide)
 go_enter Tryz.func24,Tryz.ntmps24
 go_wp2
 go_region
 all_goals (try go_wp2)
 all_goals (go_ret2;exact⟨_,_,rfl,Or.inr (Or.inl ⟨rfl,rfl⟩),(by repeat first|exact Below.refl _ _|assumption|refine Below.alloc ?_ ?_ _|refine Below.setCell ?_ ?_ _|refine Zk ?_ _|refine Below.drew ?_|omega|(simp;omega)|simp)⟩)
def ZfF(w:World)(v:Value)(l:List UInt8):Prop:=∃(es:List Entry) (rs:List (Value×Value×Value×Value)),ZI 0 [] (split 10 l)=.inr es∧es.length≤30∧w.ownsRow 0 199 4 v es.length (Zbw rs)∧AllV w rs es (split 10 l)
set_option maxHeartbeats 2000000 in
theorem ZrC(s:ByteArray)(A:Nat→Addr)(m:Int)(w:World)(hv:Vars w A m)(hs:s.size≤6000) :
  Calls Tryz.prog 24 #[.string s] w fun e w'=>∃sv err,e=.returned (.tuple #[sv,err])∧Hid (ZeB w' A err (ZD (bl s)))∧Below w.heap.size w w'∧Hid ((ZD (bl s)).1=0→ZfF w' sv (bl s)):=by
 have hL:Hid (∀x,(match ZI 0 [] (split 10 (bl s))with
  | .inl i=>(5,i)
  | .inr es => match Zbl 0 [] (split 10 (bl s)) with
    | some i=>(6,i)
    | none=>if 30<es.length∨200<Z7 es es.length then (7,0)else (0,0))=x→ZD (bl s)=x):=by
  intro x hx;unfold ZD;rw[if_neg (by rw[Zg];omega)];exact hx
 have hn6:(split 10 (bl s)).length≤6001:=by have:=Zd0 10 (bl s);rw[Zg]at this;omega
 have hp6 : Hid (∀ i, i < (split 10 (bl s)).length → ((split 10 (bl s)).getD i []).length ≤ 6000) := fun i hi => by
   have:=Zei 10 (bl s) i hi;rw[Zg]at this;omega
 go_enter Tryz.func24,Tryz.ntmps24
 go_wp2_with fail
 refine(ZhH 10 s m _ hs hv.max).mono ?_
 rintro e w1 ⟨n,rfl,hn,hrow,hb1⟩
 have HN:Hid (n=(split 10 (bl s)).length):=hn
 have hn7:n≤6001:=by omega
 have hw1:w.heap.size<w1.heap.size:=hrow.1
 clear hn hn6
 have hv1:=hv.below hb1
 go_wp2_with fail
 refine(Zrt w.heap.size (split 10 (bl s)) n A m _ HN hn7 hp6 hrow hv1).mono ?_
 rintro e w2 ⟨hb2,hcase⟩
 have hv2:=hv1.below hb2
 have hB2:Below w.heap.size w w2:=hb1.trans (hb2.mono hb1.size)
 rcases hcase with ⟨i,fa,rfl,hfa,hl⟩|⟨v,es,rs,rfl,hown,hl,HAV⟩
 ·obtain⟨c1,c2⟩:=ZgE hfa
  have HZ:Hid (ZD (bl s)=(5,i)):=hid (hL.out (5,i) (by rw[hl.out]))
  have HR:Hid (ZeB w2 A (.iface 94 (.pointer (some ⟨fa,0,none⟩))) (ZD (bl s))):=by
   rw[hL.out (5,i) (by rw[hl.out])]
   exact Or.inr (Or.inr (Or.inr (Or.inl ⟨i,fa,rfl,rfl,c1,c2⟩)))
  clear c1 c2 hfa
  go_wp2
  go_ret2
  exact⟨_,_,rfl,HR,hB2,hid (fun h=>by rw[HZ.out]at h;cases h)⟩
 ·have hbd := Zhj hl.2 (fun e he => by simp at he) (fun p hp => by
    have:=ZkI 10 (bl s) p hp;rw[Zg]at this;omega)
  have hrow2:=hrow.below hb2 hw1
  go_wp2_with fail
  refine(ZpK w.heap.size (split 10 (bl s)) n A m _ HN hn7 hp6 hrow2 hv2).mono ?_
  rintro e w3 ⟨hb3,hcase3⟩
  have hv3:=hv2.below hb3
  have hB3:Below w.heap.size w w3:=hB2.trans (hb3.mono hB2.size)
  rcases hcase3 with ⟨i,fa,rfl,hfa,ht⟩|⟨rfl,ht⟩
  ·obtain⟨c1,c2⟩:=ZgE hfa
   have HZ:Hid (ZD (bl s)=(6,i)):=hid (hL.out (6,i) (by rw[hl.2];simp only[ht.out]))
   have HR:Hid (ZeB w3 A (.iface 94 (.pointer (some ⟨fa,0,none⟩))) (ZD (bl s))):=by
    rw[hL.out (6,i) (by rw[hl.2];simp only[ht.out])]
    exact Or.inr (Or.inr (Or.inr (Or.inr ⟨i,fa,rfl,rfl,c1,c2⟩)))
   clear c1 c2 hfa
   go_wp2
   go_ret2
   exact⟨_,_,rfl,HR,hB3,hid (fun h=>by rw[HZ.out]at h;cases h)⟩
  ·have hown3:=Zw hown hb3
   have hle:es.length≤6001:=by have:=hbd.1;simp at this;have:=HN.out;omega
   have HC:Hid (∀e∈es,e.count≤6001):=hbd.2
   have hsum:=ZkK es hbd.2 es.length
   have HM:Hid (ZD (bl s)=if 30<es.length∨200<Z7 es es.length then (7,0)else (0,0)):=hL.out _ (by rw[hl.2];simp only[ht.out])
   have hR:Hid (Zdw rs es):=hl.1
   have hg3:=hv3.sent 6 (by decide)
   obtain⟨av,cp,rfl⟩:=Zj hown
   have HLN:Hid (ZI 0 [] (split 10 (bl s))=.inr es):=hl.2
   have HAV3:=hid (HAV.below hb3)
   clear hbd hown hl
   by_cases h30:30<es.length
   ·have hd:decide (30<(es.length:Int))=true:=by simp;omega
    have HR:Hid (ZD (bl s)=(7,0)):=hid (by rw[HM.out,if_pos (Or.inl h30)])
    go_wp2
    go_region
    all_goals (try go_wp2)
    all_goals (go_ret2;exact⟨_,_,rfl,(by rw[HR.out];exact Or.inr (Or.inr (Or.inl ⟨rfl,rfl⟩))),(by repeat first|exact Below.refl _ _|assumption|refine Below.alloc ?_ ?_ _|refine Below.setCell ?_ ?_ _|refine Zk ?_ _|refine Below.drew ?_|omega|(simp;omega)|simp),hid (fun h=>by rw[HR.out]at h;cases h)⟩)
   ·have hd:decide (30<(es.length:Int))=false:=by simp;omega
    go_wp2_with fail
    refine(ZmK _ es rs _ hown3 hR HC hle).mono ?_
    rintro e w4 ⟨rfl,hb4⟩
    have hB4:Below w.heap.size w w4:=hB3.trans (hb4.mono hB3.size)
    have hg4:=(hv3.below hb4).sent 6 (by decide)
    by_cases h200:200<Z7 es es.length
    ·have HR:Hid (ZD (bl s)=(7,0)):=hid (by rw[HM.out,if_pos (Or.inr h200)])
     have hd2:decide (200<(Z7 es es.length:Int))=true:=by simp;omega
     go_wp2
     go_region
     all_goals (try go_wp2)
     all_goals (go_ret2;exact⟨_,_,rfl,(by rw[HR.out];exact Or.inr (Or.inr (Or.inl ⟨rfl,rfl⟩))),(by repeat first|exact Below.refl _ _|assumption|refine Below.alloc ?_ ?_ _|refine Below.setCell ?_ ?_ _|refine Zk ?_ _|refine Below.drew ?_|omega|(simp;omega)|simp),hid (fun h=>by rw[HR.out]at h;cases h)⟩)
    ·have HR:Hid (ZD (bl s)=(0,0)):=hid (by rw[HM.out,if_neg (by rintro(h|h) <;> omega)])
     have hd2:decide (200<(Z7 es es.length:Int))=false:=by simp;omega
     go_wp2
     go_ret2
     exact⟨_,_,rfl,(by rw[HR.out];exact Or.inl ⟨rfl,rfl⟩),hB4,hid (fun _=>⟨es,rs,HLN.out,by omega,Zw hown3 hb4,HAV3.below hb4⟩)⟩
def Zdn:List (List UInt8)→List UInt8
 | []=>[]
 | [x]=>x
 | x::y::r=>x++44::Zdn (y::r)
theorem Zg4(x:List UInt8)(l:List (List UInt8))(h:l≠[]):Zdn (x::l)=x++44::Zdn l:=by
 cases l with
 | nil=>exact absurd rfl h
 | cons y r=>rfl
theorem ZoS(p:List UInt8)(l:List (List UInt8))(h:l≠[]):Zdn (pre p l)=p++Zdn l:=by
 cases l with
 | nil=>exact absurd rfl h
 | cons y r=>
  cases r with
  | nil=>rfl
  | cons z t=>simp[pre,Zdn]
theorem ZoV(l:List UInt8):Zdn (split 44 l)=l:=by
 induction l with
 | nil=>rfl
 | cons b l ih=>
  by_cases hb:b=44
  ·subst hb;rw[Zey,Zg4 _ _ (Zez 44 l),ih];rfl
  ·rw[Zfx 44 b l (by simp[hb]),ZoS _ _ (Zez 44 l),ih];rfl
theorem ZoT(xs:List (List UInt8))(x:List UInt8)(h:xs≠[]):Zdn (xs++[x])=Zdn xs++44::x:=by
 induction xs with
 | nil=>exact absurd rfl h
 | cons y r ih=>
  cases r with
  | nil=>rfl
  | cons z t=>
   rw[List.cons_append,Zg4 y (z::t++[x]) (by simp),ih (by simp),Zg4 y (z::t) (by simp)];simp
def wr1(p:List UInt8×List UInt8):List UInt8:=p.1++[61]++p.2
theorem ZtH(ps:List (List UInt8×List UInt8))(k:Nat)(hk:k≤ps.length):ZcU ps k=Zdn ((ps.take k).map wr1):=by
 induction k with
 | zero=>rfl
 | succ k ih=>
  have ih':=ih (by omega)
  have e:ps.getD k ([],[])=ps[k]:=by simp[show k<ps.length by omega]
  rw[ZcU,e,List.take_succ_eq_append_getElem (by omega),List.map_append,List.map_cons,List.map_nil]
  by_cases h0:0<k
  ·rw[if_pos h0,ZoT _ _ (by intro h;have h3:=congrArg List.length h;rw[List.length_map,List.length_take]at h3;simp only[List.length_nil]at h3;omega),ih']
   simp[wr1]
  ·obtain rfl:k=0:=by omega
   simp[ZcU,Zdn,wr1]
theorem Zo4{last x:List UInt8}{p:List UInt8×List UInt8}(h:ZcN last x=some p):x=wr1 p:=by
 unfold ZcN at h
 cases hc:cut 61 x with
 | none=>rw[hc]at h;cases h
 | some q=>
  obtain⟨n,v⟩:=q
  rw[hc]at h
  simp only at h
  split at h
  ·have:=Option.some.inj h;subst this
   rw[(ZcI hc).1];simp[wr1]
  ·cases h
theorem Zo6{last:List UInt8}{acc ps:List (List UInt8×List UInt8)}{xs:List (List UInt8)}(h:ZS last acc xs=some ps):∃qs,ps=acc++qs∧xs=qs.map wr1:=by
 induction xs generalizing last acc with
 | nil=>simp only[ZS,Option.some.injEq]at h;exact⟨[],by simp[h],rfl⟩
 | cons x xs ih=>
  unfold ZS at h
  cases hl:ZcN last x with
  | none=>rw[hl]at h;cases h
  | some p=>
   rw[hl]at h
   obtain⟨qs,e1,e2⟩:=ih h
   exact⟨p::qs,by rw[e1];simp,by rw[e2,List.map_cons,Zo4 hl]⟩
theorem Zlq{l:List UInt8}{ps:List (List UInt8×List UInt8)}(h:ZY l=some ps):ZcU ps ps.length=l:=by
 unfold ZY at h
 split at h
 ·rename_i hl;have:=Option.some.inj h;subst this;rw[hl];rfl
 ·obtain⟨qs,e1,e2⟩:=Zo6 h
  simp at e1;subst e1
  rw[ZtH _ _ (Nat.le_refl _),List.take_length,←e2,ZoV]
def Zb6(e:Entry):List UInt8:=e.name++123::e.inside
theorem Zj2{n:List UInt8}(h:Zx n=true):(123:UInt8)∉n:=by
 intro hm
 unfold Zx at h
 rw[Bool.and_eq_true]at h
 have:=List.all_eq_true.1 h.1 _ hm
 exact absurd this (by decide)
theorem Zg7{e f:Entry}(he:Zx e.name=true)(hf:Zx f.name=true):Zb6 e=Zb6 f ↔ e.name=f.name∧e.inside=f.inside:=by
 constructor
 ·intro h
  have h1:=Zfv 123 e.name e.inside (Zj2 he)
  have h2:=Zfv 123 f.name f.inside (Zj2 hf)
  unfold Zb6 at h
  rw[h,h2]at h1
  have hl:=Option.some.inj h1
  have:=List.append_inj h hl.symm
  exact⟨this.1,(List.cons.inj this.2).2⟩
 ·rintro⟨h1,h2⟩;unfold Zb6;rw[h1,h2]
theorem Zhi{l a b:List UInt8}{n:Nat}(h:line l=some (a,b,n)):Zx a=true∧(ZY b).isSome=true∧Zci l=a++123::b:=by
 cases hc:cut 123 l with
 | none=>rw[Zfi hc]at h;cases h
 | some p=>
  obtain⟨x,r⟩:=p
  cases hc2:cut 125 r with
  | none=>rw[ZeJ hc hc2]at h;cases h
  | some q=>
   obtain⟨y,z⟩:=q
   rw[ZeK hc hc2]at h
   split at h
   ·rename_i hok
    rw[Bool.and_eq_true]at hok
    cases hs:Zbe z with
    | none=>rw[hs]at h;cases h
    | some k=>
     rw[hs]at h
     simp only[Option.map_some,Option.some.injEq,Prod.mk.injEq]at h
     obtain⟨rfl,rfl,rfl⟩:=h
     refine⟨hok.1,hok.2,?_⟩
     have hl:l=(x++123::y)++125::z:=by rw[(ZcI hc).1,(ZcI hc2).1];simp
     have hnx:(125:UInt8)∉x:=by
      intro hm
      have h1:=hok.1
      unfold Zx at h1
      rw[Bool.and_eq_true]at h1
      exact absurd (List.all_eq_true.1 h1.1 _ hm) (by decide)
     have hn:(125:UInt8)∉x++123::y:=by
      simp only[List.mem_append,List.mem_cons,_root_.not_or]
      exact⟨hnx,by decide,(ZcI hc2).2⟩
     unfold Zci
     rw[hl,ZgJ hn]
   ·cases h
def Zbp:List Entry→List Entry→Option Nat
 | _,[]=>none
 | seen,e::r=>if (seen.map Zb6).contains (Zb6 e)then some e.at_ else Zbp (seen++[e]) r
theorem ZsY{i:Nat}{acc es:List Entry}{ps:List (List UInt8)}(h:ZI i acc ps=.inr es):∃rest,es=acc++rest∧Zbl i (acc.map Zb6) ps=Zbp acc rest:=by
 induction ps generalizing i acc with
 | nil=>simp only[ZI,Sum.inr.injEq]at h;exact⟨[],by simp[h],rfl⟩
 | cons x xs ih=>
  unfold ZI at h
  unfold Zbl
  split at h
  ·rename_i hx;rw[if_pos hx];exact ih h
  ·rename_i hx
   rw[if_neg hx]
   cases hl:line x with
   | none=>rw[hl]at h;cases h
   | some t=>
    obtain⟨a,b,n⟩:=t
    rw[hl]at h
    simp only at h
    obtain⟨rest,e1,e2⟩:=ih h
    refine⟨⟨i,a,b,n⟩::rest,by rw[e1];simp,?_⟩
    have hk:Zci x=Zb6 ⟨i,a,b,n⟩:=(Zhi hl).2.2
    rw[hk,Zbp]
    split
    ·rfl
    ·rw[List.map_append]at e2;exact e2
theorem ZkU{es:List Entry}{ps:List (List UInt8)}(h:ZI 0 [] ps=.inr es):Zbl 0 [] ps=Zbp [] es:=by
 obtain⟨rest,e1,e2⟩:=ZsY h
 simp at e1;subst e1;exact e2
theorem ZmP {es : List Entry} {i k : Nat} (hi : i < es.length) (hk : k < i) (he : Zb6 (es[k]'(by omega)) = Zb6 es[i]) : Zbp (es.take i) (es.drop i) = some (es[i]).at_ := by
  rw[List.drop_eq_getElem_cons hi,Zbp,if_pos]
  rw[List.contains_iff_mem,←he]
  refine List.mem_map.2 ⟨es[k]'(by omega),?_,rfl⟩
  rw[List.mem_iff_getElem]
  exact⟨k,by rw[List.length_take];omega,by simp⟩
theorem ZmQ {es : List Entry} {i : Nat} (hi : i < es.length) (hn : ∀ k (hk : k < i), Zb6 (es[k]'(by omega)) ≠ Zb6 es[i]) : Zbp (es.take i) (es.drop i) = Zbp (es.take (i + 1)) (es.drop (i + 1)) := by
  rw[List.drop_eq_getElem_cons hi,Zbp,if_neg,List.take_succ_eq_append_getElem hi]
  rw[List.contains_iff_mem]
  intro hm
  obtain⟨f,hf,hfe⟩:=List.mem_map.1 hm
  obtain⟨k,hk,rfl⟩:=List.mem_iff_getElem.1 hf
  rw[List.length_take]at hk
  exact hn k (by omega) (by simpa using hfe)
theorem Zo3{last x:List UInt8}{p:List UInt8×List UInt8}(h:ZcN last x=some p):p.1.length≤8∧p.2.length≤8:=by
 unfold ZcN at h
 cases hc:cut 61 x with
 | none=>rw[hc]at h;cases h
 | some q=>
  obtain⟨n,v⟩:=q
  rw[hc]at h
  simp only at h
  split at h
  ·rename_i hok
   have:=Option.some.inj h;subst this
   simp only[Bool.and_eq_true]at hok
   have h1:=hok.1.1.1
   have h2:=hok.1.1.2
   unfold Zx at h1
   unfold ZH at h2
   simp only[Bool.and_eq_true,decide_eq_true_eq]at h1 h2
   exact⟨by have:=h1.2.2;show n.length≤8;omega,by have:=h2.2;show v.length≤8;omega⟩
  ·cases h
theorem Zo5{last:List UInt8}{acc ps:List (List UInt8×List UInt8)}{xs:List (List UInt8)}(h:ZS last acc xs=some ps)(ha:∀p∈acc,p.1.length≤8∧p.2.length≤8):ps.length=acc.length+xs.length∧∀p∈ps,p.1.length≤8∧p.2.length≤8:=by
 induction xs generalizing last acc with
 | nil=>simp only[ZS,Option.some.injEq]at h;subst h;exact⟨rfl,ha⟩
 | cons x xs ih=>
  unfold ZS at h
  cases hl:ZcN last x with
  | none=>rw[hl]at h;cases h
  | some p=>
   rw[hl]at h
   have := ih h (fun q hq => by
     rcases List.mem_append.1 hq with hq|hq
     · exact ha q hq
     · simp at hq;subst hq;exact Zo3 hl)
   exact⟨by rw[this.1];simp;omega,this.2⟩
theorem ZjC{l:List UInt8}{ps:List (List UInt8×List UInt8)}(h:ZY l=some ps)(hl:l.length≤6000):ps.length≤6001∧∀p∈ps,p.1.length≤8∧p.2.length≤8:=by
 unfold ZY at h
 split at h
 ·have:=Option.some.inj h;subst this;simp
 ·have:=Zo5 h (by simp)
  exact⟨by rw[this.1];have:=Zd0 44 l;simp;omega,this.2⟩
theorem ZpD{l a b:List UInt8}{n:Nat}(h:line l=some (a,b,n)):b.length≤l.length:=by
 have h3:=(Zhi h).2.2
 have:(Zci l).length≤l.length:=by
  unfold Zci
  cases hc:cut 125 l with
  | none=>exact Nat.le_refl _
  | some p=>obtain⟨x,y⟩:=p;rw[(ZcI hc).1];simp
 rw[h3]at this;simp at this;omega
def Zc2(w:World)(lv:Value)(inside:List UInt8):Prop:=∃qs:List (ByteArray×ByteArray),w.ownsRow 0 216 2 lv qs.length (ZbD qs)∧ZY inside=some (qs.map bl2)
theorem Zc2.below{w w':World}{lv:Value}{inside:List UInt8}(h:Zc2 w lv inside)(hb:Below w.heap.size w w'):Zc2 w' lv inside:=by
 obtain⟨qs,h1,h2⟩:=h;exact⟨qs,Zw h1 hb,h2⟩
theorem Zc2.grown{w w':World}{lv:Value}{inside:List UInt8}{b:Nat}{e:TypeId}{s:Nat}{v:Value}{n:Nat}{xs:List Value}(h:Zc2 w lv inside)(hg:w.grownBy w' v.ownBlock)(hv:w.ownsRow b e s v n xs)(he:216≠e):Zc2 w' lv inside:=by
 obtain⟨qs,h1,h2⟩:=h;exact⟨qs,h1.kept hg (Zed h1 hv he),h2⟩
def ZbZ(w:World)(rs:List (Value×Value×Value))(es:List Entry):Prop:=rs.length=es.length∧∀j (h:j<es.length),∃(nm:ByteArray) (la:Option Addr) (ln lc:Nat) (sa:Option Addr) (sc:Nat),
 rs[j]?=some (.string nm,.slice la ln lc,.slice sa (es[j]).count sc)∧bl nm=(es[j]).name∧Zx (es[j]).name=true∧(es[j]).inside.length≤6000∧Zc2 w (.slice la ln lc) (es[j]).inside
theorem ZbZ.nil(w:World):ZbZ w [] []:=⟨rfl,fun j h=>by simp at h⟩
theorem ZbZ.below{w w':World}{rs:List (Value×Value×Value)}{es:List Entry}(h:ZbZ w rs es)(hb:Below w.heap.size w w'):ZbZ w' rs es:=
 ⟨h.1,fun j hj=>by obtain⟨nm,la,ln,lc,sa,sc,e1,e2,e3,e4,e5⟩:=h.2 j hj;exact⟨nm,la,ln,lc,sa,sc,e1,e2,e3,e4,e5.below hb⟩⟩
theorem ZbZ.grown{w w':World}{rs:List (Value×Value×Value)}{es:List Entry}{b:Nat}{e:TypeId}{s:Nat}{v:Value}{n:Nat}{xs:List Value}(h:ZbZ w rs es)(hg:w.grownBy w' v.ownBlock)(hv:w.ownsRow b e s v n xs)(he:216≠e):ZbZ w' rs es:=
 ⟨h.1,fun j hj=>by obtain⟨nm,la,ln,lc,sa,sc,e1,e2,e3,e4,e5⟩:=h.2 j hj;exact⟨nm,la,ln,lc,sa,sc,e1,e2,e3,e4,e5.grown hg hv he⟩⟩
theorem ZbZ.snoc{w:World}{rs:List (Value×Value×Value)}{es:List Entry}(h:ZbZ w rs es)(x:Entry)(nm:ByteArray)(la:Option Addr)(ln lc:Nat)(sa:Option Addr)(sc:Nat)
  (h1:bl nm=x.name) (h2:Zx x.name=true) (h3:x.inside.length≤6000) (h4:Zc2 w (.slice la ln lc) x.inside):ZbZ w (rs++[(.string nm,.slice la ln lc,.slice sa x.count sc)]) (es++[x]):=by
 refine⟨by simp[h.1],fun j hj=>?_⟩
 by_cases hlt:j<es.length
 ·obtain⟨nm',la',ln',lc',sa',sc',e1,e2⟩:=h.2 j hlt
  refine⟨nm',la',ln',lc',sa',sc',?_⟩
  rw[List.getElem?_append_left (by rw[h.1];exact hlt),List.getElem_append_left hlt]
  exact⟨e1,e2⟩
 ·have hj':j=es.length:=by simp at hj;omega
  subst hj'
  refine⟨nm,la,ln,lc,sa,sc,?_⟩
  rw[List.getElem?_append_right (by rw[h.1];exact Nat.le_refl _),h.1]
  simp[h1,h2,h3,h4]
def ZbQ(w:World)(rs:List (Value×Value×Value))(es:List Entry)(P:List (List UInt8)):Prop:=∀j (h:j<es.length),∃(x y:Value) (sa:Option Addr) (sc:Nat),rs[j]?=some (x,y,.slice sa (es[j]).count sc)∧w.ownsRow 0 220 2 (.slice sa (es[j]).count sc) (es[j]).count (ZK (Zbm (P.getD (es[j]).at_ [])))
theorem ZbQ.nil(w:World)(P:List (List UInt8)):ZbQ w [] [] P:=fun j h=>by simp at h
theorem ZbQ.below {w w' : World} {rs : List (Value × Value × Value)} {es : List Entry} {P : List (List UInt8)} (h : ZbQ w rs es P) (hb : Below w.heap.size w w') : ZbQ w' rs es P := fun j hj => by
  obtain⟨x,y,sa,sc,e1,e2⟩:=h j hj;exact⟨x,y,sa,sc,e1,Zw e2 hb⟩
theorem ZbQ.grown {w w' : World} {rs : List (Value × Value × Value)} {es : List Entry} {P : List (List UInt8)} {b : Nat} {e : TypeId} {s : Nat} {v : Value} {n : Nat} {xs : List Value} (h : ZbQ w rs es P) (hg : w.grownBy w' v.ownBlock) (hv : w.ownsRow b e s v n xs) (he : 220 ≠ e) : ZbQ w' rs es P := fun j hj => by
  obtain⟨x,y,sa,sc,e1,e2⟩:=h j hj;exact⟨x,y,sa,sc,e1,e2.kept hg (Zed e2 hv he)⟩
theorem ZbQ.snoc{w:World}{rs:List (Value×Value×Value)}{es:List Entry}{P:List (List UInt8)}(hl:rs.length=es.length)(h:ZbQ w rs es P)(z:Entry)(x y:Value)(sa:Option Addr)(sc:Nat)
  (h1:w.ownsRow 0 220 2 (.slice sa z.count sc) z.count (ZK (Zbm (P.getD z.at_ [])))):ZbQ w (rs++[(x,y,.slice sa z.count sc)]) (es++[z]) P:=fun j hj=>by
 by_cases hlt:j<es.length
 ·obtain⟨x',y',sa',sc',e1,e2⟩:=h j hlt
  refine⟨x',y',sa',sc',?_⟩
  rw[List.getElem?_append_left (by rw[hl];exact hlt),List.getElem_append_left hlt]
  exact⟨e1,e2⟩
 ·have hj':j=es.length:=by simp at hj;omega
  subst hj'
  refine⟨x,y,sa,sc,?_⟩
  rw[List.getElem?_append_right (by rw[hl];exact Nat.le_refl _),hl]
  simp only[Nat.sub_self,List.getElem?_cons_zero,List.getElem_append_right (Nat.le_refl _),List.getElem_cons_zero]
  exact⟨trivial,h1⟩
def Zdv(w:World)(v:Value)(l:List UInt8):Prop:=∃(es:List Entry) (rs:List (Value×Value×Value)),ZI 0 [] (split 10 l)=.inr es∧Zbp [] es=none∧es.length≤30∧w.ownsRow 0 122 3 v es.length (Zb5 rs)∧ZbZ w rs es∧ZbQ w rs es (split 10 l)
theorem Zdv.below{w w':World}{v:Value}{l:List UInt8}(h:Zdv w v l)(hb:Below w.heap.size w w'):Zdv w' v l:=by
 obtain⟨es,rs,h1,h2,h3,h4,h5,h6⟩:=h;exact⟨es,rs,h1,h2,h3,Zw h4 hb,h5.below hb,h6.below hb⟩
theorem Zkm{lv:Value}{inside:List UInt8}(w:World)(h:Zc2 w lv inside)(hi:inside.length≤6000) :
  Calls Tryz.prog 52 #[lv] w fun e w'=>∃r:ByteArray,e=.returned (.string r)∧Hid (bl r=inside)∧∃n,w'=w.drewN n:=by
 obtain⟨qs,hown,hl⟩:=h
 have hbd:=ZjC hl hi
 have hlen:qs.length≤6001:=by have:=hbd.1;rwa [List.length_map]at this
 refine(Zkl lv 0 qs w hown hlen (fun q hq=>?_)).mono ?_
 ·have:=hbd.2 (bl2 q) (List.mem_map.2 ⟨q,hq,rfl⟩)
  have h1:q.1.size≤8:=by rw[←Zg];exact this.1
  have h2:q.2.size≤8:=by rw[←Zg];exact this.2
  exact⟨by omega,by omega⟩
 ·rintro e w' ⟨r,rfl,hr,hw⟩
  refine⟨r,rfl,?_,hw⟩
  rw[hr.out]
  have:=Zlq hl
  rwa [List.length_map]at this
end Go.Proofs.YtpbemaaghbbocaaGreatDoor
