/- Parts. -/
import Derived.WalkKit
import Derived.Lib.Strings
import Derived.WalkSpells
import Derived.WalkLawsBesides
import Derived.Test.YtkodhpilkaihjaaGreatDoorProg
namespace Go.Proofs.YtkodhpilkaihjaaGreatDoor.LS
open Go Go.RowKit
theorem hid{p:Prop}(h:p):Hid p:=h
def bl(s:ByteArray):List UInt8:=s.data.toList
theorem toList_bl(s:ByteArray):s.toList=bl s:=Lib.toList_data s
theorem bl_length(s:ByteArray):(bl s).length=s.size:=by simp[bl]
theorem empty_of{s:ByteArray}(h:s.size<1):s.toList.isEmpty=true:=by
 rw[toList_bl,List.isEmpty_iff,←List.length_eq_zero_iff,bl_length];omega
theorem not_empty_of{s:ByteArray}(h:1≤s.size):s.toList.isEmpty=false:=by
 rw[toList_bl,List.isEmpty_eq_false_iff,←List.length_pos_iff,bl_length];omega
theorem bl_mk(l:List UInt8):bl ⟨l.toArray⟩=l:=by simp[bl]
theorem mk_bl(s:ByteArray):(⟨(bl s).toArray⟩:ByteArray)=s:=by simp[bl]
theorem bl_get (s : ByteArray) (k : Nat) (h : k < s.size) : (bl s)[k]'(by rw [bl_length]; exact h) = s[k] := by
  unfold bl;rfl
theorem bl_inj{a b:ByteArray}(h:bl a=bl b):a=b:=by rw[←mk_bl a,←mk_bl b,h]
theorem bl_extract(s:ByteArray)(a b:Nat):bl (s.extract a b)=((bl s).take b).drop a:=by
 unfold bl
 rw[ByteArray.data_extract]
 simp[Array.toList_extract]
 rw[List.drop_take]
def letter(c:UInt8):Bool:=decide (97≤(c.toNat:Int)) && decide ((c.toNat:Int)≤122)
def digit(c:UInt8):Bool:=decide (48≤(c.toNat:Int)) && decide ((c.toNat:Int)≤57)
def isName(l:List UInt8):Bool:=l.all letter && (decide (1≤(l.length:Int)) && decide ((l.length:Int)≤8))
def isWord(l:List UInt8):Bool:=l.all (fun c=>letter c || digit c) && decide ((l.length:Int)≤8)
theorem take_snoc(s:ByteArray)(k:Nat)(h:k<s.size):(bl s).take (k+1)=(bl s).take k++[s[k]]:=by
 rw[List.take_succ_eq_append_getElem (by rw[bl_length];exact h),bl_get s k h]
theorem drop_cons(s:ByteArray)(k:Nat)(h:k<s.size):(bl s).drop k=s[k]::(bl s).drop (k+1):=by
 rw[List.drop_eq_getElem_cons (by rw[bl_length];exact h),bl_get s k h]
theorem all_step(p:UInt8→Bool)(s:ByteArray)(k:Nat)(h:k<s.size)(ha:((bl s).take k).all p=true)(hp:p s[k]=true):((bl s).take (k+1)).all p=true:=by
 rw[take_snoc s k h,List.all_append,ha];simp[hp]
theorem all_fail(p:UInt8→Bool)(s:ByteArray)(k:Nat)(h:k<s.size)(hp:p s[k]=false):(bl s).all p=false:=by
 rw[List.all_eq_false]
 exact⟨s[k],by rw[←bl_get s k h];exact List.getElem_mem _,by simp[hp]⟩
theorem all_end(p:UInt8→Bool)(s:ByteArray)(k:Nat)(h:¬k<s.size)(ha:((bl s).take k).all p=true):(bl s).all p=true:=by
 rwa [List.take_of_length_le (by rw[bl_length];omega)]at ha
def val(l:List UInt8):Nat:=l.foldl (fun n c=>10*n+(c.toNat - 48)) 0
def number(most:Nat)(l:List UInt8):Option Nat:=
 if l.length<1∨(l.head?=some 48∧1<l.length)∨l.all digit=false∨most<val l then none else some (val l)
theorem val_snoc(l:List UInt8)(c:UInt8):val (l++[c])=10*val l+(c.toNat - 48):=by simp[val]
theorem val_foldl_ge (r : List UInt8) : ∀ n : Nat, n ≤ r.foldl (fun n c => 10 * n + (c.toNat - 48)) n := by
  induction r with
  | nil=>intro n;exact Nat.le_refl _
  | cons c r ih=>intro n;exact Nat.le_trans (show n≤10*n+(c.toNat - 48) by omega) (ih _)
theorem val_take_le(l:List UInt8)(k:Nat):val (l.take k)≤val l:=by
 conv=>rhs;rw[←List.take_append_drop k l]
 unfold val
 rw[List.foldl_append]
 exact val_foldl_ge _ _
theorem digit_bounds{c:UInt8}(h:digit c=true):48≤c.toNat∧c.toNat≤57:=by
 simp[digit]at h;omega
def seek(c:UInt8):List UInt8→Option Nat
 | []=>none
 | b::l=>if b == c then some 0 else (seek c l).map (· + 1)
def cut(c:UInt8)(l:List UInt8):Option (List UInt8×List UInt8):=(seek c l).map fun i=>(l.take i,l.drop (i+1))
theorem seek_append_miss(c:UInt8)(a b:List UInt8)(h:seek c a=none):seek c (a++b)=(seek c b).map (· + a.length):=by
 induction a with
 | nil=>simp
 | cons x a ih=>
  unfold seek at h
  split at h
  ·cases h
  ·rename_i hx
   have h':seek c a=none:=by simpa using h
   simp only[List.cons_append,seek,hx]
   rw[ih h']
   cases seek c b <;> simp[Nat.add_assoc]
theorem seek_none_iff(c:UInt8)(l:List UInt8):seek c l=none ↔ c∉l:=by
 induction l with
 | nil=>simp[seek]
 | cons b l ih=>
  unfold seek
  by_cases hb:b=c
  ·subst hb;simp
  ·simp[hb,ih,Ne.symm hb]
theorem seek_some{c:UInt8}{l:List UInt8}{i:Nat}(h:seek c l=some i):∃a b,l=a++c::b∧a.length=i∧c∉a:=by
 induction l generalizing i with
 | nil=>simp[seek]at h
 | cons b l ih=>
  unfold seek at h
  by_cases hb:b=c
  ·subst hb;simp at h;subst h;exact⟨[],l,rfl,rfl,by simp⟩
  ·simp[hb]at h
   obtain⟨j,hj,rfl⟩:=h
   obtain⟨a',b',rfl,rfl,hn⟩:=ih hj
   exact⟨b::a',b',rfl,by simp,by simp[hn,Ne.symm hb]⟩
theorem seek_mid(c:UInt8)(a b:List UInt8)(h:c∉a):seek c (a++c::b)=some a.length:=by
 rw[seek_append_miss c a _ ((seek_none_iff c a).2 h)];simp[seek]
theorem seek_lt{c:UInt8}{l:List UInt8}{i:Nat}(h:seek c l=some i):i<l.length:=by
 obtain⟨a,b,rfl,rfl,_⟩:=seek_some h;simp
def pre(p:List UInt8):List (List UInt8)→List (List UInt8)
 | []=>[p]
 | h::t=>(p++h)::t
def split(c:UInt8):List UInt8→List (List UInt8)
 | []=>[[]]
 | b::l=>if b == c then []::split c l else pre [b] (split c l)
theorem split_ne(c:UInt8)(l:List UInt8):split c l≠[]:=by
 cases l with
 | nil=>simp[split]
 | cons b l=>
  unfold split
  split
  ·simp
  ·cases h:split c l <;> simp[pre]
theorem pre_nil(c:UInt8)(l:List UInt8):pre [] (split c l)=split c l:=by
 cases h:split c l with
 | nil=>exact absurd h (split_ne c l)
 | cons a t=>simp[pre]
theorem pre_pre(p q:List UInt8)(l:List (List UInt8))(h:l≠[]):pre p (pre q l)=pre (p++q) l:=by
 cases l with
 | nil=>exact absurd rfl h
 | cons a t=>simp[pre]
theorem split_hit(c:UInt8)(l:List UInt8):split c (c::l)=[]::split c l:=by simp[split]
theorem split_miss(c b:UInt8)(l:List UInt8)(h:(b == c)=false):split c (b::l)=pre [b] (split c l):=by
 simp only[split,h];rfl
theorem split_append(c:UInt8)(p r:List UInt8)(h:c∉p):split c (p++r)=pre p (split c r):=by
 induction p with
 | nil=>rw[List.nil_append,pre_nil]
 | cons x p ih=>
  have hx:(x == c)=false:=by simp;rintro rfl;simp at h
  rw[List.cons_append,split_miss c x _ hx,ih (by simp at h;exact h.2),pre_pre _ _ _ (split_ne c r)];rfl
theorem split_length(c:UInt8)(l:List UInt8):(split c l).length≤l.length+1:=by
 induction l with
 | nil=>simp[split]
 | cons b l ih=>
  by_cases hb:b=c
  ·subst hb;rw[split_hit];simp;exact ih
  ·rw[split_miss c b l (by simp[hb])]
   cases h2:split c l with
   | nil=>simp[pre]
   | cons a t=>rw[h2]at ih;simp[pre];simp at ih;omega
end Go.Proofs.YtkodhpilkaihjaaGreatDoor.LS
namespace Go.Proofs.YtkodhpilkaihjaaGreatDoor
open Go.RowKit LS
theorem own_below{w w':World}{base:Nat}{e:TypeId}{size:Nat}{v:Value}{n:Nat}{xs:List Value}(h:w.ownsRow base e size v n xs)(hb:Below w.heap.size w w'):w'.ownsRow base e size v n xs:=by
 obtain⟨h1,h2⟩:=h
 refine⟨h1,?_⟩
 rcases h2 with h2|⟨g,cap,cur,hv,hg,hh,r⟩
 ·exact Or.inl h2
 ·have hlt:g<w.heap.size:=by
   rcases Nat.lt_or_ge g w.heap.size with h|h
   ·exact h
   ·rw[Array.getElem?_eq_none h]at hh;cases hh
  exact Or.inr ⟨g,cap,cur,hv,hg,by rw[hb.block g hlt];exact hh,r⟩
theorem own_shape{w:World}{base:Nat}{e:TypeId}{size:Nat}{v:Value}{n:Nat}{xs:List Value}(h:w.ownsRow base e size v n xs):∃av cp,v=.slice av n cp:=by
 rcases h.2 with ⟨h,h'⟩|⟨g,cap,cur,h,_⟩
 ·exact⟨none,0,by rw[h,h']⟩
 ·exact⟨_,_,h⟩
theorem below_drewN(B:Nat)(w:World)(k:Nat):Below B w (w.drewN k):=⟨rfl,rfl,rfl,Nat.le_refl _,fun _ _=>rfl⟩
theorem below_drewN'{B:Nat}{a w:World}(h:Below B a w)(k:Nat):Below B a (w.drewN k):=h.trans (below_drewN B w k)
theorem size_of_bl{s:ByteArray}{r:List UInt8}(h:bl s=r):s.size=r.length:=by rw[←bl_length,h]
theorem cells_two{W:World}{a:Nat}{u v:Value}(h0:W.cell? ⟨a,0,none⟩=some u)(h1:W.cell? ⟨a,1,none⟩=some v):∀j x,[u,v][j]?=some x→W.cell? ((⟨a,0,none⟩:Addr).add j)=some x:=by
 intro j x hj
 match j,hj with
 | 0,hj=>simp at hj;subst hj;simpa [Addr.add] using h0
 | 1,hj=>simp at hj;subst hj;simpa [Addr.add] using h1
theorem add_zero_block(g j:Nat):(⟨g,0,none⟩:Addr).add j=⟨g,j,none⟩:=by
 by_cases h:j=0 <;> simp[Addr.add,h]
theorem own_cell{w:World}{base:Nat}{e:TypeId}{size:Nat}{g n cp:Nat}{xs:List Value}(h:w.ownsRow base e size (.slice (some ⟨g,0,none⟩) n cp) n xs)(j:Nat)(u:Value)(hj:xs[j]?=some u):w.cell? ⟨g,j,none⟩=some u:=by
 have:=h.cells rfl j u hj;rwa [add_zero_block]at this
theorem own_lt{w:World}{base:Nat}{e:TypeId}{size:Nat}{g n cp:Nat}{xs:List Value}(h:w.ownsRow base e size (.slice (some ⟨g,0,none⟩) n cp) n xs):g<w.heap.size:=(h.lt g rfl).2
theorem own_some{w:World}{base:Nat}{e:TypeId}{size:Nat}{v:Value}{n:Nat}{xs:List Value}(h:w.ownsRow base e size v n xs)(hn:0<n):∃g cp,v=.slice (some ⟨g,0,none⟩) n cp:=by
 rcases h.2 with ⟨_,h0⟩|⟨g,cap,cur,hv,_⟩
 ·omega
 ·exact⟨g,cap,hv⟩
theorem own_ne{w:World}{b1 b2:Nat}{e1 e2:TypeId}{s1 s2:Nat}{v1 v2:Value}{n1 n2:Nat}{xs1 xs2:List Value}(h1:w.ownsRow b1 e1 s1 v1 n1 xs1)(h2:w.ownsRow b2 e2 s2 v2 n2 xs2)(he:e1≠e2):v1.ownBlock=none∨v1.ownBlock≠v2.ownBlock:=by
 rcases h1.2 with ⟨rfl,_⟩|⟨g1,c1,cur1,rfl,_,hh1,_⟩
 ·exact Or.inl rfl
 ·right
  rcases h2.2 with ⟨rfl,_⟩|⟨g2,c2,cur2,rfl,_,hh2,_⟩
  ·simp[Value.ownBlock]
  ·intro h
   have hg:g1=g2:=by simpa [Value.ownBlock] using h
   subst hg
   rw[hh1]at hh2
   injection hh2 with h3
   injection h3 with _ h4
   exact he h4
theorem own_ne_block{w:World}{b:Nat}{e:TypeId}{sz:Nat}{v:Value}{n:Nat}{xs:List Value}(h:w.ownsRow b e sz v n xs){q:Nat}{c:Array Value}{t:TypeId}{fr:Nat×Nat}(hq:w.heap[q]?=some (.cells c t fr))(ht:t≠e):some q≠v.ownBlock:=by
 rcases h.2 with ⟨rfl,_⟩|⟨g,cp,cur,rfl,_,hh,_⟩
 ·simp[Value.ownBlock]
 ·intro he
  have hg:q=g:=by simpa [Value.ownBlock] using he
  subst hg
  rw[hq]at hh
  injection hh with h3
  injection h3 with _ h4
  exact ht h4
theorem nil_of_empty{s:ByteArray}(h:s.toList.isEmpty=true):bl s=[]:=by rw[toList_bl]at h;exact List.isEmpty_iff.1 h
theorem ne_of_nonempty{s:ByteArray}(h:s.toList.isEmpty=false):bl s≠[]:=by rw[toList_bl]at h;exact List.isEmpty_eq_false_iff.1 h
theorem split_piece_le(c:UInt8)(l:List UInt8):∀x∈split c l,x.length≤l.length:=by
 induction l with
 | nil=>simp[split]
 | cons b l ih=>
  intro x hx
  by_cases hb:b=c
  ·subst hb;rw[split_hit]at hx
   rcases List.mem_cons.1 hx with rfl|hx
   ·simp
   ·have:=ih x hx;simp;omega
  ·rw[split_miss c b l (by simp[hb])]at hx
   cases hsp:split c l with
   | nil=>exact absurd hsp (split_ne c l)
   | cons h t=>
    rw[hsp]at hx ih
    simp only[pre]at hx
    rcases List.mem_cons.1 hx with rfl|hx
    ·have:=ih h (by simp);simp;omega
    ·have:=ih x (by simp[hx]);simp;omega
theorem number_le{most v:Nat}{l:List UInt8}(h:number most l=some v):v≤most:=by
 unfold number at h;split at h
 ·cases h
 ·rename_i hn;have:=Option.some.inj h;simp at hn;omega
def sents : List Nat := [0, 1, 2, 3, 4, 5, 6, 7, 8, 9, 10, 11, 12]
structure Vars (w : World) (A : Nat → Addr) (m : Int) : Prop where
  max : w.cell? ⟨14, 0, none⟩ = some (.int .i64 m)
  sent : ∀ g ∈ sents, w.cell? ⟨g, 0, none⟩ = some (.iface 491 (.pointer (some (A g))))
  apart : ∀ g ∈ sents, ∀ h ∈ sents, g ≠ h → A g ≠ A h
  row : ∀ g ∈ sents, ∃ c t, w.heap[(A g).block]? = some (.cells c t (0, 0))
  handle : w.cell? ⟨13, 0, none⟩ = some (.iface 316 (.agg #[.pointer (some ⟨20, 60, none⟩)]))
theorem Vars.below {w w' : World} {A : Nat → Addr} {m : Int} (h : Vars w A m) (hb : Below w.heap.size w w') : Vars w' A m where
  max := (hb.cell (p := ⟨_, 0, none⟩) (World.block_lt_of_cell? _ _ h.max)).trans h.max
  sent g hg := (hb.cell (p := ⟨_, 0, none⟩) (World.block_lt_of_cell? _ _ (h.sent g hg))).trans (h.sent g hg)
  apart := h.apart
  row g hg := by
    obtain ⟨c, t, e⟩ := h.row g hg
    refine ⟨c, t, (hb.block _ ?_).trans e⟩
    rcases Nat.lt_or_ge (A g).block w.heap.size with h | h
    · exact h
    · rw [Array.getElem?_eq_none h] at e; cases e
  handle := (hb.cell (p := ⟨_, 0, none⟩) (World.block_lt_of_cell? _ _ h.handle)).trans h.handle
theorem Vars.alloc {w : World} {A : Nat → Addr} {m : Int} (h : Vars w A m) (o : Obj) : Vars (w.alloc o) A m := h.below ((Below.refl _ _).alloc (Nat.le_refl _) _)
theorem Vars.drewN {w : World} {A : Nat → Addr} {m : Int} (h : Vars w A m) (k : Nat) : Vars (w.drewN k) A m := h.below (below_drewN _ _ _)
theorem ret_bool{a b:Bool}(h:a=b):Ending.returned (.bool a)=.returned (.bool b):=by rw[h]
theorem ret_int{k:IntKind}{a b:Int}(h:a=b):Ending.returned (.int k a)=.returned (.int k b):=by rw[h]
theorem letter_any(c:UInt8)(w:World) :
  Calls Tryz.prog 179 #[.int .u8 c.toNat] w fun e w'=>e=.returned (.bool (letter c))∧w'=w:=by
 go_enter Tryz.func179,Tryz.ntmps179
 go_wp2
 all_goals
  go_ret
  exact⟨ret_bool (by unfold letter;simp;omega),rfl⟩
theorem isLetter_any(c:UInt8)(w:World) :
  Calls Tryz.prog 119 #[.int .u8 c.toNat] w fun e w'=>e=.returned (.bool (letter c))∧w'=w:=by
 go_enter Tryz.func119,Tryz.ntmps119
 go_wp2
 all_goals
  go_ret
  exact⟨ret_bool (by unfold letter;simp;omega),rfl⟩
theorem digit_any(c:UInt8)(w:World) :
  Calls Tryz.prog 174 #[.int .u8 c.toNat] w fun e w'=>e=.returned (.bool (digit c))∧w'=w:=by
 go_enter Tryz.func174,Tryz.ntmps174
 go_wp2
 all_goals
  go_ret
  exact⟨ret_bool (by unfold digit;simp;omega),rfl⟩
theorem isDigit_any(c:UInt8)(w:World) :
  Calls Tryz.prog 116 #[.int .u8 c.toNat] w fun e w'=>e=.returned (.bool (digit c))∧w'=w:=by
 go_enter Tryz.func116,Tryz.ntmps116
 go_wp2
 all_goals
  go_ret
  exact⟨ret_bool (by unfold digit;simp;omega),rfl⟩
set_option maxHeartbeats 400000 in
theorem rIsName_big(s:ByteArray)(w:World)(hs:s.size≤70000) :
  Calls Tryz.prog 106 #[.string s] w fun e w'=>e=.returned (.bool (isName (bl s)))∧w'=w:=by
 go_enter Tryz.func106,Tryz.ntmps106
 go_wp2
 go_loop [3] (fun i=>∃k:Nat,k≤s.size∧i=.int .i64 k∧((bl s).take k).all letter=true) (fun i=>s.size - (intOf i).toNat)
 case atStart=>exact⟨0,Nat.zero_le _,rfl,by simp⟩
 case round=>
  obtain⟨k,hk,rfl,ha0⟩:=hrel
  have ha:Hid (((bl s).take k).all letter=true):=ha0
  clear ha0
  by_cases hlt:k<s.size
  ·cases hl:letter s[k]
   ·have HF:Hid (isName (bl s)=false):=by unfold isName;rw[all_fail letter s k hlt hl];rfl
    go_wp2_with (go_at_call 179;refine(letter_any _ _).mono ?_;rintro e w' ⟨rfl,rfl⟩)
    go_ret
    exact⟨ret_bool HF.out.symm,rfl⟩
   ·have HF:=all_step letter s k hlt ha.out hl
    have HF':Hid (((bl s).take (k+1)).all letter=true):=HF
    clear HF
    go_wp2_with (go_at_call 179;refine(letter_any _ _).mono ?_;rintro e w' ⟨rfl,rfl⟩)
    go_round
    case rel=>exact⟨k+1,by omega,by go_num,HF'.out⟩
    case measure=>simp[intOf];omega
  ·have HF:Hid (isName (bl s)=(decide (1≤(s.size:Int)) && decide ((s.size:Int)≤8))):=by
    unfold isName;rw[all_end letter s k hlt ha.out,bl_length];rfl
   go_wp2
   all_goals
    go_ret
    refine⟨ret_bool ?_,rfl⟩
    rw[HF.out]
    simp;omega
set_option maxHeartbeats 400000 in
theorem wIsName_big(s:ByteArray)(w:World)(hs:s.size≤70000) :
  Calls Tryz.prog 120 #[.string s] w fun e w'=>e=.returned (.bool (isName (bl s)))∧w'=w:=by
 by_cases h1:s.size<1∨8<s.size
 ·have HF:Hid (isName (bl s)=false):=hid (by
   unfold isName;rw[bl_length]
   have:(decide (1≤(s.size:Int)) && decide ((s.size:Int)≤8))=false:=by simp;omega
   rw[this];simp)
  go_enter Tryz.func120,Tryz.ntmps120
  go_wp2
  all_goals first|omega|(go_ret;exact⟨ret_bool HF.out.symm,rfl⟩)
 ·have h2:1≤(s.size:Int):=by omega
  have h3:(s.size:Int)≤8:=by omega
  go_enter Tryz.func120,Tryz.ntmps120
  go_wp2
  go_loop [14] (fun i=>∃k:Nat,k≤s.size∧i=.int .i64 k∧((bl s).take k).all letter=true) (fun i=>s.size - (intOf i).toNat)
  case atStart=>exact⟨0,Nat.zero_le _,rfl,by simp⟩
  case round=>
   obtain⟨k,hk,rfl,ha0⟩:=hrel
   have ha:Hid (((bl s).take k).all letter=true):=ha0
   clear ha0
   by_cases hlt:k<s.size
   ·cases hl:letter s[k]
    ·have HF:Hid (isName (bl s)=false):=by unfold isName;rw[all_fail letter s k hlt hl];rfl
     go_wp2_with (go_at_call 119;refine(isLetter_any _ _).mono ?_;rintro e w' ⟨rfl,rfl⟩)
     go_ret
     exact⟨ret_bool HF.out.symm,rfl⟩
    ·have HF':Hid (((bl s).take (k+1)).all letter=true):=all_step letter s k hlt ha.out hl
     go_wp2_with (go_at_call 119;refine(isLetter_any _ _).mono ?_;rintro e w' ⟨rfl,rfl⟩)
     go_round
     case rel=>exact⟨k+1,by omega,by go_num,HF'.out⟩
     case measure=>simp[intOf];omega
   ·have HF:Hid (isName (bl s)=true):=hid (by
     unfold isName;rw[all_end letter s k hlt ha.out,bl_length];simp;omega)
    go_wp2
    go_ret
    exact⟨ret_bool HF.out.symm,rfl⟩
theorem wIsName_any(s:ByteArray)(w:World)(hs:s.size≤6000) :
  Calls Tryz.prog 120 #[.string s] w fun e w'=>e=.returned (.bool (isName (bl s)))∧w'=w:=wIsName_big s w (by omega)
set_option maxHeartbeats 400000 in
theorem rIsWord_any(s:ByteArray)(w:World)(hs:s.size≤6000) :
  Calls Tryz.prog 180 #[.string s] w fun e w'=>e=.returned (.bool (isWord (bl s)))∧w'=w:=by
 go_enter Tryz.func180,Tryz.ntmps180
 go_wp2
 go_loop [3] (fun i=>∃k:Nat,k≤s.size∧i=.int .i64 k∧((bl s).take k).all (fun c=>letter c || digit c)=true) (fun i=>s.size - (intOf i).toNat)
 case atStart=>exact⟨0,Nat.zero_le _,rfl,by simp⟩
 case round=>
  obtain⟨k,hk,rfl,ha0⟩:=hrel
  have ha:Hid (((bl s).take k).all (fun c=>letter c || digit c)=true):=ha0
  clear ha0
  by_cases hlt:k<s.size
  ·have HS:Hid ((letter s[k] || digit s[k])=true→((bl s).take (k+1)).all (fun c=>letter c || digit c)=true):=all_step (fun c=>letter c || digit c) s k hlt ha.out
   have HN : Hid ((letter s[k] || digit s[k]) = false → isWord (bl s) = false) := fun h => by
     unfold isWord;rw[all_fail (fun c=>letter c || digit c) s k hlt h];rfl
   cases hl:letter s[k] <;> cases hd:digit s[k]
   ·go_wp2_with (first|(go_at_call 179;refine(letter_any _ _).mono ?_;rintro e w' ⟨rfl,rfl⟩)|(go_at_call 174;refine(digit_any _ _).mono ?_;rintro e w' ⟨rfl,rfl⟩))
    go_ret
    exact⟨ret_bool (HN.out (by rw[hl,hd];rfl)).symm,rfl⟩
   all_goals
    go_wp2_with (first|(go_at_call 179;refine(letter_any _ _).mono ?_;rintro e w' ⟨rfl,rfl⟩)|(go_at_call 174;refine(digit_any _ _).mono ?_;rintro e w' ⟨rfl,rfl⟩))
    go_round
    case rel=>exact⟨k+1,by omega,by go_num,HS.out (by rw[hl,hd];rfl)⟩
    case measure=>simp[intOf];omega
  ·have HF:Hid (isWord (bl s)=decide ((s.size:Int)≤8)):=by
    unfold isWord;rw[all_end _ s k hlt ha.out,bl_length];rfl
   go_wp2
   go_ret
   exact⟨ret_bool HF.out.symm,rfl⟩
set_option maxHeartbeats 400000 in
theorem wIsWord_any(s:ByteArray)(w:World)(hs:s.size≤6000) :
  Calls Tryz.prog 121 #[.string s] w fun e w'=>e=.returned (.bool (isWord (bl s)))∧w'=w:=by
 by_cases h1:8<s.size
 ·have HF:Hid (isWord (bl s)=false):=hid (by
   unfold isWord;rw[bl_length]
   have:decide ((s.size:Int)≤8)=false:=by simp;omega
   rw[this];simp)
  go_enter Tryz.func121,Tryz.ntmps121
  go_wp2
  go_ret
  exact⟨ret_bool HF.out.symm,rfl⟩
 ·have h3:(s.size:Int)≤8:=by omega
  go_enter Tryz.func121,Tryz.ntmps121
  go_wp2
  go_loop [9] (fun i=>∃k:Nat,k≤s.size∧i=.int .i64 k∧((bl s).take k).all (fun c=>letter c || digit c)=true) (fun i=>s.size - (intOf i).toNat)
  case atStart=>exact⟨0,Nat.zero_le _,rfl,by simp⟩
  case round=>
   obtain⟨k,hk,rfl,ha0⟩:=hrel
   have ha:Hid (((bl s).take k).all (fun c=>letter c || digit c)=true):=ha0
   clear ha0
   by_cases hlt:k<s.size
   ·have HS:Hid ((letter s[k] || digit s[k])=true→((bl s).take (k+1)).all (fun c=>letter c || digit c)=true):=all_step (fun c=>letter c || digit c) s k hlt ha.out
    have HN : Hid ((letter s[k] || digit s[k]) = false → isWord (bl s) = false) := fun h => by
      unfold isWord;rw[all_fail (fun c=>letter c || digit c) s k hlt h];rfl
    cases hl:letter s[k] <;> cases hd:digit s[k]
    ·go_wp2_with (first|(go_at_call 119;refine(isLetter_any _ _).mono ?_;rintro e w' ⟨rfl,rfl⟩)|(go_at_call 116;refine(isDigit_any _ _).mono ?_;rintro e w' ⟨rfl,rfl⟩))
     go_ret
     exact⟨ret_bool (HN.out (by rw[hl,hd];rfl)).symm,rfl⟩
    all_goals
     go_wp2_with (first|(go_at_call 119;refine(isLetter_any _ _).mono ?_;rintro e w' ⟨rfl,rfl⟩)|(go_at_call 116;refine(isDigit_any _ _).mono ?_;rintro e w' ⟨rfl,rfl⟩))
     go_round
     case rel=>exact⟨k+1,by omega,by go_num,HS.out (by rw[hl,hd];rfl)⟩
     case measure=>simp[intOf];omega
   ·have HF:Hid (isWord (bl s)=true):=hid (by
     unfold isWord;rw[all_end _ s k hlt ha.out,bl_length];simp;omega)
    go_wp2
    go_ret
    exact⟨ret_bool HF.out.symm,rfl⟩
def seekI(c:UInt8)(l:List UInt8):Int:=match LS.seek c l with|none=>-1|some i=>i
theorem seekI_some{c:UInt8}{l:List UInt8}{i:Nat}(h:LS.seek c l=some i):seekI c l=i:=by unfold seekI;rw[h]
theorem seekI_none{c:UInt8}{l:List UInt8}(h:LS.seek c l=none):seekI c l=-1:=by unfold seekI;rw[h]
theorem seek_found(c:UInt8)(s:ByteArray)(k:Nat)(h:k<s.size)(hn:LS.seek c ((bl s).take k)=none)(he:s[k]=c):seekI c (bl s)=k:=by
 have e:bl s=(bl s).take k++(bl s).drop k:=(List.take_append_drop _ _).symm
 refine seekI_some ?_
 rw[e,seek_append_miss _ _ _ hn,drop_cons s k h]
 simp[LS.seek,he,bl_length];omega
theorem seek_on(c:UInt8)(s:ByteArray)(k:Nat)(h:k<s.size)(hn:LS.seek c ((bl s).take k)=none)(he:s[k]≠c):LS.seek c ((bl s).take (k+1))=none:=by
 rw[take_snoc s k h,seek_append_miss _ _ _ hn];simp[LS.seek,he]
set_option maxHeartbeats 400000 in
theorem seek_big(s:ByteArray)(c:UInt8)(w:World)(hs:s.size≤70000) :
  Calls Tryz.prog 102 #[.string s,.int .u8 c.toNat] w fun e w'=>e=.returned (.int .i64 (seekI c (bl s)))∧w'=w:=by
 go_enter Tryz.func102,Tryz.ntmps102
 go_wp2
 go_loop [5] (fun i=>∃k:Nat,k≤s.size∧i=.int .i64 k∧LS.seek c ((bl s).take k)=none) (fun i=>s.size - (intOf i).toNat)
 case atStart=>exact⟨0,Nat.zero_le _,rfl,by simp[LS.seek]⟩
 case round=>
  obtain⟨k,hk,rfl,ha0⟩:=hrel
  have ha:Hid (LS.seek c ((bl s).take k)=none):=ha0
  clear ha0
  by_cases hlt:k<s.size
  ·by_cases he:s[k]=c
   ·have HF:Hid (seekI c (bl s)=k):=seek_found c s k hlt ha.out he
    have hb:((s[k].toNat:Int) == (c.toNat:Int))=true:=by rw[he];simp
    clear he
    go_wp2
    go_ret
    exact⟨ret_int HF.out.symm,rfl⟩
   ·have HF:Hid (LS.seek c ((bl s).take (k+1))=none):=seek_on c s k hlt ha.out he
    have hb:((s[k].toNat:Int) == (c.toNat:Int))=false:=by
     rw[beq_eq_false_iff_ne];intro h;exact he (UInt8.toNat_inj.1 (by omega))
    clear he
    go_wp2
    go_round
    case rel=>exact⟨k+1,by omega,by go_num,HF.out⟩
    case measure=>simp[intOf];omega
  ·have HF:Hid (seekI c (bl s)=-1):=by
    have:=ha.out
    rw[List.take_of_length_le (by rw[bl_length];omega)]at this
    exact seekI_none this
   go_wp2
   go_ret
   exact⟨ret_int HF.out.symm,rfl⟩
theorem seek_any(s:ByteArray)(c:UInt8)(w:World)(hs:s.size≤6000) :
  Calls Tryz.prog 102 #[.string s,.int .u8 c.toNat] w fun e w'=>e=.returned (.int .i64 (seekI c (bl s)))∧w'=w:=seek_big s c w (by omega)
def numI(most:Nat)(l:List UInt8):Int:=match number most l with|none=>-1|some v=>v
theorem numI_none{most:Nat}{l:List UInt8}(h:number most l=none):numI most l=-1:=by unfold numI;rw[h]
theorem numI_some{most v:Nat}{l:List UInt8}(h:number most l=some v):numI most l=v:=by unfold numI;rw[h]
theorem number_short(most:Nat)(s:ByteArray)(h:s.size<1):number most (bl s)=none:=by
 unfold number;rw[if_pos (Or.inl (by rw[bl_length];exact h))]
theorem number_zero(most:Nat)(s:ByteArray)(h1:1<s.size)(h:s[0].toNat=48):number most (bl s)=none:=by
 unfold number
 refine if_pos (Or.inr (Or.inl ⟨?_,by rw[bl_length];exact h1⟩))
 rw[List.head?_eq_getElem?,List.getElem?_eq_getElem (by rw[bl_length];omega),bl_get s 0 (by omega)]
 exact congrArg some (UInt8.toNat_inj.1 h)
theorem number_bad(most:Nat)(s:ByteArray)(k:Nat)(h:k<s.size)(hd:digit s[k]=false):number most (bl s)=none:=by
 unfold number;exact if_pos (Or.inr (Or.inr (Or.inl (all_fail digit s k h hd))))
theorem number_over(most:Nat)(s:ByteArray)(k:Nat)(h:k<s.size)(ho:most<10*val ((bl s).take k)+(s[k].toNat - 48)):number most (bl s)=none:=by
 unfold number
 refine if_pos (Or.inr (Or.inr (Or.inr ?_)))
 have:=val_take_le (bl s) (k+1)
 rw[take_snoc s k h,val_snoc]at this
 omega
theorem number_ok(most:Nat)(s:ByteArray)(k:Nat)(h:¬k<s.size)(h1:1≤s.size)(hz:¬(s[0].toNat=48∧1<s.size))(ha:((bl s).take k).all digit=true)(hv:val ((bl s).take k)≤most):number most (bl s)=some (val ((bl s).take k)):=by
 have ha':=all_end digit s k h ha
 rw[List.take_of_length_le (by rw[bl_length];omega)]at hv ⊢
 unfold number
 refine if_neg ?_
 rintro(h|⟨h,h'⟩|h|h)
 ·rw[bl_length]at h;omega
 ·rw[bl_length]at h'
  rw[List.head?_eq_getElem?,List.getElem?_eq_getElem (by rw[bl_length];omega),bl_get s 0 (by omega)]at h
  exact hz ⟨by rw[Option.some.inj h];rfl,h'⟩
 ·rw[ha']at h;cases h
 ·omega
theorem val_step(s:ByteArray)(k:Nat)(h:k<s.size):val ((bl s).take (k+1))=10*val ((bl s).take k)+(s[k].toNat - 48):=by
 rw[take_snoc s k h,val_snoc]
set_option maxHeartbeats 1000000 in
theorem rNumber_big(s:ByteArray)(most:Nat)(w:World)(hs:s.size≤70000)(hm:most≤1000000000) :
  Calls Tryz.prog 103 #[.string s,.int .i64 most] w fun e w'=>e=.returned (.int .i64 (numI most (bl s)))∧w'=w:=by
 by_cases h0:s.size<1
 ·have HF:Hid (numI most (bl s)=-1):=numI_none (number_short most s h0)
  go_enter Tryz.func103,Tryz.ntmps103
  go_wp2
  go_ret
  exact⟨ret_int HF.out.symm,rfl⟩
 have h1:1≤s.size:=by omega
 by_cases hz:s[0].toNat=48∧1<s.size
 ·have HF:Hid (numI most (bl s)=-1):=numI_none (number_zero most s hz.2 hz.1)
  have hz1:((s[0].toNat:Int) == 48)=true:=by rw[hz.1];rfl
  have hz2:=hz.2
  clear hz
  go_enter Tryz.func103,Tryz.ntmps103
  go_wp2
  go_ret
  exact⟨ret_int HF.out.symm,rfl⟩
 have HZ:Hid (¬(s[0].toNat=48∧1<s.size)):=hz
 have hd1:decide ((s.size:Int)<1)=false:=by simp;omega
 have hcase:(((s[0].toNat:Int) == 48)=true∧decide (1<(s.size:Int))=false)∨((s[0].toNat:Int) == 48)=false:=by
  by_cases hz1:s[0].toNat=48
  ·exact Or.inl ⟨by rw[hz1];rfl,by simp;have:¬1<s.size:=fun h=>hz ⟨hz1,h⟩;omega⟩
  ·exact Or.inr (by rw[beq_eq_false_iff_ne];omega)
 clear hz h0
 rcases hcase with ⟨hz3,hd2⟩|hz3
 all_goals
  go_enter Tryz.func103,Tryz.ntmps103
  go_wp2
  go_loop [5,6] (fun n i=>∃k:Nat,k≤s.size∧i=.int .i64 k∧n=.int .i64 (val ((bl s).take k))∧val ((bl s).take k)≤most∧((bl s).take k).all digit=true) (fun _ i=>s.size - (intOf i).toNat)
  case atStart=>exact⟨0,Nat.zero_le _,rfl,by simp[val],by simp[val],by simp⟩
  case round=>
   obtain⟨k,hk,rfl,rfl,hv,ha0⟩:=hrel
   have ha:Hid (((bl s).take k).all digit=true):=ha0
   clear ha0
   by_cases hlt:k<s.size
   ·cases hd:digit s[k]
    ·have HF:Hid (numI most (bl s)=-1):=numI_none (number_bad most s k hlt hd)
     go_wp2_with (go_at_call 174;refine(digit_any _ _).mono ?_;rintro e w' ⟨rfl,rfl⟩)
     go_ret
     exact⟨ret_int HF.out.symm,rfl⟩
    ·obtain⟨d1,d2⟩:=digit_bounds hd
     have HS:Hid (val ((bl s).take (k+1))=10*val ((bl s).take k)+(s[k].toNat - 48)):=val_step s k hlt
     have HA:Hid (((bl s).take (k+1)).all digit=true):=all_step digit s k hlt ha.out hd
     by_cases ho:most<10*val ((bl s).take k)+(s[k].toNat - 48)
     ·have HF:Hid (numI most (bl s)=-1):=numI_none (number_over most s k hlt ho)
      go_wp2_with (go_at_call 174;refine(digit_any _ _).mono ?_;rintro e w' ⟨rfl,rfl⟩)
      go_ret
      exact⟨ret_int HF.out.symm,rfl⟩
     ·go_wp2_with (go_at_call 174;refine(digit_any _ _).mono ?_;rintro e w' ⟨rfl,rfl⟩)
      go_round
      case rel=>exact⟨k+1,by omega,by go_num,by rw[HS.out];go_num,by rw[HS.out];omega,HA.out⟩
      case measure=>simp[intOf];omega
   ·have HF:Hid (numI most (bl s)=val ((bl s).take k)):=numI_some (number_ok most s k hlt h1 HZ.out ha.out hv)
    go_wp2
    go_ret
    exact⟨ret_int HF.out.symm,rfl⟩
theorem rNumber_any(s:ByteArray)(most:Nat)(w:World)(hs:s.size≤6000)(hm:most≤1000000000) :
  Calls Tryz.prog 103 #[.string s,.int .i64 most] w fun e w'=>e=.returned (.int .i64 (numI most (bl s)))∧w'=w:=rNumber_big s most w (by omega) hm
def numT(most:Nat)(l:List UInt8):Value:=.tuple #[.int .i64 ((number most l).getD 0:Nat),.bool (number most l).isSome]
theorem numT_none{most:Nat}{l:List UInt8}(h:number most l=none):numT most l=.tuple #[.int .i64 0,.bool false]:=by unfold numT;rw[h];rfl
theorem numT_some{most v:Nat}{l:List UInt8}(h:number most l=some v):numT most l=.tuple #[.int .i64 v,.bool true]:=by unfold numT;rw[h];rfl
set_option maxHeartbeats 1000000 in
theorem wNumber_big(s:ByteArray)(most:Nat)(w:World)(hs:s.size≤70000)(hm9:9≤most)(hm:most≤1000000000) :
  Calls Tryz.prog 118 #[.string s,.int .i64 most] w fun e w'=>e=.returned (numT most (bl s))∧w'=w:=by
 by_cases h0:s.size<1
 ·have HF:Hid (numT most (bl s)=_):=numT_none (number_short most s h0)
  have he:s.toList.isEmpty=true:=empty_of h0
  go_enter Tryz.func118,Tryz.ntmps118
  go_wp2
  go_ret2
  exact⟨by rw[HF.out];rfl,rfl⟩
 have h1:1≤s.size:=by omega
 have he:s.toList.isEmpty=false:=not_empty_of h1
 by_cases hz:s[0].toNat=48∧1<s.size
 ·have HF:Hid (numT most (bl s)=_):=numT_none (number_zero most s hz.2 hz.1)
  have hz1:((s[0].toNat:Int) == 48)=true:=by rw[hz.1];rfl
  have hz2:=hz.2
  clear hz
  go_enter Tryz.func118,Tryz.ntmps118
  go_wp2
  go_ret2
  exact⟨by rw[HF.out];rfl,rfl⟩
 have HZ:Hid (¬(s[0].toNat=48∧1<s.size)):=hz
 have hcase:(((s[0].toNat:Int) == 48)=true∧decide (1<(s.size:Int))=false)∨((s[0].toNat:Int) == 48)=false:=by
  by_cases hz1:s[0].toNat=48
  ·exact Or.inl ⟨by rw[hz1];rfl,by simp;have:¬1<s.size:=fun h=>hz ⟨hz1,h⟩;omega⟩
  ·exact Or.inr (by rw[beq_eq_false_iff_ne];omega)
 clear hz h0
 rcases hcase with ⟨hz3,hd2⟩|hz3
 all_goals
  go_enter Tryz.func118,Tryz.ntmps118
  go_wp2
  go_loop [6,23] (fun n i=>∃k:Nat,k≤s.size∧i=.int .i64 k∧n=.int .i64 (val ((bl s).take k))∧val ((bl s).take k)≤most∧((bl s).take k).all digit=true) (fun _ i=>s.size - (intOf i).toNat)
  case atStart=>exact⟨0,Nat.zero_le _,rfl,by simp[val],by simp[val],by simp⟩
  case round=>
   obtain⟨k,hk,rfl,rfl,hv,ha0⟩:=hrel
   have ha:Hid (((bl s).take k).all digit=true):=ha0
   clear ha0
   by_cases hlt:k<s.size
   ·cases hd:digit s[k]
    ·have HF:Hid (numT most (bl s)=_):=numT_none (number_bad most s k hlt hd)
     go_wp2_with (go_at_call 116;refine(isDigit_any _ _).mono ?_;rintro e w' ⟨rfl,rfl⟩)
     go_ret2
     exact⟨by rw[HF.out];rfl,rfl⟩
    ·obtain⟨d1,d2⟩:=digit_bounds hd
     have HS:Hid (val ((bl s).take (k+1))=10*val ((bl s).take k)+(s[k].toNat - 48)):=val_step s k hlt
     have HA:Hid (((bl s).take (k+1)).all digit=true):=all_step digit s k hlt ha.out hd
     by_cases ho:most<10*val ((bl s).take k)+(s[k].toNat - 48)
     ·have HF:Hid (numT most (bl s)=_):=numT_none (number_over most s k hlt ho)
      go_wp2_with (go_at_call 116;refine(isDigit_any _ _).mono ?_;rintro e w' ⟨rfl,rfl⟩)
      all_goals first|(exfalso;omega)|(go_ret2;exact⟨by rw[HF.out];rfl,rfl⟩)
     ·go_wp2_with (go_at_call 116;refine(isDigit_any _ _).mono ?_;rintro e w' ⟨rfl,rfl⟩)
      all_goals first|(exfalso;omega)|skip
      go_round
      case rel=>exact⟨k+1,by omega,by go_num,by rw[HS.out];go_num,by rw[HS.out];omega,HA.out⟩
      case measure=>simp[intOf];omega
   ·have HF:Hid (numT most (bl s)=_):=numT_some (number_ok most s k hlt h1 HZ.out ha.out hv)
    go_wp2
    go_ret2
    exact⟨by rw[HF.out];rfl,rfl⟩
theorem wNumber_any(s:ByteArray)(most:Nat)(w:World)(hs:s.size≤6000)(hm9:9≤most)(hm:most≤1000000000) :
  Calls Tryz.prog 118 #[.string s,.int .i64 most] w fun e w'=>e=.returned (numT most (bl s))∧w'=w:=wNumber_big s most w (by omega) hm9 hm
theorem Tryz.infoString:(Tryz.prog.info? 9).map (fun i=>(i.zero,i.size,i.bytes))=some (some (.string ByteArray.empty),1,16):=by kernel_rfl
theorem split_none{c:UInt8}{l:List UInt8}(h:c∉l):split c l=[l]:=by
 have:=split_append c l [] h;rw[List.append_nil]at this;rw[this];simp[split,pre]
theorem seg_step{s:ByteArray}{f k:Nat}(hf:f≤k)(hk:k<s.size):((bl s).take (k+1)).drop f=((bl s).take k).drop f++[s[k]]:=by
 rw[take_snoc s k hk,List.drop_append_of_le_length (by rw[List.length_take,bl_length];omega)]
theorem drop_seg{s:ByteArray}{f k:Nat}(hf:f≤k):(bl s).drop f=((bl s).take k).drop f++(bl s).drop k:=by
 conv=>lhs;rw[←List.take_append_drop k (bl s)]
 by_cases h:k≤(bl s).length
 ·rw[List.drop_append_of_le_length (by rw[List.length_take];omega)]
 ·rw[List.drop_of_length_le (i:=k) (by omega),List.append_nil,List.append_nil]
set_option maxRecDepth 100000 in
set_option maxHeartbeats 1000000 in
theorem rSplit_big(s:ByteArray)(c:UInt8)(w:World)(hs:s.size≤70000) :
  Calls Tryz.prog 58 #[.string s, .int .u8 c.toNat] w fun e w' => ∃ (v : Value) (bs : List ByteArray), e = .returned v ∧
    w'.ownsRow w.heap.size 9 1 v bs.length (bs.map Value.string)∧Hid (bs.map bl=split c (bl s))∧Below w.heap.size w w':=by
 obtain⟨i0,hi,hz0,hz1,hz2⟩:=info_parts Tryz.infoString
 go_enter Tryz.func58,Tryz.ntmps58
 go_wp2
 go_loopw [5, 6, 7] (fun v fr i wr => ∃ (k f : Nat) (bs : List ByteArray), k ≤ s.size + 1 ∧ i = .int .i64 k ∧ fr = .int .i64 f ∧ bs.length ≤ k ∧ wr.ownsRow w.heap.size 9 1 v bs.length (bs.map Value.string) ∧ Below w.heap.size w wr ∧ f ≤ k ∧
     Hid ((k≤s.size∧split c (bl s)=bs.map bl++split c ((bl s).drop f)∧c∉((bl s).take k).drop f)∨(k=s.size+1∧split c (bl s)=bs.map bl)))
   (fun _ _ i _=>s.size+1 - (intOf i).toNat)
 case atStart=>exact⟨0,0,[],Nat.zero_le _,rfl,rfl,Nat.le_refl _,World.ownsRow_nil _ _ _ _,Below.refl _ _,Nat.le_refl _,Or.inl ⟨Nat.zero_le _,by simp,by simp⟩⟩
 case round=>
  obtain⟨k,f,bs,hk,rfl,rfl,hbk,hown,hbr,hfk,HA⟩:=hrel
  have hwr:w.heap.size≤wr.heap.size:=hbr.size
  by_cases hle:k≤s.size
  ·have HB:Hid (split c (bl s)=bs.map bl++split c ((bl s).drop f)∧c∉((bl s).take k).drop f):=by
    rcases HA.out with ⟨_,h1,h2⟩|⟨h,_⟩
    ·exact⟨h1,h2⟩
    ·omega
   clear HA
   have hcase:(k=s.size∧((k:Int) == (s.size:Int))=true)∨(((k:Int) == (s.size:Int))=false∧∃h:k<s.size,((s[k].toNat:Int) == (c.toNat:Int))=true∧s[k]=c)∨(((k:Int) == (s.size:Int))=false∧∃h:k<s.size,((s[k].toNat:Int) == (c.toNat:Int))=false∧s[k]≠c):=by
    by_cases h:k<s.size
    ·have h0:((k:Int) == (s.size:Int))=false:=by rw[beq_eq_false_iff_ne];omega
     by_cases he:s[k]=c
     ·exact Or.inr (Or.inl ⟨h0,h,by rw[he];simp,he⟩)
     ·exact Or.inr (Or.inr ⟨h0,h,by rw[beq_eq_false_iff_ne];intro hh;exact he (UInt8.toNat_inj.1 (by omega)),he⟩)
    ·exact Or.inl ⟨by omega,by rw[beq_iff_eq];omega⟩
   rcases hcase with ⟨hks,hb0⟩|⟨hb0,hlt,hb1,he⟩|⟨hb0,hlt,hb1,he⟩
   ·have HF:Hid ((k+1≤s.size∧split c (bl s)=(bs++[s.extract f k]).map bl++split c ((bl s).drop (k+1))∧c∉((bl s).take (k+1)).drop (k+1))∨(k+1=s.size+1∧split c (bl s)=(bs++[s.extract f k]).map bl)):=by
     refine Or.inr ⟨by omega,?_⟩
     have h2:=HB.out.2
     have hd:=drop_seg (s:=s) hfk
     rw[List.drop_of_length_le (i:=k) (by rw[bl_length];omega),List.append_nil]at hd
     rw[HB.out.1,hd,split_none h2,List.map_append,List.map_cons,List.map_nil,bl_extract]
    have HK:Hid (k=s.size):=hks
    clear hks HB
    go_wp2_with (at_builtin;refine wpList_append_own _ rfl (.tmp 25) (.tmp 30) 90 rfl w.heap.size 9 i0 (.string ByteArray.empty) 1 16 Tryz.underlying90 hi hz0 hz1 hz2 rfl (by decide) _ _ _ rfl (hown.alloc _) ⟨wr.heap.size,0,none⟩ 1 1 [.string (s.extract f k)] rfl rfl ?c1 ?c2 ?c3 ?c4 ?c5 ?_)
    case c1=>exact cell_one_new _ _ _
    case c2=>intro u hu;simp at hu;subst hu;rfl
    case c3=>unfold maxLen;omega
    case c4=>omega
    case c5=>simp;omega
    intro v' w3 hown3 hgrow _
    have hb3:Below w.heap.size w w3:=(hbr.alloc (by omega) _).grown hgrow (by simp;omega) (fun q hq=>(hown.lt q hq).1)
    have hown4:w3.ownsRow w.heap.size 9 1 v' (bs++[s.extract f k]).length ((bs++[s.extract f k]).map Value.string):=by
     rw[List.length_append,List.map_append];exact hown3
    clear hown hgrow hown3
    go_wp2
    go_roundw
    case rel=>exact⟨k+1,k+1,_,by omega,by go_num,by go_num,by simp;omega,hown4,hb3,Nat.le_refl _,HF⟩
    case measure=>simp[intOf];omega
   ·have HF:Hid ((k+1≤s.size∧split c (bl s)=(bs++[s.extract f k]).map bl++split c ((bl s).drop (k+1))∧c∉((bl s).take (k+1)).drop (k+1))∨(k+1=s.size+1∧split c (bl s)=(bs++[s.extract f k]).map bl)):=by
     refine Or.inl ⟨by omega,?_,?_⟩
     ·have hd:=drop_seg (s:=s) hfk
      rw[drop_cons s k hlt,he]at hd
      rw[HB.out.1,hd,split_append c _ _ HB.out.2,split_hit,List.map_append,List.map_cons,List.map_nil,bl_extract]
      simp[pre]
     ·rw[List.drop_of_length_le (by rw[List.length_take];omega)];simp
    clear HB he
    go_wp2_with (at_builtin;refine wpList_append_own _ rfl (.tmp 25) (.tmp 30) 90 rfl w.heap.size 9 i0 (.string ByteArray.empty) 1 16 Tryz.underlying90 hi hz0 hz1 hz2 rfl (by decide) _ _ _ rfl (hown.alloc _) ⟨wr.heap.size,0,none⟩ 1 1 [.string (s.extract f k)] rfl rfl ?c1 ?c2 ?c3 ?c4 ?c5 ?_)
    case c1=>exact cell_one_new _ _ _
    case c2=>intro u hu;simp at hu;subst hu;rfl
    case c3=>unfold maxLen;omega
    case c4=>omega
    case c5=>simp;omega
    intro v' w3 hown3 hgrow _
    have hb3:Below w.heap.size w w3:=(hbr.alloc (by omega) _).grown hgrow (by simp;omega) (fun q hq=>(hown.lt q hq).1)
    have hown4:w3.ownsRow w.heap.size 9 1 v' (bs++[s.extract f k]).length ((bs++[s.extract f k]).map Value.string):=by
     rw[List.length_append,List.map_append];exact hown3
    clear hown hgrow hown3
    go_wp2
    go_roundw
    case rel=>exact⟨k+1,k+1,_,by omega,by go_num,by go_num,by simp;omega,hown4,hb3,Nat.le_refl _,HF⟩
    case measure=>simp[intOf];omega
   ·have HF:Hid ((k+1≤s.size∧split c (bl s)=bs.map bl++split c ((bl s).drop f)∧c∉((bl s).take (k+1)).drop f)∨(k+1=s.size+1∧split c (bl s)=bs.map bl)):=by
     refine Or.inl ⟨by omega,HB.out.1,?_⟩
     rw[seg_step hfk hlt,List.mem_append,not_or]
     exact⟨HB.out.2,by simp;exact fun h=>he h.symm⟩
    clear HB he
    go_wp2
    go_roundw
    case rel=>exact⟨k+1,f,bs,by omega,by go_num,rfl,by omega,hown,hbr,by omega,HF⟩
    case measure=>simp[intOf];omega
  ·have HF:Hid (bs.map bl=split c (bl s)):=hid (by
    rcases HA.out with ⟨h,_⟩|⟨_,h⟩
    ·omega
    ·exact h.symm)
   go_wp2
   go_ret
   exact⟨_,bs,rfl,hown,HF,hbr⟩
theorem rSplit_any(s:ByteArray)(c:UInt8)(w:World)(hs:s.size≤6000) :
  Calls Tryz.prog 58 #[.string s, .int .u8 c.toNat] w fun e w' => ∃ (v : Value) (bs : List ByteArray), e = .returned v ∧
    w'.ownsRow w.heap.size 9 1 v bs.length (bs.map Value.string)∧Hid (bs.map bl=split c (bl s))∧Below w.heap.size w w':=rSplit_big s c w (by omega)
end Go.Proofs.YtkodhpilkaihjaaGreatDoor
