/- Parts. -/
import Derived.Test.YtkodhpilkaihjaaGreatDoorV03
import Derived.Deep.RegionLaw
namespace Go.Proofs.YtkodhpilkaihjaaGreatDoor.LS
open Go Go.RowKit
theorem lexC_gt(l:List UInt8)(j:Nat)(c:UInt8)(r:List UInt8)(hl:l.drop j=c::r):j<(lexC l j c r).2∧(lexC l j c r).2≤l.length:=by
 have hlen:l.length=j+(r.length+1):=by
  have:=congrArg List.length hl;simp at this
  have h2:j≤l.length:=by
   rcases Nat.lt_or_ge l.length j with h|h
   ·rw[List.drop_of_length_le (by omega)]at hl;cases hl
   ·exact h
  omega
 unfold lexC
 split
 ·rename_i hd
  have h1:=run_le digit (c::r)
  have h2:0<run digit (c::r):=by simp[run,hd]
  simp only[List.length_cons]at h1
  exact⟨by show j<j+_;omega,by show j+_≤_;omega⟩
 ·split
  ·rename_i hd
   have h1:=run_le letter (c::r)
   have h2:0<run letter (c::r):=by simp[run,hd]
   simp only[List.length_cons]at h1
   exact⟨by show j<j+_;omega,by show j+_≤_;omega⟩
  ·split
   ·split
    ·exact⟨by show j<l.length;omega,Nat.le_refl _⟩
    ·rename_i p hs
     have:=seek_lt hs
     exact⟨by show j<j+p+2;omega,by show j+p+2≤_;omega⟩
   ·split
    ·rename_i hc
     have:0<r.length:=by
      cases r with
      | nil=>simp at hc
      | cons a r=>simp
     exact⟨by show j<j+2;omega,by show j+2≤_;omega⟩
    ·split <;> exact⟨by show j<j+1;omega,by show j+1≤_;omega⟩
theorem lexAt_gt(l:List UInt8)(i:Nat)(hi:i≤l.length):((lexAt l i).1.kind≠0→i<(lexAt l i).2)∧(lexAt l i).2≤l.length:=by
 unfold lexAt
 have hr:=run_le (· == 32) (l.drop i)
 rw[List.length_drop]at hr
 generalize run (· == 32) (l.drop i)=n at *
 unfold lexJ
 cases hd:l.drop (i+n)with
 | nil=>exact⟨fun h=>absurd rfl h,by show i+n≤_;omega⟩
 | cons c r=>have:=lexC_gt l (i+n) c r hd;exact⟨fun _=>by show i<(lexC l (i+n) c r).2;omega,this.2⟩
theorem lexAt_txt(l:List UInt8)(i:Nat):(lexAt l i).1.txt.length≤l.length+2:=by
 unfold lexAt lexJ
 split
 ·simp
 ·rename_i c r hd
  have hl:r.length+1≤l.length:=by
   have:=congrArg List.length hd
   rw[List.length_drop,List.length_cons]at this
   omega
  unfold lexC
  split
  ·split
   ·simp only[List.length_take,List.length_cons];omega
   ·simp
  ·split
   ·split
    ·simp
    ·simp only[List.length_take,List.length_cons];omega
   ·split
    ·split
     ·simp
     ·split
      ·simp only[List.length_take];omega
      ·simp
    ·split
     ·simp
     ·split <;> simp
theorem lexAt_num(l:List UInt8)(i:Nat):(lexAt l i).1.kind=1→(number 1000000000 (lexAt l i).1.txt).isSome=true:=by
 unfold lexAt lexJ
 split
 ·intro h;cases h
 ·rename_i c r hd
  unfold lexC
  split
  ·split
   ·rename_i h;intro _;exact h
   ·intro h;cases h
  ·split
   ·split
    ·intro h;cases h
    ·intro h;cases h
   ·split
    ·split
     ·intro h;cases h
     ·split
      ·intro h;cases h
      ·intro h;cases h
    ·split
     ·intro h;cases h
     ·split
      ·intro h;cases h
      ·intro h;cases h
def Toks(l:List UInt8)(t:Tok)(at_:Nat)(ts:List Tok):Prop:=∃r,ts=t::r∧((t.kind=0∨t.kind=5)→r=[])∧(¬(t.kind=0∨t.kind=5)→∃n,l.length+1≤n+at_∧r=lexAll l n at_)∧t.txt.length≤l.length+2∧(t.kind=1→(number 1000000000 t.txt).isSome=true)
theorem Toks.hd{l:List UInt8}{t:Tok}{at_:Nat}{ts:List Tok}(h:Toks l t at_ ts):LS.hd ts=t:=by obtain⟨r,rfl,_⟩:=h;rfl
theorem Toks.pos{l:List UInt8}{t:Tok}{at_:Nat}{ts:List Tok}(h:Toks l t at_ ts):ts.length=ts.tail.length+1:=by obtain⟨r,rfl,_⟩:=h;rfl
theorem Toks.next{l:List UInt8}{t:Tok}{at_:Nat}{ts:List Tok}(h:Toks l t at_ ts)(ht:¬(t.kind=0∨t.kind=5))(ha:at_≤l.length):Toks l (lexAt l at_).1 (lexAt l at_).2 ts.tail:=by
 obtain⟨r,rfl,_,h,_⟩:=h
 obtain⟨n,hn,rfl⟩:=h ht
 obtain⟨m,rfl⟩:∃m,n=m+1:=⟨n - 1,by omega⟩
 have hg:=lexAt_gt l at_ ha
 show Toks _ _ _ (lexAll l (m+1) at_)
 unfold lexAll
 by_cases hk:(lexAt l at_).1.kind=0∨(lexAt l at_).1.kind=5
 ·rw[if_pos hk]
  exact⟨[],rfl,fun _=>rfl,fun h=>absurd hk h,lexAt_txt _ _,lexAt_num _ _⟩
 ·rw[if_neg hk]
  refine⟨_,rfl,fun h=>absurd h hk,fun _=>⟨m,?_,rfl⟩,lexAt_txt _ _,lexAt_num _ _⟩
  have:=hg.1 (fun h=>hk (Or.inl h));omega
theorem Toks.start(l:List UInt8):Toks l (lexAt l 0).1 (lexAt l 0).2 (lexAll l (l.length+1) 0):=by
 have hg:=lexAt_gt l 0 (Nat.zero_le _)
 show Toks _ _ _ (lexAll l (l.length+1) 0)
 unfold lexAll
 by_cases hk:(lexAt l 0).1.kind=0∨(lexAt l 0).1.kind=5
 ·rw[if_pos hk]
  exact⟨[],rfl,fun _=>rfl,fun h=>absurd hk h,lexAt_txt _ _,lexAt_num _ _⟩
 ·rw[if_neg hk]
  refine⟨_,rfl,fun h=>absurd h hk,fun _=>⟨l.length,?_,rfl⟩,lexAt_txt _ _,lexAt_num _ _⟩
  have:=hg.1 (fun h=>hk (Or.inl h));omega
theorem lexAll_len(l:List UInt8)(n i:Nat)(hi:i≤l.length):(lexAll l n i).length≤l.length+1 - i:=by
 induction n generalizing i with
 | zero=>exact Nat.zero_le _
 | succ n ih=>
  unfold lexAll
  have hg:=lexAt_gt l i hi
  split
  ·simp;omega
  ·rename_i hk
   have h1:=hg.1 (fun h=>hk (Or.inl h))
   have h2:=ih (lexAt l i).2 hg.2
   simp;omega
theorem Toks.len{l:List UInt8}{t:Tok}{at_:Nat}{ts:List Tok}(h:Toks l t at_ ts)(ha:at_≤l.length):ts.length≤l.length+2:=by
 obtain⟨r,rfl,h1,h2,_⟩:=h
 by_cases hk:t.kind=0∨t.kind=5
 ·rw[h1 hk];simp
 ·obtain⟨n,_,rfl⟩:=h2 hk
  have:=lexAll_len l n at_ ha
  simp;omega
theorem Toks.txt_le{l:List UInt8}{t:Tok}{at_:Nat}{ts:List Tok}(h:Toks l t at_ ts):t.txt.length≤l.length+2:=by
 obtain⟨_,_,_,_,h,_⟩:=h;exact h
theorem Toks.num{l:List UInt8}{t:Tok}{at_:Nat}{ts:List Tok}(h:Toks l t at_ ts):t.kind=1→(number 1000000000 t.txt).isSome=true:=by
 obtain⟨_,_,_,_,_,h⟩:=h;exact h
theorem isT_live{s:List UInt8}{t:Tok}(h:isT s t=true):¬(t.kind=0∨t.kind=5):=by
 unfold isT at h
 simp only[Bool.and_eq_true,Bool.or_eq_true,beq_iff_eq]at h
 omega
end Go.Proofs.YtkodhpilkaihjaaGreatDoor.LS
namespace Go.Proofs.YtkodhpilkaihjaaGreatDoor
open Go.RowKit LS
def QIs(w:World)(b:Nat)(pv:Value)(s:ByteArray)(ts:List Tok)(deep:Nat):Prop:=∃q:QV,QAt w b q∧q.pv=pv∧q.s=s∧q.deep=deep∧q.e=0∧q.at_≤s.size∧Toks (bl s) (tokOf q) q.at_ ts
def QErr(w:World)(b:Nat)(pv:Value)(e p:Nat)(deep:Nat):Prop:=∃q:QV,QAt w b q∧q.pv=pv∧q.deep=deep∧q.e=e∧e≠0∧q.pl=p
def QRes{α:Type}(w:World)(b:Nat)(pv:Value)(s:ByteArray)(deep:Nat)(r:Out α)(good:α→Prop):Prop:=match r with
 | .error x=>QErr w b pv x.1 x.2 deep
 | .ok x=>QIs w b pv s x.2 deep∧good x.1
theorem QIs.kept{w w':World}{b:Nat}{pv:Value}{s:ByteArray}{ts:List Tok}{deep:Nat}(h:QIs w b pv s ts deep)(hw:w'.heap[b]?=w.heap[b]?):QIs w' b pv s ts deep:=by
 obtain⟨q,h1,h2⟩:=h;exact⟨q,hw.trans h1,h2⟩
theorem QErr.kept{w w':World}{b:Nat}{pv:Value}{e p deep:Nat}(h:QErr w b pv e p deep)(hw:w'.heap[b]?=w.heap[b]?):QErr w' b pv e p deep:=by
 obtain⟨q,h1,h2⟩:=h;exact⟨q,hw.trans h1,h2⟩
theorem QIs.lt{w:World}{b:Nat}{pv:Value}{s:ByteArray}{ts:List Tok}{deep:Nat}(h:QIs w b pv s ts deep):b<w.heap.size:=by obtain⟨q,h1,_⟩:=h;exact h1.lt
theorem QErr.lt{w:World}{b:Nat}{pv:Value}{e p deep:Nat}(h:QErr w b pv e p deep):b<w.heap.size:=by obtain⟨q,h1,_⟩:=h;exact h1.lt
theorem QIs.is{w:World}{b:Nat}{pv:Value}{s:ByteArray}{ts:List Tok}{deep:Nat}(h:QIs w b pv s ts deep)(c:ByteArray) :
  Calls Tryz.prog 229 #[.pointer (some ⟨b,0,none⟩),.string c] w fun r w'=>r=.returned (.bool (isT (bl c) (hd ts)))∧w'=w:=by
 obtain⟨q,h1,_,_,_,h5,_,h7⟩:=h
 rw[h7.hd];exact qis_ok w b q c h1 h5
theorem QErr.is{w:World}{b:Nat}{pv:Value}{e p deep:Nat}(h:QErr w b pv e p deep)(c:ByteArray) :
  Calls Tryz.prog 229 #[.pointer (some ⟨b,0,none⟩),.string c] w fun r w'=>r=.returned (.bool false)∧w'=w:=by
 obtain⟨q,h1,_,_,h4,h5,_⟩:=h
 exact qis_err w b q c h1 (by rw[h4];exact h5)
theorem QErr.fail{w:World}{b:Nat}{pv:Value}{e p deep:Nat}(h:QErr w b pv e p deep)(c:Int) :
  Calls Tryz.prog 177 #[.pointer (some ⟨b,0,none⟩),.int .i64 c] w fun r w'=>r=.returned (.tuple #[])∧w'=w:=by
 obtain⟨q,h1,_,_,h4,h5,_⟩:=h
 exact qfail_err w b q c h1 (by rw[h4];exact h5)
theorem QIs.fail{w:World}{b:Nat}{pv:Value}{s:ByteArray}{ts:List Tok}{deep:Nat}(h:QIs w b pv s ts deep)(c:Nat)(ci:Int)(hci:ci=c)(hc:c≠0) :
  Calls Tryz.prog 177 #[.pointer (some ⟨b,0,none⟩),.int .i64 ci] w fun r w'=>r=.returned (.tuple #[])∧QErr w' b pv c (hd ts).at_ deep∧w.grownBy w' (some b):=by
 subst hci
 obtain⟨q,h1,h2,h3,h4,h5,h6,h7⟩:=h
 rw[h7.hd]
 refine(qfail_ok w b q c h1 h5).mono ?_
 rintro r w' ⟨rfl,hq,hg⟩
 exact⟨rfl,⟨_,hq,h2,h4,rfl,hc,rfl⟩,hg⟩
theorem QIs.next{w:World}{b:Nat}{pv:Value}{s:ByteArray}{ts:List Tok}{deep:Nat}(h:QIs w b pv s ts deep)(hs:s.size≤6000)(hl:¬((hd ts).kind=0∨(hd ts).kind=5)) :
  Calls Tryz.prog 175 #[.pointer (some ⟨b,0,none⟩)] w fun r w'=>r=.returned (.tuple #[])∧QIs w' b pv s ts.tail deep∧w.grownBy w' (some b):=by
 obtain⟨q,h1,h2,rfl,h4,h5,h6,h7⟩:=h
 rw[h7.hd]at hl
 refine(qnext_any w b q h1 hs h6).mono ?_
 rintro r w' ⟨rfl,⟨tx,htx,hq⟩,hg⟩
 have h8:=h7.next hl (by rw[bl_length];exact h6)
 refine⟨rfl,⟨_,hq,h2,rfl,h4,h5,?_,?_⟩,hg⟩
 ·have:=(lexAt_gt (bl q.s) q.at_ (by rw[bl_length];exact h6)).2;rw[bl_length]at this;exact this
 ·have e:tokOf { q with at_:=(lexAt (bl q.s) q.at_).2,k:=(lexAt (bl q.s) q.at_).1.kind,tx:=tx,ta:=(lexAt (bl q.s) q.at_).1.at_ }=(lexAt (bl q.s) q.at_).1:=by
   show(⟨_,bl tx,_⟩:Tok)=_;rw[htx]
  rw[e];exact h8
set_option maxHeartbeats 1000000 in
theorem QErr.take{w:World}{b:Nat}{pv:Value}{e p deep:Nat}(h:QErr w b pv e p deep)(c:ByteArray) :
  Calls Tryz.prog 318 #[.pointer (some ⟨b,0,none⟩),.string c] w fun r w'=>r=.returned (.tuple #[])∧w'=w:=by
 have H:Hid (QErr w b pv e p deep):=h
 clear h
 go_enter Tryz.func318,Tryz.ntmps318
 go_wp2_with fail
 refine(QErr.is H.out c).mono ?_
 rintro r w' ⟨rfl,rfl⟩
 go_wp2_with fail
 refine(QErr.fail H.out _).mono ?_
 rintro r w' ⟨rfl,rfl⟩
 go_wp2
 first|go_end0|refine bodyPost_ret (results_none rfl _ _ _) rfl ?_
 exact⟨rfl,rfl⟩
set_option maxHeartbeats 1000000 in
theorem QIs.take{w:World}{b:Nat}{pv:Value}{s:ByteArray}{ts:List Tok}{deep:Nat}(h:QIs w b pv s ts deep)(hs:s.size≤6000)(c:ByteArray) :
  Calls Tryz.prog 318 #[.pointer (some ⟨b,0,none⟩),.string c] w fun r w'=>r=.returned (.tuple #[])∧QRes w' b pv s deep (takeP (bl c) ts) (fun _=>True)∧w.grownBy w' (some b):=by
 have H:Hid (QIs w b pv s ts deep):=h
 clear h
 cases hc:isT (bl c) (hd ts)
 ·have HR:Hid (takeP (bl c) ts=.error (2,(hd ts).at_)):=hid (by unfold takeP;rw[hc];rfl)
  have HC:Hid _:=hc
  clear hc
  go_enter Tryz.func318,Tryz.ntmps318
  go_wp2_with fail
  refine(QIs.is H.out c).mono ?_
  rw[HC.out]
  rintro r w' ⟨rfl,rfl⟩
  go_wp2_with fail
  refine(QIs.fail H.out 2 _ rfl (by decide)).mono ?_
  rintro r w' ⟨rfl,hq,hg⟩
  have HQ:Hid _:=hq
  have HG:Hid _:=hg
  clear hq hg
  go_wp2
  first|go_end0|refine bodyPost_ret (results_none rfl _ _ _) rfl ?_
  rw[HR.out]
  exact⟨rfl,HQ.out,HG.out⟩
 ·have HR:Hid (takeP (bl c) ts=.ok ((),ts.tail)):=hid (by unfold takeP;rw[hc];rfl)
  have HC:Hid _:=hc
  clear hc
  go_enter Tryz.func318,Tryz.ntmps318
  go_wp2_with fail
  refine(QIs.is H.out c).mono ?_
  rw[HC.out]
  rintro r w' ⟨rfl,rfl⟩
  go_wp2_with fail
  refine(QIs.next H.out hs (isT_live HC.out)).mono ?_
  rintro r w' ⟨rfl,hq,hg⟩
  have HQ:Hid _:=hq
  have HG:Hid _:=hg
  clear hq hg
  go_wp2
  first|go_end0|refine bodyPost_ret (results_none rfl _ _ _) rfl ?_
  rw[HR.out]
  exact⟨rfl,⟨HQ.out,trivial⟩,HG.out⟩
set_option maxHeartbeats 1000000 in
theorem QErr.kind{w:World}{b:Nat}{pv:Value}{e p deep:Nat}(h:QErr w b pv e p deep)(c:Int) :
  Calls Tryz.prog 320 #[.pointer (some ⟨b,0,none⟩),.int .i64 c] w fun r w'=>r=.returned (.string ⟨#[]⟩)∧w'=w:=by
 obtain⟨q,h1,h2,h3,h4,h5,h6⟩:=h
 obtain⟨c0,c1,c2,c3,c4,c5,c6,c7,c8⟩:=h1.all
 have hne:((q.e:Int) != 0)=true:=by rw[bne_iff_ne];omega
 have H:Hid (QErr w b pv e p deep):=⟨q,h1,h2,h3,h4,h5,h6⟩
 clear h1 h2 h3 h4 h5 h6
 go_enter Tryz.func320,Tryz.ntmps320
 go_wp2_with fail
 refine(QErr.fail H.out _).mono ?_
 rintro r w' ⟨rfl,rfl⟩
 go_wp2
 go_ret
 exact⟨rfl,rfl⟩
set_option maxHeartbeats 1000000 in
theorem QIs.kind{w:World}{b:Nat}{pv:Value}{s:ByteArray}{ts:List Tok}{deep:Nat}(h:QIs w b pv s ts deep)(hs:s.size≤6000)(k:Nat)(ki:Int)(hki:ki=k)(hk:¬(k=0∨k=5)) :
  Calls Tryz.prog 320 #[.pointer (some ⟨b,0,none⟩),.int .i64 ki] w fun r w'=>∃x:ByteArray,r=.returned (.string x)∧QRes w' b pv s deep (kindP k ts) (fun a=>bl x=a)∧w.grownBy w' (some b):=by
 subst hki
 have H:Hid (QIs w b pv s ts deep):=h
 obtain⟨q,h1,h2,h3,h4,h5,h6,h7⟩:=h
 obtain⟨c0,c1,c2,c3,c4,c5,c6,c7,c8⟩:=h1.all
 have hz:((q.e:Int) != 0)=false:=by rw[h5];rfl
 have hh:=h7.hd
 clear h1 h2 h3 h4 h5 h6 h7
 by_cases hc:q.k=k
 ·have hck:((q.k:Int) != (k:Int))=false:=by rw[hc];simp
  have HR:Hid (kindP k ts=.ok (bl q.tx,ts.tail)):=hid (by
   unfold kindP;rw[hh,if_pos (show(tokOf q).kind=k from hc)];rfl)
  have HL:Hid (¬((hd ts).kind=0∨(hd ts).kind=5)):=hid (by rw[hh];show ¬(q.k=0∨q.k=5);rw[hc];exact hk)
  clear hc hh hk
  go_enter Tryz.func320,Tryz.ntmps320
  go_wp2_with fail
  refine(QIs.next H.out hs HL.out).mono ?_
  rintro r w' ⟨rfl,hq,hg⟩
  have HQ:Hid _:=hq
  have HG:Hid _:=hg
  clear hq hg
  go_wp2
  go_ret
  rw[HR.out]
  exact⟨q.tx,rfl,⟨HQ.out,rfl⟩,HG.out⟩
 ·have hck:((q.k:Int) != (k:Int))=true:=by rw[bne_iff_ne];omega
  have HR:Hid (kindP k ts=.error (2,(hd ts).at_)):=hid (by
   unfold kindP;rw[if_neg (show ¬(hd ts).kind=k by rw[hh];exact hc)])
  clear hc hh hk
  go_enter Tryz.func320,Tryz.ntmps320
  go_wp2_with fail
  refine(QIs.fail H.out 2 _ rfl (by decide)).mono ?_
  rintro r w' ⟨rfl,hq,hg⟩
  have HQ:Hid _:=hq
  have HG:Hid _:=hg
  clear hq hg
  go_wp2
  go_ret
  rw[HR.out]
  exact⟨⟨#[]⟩,rfl,HQ.out,HG.out⟩
theorem append_where{P:Program}{w:World}{t ty:TypeId}(base:Nat)(e:TypeId)(i:TypeInfo)(z:Value)(size bytes:Nat)(h1:P.underlying t=some (.slice e))(h2:P.info? e=some i)(h3:i.zero=some z)(h4:i.size=size)(h5:i.bytes=bytes)(h6:z.cells.size=size)(h7:0<size)
  (v:Value) (n:Nat) (xs:List Value) (hown:w.ownsRow base e size v n xs)
  (ad:Addr) (m c:Nat) (news:List Value) (hn:news.length=m*size) (hc:∀j u,news[j]?=some u→w.cell? (ad.add j)=some u) (h1c:∀u∈news,u.oneCell'=true)
  (b1:n+m≤maxLen) (b2:(n+m)*bytes≤140737488355328) {v':Value} {w':World} (hrun:(Builtin.append_ #[t,t] ty #[v,.slice (some ad) m c]).run P w=.ok v' w') :
  v'.ownBlock=v.ownBlock∨∀k,v'.ownBlock=some k→w.heap.size≤k:=by
 have hcells:=fun g hg=>@World.ownsRow.cells w base e size v n xs hown g hg
 have hlen:=hown.1
 rcases hown.2 with ⟨rfl,rfl⟩|⟨g,cap,cur,rfl,hb,hh,hnc,hcm,hcs,htk⟩
 ·right
  obtain rfl:xs=[]:=List.eq_nil_of_length_eq_zero (by simpa using hlen)
  obtain⟨v2,w2,hrun2,r1,_⟩:=run_append_own (P:=P) w w.heap.size t ty e i z size bytes h1 h2 h3 h4 h5 h6 h7 (.slice none 0 0) 0 [] (World.ownsRow_nil w _ e size) ad m c news hn hc h1c b1 b2 (Nat.le_refl _)
  rw[hrun]at hrun2
  injection hrun2 with e1 e2
  subst e1
  exact fun k hk=>(r1.lt k hk).1
 ·by_cases hroom:n+m≤cap
  ·left
   have hfit:n*i.size+news.length≤cur.size:=by rw[h4,hn,hcs,←Nat.add_mul];exact Nat.mul_le_mul_right _ hroom
   have hrun2:=run_append_room (P:=P) w t ty e i h1 h2 g n cap cur hh ad m c news (by rw[h4];exact hn) hc h1c hroom hfit
   rw[hrun]at hrun2
   injection hrun2 with e1 e2
   subst e1
   rfl
  ·right
   obtain⟨v2,w2,hrun2,r1,_⟩:=run_append_arg_grows (P:=P) w t ty e i z size bytes h1 h2 h3 h4 h5 h6 h7 ⟨g,0,none⟩ n cap xs hlen (hcells g rfl) ad m c news hn hc (by omega) b1 b2
   rw[hrun]at hrun2
   injection hrun2 with e1 e2
   subst e1
   exact fun k hk=>(r1.lt k hk).1
theorem step_append_own{P:Program}{ops:Array Oper}{o:Oper}{a:Act}{w:World}{K:Act→World→Prop}{Q:Exit→Act→World→Prop}{E:Prop}
  (hg:o.guard=none) (s x:Operand) (t:TypeId) (hop:o.op=Op.call { callee:=Callee.builtin Builtin.append,args:=#[s,x],argTypes:=#[t,t] })
  (base:Nat) (e:TypeId) (i:TypeInfo) (z:Value) (size bytes:Nat) (h1:P.underlying t=some (.slice e)) (h2:P.info? e=some i) (h3:i.zero=some z) (h4:i.size=size) (h5:i.bytes=bytes) (h6:z.cells.size=size) (h7:0<size)
  (v:Value) (n:Nat) (xs:List Value) (hs:a.eval s=v) (hown:w.ownsRow base e size v n xs)
  (ad:Addr) (m c:Nat) (news:List Value) (hx:a.eval x=.slice (some ad) m c) (hn:news.length=m*size) (hc:∀j u,news[j]?=some u→w.cell? (ad.add j)=some u) (h1c:∀u∈news,u.oneCell'=true)
  (b1:n+m≤maxLen) (b2:(n+m)*bytes≤140737488355328) (hbase:base≤w.heap.size)
  (hK:∀v' w',w'.ownsRow base e size v' (n+m) (xs++news)→w.grownBy w' v.ownBlock→(v'.ownBlock=v.ownBlock∨∀k,v'.ownBlock=some k→w.heap.size≤k)→K (a.put o.dst v') w') :
  if Region.wanted o (yielded ops a.tmps)=true then Oper.wp P o a w K Q else E:=by
 have hw:Region.wanted o (yielded ops a.tmps)=true:=by simp[Region.wanted,hg]
 rw[if_pos hw]
 obtain⟨v',w',hrun,r1,r2,_⟩:=run_append_own (P:=P) w base t o.type e i z size bytes h1 h2 h3 h4 h5 h6 h7 v n xs hown ad m c news hn hc h1c b1 b2 hbase
 have r3:=append_where base e i z size bytes h1 h2 h3 h4 h5 h6 h7 v n xs hown ad m c news hn hc h1c b1 b2 hrun
 unfold Oper.wp
 simp[execOp,hop,resolve,invoke,builtin,hs,hx,hrun,Result.andThen]
 exact hK v' w' r1 r2 r3
structure Kept (b:Nat) (pv:Value) (w:World) (pv':Value) (w':World):Prop where
 os:w'.os=w.os
 tape:w'.tape=w.tape
 output:w'.output=w.output
 size:w.heap.size≤w'.heap.size
 block:∀k,k<w.heap.size→k≠b→some k≠pv.ownBlock→w'.heap[k]?=w.heap[k]?
 own:pv'.ownBlock=pv.ownBlock∨∀k,pv'.ownBlock=some k→w.heap.size≤k
theorem Kept.refl(b:Nat)(pv:Value)(w:World):Kept b pv w pv w:=⟨rfl,rfl,rfl,Nat.le_refl _,fun _ _ _ _=>rfl,Or.inl rfl⟩
theorem Kept.trans{b:Nat}{p1 p2 p3:Value}{w1 w2 w3:World}(h:Kept b p1 w1 p2 w2)(h':Kept b p2 w2 p3 w3):Kept b p1 w1 p3 w3:=by
 refine⟨h'.os.trans h.os,h'.tape.trans h.tape,h'.output.trans h.output,Nat.le_trans h.size h'.size,?_,?_⟩
 ·intro k hk hb hp
  refine(h'.block k (Nat.lt_of_lt_of_le hk h.size) hb ?_).trans (h.block k hk hb hp)
  rcases h.own with e|e
  ·rw[e];exact hp
  ·intro e2;have:=e k e2.symm;omega
 ·rcases h'.own with e|e
  ·rw[e];exact h.own
  ·exact Or.inr fun k hk=>Nat.le_trans h.size (e k hk)
theorem Kept.grown{b:Nat}{p1 p2:Value}{w1 w2 w3:World}(h:Kept b p1 w1 p2 w2)(h':w2.grownBy w3 (some b)):Kept b p1 w1 p2 w3:=
 h.trans ⟨h'.os,h'.tape,h'.output,h'.size,fun k hk hb _=>h'.block k hk (fun e=>hb (Option.some.inj e)),Or.inl rfl⟩
theorem Tryz.infoPart:(Tryz.prog.info? 92).map (fun i=>(i.zero,i.size,i.bytes))=some (some (.agg #[.int .i64 0,.int .i64 0,.int .i64 0,.string ByteArray.empty,.slice none 0 0,.slice none 0 0,.int .i64 0,.int .i64 0]),8,104):=by kernel_rfl
theorem cells_eight{W:World}{a:Nat}{x0 x1 x2 x3 x4 x5 x6 x7:Value}{t:TypeId}{fr:Nat×Nat}(h:W.heap[a]?=some (.cells #[x0,x1,x2,x3,x4,x5,x6,x7] t fr)):∀j x,[x0,x1,x2,x3,x4,x5,x6,x7][j]?=some x→W.cell? ((⟨a,0,none⟩:Addr).add j)=some x:=by
 intro j x hj
 rw[add_zero_block]
 simp only[World.cell?,h]
 simpa using hj
theorem QAt.grownBy{w w':World}{b:Nat}{q:QV}{r:Option Nat}(h:QAt w b q)(hg:w.grownBy w' r)(hne:some b≠r):QAt w' b q:=(hg.block b h.lt hne).trans h
structure PV where
 k:Int
 n:Int
 op:Int
 nm:ByteArray
 ca:Option Addr
 cn:Nat
 cc:Nat
 ba:Option Addr
 bn:Nat
 bc:Nat
 a:Int
 b:Int
def PV.cells(p:PV):List Value:=[.int .i64 p.k,.int .i64 p.n,.int .i64 p.op,.string p.nm,.slice p.ca p.cn p.cc,.slice p.ba p.bn p.bc,.int .i64 p.a,.int .i64 p.b]
set_option maxRecDepth 100000 in
set_option maxHeartbeats 2000000 in
theorem qlay_any(w:World)(b:Nat)(q:QV)(h:QAt w b q)(n:Nat)(xs:List Value)(hown:w.ownsRow 0 92 8 q.pv n xs)(hn:n≤6000)(p:PV) :
  Calls Tryz.prog 230 #[.pointer (some ⟨b,0,none⟩),.agg #[.int .i64 p.k,.int .i64 p.n,.int .i64 p.op,.string p.nm,.slice p.ca p.cn p.cc,.slice p.ba p.bn p.bc,.int .i64 p.a,.int .i64 p.b]] w fun r w'=>
   ∃pv',r=.returned (.int .i64 n)∧QAt w' b { q with pv:=pv' }∧w'.ownsRow 0 92 8 pv' (n+1) (xs++p.cells)∧Kept b q.pv w pv' w':=by
 obtain⟨i0,hi,hz0,hz1,hz2⟩:=info_parts Tryz.infoPart
 obtain⟨c0,c1,c2,c3,c4,c5,c6,c7,c8⟩:=h.all
 have hlt:=h.lt
 have H:Hid (QAt w b q):=h
 obtain⟨k,pn,op,nm,ca,cn,cc,ba,bn,bc,pa,pb⟩:=p
 obtain⟨av,cp,hpv⟩:=own_shape hown
 have hown2:w.ownsRow 0 92 8 (.slice av n cp) n xs:=by rw[←hpv];exact hown
 have HN:Hid (some b≠(Value.slice av n cp).ownBlock):=own_ne_block hown2 h (by decide)
 have HP:Hid (q.pv=.slice av n cp):=hpv
 have HO:Hid (∀(o1 o2:Obj),((w.alloc o1).alloc o2).drew.ownsRow 0 92 8 (.slice av n cp) n xs):=fun o1 o2=>(hown2.alloc o1).alloc o2
 have HB : Hid (∀ (o1 o2 : Obj), ((w.alloc o1).alloc o2).drew.heap[w.heap.size + 1]? = some o2) := fun o1 o2 => by
   have:=Go.Deep.blk_alloc_new (w.alloc o1) o2;rw[Go.Deep.nblk_alloc]at this;exact this
 have HQ0:Hid (∀(o1 o2:Obj),QAt ((w.alloc o1).alloc o2).drew b q):=fun o1 o2=>QAt.alloc (QAt.alloc h o1) o2
 clear h hown hown2
 rw[hpv]at c0
 clear hpv
 go_enter Tryz.func230,Tryz.ntmps230
 go_wp2
 go_region_law (
  refine step_append_own rfl (.tmp 9) (.tmp 11) 98 rfl 0 92 i0 _ 8 104 Tryz.underlying98 hi hz0 hz1 hz2 rfl (by decide) (.slice av n cp) n xs (by simp[Act.eval]) (HO.out _ _) ⟨w.heap.size+1,0,none⟩ 1 1 [.int .i64 k,.int .i64 pn,.int .i64 op,.string nm,.slice ca cn cc,.slice ba bn bc,.int .i64 pa,.int .i64 pb] (by simp[Act.eval]) rfl ?h2 ?h3 ?h4 ?h5 (Nat.zero_le _) ?_
  case h2=>exact cells_eight (HB.out _ _)
  case h3=>intro u hu;simp at hu;rcases hu with rfl|rfl|rfl|rfl|rfl|rfl|rfl|rfl <;> rfl
  case h4=>unfold maxLen;omega
  case h5=>omega
  intro v1 w1 hown1 hgrow1 hwhere1
  have hq1:QAt w1 b q:=QAt.grownBy (HQ0.out _ _) hgrow1 HN.out
  obtain⟨g1,cp1,hv1⟩:=own_some hown1 (by omega)
  subst hv1
  have d0:=(QAt.all hq1).1
  rw[HP.out]at d0
  have e0:=QAt.frozen hq1 0)
 all_goals
  have HQ1:Hid (QAt w1 b q):=hq1
  have HO1:Hid (w1.ownsRow 0 92 8 (.slice (some ⟨g1,0,none⟩) (n+1) cp1) (n+1) (xs++[.int .i64 k,.int .i64 pn,.int .i64 op,.string nm,.slice ca cn cc,.slice ba bn bc,.int .i64 pa,.int .i64 pb])):=hown1
  have HG1:Hid _:=hgrow1
  have HW1:Hid _:=hwhere1
  clear hq1 hown1 hgrow1 hwhere1 c0 c1 c2 c3 c4 c5 c6 c7 c8
  go_wp2
  go_ret
  refine⟨_,ret_int (by omega),QAt.set HQ1.out 0 _ rfl,World.ownsRow.kept HO1.out (grown_set (b:=b) (grown_refl _ _) (Or.inl rfl) _) (Or.inr ?_),?_⟩
  ·exact fun e=>own_ne_block HO1.out HQ1.out (by decide) e.symm
  ·have hg:=HG1.out
   have hsz:=hg.size
   rw[show((w.alloc _).alloc _).drew.heap.size=w.heap.size+1+1 from by rw[show((w.alloc _).alloc _).drew.heap.size=((w.alloc _).alloc _).heap.size from rfl,Go.Deep.nblk_alloc,Go.Deep.nblk_alloc]]at hsz
   refine⟨hg.os,hg.tape,hg.output,?_,?_,?_⟩
   ·rw[Go.Deep.nblk_setCell];omega
   ·intro j hj hjb hjp
    rw[Go.Deep.blk_setCell_other _ _ _ _ (show j≠b from hjb)]
    rw[HP.out]at hjp
    refine(hg.block j ?_ hjp).trans ?_
    ·show j<((w.alloc _).alloc _).heap.size
     rw[Go.Deep.nblk_alloc,Go.Deep.nblk_alloc];omega
    ·show((w.alloc _).alloc _).heap[j]?=_
     rw[Go.Deep.blk_alloc_lt _ _ _ (by rw[Go.Deep.nblk_alloc];omega),Go.Deep.blk_alloc_lt _ _ _ hj]
   ·rw[HP.out]
    rcases HW1.out with h|h
    ·exact Or.inl h
    ·refine Or.inr fun j hj=>?_
     have:=h j hj
     have h2:((w.alloc _).alloc _).heap.size≤j:=this
     rw[Go.Deep.nblk_alloc,Go.Deep.nblk_alloc]at h2;omega
end Go.Proofs.YtkodhpilkaihjaaGreatDoor
namespace Go.Proofs.YtkodhpilkaihjaaGreatDoor.LS
open Go Go.RowKit
def idxI(w:List UInt8)(l:List (List UInt8)):Int:=match idx w l with
 | none=>-1
 | some i=>i
theorem idx_skip {w : List UInt8} {l : List (List UInt8)} (k : Nat) (hk : k < l.length) (h : l.getD k [] ≠ w) (m : Nat) (he : idxI w l = match idx w (l.drop k) with | none => -1 | some i => ((i + k : Nat) : Int)) (hm : m = k + 1) :
    idxI w l=match idx w (l.drop m)with|none=>-1|some i=>((i+m:Nat):Int):=by
  subst hm
  rw[he]
  rw[List.drop_eq_getElem_cons hk]
  have e:l.getD k []=l[k]:=by simp[hk]
  rw[e]at h
  show(match (if l[k]=w then some 0 else (idx w (l.drop (k+1))).map (· + 1))with|none=>(-1:Int)|some i=>((i+k:Nat):Int))=_
  rw[if_neg h]
  cases idx w (l.drop (k+1))with
  | none=>rfl
  | some i=>show(((i+1+k:Nat)):Int)=((i+(k+1):Nat):Int);omega
theorem idx_hit {w : List UInt8} {l : List (List UInt8)} (k : Nat) (hk : k < l.length) (h : l.getD k [] = w) (he : idxI w l = match idx w (l.drop k) with | none => -1 | some i => ((i + k : Nat) : Int)) : idxI w l = k := by
  rw[he,List.drop_eq_getElem_cons hk]
  have e:l.getD k []=l[k]:=by simp[hk]
  rw[e]at h
  show(match (if l[k]=w then some 0 else (idx w (l.drop (k+1))).map (· + 1))with|none=>(-1:Int)|some i=>((i+k:Nat):Int))=_
  rw[if_pos h]
  show((0+k:Nat):Int)=k
  omega
theorem idx_end {w : List UInt8} {l : List (List UInt8)} (k : Nat) (hk : ¬ k < l.length) (he : idxI w l = match idx w (l.drop k) with | none => -1 | some i => ((i + k : Nat) : Int)) : idxI w l = -1 := by
  rw[he,List.drop_of_length_le (by omega)];rfl
theorem idxI_start(w:List UInt8)(l:List (List UInt8)):idxI w l=match idx w (l.drop 0)with|none=>-1|some i=>((i+0:Nat):Int):=rfl
end Go.Proofs.YtkodhpilkaihjaaGreatDoor.LS
namespace Go.Proofs.YtkodhpilkaihjaaGreatDoor
open Go.RowKit LS
set_option maxHeartbeats 1000000 in
theorem among_any(s x:ByteArray)(w:World)(hs:s.size≤6000) :
  Calls Tryz.prog 316 #[.string s,.string x] w fun r w'=>r=.returned (.int .i64 (idxI (bl x) (split 32 (bl s))))∧Below w.heap.size w w':=by
 go_enter Tryz.func316,Tryz.ntmps316
 go_wp2_with fail
 refine(rSplit_of s 32 _ _ rfl hs).mono ?_
 rintro e w1 ⟨g,n,cp,bs,rfl,hn,hg0,hgl,hcells,hsp,hb1⟩
 have HN:Hid (n=bs.length):=hn
 have hlen:(split 32 (bl s)).length=n:=by rw[←hsp.out,List.length_map,hn]
 have hn6:n≤6001:=by have:=split_length 32 (bl s);rw[bl_length]at this;omega
 clear hn
 have HLen:Hid _:=hlen
 clear hlen
 go_wp2
 go_loop [6] (fun i=>∃k:Nat,k≤n∧i=.int .i64 k∧Hid (idxI (bl x) (split 32 (bl s))=match idx (bl x) ((split 32 (bl s)).drop k)with|none=>-1|some i=>((i+k:Nat):Int))) (fun i=>n - (intOf i).toNat)
 case atStart=>exact⟨0,Nat.zero_le _,rfl,idxI_start _ _⟩
 case round=>
  obtain⟨k,hk,rfl,HA⟩:=hrel
  by_cases hlt:k<n
  ·have hkb:k<bs.length:=by rw[←HN.out];exact hlt
   have hkl:k<(split 32 (bl s)).length:=by rw[HLen.out];exact hlt
   have hck:w1.cell? ⟨g,k,none⟩=some (.string bs[k]):=hcells.out k hkb
   have HK:Hid (bl bs[k]=(split 32 (bl s)).getD k []):=map_bl_get hsp.out k hkb
   generalize bs[k]=sk at hck HK
   cases he:(sk.toList == x.toList)
   ·have HF : Hid (idxI (bl x) (split 32 (bl s)) = match idx (bl x) ((split 32 (bl s)).drop (k + 1)) with | none => -1 | some i => ((i + (k + 1) : Nat) : Int)) := hid (by
      refine idx_skip k hkl ?_ _ HA.out rfl
      rw[←HK.out];rw[toList_bl,toList_bl]at he;exact beq_eq_false_iff_ne.1 he)
    go_wp2
    go_round
    case rel=>exact⟨k+1,by omega,by go_num,HF⟩
    case measure=>simp[intOf];omega
   ·have HF:Hid (idxI (bl x) (split 32 (bl s))=k):=hid (by
     refine idx_hit k hkl ?_ HA.out
     rw[←HK.out];rw[toList_bl,toList_bl]at he;exact beq_iff_eq.1 he)
    go_wp2
    go_ret
    exact⟨by rw[HF.out];rfl,hb1⟩
  ·have HF:Hid (idxI (bl x) (split 32 (bl s))=-1):=hid (idx_end k (by rw[HLen.out];exact hlt) HA.out)
   go_wp2
   go_ret
   exact⟨by rw[HF.out];rfl,hb1⟩
end Go.Proofs.YtkodhpilkaihjaaGreatDoor
namespace Go.Proofs.YtkodhpilkaihjaaGreatDoor
open Go.RowKit LS
def St(w:World)(b:Nat)(pv:Value)(s:ByteArray)(deep:Nat)(r:Out Unit):Prop:=QRes w b pv s deep r (fun _=>True)
def isR(c:List UInt8)(r:Out Unit):Bool:=match r with
 | .error _=>false
 | .ok x=>isT c (hd x.2)
theorem St.kept{w w':World}{b:Nat}{pv:Value}{s:ByteArray}{deep:Nat}{r:Out Unit}(h:St w b pv s deep r)(hw:w'.heap[b]?=w.heap[b]?):St w' b pv s deep r:=by
 cases r with
 | error x=>exact QErr.kept (e:=x.1) (p:=x.2) h hw
 | ok x=>exact⟨QIs.kept h.1 hw,trivial⟩
theorem St.lt{w:World}{b:Nat}{pv:Value}{s:ByteArray}{deep:Nat}{r:Out Unit}(h:St w b pv s deep r):b<w.heap.size:=by
 cases r with
 | error x=>exact QErr.lt (e:=x.1) (p:=x.2) h
 | ok x=>exact QIs.lt h.1
theorem St.len{w:World}{b:Nat}{pv:Value}{s:ByteArray}{deep:Nat}{x:Unit×List Tok}(h:St w b pv s deep (.ok x)):x.2.length≤s.size+2:=by
 obtain⟨⟨q,_,_,_,_,_,h6,h7⟩,_⟩:=h
 have:=h7.len (by rw[bl_length];exact h6)
 rwa [bl_length]at this
theorem St.view{w:World}{b:Nat}{pv:Value}{s:ByteArray}{deep:Nat}{r:Out Unit}(h:St w b pv s deep r) :
  ∃q:QV,QAt w b q∧q.pv=pv∧q.deep=deep∧(∀x,r=.error x→q.e=x.1∧q.e≠0∧q.pl=x.2)∧(∀x,r=.ok x→q.e=0∧tokOf q=hd x.2):=by
 cases r with
 | error x=>
  obtain⟨q,h1,h2,h3,h4,h5,h6⟩:=h
  refine⟨q,h1,h2,h3,?_,?_⟩
  ·intro y hy;injection hy with hy;subst hy;exact⟨h4,by rw[h4];exact h5,h6⟩
  ·intro y hy;cases hy
 | ok x=>
  obtain⟨⟨q,h1,h2,h3,h4,h5,h6,h7⟩,_⟩:=h
  refine⟨q,h1,h2,h4,?_,?_⟩
  ·intro y hy;cases hy
  ·intro y hy;injection hy with hy;subst hy;exact⟨h5,h7.hd.symm⟩
theorem St.is{w:World}{b:Nat}{pv:Value}{s:ByteArray}{deep:Nat}{r:Out Unit}(h:St w b pv s deep r)(c:ByteArray) :
  Calls Tryz.prog 229 #[.pointer (some ⟨b,0,none⟩),.string c] w fun e w'=>e=.returned (.bool (isR (bl c) r))∧w'=w:=by
 cases r with
 | error x=>exact QErr.is (e:=x.1) (p:=x.2) h c
 | ok x=>exact QIs.is h.1 c
theorem St.take{w:World}{b:Nat}{pv:Value}{s:ByteArray}{deep:Nat}{r:Out Unit}(h:St w b pv s deep r)(hs:s.size≤6000)(c:ByteArray) :
  Calls Tryz.prog 318 #[.pointer (some ⟨b,0,none⟩),.string c] w fun e w'=>e=.returned (.tuple #[])∧St w' b pv s deep (bnd r fun _ ts=>takeP (bl c) ts)∧w.grownBy w' (some b):=by
 cases r with
 | error x=>
  refine(QErr.take (e:=x.1) (p:=x.2) h c).mono ?_
  rintro e w' ⟨rfl,rfl⟩
  exact⟨rfl,h,grown_refl _ _⟩
 | ok x=>exact QIs.take h.1 hs c
theorem St.fail{w:World}{b:Nat}{pv:Value}{s:ByteArray}{deep:Nat}{r:Out Unit}(h:St w b pv s deep r)(c:Nat)(ci:Int)(hci:ci=c)(hc:c≠0) :
  Calls Tryz.prog 177 #[.pointer (some ⟨b,0,none⟩),.int .i64 ci] w fun e w'=>e=.returned (.tuple #[])∧St w' b pv s deep (bnd r fun _ ts=>.error (c,(hd ts).at_))∧w.grownBy w' (some b):=by
 cases r with
 | error x=>
  refine(QErr.fail (e:=x.1) (p:=x.2) h ci).mono ?_
  rintro e w' ⟨rfl,rfl⟩
  exact⟨rfl,h,grown_refl _ _⟩
 | ok x=>exact QIs.fail h.1 c ci hci hc
def unitP{α:Type}(r:Out α):Out Unit:=bnd r fun _ ts=>.ok ((),ts)
theorem St.kind{w:World}{b:Nat}{pv:Value}{s:ByteArray}{deep:Nat}{r:Out Unit}(h:St w b pv s deep r)(hs:s.size≤6000)(k:Nat)(ki:Int)(hki:ki=k)(hk:¬(k=0∨k=5)) :
  Calls Tryz.prog 320 #[.pointer (some ⟨b, 0, none⟩), .int .i64 ki] w fun e w' => ∃ x : ByteArray, e = .returned (.string x) ∧ St w' b pv s deep (bnd r fun _ ts => unitP (kindP k ts)) ∧
    Hid (∀y,r=.ok y→∀z,kindP k y.2=.ok z→bl x=z.1)∧w.grownBy w' (some b):=by
 cases r with
 | error x=>
  refine(QErr.kind (e:=x.1) (p:=x.2) h ki).mono ?_
  rintro e w' ⟨rfl,rfl⟩
  exact⟨⟨#[]⟩,rfl,h,hid (fun y hy=>nomatch hy),grown_refl _ _⟩
 | ok x=>
  refine(QIs.kind h.1 hs k ki hki hk).mono ?_
  rintro e w' ⟨tx,rfl,hq,hg⟩
  refine⟨tx,rfl,?_,?_,hg⟩
  ·show St w' b pv s deep (unitP (kindP k x.2))
   cases hkp:kindP k x.2 with
   | error z=>rw[hkp]at hq;exact hq
   | ok z=>rw[hkp]at hq;exact⟨hq.1,trivial⟩
  ·rintro y hy z hz
   injection hy with hy;subst hy
   rw[hz]at hq;exact hq.2
theorem St.next{w:World}{b:Nat}{pv:Value}{s:ByteArray}{deep:Nat}{r:Out Unit}(h:St w b pv s deep r)(hs:s.size≤6000)(hl:∃ts,r=.ok ((),ts)∧¬((hd ts).kind=0∨(hd ts).kind=5)) :
  Calls Tryz.prog 175 #[.pointer (some ⟨b,0,none⟩)] w fun e w'=>e=.returned (.tuple #[])∧St w' b pv s deep (bnd r fun _ ts=>.ok ((),ts.tail))∧w.grownBy w' (some b):=by
 obtain⟨ts,rfl,hl⟩:=hl
 refine(QIs.next h.1 hs hl).mono ?_
 rintro e w' ⟨rfl,hq,hg⟩
 exact⟨rfl,⟨hq,trivial⟩,hg⟩
theorem isR_live{c:List UInt8}{r:Out Unit}(h:isR c r=true):∃ts,r=.ok ((),ts)∧isT c (hd ts)=true∧¬((hd ts).kind=0∨(hd ts).kind=5):=by
 cases r with
 | error x=>cases h
 | ok x=>exact⟨x.2,rfl,h,isT_live h⟩
def PAt(w:World)(a:Nat)(p:PV):Prop:=w.heap[a]?=some (.cells #[.int .i64 p.k,.int .i64 p.n,.int .i64 p.op,.string p.nm,.slice p.ca p.cn p.cc,.slice p.ba p.bn p.bc,.int .i64 p.a,.int .i64 p.b] 92 (0,0))
theorem PAt.lt{w:World}{a:Nat}{p:PV}(h:PAt w a p):a<w.heap.size:=(Array.getElem?_eq_some_iff.1 h).1
theorem PAt.frozen{w:World}{a:Nat}{p:PV}(h:PAt w a p)(o:Nat):w.frozen? ⟨a,o,none⟩=false:=by
 unfold PAt at h;simp[World.frozen?,h]
theorem PAt.all{w:World}{a:Nat}{p:PV}(h:PAt w a p) :
  w.cell? ⟨a,0,none⟩=some (.int .i64 p.k)∧w.cell? ⟨a,1,none⟩=some (.int .i64 p.n)∧w.cell? ⟨a,2,none⟩=some (.int .i64 p.op)∧w.cell? ⟨a,3,none⟩=some (.string p.nm)∧
  w.cell? ⟨a,4,none⟩=some (.slice p.ca p.cn p.cc)∧w.cell? ⟨a,5,none⟩=some (.slice p.ba p.bn p.bc)∧w.cell? ⟨a,6,none⟩=some (.int .i64 p.a)∧w.cell? ⟨a,7,none⟩=some (.int .i64 p.b):=by
 unfold PAt at h
 refine⟨?_,?_,?_,?_,?_,?_,?_,?_⟩ <;> simp[World.cell?,h]
theorem PAt.kept{w w':World}{a:Nat}{p:PV}(h:PAt w a p)(hw:w'.heap[a]?=w.heap[a]?):PAt w' a p:=hw.trans h
theorem PAt.grown{w w':World}{a:Nat}{p:PV}{r:Option Nat}(h:PAt w a p)(hg:w.grownBy w' r)(hn:some a≠r):PAt w' a p:=(hg.block a h.lt hn).trans h
theorem PAt.setNm{w:World}{a:Nat}{p:PV}(h:PAt w a p)(x:ByteArray):PAt (w.setCell ⟨a,3,none⟩ (.string x)) a { p with nm:=x }:=by
 unfold PAt at h ⊢
 simp only[World.setCell,Array.getElem?_modify,h,if_true,Option.map_some];rfl
theorem PAt.setConds{w:World}{a:Nat}{p:PV}(h:PAt w a p)(x:Option Addr)(n c:Nat):PAt (w.setCell ⟨a,4,none⟩ (.slice x n c)) a { p with ca:=x,cn:=n,cc:=c }:=by
 unfold PAt at h ⊢
 simp only[World.setCell,Array.getElem?_modify,h,if_true,Option.map_some];rfl
theorem PAt.setBy{w:World}{a:Nat}{p:PV}(h:PAt w a p)(x:Option Addr)(n c:Nat):PAt (w.setCell ⟨a,5,none⟩ (.slice x n c)) a { p with ba:=x,bn:=n,bc:=c }:=by
 unfold PAt at h ⊢
 simp only[World.setCell,Array.getElem?_modify,h,if_true,Option.map_some];rfl
theorem PAt.setA{w:World}{a:Nat}{p:PV}(h:PAt w a p)(x:Int):PAt (w.setCell ⟨a,6,none⟩ (.int .i64 x)) a { p with a:=x }:=by
 unfold PAt at h ⊢
 simp only[World.setCell,Array.getElem?_modify,h,if_true,Option.map_some];rfl
def copy8(w:World)(a:Nat)(p:PV):World:=(((((((w.setCell ⟨a,0,none⟩ (.int .i64 p.k)).setCell ⟨a,1,none⟩ (.int .i64 p.n)).setCell ⟨a,2,none⟩ (.int .i64 p.op)).setCell ⟨a,3,none⟩ (.string p.nm)).setCell ⟨a,4,none⟩ (.slice p.ca p.cn p.cc)).setCell ⟨a,5,none⟩ (.slice p.ba p.bn p.bc)).setCell ⟨a,6,none⟩ (.int .i64 p.a)).setCell ⟨a,7,none⟩ (.int .i64 p.b)
theorem PAt.setK{w:World}{a:Nat}{p:PV}(h:PAt w a p)(x:Int):PAt (w.setCell ⟨a,0,none⟩ (.int .i64 x)) a { p with k:=x }:=by
 unfold PAt at h ⊢
 simp only[World.setCell,Array.getElem?_modify,h,if_true,Option.map_some];rfl
theorem PAt.setN{w:World}{a:Nat}{p:PV}(h:PAt w a p)(x:Int):PAt (w.setCell ⟨a,1,none⟩ (.int .i64 x)) a { p with n:=x }:=by
 unfold PAt at h ⊢
 simp only[World.setCell,Array.getElem?_modify,h,if_true,Option.map_some];rfl
theorem PAt.setOp{w:World}{a:Nat}{p:PV}(h:PAt w a p)(x:Int):PAt (w.setCell ⟨a,2,none⟩ (.int .i64 x)) a { p with op:=x }:=by
 unfold PAt at h ⊢
 simp only[World.setCell,Array.getElem?_modify,h,if_true,Option.map_some];rfl
theorem PAt.setB{w:World}{a:Nat}{p:PV}(h:PAt w a p)(x:Int):PAt (w.setCell ⟨a,7,none⟩ (.int .i64 x)) a { p with b:=x }:=by
 unfold PAt at h ⊢
 simp only[World.setCell,Array.getElem?_modify,h,if_true,Option.map_some];rfl
theorem copy8_at{w:World}{a:Nat}{p0:PV}(h:PAt w a p0)(p:PV):PAt (copy8 w a p) a p:=
 PAt.setB (PAt.setA (PAt.setBy (PAt.setConds (PAt.setNm (PAt.setOp (PAt.setN (PAt.setK h p.k) p.n) p.op) p.nm) p.ca p.cn p.cc) p.ba p.bn p.bc) p.a) p.b
theorem copy8_other(w:World)(a:Nat)(p:PV)(k:Nat)(hk:k≠a):(copy8 w a p).heap[k]?=w.heap[k]?:=by
 unfold copy8
 rw[Go.Deep.blk_setCell_other _ _ _ _ (show k≠a from hk),Go.Deep.blk_setCell_other _ _ _ _ (show k≠a from hk),Go.Deep.blk_setCell_other _ _ _ _ (show k≠a from hk),Go.Deep.blk_setCell_other _ _ _ _ (show k≠a from hk),Go.Deep.blk_setCell_other _ _ _ _ (show k≠a from hk),Go.Deep.blk_setCell_other _ _ _ _ (show k≠a from hk),Go.Deep.blk_setCell_other _ _ _ _ (show k≠a from hk),Go.Deep.blk_setCell_other _ _ _ _ (show k≠a from hk)]
theorem copy8_grown{w0 w:World}{b a:Nat}(h:w0.grownBy w (some b))(ha:w0.heap.size≤a)(p:PV):w0.grownBy (copy8 w a p) (some b):=by
 unfold copy8
 exact grown_set (grown_set (grown_set (grown_set (grown_set (grown_set (grown_set (grown_set h (Or.inr ha) _) (Or.inr ha) _) (Or.inr ha) _) (Or.inr ha) _) (Or.inr ha) _) (Or.inr ha) _) (Or.inr ha) _) (Or.inr ha) _
end Go.Proofs.YtkodhpilkaihjaaGreatDoor
