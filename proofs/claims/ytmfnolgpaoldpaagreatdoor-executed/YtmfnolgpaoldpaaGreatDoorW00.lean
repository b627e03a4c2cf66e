/- Parts. -/
import Derived.Test.YtmfnolgpaoldpaaGreatDoorProg
import Derived.Lib.Strings
import Derived.WalkSpells
import Derived.WalkLawsBesides
set_option linter.all false
set_option maxRecDepth 100000
set_option maxHeartbeats 16000000
namespace Go.Proofs.YtmfnolgpaoldpaaGreatDoor.LS
open Go Go.RowKit
abbrev V4:=@Array.getElem?_modify
abbrev Vs:=@List.mem_singleton
abbrev XJ:=@List.mem_map
abbrev WV:=@List.append_assoc
abbrev Wk:=@List.mem_append
abbrev Wl:=@decide_eq_false
abbrev Wr:=@Option.map_some
abbrev Vt:=@List.getElem?_map
abbrev X0:=@List.mem_cons
abbrev Xv:=@Go.info_parts
abbrev Yd:=@if_neg
abbrev Yj:=@Nat.le_refl
abbrev Yv:=@List.length_append
abbrev YB:=@beq_eq_false_iff_ne
abbrev Ye:=@if_pos
abbrev Ym:=@Go.RowKit.Below.refl
abbrev Y0:=@List.getD_eq_getElem?_getD
abbrev Yz:=@List.length_map
abbrev Yr:=@Nat.zero_le
abbrev Xr:=@Array.getElem?_eq_some_iff
abbrev Xi:=@Go.World.block_lt_of_cell?
abbrev Xa:=@ByteArray.size_append
abbrev Y1:=@List.length_cons
abbrev YQ:=@Go.bodyPost_ret
abbrev Xm:=@Go.World.ownsRow_nil
abbrev Y9:=@List.map_append
abbrev Xw:=@List.length_take
abbrev XC:=@Go.wpList_append_own
abbrev Wm:=@List.take_of_length_le
abbrev XV:=@Go.run_string_add_sum
abbrev Xb:=@Nat.le_trans
abbrev Ve:=@List.set_append_right
abbrev Vf:=@List.mem_cons_of_mem
abbrev X1:=@List.take_length
abbrev WH:=@Nat.lt_of_lt_of_le
abbrev V5:=@ByteArray.size_extract
abbrev Qp:=@List.getElem?_cons_zero
abbrev Re:=@List.mem_cons_self
abbrev Rg:=@List.pairwise_cons
abbrev Qq:=@List.length_filter_le
abbrev Tq:=@Go.results_none
abbrev RU:=@Go.run_callFunc_extern
abbrev QQ:=@List.getElem?_append_left
abbrev Rw:=@of_decide_eq_true
abbrev Rx:=@List.pairwise_map
abbrev QR:=@Go.MapKept.run_getObj_map
abbrev Vu:=@Bool.and_eq_true
abbrev Wb:=@List.map_cons
abbrev WI:=@decide_eq_true
abbrev XL:=@beq_iff_eq
abbrev Ts:=@List.drop_of_length_le
abbrev Uc:=@Option.some.inj
abbrev Ur:=@List.length_drop
abbrev Us:=@Go.IntKind.wrap_i64
abbrev SJ:=@List.getElem?_append_right
abbrev Ud:=@Bool.eq_iff_iff
abbrev V6:=@List.append_nil
abbrev TN:=@Go.World.cell?_alloc_lt
abbrev VD:=@List.map_map
abbrev Tt:=@List.all_eq_true
abbrev Qr:=@List.eq_nil_of_length_eq_zero
abbrev Sy:=@Array.length_toList
abbrev Vg:=@bne_iff_ne
abbrev Rh:=@List.getElem?_eq_none
abbrev Se:=@List.getElem?_set
abbrev Sf:=@List.reverse_cons
abbrev Tu:=@Nat.not_lt_zero
abbrev TO:=@UInt8.toNat_inj
abbrev TP:=@List.length_nil
abbrev RV:=@Option.map_eq_some_iff
abbrev Ry:=@Go.World.cell?_alloc_at
abbrev Sz:=@Go.World.size_alloc
abbrev O3:=@List.getElem?_replicate
abbrev PB:=@List.ext_getElem?
abbrev QS:=@Go.Exit.noGoto_ret
abbrev QT:=@Nat.min_eq_left
abbrev NU:=@List.mem_or_eq_of_mem_set
abbrev MS:=@List.drop_append_of_le_length
abbrev NW:=@List.Pairwise.imp_of_mem
abbrev RW:=@Go.bodyPost_end
abbrev QU:=@Go.run_underlying
abbrev NX:=@List.filter_cons_of_pos
abbrev QW:=@Array.getElem?_toList
abbrev QX:=@Go.RowKit.ownsRow_setCell_below
abbrev Rz:=@List.length_tail
abbrev RA:=@Nat.lt_succ_self
abbrev Of:=@List.setIfInBounds_toArray
abbrev Sg:=@Nat.lt_or_ge
abbrev RX:=@List.getElem?_eq_some_iff
abbrev QY:=@List.mem_of_getElem?
abbrev Qs:=@decide_eq_true_iff
abbrev Ri:=@List.drop_take
abbrev QZ:=@List.length_pos_iff
abbrev Q0:=@List.length_reverse
abbrev VE:=@if_true
abbrev PC:=@List.length_singleton
abbrev Qt:=@Bool.eq_false_iff
abbrev Og:=@List.length_eq_zero_iff
abbrev PD:=@Go.World.cell?_of_block
abbrev SK:=@Nat.zero_add
abbrev Qu:=@Option.getD_some
abbrev Q1:=@Option.some.injEq
abbrev Oh:=@List.take_append_drop
abbrev RY:=@List.mem_range
abbrev Qv:=@List.mem_filter
abbrev Qw:=@List.length_set
abbrev PE:=@List.map_singleton
abbrev O4:=@decide_eq_false_iff_not
abbrev JY:=@List.take_append_of_le_length
abbrev MT:=@Bool.not_eq_true'
abbrev L8:=@List.contains_iff_mem
abbrev Q2:=@if_false
abbrev L9:=@List.mem_append_left
abbrev Qx:=@Ne.symm
abbrev Ka:=@List.map_eq_nil_iff
abbrev Kb:=@Array.toList_filter
abbrev MU:=@Nat.div_le_self
abbrev JZ:=@Classical.byContradiction
abbrev NY:=@List.filter_cons_of_neg
abbrev Oi:=@List.size_toArray
abbrev N4:=@Go.MapKept.run_setObj_map
abbrev Q3:=@List.map_take
abbrev Oj:=@List.cons_append
abbrev O5:=@Bool.false_eq_true
abbrev PF:=@List.drop_zero
abbrev O6:=@Go.World.ownsRow.kept
abbrev MV:=@Option.isSome_iff_exists
abbrev N5:=@Go.World.ownsRow.alloc
abbrev Ok:=@Go.wp_loop_rounds
abbrev O7:=@decide_eq_decide
abbrev MW:=@List.filter_eq_nil_iff
abbrev Q4:=@Go.rounds_succ
abbrev N6:=@List.filter_append
abbrev O8:=@List.nil_append
abbrev Ol:=@Bool.and_true
abbrev MX:=@List.mem_of_mem_take
abbrev Kc:=@List.getLastD_eq_getLast?
abbrev Kd:=@List.getLast?_eq_getElem?
abbrev MY:=@Nat.mul_le_mul_right
abbrev O9:=@Bool.and_false
abbrev Ke:=@Go.World.cell?_setCell_same
abbrev Kf:=@Nat.lt_succ_iff_lt_or_eq
abbrev Kg:=@Go.World.frozen?_alloc_old
abbrev Kh:=@List.head?_eq_getElem?
abbrev MZ:=@Nat.zero_mul
abbrev J0:=@List.flatten_append
abbrev J1:=@List.filterMap_cons
abbrev J2:=@List.map_congr_left
abbrev J3:=@List.filter_eq_self
abbrev J4:=@Go.World.grownBy_alloc
abbrev J5:=@List.getElem?_range
abbrev M0:=@Int.le_refl
abbrev J6:=@List.getLastD_cons
abbrev Eg:=@Array.extract_eq_self_of_le
abbrev Ki:=@of_decide_eq_false
abbrev J7:=@Array.getElem?_push_size
abbrev N7:=@List.map_nil
abbrev Kj:=@List.getElem?_take
abbrev Kk:=@List.getElem?_drop
abbrev Kl:=@List.mem_replicate
abbrev J8:=@List.getElem?_cons_succ
abbrev Km:=@List.flatMap_cons
abbrev Kn:=@List.all_eq_false
abbrev Ko:=@decide_eq_true_eq
abbrev Kp:=@Go.Result.andThen_ok
abbrev J9:=@List.zipWith_cons_cons
abbrev M1:=@Prod.mk.injEq
abbrev Kq:=@List.isEmpty_iff
abbrev Ks:=@List.filter_cons
abbrev Kt:=@Nat.min_eq_right
abbrev Ia:=@Array.getElem?_append
abbrev Ib:=@Bool.and_eq_false_iff
abbrev Ic:=@List.singleton_append
abbrev Ie:=@List.length_replicate
abbrev If:=@List.getElem?_toArray
abbrev Ku:=@List.sum_append
abbrev Kv:=@Int.natAbs_tdiv
abbrev Kw:=@List.foldl_cons
abbrev Kx:=@Go.wpList_make_own
abbrev Ig:=@List.getElem?_of_mem
abbrev Ih:=@Nat.mul_le_mul
abbrev Eh:=@UInt8.lt_iff_toNat_lt
abbrev Ii:=@List.nodup_nil
abbrev Ij:=@Go.DataW.trod_int
abbrev Ei:=@Nat.sub_eq_zero_of_le
abbrev Ej:=@List.dropLast_eq_take
abbrev Ik:=@List.any_cons
abbrev Il:=@Bool.true_and
abbrev Im:=@List.all_cons
abbrev Io:=@List.map_set
abbrev Ip:=@Nat.add_sub_cancel
abbrev Iq:=@BitVec.toNat_ofNat
abbrev Ky:=@Bool.false_or
abbrev Kz:=@List.map_drop
abbrev Ek:=@Int.tdiv_eq_ediv_of_nonneg
abbrev Ir:=@List.foldl_append
abbrev Is:=@Array.toList_push
abbrev KA:=@Nat.sub_self
abbrev Em:=@Array.setIfInBounds_comm
abbrev KB:=@Go.Sem.run_bind
abbrev En:=@List.getLast_eq_getLastD
abbrev Eo:=@List.getElem?_take_of_lt
abbrev It:=@Go.wpList_make_full
abbrev Iu:=@Nat.le_add_right
abbrev KD:=@Nat.le_of_lt
abbrev Iv:=@Nat.mod_eq_of_lt
abbrev Ep:=@List.countP_cons_of_pos
abbrev Iw:=@Bool.or_eq_true
abbrev Ix:=@Go.Oper.upon_value
abbrev Iy:=@List.filter_nil
abbrev Iz:=@Go.World.var?_cell
abbrev IA:=@List.all_append
abbrev KE:=@Nat.le_succ
abbrev Er:=@List.Perm.pairwise_iff
abbrev Es:=@Nat.div_div_eq_div_mul
abbrev KF:=@Go.u32_xor_nat
abbrev IB:=@Nat.add_zero
abbrev IC:=@Nat.succ_pos
abbrev ID:=@Nat.pow_succ
abbrev M2:=@Go.RowKit.Below.setCell
abbrev LB:=List UInt8
abbrev BA:=ByteArray
abbrev Vi(n:Int):Value:=.int .i64 n
abbrev Vp(b:Nat):Value:=.pointer<|some ⟨b,0,none⟩
abbrev S0:Value:=.slice none 0 0
abbrev BW(a b:World):Prop:=Below a.heap.size a b
abbrev CP:=@Calls Tryz.prog
theorem Dc{p:Prop}(h:p:=by decide):p:=h
theorem Om{p:Prop}(h:p:=by omega):p:=h
theorem Kr{p:Prop}(h:p:=by kernel_rfl):p:=h
theorem Sm{p:Prop}(h:p:=by simp):p:=h
abbrev X:=@Om
abbrev N:=@Dc
abbrev E:=@Vi
abbrev C{α:Sort _}{a:α}:a=a:=rfl
theorem XH{p:Prop}(h:p):Hid p:=h
abbrev I:=@XH
def bl(s:BA):LB:=s.data.toList
theorem ZA(s:BA):s.toList=bl s:=Lib.toList_data s
theorem Zb(s:BA):(bl s).length=s.size:=by rfl
theorem DW{s:BA}(h:s.size<1):s.toList.isEmpty=true:=by
 simp_all
theorem Co{s:BA}(h:1<=s.size):s.toList.isEmpty=false:=by
 rw[ZA,List.isEmpty_eq_false_iff,<-QZ,Zb];omega
theorem Ta(l:LB):bl ⟨l.toArray⟩=l:=by rfl
theorem CQ(s:BA):(⟨(bl s).toArray⟩:BA)=s:=by rfl
theorem SP (s:BA)(k:Nat)(h:k<s.size):(bl s)[k]'(by rw[Zb];exact h)=s[k]:=by
 rfl
theorem ZbH{a b:BA}(h:bl a=bl b):a=b:=by rw[<-CQ a,<-CQ b,h]
theorem WL(s:BA)(a b:Nat):bl (s.extract a b)=((bl s).take b).drop a:=by
 unfold bl;rw[ByteArray.data_extract];simp[Array.toList_extract];rw[Ri]
def Zl(c:UInt8):Bool:=decide (97<=(c.toNat:Int))&&decide ((c.toNat:Int)<=122)
def Zt(c:UInt8):Bool:=decide (48<=(c.toNat:Int))&&decide ((c.toNat:Int)<=57)
def Zx(l:LB):Bool:=l.all Zl&&(decide (1<=(l.length:Int))&&decide ((l.length:Int)<=8))
def ZY(l:LB):Bool:=l.all (λc=>Zl c||Zt c)&&decide ((l.length:Int)<=8)
theorem PH(s:BA)(k:Nat)(h:k<s.size):(bl s).take (k+1)=(bl s).take k++[s[k]]:=by
 rw[List.take_succ_eq_append_getElem<|by rwa [Zb],SP s k h]
theorem Te(s:BA)(k:Nat)(h:k<s.size):(bl s).drop k=s[k]::(bl s).drop (k+1):=by
 rw[List.drop_eq_getElem_cons<|by rwa [Zb],SP s k h]
theorem Mi(p:UInt8->Bool)(s:BA)(k:Nat)(h:k<s.size)(a:((bl s).take k).all p=true)(c:p s[k]=true):((bl s).take<|k+1).all p=true:=by
 rw[PH s k h,IA,a];simp[c]
theorem Li(p:UInt8->Bool)(s:BA)(k:Nat)(h:k<s.size)(a:p s[k]=false):(bl s).all p=false:=by
 rw[Kn];exact⟨s[k],by rw[<-SP s k h];simp,by simp[a]⟩
theorem Lh(p:UInt8->Bool)(s:BA)(k:Nat)(h:¬k<s.size)(a:((bl s).take k).all p=true):(bl s).all p=true:=by
 rwa [Wm<|by rw[Zb];omega]at a
def val(l:LB):Nat:=l.foldl (λn c=>10*n+(c.toNat-48)) 0
def ZC(most:Nat)(l:LB):Option Nat:=
 if l.length<1∨(l.head?=some 48/\1<l.length)∨l.all Zt=false∨most<val l then none else some<|val l
theorem AT(l:LB)(c:UInt8):val (l++[c])=10*val l+(c.toNat-48):=by simp[val]
theorem zY (r:LB):∀n:Nat,n<=r.foldl (λn c=>10*n+(c.toNat-48)) n:=by
 induction r with
 |nil=>simp
 |cons c r ih=>intro n;exact Xb (show n<=10*n+(c.toNat-48)by omega)<|ih _
theorem zZ(l:LB)(k:Nat):val (l.take k)<=val l:=by
 conv=>rhs;rw[<-Oh k l]
 unfold val;rw[Ir];exact zY _ _
theorem DS{c:UInt8}(h:Zt c=true):48<=c.toNat/\c.toNat<=57:=by
 simp[Zt]at h;omega
def seek(c:UInt8):LB->Option Nat
 |[]=>none
 |b::l=>if b==c then some 0 else(seek c l).map (·+1)
def cut(c:UInt8)(l:LB):Option<|LB×LB:=(seek c l).map λi=>(l.take i,l.drop<|i+1)
theorem G5(c:UInt8)(a b:LB)(h:seek c a=none):seek c (a++b)=(seek c b).map (·+a.length):=by
 induction a with
 |nil=>simp
 |cons x a ih=>
  unfold seek at h;split at h
  .cases h
  .rename_i d;have e:seek c a=none:=by simpa using h
   simp only[Oj,seek,d];rw[ih e];cases seek c b<;>simp[Nat.add_assoc]
theorem LP(c:UInt8)(l:LB):seek c l=none↔c∉l:=by
 induction l with
 |nil=>simp[seek]
 |cons b l ih=>
  unfold seek;by_cases a:b=c
  .simp_all
  .simp[a,ih,Qx _]
theorem Pr{c:UInt8}{l:LB}{i:Nat}(h:seek c l=some i):∃a b,l=a++c::b/\a.length=i/\c∉a:=by
 induction l generalizing i with
 |nil=>simp[seek]at h
 |cons b l ih=>
  unfold seek at h;by_cases d:b=c
  .subst d;simp at h;subst h;exact⟨[],l,C,C,Sm⟩
  .simp[d]at h;obtain⟨j,e,rfl⟩:=h;obtain⟨a',b',rfl,rfl,f⟩:=ih e;exact⟨b::a',b',C,Sm,by simp[f,Qx d]⟩
theorem LN(c:UInt8)(a b:LB)(h:c∉a):seek c (a++c::b)=some a.length:=by
 rw[G5 c a _<|(LP c a).2 h];simp[seek]
theorem NI{c:UInt8}{l:LB}{i:Nat}(h:seek c l=some i):i<l.length:=by
 obtain⟨a,b,rfl,rfl,_⟩:=Pr h;simp
def pre(p:LB):List (LB)->List (LB)
 |[]=>[p]
 |h::t=>(p++h)::t
def split(c:UInt8):LB->List (LB)
 |[]=>[[]]
 |b::l=>if b==c then[]::split c l else pre [b]<|split c l
theorem Ni(c:UInt8)(l:LB):split c l≠[]:=by
 cases l with
 |nil=>simp[split]
 |cons b l=>
  unfold split;split
  .simp
  .cases h:split c l<;>simp[pre]
theorem ig(c:UInt8)(l:LB):pre [] (split c l)=split c l:=by
 cases h:split c l with
 |nil=>exact absurd h<|Ni c l
 |cons a t=>rfl
theorem ij{p q:LB}{l:List<|LB}(h:l≠[]):pre p (pre q l)=pre (p++q) l:=by
 cases l with
 |nil=>rfl
 |cons a t=>simp[pre]
theorem Nh(c:UInt8)(l:LB):split c (c::l)=[]::split c l:=by simp[split]
theorem LR(c b:UInt8)(l:LB)(h:(b==c)=false):split c (b::l)=pre [b] (split c l):=by
 simp only[split,h];rfl
theorem MD(c:UInt8)(p r:LB)(h:c∉p):split c (p++r)=pre p (split c r):=by
 induction p with
 |nil=>rw[O8,ig]
 |cons x p ih=>
  have a:(x==c)=false:=by simp;rintro rfl;simp at h
  rw[Oj,LR c x _ a,ih<|by simp_all,ij<|Ni c r];rfl
theorem Qf(c:UInt8)(l:LB):(split c l).length<=l.length+1:=by
 induction l with
 |nil=>simp[split]
 |cons b l ih=>
  by_cases d:b=c
  .subst d;rw[Nh];simp_all
  .rw[LR c b l<|by simp[d]];cases e:split c l with
   |nil=>simp[pre]
   |cons a t=>rw[e]at ih;simp[pre];simp_all;omega
end Go.Proofs.YtmfnolgpaoldpaaGreatDoor.LS
namespace Go.Proofs.YtmfnolgpaoldpaaGreatDoor
open Go.RowKit LS Go.Proofs.Tryz
theorem Yt {α:Type}:(∀(l:List α)(i:Nat)(a:α),l.toArray.setIfInBounds i a=(l.set i a).toArray)/\(∀(a:α)(l:List α)(b:α),(a::l).set 0 b=b::l)/\∀(a:α)(l:List α)(i:Nat)(b:α),(a::l).set (i+1) b=a::l.set i b:=⟨λ_ _ _=>by simp only[Of],λ_ _ _=>C,λ_ _ _ _=>C⟩
theorem Yf {α:Type}:(∀(a:α)(l:List α),(a::l)[0]?=some a)/\∀(a:α)(l:List α)(i:Nat),(a::l)[i+1]?=l[i]?:=⟨λ_ _=>C,λ_ _ _=>C⟩
theorem Yc {w:World}{o:Obj}:BW w<|w.alloc o:=(Ym _ _).alloc (Yj _) _
theorem YK{P:Program}{f:Nat}{a:Array Value}{w w':World}{x:Ending}{Q:Ending->World->Prop}(h:Calls P f a w λe u=>e=x/\u=w')(k:Q x w'):Calls P f a w Q:=h.mono λe u ⟨c,d⟩=>by rw[c,d];exact k
theorem YO{w:World}{o:Obj}:(w.alloc o).heap[w.heap.size]?=some o:=by show(w.heap.push o)[w.heap.size]?=_;simp
theorem Ze{w w':World}{base:Nat}{e:TypeId}{size:Nat}{v:Value}{n:Nat}{xs:List Value}(h:w.ownsRow base e size v n xs)(d:BW w w'):w'.ownsRow base e size v n xs:=by
 obtain⟨f,a⟩:=h;refine⟨f,?_⟩;rcases a with a|⟨g,cap,cur,i,j,k,r⟩
 .simp_all
 .have c:g<w.heap.size:=by
   rcases Sg g w.heap.size with h|h
   .exact h
   .simp_all
  exact .inr ⟨g,cap,cur,i,j,by rwa [d.block g c],r⟩
theorem Zd{w:World}{base:Nat}{e:TypeId}{size:Nat}{v:Value}{n:Nat}{xs:List Value}(h:w.ownsRow base e size v n xs):∃av cp,v=.slice av n cp:=by
 rcases h.2 with⟨h,a⟩|⟨g,cap,cur,h,_⟩
 .simp_all
 simp_all
theorem FF{w:World}{base:Nat}{e:TypeId}{size:Nat}{v:Value}{n:Nat}{xs:List Value}(h:w.ownsRow base e size v n xs)(k:Nat):(w.drewN k).ownsRow base e size v n xs:=h
theorem Ot(B:Nat)(w:World)(k:Nat):Below B w<|w.drewN k:=⟨C,C,C,Yj _,λ_ _=>C⟩
theorem Wn{B:Nat}{a w:World}(h:Below B a w)(k:Nat):Below B a<|w.drewN k:=h.trans<|Ot B w k
theorem Yh{n:Nat}{a w:World}(h:Below n a w:=by repeat(first|exact Ym _ _|assumption|refine Below.alloc ?_ (by first|omega|(simp;omega)|simp) _|refine M2 ?_ (by first|omega|(simp;omega)|simp) _|refine Wn ?_ _|refine Below.drew ?_)):Below n a w:=h
theorem Gq{B:Nat}{w w':World}{k:Nat}(h:Below B (w.drewN k) w'):Below B w w':=⟨h.os,h.tape,h.output,h.size,h.block⟩
theorem ZE{s:BA}{r:LB}(h:bl s=r):s.size=r.length:=by rw[<-Zb,h]
theorem PW{W:World}{a:Nat}{u v:Value}(d:W.cell? ⟨a,0,none⟩=some u)(e:W.cell? ⟨a,1,none⟩=some v):∀j x,[u,v][j]?=some x->W.cell? ((⟨a,0,none⟩:Addr).add j)=some x:=by
 intro j x c;match j,c with
 |0,c=>simp at c;subst c;assumption
 |1,c=>simp at c;subst c;assumption
theorem FZ{w a:World}{x y z:Value}{t:TypeId}(c:Below (w.heap.size+1) (w.alloc<|.cells #[x,y,z] t) a):
 a.cell? ⟨w.heap.size,0,none⟩=some x/\a.cell? ⟨w.heap.size,1,none⟩=some y/\a.cell? ⟨w.heap.size,2,none⟩=some z/\
 a.frozen? ⟨w.heap.size,0,none⟩=false/\a.frozen? ⟨w.heap.size,1,none⟩=false/\a.frozen? ⟨w.heap.size,2,none⟩=false:=by
 have h:∀o,a.cell? ⟨w.heap.size,o,none⟩=(w.alloc<|.cells #[x,y,z] t).cell? ⟨w.heap.size,o,none⟩:=λo=>c.cell (p:=⟨_,o,none⟩)<|RA _;have f:∀o,a.frozen? ⟨w.heap.size,o,none⟩=(w.alloc<|.cells #[x,y,z] t).frozen? ⟨w.heap.size,o,none⟩:=λo=>c.frozen (p:=⟨_,o,none⟩)<|RA _;simp[h,f]
theorem EU{W:World}{a:Nat}{u v x:Value}(d:W.cell? ⟨a,0,none⟩=some u)(e:W.cell? ⟨a,1,none⟩=some v)(f:W.cell? ⟨a,2,none⟩=some x):∀j y,[u,v,x][j]?=some y->W.cell? ((⟨a,0,none⟩:Addr).add j)=some y:=by
 intro j y c;match j,c with
 |0,c=>simp at c;subst c;assumption
 |1,c=>simp at c;subst c;assumption
 |2,c=>simp at c;subst c;assumption
theorem QJ(g j:Nat):(⟨g,0,none⟩:Addr).add j=⟨g,j,none⟩:=by
 by_cases h:j=0<;>simp[Addr.add,h]
theorem Zc{w:World}{base:Nat}{e:TypeId}{size:Nat}{g n cp:Nat}{xs:List Value}(h:w.ownsRow base e size (.slice (some ⟨g,0,none⟩) n cp) n xs)(j:Nat)(u:Value)(a:xs[j]?=some u):w.cell? ⟨g,j,none⟩=some u:=by
 have:=h.cells C j u a;rwa [QJ]at this
theorem ZN{w:World}{base:Nat}{e:TypeId}{size:Nat}{g n cp:Nat}{xs:List Value}(h:w.ownsRow base e size (.slice (some ⟨g,0,none⟩) n cp) n xs):g<w.heap.size:=(h.lt g C).2
theorem Zm{w:World}{base:Nat}{e:TypeId}{size:Nat}{v:Value}{n:Nat}{xs:List Value}(h:w.ownsRow base e size v n xs)(a:0<n):∃g cp,v=.slice (some ⟨g,0,none⟩) n cp:=by
 rcases h.2 with⟨_,c⟩|⟨g,cap,cur,d,_⟩
 .omega
 simp_all
theorem QE{w:World}{b1 b2:Nat}{e1 e2:TypeId}{s1 s2:Nat}{v1 v2:Value}{n1 n2:Nat}{xs1 xs2:List Value}(a:w.ownsRow b1 e1 s1 v1 n1 xs1)(c:w.ownsRow b2 e2 s2 v2 n2 xs2)(f:e1≠e2):v1.ownBlock=none∨v1.ownBlock≠v2.ownBlock:=by
 rcases a.2 with⟨rfl,_⟩|⟨g1,c1,cur1,rfl,_,d,_⟩
 .exact .inl C
 .right;rcases c.2 with⟨rfl,_⟩|⟨g2,c2,cur2,rfl,_,e,_⟩
  .simp[Value.ownBlock]
  .intro h;have g:g1=g2:=by simpa [Value.ownBlock]using h
   simp_all
theorem ZD{w:World}{b:Nat}{e:TypeId}{sz:Nat}{v:Value}{n:Nat}{xs:List Value}(h:w.ownsRow b e sz v n xs){q:Nat}{c:Array Value}{t:TypeId}{fr:Nat×Nat}(d:w.heap[q]?=some (.cells c t fr))(f:t≠e):some q≠v.ownBlock:=by
 rcases h.2 with⟨rfl,_⟩|⟨g,cp,cur,rfl,_,i,_⟩
 .simp[Value.ownBlock]
 .intro a;have j:q=g:=by simpa [Value.ownBlock]using a
  simp_all
theorem Pn{s:BA}(h:s.toList.isEmpty=true):bl s=[]:=by rw[ZA]at h;simp_all
theorem OH{s:BA}(h:s.toList.isEmpty=false):bl s≠[]:=by rw[ZA]at h;simp_all
theorem JN(c:UInt8)(l:LB):∀x∈split c l,x.length<=l.length:=by
 induction l with
 |nil=>simp[split]
 |cons b l ih=>
  intro x a;by_cases e:b=c
  .subst e;rw[Nh]at a;rcases X0.1 a with rfl|a
   .simp
   constructor<;>simp_all
  .rw[LR c b l<|by simp[e]]at a;cases d:split c l with
   |nil=>exact absurd d<|Ni c l
   |cons h t=>
    rw[d]at a ih;simp only[pre]at a;rcases X0.1 a with rfl|a
    .simp_all
    constructor<;>simp_all
theorem OU(c:UInt8)(l:LB)(k:Nat)(a:k<(split c l).length):((split c l).getD k []).length<=l.length:=by
 have e:(split c l).getD k []=(split c l)[k]:=by simp[a]
 rw[e];exact JN c l _<|List.getElem_mem _
theorem Mw{most v:Nat}{l:LB}(h:ZC most l=some v):v<=most:=by
 unfold ZC at h;simp_all;omega
def QG:List Nat:=[0,1,2,3,4,5,6,7,8,9,10,11,12]
structure YC (w:World)(A:Nat->Addr)(m:Int):Prop where
 max:w.cell? ⟨14,0,none⟩=some (E m)
 sent:∀g∈QG,w.cell? ⟨g,0,none⟩=some (.iface 469<|.pointer<|some<|A g)
 apart:∀g∈QG,∀h∈QG,g≠h->A g≠A h
 row:∀g∈QG,∃c t,w.heap[(A g).block]?=some (.cells c t (0,0))
 handle:w.cell? ⟨13,0,none⟩=some (.iface 242<|.agg #[.pointer<|some ⟨20,37,none⟩])
theorem YC.below{w w':World}{A:Nat->Addr}{m:Int}(h:YC w A m)(a:BW w w'):YC w' A m where
 max:=(a.cell (p:=⟨_,0,none⟩)<|Xi _ _ h.max).trans h.max;sent g hg:=(a.cell (p:=⟨_,0,none⟩)<|Xi _ _<|h.sent g hg).trans<|h.sent g hg;apart:=h.apart;row g hg:=by
  obtain⟨c,t,e⟩:=h.row g hg;refine⟨c,t,(a.block _ ?_).trans e⟩;rcases Sg (A g).block w.heap.size with h|h
  .exact h
  simp_all
 handle:=(a.cell (p:=⟨_,0,none⟩)<|Xi _ _ h.handle).trans h.handle
theorem YC.alloc{w:World}{A:Nat->Addr}{m:Int}(h:YC w A m)(o:Obj):YC (w.alloc o) A m:=h.below Yc
theorem YC.drewN{w:World}{A:Nat->Addr}{m:Int}(h:YC w A m)(k:Nat):YC (w.drewN k) A m:=h.below<|Ot _ _ _
theorem VY{a b:Bool}(h:a=b):Ending.returned (.bool a)=.returned (.bool b):=by rw[h]
theorem TY{k:IntKind}{a b:Int}(h:a=b):Ending.returned (.int k a)=.returned (.int k b):=by rw[h]
theorem Sn{c:UInt8}{w:World}:
 CP 108 #[.int .u8 c.toNat] w λe u=>e=.returned (.bool<|Zl c)/\u=w:=by
 go_enter func108,ntmps108;go_wp2;all_goals
  go_ret;exact⟨VY<|by unfold Zl;simp;omega,C⟩
theorem QA{c:UInt8}{w:World}:
 CP 167 #[.int .u8 c.toNat] w λe u=>e=.returned (.bool<|Zl c)/\u=w:=by
 go_enter func167,ntmps167;go_wp2;all_goals
  go_ret;exact⟨VY<|by unfold Zl;simp;omega,C⟩
theorem TS{c:UInt8}{w:World}:
 CP 151 #[.int .u8 c.toNat] w λe u=>e=.returned (.bool<|Zt c)/\u=w:=by
 go_enter func151,ntmps151;go_wp2;all_goals
  go_ret;exact⟨VY<|by unfold Zt;simp;omega,C⟩
theorem Rp{c:UInt8}{w:World}:
 CP 197 #[.int .u8 c.toNat] w λe u=>e=.returned (.bool<|Zt c)/\u=w:=by
 go_enter func197,ntmps197;go_wp2;all_goals
  go_ret;exact⟨VY<|by unfold Zt;simp;omega,C⟩
theorem Am(s:BA)(w:World)(j:s.size<=70000):
 CP 69 #[.string s] w λe u=>e=.returned (.bool<|Zx<|bl s)/\u=w:=by
 go_enter func69,ntmps69;go_wp2;go_loop [3] (λi=>∃k:Nat,k<=s.size/\i=E k/\((bl s).take k).all Zl=true) (λi=>s.size-(intOf i).toNat);case atStart=>exact⟨0,Yr _,C,Sm⟩
 case round=>
  obtain⟨k,l,rfl,d⟩:=hrel;have f:Hid<|((bl s).take k).all Zl=true:=d;clear d;by_cases c:k<s.size
  .cases g:Zl s[k]
   .have a:Hid<|Zx (bl s)=false:=by unfold Zx;rw[Li Zl s k c g];rfl
    go_wp2_with(go_at_call 108;refine(Sn).mono ?_;rintro e u ⟨rfl,rfl⟩);go_ret;exact⟨VY a.symm,C⟩
   .have a:=Mi Zl s k c f.out g;have h:Hid<|((bl s).take<|k+1).all Zl=true:=a;clear a;go_wp2_with(go_at_call 108;refine(Sn).mono ?_;rintro e u ⟨rfl,rfl⟩);go_round;case rel=>exact⟨k+1,X,by go_num,h.out⟩
    case measure=>simp[intOf];omega
  .have a:Hid<|Zx (bl s)=(decide (1<=(s.size:Int))&&decide ((s.size:Int)<=8)):=by
    unfold Zx;rw[Lh Zl s k c f.out,Zb];rfl
   go_wp2;all_goals
    go_ret;refine⟨VY ?_,C⟩;rw[a.out];simp;omega
theorem jg(s:BA)(w:World)(a:s.size<=6000):
 CP 69 #[.string s] w λe u=>e=.returned (.bool<|Zx<|bl s)/\u=w:=Am s w X
theorem Jn(s:BA)(w:World)(j:s.size<=70000):
 CP 130 #[.string s] w λe u=>e=.returned (.bool<|Zx<|bl s)/\u=w:=by
 by_cases l:s.size<1∨8<s.size
 .have a:Hid<|Zx _=false:=I<|by
   unfold Zx;rw[Zb];have:(decide (1<=(s.size:Int))&&decide ((s.size:Int)<=8))=false:=by simp;omega
   rw[this];simp
  go_enter func130,ntmps130;go_wp2;all_goals first|omega|(go_ret;exact⟨VY a.symm,C⟩)
 .have m:1<=(s.size:Int):=X;have n:(s.size:Int)<=8:=X;go_enter func130,ntmps130;go_wp2;go_loop [14] (λi=>∃k:Nat,k<=s.size/\i=E k/\((bl s).take k).all Zl=true) (λi=>s.size-(intOf i).toNat);case atStart=>exact⟨0,Yr _,C,Sm⟩
  case round=>
   obtain⟨k,o,rfl,c⟩:=hrel;have d:=I c;by_cases f:k<s.size
   .cases g:Zl s[k]
    .have a:Hid<|Zx (bl s)=false:=by unfold Zx;rw[Li _ s k _ g];rfl
     go_wp2_with(go_at_call 167;refine(QA).mono ?_;rintro e u ⟨rfl,rfl⟩);go_ret;exact⟨VY a.symm,C⟩
    .have h:=I<|Mi _ s k _ d g;go_wp2_with(go_at_call 167;refine(QA).mono ?_;rintro e u ⟨rfl,rfl⟩);go_round;case rel=>exact⟨k+1,X,by go_num,h⟩
     case measure=>simp[intOf];omega
   .have a:Hid<|Zx _=true:=I<|by
     unfold Zx;rw[Lh _ s k f d,Zb];simp;omega
    go_wp2;go_ret;exact⟨VY a.symm,C⟩
theorem FK(s:BA)(w:World)(a:s.size<=6000):
 CP 130 #[.string s] w λe u=>e=.returned (.bool<|Zx<|bl s)/\u=w:=Jn s w X
theorem jh(s:BA)(w:World)(n:s.size<=6000):
 CP 109 #[.string s] w λe u=>e=.returned (.bool<|ZY<|bl s)/\u=w:=by
 go_enter func109,ntmps109;go_wp2;go_loop [3] (λi=>∃k:Nat,k<=s.size/\i=E k/\((bl s).take k).all (λc=>Zl c||Zt c)=true) (λi=>s.size-(intOf i).toNat);case atStart=>exact⟨0,Yr _,C,Sm⟩
 case round=>
  obtain⟨k,o,rfl,d⟩:=hrel;have f:Hid<|((bl s).take k).all (λc=>Zl c||Zt c)=true:=d;clear d;by_cases a:k<s.size
  .have j:Hid<|(Zl s[k]||Zt s[k])=true->((bl s).take<|k+1).all (λc=>Zl c||Zt c)=true:=Mi (λc=>Zl c||Zt c) s k a f.out;have l:Hid<|(Zl s[k]||Zt s[k])=false->ZY (bl s)=false:=λh=>by
     unfold ZY;rw[Li (λc=>Zl c||Zt c) s k a h];rfl
   cases g:Zl s[k]<;>cases hd:Zt s[k]
   .go_wp2_with(first|(go_at_call 108;refine(Sn).mono ?_;rintro e u ⟨rfl,rfl⟩)|(go_at_call 151;refine(TS).mono ?_;rintro e u ⟨rfl,rfl⟩));go_ret;exact⟨VY (l.out<|by rw[g,hd];rfl).symm,C⟩
   all_goals
    go_wp2_with(first|(go_at_call 108;refine(Sn).mono ?_;rintro e u ⟨rfl,rfl⟩)|(go_at_call 151;refine(TS).mono ?_;rintro e u ⟨rfl,rfl⟩));go_round;case rel=>exact⟨k+1,X,by go_num,j.out<|by rw[g,hd];rfl⟩
    case measure=>simp[intOf];omega
  .have m:Hid<|ZY (bl s)=decide ((s.size:Int)<=8):=by
    unfold ZY;rw[Lh _ s k a f.out,Zb];rfl
   go_wp2;go_ret;exact⟨VY m.symm,C⟩
theorem FL(s:BA)(w:World)(n:s.size<=6000):
 CP 168 #[.string s] w λe u=>e=.returned (.bool<|ZY<|bl s)/\u=w:=by
 by_cases o:8<s.size
 .have d:Hid<|ZY _=false:=I<|by
   unfold ZY;rw[Zb];have:decide ((s.size:Int)<=8)=false:=by simp;omega
   rw[this];simp
  go_enter func168,ntmps168;go_wp2;go_ret;exact⟨VY d.symm,C⟩
 .have p:(s.size:Int)<=8:=X;go_enter func168,ntmps168;go_wp2;go_loop [9] (λi=>∃k:Nat,k<=s.size/\i=E k/\((bl s).take k).all (λc=>Zl c||Zt c)=true) (λi=>s.size-(intOf i).toNat);case atStart=>exact⟨0,Yr _,C,Sm⟩
  case round=>
   obtain⟨k,q,rfl,f⟩:=hrel;have g:=I f;by_cases a:k<s.size
   .have l:=I<|Mi _ s k a g;have m:Hid<|(Zl s[k]||Zt s[k])=false->ZY (bl s)=false:=λh=>by
      unfold ZY;rw[Li (λc=>Zl c||Zt c) s k a h];rfl
    cases j:Zl s[k]<;>cases hd:Zt s[k]
    .go_wp2_with(first|(go_at_call 167;refine(QA).mono ?_;rintro e u ⟨rfl,rfl⟩)|(go_at_call 197;refine(Rp).mono ?_;rintro e u ⟨rfl,rfl⟩));go_ret;exact⟨VY (m<|by rw[j,hd];rfl).symm,C⟩
    all_goals
     go_wp2_with(first|(go_at_call 167;refine(QA).mono ?_;rintro e u ⟨rfl,rfl⟩)|(go_at_call 197;refine(Rp).mono ?_;rintro e u ⟨rfl,rfl⟩));go_round;case rel=>exact⟨k+1,X,by go_num,l<|by rw[j,hd];rfl⟩
     case measure=>simp[intOf];omega
   .have d:Hid<|ZY _=true:=I<|by
     unfold ZY;rw[Lh _ s k a g,Zb];simp;omega
    go_wp2;go_ret;exact⟨VY d.symm,C⟩
def Pq(c:UInt8)(l:LB):Int:=match LS.seek c l with|none=>-1|some i=>i
theorem G4{c:UInt8}{l:LB}{i:Nat}(h:LS.seek c l=some i):Pq c l=i:=by unfold Pq;rw[h]
theorem G3{c:UInt8}{l:LB}(h:LS.seek c l=none):Pq c l=-1:=by unfold Pq;rw[h]
theorem iS(c:UInt8)(s:BA)(k:Nat)(h:k<s.size)(a:LS.seek c ((bl s).take k)=none)(d:s[k]=c):Pq c (bl s)=k:=by
 have e:bl s=(bl s).take k++(bl s).drop k:=(Oh _ _).symm;refine G4 ?_;rw[e,G5 _ _ _ a,Te s k h];simp[LS.seek,d,Zb];omega
theorem iT(c:UInt8)(s:BA)(k:Nat)(h:k<s.size)(a:LS.seek c ((bl s).take k)=none)(d:s[k]≠c):LS.seek c ((bl s).take<|k+1)=none:=by
 rw[PH s k h,G5 _ _ _ a];simp[LS.seek,d]
theorem Bp(s:BA)(c:UInt8)(w:World)(m:s.size<=70000):
 CP 68 #[.string s,.int .u8 c.toNat] w λe u=>e=.returned (E<|Pq c<|bl s)/\u=w:=by
 go_enter func68,ntmps68;go_wp2;go_loop [5] (λi=>∃k:Nat,k<=s.size/\i=E k/\LS.seek c ((bl s).take k)=none) (λi=>s.size-(intOf i).toNat);case atStart=>exact⟨0,Yr _,C,by simp[LS.seek]⟩
 case round=>
  obtain⟨k,n,rfl,f⟩:=hrel;have j:Hid<|LS.seek c ((bl s).take k)=none:=f;clear f;by_cases g:k<s.size
  .by_cases a:s[k]=c
   .have d:Hid<|Pq c (bl s)=k:=iS c s k g j.out a;have l:((s[k].toNat:Int)==(c.toNat:Int))=true:=by rw[a];simp
    clear a;go_wp2;go_ret;exact⟨TY d.symm,C⟩
   .have d:Hid<|LS.seek c ((bl s).take<|k+1)=none:=iT c s k g j.out a;have l:((s[k].toNat:Int)==(c.toNat:Int))=false:=by
     rw[YB];intro h;exact a<|TO.1 X
    clear a;go_wp2;go_round;case rel=>exact⟨k+1,X,by go_num,d.out⟩
    case measure=>simp[intOf];omega
  .have d:Hid<|Pq c (bl s)=-1:=by
    have:=j.out;rw[Wm<|by rw[Zb];omega]at this;exact G3 this
   go_wp2;go_ret;exact⟨TY d.symm,C⟩
theorem Bo(s:BA)(c:UInt8)(w:World)(a:s.size<=6000):
 CP 68 #[.string s,.int .u8 c.toNat] w λe u=>e=.returned (E<|Pq c<|bl s)/\u=w:=Bp s c w X
def YL(most:Nat)(l:LB):Int:=match ZC most l with|none=>-1|some v=>v
theorem P1{most:Nat}{l:LB}(h:ZC most l=none):YL most l=-1:=by unfold YL;rw[h]
theorem RB{most v:Nat}{l:LB}(h:ZC most l=some v):YL most l=v:=by unfold YL;rw[h]
theorem B1(most:Nat)(s:BA)(h:s.size<1):ZC most (bl s)=none:=by
 unfold ZC;rw[Ye<|.inl<|by rwa [Zb]]
theorem B2(most:Nat)(s:BA)(a:1<s.size)(h:s[0].toNat=48):ZC most (bl s)=none:=by
 unfold ZC;refine Ye<|.inr<|.inl ⟨?_,by rwa [Zb]⟩;rw[Kh,List.getElem?_eq_getElem<|by rw[Zb];omega,SP s 0 X];exact congrArg _<|TO.1 h
theorem Cr(most:Nat)(s:BA)(k:Nat)(h:k<s.size)(hd:Zt s[k]=false):ZC most (bl s)=none:=by
 unfold ZC;exact Ye<|.inr<|.inr<|.inl<|Li _ s k h hd
theorem B0(most:Nat)(s:BA)(k:Nat)(h:k<s.size)(a:most<10*val ((bl s).take k)+(s[k].toNat-48)):ZC most (bl s)=none:=by
 unfold ZC;refine Ye<|.inr<|.inr<|.inr ?_;have:=zZ (bl s)<|k+1;rw[PH s k h,AT]at this;omega
theorem BZ(most:Nat)(s:BA)(k:Nat)(h:¬k<s.size)(g:1<=s.size)(d:¬(s[0].toNat=48/\1<s.size))(e:((bl s).take k).all Zt=true)(f:val ((bl s).take k)<=most):ZC most (bl s)=some (val<|(bl s).take k):=by
 have a:=Lh _ s k h e;rw[Wm<|by rw[Zb];omega]at f⊢;unfold ZC;refine Yd ?_;rintro(h|⟨h,c⟩|h|h)
 .rw[Zb]at h;omega
 .rw[Zb]at c;rw[Kh,List.getElem?_eq_getElem<|by rw[Zb];omega,SP s 0 X]at h;exact d ⟨by rw[Uc h];rfl,c⟩
 .rw[a]at h;cases h
 .omega
theorem AU(s:BA)(k:Nat)(h:k<s.size):val ((bl s).take<|k+1)=10*val ((bl s).take k)+(s[k].toNat-48):=by
 rw[PH s k h,AT]
theorem An(s:BA)(most:Nat)(w:World)(D:s.size<=70000)(F:most<=1000000000):
 CP 105 #[.string s,E most] w λe u=>e=.returned (E<|YL most<|bl s)/\u=w:=by
 by_cases l:s.size<1
 .have a:Hid<|YL most (bl s)=-1:=P1<|B1 most s l;go_enter func105,ntmps105;go_wp2;go_ret;exact⟨TY a.symm,C⟩
 have q:1<=s.size:=X;by_cases c:s[0].toNat=48/\1<s.size
 .have a:Hid<|YL most (bl s)=-1:=P1<|B2 most s c.2 c.1;have f:((s[0].toNat:Int)==48)=true:=by rw[c.1];rfl
  have z:=c.2;clear c;go_enter func105,ntmps105;go_wp2;go_ret;exact⟨TY a.symm,C⟩
 have r:Hid<|¬(s[0].toNat=48/\1<s.size):=c;have A:decide ((s.size:Int)<1)=false:=by simp;omega
 have g:(((s[0].toNat:Int)==48)=true/\decide (1<(s.size:Int))=false)∨((s[0].toNat:Int)==48)=false:=by
  by_cases f:s[0].toNat=48
  .exact Or.inl ⟨by rw[f];rfl,by simp;have:¬1<s.size:=λh=>c ⟨f,h⟩;omega⟩
  .exact Or.inr<|by rw[YB];omega
 clear c l;rcases g with⟨m,B⟩|m;all_goals
  go_enter func105,ntmps105;go_wp2;go_loop [5,6] (λn i=>∃k:Nat,k<=s.size/\i=E k/\n=E (val<|(bl s).take k)/\val ((bl s).take k)<=most/\((bl s).take k).all Zt=true) (λ_ i=>s.size-(intOf i).toNat);case atStart=>exact⟨0,Yr _,C,by simp[val],by simp[val],Sm⟩
  case round=>
   obtain⟨k,G,rfl,rfl,t,j⟩:=hrel;have o:Hid<|((bl s).take k).all Zt=true:=j;clear j;by_cases d:k<s.size
   .cases hd:Zt s[k]
    .have a:Hid<|YL most (bl s)=-1:=P1<|Cr most s k d hd;go_wp2_with(go_at_call 151;refine(TS).mono ?_;rintro e u ⟨rfl,rfl⟩);go_ret;exact⟨TY a.symm,C⟩
    .obtain⟨d1,d2⟩:=DS hd;have p:Hid<|val ((bl s).take<|k+1)=10*val ((bl s).take k)+(s[k].toNat-48):=AU s k d;have v:Hid<|((bl s).take<|k+1).all Zt=true:=Mi Zt s k d o.out hd;by_cases x:most<10*val ((bl s).take k)+(s[k].toNat-48)
     .have a:Hid<|YL most (bl s)=-1:=P1<|B0 most s k d x;go_wp2_with(go_at_call 151;refine(TS).mono ?_;rintro e u ⟨rfl,rfl⟩);go_ret;exact⟨TY a.symm,C⟩
     .go_wp2_with(go_at_call 151;refine(TS).mono ?_;rintro e u ⟨rfl,rfl⟩);go_round;case rel=>exact⟨k+1,X,by go_num,by rw[p.out];go_num,by rw[p.out];omega,v.out⟩
      case measure=>simp[intOf];omega
   .have a:Hid<|YL most (bl s)=val ((bl s).take k):=RB<|BZ most s k d q r.out o.out t;go_wp2;go_ret;exact⟨TY a.symm,C⟩
theorem jA(s:BA)(most:Nat)(w:World)(c:s.size<=6000)(a:most<=1000000000):
 CP 105 #[.string s,E most] w λe u=>e=.returned (E<|YL most<|bl s)/\u=w:=An s most w X a
def S9(most:Nat)(l:LB):Value:=.tuple #[E ((ZC most l).getD 0:Nat),.bool (ZC most l).isSome]
theorem Nz{most:Nat}{l:LB}(h:ZC most l=none):S9 most l=.tuple #[E 0,.bool false]:=by unfold S9;rw[h];rfl
theorem Jt{most v:Nat}{l:LB}(h:ZC most l=some v):S9 most l=.tuple #[E v,.bool true]:=by unfold S9;rw[h];rfl
theorem FM(s:BA)(most:Nat)(w:World)(F:s.size<=70000)(A:9<=most)(G:most<=1000000000):
 CP 188 #[.string s,E most] w λe u=>e=.returned (S9 most<|bl s)/\u=w:=by
 by_cases j:s.size<1
 .have a:=I<|Nz<|B1 most s j;have q:=DW j;go_enter func188,ntmps188;go_wp2;go_ret2;exact⟨by rw[a];rfl,C⟩
 have r:1<=s.size:=X;have q:=Co r;by_cases c:s[0].toNat=48/\1<s.size
 .have a:=I<|Nz<|B2 most s c.2 c.1;have d:((s[0].toNat:Int)==48)=true:=by rw[c.1];rfl
  have B:=c.2;go_enter func188,ntmps188;go_wp2;go_ret2;exact⟨by rw[a];rfl,C⟩
 have t:=I c;have f:(((s[0].toNat:Int)==48)=true/\decide (1<(s.size:Int))=false)∨((s[0].toNat:Int)==48)=false:=by
  by_cases d:s[0].toNat=48
  .exact .inl ⟨by rw[d];rfl,by simp;have:¬1<s.size:=λh=>c ⟨d,h⟩;omega⟩
  .exact .inr<|by rw[YB];omega
 rcases f with⟨l,D⟩|l;all_goals
  go_enter func188,ntmps188;go_wp2;go_loop [6,23] (λn i=>∃k:Nat,k<=s.size/\i=E k/\n=E (val<|(bl s).take k)/\val ((bl s).take k)<=most/\((bl s).take k).all Zt=true) (λ_ i=>s.size-(intOf i).toNat);case atStart=>exact⟨0,Yr _,C,by simp[val],by simp[val],Sm⟩
  case round=>
   obtain⟨k,H,rfl,rfl,v,m⟩:=hrel;have o:=I m;by_cases g:k<s.size
   .cases hd:Zt s[k]
    .have a:=I<|Nz<|Cr most s k _ hd;go_wp2_with(go_at_call 197;refine(Rp).mono ?_;rintro e u ⟨rfl,rfl⟩);go_ret2;exact⟨by rw[a];rfl,C⟩
    .obtain⟨d1,d2⟩:=DS hd;have p:=I<|AU s k g;have x:=I<|Mi _ s k _ o hd;by_cases z:most<10*val ((bl s).take k)+(s[k].toNat-48)
     .have a:=I<|Nz<|B0 _ s k _ z;go_wp2_with(go_at_call 197;refine(Rp).mono ?_;rintro e u ⟨rfl,rfl⟩);all_goals first|(exfalso;omega)|(go_ret2;exact⟨by rw[a.out];rfl,C⟩)
     .go_wp2_with(go_at_call 197;refine(Rp).mono ?_;rintro e u ⟨rfl,rfl⟩);all_goals first|(exfalso;omega)|skip
      go_round;case rel=>exact⟨k+1,X,by go_num,by rw[p];go_num,by rw[p];omega,x⟩
      case measure=>simp[intOf];omega
   .have a:=I<|Jt<|BZ _ s k g _ t o v;go_wp2;go_ret2;exact⟨by rw[a];rfl,C⟩
theorem Jp(s:BA)(most:Nat)(w:World)(d:s.size<=6000)(a:9<=most)(c:most<=1000000000):
 CP 188 #[.string s,E most] w λe u=>e=.returned (S9 most<|bl s)/\u=w:=FM s _ w X a c
theorem Tryz.infoString:(Tryz.prog.info? 9).map (λi=>(i.zero,i.size,i.bytes))=some (some<|.string ByteArray.empty,1,16):=Kr
theorem eE{c:UInt8}{l:LB}(h:c∉l):split c l=[l]:=by
 have:=MD c l [] h;rw[V6]at this;rw[this];simp[split,pre]
theorem iU{s:BA}{f k:Nat}(c:f<=k)(a:k<s.size):((bl s).take<|k+1).drop f=((bl s).take k).drop f++[s[k]]:=by
 rw[PH s k a,MS<|by rw[Xw,Zb];omega]
theorem DU{s:BA}{f k:Nat}(a:f<=k):(bl s).drop f=((bl s).take k).drop f++(bl s).drop k:=by
 conv=>lhs;rw[<-Oh k<|bl s]
 by_cases h:k<=(bl s).length
 .rw[MS<|by rw[Xw];omega]
 .rw[Ts (i:=k) X,V6,V6]
theorem Ap(s:BA)(c:UInt8)(w:World)(V:s.size<=70000):
 CP 30 #[.string s,.int .u8 c.toNat] w λe M=>∃(v:Value)(bs:List BA),e=.returned v/\
  M.ownsRow w.heap.size 9 1 v bs.length (bs.map Value.string)/\Hid (bs.map bl=split c (bl s))/\BW w M:=by
 obtain⟨i0,O,B,D,F⟩:=Xv Tryz.infoString;go_enter func30,ntmps30;go_wp2;go_loopw [5,6,7] (λv fr i wr=>∃(k f:Nat)(bs:List BA),k<=s.size+1/\i=E k/\fr=E f/\bs.length<=k/\wr.ownsRow w.heap.size 9 1 v bs.length (bs.map Value.string)/\BW w wr/\f<=k/\
  Hid ((k<=s.size/\split c (bl s)=bs.map bl++split c ((bl s).drop f)/\c∉((bl s).take k).drop f)∨(k=s.size+1/\split c (bl s)=bs.map bl)))
   (λ_ _ i _=>s.size+1-(intOf i).toNat);case atStart=>exact⟨0,0,[],Yr _,C,C,Yj _,Xm _ _ _ _,Ym _ _,Yj _,Or.inl ⟨Yr _,Sm,Sm⟩⟩
 case round=>
  obtain⟨k,f,bs,W,rfl,rfl,S,a,n,p,J⟩:=hrel;have T:w.heap.size<=wr.heap.size:=n.size;by_cases U:k<=s.size
  .have l:Hid<|split c (bl s)=bs.map bl++split c ((bl s).drop f)/\c∉((bl s).take k).drop f:=by
    rcases J.out with⟨_,R,K⟩|⟨h,_⟩
    .exact⟨R,K⟩
    .omega
   clear J;have A:(k=s.size/\((k:Int)==(s.size:Int))=true)∨(((k:Int)==(s.size:Int))=false/\∃h:k<s.size,((s[k].toNat:Int)==(c.toNat:Int))=true/\s[k]=c)∨(((k:Int)==(s.size:Int))=false/\∃h:k<s.size,((s[k].toNat:Int)==(c.toNat:Int))=false/\s[k]≠c):=by
    by_cases h:k<s.size
    .have P:((k:Int)==(s.size:Int))=false:=by rw[YB];omega
     by_cases j:s[k]=c
     .exact Or.inr<|Or.inl ⟨P,h,by rw[j];simp,j⟩
     .exact Or.inr<|Or.inr ⟨P,h,by rw[YB];intro Y;exact j<|TO.1 X,j⟩
    .exact Or.inl ⟨X,by rw[XL];omega⟩
   rcases A with⟨G,H⟩|⟨H,r,Q,j⟩|⟨H,r,Q,j⟩
   .have o:Hid<|(k+1<=s.size/\split c (bl s)=(bs++[s.extract f k]).map bl++split c ((bl s).drop<|k+1)/\c∉((bl s).take<|k+1).drop (k+1))∨(k+1=s.size+1/\split c (bl s)=(bs++[s.extract f k]).map bl):=by
     refine Or.inr ⟨X,?_⟩;have K:=l.2;have hd:=DU (s:=s) p;rw[Ts (i:=k)<|by rw[Zb];omega,V6]at hd;rw[l.1,hd,eE K,Y9,Wb,N7,WL]
    have Z:Hid<|k=s.size:=G;clear G l;go_wp2_with(at_builtin;refine XC _ C (.tmp 25) (.tmp 30) 57 C w.heap.size 9 i0 (.string ByteArray.empty) 1 16 underlying57 O B D F C N _ _ _ C (a.alloc _) ⟨wr.heap.size,0,none⟩ 1 1 [.string<|s.extract f k] C C ?c1 ?c2 ?c3 ?c4 ?c5 ?_);case c1=>exact cell_one_new _ _ _
    case c2=>intro u t;simp at t;subst t;rfl
    case c3=>unfold maxLen;omega
    case c4=>omega
    case c5=>simp;omega
    intro v' x d g _;have z:BW w x:=(n.alloc X _).grown g (by simp;omega) λq L=>(a.lt q L).1;have m:x.ownsRow w.heap.size 9 1 v' (bs++[s.extract f k]).length<|(bs++[s.extract f k]).map Value.string:=by
     rw[Yv,Y9];exact d
    clear a g d;go_wp2;go_roundw;case rel=>exact⟨k+1,k+1,_,X,by go_num,by go_num,by simp;omega,m,z,Yj _,o⟩
    case measure=>simp[intOf];omega
   .have o:Hid<|(k+1<=s.size/\split c (bl s)=(bs++[s.extract f k]).map bl++split c ((bl s).drop<|k+1)/\c∉((bl s).take<|k+1).drop (k+1))∨(k+1=s.size+1/\split c (bl s)=(bs++[s.extract f k]).map bl):=by
     refine Or.inl ⟨X,?_,?_⟩
     .have hd:=DU (s:=s) p;rw[Te s k r,j]at hd;rw[l.1,hd,MD c _ _ l.2,Nh,Y9,Wb,N7,WL];simp[pre]
     .rw[Ts<|by rw[Xw];omega];simp
    clear l j;go_wp2_with(at_builtin;refine XC _ C (.tmp 25) (.tmp 30) 57 C w.heap.size 9 i0 (.string ByteArray.empty) 1 16 underlying57 O B D F C N _ _ _ C (a.alloc _) ⟨wr.heap.size,0,none⟩ 1 1 [.string<|s.extract f k] C C ?c1 ?c2 ?c3 ?c4 ?c5 ?_);case c1=>exact cell_one_new _ _ _
    case c2=>intro u t;simp at t;subst t;rfl
    case c3=>unfold maxLen;omega
    case c4=>omega
    case c5=>simp;omega
    intro v' x d g _;have z:BW w x:=(n.alloc X _).grown g (by simp;omega) λq L=>(a.lt q L).1;have m:x.ownsRow w.heap.size 9 1 v' (bs++[s.extract f k]).length<|(bs++[s.extract f k]).map Value.string:=by
     rw[Yv,Y9];exact d
    clear a g d;go_wp2;go_roundw;case rel=>exact⟨k+1,k+1,_,X,by go_num,by go_num,by simp;omega,m,z,Yj _,o⟩
    case measure=>simp[intOf];omega
   .have o:Hid<|(k+1<=s.size/\split c (bl s)=bs.map bl++split c ((bl s).drop f)/\c∉((bl s).take<|k+1).drop f)∨(k+1=s.size+1/\split c (bl s)=bs.map bl):=by
     refine Or.inl ⟨X,l.1,?_⟩;rw[iU p r,Wk,not_or];exact⟨l.2,by simp;exact λh=>j h.symm⟩
    clear l j;go_wp2;go_roundw;case rel=>exact⟨k+1,f,bs,X,by go_num,C,X,a,n,X,o⟩
    case measure=>simp[intOf];omega
  .have o:Hid<|bs.map bl=split c (bl s):=I (by
   rcases J.out with⟨h,_⟩|⟨_,h⟩
   .omega
   .exact h.symm);go_wp2;go_ret;exact⟨_,bs,C,a,o,n⟩
theorem jD(s:BA)(c:UInt8)(w:World)(a:s.size<=6000):
 CP 30 #[.string s,.int .u8 c.toNat] w λe u=>∃(v:Value)(bs:List BA),e=.returned v/\
  u.ownsRow w.heap.size 9 1 v bs.length (bs.map Value.string)/\Hid (bs.map bl=split c (bl s))/\BW w u:=Ap s c w X
theorem Lp{c:UInt8}{l:LB}{p:Nat}(h:LS.seek c l=some p):cut c l=some (l.take p,l.drop<|p+1):=by unfold cut;rw[h];rfl
theorem K8{c:UInt8}{l:LB}(h:LS.seek c l=none):cut c l=none:=by unfold cut;rw[h];rfl
theorem Qe{s:BA}{c:UInt8}{p:Nat}{ci:Int}{w:World}(a:ci=c.toNat)(d:s.size<=6000)(h:LS.seek c (bl s)=some p):
 CP 68 #[.string s,.int .u8 ci] w λe u=>e=.returned (E p)/\u=w:=by
 subst a;have:=Bo s c w d;rwa [G4 h]at this
theorem ON{s:BA}{c:UInt8}{ci:Int}{w:World}(a:ci=c.toNat)(d:s.size<=6000)(h:LS.seek c (bl s)=none):
 CP 68 #[.string s,.int .u8 ci] w λe u=>e=.returned (E<|-1)/\u=w:=by
 subst a;have:=Bo s c w d;rwa [G3 h]at this
theorem Jz{s:BA}{b:Bool}{w:World}(a:s.size<=6000)(h:ZY (bl s)=b):
 CP 109 #[.string s] w λe u=>e=.returned (.bool b)/\u=w:=by
 have:=jh s w a;rwa [h]at this
theorem LK(s:BA)(c:UInt8){ci:Int}{w:World}(j:ci=c.toNat)(k:s.size<=6000):
 CP 30 #[.string s,.int .u8 ci] w λe u=>∃(g n cp:Nat)(bs:List BA),e=.returned (.slice (some ⟨g,0,none⟩) n cp)/\
  n=bs.length/\w.heap.size<=g/\g<u.heap.size/\Hid (∀i (h:i<bs.length),u.cell? ⟨g,i,none⟩=some (.string bs[i]))/\Hid (bs.map bl=split c (bl s))/\BW w u:=by
 subst j;refine(jD s c w k).mono ?_;rintro e u ⟨v,bs,rfl,a,d,l⟩;have f:0<bs.length:=by
  have:bs.length=(split c<|bl s).length:=by rw[<-d.out,Yz]
  rw[this];exact QZ.2<|Ni c<|bl s
 obtain⟨g,cp,rfl⟩:=Zm a f;refine⟨g,bs.length,cp,bs,C,C,(a.lt g C).1,ZN a,λi m=>Zc a i _<|by simp[m],d,l⟩
theorem Mu{bs:List BA}{ps:List<|LB}(h:bs.map bl=ps)(i:Nat)(a:i<bs.length):bl bs[i]=ps.getD i []:=by
 subst h;simp[a]
theorem Ny(most:Nat)(l:LB):-1<=YL most l/\YL most l<=most:=by
 cases h:ZC most l with
 |none=>rw[P1 h];omega
 |some v=>rw[RB h];have:=Mw h;omega
theorem LJ{s:BA}(most:Nat){mi:Int}{w:World}(a:mi=most)(c:s.size<=6000)(d:most<=1000000000):
 CP 105 #[.string s,E mi] w λe u=>e=.returned (E<|YL most<|bl s)/\u=w:=by
 subst a;exact jA s most w c d
theorem FB{most:Nat}{l:LB}{t:Int}(h:YL most l=t)(c:0<=t):ZC most l=some t.toNat:=by
 cases a:ZC most l with
 |none=>rw[P1 a]at h;omega
 |some v=>rw[RB a]at h;subst h;rfl
theorem oO{most:Nat}{l:LB}{t:Int}(h:YL most l=t)(c:t<0):ZC most l=none:=by
 cases a:ZC most l with
 |none=>rfl
 |some v=>rw[RB a]at h;omega
end Go.Proofs.YtmfnolgpaoldpaaGreatDoor
