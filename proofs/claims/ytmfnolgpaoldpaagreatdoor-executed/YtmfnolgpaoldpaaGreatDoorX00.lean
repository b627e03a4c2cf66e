/- Parts. -/
import Derived.Test.YtmfnolgpaoldpaaGreatDoorProg
import Derived.Lib.Strings
import Derived.WalkSpells
import Derived.WalkLawsBesides
import Derived.Deep.Trees
import Derived.Deep.DeepCutAuto
import Derived.Deep.RegionLaw
set_option linter.all false
set_option maxRecDepth 100000
set_option maxHeartbeats 16000000
namespace Go
theorem RowKit.Hid.o{p:Prop}(h:RowKit.Hid p):p:=h
abbrev Calls.m:=@Calls.mono
end Go
namespace Go.Proofs.YtmfnolgpaoldpaaGreatDoor.LS
open Go Go.RowKit
abbrev V4:=@Array.getElem?_modify
abbrev Vr:=@List.mem_singleton
abbrev XK:=@List.mem_map
abbrev Vd:=@List.append_assoc
abbrev Wk:=@List.mem_append
abbrev Wl:=@decide_eq_false
abbrev Wr:=@Option.map_some
abbrev Vs:=@List.getElem?_map
abbrev X0:=@List.mem_cons
abbrev Xv:=@Go.info_parts
abbrev Yd:=@if_neg
abbrev Yj:=@Nat.le_refl
abbrev Yx:=@List.length_append
abbrev YB:=@beq_eq_false_iff_ne
abbrev Ye:=@if_pos
abbrev Ym:=@Go.RowKit.Below.refl
abbrev Y0:=@List.getD_eq_getElem?_getD
abbrev Yz:=@List.length_map
abbrev Yr:=@Nat.zero_le
abbrev Xr:=@Array.getElem?_eq_some_iff
abbrev Xi:=@Go.World.block_lt_of_cell?
abbrev Y9:=@ByteArray.size_append
abbrev Y1:=@List.length_cons
abbrev YQ:=@Go.bodyPost_ret
abbrev Xm:=@Go.World.ownsRow_nil
abbrev Xa:=@List.map_append
abbrev Xw:=@List.length_take
abbrev XC:=@Go.wpList_append_own
abbrev Wm:=@List.take_of_length_le
abbrev XW:=@Go.run_string_add_sum
abbrev Xb:=@Nat.le_trans
abbrev Ve:=@List.set_append_right
abbrev Vf:=@List.mem_cons_of_mem
abbrev X1:=@List.take_length
abbrev WH:=@Nat.lt_of_lt_of_le
abbrev V5:=@ByteArray.size_extract
abbrev Qo:=@List.getElem?_cons_zero
abbrev Rd:=@List.mem_cons_self
abbrev Re:=@List.pairwise_cons
abbrev Qp:=@List.length_filter_le
abbrev Tq:=@Go.results_none
abbrev RU:=@Go.run_callFunc_extern
abbrev PA:=@List.getElem?_append_left
abbrev Rw:=@of_decide_eq_true
abbrev Rx:=@List.pairwise_map
abbrev QP:=@Go.MapKept.run_getObj_map
abbrev Vt:=@Bool.and_eq_true
abbrev Wb:=@List.map_cons
abbrev WI:=@decide_eq_true
abbrev XM:=@beq_iff_eq
abbrev Ts:=@List.drop_of_length_le
abbrev Ub:=@Option.some.inj
abbrev Ur:=@List.length_drop
abbrev Us:=@Go.IntKind.wrap_i64
abbrev Rg:=@List.getElem?_append_right
abbrev Uc:=@Bool.eq_iff_iff
abbrev Ud:=@List.append_nil
abbrev TM:=@Go.World.cell?_alloc_lt
abbrev VD:=@List.map_map
abbrev Tt:=@List.all_eq_true
abbrev Qq:=@List.eq_nil_of_length_eq_zero
abbrev Sx:=@Array.length_toList
abbrev Vg:=@bne_iff_ne
abbrev Rh:=@List.getElem?_eq_none
abbrev Sc:=@List.getElem?_set
abbrev Se:=@List.reverse_cons
abbrev Tu:=@Nat.not_lt_zero
abbrev TN:=@UInt8.toNat_inj
abbrev TO:=@List.length_nil
abbrev RV:=@Option.map_eq_some_iff
abbrev Ry:=@Go.World.cell?_alloc_at
abbrev Sy:=@Go.World.size_alloc
abbrev O4:=@List.getElem?_replicate
abbrev PB:=@List.ext_getElem?
abbrev QQ:=@Go.Exit.noGoto_ret
abbrev QR:=@Nat.min_eq_left
abbrev NW:=@List.mem_or_eq_of_mem_set
abbrev MS:=@List.drop_append_of_le_length
abbrev NX:=@List.Pairwise.imp_of_mem
abbrev RW:=@Go.bodyPost_end
abbrev QS:=@Go.run_underlying
abbrev NY:=@List.filter_cons_of_pos
abbrev QT:=@Array.getElem?_toList
abbrev QU:=@Go.RowKit.ownsRow_setCell_below
abbrev Rz:=@List.length_tail
abbrev RA:=@Nat.lt_succ_self
abbrev Of:=@List.setIfInBounds_toArray
abbrev Sf:=@Nat.lt_or_ge
abbrev Og:=@List.getElem?_eq_some_iff
abbrev QW:=@List.mem_of_getElem?
abbrev Qr:=@decide_eq_true_iff
abbrev Ri:=@List.drop_take
abbrev QX:=@List.length_pos_iff
abbrev QY:=@List.length_reverse
abbrev VE:=@if_true
abbrev PC:=@List.length_singleton
abbrev Qs:=@Bool.eq_false_iff
abbrev Oh:=@List.length_eq_zero_iff
abbrev PD:=@Go.World.cell?_of_block
abbrev SI:=@Nat.zero_add
abbrev Qt:=@Option.getD_some
abbrev QZ:=@Option.some.injEq
abbrev Oi:=@List.take_append_drop
abbrev RX:=@List.mem_range
abbrev Qu:=@List.mem_filter
abbrev Qv:=@List.length_set
abbrev PE:=@List.map_singleton
abbrev O5:=@decide_eq_false_iff_not
abbrev JX:=@List.take_append_of_le_length
abbrev MT:=@Bool.not_eq_true'
abbrev L7:=@List.contains_iff_mem
abbrev Q0:=@if_false
abbrev L8:=@List.mem_append_left
abbrev Qw:=@Ne.symm
abbrev L9:=@List.map_eq_nil_iff
abbrev Ka:=@Array.toList_filter
abbrev MU:=@Nat.div_le_self
abbrev JY:=@Classical.byContradiction
abbrev N4:=@List.filter_cons_of_neg
abbrev Oj:=@List.size_toArray
abbrev N5:=@Go.MapKept.run_setObj_map
abbrev Q1:=@List.map_take
abbrev Ok:=@List.cons_append
abbrev O6:=@Bool.false_eq_true
abbrev PF:=@List.drop_zero
abbrev O7:=@Go.World.ownsRow.kept
abbrev MV:=@Option.isSome_iff_exists
abbrev N6:=@Go.World.ownsRow.alloc
abbrev Ol:=@Go.wp_loop_rounds
abbrev O8:=@decide_eq_decide
abbrev MW:=@List.filter_eq_nil_iff
abbrev Q2:=@Go.rounds_succ
abbrev N7:=@List.filter_append
abbrev O9:=@List.nil_append
abbrev On:=@Bool.and_true
abbrev MX:=@List.mem_of_mem_take
abbrev Kb:=@List.getLastD_eq_getLast?
abbrev Kc:=@List.getLast?_eq_getElem?
abbrev MY:=@Nat.mul_le_mul_right
abbrev Na:=@Bool.and_false
abbrev Kd:=@Go.World.cell?_setCell_same
abbrev Ke:=@Nat.lt_succ_iff_lt_or_eq
abbrev Kf:=@Go.World.frozen?_alloc_old
abbrev Kg:=@List.head?_eq_getElem?
abbrev MZ:=@Nat.zero_mul
abbrev JZ:=@List.flatten_append
abbrev J0:=@List.filterMap_cons
abbrev J1:=@List.map_congr_left
abbrev J2:=@List.filter_eq_self
abbrev J3:=@Go.World.grownBy_alloc
abbrev J4:=@List.getElem?_range
abbrev M0:=@Int.le_refl
abbrev J5:=@List.getLastD_cons
abbrev Ed:=@Array.extract_eq_self_of_le
abbrev Kh:=@of_decide_eq_false
abbrev J6:=@Array.getElem?_push_size
abbrev N8:=@List.map_nil
abbrev Ki:=@List.getElem?_take
abbrev Kj:=@List.getElem?_drop
abbrev Kk:=@List.mem_replicate
abbrev J7:=@List.getElem?_cons_succ
abbrev Kl:=@List.flatMap_cons
abbrev Km:=@List.all_eq_false
abbrev Kn:=@decide_eq_true_eq
abbrev Ko:=@Go.Result.andThen_ok
abbrev J8:=@List.zipWith_cons_cons
abbrev M1:=@Prod.mk.injEq
abbrev Kp:=@List.isEmpty_iff
abbrev Kq:=@List.filter_cons
abbrev Ks:=@Nat.min_eq_right
abbrev J9:=@Array.getElem?_append
abbrev Ia:=@Bool.and_eq_false_iff
abbrev Ib:=@List.singleton_append
abbrev Ic:=@List.length_replicate
abbrev Ie:=@List.getElem?_toArray
abbrev Kt:=@List.sum_append
abbrev Ku:=@Int.natAbs_tdiv
abbrev Kv:=@List.foldl_cons
abbrev Kw:=@Go.wpList_make_own
abbrev If:=@List.getElem?_of_mem
abbrev Ig:=@Nat.mul_le_mul
abbrev Ee:=@UInt8.lt_iff_toNat_lt
abbrev Ih:=@List.nodup_nil
abbrev Ii:=@Go.DataW.trod_int
abbrev Ef:=@Nat.sub_eq_zero_of_le
abbrev Eg:=@List.dropLast_eq_take
abbrev Ij:=@List.any_cons
abbrev Ik:=@Bool.true_and
abbrev Il:=@List.all_cons
abbrev Im:=@List.map_set
abbrev Io:=@Nat.add_sub_cancel
abbrev Ip:=@BitVec.toNat_ofNat
abbrev Kx:=@Bool.false_or
abbrev Ky:=@List.map_drop
abbrev Eh:=@Int.tdiv_eq_ediv_of_nonneg
abbrev Iq:=@List.foldl_append
abbrev Ir:=@Array.toList_push
abbrev Kz:=@Nat.sub_self
abbrev Ei:=@Array.setIfInBounds_comm
abbrev KA:=@Go.Sem.run_bind
abbrev Ej:=@List.getLast_eq_getLastD
abbrev Ek:=@List.getElem?_take_of_lt
abbrev Is:=@Go.wpList_make_full
abbrev It:=@Nat.le_add_right
abbrev KB:=@Nat.le_of_lt
abbrev Iu:=@Nat.mod_eq_of_lt
abbrev Em:=@List.countP_cons_of_pos
abbrev Iv:=@Bool.or_eq_true
abbrev Iw:=@Go.Oper.upon_value
abbrev Ix:=@List.filter_nil
abbrev Iy:=@Go.World.var?_cell
abbrev Iz:=@List.all_append
abbrev KD:=@Nat.le_succ
abbrev En:=@List.Perm.pairwise_iff
abbrev Eo:=@Nat.div_div_eq_div_mul
abbrev KE:=@Go.u32_xor_nat
abbrev IA:=@Nat.add_zero
abbrev IB:=@Nat.succ_pos
abbrev IC:=@Nat.pow_succ
abbrev LB:=List UInt8
abbrev BA:=ByteArray
abbrev Vi(n:Int):Value:=.int .i64 n
abbrev Vp(b:Nat):Value:=.pointer<|some ⟨b,0,none⟩
abbrev S0:Value:=.slice none 0 0
abbrev BW(a b:World):Prop:=Below a.heap.size a b
abbrev CP:=@Calls Tryz.prog
theorem Dc{p:Prop}(h:p:=by decide):p:=h
theorem Om{p:Prop}(h:p:=by omega):p:=h
theorem Kr{p:Prop}(h:p:=by kernel_rfl):p:=h
theorem Sm{p:Prop}(h:p:=by simp):p:=h
abbrev C{α:Sort _}{a:α}:a=a:=rfl
abbrev X:=@Om
abbrev N:=@Dc
abbrev E:=@Vi
theorem XI{p:Prop}(h:p):Hid p:=h
abbrev I:=@XI
def bl(s:BA):LB:=s.data.toList
theorem ZA(s:BA):s.toList=bl s:=Lib.toList_data s
theorem Zb(s:BA):(bl s).length=s.size:=by rfl
theorem DS{s:BA}(h:s.size<1):s.toList.isEmpty=true:=by
 simp_all
theorem Cj{s:BA}(h:1<=s.size):s.toList.isEmpty=false:=by
 rw[ZA,List.isEmpty_eq_false_iff,<-QX,Zb];omega
theorem U9(l:LB):bl ⟨l.toArray⟩=l:=by rfl
theorem CK(s:BA):(⟨(bl s).toArray⟩:BA)=s:=by rfl
theorem SN (s:BA)(k:Nat)(h:k<s.size):(bl s)[k]'(by rw[Zb];exact h)=s[k]:=by
 rfl
theorem ZbH{a b:BA}(h:bl a=bl b):a=b:=by rw[<-CK a,<-CK b,h]
theorem WL(s:BA)(a b:Nat):bl (s.extract a b)=((bl s).take b).drop a:=by
 unfold bl;rw[ByteArray.data_extract];simp[Array.toList_extract];rw[Ri]
def Zl(c:UInt8):Bool:=decide (97<=(c.toNat:Int))&&decide ((c.toNat:Int)<=122)
def Zt(c:UInt8):Bool:=decide (48<=(c.toNat:Int))&&decide ((c.toNat:Int)<=57)
def Zx(l:LB):Bool:=l.all Zl&&(decide (1<=(l.length:Int))&&decide ((l.length:Int)<=8))
def ZY(l:LB):Bool:=l.all (λc=>Zl c||Zt c)&&decide ((l.length:Int)<=8)
theorem PH(s:BA)(k:Nat)(h:k<s.size):(bl s).take (k+1)=(bl s).take k++[s[k]]:=by
 rw[List.take_succ_eq_append_getElem<|by rwa [Zb],SN s k h]
theorem Td(s:BA)(k:Nat)(h:k<s.size):(bl s).drop k=s[k]::(bl s).drop (k+1):=by
 rw[List.drop_eq_getElem_cons<|by rwa [Zb],SN s k h]
theorem Mi(p:UInt8->Bool)(s:BA)(k:Nat)(h:k<s.size)(a:((bl s).take k).all p=true)(c:p s[k]=true):((bl s).take<|k+1).all p=true:=by
 rw[PH s k h,Iz,a];simp[c]
theorem Lh(p:UInt8->Bool)(s:BA)(k:Nat)(h:k<s.size)(a:p s[k]=false):(bl s).all p=false:=by
 rw[Km];exact⟨s[k],by rw[<-SN s k h];simp,by simp[a]⟩
theorem Lg(p:UInt8->Bool)(s:BA)(k:Nat)(h:¬k<s.size)(a:((bl s).take k).all p=true):(bl s).all p=true:=by
 rwa [Wm<|by rw[Zb];omega]at a
def val(l:LB):Nat:=l.foldl (λn c=>10*n+(c.toNat-48)) 0
def ZC(most:Nat)(l:LB):Option Nat:=
 if l.length<1\/(l.head?=some 48/\1<l.length)\/l.all Zt=false\/most<val l then none else some<|val l
theorem AP(l:LB)(c:UInt8):val (l++[c])=10*val l+(c.toNat-48):=by simp[val]
theorem zU (r:LB):∀n:Nat,n<=r.foldl (λn c=>10*n+(c.toNat-48)) n:=by
 induction r with
 |nil=>simp
 |cons c r ih=>intro n;exact Xb (show n<=10*n+(c.toNat-48)by omega)<|ih _
theorem zV(l:LB)(k:Nat):val (l.take k)<=val l:=by
 conv=>rhs;rw[<-Oi k l]
 unfold val;rw[Iq];exact zU _ _
theorem DO{c:UInt8}(h:Zt c=true):48<=c.toNat/\c.toNat<=57:=by
 simp[Zt]at h;omega
def seek(c:UInt8):LB->Option Nat
 |[]=>none
 |b::l=>if b==c then some 0 else(seek c l).map (·+1)
def cut(c:UInt8)(l:LB):Option<|LB×LB:=(seek c l).map λi=>(l.take i,l.drop<|i+1)
theorem G4(c:UInt8)(a b:LB)(h:seek c a=none):seek c (a++b)=(seek c b).map (·+a.length):=by
 induction a with
 |nil=>simp
 |cons x a ih=>
  unfold seek at h;split at h
  .cases h
  .rename_i d;have e:seek c a=none:=by simpa using h
   simp only[Ok,seek,d];rw[ih e];cases seek c b<;>simp[Nat.add_assoc]
theorem LN(c:UInt8)(l:LB):seek c l=none↔c∉l:=by
 induction l with
 |nil=>simp[seek]
 |cons b l ih=>
  unfold seek;by_cases a:b=c
  .simp_all
  .simp[a,ih,Qw _]
theorem Pq{c:UInt8}{l:LB}{i:Nat}(h:seek c l=some i):∃a b,l=a++c::b/\a.length=i/\c∉a:=by
 induction l generalizing i with
 |nil=>simp[seek]at h
 |cons b l ih=>
  unfold seek at h;by_cases d:b=c
  .subst d;simp at h;subst h;exact⟨[],l,C,C,Sm⟩
  .simp[d]at h;obtain⟨j,e,rfl⟩:=h;obtain⟨a',b',rfl,rfl,f⟩:=ih e;exact⟨b::a',b',C,Sm,by simp[f,Qw d]⟩
theorem LM(c:UInt8)(a b:LB)(h:c∉a):seek c (a++c::b)=some a.length:=by
 rw[G4 c a _<|(LN c a).2 h];simp[seek]
theorem NJ{c:UInt8}{l:LB}{i:Nat}(h:seek c l=some i):i<l.length:=by
 obtain⟨a,b,rfl,rfl,_⟩:=Pq h;simp
def pre(p:LB):List (LB)->List (LB)
 |[]=>[p]
 |h::t=>(p++h)::t
def split(c:UInt8):LB->List (LB)
 |[]=>[[]]
 |b::l=>if b==c then[]::split c l else pre [b]<|split c l
theorem Nj(c:UInt8)(l:LB):split c l≠[]:=by
 cases l with
 |nil=>simp[split]
 |cons b l=>
  unfold split;split
  .simp
  .cases h:split c l<;>simp[pre]
theorem jX(c:UInt8)(l:LB):pre [] (split c l)=split c l:=by
 cases h:split c l with
 |nil=>exact absurd h<|Nj c l
 |cons a t=>rfl
theorem jY{p q:LB}{l:List<|LB}(h:l≠[]):pre p (pre q l)=pre (p++q) l:=by
 cases l with
 |nil=>rfl
 |cons a t=>simp[pre]
theorem Ni(c:UInt8)(l:LB):split c (c::l)=[]::split c l:=by simp[split]
theorem LQ(c b:UInt8)(l:LB)(h:(b==c)=false):split c (b::l)=pre [b] (split c l):=by
 simp only[split,h];rfl
theorem MD(c:UInt8)(p r:LB)(h:c∉p):split c (p++r)=pre p (split c r):=by
 induction p with
 |nil=>rw[O9,jX]
 |cons x p ih=>
  have a:(x==c)=false:=by simp;rintro rfl;simp at h
  rw[Ok,LQ c x _ a,ih<|by simp_all,jY<|Nj c r];rfl
theorem Qe(c:UInt8)(l:LB):(split c l).length<=l.length+1:=by
 induction l with
 |nil=>simp[split]
 |cons b l ih=>
  by_cases d:b=c
  .subst d;rw[Ni];simp_all
  .rw[LQ c b l<|by simp[d]];cases e:split c l with
   |nil=>simp[pre]
   |cons a t=>rw[e]at ih;simp[pre];simp_all;omega
end Go.Proofs.YtmfnolgpaoldpaaGreatDoor.LS
namespace Go.Proofs.YtmfnolgpaoldpaaGreatDoor
open Go.RowKit LS Go.Proofs.Tryz
open Go renaming World->Y,Value->F
open Go.RowKit renaming Hid->U
theorem Yt {α:Type}:(∀(l:List α)(i:Nat)(a:α),l.toArray.setIfInBounds i a=(l.set i a).toArray)/\(∀(a:α)(l:List α)(b:α),(a::l).set 0 b=b::l)/\∀(a:α)(l:List α)(i:Nat)(b:α),(a::l).set (i+1) b=a::l.set i b:=⟨λ_ _ _=>by simp only[Of],λ_ _ _=>C,λ_ _ _ _=>C⟩
theorem Yf {α:Type}:(∀(a:α)(l:List α),(a::l)[0]?=some a)/\∀(a:α)(l:List α)(i:Nat),(a::l)[i+1]?=l[i]?:=⟨λ_ _=>C,λ_ _ _=>C⟩
theorem Yc {w:Y}{o:Obj}:BW w<|w.alloc o:=(Ym _ _).alloc (Yj _) _
theorem YK{P:Program}{f:Nat}{a:Array F}{w w':Y}{x:Ending}{Q:Ending->Y->Prop}(h:Calls P f a w λe u=>e=x/\u=w')(k:Q x w'):Calls P f a w Q:=h.mono λe u ⟨c,d⟩=>by rw[c,d];exact k
theorem YO{w:Y}{o:Obj}:(w.alloc o).heap[w.heap.size]?=some o:=by show(w.heap.push o)[w.heap.size]?=_;simp
theorem Ze{w w':Y}{base:Nat}{e:TypeId}{size:Nat}{v:F}{n:Nat}{xs:List F}(h:w.ownsRow base e size v n xs)(d:BW w w'):w'.ownsRow base e size v n xs:=by
 obtain⟨f,a⟩:=h;refine⟨f,?_⟩;rcases a with a|⟨g,cap,cur,i,j,k,r⟩
 .simp_all
 .have c:g<w.heap.size:=by
   rcases Sf g w.heap.size with h|h
   .exact h
   .simp_all
  exact .inr ⟨g,cap,cur,i,j,by rwa [d.block g c],r⟩
theorem Zd{w:Y}{base:Nat}{e:TypeId}{size:Nat}{v:F}{n:Nat}{xs:List F}(h:w.ownsRow base e size v n xs):∃av cp,v=.slice av n cp:=by
 rcases h.2 with⟨h,a⟩|⟨g,cap,cur,h,_⟩
 .simp_all
 simp_all
theorem FE{w:Y}{base:Nat}{e:TypeId}{size:Nat}{v:F}{n:Nat}{xs:List F}(h:w.ownsRow base e size v n xs)(k:Nat):(w.drewN k).ownsRow base e size v n xs:=h
theorem Ou(B:Nat)(w:Y)(k:Nat):Below B w<|w.drewN k:=⟨C,C,C,Yj _,λ_ _=>C⟩
theorem Wn{B:Nat}{a w:Y}(h:Below B a w)(k:Nat):Below B a<|w.drewN k:=h.trans<|Ou B w k
theorem Yh{n:Nat}{a w:Y}(h:Below n a w:=by repeat(first|exact Ym _ _|assumption|refine Below.alloc ?_ (by first|omega|(simp;omega)|simp) _|refine Below.setCell ?_ (by first|omega|(simp;omega)|simp) _|refine Wn ?_ _|refine Below.drew ?_)):Below n a w:=h
theorem Gn{B:Nat}{w w':Y}{k:Nat}(h:Below B (w.drewN k) w'):Below B w w':=⟨h.os,h.tape,h.output,h.size,h.block⟩
theorem ZE{s:BA}{r:LB}(h:bl s=r):s.size=r.length:=by rw[<-Zb,h]
theorem PW{W:Y}{a:Nat}{u v:F}(d:W.cell? ⟨a,0,none⟩=some u)(e:W.cell? ⟨a,1,none⟩=some v):∀j x,[u,v][j]?=some x->W.cell? ((⟨a,0,none⟩:Addr).add j)=some x:=by
 intro j x c;match j,c with
 |0,c=>simp at c;subst c;assumption
 |1,c=>simp at c;subst c;assumption
theorem FW{w a:Y}{x y z:F}{t:TypeId}(c:Below (w.heap.size+1) (w.alloc<|.cells #[x,y,z] t) a):
 a.cell? ⟨w.heap.size,0,none⟩=some x/\a.cell? ⟨w.heap.size,1,none⟩=some y/\a.cell? ⟨w.heap.size,2,none⟩=some z/\
 a.frozen? ⟨w.heap.size,0,none⟩=false/\a.frozen? ⟨w.heap.size,1,none⟩=false/\a.frozen? ⟨w.heap.size,2,none⟩=false:=by
 have h:∀o,a.cell? ⟨w.heap.size,o,none⟩=(w.alloc<|.cells #[x,y,z] t).cell? ⟨w.heap.size,o,none⟩:=λo=>c.cell (p:=⟨_,o,none⟩)<|RA _;have f:∀o,a.frozen? ⟨w.heap.size,o,none⟩=(w.alloc<|.cells #[x,y,z] t).frozen? ⟨w.heap.size,o,none⟩:=λo=>c.frozen (p:=⟨_,o,none⟩)<|RA _;simp[h,f]
theorem EP{W:Y}{a:Nat}{u v x:F}(d:W.cell? ⟨a,0,none⟩=some u)(e:W.cell? ⟨a,1,none⟩=some v)(f:W.cell? ⟨a,2,none⟩=some x):∀j y,[u,v,x][j]?=some y->W.cell? ((⟨a,0,none⟩:Addr).add j)=some y:=by
 intro j y c;match j,c with
 |0,c=>simp at c;subst c;assumption
 |1,c=>simp at c;subst c;assumption
 |2,c=>simp at c;subst c;assumption
theorem QI(g j:Nat):(⟨g,0,none⟩:Addr).add j=⟨g,j,none⟩:=by
 by_cases h:j=0<;>simp[Addr.add,h]
theorem Zc{w:Y}{base:Nat}{e:TypeId}{size:Nat}{g n cp:Nat}{xs:List F}(h:w.ownsRow base e size (.slice (some ⟨g,0,none⟩) n cp) n xs)(j:Nat)(u:F)(a:xs[j]?=some u):w.cell? ⟨g,j,none⟩=some u:=by
 have:=h.cells C j u a;rwa [QI]at this
theorem ZN{w:Y}{base:Nat}{e:TypeId}{size:Nat}{g n cp:Nat}{xs:List F}(h:w.ownsRow base e size (.slice (some ⟨g,0,none⟩) n cp) n xs):g<w.heap.size:=(h.lt g C).2
theorem Zm{w:Y}{base:Nat}{e:TypeId}{size:Nat}{v:F}{n:Nat}{xs:List F}(h:w.ownsRow base e size v n xs)(a:0<n):∃g cp,v=.slice (some ⟨g,0,none⟩) n cp:=by
 rcases h.2 with⟨_,c⟩|⟨g,cap,cur,d,_⟩
 .omega
 simp_all
theorem QD{w:Y}{b1 b2:Nat}{e1 e2:TypeId}{s1 s2:Nat}{v1 v2:F}{n1 n2:Nat}{xs1 xs2:List F}(a:w.ownsRow b1 e1 s1 v1 n1 xs1)(c:w.ownsRow b2 e2 s2 v2 n2 xs2)(f:e1≠e2):v1.ownBlock=none\/v1.ownBlock≠v2.ownBlock:=by
 rcases a.2 with⟨rfl,_⟩|⟨g1,c1,cur1,rfl,_,d,_⟩
 .exact .inl C
 .right;rcases c.2 with⟨rfl,_⟩|⟨g2,c2,cur2,rfl,_,e,_⟩
  .simp[Value.ownBlock]
  .intro h;have g:g1=g2:=by simpa [Value.ownBlock]using h
   simp_all
theorem ZD{w:Y}{b:Nat}{e:TypeId}{sz:Nat}{v:F}{n:Nat}{xs:List F}(h:w.ownsRow b e sz v n xs){q:Nat}{c:Array F}{t:TypeId}{fr:Nat×Nat}(d:w.heap[q]?=some (.cells c t fr))(f:t≠e):some q≠v.ownBlock:=by
 rcases h.2 with⟨rfl,_⟩|⟨g,cp,cur,rfl,_,i,_⟩
 .simp[Value.ownBlock]
 .intro a;have j:q=g:=by simpa [Value.ownBlock]using a
  simp_all
theorem Pm{s:BA}(h:s.toList.isEmpty=true):bl s=[]:=by rw[ZA]at h;simp_all
theorem OI{s:BA}(h:s.toList.isEmpty=false):bl s≠[]:=by rw[ZA]at h;simp_all
theorem JM(c:UInt8)(l:LB):∀x∈split c l,x.length<=l.length:=by
 induction l with
 |nil=>simp[split]
 |cons b l ih=>
  intro x a;by_cases e:b=c
  .subst e;rw[Ni]at a;rcases X0.1 a with rfl|a
   .simp
   constructor<;>simp_all
  .rw[LQ c b l<|by simp[e]]at a;cases d:split c l with
   |nil=>exact absurd d<|Nj c l
   |cons h t=>
    rw[d]at a ih;simp only[pre]at a;rcases X0.1 a with rfl|a
    .simp_all
    constructor<;>simp_all
theorem OV(c:UInt8)(l:LB)(k:Nat)(a:k<(split c l).length):((split c l).getD k []).length<=l.length:=by
 have e:(split c l).getD k []=(split c l)[k]:=by simp[a]
 rw[e];exact JM c l _<|List.getElem_mem _
theorem Mw{most v:Nat}{l:LB}(h:ZC most l=some v):v<=most:=by
 unfold ZC at h;simp_all;omega
def QF:List Nat:=[0,1,2,3,4,5,6,7,8,9,10,11,12]
structure YD (w:Y)(A:Nat->Addr)(m:Int):Prop where
 max:w.cell? ⟨14,0,none⟩=some (E m)
 sent:∀g∈QF,w.cell? ⟨g,0,none⟩=some (.iface 469<|.pointer<|some<|A g)
 apart:∀g∈QF,∀h∈QF,g≠h->A g≠A h
 row:∀g∈QF,∃c t,w.heap[(A g).block]?=some (.cells c t (0,0))
 handle:w.cell? ⟨13,0,none⟩=some (.iface 242<|.agg #[.pointer<|some ⟨20,37,none⟩])
theorem YD.below{w w':Y}{A:Nat->Addr}{m:Int}(h:YD w A m)(a:BW w w'):YD w' A m where
 max:=(a.cell (p:=⟨_,0,none⟩)<|Xi _ _ h.max).trans h.max;sent g hg:=(a.cell (p:=⟨_,0,none⟩)<|Xi _ _<|h.sent g hg).trans<|h.sent g hg;apart:=h.apart;row g hg:=by
  obtain⟨c,t,e⟩:=h.row g hg;refine⟨c,t,(a.block _ ?_).trans e⟩;rcases Sf (A g).block w.heap.size with h|h
  .exact h
  simp_all
 handle:=(a.cell (p:=⟨_,0,none⟩)<|Xi _ _ h.handle).trans h.handle
theorem YD.alloc{w:Y}{A:Nat->Addr}{m:Int}(h:YD w A m)(o:Obj):YD (w.alloc o) A m:=h.below Yc
theorem YD.drewN{w:Y}{A:Nat->Addr}{m:Int}(h:YD w A m)(k:Nat):YD (w.drewN k) A m:=h.below<|Ou _ _ _
theorem VY{a b:Bool}(h:a=b):Ending.returned (.bool a)=.returned (.bool b):=by rw[h]
theorem TY{k:IntKind}{a b:Int}(h:a=b):Ending.returned (.int k a)=.returned (.int k b):=by rw[h]
theorem Sl{c:UInt8}{w:Y}:
 CP 108 #[.int .u8 c.toNat] w λe u=>e=.returned (.bool<|Zl c)/\u=w:=by
 go_enter func108,ntmps108;go_wp2;all_goals
  go_ret;exact⟨VY<|by unfold Zl;simp;omega,C⟩
theorem Qz{c:UInt8}{w:Y}:
 CP 167 #[.int .u8 c.toNat] w λe u=>e=.returned (.bool<|Zl c)/\u=w:=by
 go_enter func167,ntmps167;go_wp2;all_goals
  go_ret;exact⟨VY<|by unfold Zl;simp;omega,C⟩
theorem TR{c:UInt8}{w:Y}:
 CP 151 #[.int .u8 c.toNat] w λe u=>e=.returned (.bool<|Zt c)/\u=w:=by
 go_enter func151,ntmps151;go_wp2;all_goals
  go_ret;exact⟨VY<|by unfold Zt;simp;omega,C⟩
theorem Rp{c:UInt8}{w:Y}:
 CP 197 #[.int .u8 c.toNat] w λe u=>e=.returned (.bool<|Zt c)/\u=w:=by
 go_enter func197,ntmps197;go_wp2;all_goals
  go_ret;exact⟨VY<|by unfold Zt;simp;omega,C⟩
theorem Ai(s:BA)(w:Y)(j:s.size<=70000):
 CP 69 #[.string s] w λe u=>e=.returned (.bool<|Zx<|bl s)/\u=w:=by
 go_enter func69,ntmps69;go_wp2;go_loop [3] (λi=>∃k:Nat,k<=s.size/\i=E k/\((bl s).take k).all Zl=true) (λi=>s.size-(intOf i).toNat);case atStart=>exact⟨0,Yr _,C,Sm⟩
 case round=>
  obtain⟨k,l,rfl,d⟩:=hrel;have f:U<|((bl s).take k).all Zl=true:=d;clear d;by_cases c:k<s.size
  .cases g:Zl s[k]
   .have a:U<|Zx (bl s)=false:=by unfold Zx;rw[Lh Zl s k c g];rfl
    go_wp2_with(go_at_call 108;refine(Sl).m ?_;rintro e u ⟨rfl,rfl⟩);go_ret;exact⟨VY a.symm,C⟩
   .have a:=Mi Zl s k c f.o g;have h:U<|((bl s).take<|k+1).all Zl=true:=a;clear a;go_wp2_with(go_at_call 108;refine(Sl).m ?_;rintro e u ⟨rfl,rfl⟩);go_round;case rel=>exact⟨k+1,X,by go_num,h.o⟩
    case measure=>simp[intOf];omega
  .have a:U<|Zx (bl s)=(decide (1<=(s.size:Int))&&decide ((s.size:Int)<=8)):=by
    unfold Zx;rw[Lg Zl s k c f.o,Zb];rfl
   go_wp2;all_goals
    go_ret;refine⟨VY ?_,C⟩;rw[a.o];simp;omega
theorem jc(s:BA)(w:Y)(a:s.size<=6000):
 CP 69 #[.string s] w λe u=>e=.returned (.bool<|Zx<|bl s)/\u=w:=Ai s w X
theorem Jm(s:BA)(w:Y)(j:s.size<=70000):
 CP 130 #[.string s] w λe u=>e=.returned (.bool<|Zx<|bl s)/\u=w:=by
 by_cases l:s.size<1\/8<s.size
 .have a:U<|Zx _=false:=I<|by
   unfold Zx;rw[Zb];have:(decide (1<=(s.size:Int))&&decide ((s.size:Int)<=8))=false:=by simp;omega
   rw[this];simp
  go_enter func130,ntmps130;go_wp2;all_goals first|omega|(go_ret;exact⟨VY a.symm,C⟩)
 .have m:1<=(s.size:Int):=X;have n:(s.size:Int)<=8:=X;go_enter func130,ntmps130;go_wp2;go_loop [14] (λi=>∃k:Nat,k<=s.size/\i=E k/\((bl s).take k).all Zl=true) (λi=>s.size-(intOf i).toNat);case atStart=>exact⟨0,Yr _,C,Sm⟩
  case round=>
   obtain⟨k,o,rfl,c⟩:=hrel;have d:=I c;by_cases f:k<s.size
   .cases g:Zl s[k]
    .have a:U<|Zx (bl s)=false:=by unfold Zx;rw[Lh _ s k _ g];rfl
     go_wp2_with(go_at_call 167;refine(Qz).m ?_;rintro e u ⟨rfl,rfl⟩);go_ret;exact⟨VY a.symm,C⟩
    .have h:=I<|Mi _ s k _ d g;go_wp2_with(go_at_call 167;refine(Qz).m ?_;rintro e u ⟨rfl,rfl⟩);go_round;case rel=>exact⟨k+1,X,by go_num,h⟩
     case measure=>simp[intOf];omega
   .have a:U<|Zx _=true:=I<|by
     unfold Zx;rw[Lg _ s k f d,Zb];simp;omega
    go_wp2;go_ret;exact⟨VY a.symm,C⟩
theorem FJ(s:BA)(w:Y)(a:s.size<=6000):
 CP 130 #[.string s] w λe u=>e=.returned (.bool<|Zx<|bl s)/\u=w:=Jm s w X
theorem jd(s:BA)(w:Y)(n:s.size<=6000):
 CP 109 #[.string s] w λe u=>e=.returned (.bool<|ZY<|bl s)/\u=w:=by
 go_enter func109,ntmps109;go_wp2;go_loop [3] (λi=>∃k:Nat,k<=s.size/\i=E k/\((bl s).take k).all (λc=>Zl c||Zt c)=true) (λi=>s.size-(intOf i).toNat);case atStart=>exact⟨0,Yr _,C,Sm⟩
 case round=>
  obtain⟨k,o,rfl,d⟩:=hrel;have f:U<|((bl s).take k).all (λc=>Zl c||Zt c)=true:=d;clear d;by_cases a:k<s.size
  .have j:U<|(Zl s[k]||Zt s[k])=true->((bl s).take<|k+1).all (λc=>Zl c||Zt c)=true:=Mi (λc=>Zl c||Zt c) s k a f.o;have l:U<|(Zl s[k]||Zt s[k])=false->ZY (bl s)=false:=λh=>by
     unfold ZY;rw[Lh (λc=>Zl c||Zt c) s k a h];rfl
   cases g:Zl s[k]<;>cases hd:Zt s[k]
   .go_wp2_with(first|(go_at_call 108;refine(Sl).m ?_;rintro e u ⟨rfl,rfl⟩)|(go_at_call 151;refine(TR).m ?_;rintro e u ⟨rfl,rfl⟩));go_ret;exact⟨VY (l.o<|by rw[g,hd];rfl).symm,C⟩
   all_goals
    go_wp2_with(first|(go_at_call 108;refine(Sl).m ?_;rintro e u ⟨rfl,rfl⟩)|(go_at_call 151;refine(TR).m ?_;rintro e u ⟨rfl,rfl⟩));go_round;case rel=>exact⟨k+1,X,by go_num,j.o<|by rw[g,hd];rfl⟩
    case measure=>simp[intOf];omega
  .have m:U<|ZY (bl s)=decide ((s.size:Int)<=8):=by
    unfold ZY;rw[Lg _ s k a f.o,Zb];rfl
   go_wp2;go_ret;exact⟨VY m.symm,C⟩
theorem FK(s:BA)(w:Y)(n:s.size<=6000):
 CP 168 #[.string s] w λe u=>e=.returned (.bool<|ZY<|bl s)/\u=w:=by
 by_cases o:8<s.size
 .have d:U<|ZY _=false:=I<|by
   unfold ZY;rw[Zb];have:decide ((s.size:Int)<=8)=false:=by simp;omega
   rw[this];simp
  go_enter func168,ntmps168;go_wp2;go_ret;exact⟨VY d.symm,C⟩
 .have p:(s.size:Int)<=8:=X;go_enter func168,ntmps168;go_wp2;go_loop [9] (λi=>∃k:Nat,k<=s.size/\i=E k/\((bl s).take k).all (λc=>Zl c||Zt c)=true) (λi=>s.size-(intOf i).toNat);case atStart=>exact⟨0,Yr _,C,Sm⟩
  case round=>
   obtain⟨k,q,rfl,f⟩:=hrel;have g:=I f;by_cases a:k<s.size
   .have l:=I<|Mi _ s k a g;have m:U<|(Zl s[k]||Zt s[k])=false->ZY (bl s)=false:=λh=>by
      unfold ZY;rw[Lh (λc=>Zl c||Zt c) s k a h];rfl
    cases j:Zl s[k]<;>cases hd:Zt s[k]
    .go_wp2_with(first|(go_at_call 167;refine(Qz).m ?_;rintro e u ⟨rfl,rfl⟩)|(go_at_call 197;refine(Rp).m ?_;rintro e u ⟨rfl,rfl⟩));go_ret;exact⟨VY (m<|by rw[j,hd];rfl).symm,C⟩
    all_goals
     go_wp2_with(first|(go_at_call 167;refine(Qz).m ?_;rintro e u ⟨rfl,rfl⟩)|(go_at_call 197;refine(Rp).m ?_;rintro e u ⟨rfl,rfl⟩));go_round;case rel=>exact⟨k+1,X,by go_num,l<|by rw[j,hd];rfl⟩
     case measure=>simp[intOf];omega
   .have d:U<|ZY _=true:=I<|by
     unfold ZY;rw[Lg _ s k a g,Zb];simp;omega
    go_wp2;go_ret;exact⟨VY d.symm,C⟩
def Pp(c:UInt8)(l:LB):Int:=match LS.seek c l with|none=>-1|some i=>i
theorem G3{c:UInt8}{l:LB}{i:Nat}(h:LS.seek c l=some i):Pp c l=i:=by unfold Pp;rw[h]
theorem G2{c:UInt8}{l:LB}(h:LS.seek c l=none):Pp c l=-1:=by unfold Pp;rw[h]
theorem iO(c:UInt8)(s:BA)(k:Nat)(h:k<s.size)(a:LS.seek c ((bl s).take k)=none)(d:s[k]=c):Pp c (bl s)=k:=by
 have e:bl s=(bl s).take k++(bl s).drop k:=(Oi _ _).symm;refine G3 ?_;rw[e,G4 _ _ _ a,Td s k h];simp[LS.seek,d,Zb];omega
theorem iP(c:UInt8)(s:BA)(k:Nat)(h:k<s.size)(a:LS.seek c ((bl s).take k)=none)(d:s[k]≠c):LS.seek c ((bl s).take<|k+1)=none:=by
 rw[PH s k h,G4 _ _ _ a];simp[LS.seek,d]
theorem Bl(s:BA)(c:UInt8)(w:Y)(m:s.size<=70000):
 CP 68 #[.string s,.int .u8 c.toNat] w λe u=>e=.returned (E<|Pp c<|bl s)/\u=w:=by
 go_enter func68,ntmps68;go_wp2;go_loop [5] (λi=>∃k:Nat,k<=s.size/\i=E k/\LS.seek c ((bl s).take k)=none) (λi=>s.size-(intOf i).toNat);case atStart=>exact⟨0,Yr _,C,by simp[LS.seek]⟩
 case round=>
  obtain⟨k,n,rfl,f⟩:=hrel;have j:U<|LS.seek c ((bl s).take k)=none:=f;clear f;by_cases g:k<s.size
  .by_cases a:s[k]=c
   .have d:U<|Pp c (bl s)=k:=iO c s k g j.o a;have l:((s[k].toNat:Int)==(c.toNat:Int))=true:=by rw[a];simp
    clear a;go_wp2;go_ret;exact⟨TY d.symm,C⟩
   .have d:U<|LS.seek c ((bl s).take<|k+1)=none:=iP c s k g j.o a;have l:((s[k].toNat:Int)==(c.toNat:Int))=false:=by
     rw[YB];intro h;exact a<|TN.1 X
    clear a;go_wp2;go_round;case rel=>exact⟨k+1,X,by go_num,d.o⟩
    case measure=>simp[intOf];omega
  .have d:U<|Pp c (bl s)=-1:=by
    have:=j.o;rw[Wm<|by rw[Zb];omega]at this;exact G2 this
   go_wp2;go_ret;exact⟨TY d.symm,C⟩
theorem Bk(s:BA)(c:UInt8)(w:Y)(a:s.size<=6000):
 CP 68 #[.string s,.int .u8 c.toNat] w λe u=>e=.returned (E<|Pp c<|bl s)/\u=w:=Bl s c w X
def YL(most:Nat)(l:LB):Int:=match ZC most l with|none=>-1|some v=>v
theorem P1{most:Nat}{l:LB}(h:ZC most l=none):YL most l=-1:=by unfold YL;rw[h]
theorem RB{most v:Nat}{l:LB}(h:ZC most l=some v):YL most l=v:=by unfold YL;rw[h]
theorem BX(most:Nat)(s:BA)(h:s.size<1):ZC most (bl s)=none:=by
 unfold ZC;rw[Ye<|.inl<|by rwa [Zb]]
theorem BY(most:Nat)(s:BA)(a:1<s.size)(h:s[0].toNat=48):ZC most (bl s)=none:=by
 unfold ZC;refine Ye<|.inr<|.inl ⟨?_,by rwa [Zb]⟩;rw[Kg,List.getElem?_eq_getElem<|by rw[Zb];omega,SN s 0 X];exact congrArg _<|TN.1 h
theorem Cn(most:Nat)(s:BA)(k:Nat)(h:k<s.size)(hd:Zt s[k]=false):ZC most (bl s)=none:=by
 unfold ZC;exact Ye<|.inr<|.inr<|.inl<|Lh _ s k h hd
theorem BV(most:Nat)(s:BA)(k:Nat)(h:k<s.size)(a:most<10*val ((bl s).take k)+(s[k].toNat-48)):ZC most (bl s)=none:=by
 unfold ZC;refine Ye<|.inr<|.inr<|.inr ?_;have:=zV (bl s)<|k+1;rw[PH s k h,AP]at this;omega
theorem BU(most:Nat)(s:BA)(k:Nat)(h:¬k<s.size)(g:1<=s.size)(d:¬(s[0].toNat=48/\1<s.size))(e:((bl s).take k).all Zt=true)(f:val ((bl s).take k)<=most):ZC most (bl s)=some (val<|(bl s).take k):=by
 have a:=Lg _ s k h e;rw[Wm<|by rw[Zb];omega]at f⊢;unfold ZC;refine Yd ?_;rintro(h|⟨h,c⟩|h|h)
 .rw[Zb]at h;omega
 .rw[Zb]at c;rw[Kg,List.getElem?_eq_getElem<|by rw[Zb];omega,SN s 0 X]at h;exact d ⟨by rw[Ub h];rfl,c⟩
 .rw[a]at h;cases h
 .omega
theorem AQ(s:BA)(k:Nat)(h:k<s.size):val ((bl s).take<|k+1)=10*val ((bl s).take k)+(s[k].toNat-48):=by
 rw[PH s k h,AP]
theorem Aj(s:BA)(most:Nat)(w:Y)(D:s.size<=70000)(G:most<=1000000000):
 CP 105 #[.string s,E most] w λe u=>e=.returned (E<|YL most<|bl s)/\u=w:=by
 by_cases l:s.size<1
 .have a:U<|YL most (bl s)=-1:=P1<|BX most s l;go_enter func105,ntmps105;go_wp2;go_ret;exact⟨TY a.symm,C⟩
 have q:1<=s.size:=X;by_cases c:s[0].toNat=48/\1<s.size
 .have a:U<|YL most (bl s)=-1:=P1<|BY most s c.2 c.1;have f:((s[0].toNat:Int)==48)=true:=by rw[c.1];rfl
  have z:=c.2;clear c;go_enter func105,ntmps105;go_wp2;go_ret;exact⟨TY a.symm,C⟩
 have r:U<|¬(s[0].toNat=48/\1<s.size):=c;have A:decide ((s.size:Int)<1)=false:=by simp;omega
 have g:(((s[0].toNat:Int)==48)=true/\decide (1<(s.size:Int))=false)\/((s[0].toNat:Int)==48)=false:=by
  by_cases f:s[0].toNat=48
  .exact Or.inl ⟨by rw[f];rfl,by simp;have:¬1<s.size:=λh=>c ⟨f,h⟩;omega⟩
  .exact Or.inr<|by rw[YB];omega
 clear c l;rcases g with⟨m,B⟩|m;all_goals
  go_enter func105,ntmps105;go_wp2;go_loop [5,6] (λn i=>∃k:Nat,k<=s.size/\i=E k/\n=E (val<|(bl s).take k)/\val ((bl s).take k)<=most/\((bl s).take k).all Zt=true) (λ_ i=>s.size-(intOf i).toNat);case atStart=>exact⟨0,Yr _,C,by simp[val],by simp[val],Sm⟩
  case round=>
   obtain⟨k,H,rfl,rfl,t,j⟩:=hrel;have o:U<|((bl s).take k).all Zt=true:=j;clear j;by_cases d:k<s.size
   .cases hd:Zt s[k]
    .have a:U<|YL most (bl s)=-1:=P1<|Cn most s k d hd;go_wp2_with(go_at_call 151;refine(TR).m ?_;rintro e u ⟨rfl,rfl⟩);go_ret;exact⟨TY a.symm,C⟩
    .obtain⟨d1,d2⟩:=DO hd;have p:U<|val ((bl s).take<|k+1)=10*val ((bl s).take k)+(s[k].toNat-48):=AQ s k d;have v:U<|((bl s).take<|k+1).all Zt=true:=Mi Zt s k d o.o hd;by_cases x:most<10*val ((bl s).take k)+(s[k].toNat-48)
     .have a:U<|YL most (bl s)=-1:=P1<|BV most s k d x;go_wp2_with(go_at_call 151;refine(TR).m ?_;rintro e u ⟨rfl,rfl⟩);go_ret;exact⟨TY a.symm,C⟩
     .go_wp2_with(go_at_call 151;refine(TR).m ?_;rintro e u ⟨rfl,rfl⟩);go_round;case rel=>exact⟨k+1,X,by go_num,by rw[p.o];go_num,by rw[p.o];omega,v.o⟩
      case measure=>simp[intOf];omega
   .have a:U<|YL most (bl s)=val ((bl s).take k):=RB<|BU most s k d q r.o o.o t;go_wp2;go_ret;exact⟨TY a.symm,C⟩
theorem jl(s:BA)(most:Nat)(w:Y)(c:s.size<=6000)(a:most<=1000000000):
 CP 105 #[.string s,E most] w λe u=>e=.returned (E<|YL most<|bl s)/\u=w:=Aj s most w X a
def S7(most:Nat)(l:LB):F:=.tuple #[E ((ZC most l).getD 0:Nat),.bool (ZC most l).isSome]
theorem NA{most:Nat}{l:LB}(h:ZC most l=none):S7 most l=.tuple #[E 0,.bool false]:=by unfold S7;rw[h];rfl
theorem Js{most v:Nat}{l:LB}(h:ZC most l=some v):S7 most l=.tuple #[E v,.bool true]:=by unfold S7;rw[h];rfl
theorem FL(s:BA)(most:Nat)(w:Y)(G:s.size<=70000)(A:9<=most)(H:most<=1000000000):
 CP 188 #[.string s,E most] w λe u=>e=.returned (S7 most<|bl s)/\u=w:=by
 by_cases j:s.size<1
 .have a:=I<|NA<|BX most s j;have q:=DS j;go_enter func188,ntmps188;go_wp2;go_ret2;exact⟨by rw[a];rfl,C⟩
 have r:1<=s.size:=X;have q:=Cj r;by_cases c:s[0].toNat=48/\1<s.size
 .have a:=I<|NA<|BY most s c.2 c.1;have d:((s[0].toNat:Int)==48)=true:=by rw[c.1];rfl
  have B:=c.2;go_enter func188,ntmps188;go_wp2;go_ret2;exact⟨by rw[a];rfl,C⟩
 have t:=I c;have f:(((s[0].toNat:Int)==48)=true/\decide (1<(s.size:Int))=false)\/((s[0].toNat:Int)==48)=false:=by
  by_cases d:s[0].toNat=48
  .exact .inl ⟨by rw[d];rfl,by simp;have:¬1<s.size:=λh=>c ⟨d,h⟩;omega⟩
  .exact .inr<|by rw[YB];omega
 rcases f with⟨l,D⟩|l;all_goals
  go_enter func188,ntmps188;go_wp2;go_loop [6,23] (λn i=>∃k:Nat,k<=s.size/\i=E k/\n=E (val<|(bl s).take k)/\val ((bl s).take k)<=most/\((bl s).take k).all Zt=true) (λ_ i=>s.size-(intOf i).toNat);case atStart=>exact⟨0,Yr _,C,by simp[val],by simp[val],Sm⟩
  case round=>
   obtain⟨k,J,rfl,rfl,v,m⟩:=hrel;have o:=I m;by_cases g:k<s.size
   .cases hd:Zt s[k]
    .have a:=I<|NA<|Cn most s k _ hd;go_wp2_with(go_at_call 197;refine(Rp).m ?_;rintro e u ⟨rfl,rfl⟩);go_ret2;exact⟨by rw[a];rfl,C⟩
    .obtain⟨d1,d2⟩:=DO hd;have p:=I<|AQ s k g;have x:=I<|Mi _ s k _ o hd;by_cases z:most<10*val ((bl s).take k)+(s[k].toNat-48)
     .have a:=I<|NA<|BV _ s k _ z;go_wp2_with(go_at_call 197;refine(Rp).m ?_;rintro e u ⟨rfl,rfl⟩);all_goals first|(exfalso;omega)|(go_ret2;exact⟨by rw[a.o];rfl,C⟩)
     .go_wp2_with(go_at_call 197;refine(Rp).m ?_;rintro e u ⟨rfl,rfl⟩);all_goals first|(exfalso;omega)|skip
      go_round;case rel=>exact⟨k+1,X,by go_num,by rw[p];go_num,by rw[p];omega,x⟩
      case measure=>simp[intOf];omega
   .have a:=I<|Js<|BU _ s k g _ t o v;go_wp2;go_ret2;exact⟨by rw[a];rfl,C⟩
theorem Jo(s:BA)(most:Nat)(w:Y)(d:s.size<=6000)(a:9<=most)(c:most<=1000000000):
 CP 188 #[.string s,E most] w λe u=>e=.returned (S7 most<|bl s)/\u=w:=FL s _ w X a c
theorem Tryz.infoString:(Tryz.prog.info? 9).map (λi=>(i.zero,i.size,i.bytes))=some (some<|.string ByteArray.empty,1,16):=Kr
theorem eA{c:UInt8}{l:LB}(h:c∉l):split c l=[l]:=by
 have:=MD c l [] h;rw[Ud]at this;rw[this];simp[split,pre]
theorem iQ{s:BA}{f k:Nat}(c:f<=k)(a:k<s.size):((bl s).take<|k+1).drop f=((bl s).take k).drop f++[s[k]]:=by
 rw[PH s k a,MS<|by rw[Xw,Zb];omega]
theorem DQ{s:BA}{f k:Nat}(a:f<=k):(bl s).drop f=((bl s).take k).drop f++(bl s).drop k:=by
 conv=>lhs;rw[<-Oi k<|bl s]
 by_cases h:k<=(bl s).length
 .rw[MS<|by rw[Xw];omega]
 .rw[Ts (i:=k) X,Ud,Ud]
theorem Al(s:BA)(c:UInt8)(w:Y)(Z:s.size<=70000):
 CP 30 #[.string s,.int .u8 c.toNat] w λe O=>∃(v:F)(bs:List BA),e=.returned v/\
  O.ownsRow w.heap.size 9 1 v bs.length (bs.map Value.string)/\U (bs.map bl=split c (bl s))/\BW w O:=by
 obtain⟨i0,P,B,D,G⟩:=Xv Tryz.infoString;go_enter func30,ntmps30;go_wp2;go_loopw [5,6,7] (λv fr i wr=>∃(k f:Nat)(bs:List BA),k<=s.size+1/\i=E k/\fr=E f/\bs.length<=k/\wr.ownsRow w.heap.size 9 1 v bs.length (bs.map Value.string)/\BW w wr/\f<=k/\
  U ((k<=s.size/\split c (bl s)=bs.map bl++split c ((bl s).drop f)/\c∉((bl s).take k).drop f)\/(k=s.size+1/\split c (bl s)=bs.map bl)))
   (λ_ _ i _=>s.size+1-(intOf i).toNat);case atStart=>exact⟨0,0,[],Yr _,C,C,Yj _,Xm _ _ _ _,Ym _ _,Yj _,Or.inl ⟨Yr _,Sm,Sm⟩⟩
 case round=>
  obtain⟨k,f,bs,hk,rfl,rfl,T,a,n,p,K⟩:=hrel;have V:w.heap.size<=wr.heap.size:=n.size;by_cases W:k<=s.size
  .have l:U<|split c (bl s)=bs.map bl++split c ((bl s).drop f)/\c∉((bl s).take k).drop f:=by
    rcases K.o with⟨_,S,L⟩|⟨h,_⟩
    .exact⟨S,L⟩
    .omega
   clear K;have A:(k=s.size/\((k:Int)==(s.size:Int))=true)\/(((k:Int)==(s.size:Int))=false/\∃h:k<s.size,((s[k].toNat:Int)==(c.toNat:Int))=true/\s[k]=c)\/(((k:Int)==(s.size:Int))=false/\∃h:k<s.size,((s[k].toNat:Int)==(c.toNat:Int))=false/\s[k]≠c):=by
    by_cases h:k<s.size
    .have Q:((k:Int)==(s.size:Int))=false:=by rw[YB];omega
     by_cases j:s[k]=c
     .exact Or.inr<|Or.inl ⟨Q,h,by rw[j];simp,j⟩
     .exact Or.inr<|Or.inr ⟨Q,h,by rw[YB];intro hh;exact j<|TN.1 X,j⟩
    .exact Or.inl ⟨X,by rw[XM];omega⟩
   rcases A with⟨H,J⟩|⟨J,r,R,j⟩|⟨J,r,R,j⟩
   .have o:U<|(k+1<=s.size/\split c (bl s)=(bs++[s.extract f k]).map bl++split c ((bl s).drop<|k+1)/\c∉((bl s).take<|k+1).drop (k+1))\/(k+1=s.size+1/\split c (bl s)=(bs++[s.extract f k]).map bl):=by
     refine Or.inr ⟨X,?_⟩;have L:=l.2;have hd:=DQ (s:=s) p;rw[Ts (i:=k)<|by rw[Zb];omega,Ud]at hd;rw[l.1,hd,eA L,Xa,Wb,N8,WL]
    have HK:U<|k=s.size:=H;clear H l;go_wp2_with(at_builtin;refine XC _ C (.tmp 25) (.tmp 30) 57 C w.heap.size 9 i0 (.string ByteArray.empty) 1 16 underlying57 P B D G C N _ _ _ C (a.alloc _) ⟨wr.heap.size,0,none⟩ 1 1 [.string<|s.extract f k] C C ?c1 ?c2 ?c3 ?c4 ?c5 ?_);case c1=>exact cell_one_new _ _ _
    case c2=>intro u t;simp at t;subst t;rfl
    case c3=>unfold maxLen;omega
    case c4=>omega
    case c5=>simp;omega
    intro v' x d g _;have z:BW w x:=(n.alloc X _).grown g (by simp;omega) λq M=>(a.lt q M).1;have m:x.ownsRow w.heap.size 9 1 v' (bs++[s.extract f k]).length<|(bs++[s.extract f k]).map Value.string:=by
     rw[Yx,Xa];exact d
    clear a g d;go_wp2;go_roundw;case rel=>exact⟨k+1,k+1,_,X,by go_num,by go_num,by simp;omega,m,z,Yj _,o⟩
    case measure=>simp[intOf];omega
   .have o:U<|(k+1<=s.size/\split c (bl s)=(bs++[s.extract f k]).map bl++split c ((bl s).drop<|k+1)/\c∉((bl s).take<|k+1).drop (k+1))\/(k+1=s.size+1/\split c (bl s)=(bs++[s.extract f k]).map bl):=by
     refine Or.inl ⟨X,?_,?_⟩
     .have hd:=DQ (s:=s) p;rw[Td s k r,j]at hd;rw[l.1,hd,MD c _ _ l.2,Ni,Xa,Wb,N8,WL];simp[pre]
     .rw[Ts<|by rw[Xw];omega];simp
    clear l j;go_wp2_with(at_builtin;refine XC _ C (.tmp 25) (.tmp 30) 57 C w.heap.size 9 i0 (.string ByteArray.empty) 1 16 underlying57 P B D G C N _ _ _ C (a.alloc _) ⟨wr.heap.size,0,none⟩ 1 1 [.string<|s.extract f k] C C ?c1 ?c2 ?c3 ?c4 ?c5 ?_);case c1=>exact cell_one_new _ _ _
    case c2=>intro u t;simp at t;subst t;rfl
    case c3=>unfold maxLen;omega
    case c4=>omega
    case c5=>simp;omega
    intro v' x d g _;have z:BW w x:=(n.alloc X _).grown g (by simp;omega) λq M=>(a.lt q M).1;have m:x.ownsRow w.heap.size 9 1 v' (bs++[s.extract f k]).length<|(bs++[s.extract f k]).map Value.string:=by
     rw[Yx,Xa];exact d
    clear a g d;go_wp2;go_roundw;case rel=>exact⟨k+1,k+1,_,X,by go_num,by go_num,by simp;omega,m,z,Yj _,o⟩
    case measure=>simp[intOf];omega
   .have o:U<|(k+1<=s.size/\split c (bl s)=bs.map bl++split c ((bl s).drop f)/\c∉((bl s).take<|k+1).drop f)\/(k+1=s.size+1/\split c (bl s)=bs.map bl):=by
     refine Or.inl ⟨X,l.1,?_⟩;rw[iQ p r,Wk,not_or];exact⟨l.2,by simp;exact λh=>j h.symm⟩
    clear l j;go_wp2;go_roundw;case rel=>exact⟨k+1,f,bs,X,by go_num,C,X,a,n,X,o⟩
    case measure=>simp[intOf];omega
  .have o:U<|bs.map bl=split c (bl s):=I (by
   rcases K.o with⟨h,_⟩|⟨_,h⟩
   .omega
   .exact h.symm);go_wp2;go_ret;exact⟨_,bs,C,a,o,n⟩
theorem jt(s:BA)(c:UInt8)(w:Y)(a:s.size<=6000):
 CP 30 #[.string s,.int .u8 c.toNat] w λe u=>∃(v:F)(bs:List BA),e=.returned v/\
  u.ownsRow w.heap.size 9 1 v bs.length (bs.map Value.string)/\U (bs.map bl=split c (bl s))/\BW w u:=Al s c w X
theorem Lo{c:UInt8}{l:LB}{p:Nat}(h:LS.seek c l=some p):cut c l=some (l.take p,l.drop<|p+1):=by unfold cut;rw[h];rfl
theorem K7{c:UInt8}{l:LB}(h:LS.seek c l=none):cut c l=none:=by unfold cut;rw[h];rfl
theorem Qd{s:BA}{c:UInt8}{p:Nat}{ci:Int}{w:Y}(a:ci=c.toNat)(d:s.size<=6000)(h:LS.seek c (bl s)=some p):
 CP 68 #[.string s,.int .u8 ci] w λe u=>e=.returned (E p)/\u=w:=by
 subst a;have:=Bk s c w d;rwa [G3 h]at this
theorem OO{s:BA}{c:UInt8}{ci:Int}{w:Y}(a:ci=c.toNat)(d:s.size<=6000)(h:LS.seek c (bl s)=none):
 CP 68 #[.string s,.int .u8 ci] w λe u=>e=.returned (E<|-1)/\u=w:=by
 subst a;have:=Bk s c w d;rwa [G2 h]at this
theorem Jy{s:BA}{b:Bool}{w:Y}(a:s.size<=6000)(h:ZY (bl s)=b):
 CP 109 #[.string s] w λe u=>e=.returned (.bool b)/\u=w:=by
 have:=jd s w a;rwa [h]at this
theorem LJ(s:BA)(c:UInt8){ci:Int}{w:Y}(j:ci=c.toNat)(k:s.size<=6000):
 CP 30 #[.string s,.int .u8 ci] w λe u=>∃(g n cp:Nat)(bs:List BA),e=.returned (.slice (some ⟨g,0,none⟩) n cp)/\
  n=bs.length/\w.heap.size<=g/\g<u.heap.size/\U (∀i (h:i<bs.length),u.cell? ⟨g,i,none⟩=some (.string bs[i]))/\U (bs.map bl=split c (bl s))/\BW w u:=by
 subst j;refine(jt s c w k).m ?_;rintro e u ⟨v,bs,rfl,a,d,l⟩;have f:0<bs.length:=by
  have:bs.length=(split c<|bl s).length:=by rw[<-d.o,Yz]
  rw[this];exact QX.2<|Nj c<|bl s
 obtain⟨g,cp,rfl⟩:=Zm a f;refine⟨g,bs.length,cp,bs,C,C,(a.lt g C).1,ZN a,λi m=>Zc a i _<|by simp[m],d,l⟩
theorem Mu{bs:List BA}{ps:List<|LB}(h:bs.map bl=ps)(i:Nat)(a:i<bs.length):bl bs[i]=ps.getD i []:=by
 subst h;simp[a]
theorem Nz(most:Nat)(l:LB):-1<=YL most l/\YL most l<=most:=by
 cases h:ZC most l with
 |none=>rw[P1 h];omega
 |some v=>rw[RB h];have:=Mw h;omega
theorem LI{s:BA}(most:Nat){mi:Int}{w:Y}(a:mi=most)(c:s.size<=6000)(d:most<=1000000000):
 CP 105 #[.string s,E mi] w λe u=>e=.returned (E<|YL most<|bl s)/\u=w:=by
 subst a;exact jl s most w c d
theorem FA{most:Nat}{l:LB}{t:Int}(h:YL most l=t)(c:0<=t):ZC most l=some t.toNat:=by
 cases a:ZC most l with
 |none=>rw[P1 a]at h;omega
 |some v=>rw[RB a]at h;subst h;rfl
theorem oK{most:Nat}{l:LB}{t:Int}(h:YL most l=t)(c:t<0):ZC most l=none:=by
 cases a:ZC most l with
 |none=>rfl
 |some v=>rw[RB a]at h;omega
end Go.Proofs.YtmfnolgpaoldpaaGreatDoor
namespace Go.Proofs.YtmfnolgpaoldpaaGreatDoor.LS
open Go Go.RowKit
structure Yg where
 jj:Nat
 txt:LB
 at_:Nat
def run(p:UInt8->Bool):LB->Nat
 |[]=>0
 |b::l=>if p b then run p l+1 else 0
def QG:LB:=[40,41,123,125,91,93,44,61,43,45,42,47]
def XT(l:LB)(j:Nat)(c:UInt8)(r:LB):Yg×Nat:=
 if Zt c then(if(ZC 1000000000<|(c::r).take<|run Zt<|c::r).isSome then⟨1,(c::r).take<|run Zt<|c::r,j⟩else⟨5,[],j⟩,j+run Zt (c::r))
 else if Zl c then(if 8<run Zl (c::r)then⟨5,[],j⟩else⟨2,(c::r).take<|run Zl<|c::r,j⟩,j+run Zl (c::r))
 else if c==34 then match seek 34 r with
  |none=>(⟨5,[],j⟩,l.length)
  |some p=>(if ZY (r.take p)then⟨3,r.take p,j⟩else⟨5,[],j⟩,j+p+2)
 else if c==33&&r.head?==some 61 then(⟨4,[33,61],j⟩,j+2)
 else if(seek c QG).isSome then(⟨4,[c],j⟩,j+1)else(⟨5,[],j⟩,j+1)
def UV(l:LB)(j:Nat):Yg×Nat:=match l.drop j with
 |[]=>(⟨0,[],j⟩,j)
 |c::r=>XT l j c r
def Zg(l:LB)(i:Nat):Yg×Nat:=UV l (i+run (·==32) (l.drop i))
theorem NI(p:UInt8->Bool)(l:LB):run p l<=l.length:=by
 induction l with
 |nil=>exact Yj _
 |cons b l ih=>unfold run;split<;>simp_all
theorem Bb(s:BA)(j:Nat)(h:j<s.size)(a:s[j]=32):Zg (bl s) j=Zg (bl s) (j+1):=by
 unfold Zg;rw[Td s j h];have:run (·==32) (s[j]::(bl s).drop (j+1))=run (·==32) ((bl s).drop<|j+1)+1:=by rw[a];rfl
 rw[this,show j+(run _ _+1)=j+1+run (·==32) ((bl s).drop<|j+1)by omega]
theorem Lw(s:BA)(j:Nat)(h:j<s.size)(a:s[j]≠32):Zg (bl s) j=XT (bl s) j s[j] ((bl s).drop<|j+1):=by
 unfold Zg;rw[Td s j h];have:run (·==32) (s[j]::(bl s).drop (j+1))=0:=by simp[run,a]
 rw[this,IA];unfold UV;rw[Td s j h]
theorem Zkg(s:BA)(j:Nat)(h:¬j<s.size)(a:j<=s.size):Zg (bl s) j=(⟨0,[],j⟩,j):=by
 have hd:(bl s).drop j=[]:=Ts<|by rw[Zb];omega
 unfold Zg;rw[hd];show UV (bl s) j=_;unfold UV;rw[hd]
theorem JE(p:UInt8->Bool)(s:BA)(j k:Nat)(f:j<=k)(g:k<=s.size)(a:∀i (h:i<s.size),j<=i->i<k->p s[i]=true)(c:∀h:k<s.size,p s[k]=false):j+run p ((bl s).drop j)=k:=by
 induction hd:k-j generalizing j with
 |zero=>
  obtain rfl:j=k:=X;by_cases h:j<s.size
  .rw[Td s j h];simp[run,c h]
  .rw[Ts<|by rw[Zb];omega];rfl
 |succ n ih=>
  have h:j<s.size:=X;have:=ih (j+1) X (λi d l e=>a i d X e) X;rw[Td s j h];simp only[run,a j h (Yj _) X,VE];omega
end Go.Proofs.YtmfnolgpaoldpaaGreatDoor.LS
namespace Go.Proofs.YtmfnolgpaoldpaaGreatDoor
open Go.RowKit LS Go.Proofs.Tryz
open Go renaming World->Y,Value->F
open Go.RowKit renaming Hid->U
theorem yu(s:BA)(j:Nat){w:Y}(r:s.size<=6000)(p:j<=s.size):
 CP 213 #[.string s,E j,.bool true] w λe u=>e=.returned (E ((j+run Zt ((bl s).drop j):Nat):Int))/\u=w:=by
 go_enter func213,ntmps213;go_wp2;go_loop [1] (λi=>∃k:Nat,k<=s.size/\j<=k/\i=E k/\U (∀q (h:q<s.size),j<=q->q<k->Zt s[q]=true)) (λi=>s.size-(intOf i).toNat);case atStart=>exact⟨j,p,Yj _,C,λq h g l=>X⟩
 case round=>
  obtain⟨k,m,c,rfl,d⟩:=hrel;by_cases n:k<s.size
  .cases o:Zt s[k]
   .have a:U<|j+run Zt ((bl s).drop j)=k:=JE _ s j k c m d.o λ_=>o;go_wp2_with(first|(go_at_call 108;refine(Sl).m ?_;rintro e u ⟨rfl,rfl⟩)|(go_at_call 151;refine(TR).m ?_;rintro e u ⟨rfl,rfl⟩));go_ret;exact⟨TY<|by have:=a.o;omega,C⟩
   .have a:U<|∀q (h:q<s.size),j<=q->q<k+1->Zt s[q]=true:=λq h g l=>by
      rcases Ke.1 l with f|f
      .exact d.o q h g f
      .subst f;exact o
    go_wp2_with(first|(go_at_call 108;refine(Sl).m ?_;rintro e u ⟨rfl,rfl⟩)|(go_at_call 151;refine(TR).m ?_;rintro e u ⟨rfl,rfl⟩));go_round;case rel=>exact⟨k+1,X,X,by go_num,a⟩
    case measure=>simp[intOf];omega
  .have a:U<|j+run Zt ((bl s).drop j)=k:=JE _ s j k c m d.o λh=>absurd h n;go_wp2;go_ret;exact⟨TY<|by have:=a.o;omega,C⟩
theorem An(s:BA)(j:Nat){w:Y}(r:s.size<=6000)(p:j<=s.size):
 CP 213 #[.string s,E j,.bool false] w λe u=>e=.returned (E ((j+run Zl ((bl s).drop j):Nat):Int))/\u=w:=by
 go_enter func213,ntmps213;go_wp2;go_loop [1] (λi=>∃k:Nat,k<=s.size/\j<=k/\i=E k/\U (∀q (h:q<s.size),j<=q->q<k->Zl s[q]=true)) (λi=>s.size-(intOf i).toNat);case atStart=>exact⟨j,p,Yj _,C,λq h g l=>X⟩
 case round=>
  obtain⟨k,m,c,rfl,d⟩:=hrel;by_cases n:k<s.size
  .cases o:Zl s[k]
   .have a:U<|j+run Zl ((bl s).drop j)=k:=JE _ s j k c m d.o λ_=>o;go_wp2_with(first|(go_at_call 108;refine(Sl).m ?_;rintro e u ⟨rfl,rfl⟩)|(go_at_call 151;refine(TR).m ?_;rintro e u ⟨rfl,rfl⟩));go_ret;exact⟨TY<|by have:=a.o;omega,C⟩
   .have a:U<|∀q (h:q<s.size),j<=q->q<k+1->Zl s[q]=true:=λq h g l=>by
      rcases Ke.1 l with f|f
      .exact d.o q h g f
      .subst f;exact o
    go_wp2_with(first|(go_at_call 108;refine(Sl).m ?_;rintro e u ⟨rfl,rfl⟩)|(go_at_call 151;refine(TR).m ?_;rintro e u ⟨rfl,rfl⟩));go_round;case rel=>exact⟨k+1,X,X,by go_num,a⟩
    case measure=>simp[intOf];omega
  .have a:U<|j+run Zl ((bl s).drop j)=k:=JE _ s j k c m d.o λh=>absurd h n;go_wp2;go_ret;exact⟨TY<|by have:=a.o;omega,C⟩
def E1(e:Ending)(ts:BA)(r:Yg×Nat):Prop:=e=.returned (.tuple #[.agg #[E (r.1.jj:Nat),.string ts,E (r.1.at_:Nat)],E (r.2:Nat)])/\bl ts=r.1.txt
theorem QC{ts:BA}{k a p:Nat}{r:Yg×Nat}{x y z:Int}(h:r=(⟨k,bl ts,a⟩,p))(c:x=(k:Nat))(d:y=(a:Nat))(e:z=(p:Nat)):E1 (.returned<|.tuple #[.agg #[E x,.string ts,E y],E z]) ts r:=by
 subst h;subst c;subst d;subst e;exact⟨C,C⟩
theorem qP{s:BA}{i:Nat}{w:Y}(R:s.size<=6000)(hi:i<=s.size):
 CP 183 #[.string s,E i] w λe u=>(∃ts:BA,E1 e ts<|Zg (bl s) i)/\BW w u:=by
 go_enter func183,ntmps183;go_wp2;go_loop [1] (λv=>∃j:Nat,j<=s.size/\v=E j/\U (Zg (bl s) i=Zg (bl s) j)) (λv=>s.size-(intOf v).toNat);case atStart=>exact⟨i,hi,C,C⟩
 case round=>
  obtain⟨j,W,rfl,M⟩:=hrel;by_cases r:j<s.size
  .by_cases t:s[j]=32
   .have c:U _:=M.o▸Bb s j r t;have hb:((s[j].toNat:Int)==32)=true:=by rw[t];rfl
    clear t;go_wp2;go_round;case rel=>exact⟨j+1,X,by go_num,c⟩
    case measure=>simp[intOf];omega
   .have c:U<|Zg _ i=XT _ j _ _:=M.o▸Lw s j r t;have hb:((s[j].toNat:Int)==32)=false:=by
     rw[YB];intro h;exact t<|TN.1<|by show s[j].toNat=32;omega
    have Z:((j:Int)==(s.size))=false:=by rw[YB];omega
    clear t M;have g:=Td s j r;have a0:j+1<=s.size:=r;have a1:=W;cases hd:Zt s[j]
    .cases O:Zl s[j]
     .by_cases B:s[j]=34
      .have S:((s[j].toNat:Int)==34)=true:=by rw[B];rfl
       have e2:bl (s.extract (j+1) s.size)=(bl s).drop (j+1):=by rw[WL,Wm<|by rw[Zb];exact Yj _]
       have A:(s.extract (j+1) s.size).size<=6000:=by rw[V5];omega
       cases f:LS.seek 34<|bl (s.extract (j+1) s.size)with
       |none=>
        have d:Zg (bl s) i=(⟨5,bl ⟨#[]⟩,j⟩,s.size):=by
         rw[c];unfold XT;rw[hd,O,B,<-e2,f,Zb];rfl
        have o:=I f;clear c g B f e2;have c:=I d;clear d;go_wp2_with(first|(go_at_call 151;refine(TR).m ?_;rintro e u ⟨rfl,rfl⟩)|(go_at_call 108;refine(Sl).m ?_;rintro e u ⟨rfl,rfl⟩)|fail);refine(OO C A o.o).m ?_;rintro e u ⟨rfl,rfl⟩;go_wp2;exact YQ (v:=.tuple #[.agg _,E<|(s.size)]) (by simp[results,results183,go_sem]) C ⟨⟨⟨#[]⟩,QC c C C X⟩,Yh⟩
       |some p=>
        have hp:p<(s.extract (j+1) s.size).size:=by rw[<-Zb];exact NJ f
        rw[V5]at hp;have e3:bl (s.extract (j+1)<|j+1+p)=((bl s).drop<|j+1).take p:=by rw[WL,Ri];congr 1;omega
        have J:(s.extract (j+1)<|j+1+p).size<=6000:=by rw[V5];omega
        have a2:j+1+p<=s.size:=X;have d:Zg (bl s) i=(if ZY<|bl<|s.extract (j+1) (j+1+p)then⟨3,bl<|s.extract (j+1)<|j+1+p,j⟩else⟨5,[],j⟩,j+p+2):=by
         rw[c];unfold XT;rw[hd,O,B,<-e2,f,e3,e2];rfl
        have o:=I f;clear c g B f e2 e3;cases H:ZY<|bl<|s.extract (j+1)<|j+1+p
        .have c:U<|Zg (bl s) i=(⟨5,bl ⟨#[]⟩,j⟩,j+p+2):=by rw[d,H];rfl
         have T:=I H;clear d H;go_wp2_with(first|(go_at_call 151;refine(TR).m ?_;rintro e u ⟨rfl,rfl⟩)|(go_at_call 108;refine(Sl).m ?_;rintro e u ⟨rfl,rfl⟩)|fail);refine(Qd C A o.o).m ?_;rintro e u ⟨rfl,rfl⟩;go_wp2_with fail;refine(Jy J T).m ?_;rintro e u ⟨rfl,rfl⟩;go_wp2;exact YQ (v:=.tuple #[.agg _,E<|(j:Int)+p+2]) (by simp[results,results183,go_sem]) C ⟨⟨⟨#[]⟩,QC c.o C C X⟩,Yh⟩
        .have c:U<|Zg (bl s) i=(⟨3,bl<|s.extract (j+1)<|j+1+p,j⟩,j+p+2):=by rw[d,H];rfl
         have T:=I H;clear d H;go_wp2_with(first|(go_at_call 151;refine(TR).m ?_;rintro e u ⟨rfl,rfl⟩)|(go_at_call 108;refine(Sl).m ?_;rintro e u ⟨rfl,rfl⟩)|fail);refine(Qd C A o.o).m ?_;rintro e u ⟨rfl,rfl⟩;go_wp2_with fail;refine(Jy J T).m ?_;rintro e u ⟨rfl,rfl⟩;go_wp2;exact YQ (v:=.tuple #[.agg _,E<|(j:Int)+p+2]) (by simp[results,results183,go_sem]) C ⟨⟨(s.extract _ _),QC c.o C C X⟩,Yh⟩
      .have S:((s[j].toNat:Int)==34)=false:=by
        rw[YB];intro h;exact B<|TN.1<|by show s[j].toNat=34;omega
       have Q:(s[j]==34)=false:=by rwa [YB]
       have d:Zg (bl s) i=if s[j]==33&&((bl s).drop<|j+1).head?==some 61 then(⟨4,[33,61],j⟩,j+2)else if(LS.seek s[j] QG).isSome then(⟨4,[s[j]],j⟩,j+1)else(⟨5,[],j⟩,j+1):=by
        rw[c];unfold XT;rw[hd,O,Q];rfl
       clear c;have z:(∃h:j+1<s.size,((s[j].toNat:Int)==33)=true/\((s[j+1].toNat:Int)==61)=true/\(s[j]==33&&((bl s).drop<|j+1).head?==some 61)=true)\/
        ((((s[j].toNat:Int)==33)=false\/(((s[j].toNat:Int)==33)=true/\¬j+1<s.size)\/(∃h:j+1<s.size,((s[j].toNat:Int)==33)=true/\((s[j+1].toNat:Int)==61)=false))/\(s[j]==33&&((bl s).drop<|j+1).head?==some 61)=false):=by
        by_cases D:s[j]=33
        .have b33:((s[j].toNat:Int)==33)=true:=by rw[D];rfl
         by_cases l:j+1<s.size
         .rw[Td s _ l];by_cases G:s[j+1]=61
          .exact .inl ⟨l,b33,by rw[G];rfl,by rw[D,G];rfl⟩
          .refine .inr ⟨.inr<|.inr ⟨l,b33,?_⟩,by simp[G]⟩;rw[YB];intro h;exact G<|TN.1<|by show s[j+1].toNat=61;omega
         .refine .inr ⟨.inr<|.inl ⟨b33,l⟩,?_⟩;rw[Ts<|by rw[Zb];omega];simp
        .refine .inr ⟨.inl ?_,by simp[D]⟩;rw[YB];intro h;exact D<|TN.1<|by show s[j].toNat=33;omega
       clear g B Q;rcases z with⟨l,b33,b61,x⟩|⟨z,x⟩
       .have c:U<|Zg (bl s) i=(⟨4,bl ⟨#[33,61]⟩,j⟩,j+2):=by rw[d,Ye x];rfl
        clear d x;go_wp2_with(first|(go_at_call 151;refine(TR).m ?_;rintro e u ⟨rfl,rfl⟩)|(go_at_call 108;refine(Sl).m ?_;rintro e u ⟨rfl,rfl⟩)|fail);exact YQ (v:=.tuple #[.agg _,E<|(j)+2]) (by simp[results,results183,go_sem]) C ⟨⟨⟨#[33,61]⟩,QC c.o C C X⟩,Yh⟩
       .rw[x]at d;have e1:bl (s.extract j<|j+1)=[s[j]]:=by
         rw[WL,Ri,Td s j r,Nat.add_sub_cancel_left];rfl
        have K:(⟨#[40,41,123,125,91,93,44,61,43,45,42,47]⟩:BA).size<=6000:=N;have ebs:bl ⟨#[40,41,123,125,91,93,44,61,43,45,42,47]⟩=QG:=C;cases f:LS.seek s[j] QG with
        |none=>
         have c:U<|Zg (bl s) i=(⟨5,bl ⟨#[]⟩,j⟩,j+1):=by rw[d,f];rfl
         have o:U<|LS.seek _ (bl ⟨#[40,41,123,125,91,93,44,61,43,45,42,47]⟩)=none:=f;clear d x f e1 ebs;rcases z with b33|⟨b33,l⟩|⟨l,b33,b61⟩;all_goals
          go_wp2_with(first|(go_at_call 151;refine(TR).m ?_;rintro e u ⟨rfl,rfl⟩)|(go_at_call 108;refine(Sl).m ?_;rintro e u ⟨rfl,rfl⟩)|fail);refine(OO C K o).m ?_;rintro e u ⟨rfl,rfl⟩;go_wp2;exact YQ (v:=.tuple #[.agg _,E<|(j:Int)+1]) (by simp[results,results183,go_sem]) C ⟨⟨⟨#[]⟩,QC (k:=5) (a:=j) c.o C C X⟩,Yh⟩
        |some p=>
         have c:U<|Zg (bl s) i=(⟨4,bl<|s.extract j<|j+1,j⟩,j+1):=by rw[d,f,e1];rfl
         have o:U<|LS.seek _ (bl ⟨#[40,41,123,125,91,93,44,61,43,45,42,47]⟩)=some p:=f;clear d x f e1 ebs;rcases z with b33|⟨b33,l⟩|⟨l,b33,b61⟩;all_goals
          go_wp2_with(first|(go_at_call 151;refine(TR).m ?_;rintro e u ⟨rfl,rfl⟩)|(go_at_call 108;refine(Sl).m ?_;rintro e u ⟨rfl,rfl⟩)|fail);refine(Qd C K o).m ?_;rintro e u ⟨rfl,rfl⟩;go_wp2;exact YQ (v:=.tuple #[.agg _,E<|(j:Int)+1]) (by simp[results,results183,go_sem]) C ⟨⟨(s.extract j<|j+1),QC (k:=4) (a:=j) (p:=j+1) c.o C C X⟩,Yh⟩
     .have q:run Zl _<=((bl s).drop j).length:=NI _ _;rw[Ur,Zb]at q;have d:Zg (bl s) i=(if 8<run Zl ((bl s).drop j)then⟨5,[],j⟩else⟨2,((bl s).drop j).take<|run Zl<|(bl s).drop j,j⟩,j+run Zl ((bl s).drop j)):=by
       rw[c];unfold XT;rw[hd,O,<-g];rfl
      obtain⟨n,l⟩:∃n,run Zl ((bl s).drop j)=n:=⟨_,C⟩;rw[l]at d q;have L:=I d;have P:=I l;clear d l c g;have V:j+n<=s.size:=X;have e3:bl (s.extract j<|j+n)=((bl s).drop j).take n:=by rw[WL,Ri];congr 1;omega
      have E3:=I e3;clear e3;by_cases h8:8<n
      .have c:U<|Zg (bl s) i=(⟨5,bl ⟨#[]⟩,j⟩,j+n):=by rw[L,Ye h8];rfl
       go_wp2_with(first|(go_at_call 151;refine(TR).m ?_;rintro e u ⟨rfl,rfl⟩)|(go_at_call 108;refine(Sl).m ?_;rintro e u ⟨rfl,rfl⟩)|fail);refine(An s j R X).m ?_;rintro e u ⟨rfl,rfl⟩;rw[P];go_wp2;exact YQ (v:=.tuple #[.agg _,E<|(j:Int)+n]) (by simp[results,results183,go_sem]) C ⟨⟨⟨#[]⟩,QC (k:=5) (a:=j) c.o C C X⟩,Yh⟩
      .have c:U<|Zg _ i=(⟨2,bl _,j⟩,j+n):=I<|by rw[L,Yd h8,E3]
       go_wp2_with(first|(go_at_call 151;refine(TR).m ?_;rintro e u ⟨rfl,rfl⟩)|(go_at_call 108;refine(Sl).m ?_;rintro e u ⟨rfl,rfl⟩)|fail);refine(An s j R X).m ?_;rintro e u ⟨rfl,rfl⟩;rw[P];go_wp2;exact YQ (v:=.tuple #[.agg _,E<|(j:Int)+n]) (by simp[results,results183,go_sem]) C ⟨⟨(s.extract j<|j+n),QC (k:=2) (a:=j) c.o C C X⟩,Yh⟩
    .have q:run Zt _<=((bl s).drop j).length:=NI _ _;rw[Ur,Zb]at q;have d:Zg (bl s) i=(if(ZC 1000000000<|((bl s).drop j).take<|run Zt<|(bl s).drop j).isSome then⟨1,((bl s).drop j).take<|run Zt<|(bl s).drop j,j⟩else⟨5,[],j⟩,j+run Zt ((bl s).drop j)):=by
      rw[c];unfold XT;rw[hd,<-g];rfl
     obtain⟨n,l⟩:∃n,run Zt ((bl s).drop j)=n:=⟨_,C⟩;rw[l]at d q;have P:=I l;clear l c g;have V:j+n<=s.size:=X;have e3:bl (s.extract j<|j+n)=((bl s).drop j).take n:=by rw[WL,Ri];congr 1;omega
     have A:(s.extract j<|j+n).size<=6000:=by rw[V5];omega
     rw[<-e3]at d;have L:=I d;clear e3 d;have hT:=Nz 1000000000<|bl<|s.extract j<|j+n;go_wp2_with(first|(go_at_call 151;refine(TR).m ?_;rintro e u ⟨rfl,rfl⟩)|(go_at_call 108;refine(Sl).m ?_;rintro e u ⟨rfl,rfl⟩)|fail);refine(yu s j R X).m ?_;rintro e u ⟨rfl,rfl⟩;rw[P];go_wp2_with fail;refine(LI 1000000000 C A X).m ?_;rintro e u ⟨rfl,rfl⟩;cases m:ZC 1000000000<|bl<|s.extract j (j+n)with
     |none=>
      have c:U<|Zg (bl s) i=(⟨5,bl ⟨#[]⟩,j⟩,j+n):=by rw[L,m];rfl
      rw[P1 m];clear m hT;go_wp2;exact YQ (v:=.tuple #[.agg _,E<|(j:Int)+n]) (by simp[results,results183,go_sem]) C ⟨⟨⟨#[]⟩,QC (k:=5) (a:=j) (p:=j+n) c.o C C X⟩,Yh⟩
     |some v=>
      have c:U<|Zg (bl s) i=(⟨1,bl<|s.extract j<|j+n,j⟩,j+n):=by rw[L,m];rfl
      rw[RB m];clear m hT;go_wp2;exact YQ (v:=.tuple #[.agg _,E<|(j:Int)+n]) (by simp[results,results183,go_sem]) C ⟨⟨(s.extract j<|j+n),QC (k:=1) (a:=j) c.o C C X⟩,Yh⟩
  .have c:U _:=M.o▸Zkg s j r W;have Z:((j:Int)==(s.size))=true:=by rw[XM];omega
   go_wp2;exact YQ (by simp[results,results183,go_sem]) C ⟨⟨⟨#[]⟩,QC c.o C C C⟩,Yh⟩
end Go.Proofs.YtmfnolgpaoldpaaGreatDoor
namespace Go.Proofs.YtmfnolgpaoldpaaGreatDoor.LS
open Go Go.RowKit
structure Nd where
 jj:Nat
 op:Nat
 n:Int
 name:LB
 kq:List<|LB×LB×Bool
 by_:List<|LB
abbrev Tr:=Go.Deep.BT Nd
abbrev Yl (α:Type):=Except (Nat×Nat)<|α×List Yg
def TW(a:Nd):Tr:=.node 0 0 a .nil .nil
def VM(jj op:Nat):Nd:=⟨jj,op,0,[],[],[]⟩
def Z7(l:LB):Nat->Nat->List Yg
 |0,_=>[]
 |n+1,i=>if(Zg l i).1.jj=0\/(Zg l i).1.jj=5 then[(Zg l i).1]else(Zg l i).1::Z7 l n (Zg l i).2
def hd(ts:List Yg):Yg:=ts.headD ⟨0,[],0⟩
def UD:LB:=[111,114]
def UZ:LB:=[98,121]
def Wu:List<|LB:=[[115,117,109],[109,97,120],[109,105,110],[99,111,117,110,116]]
def WN:List<|LB:=[[116,111,116,97,108],[112,101,97,107],[108,111,119],[115,105,122,101],[114,105,115,101]]
def Y7(w:LB):List (LB)->Option Nat
 |[]=>none
 |x::l=>if x=w then some 0 else(Y7 w l).map (·+1)
def Yk(s:LB)(t:Yg):Bool:=(t.jj==2||t.jj==4)&&t.txt==s
def bnd{α β:Type}(x:Yl α)(f:α->List Yg->Yl β):Yl β:=match x with
 |.error e=>.error e
 |.ok (a,ts)=>f a ts
def Zf(s:LB)(ts:List Yg):Yl Unit:=if Yk s (hd ts)then .ok ((),ts.tail)else .error (2,(hd ts).at_)
def Zk(k:Nat)(ts:List Yg):Yl<|LB:=if(hd ts).jj=k then .ok ((hd ts).txt,ts.tail)else .error (2,(hd ts).at_)
def ZI{α:Type}(item:List Yg->Yl α)(close:LB):Nat->List α->List Yg->Yl (List α)
 |0,_,_=>.error (0,0)
 |n+1,acc,ts=>if Yk close<|hd ts then .ok (acc,ts.tail)else
  bnd (if acc.isEmpty then .ok ((),ts)else Zf [44] ts) λ_ r=>bnd (item r) λa r=>ZI item close n (acc++[a]) r
def RC(ts:List Yg):Yl Bool:=if Yk [33,61] (hd ts)then .ok (true,ts.tail)else bnd (Zf [61] ts) λ_ r=>.ok (false,r)
def ZK(ts:List Yg):Yl<|LB×LB×Bool:=bnd (Zk 2 ts) λa r=>bnd (RC r) λn r=>bnd (Zk 3 r) λb r=>.ok ((a,b,n),r)
def Qb(t:Yg):Bool:=(Y7 t.txt Wu).isSome||(Y7 t.txt WN).isSome||Yk UD t||Yk UZ t
def Qa(ts:List Yg):Yl<|LB:=if Qb (hd ts)then .error (2,(hd ts).at_)else Zk 2 ts
def YP(ts:List Yg):Yl Nd:=bnd (Qa ts) λa r=>if Yk [123] (hd r)then bnd (ZI ZK [125] r.length [] r.tail) λcs r=>.ok (⟨1,0,0,a,cs,[]⟩,r)else .ok (⟨1,0,0,a,[],[]⟩,r)
def T0(ts:List Yg):Yl Int:=if(hd ts).jj=1/\1<=YL 1000 (hd ts).txt then .ok (YL 1000 (hd ts).txt,ts.tail)else .error (2,(hd ts).at_)
def Xu(o:Nat)(ts:List Yg):Yl Tr:=bnd (Zf [40] ts) λ_ r=>bnd (YP r) λp r=>bnd (Zf [91] r) λ_ r=>bnd (T0 r) λn r=>bnd (Zf [93] r) λ_ r=>bnd (Zf [41] r) λ_ r=>.ok (TW ⟨2,o,n,p.name,p.kq,[]⟩,r)
def Z9(rec:Nat->List Yg->Nat->Yl Tr)(ts:List Yg)(deep:Nat):Yl Tr:=bnd (Zf [40] ts) λ_ r=>bnd (rec 0 r deep) λa r=>bnd (Zf [41] r) λ_ r=>.ok (a,r)
def Tf(rec:Nat->List Yg->Nat->Yl Tr)(g:Nat)(ts:List Yg)(deep:Nat):Yl Tr:=bnd (Zf UZ ts) λ_ r=>bnd (Zf [40] r) λ_ r=>bnd (ZI (Zk 2) [41] (r.length+1) [] r) λns r=>bnd (Z9 rec r deep) λa r=>.ok (.node 0 0 ⟨5,g,0,[],[],ns⟩ a .nil,r)
def Qf(t:Yg):Bool:=t.jj==1||Yk [45] t||Yk [40] t||(t.jj==2&&!Yk UD t&&!Yk UZ t)
def Wz(l:LB):Int:=((ZC 1000000000 l).getD 0:Nat)
def ZR(rec:Nat->List Yg->Nat->Yl Tr)(ts:List Yg)(deep:Nat):Yl Tr:=
 if(hd ts).jj=1 then .ok (TW ⟨0,0,Wz (hd ts).txt,[],[],[]⟩,ts.tail)
 else if Yk [45] (hd ts)then bnd (rec 3 ts.tail deep) λa r=>.ok (.node 0 0 (VM 3 0) a .nil,r)
 else if Yk [40] (hd ts)then Z9 rec ts deep
 else match Y7 (hd ts).txt Wu with
  |some g=>Tf rec g ts.tail deep
  |none=>match Y7 (hd ts).txt WN with
   |some o=>Xu o ts.tail
   |none=>bnd (YP ts) λp r=>.ok (TW p,r)
def Ug(rec:Nat->List Yg->Nat->Yl Tr)(ts:List Yg)(deep:Nat):Yl Tr:=
 if Qf (hd ts)then(if deep=20 then .error (3,(hd ts).at_)else ZR rec ts<|deep+1)else .error (2,(hd ts).at_)
def opAt(lv:Nat)(t:Yg):Option<|Nat×Nat:=
 if lv=0 then(if Yk UD t then some (6,0)else none)
 else if lv=1 then(if Yk [43] t then some (4,0)else if Yk [45] t then some (4,1)else none)
 else(if Yk [42] t then some (4,2)else if Yk [47] t then some (4,3)else none)
def Zh:Nat->Bool->Nat->Tr->List Yg->Nat->Yl Tr
 |0,_,_,_,_,_=>.error (0,0)
 |n+1,false,lv,_,ts,deep=>if lv=3 then Ug (λlv ts d=>Zh n false lv .nil ts d) ts deep
  else bnd (Zh n false (lv+1) .nil ts deep) λa r=>Zh n true lv a r deep
 |n+1,true,lv,a,ts,deep=>match opAt lv<|hd ts with
  |none=>.ok (a,ts)
  |some p=>bnd (Zh n false (lv+1) .nil ts.tail deep) λb r=>Zh n true lv (.node 0 0 (VM p.1 p.2) a b) r deep
def Zq:Tr->Nat
 |.nil=>1
 |.node _ _ a l r=>if a.jj=0 then 1 else if a.jj=1\/a.jj=2 then 2 else if a.jj=3 then Zq l
  else if a.jj=5 then(if Zq l=2 then 2 else 0)
  else if Zq l=0\/Zq r=0\/(a.jj=6/\Zq l+Zq r≠4)then 0 else if Zq l+Zq r=2 then 1 else 2
def Z5(l:LB):Except (Nat×Nat) Tr:=
 if 300<l.length then .error (1,0)else
 match Zh (10*(Z7 l (l.length+1) 0).length+5) false 0 .nil (Z7 l (l.length+1) 0) 0 with
 |.error e=>.error e
 |.ok (t,r)=>if(hd r).jj=0 then(if Zq t=0 then .error (4,0)else .ok t)else .error (2,(hd r).at_)
def V0(a:Nd):Nat:=if a.jj=6 then 1 else if a.jj=4 then(if a.op<2 then 2 else 3)else 4
def commas:List (LB)->LB
 |[]=>[]
 |[a]=>a
 |a::l=>a++44::commas l
def VT(c:LB×LB×Bool):LB:=c.1++(if c.2.2 then[33,61]else[61])++[34]++c.2.1++[34]
def Xl(a:Nd):LB:=if a.kq=[]then a.name else a.name++[123]++commas (a.kq.map VT)++[125]
end Go.Proofs.YtmfnolgpaoldpaaGreatDoor.LS
namespace Go.Proofs.YtmfnolgpaoldpaaGreatDoor
open Go.RowKit LS Go.Proofs.Tryz
open Go renaming World->Y,Value->F
open Go.RowKit renaming Hid->U
structure QV where
 pv:F
 s:BA
 at_:Nat
 k:Nat
 tx:BA
 ta:Nat
 deep:Nat
 e:Nat
 pl:Nat
def QV.cells(q:QV):Array F:=#[q.pv,.string q.s,E q.at_,E q.k,.string q.tx,E q.ta,E q.deep,E q.e,E q.pl]
def YN(w:Y)(b:Nat)(q:QV):Prop:=w.heap[b]?=some (.cells q.cells 264 (0,0))
theorem YN.lt{w:Y}{b:Nat}{q:QV}(h:YN w b q):b<w.heap.size:=(Xr.1 h).1
theorem YN.frozen{w:Y}{b:Nat}{q:QV}(h:YN w b q)(o:Nat):w.frozen? ⟨b,o,none⟩=false:=by
 unfold YN at h;simp[World.frozen?,h]
theorem YN.cell{w:Y}{b:Nat}{q:QV}(h:YN w b q)(o:Nat)(v:F)(a:q.cells[o]?=some v):w.cell? ⟨b,o,none⟩=some v:=by
 unfold YN at h;simp only[World.cell?,h];simpa using a
theorem YN.all{w:Y}{b:Nat}{q:QV}(h:YN w b q):
 w.cell? ⟨b,0,none⟩=some q.pv/\w.cell? ⟨b,1,none⟩=some (.string q.s)/\w.cell? ⟨b,2,none⟩=some (E q.at_)/\w.cell? ⟨b,3,none⟩=some (E q.k)/\w.cell? ⟨b,4,none⟩=some (.string q.tx)/\
 w.cell? ⟨b,5,none⟩=some (E q.ta)/\w.cell? ⟨b,6,none⟩=some (E q.deep)/\w.cell? ⟨b,7,none⟩=some (E q.e)/\w.cell? ⟨b,8,none⟩=some (E q.pl):=
 ⟨h.cell 0 _ C,h.cell 1 _ C,h.cell 2 _ C,h.cell 3 _ C,h.cell 4 _ C,h.cell 5 _ C,h.cell 6 _ C,h.cell 7 _ C,h.cell 8 _ C⟩
theorem YN.set{w:Y}{b:Nat}{q q':QV}(h:YN w b q)(o:Nat)(v:F)(a:q.cells.setIfInBounds o v=q'.cells):YN (w.setCell ⟨b,o,none⟩ v) b q':=by
 unfold YN at h⊢;simp only[World.setCell,V4,h,VE,Wr];rw[<-a];rfl
theorem YN.other{w:Y}{b:Nat}{q:QV}(h:YN w b q){a:Addr}(c:b≠a.block)(v:F):YN (w.setCell a v) b q:=(Go.Deep.blk_setCell_other w a v b c).trans h
theorem YN.alloc{w:Y}{b:Nat}{q:QV}(h:YN w b q)(o:Obj):YN (w.alloc o) b q:=(Go.Deep.blk_alloc_lt w o b h.lt).trans h
theorem YN.below{w w':Y}{b:Nat}{q:QV}(h:YN w b q)(a:BW w w'):YN w' b q:=(a.block b h.lt).trans h
theorem ZB{w w':Y}{r:Option Nat}(h:BW w w'):w.grownBy w' r:=⟨h.os,h.tape,h.output,h.size,λk a _=>h.block k a⟩
theorem Z2(w:Y)(r:Option Nat):w.grownBy w r:=⟨C,C,C,Yj _,λ_ _ _=>C⟩
theorem Zi{a b c:Y}{r:Option Nat}(h:a.grownBy b r)(d:b.grownBy c r):a.grownBy c r:=
 ⟨d.os.trans h.os,d.tape.trans h.tape,d.output.trans h.output,Xb h.size d.size,λk e f=>(d.block k (WH e h.size) f).trans<|h.block k e f⟩
theorem Zn{a w:Y}{b:Nat}(h:a.grownBy w<|some b){p:Addr}(e:p.block=b\/a.heap.size<=p.block)(v:F):a.grownBy (w.setCell p v)<|some b:=
 ⟨h.os,h.tape,h.output,by rw[Go.Deep.nblk_setCell];exact h.size,λk c d=>(Go.Deep.blk_setCell_other w p v k<|by simp_all;omega).trans<|h.block k c d⟩
theorem Vh{a w:Y}{r:Option Nat}(h:a.grownBy w r)(o:Obj):a.grownBy (w.alloc o) r:=
 ⟨h.os,h.tape,h.output,by rw[Go.Deep.nblk_alloc];have:=h.size;omega,λk c d=>(Go.Deep.blk_alloc_lt w o k<|WH c h.size).trans<|h.block k c d⟩
theorem TU{a w:Y}{r:Option Nat}(h:a.grownBy w r):a.grownBy w.drew r:=⟨h.os,h.tape,h.output,h.size,h.block⟩
theorem Qy{a b c:Y}{r:Option Nat}(h:a.grownBy b r)(d:BW b c):a.grownBy c r:=Zi h<|ZB d
theorem wS{w W a:Y}{x y z:F}{t:TypeId}(d:BW W a)(c:W.heap=(w.alloc<|.cells #[x,y,z] t).heap):
 a.cell? ⟨w.heap.size,0,none⟩=some x/\a.cell? ⟨w.heap.size,1,none⟩=some y/\a.cell? ⟨w.heap.size,2,none⟩=some z/\
 a.frozen? ⟨w.heap.size,0,none⟩=false/\a.frozen? ⟨w.heap.size,1,none⟩=false/\a.frozen? ⟨w.heap.size,2,none⟩=false:=by
 have e:W.heap.size=w.heap.size+1:=by rw[c];exact Go.Deep.nblk_alloc _ _
 have h:a.heap[w.heap.size]?=some (.cells #[x,y,z] t):=by
  rw[d.block _ X,c];exact Go.Deep.blk_alloc_new _ _
 refine⟨?_,?_,?_,?_,?_,?_⟩<;>simp[World.cell?,World.frozen?,h]
theorem Ml{W:Y}{x o p:Nat}{a:F}{r:Option F}(h:W.cell? ⟨x,o,none⟩=r)(c:p≠o):(W.setCell ⟨x,p,none⟩ a).cell? ⟨x,o,none⟩=r:=
 (World.cell?_setCell_other _ _ _ _<|by intro e;injection e with _ e2;exact c e2).trans h
theorem hF{W:Y}{x:Nat}{u v y a b c:F}(k0:W.cell? ⟨x,0,none⟩=some u)(k1:W.cell? ⟨x,1,none⟩=some v)(k2:W.cell? ⟨x,2,none⟩=some y):
 (((W.setCell ⟨x,0,none⟩ a).setCell ⟨x,1,none⟩ b).setCell ⟨x,2,none⟩ c).cell? ⟨x,0,none⟩=some a/\(((W.setCell ⟨x,0,none⟩ a).setCell ⟨x,1,none⟩ b).setCell ⟨x,2,none⟩ c).cell? ⟨x,1,none⟩=some b/\
 (((W.setCell ⟨x,0,none⟩ a).setCell ⟨x,1,none⟩ b).setCell ⟨x,2,none⟩ c).cell? ⟨x,2,none⟩=some c:=
 ⟨Ml (Ml (Kd _ _ _ k0) N) N,Ml (Kd _ _ _<|Ml k1 N) N,Kd _ _ _<|Ml (Ml k2 N) N⟩
theorem kW(w:Y)(b:Nat)(q:QV)(e:Nat)(h:YN w b q)(a:q.e=0):
 CP 154 #[Vp b,E e] w λr u=>r=.returned (.tuple #[])/\YN u b {q with e:=e,pl:=q.ta}/\w.grownBy u (some b):=by
 obtain⟨c0,c1,c2,c3,c4,c5,c6,c7,c8⟩:=h.all;have f7:=h.frozen 7;have f8:=h.frozen 8;have d:((q.e:Int)==0)=true:=by rw[a];rfl
 have c:U<|YN w b q:=h;clear h a;go_enter func154,ntmps154;go_wp2;go_end0;exact⟨C,YN.set (YN.set (q':={q with e:=e}) c.o 7 _ C) 8 _ C,(by repeat(first|exact Z2 _ _|assumption|refine Zn ?_ (by first|exact Or.inl C|(right;omega)|(right;simp;omega)) _|refine Vh ?_ _|refine TU ?_))⟩
theorem kV(w:Y)(b:Nat)(q:QV)(e:Int)(h:YN w b q)(a:q.e≠0):
 CP 154 #[Vp b,E e] w λr u=>r=.returned (.tuple #[])/\u=w:=by
 obtain⟨c0,c1,c2,c3,c4,c5,c6,c7,c8⟩:=h.all;have c:((q.e:Int)==0)=false:=by rw[YB];omega
 have d:U<|YN w b q:=h;clear h a;go_enter func154,ntmps154;go_wp2;go_end0;exact⟨C,C⟩
theorem kX(w:Y)(b:Nat)(q:QV)(s:BA)(h:YN w b q)(a:q.e≠0):
 CP 185 #[Vp b,.string s] w λr u=>r=.returned (.bool false)/\u=w:=by
 obtain⟨c0,c1,c2,c3,c4,c5,c6,c7,c8⟩:=h.all;have c:((q.e:Int)==0)=false:=by rw[YB];omega
 have d:U<|YN w b q:=h;clear h a;go_enter func185,ntmps185;go_wp2;go_ret;exact⟨C,C⟩
def S2(q:QV):Yg:=⟨q.k,bl q.tx,q.ta⟩
theorem pU (s:BA)(q:QV):Yk (bl s) (S2 q)=((((q.k:Int)==2)||((q.k:Int)==4))&&(q.tx.toList==s.toList)):=by
 unfold Yk S2;rw[ZA,ZA];have e2:((q.k:Int)==2)=(q.k==2):=by rw[Uc,XM,XM];omega
 have e4:((q.k:Int)==4)=(q.k==4):=by rw[Uc,XM,XM];omega
 rw[e2,e4]
theorem kY(w:Y)(b:Nat)(q:QV)(s:BA)(h:YN w b q)(a:q.e=0):
 CP 185 #[Vp b,.string s] w λr u=>r=.returned (.bool<|Yk (bl s)<|S2 q)/\u=w:=by
 obtain⟨c0,c1,c2,c3,c4,c5,c6,c7,c8⟩:=h.all;have g:((q.e:Int)==0)=true:=by rw[a];rfl
 have i:U<|YN w b q:=h;clear h a;rw[pU];generalize c:((q.k:Int)==2)=x2;generalize d:((q.k:Int)==4)=x4;generalize f:(q.tx.toList==s.toList)=xs;go_enter func185,ntmps185;cases x2<;>cases x4<;>cases xs<;>(go_wp2;go_ret;exact⟨C,C⟩)
theorem Af(w:Y)(b:Nat)(q:QV)(h:YN w b q)(A:q.s.size<=6000)(B:q.at_<=q.s.size):
 CP 152 #[Vp b] w λr u=>r=.returned (.tuple #[])/\(∃ts:BA,bl ts=(Zg (bl q.s) q.at_).1.txt/\
  YN u b {q with at_:=(Zg (bl q.s) q.at_).2,k:=(Zg (bl q.s) q.at_).1.jj,tx:=ts,ta:=(Zg (bl q.s) q.at_).1.at_})/\w.grownBy u (some b):=by
 obtain⟨c0,c1,c2,c3,c4,c5,c6,c7,c8⟩:=h.all;have K:=h.lt;have p:U<|YN w b q:=h;clear h;generalize v:Zg (bl q.s) q.at_=r;have D:U _:=v;clear v;go_enter func152,ntmps152;go_upto_region 0 with fail;go_cut [2,3] (λs2 s3 f=>∃(x:Nat)(ts:BA),s2=Vp x/\s3=E r.2/\U (bl ts=r.1.txt)/\b≠x/\U (YN f b q)/\U (w.grownBy f<|some b)/\
  f.cell? ⟨x,0,none⟩=some (E r.1.jj)/\f.cell? ⟨x,1,none⟩=some (.string ts)/\f.cell? ⟨x,2,none⟩=some (E r.1.at_));case first=>
  go_region_with (go_at_call 183;refine(qP A B).m ?_;rintro e g ⟨⟨ts,j⟩,a⟩;rw[D.o]at j;obtain⟨rfl,l⟩:=j;try(have m:=wS (w:=w) (x:=E 0) (y:=.string ⟨#[]⟩) (z:=E 0) (t:=262) a C;obtain⟨k0,k1,k2,g0,g1,g2⟩:=m));all_goals
   have n:YN g b q:=by first|exact YN.below (w:=w.drew) p.o a|exact YN.below (w:=(w.alloc _).drew) (YN.alloc p.o _) a
   have i:w.grownBy g<|some b:=by first|exact Qy (b:=w.drew) (TU<|Z2 _ _) a|exact Qy (b:=(w.alloc _).drew) (TU<|Vh (Z2 _ _) _) a
   have L:w.heap.size<=g.heap.size:=i.size;have d:b≠w.heap.size:=X;have o:b≠g.heap.size:=X;clear c0 c1 c2 c3 c4 c5 c6 c7 c8 a;go_wp2_with fail;go_meet;first
    |exact⟨g.heap.size,ts,C,C,l,o,YN.alloc n _,Vh i _,Sm,Sm,Sm⟩
    |exact⟨w.heap.size,ts,C,C,l,d,YN.other (YN.other (YN.other n d _) d _) d _,Zn (Zn (Zn i (Or.inr<|Yj _) _) (Or.inr<|Yj _) _) (Or.inr<|Yj _) _,hF k0 k1 k2⟩
 case rest=>
  obtain⟨x,ts,rfl,rfl,G,m,c,H,k0,k1,k2⟩:=hcut;clear c0 c1 c2 c3 c4 c5 c6 c7 c8;obtain⟨c0,c1,c2,c3,c4,c5,c6,c7,c8⟩:=YN.all c.o;have f2:=YN.frozen c.o 2;have f3:=YN.frozen c.o 3;have f4:=YN.frozen c.o 4;have f5:=YN.frozen c.o 5;go_wp2;go_end0;have J:=c.o;have M:=H.o;refine⟨C,⟨ts,G.o,?_⟩,(by repeat(first|exact Z2 _ _|assumption|refine Zn ?_ (by first|exact Or.inl C|(right;omega)|(right;simp;omega)) _|refine Vh ?_ _|refine TU ?_))⟩;refine YN.set (q:={q with k:=r.1.jj,tx:=ts,ta:=r.1.at_}) ?_ 2 _ C;refine YN.set (q:={q with k:=r.1.jj,tx:=ts}) ?_ 5 _ C;refine YN.set (q:={q with k:=r.1.jj}) ?_ 4 _ C;refine YN.set (q:=q) ?_ 3 _ C;exact J
end Go.Proofs.YtmfnolgpaoldpaaGreatDoor
namespace Go.Proofs.YtmfnolgpaoldpaaGreatDoor.LS
open Go Go.RowKit
theorem pP(l:LB){j:Nat}(c:UInt8)(r:LB)(e:l.drop j=c::r):j<(XT l j c r).2/\(XT l j c r).2<=l.length:=by
 have f:l.length=j+(r.length+1):=by
  have:=congrArg List.length e;simp at this;have d:j<=l.length:=by
   rcases Sf l.length j with h|h
   .omega
   .exact h
  omega
 unfold XT;split
 .rename_i hd;have g:=NI Zt<|c::r;have d:0<run Zt (c::r):=by simp[run,hd]
  simp_all
 .split
  .rename_i hd;have g:=NI Zl<|c::r;have d:0<run Zl (c::r):=by simp[run,hd]
   simp_all
  .split
   .split
    .omega
    .rename_i p i;have:=NJ i;omega
   .split
    .rename_i k;have:0<r.length:=by
      cases r with
     |nil=>simp at k
     |cons a r=>simp
     omega
    split<;>omega
theorem Nx(l:LB)(i:Nat)(d:i<=l.length):((Zg l i).1.jj≠0->i<(Zg l i).2)/\(Zg l i).2<=l.length:=by
 unfold Zg;have a:=NI (·==32)<|l.drop i;rw[Ur]at a;generalize run (·==32) (l.drop i)=n at*;unfold UV;cases hd:l.drop (i+n)with
 |nil=>simp_all;omega
 |cons c r=>have:=pP l c r hd;simp_all;omega
theorem Lx(l:LB)(i:Nat):(Zg l i).1.txt.length<=l.length+2:=by
 unfold Zg UV;split
 .simp
 .rename_i c r hd;have a:r.length+1<=l.length:=by
   have:=congrArg List.length hd;rw[Ur,Y1]at this;omega
  unfold XT;split
  .split
   .simp_all;omega
   .simp
  .split
   .split
    .simp
    simp_all;omega
   .split
    .split
     .simp
     .split
      .simp_all;omega
      .simp
    .split
     .simp
     split<;>simp
theorem KM{l:LB}{i:Nat}:(Zg l i).1.jj=1->(ZC 1000000000 (Zg l i).1.txt).isSome=true:=by
 unfold Zg UV;split
 .intro h;cases h
 .rename_i c r hd;unfold XT;split
  .split
   .rename_i h;intro _;exact h
   .intro h;cases h
  .split
   .split
    .intro h;cases h
    .intro h;cases h
   .split
    .split
     .intro h;cases h
     .split
      .intro h;cases h
      .intro h;cases h
    .split
     .intro h;cases h
     .split
      .intro h;cases h
      .intro h;cases h
def XB(l:LB)(t:Yg)(at_:Nat)(ts:List Yg):Prop:=∃r,ts=t::r/\((t.jj=0\/t.jj=5)->r=[])/\(¬(t.jj=0\/t.jj=5)->∃n,l.length+1<=n+at_/\r=Z7 l n at_)/\t.txt.length<=l.length+2/\(t.jj=1->(ZC 1000000000 t.txt).isSome=true)
theorem XB.hd{l:LB}{t:Yg}{at_:Nat}{ts:List Yg}(h:XB l t at_ ts):LS.hd ts=t:=by obtain⟨r,rfl,_⟩:=h;rfl
theorem XB.pos{l:LB}{t:Yg}{at_:Nat}{ts:List Yg}(h:XB l t at_ ts):ts.length=ts.tail.length+1:=by obtain⟨r,rfl,_⟩:=h;rfl
theorem XB.next{l:LB}{t:Yg}{at_:Nat}{ts:List Yg}(h:XB l t at_ ts)(c:¬(t.jj=0\/t.jj=5))(d:at_<=l.length):XB l (Zg l at_).1 (Zg l at_).2 ts.tail:=by
 obtain⟨r,rfl,_,h,_⟩:=h;obtain⟨n,f,rfl⟩:=h c;obtain⟨m,rfl⟩:∃m,n=m+1:=⟨n-1,X⟩;have e:=Nx l at_ d;show XB _ _ _<|Z7 l (m+1) at_;unfold Z7;by_cases a:(Zg l at_).1.jj=0\/(Zg l at_).1.jj=5
 .rw[Ye a];exact⟨[],C,λ_=>C,λh=>absurd a h,Lx _ _,KM⟩
 .rw[Yd a];refine⟨_,C,λh=>absurd h a,λ_=>⟨m,?_,C⟩,Lx _ _,KM⟩;have:=e.1 λh=>a<|Or.inl h;omega
theorem XB.start(l:LB):XB l (Zg l 0).1 (Zg l 0).2<|Z7 l (l.length+1) 0:=by
 have c:=Nx l 0<|Yr _;show XB _ _ _<|Z7 l (l.length+1) 0;unfold Z7;by_cases a:(Zg l 0).1.jj=0\/(Zg l 0).1.jj=5
 .rw[Ye a];exact⟨[],C,λ_=>C,λh=>absurd a h,Lx _ _,KM⟩
 .rw[Yd a];refine⟨_,C,λh=>absurd h a,λ_=>⟨l.length,?_,C⟩,Lx _ _,KM⟩;have:=c.1 λh=>a<|Or.inl h;omega
theorem Lb(l:LB)(n i:Nat)(c:i<=l.length):(Z7 l n i).length<=l.length+1-i:=by
 induction n generalizing i with
 |zero=>exact Yr _
 |succ n ih=>
  unfold Z7;have a:=Nx l i c;split
  .simp;omega
  .rename_i d;have e:=a.1 λh=>d<|.inl h;have f:=ih _ a.2;simp;omega
theorem XB.len{l:LB}{t:Yg}{at_:Nat}{ts:List Yg}(h:XB l t at_ ts)(c:at_<=l.length):ts.length<=l.length+2:=by
 obtain⟨r,rfl,d,e,_⟩:=h;by_cases a:t.jj=0\/t.jj=5
 .rw[d a];simp
 .obtain⟨n,_,rfl⟩:=e a;have:=Lb l n at_ c;simp;omega
theorem XB.txt_le{l:LB}{t:Yg}{at_:Nat}{ts:List Yg}(h:XB l t at_ ts):t.txt.length<=l.length+2:=by
 obtain⟨_,_,_,_,h,_⟩:=h;exact h
theorem XB.num{l:LB}{t:Yg}{at_:Nat}{ts:List Yg}(h:XB l t at_ ts):t.jj=1->(ZC 1000000000 t.txt).isSome=true:=by
 obtain⟨_,_,_,_,_,h⟩:=h;exact h
theorem QB{s:LB}{t:Yg}(h:Yk s t=true):¬(t.jj=0\/t.jj=5):=by
 unfold Yk at h;simp_all;omega
end Go.Proofs.YtmfnolgpaoldpaaGreatDoor.LS
namespace Go.Proofs.YtmfnolgpaoldpaaGreatDoor
open Go.RowKit LS Go.Proofs.Tryz
open Go renaming World->Y,Value->F
open Go.RowKit renaming Hid->U
def WA(w:Y)(b:Nat)(pv:F)(s:BA)(ts:List Yg)(deep:Nat):Prop:=∃q:QV,YN w b q/\q.pv=pv/\q.s=s/\q.deep=deep/\q.e=0/\q.at_<=s.size/\XB (bl s) (S2 q) q.at_ ts
def Yw(w:Y)(b:Nat)(pv:F)(e p:Nat)(deep:Nat):Prop:=∃q:QV,YN w b q/\q.pv=pv/\q.deep=deep/\q.e=e/\e≠0/\q.pl=p
def O3{α:Type}(w:Y)(b:Nat)(pv:F)(s:BA)(deep:Nat)(r:Yl α)(good:α->Prop):Prop:=match r with
 |.error x=>Yw w b pv x.1 x.2 deep
 |.ok x=>WA w b pv s x.2 deep/\good x.1
theorem WA.kept{w w':Y}{b:Nat}{pv:F}{s:BA}{ts:List Yg}{deep:Nat}(h:WA w b pv s ts deep)(a:w'.heap[b]?=w.heap[b]?):WA w' b pv s ts deep:=by
 obtain⟨q,c,d⟩:=h;exact⟨q,a.trans c,d⟩
theorem Yw.kept{w w':Y}{b:Nat}{pv:F}{e p deep:Nat}(h:Yw w b pv e p deep)(a:w'.heap[b]?=w.heap[b]?):Yw w' b pv e p deep:=by
 obtain⟨q,c,d⟩:=h;exact⟨q,a.trans c,d⟩
theorem WA.lt{w:Y}{b:Nat}{pv:F}{s:BA}{ts:List Yg}{deep:Nat}(h:WA w b pv s ts deep):b<w.heap.size:=by obtain⟨q,a,_⟩:=h;exact a.lt
theorem Yw.lt{w:Y}{b:Nat}{pv:F}{e p deep:Nat}(h:Yw w b pv e p deep):b<w.heap.size:=by obtain⟨q,a,_⟩:=h;exact a.lt
theorem WA.is{w:Y}{b:Nat}{pv:F}{s:BA}{ts:List Yg}{deep:Nat}(h:WA w b pv s ts deep)(c:BA):
 CP 185 #[Vp b,.string c] w λr u=>r=.returned (.bool<|Yk (bl c)<|hd ts)/\u=w:=by
 obtain⟨q,a,_,_,_,d,_,e⟩:=h;rw[e.hd];exact kY w b q c a d
theorem Yw.is{w:Y}{b:Nat}{pv:F}{e p deep:Nat}(h:Yw w b pv e p deep)(c:BA):
 CP 185 #[Vp b,.string c] w λr u=>r=.returned (.bool false)/\u=w:=by
 obtain⟨q,a,_,_,d,f,_⟩:=h;exact kX w b q c a<|by rw[d];exact f
theorem Yw.fail{w:Y}{b:Nat}{pv:F}{e p deep:Nat}(h:Yw w b pv e p deep)(c:Int):
 CP 154 #[Vp b,E c] w λr u=>r=.returned (.tuple #[])/\u=w:=by
 obtain⟨q,a,_,_,d,f,_⟩:=h;exact kV w b q c a<|by rw[d];exact f
theorem WA.fail{w:Y}{b:Nat}{pv:F}{s:BA}{ts:List Yg}{deep:Nat}(h:WA w b pv s ts deep)(c:Nat)(ci:Int)(a:ci=c)(d:c≠0):
 CP 154 #[Vp b,E ci] w λr u=>r=.returned (.tuple #[])/\Yw u b pv c (hd ts).at_ deep/\w.grownBy u (some b):=by
 subst a;obtain⟨q,e,f,m,g,i,n,j⟩:=h;rw[j.hd];refine(kW w b q c e i).m ?_;rintro r u ⟨rfl,k,l⟩;exact⟨C,⟨_,k,f,g,C,d,C⟩,l⟩
theorem WA.next{w:Y}{b:Nat}{pv:F}{s:BA}{ts:List Yg}{deep:Nat}(h:WA w b pv s ts deep)(g:s.size<=6000)(c:¬((hd ts).jj=0\/(hd ts).jj=5)):
 CP 152 #[Vp b] w λr u=>r=.returned (.tuple #[])/\WA u b pv s ts.tail deep/\w.grownBy u (some b):=by
 obtain⟨q,i,j,rfl,l,m,a,d⟩:=h;rw[d.hd]at c;refine(Af w b q i g a).m ?_;rintro r u ⟨rfl,⟨tx,f,n⟩,o⟩;have p:=d.next c<|by rw[Zb];exact a
 refine⟨C,⟨_,n,j,C,l,m,?_,?_⟩,o⟩
 .have:=(Nx (bl q.s) q.at_<|by rw[Zb];exact a).2;rw[Zb]at this;exact this
 .have e:S2 {q with at_:=(Zg (bl q.s) q.at_).2,k:=(Zg (bl q.s) q.at_).1.jj,tx:=tx,ta:=(Zg (bl q.s) q.at_).1.at_}=(Zg (bl q.s) q.at_).1:=by
   show(⟨_,bl tx,_⟩:Yg)=_;rw[f]
  rw[e];exact p
theorem Yw.take{w:Y}{b:Nat}{pv:F}{e p deep:Nat}(h:Yw w b pv e p deep)(c:BA):
 CP 290 #[Vp b,.string c] w λr u=>r=.returned (.tuple #[])/\u=w:=by
 have H:U<|Yw w b pv e p deep:=h;clear h;go_enter func290,ntmps290;go_wp2_with fail;refine(Yw.is H.o c).m ?_;rintro r u ⟨rfl,rfl⟩;go_wp2_with fail;refine(Yw.fail H.o _).m ?_;rintro r u ⟨rfl,rfl⟩;go_wp2;first|go_end0|refine YQ (Tq C _ _ _) C ?_
 exact⟨C,C⟩
theorem WA.take{w:Y}{b:Nat}{pv:F}{s:BA}{ts:List Yg}{deep:Nat}(h:WA w b pv s ts deep)(k:s.size<=6000)(c:BA):
 CP 290 #[Vp b,.string c] w λr u=>r=.returned (.tuple #[])/\O3 u b pv s deep (Zf (bl c) ts) (λ_=>True)/\w.grownBy u (some b):=by
 have H:U<|WA w b pv s ts deep:=h;clear h;cases a:Yk (bl c)<|hd ts
 .have g:U<|Zf (bl c) ts=.error (2,(hd ts).at_):=I<|by unfold Zf;rw[a];rfl
  have f:U _:=a;clear a;go_enter func290,ntmps290;go_wp2_with fail;refine(WA.is H.o c).m ?_;rw[f.o];rintro r u ⟨rfl,rfl⟩;go_wp2_with fail;refine(WA.fail H.o 2 _ C N).m ?_;rintro r u ⟨rfl,d,e⟩;have i:U _:=d;have j:U _:=e;clear d e;go_wp2;first|go_end0|refine YQ (Tq C _ _ _) C ?_
  rw[g.o];exact⟨C,i.o,j.o⟩
 .have g:U<|Zf (bl c) ts=.ok ((),ts.tail):=I<|by unfold Zf;rw[a];rfl
  have f:U _:=a;clear a;go_enter func290,ntmps290;go_wp2_with fail;refine(WA.is H.o c).m ?_;rw[f.o];rintro r u ⟨rfl,rfl⟩;go_wp2_with fail;refine(WA.next H.o k<|QB f.o).m ?_;rintro r u ⟨rfl,d,e⟩;have i:U _:=d;have j:U _:=e;clear d e;go_wp2;first|go_end0|refine YQ (Tq C _ _ _) C ?_
  rw[g.o];exact⟨C,⟨i.o,trivial⟩,j.o⟩
theorem Yw.jj{w:Y}{b:Nat}{pv:F}{e p deep:Nat}(h:Yw w b pv e p deep)(c:Int):
 CP 292 #[Vp b,E c] w λr u=>r=.returned (.string ⟨#[]⟩)/\u=w:=by
 obtain⟨q,a,d,f,g,i,j⟩:=h;obtain⟨c0,c1,c2,c3,c4,c5,c6,c7,c8⟩:=a.all;have k:((q.e:Int) !=0)=true:=by rw[Vg];omega
 have H:U<|Yw w b pv e p deep:=⟨q,a,d,f,g,i,j⟩;clear a d f g i j;go_enter func292,ntmps292;go_wp2_with fail;refine(Yw.fail H.o _).m ?_;rintro r u ⟨rfl,rfl⟩;go_wp2;go_ret;exact⟨C,C⟩
theorem WA.jj{w:Y}{b:Nat}{pv:F}{s:BA}{ts:List Yg}{deep:Nat}(h:WA w b pv s ts deep)(z:s.size<=6000)(k:Nat)(ki:Int)(n:ki=k)(i:¬(k=0\/k=5)):
 CP 292 #[Vp b,E ki] w λr u=>∃x:BA,r=.returned (.string x)/\O3 u b pv s deep (Zk k ts) (λa=>bl x=a)/\w.grownBy u (some b):=by
 subst n;have H:U<|WA w b pv s ts deep:=h;obtain⟨q,o,A,B,D,p,G,t⟩:=h;obtain⟨c0,c1,c2,c3,c4,c5,c6,c7,c8⟩:=o.all;have K:((q.e:Int) !=0)=false:=by rw[p];rfl
 have d:=t.hd;clear o A B D p G t;by_cases c:q.k=k
 .have v:((q.k:Int) !=(k:Int))=false:=by rw[c];simp
  have j:U<|Zk k ts=.ok (bl q.tx,ts.tail):=I<|by
   unfold Zk;rw[d,Ye<|show(S2 q).jj=k from c];rfl
  have J:U<|¬((hd ts).jj=0\/(hd ts).jj=5):=I<|by rw[d];show¬(q.k=0\/q.k=5);rw[c];exact i
  clear c d i;go_enter func292,ntmps292;go_wp2_with fail;refine(WA.next H.o z J.o).m ?_;rintro r u ⟨rfl,f,g⟩;have l:U _:=f;have m:U _:=g;clear f g;go_wp2;go_ret;rw[j.o];exact⟨q.tx,C,⟨l.o,C⟩,m.o⟩
 .have v:((q.k:Int) !=(k:Int))=true:=by rw[Vg];omega
  have j:U<|Zk k ts=.error (2,(hd ts).at_):=I<|by
   unfold Zk;rw[Yd<|show¬(hd ts).jj=k by rw[d];exact c]
  clear c d i;go_enter func292,ntmps292;go_wp2_with fail;refine(WA.fail H.o 2 _ C N).m ?_;rintro r u ⟨rfl,f,g⟩;have l:U _:=f;have m:U _:=g;clear f g;go_wp2;go_ret;rw[j.o];exact⟨⟨#[]⟩,C,l.o,m.o⟩
theorem vR{P:Program}{w:Y}{t ty:TypeId}{base:Nat}(e:TypeId)(i:TypeInfo)(z:F){size bytes:Nat}(p:P.underlying t=some (.slice e))(q:P.info? e=some i)(G:i.zero=some z)(r:i.size=size)(H:i.bytes=bytes)(J:z.cells.size=size)(K:0<size)
 (v:F)(n:Nat)(xs:List F)(d:w.ownsRow base e size v n xs)
 (ad:Addr)(m c:Nat)(news:List F)(s:news.length=m*size)(x:∀j u,news[j]?=some u->w.cell? (ad.add j)=some u)(o:∀u∈news,u.oneCell'=true)
 (b1:n+m<=maxLen)(b2:(n+m)*bytes<=140737488355328){v':F}{w':Y}(f:(Builtin.append_ #[t,t] ty #[v,.slice (some ad) m c]).run P w=.ok v' w'):
 v'.ownBlock=v.ownBlock\/∀k,v'.ownBlock=some k->w.heap.size<=k:=by
 have l:=λg M=>@World.ownsRow.cells w _ e _ v n _ d g M;have A:=d.1;rcases d.2 with⟨rfl,rfl⟩|⟨g,cap,cur,rfl,V,O,R,S,L,T⟩
 .right;obtain rfl:xs=[]:=Qq X;obtain⟨v2,Q,a,r1,_⟩:=run_append_own (P:=P) w w.heap.size t ty e i z size bytes p q G r H J K S0 0 [] (Xm w _ e size) ad m c news s x o b1 b2<|Yj _;rw[f]at a;injection a with e1 e2;subst e1;exact λk B=>(r1.lt k B).1
 .by_cases h:n+m<=cap
  .left;have D:n*i.size+news.length<=cur.size:=by rw[r,s,L,<-Nat.add_mul];exact MY _ h
   have a:=run_append_room w t ty e i p q g n _ _ O _ m c _ (by simp_all) x o h D;rw[f]at a;injection a with e1 e2;subst e1;rfl
  .right;obtain⟨v2,Q,a,r1,_⟩:=run_append_arg_grows (P:=P) w t ty e i z size bytes p q G r H J K ⟨g,0,none⟩ n cap xs A (l g C) ad m c news s x X b1 b2;rw[f]at a;injection a with e1 e2;subst e1;exact λk B=>(r1.lt k B).1
theorem SY{P:Program}{ops:Array Oper}{o:Oper}{a:Act}{w:Y}{K:Act->Y->Prop}{Q:Exit->Act->Y->Prop}{E:Prop}
 (M:o.guard=none)(s x:Operand)(t:TypeId)(p:o.op=Op.call {callee:=Callee.builtin Builtin.append,args:=#[s,x],argTypes:=#[t,t]})
 (base:Nat)(e:TypeId)(i:TypeInfo)(z:F)(size bytes:Nat)(q:P.underlying t=some (.slice e))(r:P.info? e=some i)(A:i.zero=some z)(B:i.size=size)(D:i.bytes=bytes)(G:z.cells.size=size)(H:0<size)
 (v:F)(n:Nat)(xs:List F)(O:a.eval s=v)(d:w.ownsRow base e size v n xs)
 (ad:Addr)(m c:Nat)(news:List F)(R:a.eval x=.slice (some ad) m c)(J:news.length=m*size)(L:∀j u,news[j]?=some u->w.cell? (ad.add j)=some u)(l:∀u∈news,u.oneCell'=true)
 (b1:n+m<=maxLen)(b2:(n+m)*bytes<=140737488355328)(g:base<=w.heap.size)
 (S:∀v' h,h.ownsRow base e size v' (n+m) (xs++news)->w.grownBy h v.ownBlock->(v'.ownBlock=v.ownBlock\/∀k,v'.ownBlock=some k->w.heap.size<=k)->K (a.put o.dst v') h):
 if Region.wanted o (yielded ops a.tmps)=true then Oper.wp P o a w K Q else E:=by
 have T:Region.wanted o (yielded ops a.tmps)=true:=by simp[Region.wanted,M]
 rw[Ye T];obtain⟨v',h,f,r1,r2,_⟩:=run_append_own (P:=P) w base t o.type e i z size bytes q r A B D G H v n xs d ad m c news J L l b1 b2 g;have r3:=vR e i z q r A B D G H v n _ d _ m c _ J L l b1 b2 f;unfold Oper.wp;simp[execOp,p,resolve,invoke,builtin,O,R,f,Result.andThen];exact S _ _ r1 r2 r3
structure Yv (b:Nat)(pv:F)(w:Y)(pv':F)(w':Y):Prop where
 os:w'.os=w.os
 tape:w'.tape=w.tape
 output:w'.output=w.output
 size:w.heap.size<=w'.heap.size
 block:∀k,k<w.heap.size->k≠b->some k≠pv.ownBlock->w'.heap[k]?=w.heap[k]?
 own:pv'.ownBlock=pv.ownBlock\/∀k,pv'.ownBlock=some k->w.heap.size<=k
theorem Yv.refl(b:Nat)(pv:F)(w:Y):Yv b pv w pv w:=⟨C,C,C,Yj _,λ_ _ _ _=>C,.inl C⟩
theorem Yv.trans{b:Nat}{p1 p2 p3:F}{d z f:Y}(h:Yv b p1 d p2 z)(a:Yv b p2 z p3 f):Yv b p1 d p3 f:=by
 refine⟨a.os.trans h.os,a.tape.trans h.tape,a.output.trans h.output,Xb h.size a.size,?_,?_⟩
 .intro k c g i;refine(a.block k (WH c h.size) g ?_).trans<|h.block k c g i;rcases h.own with e|e
  .rw[e];exact i
  .intro e2;have:=e k e2.symm;omega
 .rcases a.own with e|e
  .rw[e];exact h.own
  .exact .inr λk c=>Xb h.size<|e k c
theorem Yv.grown{b:Nat}{p1 p2:F}{c z d:Y}(h:Yv b p1 c p2 z)(a:z.grownBy d<|some b):Yv b p1 c p2 d:=
 h.trans ⟨a.os,a.tape,a.output,a.size,λk f g _=>a.block k f λe=>g<|Ub e,.inl C⟩
theorem Tryz.infoPart:(Tryz.prog.info? 59).map (λi=>(i.zero,i.size,i.bytes))=some (some<|.agg #[E 0,E 0,E 0,.string ByteArray.empty,S0,S0,E 0,E 0],8,104):=Kr
theorem uZ{W:Y}{a:Nat}{x0 x1 x2 x3 x4 x5 x6 x7:F}{t:TypeId}{fr:Nat×Nat}(h:W.heap[a]?=some (.cells #[x0,x1,x2,x3,x4,x5,x6,x7] t fr)):∀j x,[x0,x1,x2,x3,x4,x5,x6,x7][j]?=some x->W.cell? ((⟨a,0,none⟩:Addr).add j)=some x:=by
 intro j x c;rw[QI];simp only[World.cell?,h];simpa using c
theorem YN.grownBy{w w':Y}{b:Nat}{q:QV}{r:Option Nat}(h:YN w b q)(c:w.grownBy w' r)(a:some b≠r):YN w' b q:=(c.block b h.lt a).trans h
structure PV where
 k:Int
 n:Int
 op:Int
 nm:BA
 ca:Option Addr
 cn:Nat
 cc:Nat
 ba:Option Addr
 bn:Nat
 bc:Nat
 a:Int
 b:Int
def PV.cells(p:PV):List F:=[E p.k,E p.n,E p.op,.string p.nm,.slice p.ca p.cn p.cc,.slice p.ba p.bn p.bc,E p.a,E p.b]
theorem Ae(w:Y)(b:Nat)(q:QV)(h:YN w b q)(n:Nat){xs:List F}(g:w.ownsRow 0 59 8 q.pv n xs)(Z:n<=6000)(p:PV):
 CP 186 #[Vp b,.agg #[E p.k,E p.n,E p.op,.string p.nm,.slice p.ca p.cn p.cc,.slice p.ba p.bn p.bc,E p.a,E p.b]] w λr v=>
  ∃pv',r=.returned (E n)/\YN v b {q with pv:=pv'}/\v.ownsRow 0 59 8 pv' (n+1) (xs++p.cells)/\Yv b q.pv w pv' v:=by
 obtain⟨i0,R,A,B,D⟩:=Xv Tryz.infoPart;obtain⟨c0,c1,c2,c3,c4,c5,c6,c7,c8⟩:=h.all;have W:=h.lt;have H:=I h;obtain⟨k,pn,op,nm,ca,cn,cc,ba,bn,bc,pa,pb⟩:=p;obtain⟨av,cp,i⟩:=Zd g;have d:w.ownsRow 0 _ 8 _ n _:=i▸g;have S:=I<|ZD d h N;have x:=I i;have T:U<|∀(o1 o2:Obj),((w.alloc o1).alloc _).drew.ownsRow 0 _ 8 _ n _:=λo1 o2=>(d.alloc _).alloc o2;have V:U<|∀(o1 o2:Obj),((w.alloc _).alloc _).drew.heap[w.heap.size+1]?=some _:=λo1 o2=>by
  have:=Go.Deep.blk_alloc_new (w.alloc o1) o2;rw[Go.Deep.nblk_alloc]at this;exact this
 have G:U<|∀(o1 o2:Obj),YN ((w.alloc o1).alloc _).drew b q:=λo1 o2=>YN.alloc (YN.alloc h _) o2;clear h g d;rw[i]at c0;clear i;go_enter func186,ntmps186;go_wp2;go_region_law (
  refine SY C (.tmp 9) (.tmp 11) 65 C 0 59 i0 _ 8 104 underlying65 R A B D C N (.slice av n cp) n xs (by simp[Act.eval]) (T.o _ _) ⟨w.heap.size+1,0,none⟩ 1 1 [E k,E pn,E op,.string nm,.slice ca cn cc,.slice ba bn bc,E pa,E pb] (by simp[Act.eval]) C ?h2 ?h3 ?h4 ?h5 (Yr _) ?_;case h2=>exact uZ<|V.o _ _
  case h3=>intro u J;simp at J;rcases J with rfl|rfl|rfl|rfl|rfl|rfl|rfl|rfl<;>rfl
  case h4=>unfold maxLen;omega
  case h5=>omega
  intro v1 K f c hwhere1;have l:YN K b q:=YN.grownBy (G.o _ _) c S.o;obtain⟨g1,cp1,L⟩:=Zm f X;subst L;have d0:=(YN.all l).1;rw[x.o]at d0;have e0:=YN.frozen l 0);all_goals
  have o:=I l;have s:U<|K.ownsRow 0 59 8 (.slice (some ⟨g1,0,none⟩) (n+1) cp1) (n+1)<|xs++[E k,E pn,E op,.string nm,.slice ca cn cc,.slice ba bn bc,E pa,E pb]:=f;have M:=I c;have O:=I hwhere1;clear l f c hwhere1 c0 c1 c2 c3 c4 c5 c6 c7 c8;go_wp2;go_ret;refine⟨_,TY X,YN.set o 0 _ C,O7 s (Zn (b:=b) (Z2 _ _) (.inl C) _)<|.inr ?_,?_⟩
  .exact λe=>ZD s o N e.symm
  .have m:=M.o;have P:=m.size;rw[show((w.alloc _).alloc _).drew.heap.size=w.heap.size+1+1 from by rw[show((w.alloc _).alloc _).drew.heap.size=((w.alloc _).alloc _).heap.size from C,Go.Deep.nblk_alloc,Go.Deep.nblk_alloc]]at P;refine⟨m.os,m.tape,m.output,?_,?_,?_⟩
   .rw[Go.Deep.nblk_setCell];omega
   .intro j z Q t;rw[Go.Deep.blk_setCell_other _ _ _ _<|Q];rw[x]at t;refine(m.block j ?_ t).trans ?_
    .show j<((w.alloc _).alloc _).heap.size;rw[Go.Deep.nblk_alloc,Go.Deep.nblk_alloc];omega
    .show((w.alloc _).alloc _).heap[j]?=_;rw[Go.Deep.blk_alloc_lt _ _ _<|by rw[Go.Deep.nblk_alloc];omega,Go.Deep.blk_alloc_lt _ _ _ z]
   .rw[x];rcases O.o with h|h
    .exact .inl h
    .refine .inr λj z=>?_;have:=h j z;have h2:((w.alloc _).alloc _).heap.size<=j:=this;rw[Go.Deep.nblk_alloc,Go.Deep.nblk_alloc]at h2;omega
end Go.Proofs.YtmfnolgpaoldpaaGreatDoor
namespace Go.Proofs.YtmfnolgpaoldpaaGreatDoor.LS
open Go Go.RowKit
def Xk(w:LB)(l:List<|LB):Int:=match Y7 w l with
 |none=>-1
 |some i=>i
theorem rV {w:LB}{l:List<|LB}(k:Nat)(a:k<l.length)(h:l.getD k []≠w){m:Nat}(c:Xk w l=match Y7 w<|l.drop k with|none=>-1|some i=>((i+k:Nat):Int))(d:m=k+1):
 Xk w l=match Y7 w (l.drop m)with|none=>-1|some i=>((i+m:Nat):Int):=by
  subst d;rw[c];rw[List.drop_eq_getElem_cons a];have e:l.getD k []=l[k]:=by simp[a]
  rw[e]at h;show(match(if l[k]=w then some 0 else(Y7 w<|l.drop<|k+1).map (·+1))with|none=>(-1:Int)|some i=>((i+k:Nat):Int))=_;rw[Yd h];cases Y7 w<|l.drop<|k+1with
  |none=>rfl
  |some i=>show(((i+1+k:Nat)):Int)=((i+(k+1):Nat):Int);omega
theorem rU {w:LB}{l:List<|LB}(k:Nat)(a:k<l.length)(h:l.getD k []=w)(c:Xk w l=match Y7 w<|l.drop k with|none=>-1|some i=>((i+k:Nat):Int)):Xk w l=k:=by
 rw[c,List.drop_eq_getElem_cons a];have e:l.getD k []=l[k]:=by simp[a]
 rw[e]at h;show(match(if l[k]=w then some 0 else(Y7 w<|l.drop<|k+1).map (·+1))with|none=>(-1:Int)|some i=>((i+k:Nat):Int))=_;rw[Ye h];show((0+k:Nat):Int)=k;omega
theorem rT {w:LB}{l:List<|LB}(k:Nat)(c:¬k<l.length)(a:Xk w l=match Y7 w<|l.drop k with|none=>-1|some i=>((i+k:Nat):Int)):Xk w l=-1:=by
 rw[a,Ts X];rfl
theorem rS{w:LB}{l:List<|LB}:Xk w l=match Y7 w<|l.drop 0with|none=>-1|some i=>((i+0:Nat):Int):=rfl
end Go.Proofs.YtmfnolgpaoldpaaGreatDoor.LS
namespace Go.Proofs.YtmfnolgpaoldpaaGreatDoor
open Go.RowKit LS Go.Proofs.Tryz
open Go renaming World->Y,Value->F
open Go.RowKit renaming Hid->U
theorem Ot{s x:BA}{w:Y}(A:s.size<=6000):
 CP 288 #[.string s,.string x] w λr u=>r=.returned (E<|Xk (bl x)<|split 32<|bl s)/\BW w u:=by
 go_enter func288,ntmps288;go_wp2_with fail;refine(LJ s 32 C A).m ?_;rintro e B ⟨g,n,cp,bs,rfl,q,G,H,a,l,m⟩;have D:U<|n=bs.length:=q;have c:(split 32<|bl s).length=n:=by rw[<-l.o,Yz,q]
 have J:n<=6001:=by have:=Qe 32<|bl s;rw[Zb]at this;omega
 clear q;have d:U _:=c;clear c;go_wp2;go_loop [6] (λi=>∃k:Nat,k<=n/\i=.int .i64 k/\U (Xk (bl x) (split 32<|bl s)=match Y7 (bl x) ((split 32<|bl s).drop k)with|none=>-1|some i=>((i+k:Nat):Int))) (λi=>n-(intOf i).toNat);case atStart=>exact⟨0,Yr _,C,rS⟩
 case round=>
  obtain⟨k,K,rfl,t⟩:=hrel;by_cases f:k<n
  .have o:k<bs.length:=by rw[<-D.o];exact f
   have p:k<(split 32<|bl s).length:=by rw[d.o];exact f
   have z:B.cell? ⟨g,k,none⟩=some (.string bs[k]):=a.o k o;have v:U<|bl bs[k]=(split 32<|bl s).getD k []:=Mu l.o k o;generalize bs[k]=sk at z v;cases j:(sk.toList==x.toList)
   .have h:U<|Xk (bl x) (split 32<|bl s)=match Y7 (bl x)<|(split 32<|bl s).drop<|k+1with|none=>-1|some i=>((i+(k+1):Nat):Int):=I<|by
      refine rV k p ?_ t.o C;rw[<-v.o];rw[ZA,ZA]at j;exact YB.1 j
    go_wp2;go_round;case rel=>exact⟨k+1,X,by go_num,h⟩
    case measure=>simp[intOf];omega
   .have h:U<|Xk (bl x) (split 32<|bl s)=k:=I<|by
     refine rU k p ?_ t.o;rw[<-v.o];rw[ZA,ZA]at j;exact XM.1 j
    go_wp2;go_ret;exact⟨by rw[h.o];rfl,m⟩
  .have h:U<|Xk (bl x) (split 32<|bl s)=-1:=I<|rT k (by rw[d.o];exact f) t.o;go_wp2;go_ret;exact⟨by rw[h.o];rfl,m⟩
end Go.Proofs.YtmfnolgpaoldpaaGreatDoor
