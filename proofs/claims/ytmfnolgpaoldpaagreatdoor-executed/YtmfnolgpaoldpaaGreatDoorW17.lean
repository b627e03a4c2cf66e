/- Parts. -/
import Derived.Test.YtmfnolgpaoldpaaGreatDoorW00
import Derived.Shelf.Strings.BuilderK
set_option linter.all false
set_option maxRecDepth 100000
set_option maxHeartbeats 16000000
namespace Go.Proofs.YtmfnolgpaoldpaaGreatDoor
open Go.RowKit LS Go.Proofs.Tryz
variable {bs:List Value}
theorem EK:(prog.info? 217).map (·.size)=some 2:=Kr
theorem wU:liesAt prog prog.depth 217 (2/prog.cellsOf 217) 0 217 1=true:=Kr
theorem wP:(prog.info? 5).map (λi=>(i.zero,i.size,i.bytes))=some (some<|.int .u8 0,1,1):=Kr
theorem wS(b:Nat)(w:World)(c:w.cell? ⟨b,0,none⟩=some (Vp b)):
 CP 135 #[Vp b] w λe u=>e=.returned (.tuple #[])/\u=w:=by
 obtain⟨j,a,_⟩:=RV.1 EK;go_enter func135,ntmps135;go_wp2;rw[Lib.run_neq_ptr_same w _ underlying215 a];go_wp2;go_end0;exact⟨C,C⟩
theorem wR(b:Nat)(w:World)(g:w.cell? ⟨b,0,none⟩=some (.pointer none))(a:w.shape? b=some (217,2))(f:w.frozen? ⟨b,0,none⟩=false):
 CP 135 #[Vp b] w λe u=>e=.returned (.tuple #[])/\u=w.setCell ⟨b,0,none⟩ (Vp b):=by
 obtain⟨j,c,d⟩:=RV.1 EK;go_enter func135,ntmps135;go_wp2;rw[Lib.run_to_unsafe w _ underlying215 underlying145 c (by rw[d];decide) a<|Nat.zero_lt_succ 1];simp only[Result.andThen];rw[Ix];go_wp2;rw[RU func172 Kr Kr Kr (e:=Extern.AbiNoEscape.same) Kr];rw[Lib.run_noEscape];simp only[Result.andThen];rw[Ix];go_wp2;rw[Lib.run_from_unsafe w _ underlying145 underlying215 c a wU];simp only[Result.andThen];rw[Ix];go_wp2;go_end0;exact⟨C,C⟩
theorem wQ(B b:Nat){w:World}(h:Lib.IsBuilderF 217 5 B b bs w):
 CP 135 #[Vp b] w λe u=>e=.returned (.tuple #[])/\(Lib.BuilderAtF 217 5 B b (Vp b) bs u/\Below B w u/\Lib.OthersKept 5 (some b) w u):=by
 rcases h with h|h
 .refine(wR b w h.cell0 h.shape h.frozen0).mono ?_;rintro e u ⟨rfl,rfl⟩;exact⟨C,h.used _,(Ym B w).setCell h.1 _,(Lib.OthersKept.refl _ _ w).setCell ⟨b,0,none⟩ C _⟩
 .refine(wS b w h.cell0).mono ?_;rintro e u ⟨rfl,rfl⟩;exact⟨C,h,Ym B _,Lib.OthersKept.refl _ _ _⟩
theorem Lm(B b:Nat)(s:BA)(w:World)(h:Lib.IsBuilderF 217 5 B b bs w)(D:bs.length+s.size<=140737488355328)(J:B<=w.heap.size):
 CP 92 #[Vp b,.string s] w λe u=>e=.returned (.tuple #[E s.size,.nilIface])/\(Lib.BuilderAtF 217 5 B b (Vp b) (bs++Lib.strCells s) u/\Below B w u/\Lib.OthersKept 5 (some b) w u):=by
 obtain⟨i0,F,o,p,q⟩:=Xv wP;go_enter func92,ntmps92;go_wp2_with fail;refine(wQ B b h).mono ?_;rintro e l ⟨rfl,G,j,r⟩;obtain⟨t,v,d,c,x⟩:=G;have c0:l.cell? ⟨b,0,none⟩=some (Vp b):=by rw[Lib.cell_of_heap d];rfl
 have c1:l.cell? ⟨b,1,none⟩=some v:=by rw[Lib.cell_of_heap d];rfl
 go_wp2_with(at_builtin;refine Lib.wpList_append_own_stringF _ C _ _ 119 9 C B 5 i0 underlying119 underlying9 F o p q _ _ _ C c s C ?c3 ?c4 ?c5 ?_);case c3=>unfold maxLen;omega
 case c4=>omega
 case c5=>have:=j.size;omega
 intro v' z f a _;have A:b<l.heap.size:=by
  rcases Sg b l.heap.size with m|m
  .exact m
  .simp[Array.getElem?_eq_none m]at d
 have i:z.heap[b]?=some _:=a.block b A (λe=>x e.symm)▸d;have d0:z.cell? ⟨b,0,none⟩=some (Vp b):=by rw[Lib.cell_of_heap i];rfl
 have d1:z.cell? ⟨b,1,none⟩=some v:=by rw[Lib.cell_of_heap i];rfl
 have f1:=Lib.frozen_of_heap i 1;obtain⟨ao,n',cap,rfl⟩:∃ao n' cap,v'=.slice ao n' cap:=by
  rcases f.2 with⟨n,_⟩|⟨g,cap,cur,fz,n,_⟩
  .exact⟨_,_,_,n⟩
  .exact⟨_,_,_,n⟩
 go_wp2;go_ret2;refine⟨C,?_,?_,(r.grown a<|Lib.ownsRowF_kind c).setCell _ C _⟩
 .exact Lib.BuilderAtF.put t i (by simpa [Lib.strCells_length]using f) N
 .exact(j.grown a (by have:=j.size;omega) λk H=>(c.lt k H).1).setCell t _
