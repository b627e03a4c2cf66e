/- Parts. -/
import Derived.Test.YtkodhpilkaihjaaGreatDoorV00
import Derived.Shelf.Strings.BuilderK
set_option linter.all false
set_option maxRecDepth 100000
set_option maxHeartbeats 16000000
namespace Go.Proofs.YtkodhpilkaihjaaGreatDoor
open Go.RowKit LS Go.Proofs.Tryz
theorem Zn0:(prog.info? 175).map (·.size)=some 2:=by kernel_rfl
theorem Zub:liesAt prog prog.depth 175 (2 / prog.cellsOf 175) 0 175 1=true:=by kernel_rfl
theorem ZiY:(prog.info? 5).map (fun i=>(i.zero,i.size,i.bytes))=some (some (.int .u8 0),1,1):=by kernel_rfl
theorem Zua(b:Nat)(w:World)(c:w.cell? ⟨b,0,none⟩=some (Vp b)) :
  CP 193 #[Vp b] w fun e u=>e=.returned (.tuple #[])/\u=w:=by
 obtain⟨j,a,_⟩:=Ybk.1 Zn0;go_enter func193,ntmps193;go_wp2;rw[Lib.run_neq_ptr_same w _ underlying173 a];go_wp2
 go_end0
 exact⟨rfl,rfl⟩
theorem Zt9(b:Nat)(w:World)(g:w.cell? ⟨b,0,none⟩=some (.pointer none))(a:w.shape? b=some (175,2))(f:w.frozen? ⟨b,0,none⟩=false) :
  CP 193 #[Vp b] w fun e u=>e=.returned (.tuple #[])/\u=w.setCell ⟨b,0,none⟩ (Vp b):=by
 obtain⟨j,c,d⟩:=Ybk.1 Zn0;go_enter func193,ntmps193;go_wp2;rw[Lib.run_to_unsafe w ⟨b,0,none⟩ underlying173 underlying193 c (by rw[d];decide) a (Nat.zero_lt_succ 1)];simp only[Result.andThen];rw[Yfe];go_wp2;rw[run_callFunc_extern func241 Kr Kr Kr (e:=Extern.AbiNoEscape.same) Kr];rw[Lib.run_noEscape];simp only[Result.andThen];rw[Yfe];go_wp2;rw[Lib.run_from_unsafe w ⟨b,0,none⟩ underlying193 underlying173 c a Zub];simp only[Result.andThen];rw[Yfe];go_wp2
 go_end0
 exact⟨rfl,rfl⟩
theorem Zt8(B b:Nat)(bs:List Value){w:World}(h:Lib.IsBuilderF 175 5 B b bs w) :
  CP 193 #[Vp b] w fun e u=>e=.returned (.tuple #[])/\(Lib.BuilderAtF 175 5 B b (Vp b) bs u/\Below B w u/\Lib.OthersKept 5 (some b) w u):=by
 rcases h with h|h
 ·refine(Zt9 b w h.cell0 h.shape h.frozen0).mono ?_;rintro e u ⟨rfl,rfl⟩;exact⟨rfl,h.used _,(Yaf B w).setCell (p:=⟨b,0,none⟩) h.1 _,(Lib.OthersKept.refl _ _ w).setCell ⟨b,0,none⟩ rfl _⟩
 ·refine(Zua b w h.cell0).mono ?_;rintro e u ⟨rfl,rfl⟩;exact⟨rfl,h,Yaf B _,Lib.OthersKept.refl _ _ _⟩
theorem ZhR(B b:Nat)(bs:List Value)(s:BA)(w:World)(h:Lib.IsBuilderF 175 5 B b bs w)(C:bs.length+s.size<=140737488355328)(G:B<=w.heap.size) :
  CP 129 #[Vp b,.string s] w fun e u=>e=.returned (.tuple #[Vi s.size,.nilIface])/\(Lib.BuilderAtF 175 5 B b (Vp b) (bs++Lib.strCells s) u/\Below B w u/\Lib.OthersKept 5 (some b) w u):=by
 obtain⟨i0,D,n,o,q⟩:=info_parts ZiY;go_enter func129,ntmps129
 go_wp2_with fail
 refine(Zt8 B b bs h).mono ?_;rintro e y ⟨rfl,E,j,r⟩;obtain⟨t,v,d,c,x⟩:=E;have c0:y.cell? ⟨b,0,none⟩=some (Vp b):=by rw[Lib.cell_of_heap d];rfl
 have c1:y.cell? ⟨b,1,none⟩=some v:=by rw[Lib.cell_of_heap d];rfl
 go_wp2_with (at_builtin;refine Lib.wpList_append_own_stringF _ rfl _ _ 41 9 rfl B 5 i0 underlying41 underlying9 D n o q _ _ _ rfl c s rfl ?c3 ?c4 ?c5 ?_)
 case c3=>unfold maxLen;omega
 case c4=>omega
 case c5=>have:=j.size;omega
 intro v' z f a _
 have A:b<y.heap.size:=by
  rcases Yav b y.heap.size with l|l
  ·exact l
  ·simp[Yfi l]at d
 have i:z.heap[b]?=some (.cells #[Vp b,v] 175 (0,0)):=by
  rw[a.block b A (fun e=>x e.symm)];exact d
 have d0:z.cell? ⟨b,0,none⟩=some (Vp b):=by rw[Lib.cell_of_heap i];rfl
 have d1:z.cell? ⟨b,1,none⟩=some v:=by rw[Lib.cell_of_heap i];rfl
 have f1:z.frozen? ⟨b,1,none⟩=false:=Lib.frozen_of_heap i 1
 obtain⟨ao,n',cap,rfl⟩:∃ao n' cap,v'=.slice ao n' cap:=by
  rcases f.2 with ⟨m,_⟩|⟨g,cap,cur,fz,m,_⟩
  ·exact⟨_,_,_,m⟩
  ·exact⟨_,_,_,m⟩
 go_wp2;go_ret2;refine⟨rfl,?_,?_,(r.grown a (Lib.ownsRowF_kind c)).setCell ⟨b,1,none⟩ rfl _⟩
 ·exact Lib.BuilderAtF.put (T:=175) (e:=5) t i (bs':=bs++Lib.strCells s) (by simpa [Lib.strCells_length] using f) Dc
 ·exact(j.grown a (by have:=j.size;omega) (fun k F=>(c.lt k F).1)).setCell (p:=⟨b,1,none⟩) t _
