/- Parts. -/
import Derived.Test.YtmfnolgpaoldpaaGreatDoorX06
set_option linter.all false
set_option maxRecDepth 100000
set_option maxHeartbeats 16000000
namespace Go.Proofs.YtmfnolgpaoldpaaGreatDoor
open Go.RowKit LS Go.Proofs.Tryz
open Go renaming World->Y,Value->F
open Go.RowKit renaming Hid->U
variable {sv:F}{t:Int}{cs sl:List CV}{base sc sn:Nat}{sa:Option Addr}{w:Y}
theorem Tryz.infoCell:(Tryz.prog.info? 61).map (λi=>(i.zero,i.size,i.bytes))=some (some<|.agg #[.bool false,E 0,S0,.bool false,E 0,E 0,E 0,.string ⟨#[]⟩,S0,S0,E 0,E 0],12,152):=Kr
structure Qm (w:Y)(base mb cb:Nat)(sv:F)(t:Int)(sa:Option Addr)(sn sc:Nat)(sl cs:List CV):Prop where
 box:Ya w mb (mC cb sv t (.slice sa sn sc) sl) 64
 own:w.ownsRow base 61 12 (.slice sa sn sc) sn<|Ui cs
 len:cs.length=sn
theorem Qm.below{w':Y}{mb cb:Nat}(h:Qm w base mb cb sv t sa sn sc sl cs)(a:BW w w'):Qm w' base mb cb sv t sa sn sc sl cs:=⟨h.box.below a,Ze h.own a,h.len⟩
theorem Qm.app{wr a:Y}{mb cb:Nat}(h:Qm wr base mb cb sv t sa sn sc sl cs)(c:BW w wr){x:CV}{ga nc:Nat}
 (d:wr.grownBy a (Value.slice sa sn sc).ownBlock)(g:a.ownsRow base 61 12 (.slice (some ⟨ga,0,none⟩) (sn+1) nc) (sn+1)<|Ui cs++x.cells):
 Ya a mb (mC cb sv t (.slice sa sn sc) sl) 64/\Qm (a.setCell ⟨mb,3,none⟩<|.slice (some ⟨ga,0,none⟩) (sn+1) nc) base mb cb sv t (some ⟨ga,0,none⟩) (sn+1) nc sl (cs++[x])/\YS w (a.setCell ⟨mb,3,none⟩<|.slice (some ⟨ga,0,none⟩) (sn+1) nc) mb (.slice sa sn sc):=by
 have e:=h.box.ownGrownR h.own d N;refine⟨e,⟨e.setkM 3 _,?_,by rw[Yx,h.len];rfl⟩,?_⟩
 .rw[Dr,show Ui [x]=x.cells from Ud _];exact ZJ g λk j=>Go.Deep.blk_setCell_other _ _ _ _<|by
    rintro rfl;exact ZD g e N j.symm
 .have f:a.grownBy (a.setCell ⟨mb,3,none⟩<|.slice (some ⟨ga,0,none⟩) (sn+1) nc)<|some mb:=Zn (Z2 _ _) (.inl C) _;refine⟨f.os.trans<|d.os.trans c.os,f.tape.trans<|d.tape.trans c.tape,f.output.trans<|d.output.trans c.output,Xb c.size<|Xb d.size f.size,λk i l m=>?_⟩;rw[Go.Deep.blk_setCell_other _ _ _ _ l,d.block k (WH i c.size) m];exact c.block k i
theorem MA(base mb cb:Nat)(sv:F)(t:Int)(sn:Nat){sc0:Nat}(sl cs:List CV)(sc:Bool)(nn:Int)(ea:Option Addr)(en ec:Nat)(h:Qm w base mb cb sv t sa sn sc0 sl cs)(hn:sn<=64)(r:base<=w.heap.size):
 CP 33 #[Vp mb,.agg #[.bool sc,E nn,.slice ea en ec]] w λe k=>e=.returned (.tuple #[])/\U (∃ga nc,Qm k base mb cb sv t (some ⟨ga,0,none⟩) (sn+1) nc sl<|cs++[⟨sc,nn,ea,en,ec,false,XN⟩])/\U (YS w k mb<|.slice sa sn sc0):=by
 have Z:=I h;clear h;obtain⟨i0,hi,M,O,P⟩:=Xv Tryz.infoCell;go_enter func33,ntmps33;go_upto_region 1 with fail;refine Zs λW L=>?_;have l:Below _ w W:=L▸Yc;have f:U<|Ya W _ _ 55:=L▸(show Ya _ _ _ _ from Go.Deep.blk_alloc_new w _);have m:=I<|Z.below l;have s:=I l;have a0:=Xb r l.size;clear L l r;obtain⟨vb,z⟩:∃vb,vb=w.heap.size:=⟨_,C⟩;rw[<-z]at f⊢;clear z;have A:W.drew.cell? _=some _/\W.drew.cell? _=some _/\W.drew.cell? _=some _/\W.drew.cell? _=some _:=⟨m.box.cell 3,f.cell 0,f.cell 1,f.cell 2⟩;have a1:=m.box.lt;have a2:=f.lt;have B:=I λo=>m.own.drew.alloc o;have D:U<|∀o,Qm (W.drew.alloc o) _ _ _ _ t _ _ _ _ _:=I λo=>m.below<|((Ym _ _).drew).alloc (Yj _) _;have n:U<|∀o,Ya (W.drew.alloc o) _ _ _:=I λo=>f.below<|((Ym _ _).drew).alloc (Yj _) _;have Q:U<|∀o,Below _ w<|W.drew.alloc o:=I λo=>(s.drew).alloc (s.size) _;refine ZW 11 (λk=>k.cell? _=some _/\k.cell? _=some _/\k.cell? _=some _/\k.cell? _=some _) Kr (A) λa=>?_;clear A;refine Za 0 a (h:=Za 1 a (h:=Za 2 a (h:=Za 3 a (h:=Za 4 a (h:=Za 5 a (h:=Za 6 a (h:=?_)))))));refine Zz (i:=7) Kr C λK j=>?_;go_simp;refine j _ _ ⟨(D _).box.cell 3,(n _).cell 0,(n _).cell 1,(n _).cell 2⟩ λa=>?_;clear j K;try simp only[Act.put,Yt]
 refine Zz (i:=8) Kr C λK j=>?_;refine SY C _ _ _ C _ 61 _ _ _ _ underlying52 hi M O P C N (.slice _ _ _) _ _ (by simp[Act.eval]) (B.o _) ⟨W.heap.size,0,none⟩ 1 1 [.bool sc,E nn,.slice ea en ec,.bool false,E 0,E 0,E 0,.string ⟨#[]⟩,S0,S0,E 0,E 0] (by simp[Act.eval]) C ?h2 ?h3 ?h4 ?h5 ?h6 ?_;case h2=>exact Z1 C
 case h3=>intro u R;simp at R;rcases R with rfl|rfl|rfl|rfl|rfl|rfl|rfl|rfl|rfl|rfl|rfl|rfl<;>rfl
 case h4=>unfold maxLen;omega
 case h5=>omega
 case h6=>simp;omega
 intro v1 w1 g c _;obtain⟨g1,cp1,S⟩:=Zm g X;subst S;obtain⟨q,G,H⟩:=(D.o _).app (Q.o _) (x:=⟨sc,nn,ea,en,ec,false,XN⟩) (by exact c) g;have J:=I q;have T:=I G;have V:=I H;have p:=(n _).ownGrownR (B _) c N;refine j _ _ ⟨q.cell 3,p.cell 0,p.cell 1,p.cell 2⟩ λa=>?_;clear j K q G H p g c;try simp only[Act.put,Of]
 refine Tj (i:=9) (d:=13) (v:=?v9) C C Kr (λ_ _ _ h=>h) (Or.inl ⟨by rfl,?hy9⟩) a ?rs9;case hy9=>(intro w hSw;go_simp;try with_reducible rfl)
 case rs9=>
 refine Tj (i:=10) (d:=14) (v:=?v10) C C Kr (λ_ _ _ h=>h) (Or.inl ⟨by rfl,?hy10⟩) a ?rs10;case hy10=>(intro w hSw;go_simp;try with_reducible rfl)
 case rs10=>
 refine ZS Kr Kr C Kr λK j=>?_;have yc:w1.cell? _=some _:=J.cell 3;have yf:=J.frozen 3;clear a;go_simp;refine j _ _ ?_;clear j K yc yf;go_wp2;exact RW (Tq C _ _ _) C ⟨C,I ⟨_,_,T⟩,V⟩
