/- Parts. -/
import Derived.Test.YtpbemaaghbbocaaGreatDoorA21
import Derived.Test.YtpbemaaghbbocaaGreatDoorA05
import Derived.Test.YtpbemaaghbbocaaGreatDoorA17
import Derived.Shelf.SlGeneric
import Derived.Shelf.SlSortCmp.WholeK
import Derived.Ground.SlsfProg
import Derived.Test.YtpbemaaghbbocaaGreatDoorProg
import Derived.Test.YtpbemaaghbbocaaGreatDoorA07
import Derived.Test.YtpbemaaghbbocaaGreatDoorAX
import Derived.Deep.RegionHeld3
import Derived.Deep.DrawnRows
import Derived.Test.YtpbemaaghbbocaaGreatDoorA22
namespace Go.Proofs.YtpbemaaghbbocaaGreatDoor
open Go.RowKit LS
def cmpV (x y : List UInt8) : Int := if Op.bytesLess x y then -1 else if Op.bytesLess y x then 1 else 0
theorem nan_any (s : ByteArray) (w : World) : Calls Tryz.prog 229 #[.string s] w fun e w' => e = .returned (.bool false) ∧ w' = w := by
  go_enter Tryz.func229, Tryz.ntmps229
  go_wp2
  go_ret
  exact ⟨by simp, rfl⟩
theorem nan2_any (s : ByteArray) (w : World) : Calls Tryz.prog 227 #[.string s] w fun e w' => e = .returned (.bool false) ∧ w' = w := by
  go_enter Tryz.func227, Tryz.ntmps227
  go_wp2
  go_ret
  exact ⟨by simp, rfl⟩
set_option maxHeartbeats 2000000 in
theorem cmp_any (a b : ByteArray) (w : World) : Calls Tryz.prog 200 #[.string a, .string b] w fun e w' => e = .returned (.int .i64 (cmpV (bl a) (bl b))) ∧ w' = w := by
  obtain ⟨r, hr⟩ : ∃ r, r = cmpV (bl a) (bl b) := ⟨_, rfl⟩
  rw [← hr]
  unfold cmpV at hr
  rw [← toList_bl, ← toList_bl] at hr
  obtain ⟨p, hp⟩ : ∃ p, Op.bytesLess a.toList b.toList = p := ⟨_, rfl⟩
  obtain ⟨q, hq⟩ : ∃ q, Op.bytesLess b.toList a.toList = q := ⟨_, rfl⟩
  rw [hp, hq] at hr
  have HR : Hid (r = if p = true then -1 else if q = true then 1 else 0) := hr
  clear hr
  cases p
  · cases q
    · obtain rfl : r = 0 := HR.out
      have he : (a.toList == b.toList) = true := by rw [beq_iff_eq]; exact bls_tri _ _ hp hq
      clear HR
      go_enter Tryz.func200, Tryz.ntmps200
      go_wp2_with (go_at_call 229; refine (nan_any _ _).mono ?_; rintro e w' ⟨rfl, rfl⟩)
      go_ret
      exact ⟨rfl, rfl⟩
    · obtain rfl : r = 1 := HR.out
      have he : (a.toList == b.toList) = false := by rw [beq_eq_false_iff_ne]; intro e; rw [e, bls_irrefl] at hq; cases hq
      clear HR
      go_enter Tryz.func200, Tryz.ntmps200
      go_wp2_with (go_at_call 229; refine (nan_any _ _).mono ?_; rintro e w' ⟨rfl, rfl⟩)
      go_ret
      exact ⟨rfl, rfl⟩
  · obtain rfl : r = -1 := HR.out
    clear HR
    go_enter Tryz.func200, Tryz.ntmps200
    go_wp2_with (go_at_call 229; refine (nan_any _ _).mono ?_; rintro e w' ⟨rfl, rfl⟩)
    go_ret
    exact ⟨rfl, rfl⟩
set_option maxHeartbeats 2000000 in
theorem less_any (a b : ByteArray) (w : World) : Calls Tryz.prog 223 #[.string a, .string b] w fun e w' => e = .returned (.bool (Op.bytesLess (bl a) (bl b))) ∧ w' = w := by
  rw [← toList_bl, ← toList_bl]
  generalize hp : Op.bytesLess a.toList b.toList = p
  go_enter Tryz.func223, Tryz.ntmps223
  go_wp2_with (go_at_call 229; refine (nan_any _ _).mono ?_; rintro e w' ⟨rfl, rfl⟩)
  go_ret
  exact ⟨by first | rfl | simp [hp], rfl⟩
theorem bl_injG {s : ByteArray} {a : Array UInt8} (h : bl s = a.toList) : s = ⟨a⟩ := by
  cases s with
  | mk d => unfold bl at h; simp at h; rw [h]
set_option maxHeartbeats 2000000 in
theorem measure_over (wd : ByteArray) (op : Nat) (hop : op ≤ 4) (h : bl wd = overWords.getD op []) (w : World) : Calls Tryz.prog 131 #[.string wd] w fun e w' => e = .returned (.int .i64 op) ∧ w' = w := by
  rcases (by omega : op = 0 ∨ op = 1 ∨ op = 2 ∨ op = 3 ∨ op = 4) with rfl | rfl | rfl | rfl | rfl
  · obtain rfl := bl_injG (a := #[116, 111, 116, 97, 108]) h
    go_enter Tryz.func131, Tryz.ntmps131
    go_wp2
    go_ret
    exact ⟨rfl, rfl⟩
  · obtain rfl := bl_injG (a := #[112, 101, 97, 107]) h
    go_enter Tryz.func131, Tryz.ntmps131
    go_wp2
    go_ret
    exact ⟨rfl, rfl⟩
  · obtain rfl := bl_injG (a := #[108, 111, 119]) h
    go_enter Tryz.func131, Tryz.ntmps131
    go_wp2
    go_ret
    exact ⟨rfl, rfl⟩
  · obtain rfl := bl_injG (a := #[115, 105, 122, 101]) h
    go_enter Tryz.func131, Tryz.ntmps131
    go_wp2
    go_ret
    exact ⟨rfl, rfl⟩
  · obtain rfl := bl_injG (a := #[114, 105, 115, 101]) h
    go_enter Tryz.func131, Tryz.ntmps131
    go_wp2
    go_ret
    exact ⟨rfl, rfl⟩
set_option maxHeartbeats 2000000 in
theorem measure_group (wd : ByteArray) (op : Nat) (hop : op ≤ 3) (h : bl wd = groupWords.getD op []) (w : World) : Calls Tryz.prog 131 #[.string wd] w fun e w' => e = .returned (.int .i64 op) ∧ w' = w := by
  rcases (by omega : op = 0 ∨ op = 1 ∨ op = 2 ∨ op = 3) with rfl | rfl | rfl | rfl
  · obtain rfl := bl_injG (a := #[115, 117, 109]) h
    go_enter Tryz.func131, Tryz.ntmps131
    go_wp2
    go_ret
    exact ⟨rfl, rfl⟩
  · obtain rfl := bl_injG (a := #[109, 97, 120]) h
    go_enter Tryz.func131, Tryz.ntmps131
    go_wp2
    go_ret
    exact ⟨rfl, rfl⟩
  · obtain rfl := bl_injG (a := #[109, 105, 110]) h
    go_enter Tryz.func131, Tryz.ntmps131
    go_wp2
    go_ret
    exact ⟨rfl, rfl⟩
  · obtain rfl := bl_injG (a := #[99, 111, 117, 110, 116]) h
    go_enter Tryz.func131, Tryz.ntmps131
    go_wp2
    go_ret
    exact ⟨rfl, rfl⟩
end Go.Proofs.YtpbemaaghbbocaaGreatDoor
namespace Go.Proofs
open Go.Shelf
def Tryz.sortItem_ren : Go.Shelf.Ren := ⟨fun | 6 => 198 | 15 => 196 | 14 => 228 | 28 => 226 | 29 => 211 | 20 => 246 | 21 => 247 | 22 => 248 | 23 => 249 | 24 => 250 | 25 => 251 | 26 => 252 | 27 => 253 | 46 => 255 | 47 => 242 | 48 => 243 | 49 => 256 | 50 => 257 | 57 => 258 | n => n, fun | 22 => 252 | 24 => 255 | 25 => 341 | 3 => 3 | 39 => 338 | 0 => 0 | 53 => 348 | 55 => 328 | 4 => 4 | 46 => 354 | 45 => 353 | 50 => 138 | 5 => 5 | 9 => 9 | 66 => 370 | 70 => 374 | 76 => 383 | 77 => 384 | n => n, fun | n => n⟩
theorem Tryz.sortItem : Go.Proofs.SlLaysF0.n6 Tryz.prog Tryz.sortItem_ren := {
  mixed := by kernel_rfl
  f6 := ⟨Tryz.f198.name, by decide, Tryz.func198.trans (congrArg some (by kernel_rfl))⟩
  f14 := ⟨Tryz.f228.name, by decide, Tryz.func228.trans (congrArg some (by kernel_rfl))⟩
  f15 := Tryz.func196.trans (congrArg some (by kernel_rfl))
  f20 := ⟨Tryz.f246.name, by decide, Tryz.func246.trans (congrArg some (by kernel_rfl))⟩
  f21 := ⟨Tryz.f247.name, by decide, Tryz.func247.trans (congrArg some (by kernel_rfl))⟩
  f22 := ⟨Tryz.f248.name, by decide, Tryz.func248.trans (congrArg some (by kernel_rfl))⟩
  f23 := ⟨Tryz.f249.name, by decide, Tryz.func249.trans (congrArg some (by kernel_rfl))⟩
  f24 := ⟨Tryz.f250.name, by decide, Tryz.func250.trans (congrArg some (by kernel_rfl))⟩
  f25 := ⟨Tryz.f251.name, by decide, Tryz.func251.trans (congrArg some (by kernel_rfl))⟩
  f26 := ⟨Tryz.f252.name, by decide, Tryz.func252.trans (congrArg some (by kernel_rfl))⟩
  f27 := ⟨Tryz.f253.name, by decide, Tryz.func253.trans (congrArg some (by kernel_rfl))⟩
  f28 := Tryz.func226.trans (congrArg some (by kernel_rfl))
  f29 := Tryz.func211.trans (congrArg some (by kernel_rfl))
  f46 := ⟨Tryz.f255.name, by decide, Tryz.func255.trans (congrArg some (by kernel_rfl))⟩
  f47 := Tryz.func242.trans (congrArg some (by kernel_rfl))
  f48 := Tryz.func243.trans (congrArg some (by kernel_rfl))
  f49 := ⟨Tryz.f256.name, by decide, Tryz.func256.trans (congrArg some (by kernel_rfl))⟩
  f50 := ⟨Tryz.f257.name, by decide, Tryz.func257.trans (congrArg some (by kernel_rfl))⟩
  f57 := ⟨Tryz.f258.name, by decide, Tryz.func258.trans (congrArg some (by kernel_rfl))⟩
  t0 := Tryz.underlying0
  a0 := Tryz.isAgg0
  z0 := Tryz.sizeOf0
  v0 := Tryz.zeroValue0
  t3 := Tryz.underlying3
  a3 := Tryz.isAgg3
  z3 := Tryz.sizeOf3
  v3 := Tryz.zeroValue3
  t4 := Tryz.underlying4
  a4 := Tryz.isAgg4
  z4 := Tryz.sizeOf4
  v4 := Tryz.zeroValue4
  t5 := Tryz.underlying5
  a5 := Tryz.isAgg5
  z5 := Tryz.sizeOf5
  v5 := Tryz.zeroValue5
  t9 := Tryz.underlying9
  a9 := Tryz.isAgg9
  z9 := Tryz.sizeOf9
  v9 := Tryz.zeroValue9
  t22 := Tryz.underlying252
  a22 := Tryz.isAgg252
  z22 := Tryz.sizeOf252
  v22 := Tryz.zeroValue252
  t25 := Tryz.underlying341
  a25 := Tryz.isAgg341
  z25 := Tryz.sizeOf341
  v25 := Tryz.zeroValue341
  t39 := Tryz.underlying338
  a39 := Tryz.isAgg338
  z39 := Tryz.sizeOf338
  v39 := Tryz.zeroValue338
  t45 := Tryz.underlying353
  a45 := Tryz.isAgg353
  z45 := Tryz.sizeOf353
  v45 := Tryz.zeroValue353
  t46 := Tryz.underlying354
  a46 := Tryz.isAgg354
  z46 := Tryz.sizeOf354
  v46 := Tryz.zeroValue354
  t50 := Tryz.underlying138
  a50 := Tryz.isAgg138
  z50 := Tryz.sizeOf138
  v50 := Tryz.zeroValue138
  t53 := Tryz.underlying348
  a53 := Tryz.isAgg348
  z53 := Tryz.sizeOf348
  v53 := Tryz.zeroValue348
  t55 := Tryz.underlying328
  a55 := Tryz.isAgg328
  z55 := Tryz.sizeOf328
  v55 := Tryz.zeroValue328
  t66 := Tryz.underlying370
  a66 := Tryz.isAgg370
  z66 := Tryz.sizeOf370
  v66 := Tryz.zeroValue370
  t70 := Tryz.underlying374
  a70 := Tryz.isAgg374
  z70 := Tryz.sizeOf374
  v70 := Tryz.zeroValue374
  t76 := Tryz.underlying383
  a76 := Tryz.isAgg383
  z76 := Tryz.sizeOf383
  v76 := Tryz.zeroValue383
  t77 := Tryz.underlying384
  a77 := Tryz.isAgg384
  z77 := Tryz.sizeOf384
  v77 := Tryz.zeroValue384 }
end Go.Proofs
namespace Go.Proofs.YtpbemaaghbbocaaGreatDoor
open Go.RowKit LS
def GrB (W w' : World) : Prop := ∃ q os, w' = Sort.grow (W.drewN q) os
theorem GrB.refl (W : World) : GrB W W := ⟨0, #[], by rw [Sort.grow_empty]; rfl⟩
theorem GrB.trans {a b c : World} (h : GrB a b) (k : GrB b c) : GrB a c := by
  obtain ⟨q1, o1, rfl⟩ := h
  obtain ⟨q2, o2, rfl⟩ := k
  exact ⟨q1 + q2, o1 ++ o2, by simp [Sort.grow, World.drewN, Nat.add_assoc]⟩
theorem GrB.alloc (W : World) (o : Obj) : GrB W (W.alloc o) := ⟨0, #[o], by rw [Sort.alloc_eq_grow]; rfl⟩
theorem GrB.drewN (W : World) (n : Nat) : GrB W (W.drewN n) := ⟨n, #[], (Sort.grow_empty _).symm⟩
theorem GrB.drew (W : World) : GrB W W.drew := ⟨1, #[], by rw [Sort.grow_empty]; rfl⟩
theorem GrB.below {W w' : World} (h : GrB W w') : Below W.heap.size W w' := by
  obtain ⟨q, os, rfl⟩ := h
  refine ⟨rfl, rfl, rfl, by simp [Sort.grow, World.drewN], fun k hk => ?_⟩
  simp [Sort.grow, World.drewN, Array.getElem?_append, hk]
set_option maxRecDepth 100000 in
set_option maxHeartbeats 4000000 in
theorem sort1_any (x y : Itm) (w : World) : Calls Tryz.prog 199 #[.agg #[.slice x.a x.n x.c, .string x.tx, .int .i64 x.v], .agg #[.slice y.a y.n y.c, .string y.tx, .int .i64 y.v]] w fun e w' => e = .returned (.int .i64 (cmpV (bl x.tx) (bl y.tx))) ∧ GrB w w' := by
  obtain ⟨xa, xn, xc, xt, xq, xv⟩ := x
  obtain ⟨ya, yn, yc, yt, yq, yv⟩ := y
  simp only
  go_enter Tryz.func199, Tryz.ntmps199
  go_upto_region 1 with fail
  refine wp_gen fun W hW => ?_
  have HG : Hid (GrB w W) := hid (by rw [hW]; exact (GrB.alloc _ _).trans (GrB.alloc _ _))
  have HX : Hid (BAt W w.heap.size [.slice xa xn xc, .string xt, .int .i64 xv] 255) := hid (by rw [hW]; exact (((Below.refl _ _).alloc (Nat.le_refl _) _).block _ (by simp)).trans (Go.Deep.blk_alloc_new _ _))
  have HY : Hid (BAt W (w.heap.size + 1) [.slice ya yn yc, .string yt, .int .i64 yv] 255) := hid (by rw [hW]; have := Go.Deep.blk_alloc_new (w.alloc (.cells #[.slice xa xn xc, .string xt, .int .i64 xv] 255)) (.cells #[.slice ya yn yc, .string yt, .int .i64 yv] 255); rw [Go.Deep.nblk_alloc] at this; exact this)
  clear hW
  have x0 := HX.out.cell 0
  have x1 := HX.out.cell 1
  have y0 := HY.out.cell 0
  have y1 := HY.out.cell 1
  simp only [List.getElem?_cons_zero, List.getElem?_cons_succ] at x0 x1 y0 y1
  go_region_held3 (fun w' => w'.cell? ⟨w.heap.size, 0, none⟩ = some (.slice xa xn xc) ∧ w'.cell? ⟨w.heap.size, 1, none⟩ = some (.string xt) ∧ w'.cell? ⟨w.heap.size + 1, 0, none⟩ = some (.slice ya yn yc) ∧ w'.cell? ⟨w.heap.size + 1, 1, none⟩ = some (.string yt)) (first | exact ⟨x0, x1, y0, y1⟩ | go_keep) (first
    | (go_at_call 124
       refine (lstr_any _ _ _ _ _).mono ?_
       rintro e w5 ⟨rfl, o5, hw5⟩)
    | (go_at_call 200
       refine (cmp_any _ _ _).mono ?_
       rintro e w6 ⟨rfl, hw6⟩))
  all_goals
    go_wp2
    go_ret
    exact ⟨rfl, HG.out.trans (((GrB.alloc _ _).trans (GrB.alloc _ _)).trans (GrB.drew _))⟩
theorem cmpV_neg (x y : List UInt8) : decide (cmpV x y < 0) = Op.bytesLess x y := by
  unfold cmpV
  cases h : Op.bytesLess x y
  · cases h2 : Op.bytesLess y x <;> simp
  · simp
theorem sortSWO : Sort.SWO (ltOf fun x y : Itm => cmpV (bl x.tx) (bl y.tx)) where
  irrefl x := by unfold ltOf; rw [cmpV_neg]; exact bls_irrefl _
  trans x y z h1 h2 := by unfold ltOf at *; rw [cmpV_neg] at *; exact bls_trans _ _ _ h1 h2
  ntrans x y z h1 h2 := by
    unfold ltOf at *
    rw [cmpV_neg] at *
    cases h : Op.bytesLess (bl x.tx) (bl z.tx) with
    | false => rfl
    | true =>
      cases h3 : Op.bytesLess (bl z.tx) (bl y.tx) with
      | true => rw [bls_trans _ _ _ h h3] at h1; cases h1
      | false =>
        have e := bls_tri _ _ h2 h3
        rw [e, h] at h1; cases h1
theorem flatK_encs (d : Array Itm) : (Sort.flatK Itm.enc 3 d).toList = encs d.toList := by
  refine List.ext_getElem? (fun t => ?_)
  by_cases ht : t < d.size * 3
  · have hj : t / 3 < d.toList.length := by rw [Array.length_toList]; omega
    have hj2 : t / 3 < d.size := by omega
    obtain ⟨g0, g1, g2⟩ := encs_get d.toList (t / 3) hj
    have e : (Sort.flatK Itm.enc 3 d).toList[t]? = some (Itm.enc d[t / 3]!)[t % 3]! := by
      rw [Array.getElem?_toList, ← Sort.get_flatK _ _ _ t ht]
      rw [getElem!_pos _ t (by rw [Sort.size_flatK]; exact ht), Array.getElem?_eq_getElem (by rw [Sort.size_flatK]; exact ht)]
    rw [e, getElem!_pos d (t / 3) hj2]
    rw [Array.getElem_toList] at g0 g1 g2
    rcases (by omega : t % 3 = 0 ∨ t % 3 = 1 ∨ t % 3 = 2) with h | h | h
    · rw [show t / 3 * 3 = t by omega] at g0
      rw [h, g0]; rfl
    · rw [show t / 3 * 3 + 1 = t by omega] at g1
      rw [h, g1]; rfl
    · rw [show t / 3 * 3 + 2 = t by omega] at g2
      rw [h, g2]; rfl
  · rw [List.getElem?_eq_none (by rw [Array.length_toList, Sort.size_flatK]; omega), List.getElem?_eq_none (by rw [encs_length, Array.length_toList]; omega)]
theorem take_putCellsV (cur F : Array Value) (h : F.size ≤ cur.size) : (Sort.putCells id 0 F cur).toList.take F.size = F.toList := by
  apply List.ext_getElem?
  intro j
  by_cases hj : j < F.size
  · rw [List.getElem?_take_of_lt hj, Array.getElem?_toList]
    simp [Sort.putCells, hj, show j < cur.size by omega]
  · rw [List.getElem?_take_eq_none (by omega), List.getElem?_eq_none (by simp; omega)]
theorem heap_sortedV {w : World} {g n : Nat} {os : Array Obj} {cur F : Array Value} {e : TypeId} {fr : Nat × Nat} (hb : w.heap[g]? = some (.cells cur e fr)) :
    (Sort.grow (Sort.putRow id (Sort.ahead w n) g 0 F) os).heap[g]? = some (.cells (Sort.putCells id 0 F cur) e fr) := by
  have hg : g < w.heap.size := (Array.getElem?_eq_some_iff.1 hb).1
  rw [Sort.heap_grow_old _ _ (by simpa using hg)]
  simp [Sort.putRow, Sort.mapBlock, Sort.ahead, Array.getElem?_modify, hb, Sort.onCells]
theorem grown_sortedV {w : World} {g n : Nat} {os : Array Obj} (F : Array Value) : w.grownBy (Sort.grow (Sort.putRow id (Sort.ahead w n) g 0 F) os) (some g) := by
  refine ⟨rfl, rfl, rfl, by simp, fun k hk hne => ?_⟩
  rw [Sort.heap_grow_old _ _ (by simpa using hk)]
  have : g ≠ k := fun e => hne (by rw [e])
  simp [Sort.putRow, Sort.mapBlock, Sort.ahead, Array.getElem?_modify, this]
set_option maxHeartbeats 2000000 in
theorem insert_none (p : Option Addr) (cap : Nat) (fv : Value) (w : World) : Calls Tryz.prog 246 #[.slice p 0 cap, .int .i64 0, .int .i64 0, fv] w fun e w' => e = .returned (.tuple #[]) ∧ w' = w := by
  go_enter Tryz.func246, Tryz.ntmps246
  go_wp2
  refine wp_loop_rounds 1 ?_
  rw [rounds_succ]
  go_wp2
  go_end0
  exact ⟨rfl, rfl⟩
set_option maxHeartbeats 4000000 in
theorem pdq_none (p : Option Addr) (cap : Nat) (lim : Int) (fv : Value) (w : World) : Calls Tryz.prog 228 #[.slice p 0 cap, .int .i64 0, .int .i64 0, .int .i64 lim, fv] w fun e w' => e = .returned (.tuple #[]) ∧ w' = w := by
  have hi := fun W => insert_none p cap fv W
  go_enter Tryz.func228, Tryz.ntmps228
  go_wp2
  refine wp_loop_rounds 1 ?_
  rw [rounds_succ]
  go_wp2_with (go_at_call 246; refine (hi _).mono ?_; rintro e w' ⟨rfl, rfl⟩)
  (try simp only [Exit.inBlock, Exit.then]); refine bodyPost_ret (results_none rfl _ _ _) rfl ?_
  exact ⟨rfl, rfl⟩
set_option maxHeartbeats 2000000 in
theorem sortf_none (p : Option Addr) (cap : Nat) (fv : Value) (w : World) : Calls Tryz.prog 198 #[.slice p 0 cap, fv] w fun e w' => e = .returned (.tuple #[]) ∧ w' = w := by
  have hp := fun lim W => pdq_none p cap lim fv W
  have hl : ∀ W, Calls Tryz.prog 196 #[.int .u64 0] W fun e w' => e = .returned (.int .i64 (Lib.bitLen 0 : Nat)) ∧ w' = W := fun W => Tryz.bits_Len 0 W (by omega) (by omega)
  go_enter Tryz.func198, Tryz.ntmps198
  go_wp2_with (first | (go_at_call 196; refine (hl _).mono ?_; rintro e w' ⟨rfl, rfl⟩) | (go_at_call 228; refine (hp _ _).mono ?_; rintro e w' ⟨rfl, rfl⟩))
  go_end0
  exact ⟨rfl, rfl⟩
set_option maxHeartbeats 2000000 in
theorem sortItems_raw (base : Nat) (v : Value) (is : List Itm) (w : World) (hrow : w.ownsRow base 255 3 v is.length (encs is)) (hlen : is.length ≤ 1000) :
    Calls Tryz.prog 175 #[v] w fun e w' => ∃ is', e = .returned v ∧ Hid (is'.Perm is ∧ (is'.Pairwise fun a b => Op.bytesLess (bl b.tx) (bl a.tx) = false) ∧ w'.ownsRow base 255 3 v is'.length (encs is') ∧ w.grownBy w' v.ownBlock) := by
  by_cases h0 : is.length = 0
  · obtain rfl : is = [] := List.eq_nil_of_length_eq_zero h0
    obtain ⟨av, cp, rfl⟩ := own_shape hrow
    have HR : Hid _ := hid hrow
    clear hrow h0
    go_enter Tryz.func175, Tryz.ntmps175
    go_wp2_with (go_at_call 198; refine (sortf_none _ _ _ _).mono ?_; rintro e w' ⟨rfl, rfl⟩)
    go_ret
    exact ⟨[], rfl, hid ⟨List.Perm.refl _, List.Pairwise.nil, HR.out, ⟨rfl, rfl, rfl, Nat.le_refl _, fun _ _ _ => rfl⟩⟩⟩
  · obtain ⟨g, cp, rfl⟩ := own_some hrow (by omega)
    rcases hrow.2 with ⟨hv, _⟩ | ⟨g', cap, cur, hv, hbase, hh, r1, r2, r3, r4⟩
    · cases hv
    injection hv with e1 e2 e3
    injection e1 with e1
    injection e1 with e1
    subst e1 e3
    have hgl : g < w.heap.size := (Array.getElem?_eq_some_iff.1 hh).1
    have hH : Sort.HoldsK Itm.enc 3 w g 0 is.toArray := by
      intro j hj
      rw [Sort.size_flatK] at hj
      have hj2 : j < (encs is).length := by rw [encs_length]; simpa using hj
      refine ⟨?_, by simp [World.frozen?, hh]⟩
      have e := own_cell hrow j _ (List.getElem?_eq_getElem hj2)
      rw [Nat.zero_add, e]
      have e2 : (Sort.flatK Itm.enc 3 is.toArray).toList[j]? = (encs is)[j]? := by rw [flatK_encs]
      rw [List.getElem?_eq_getElem hj2, Array.getElem?_toList, Array.getElem?_eq_getElem (by rw [Sort.size_flatK]; exact hj)] at e2
      rw [getElem!_pos _ j (by rw [Sort.size_flatK]; exact hj), Option.some.inj e2]
      rfl
    have eg : ∀ args w, (callFunc 199 args).run Tryz.prog w = .ok (.enter 199 args) w := enters_of Tryz.func199 (by kernel_rfl) rfl
    have hcmp : CmpLays Tryz.prog 199 #[] Itm.enc 3 (fun x y => cmpV (bl x.tx) (bl y.tx)) g 0 is.toArray.size w := fun _ _ _ _ x y => sort1_any x y _
    have hcon := AnyQ.slices_SortFunc Tryz.sortItem 3 Tryz.isAgg255 Tryz.sizeOf255 Itm.enc (fun _ => rfl) (fun x v hv => by simp [Itm.enc] at hv; rcases hv with rfl | rfl | rfl <;> rfl) (fun x y => cmpV (bl x.tx) (bl y.tx)) sortSWO 199 #[] g 0 cp is.toArray w eg hcmp hH hgl (by simp; omega)
    change Calls Tryz.prog 198 _ _ _ at hcon
    rw [List.size_toArray] at hcon
    have HC : Hid _ := hid hcon
    have HX : Hid (base ≤ g ∧ w.heap[g]? = some (.cells cur 255 (0, 0)) ∧ is.length ≤ cp ∧ cp ≤ maxLen ∧ cur.size = cp * 3) := hid ⟨hbase, hh, r1, r2, r3⟩
    clear hcon hcmp eg hH hrow hh hbase r1 r2 r3 r4
    go_enter Tryz.func175, Tryz.ntmps175
    go_wp2_with (go_at_call 198; refine HC.out.mono ?_; rintro e w' ⟨rfl, d', n, os, hp, hs, rfl⟩)
    go_ret
    obtain ⟨q1, q2, q3, q4, q5⟩ := HX.out
    have hsz : d'.size = is.length := by rw [hp.1]; simp
    have hperm : d'.toList.Perm is := by
      have := hp.2.2
      rwa [Array.extract_eq_self_of_le (by omega), Array.extract_eq_self_of_le (by simp)] at this
    refine ⟨d'.toList, rfl, hid ⟨hperm, ?_, ?_, ?_⟩⟩
    · rw [List.pairwise_iff_getElem]
      intro i j hi hj hij
      rw [Array.length_toList] at hi hj
      have := hs i j (Nat.zero_le _) hij (by omega)
      unfold ltOf at this
      rw [cmpV_neg, getElem!_pos d' i hi, getElem!_pos d' j hj] at this
      simpa using this
    · change (Sort.grow (Sort.putRow id (Sort.ahead w n) g 0 (Sort.flatK Itm.enc 3 d')) os).ownsRow _ _ _ _ _ _
      have hl : d'.toList.length = is.length := by rw [Array.length_toList, hsz]
      rw [hl]
      refine ⟨by rw [encs_length, hl], Or.inr ⟨g, cp, Sort.putCells id 0 (Sort.flatK Itm.enc 3 d') cur, rfl, q1, heap_sortedV q2, q3, q4, by simp [Sort.putCells, q5], ?_⟩⟩
      have := take_putCellsV cur (Sort.flatK Itm.enc 3 d') (by rw [Sort.size_flatK, hsz]; omega)
      rw [Sort.size_flatK, flatK_encs, hsz] at this
      exact this
    · exact grown_sortedV _
theorem sortItems_any (base : Nat) (v : Value) (is : List Itm) (w : World) (hrow : w.ownsRow base 255 3 v is.length (encs is)) (hbs : base ≤ w.heap.size) (hlen : is.length ≤ 1000) (hok : ∀ i ∈ is, ItmOk w i) (hd : DstE (is.map Itm.el)) :
    Calls Tryz.prog 175 #[v] w fun e w' => e = .returned v ∧ ∃ is', Hid (VecV w' v ((is.map Itm.el).foldl placedV []) is' ∧ Below base w w') := by
  refine (sortItems_raw base v is w hrow hlen).mono ?_
  rintro e w' ⟨is', rfl, H⟩
  obtain ⟨h1, h2, h3, h4⟩ := H.out
  have hkb := KeepsB.grown h4 hrow
  have hok' : ∀ i ∈ is', ItmOk w' i := fun i hi => (hok i (h1.mem_iff.1 hi)).kb hkb (by decide)
  refine ⟨rfl, is', hid ⟨⟨h3.mono (Nat.zero_le _), ?_, hok', by rw [h1.length_eq]; exact hlen⟩, ?_⟩⟩
  · refine sorted_placed hd (h1.map _) ?_
    rw [List.pairwise_map]
    refine List.Pairwise.imp_of_mem ?_ h2
    intro a b ha hb hab
    have ea := (hok' a ha).lb.txt
    have eb := (hok' b hb).lb.txt
    show Op.bytesLess (wrt b.labs) (wrt a.labs) = false
    unfold Itm.labs
    rw [← ea, ← eb]; exact hab
  · exact (Below.refl base w).grown h4 hbs (fun q hq => (hrow.lt q hq).1)
theorem RngV.kb {t : TypeId} {w w' : World} {v : Value} {rs : List Str} (h : RngV w v rs) (hk : KeepsB t w w') (h0 : 311 ≠ t) (h1 : 320 ≠ t) (h2 : 313 ≠ t) : RngV w' v rs := ⟨hk.own h.row h0, fun s hs => (h.ok s hs).kb hk h1 h2⟩
def Str.itm (s : Str) (v : Int) : Itm := ⟨s.a, s.n, s.c, s.tx, s.qs, v⟩
theorem itm_ok {w : World} {s : Str} (h : StrOk w s) {v : Int} (hv : vOk v) : ItmOk w (s.itm v) := ⟨h.lb, hv⟩
theorem oneV_ok (op : Option Nat) (l : List (Int × Int)) (hl : ∀ x ∈ l, smOk x) : vOk (oneV op l) := by
  cases op with
  | some o => exact cutV_ok _
  | none =>
    unfold oneV vOk
    simp only
    cases l with
    | nil => decide
    | cons a l =>
      rw [List.getLastD_cons, ← List.getLast_eq_getLastD (a := a) (by simp : a :: l ≠ [])]
      exact (hl _ (List.getLast_mem _)).2.2
def itms (op : Option Nat) (rs : List Str) : List Itm := rs.map fun s => s.itm (oneV op s.sams)
theorem itms_el (op : Option Nat) (rs : List Str) (st : List Ser) (nd : Nd) (n t : Int) (h : rs.map Str.pr = rangeV st nd n t) : (itms op rs).map Itm.el = pickedV st nd op n t := by
  rw [picked_range, ← h]
  unfold itms
  rw [List.map_map, List.map_map]
  rfl
theorem sams_last {s : Str} (h : s.sams ≠ []) : ∃ hj : s.sams.length - 1 < s.sams.length, oneV none s.sams = (s.sams[s.sams.length - 1]).2 := by
  have hl : 0 < s.sams.length := List.length_pos_iff.2 h
  refine ⟨by omega, ?_⟩
  unfold oneV
  simp only
  rw [← List.getLast_eq_getElem h]
  rw [List.getLastD_eq_getLast?, List.getLast?_eq_some_getLast h]
  rfl
set_option maxRecDepth 100000 in
set_option maxHeartbeats 4000000 in
theorem ppick_any (sv : Value) (ss : List Srs) (nm : ByteArray) (la : Option Addr) (ln lc : Nat) (nd : Nd) (t : Int) (w : World) (hst : StoP w sv ss) (hds : Dst (ss.map Srs.ser)) (hnm : bl nm = nd.name) (hc : CondsV w (.slice la ln lc) nd.conds) (ht0 : -1000000 ≤ t) (ht1 : t ≤ 1000000) :
    Calls Tryz.prog 135 #[sv, .agg #[.string nm, .slice la ln lc], .int .i64 t] w fun e w' => ∃ v is, e = .returned v ∧ Hid (VecV w' v (windowedV (ss.map Srs.ser) nd none 10 t) is) ∧ Below w.heap.size w w' := by
  obtain ⟨i0, hi, hz0, hz1, hz2⟩ := info_parts Tryz.infoItem
  obtain ⟨sa, scp, rfl⟩ := own_shape hst.row
  have HPR : Hid (∀ W, Below w.heap.size w W → Calls Tryz.prog 134 #[.slice sa ss.length scp, .agg #[.string nm, .slice la ln lc], .int .i64 10, .int .i64 t] W _) := hid (fun W hW => prange_any (.slice sa ss.length scp) ss nm la ln lc nd 10 t W (hst.below hW) hnm (hc.below hW) (by decide) (by decide) ht0 ht1)
  have HDS : Hid (Dst (ss.map Srs.ser)) := hds
  have HSL : Hid (ss.length ≤ 30) := hst.len
  clear hst hnm hc hds
  go_enter Tryz.func135, Tryz.ntmps135
  go_wp2_with fail
  refine (HPR.out _ (by repeat (first | exact Below.refl _ _ | assumption | refine Below.alloc ?_ (by first | omega | (simp; omega) | simp) _ | refine Below.setCell ?_ (by first | omega | (simp; omega) | simp) _ | refine below_drewN' ?_ _ | refine Below.drew ?_))).mono ?_
  rintro e w1 ⟨rv, rs, rfl, HR, hb1⟩
  have HB1 : Hid (Below w.heap.size w w1) := hid (Below.trans (by repeat (first | exact Below.refl _ _ | assumption | refine Below.alloc ?_ (by first | omega | (simp; omega) | simp) _ | refine Below.setCell ?_ (by first | omega | (simp; omega) | simp) _ | refine below_drewN' ?_ _ | refine Below.drew ?_)) (hb1.mono (by simp)))
  obtain ⟨ra, rcp, rfl⟩ := own_shape HR.out.1.row
  have hrl : rs.length ≤ 30 := by
    have h1 := congrArg List.length HR.out.2
    rw [List.length_map] at h1
    have h2 := rangeV_len (ss.map Srs.ser) nd 10 t
    rw [List.length_map] at h2
    have := HSL.out
    omega
  clear hb1 HPR HSL
  have hw1 := HB1.out.size
  go_wp2
  go_loopw [7, 16] (fun v i wr => ∃ k : Nat, k ≤ rs.length ∧ i = .int .i64 k ∧ wr.ownsRow w.heap.size 255 3 v k (encs (itms none (rs.take k))) ∧ Hid (RngV wr (.slice ra rs.length rcp) rs) ∧ Hid (Below w.heap.size w wr))
    (fun _ i _ => rs.length - (intOf i).toNat)
  case atStart => exact ⟨0, Nat.zero_le _, rfl, World.ownsRow_nil _ _ _ _, hid HR.out.1, HB1⟩
  case round =>
    obtain ⟨k, hk, rfl, hown, HRr, HB⟩ := hrel
    have hwr := HB.out.size
    by_cases hlt : k < rs.length
    · have hg : ∃ g, ra = some ⟨g, 0, none⟩ := by
        obtain ⟨g, cp', h⟩ := own_some HRr.out.row (by omega)
        injection h with h1; exact ⟨g, h1⟩
      obtain ⟨g, rfl⟩ := hg
      obtain ⟨f1, f2, f3⟩ := encR_get rs k hlt
      have d1 := own_cell HRr.out.row _ _ f1
      have d2 := own_cell HRr.out.row _ _ f2
      have d3 := own_cell HRr.out.row _ _ f3
      have HSO : Hid (StrOk wr rs[k]) := hid (HRr.out.ok _ (List.getElem_mem hlt))
      have HTK : Hid (itms none (rs.take (k + 1)) = itms none (rs.take k) ++ [(rs[k]).itm (oneV none (rs[k]).sams)]) := hid (by
        rw [List.take_succ_eq_append_getElem hlt]; unfold itms; rw [List.map_append]; rfl)
      generalize rs[k] = s at *
      clear f1 f2 f3
      have hkz : (k : Int) < (rs.length : Int) := by omega
      obtain ⟨hj, hone⟩ := sams_last HSO.out.ne
      obtain ⟨sg, soff, hsa, hsam⟩ := HSO.out.sam.resolve_left HSO.out.ne
      obtain ⟨m1, m2⟩ := hsam.cells _ hj
      have hsl := HSO.out.len
      have HVO : Hid (vOk (oneV none s.sams)) := hid (oneV_ok none _ HSO.out.ok)
      have HONE : Hid (oneV none s.sams = (s.sams[s.sams.length - 1]).2) := hone
      clear hone hsam
      rw [hsa] at d3
      obtain ⟨sm, hsm⟩ : ∃ sm, s.sams.length = sm + 1 := ⟨s.sams.length - 1, by omega⟩
      have hjz : ((s.sams.length : Int) - 1) = (sm : Int) := by omega
      rw [hsm] at d3 hsl
      have e1 : s.sams.length - 1 = sm := by omega
      have m1' : wr.cell? ⟨sg, soff + sm * 2, none⟩ = some (.int .i64 (s.sams[s.sams.length - 1]).1) := by rw [← e1]; exact m1
      have m2' : wr.cell? ⟨sg, soff + sm * 2 + 1, none⟩ = some (.int .i64 (oneV none s.sams)) := by rw [HONE.out, ← e1]; exact m2
      clear m1 m2 hjz hsm e1 HONE
      generalize (s.sams[s.sams.length - 1]).1 = tmx at *
      generalize oneV none s.sams = one at *
      have hsmz : ((sm : Int) + 1 - 1) = (sm : Int) := by omega
      have hsgl : sg < wr.heap.size := World.block_lt_of_cell? _ _ m1'
      have n1 : ∀ o, (wr.alloc o).cell? ⟨sg, soff + sm * 2, none⟩ = some (.int .i64 tmx) := fun o => by rw [World.cell?_alloc_lt _ _ _ hsgl]; exact m1'
      have n2 : ∀ o, (wr.alloc o).cell? ⟨sg, soff + sm * 2 + 1, none⟩ = some (.int .i64 one) := fun o => by rw [World.cell?_alloc_lt _ _ _ hsgl]; exact m2'
      go_wp2_with (at_builtin; refine wpList_append_own _ rfl (.tmp 28) (.tmp 34) 252 rfl w.heap.size 255 i0 (.agg #[.slice none 0 0, .string ByteArray.empty, .int .i64 0]) 3 48 Tryz.underlying252 hi hz0 hz1 hz2 rfl (by decide) _ _ _ rfl (((hown.alloc _).alloc _).alloc _) ⟨wr.heap.size + 2, 0, none⟩ 1 1 [.slice s.a s.n s.c, .string s.tx, .int .i64 one] rfl rfl ?c1 ?c2 ?c3 ?c4 ?c5 ?_)
      case c1 => exact cells_new (by simp)
      case c2 => intro u hu; simp at hu; rcases hu with rfl | rfl | rfl <;> rfl
      case c3 => unfold maxLen; omega
      case c4 => omega
      case c5 => simp; omega
      intro v' w3 hown3 hgrow _
      have hb3 : Below w.heap.size w w3 := (((HB.out.alloc (by omega) _).alloc (by simp; omega) _).alloc (by simp; omega) _).grown hgrow (by simp; omega) (fun q hq => (hown.lt q hq).1)
      have hkb : ∀ o o' o'', KeepsB 255 wr (((wr.alloc o).alloc o').alloc o'') := fun o o' o'' => KeepsB.below ((((Below.refl _ _).alloc (Nat.le_refl _) _).alloc (by simp) _).alloc (by simp; omega) _) _
      have hkb3 := (hkb _ _ _).trans (KeepsB.grown hgrow (((hown.alloc _).alloc _).alloc _))
      have hown4 : w3.ownsRow w.heap.size 255 3 v' (k + 1) (encs (itms none (rs.take (k + 1)))) := by
        rw [HTK.out, encs_append]; exact hown3
      have HR3 := hid (HRr.out.kb hkb3 (by decide) (by decide) (by decide))
      clear hown hgrow hown3 hkb hkb3 d1 d2 d3 m1' m2'
      have HB3 : Hid _ := hid hb3
      clear hb3
      go_wp2
      go_roundw
      case rel => exact ⟨k + 1, by omega, by go_num, hown4, HR3, HB3⟩
      case measure => simp [intOf]; omega
    · obtain rfl : k = rs.length := by omega
      rw [List.take_length] at hown
      have HEL : Hid ((itms none rs).map Itm.el = pickedV (ss.map Srs.ser) nd none 10 t) := hid (itms_el none rs _ nd 10 t HR.out.2)
      have hlen : (itms none rs).length = rs.length := by unfold itms; rw [List.length_map]
      rw [← hlen] at hown
      have HSI := hid (sortItems_any w.heap.size _ (itms none rs) wr hown hwr (by omega) (fun i hi => by
        unfold itms at hi
        obtain ⟨s, hs, rfl⟩ := List.mem_map.1 hi
        exact itm_ok (HRr.out.ok s hs) (oneV_ok none _ (HRr.out.ok s hs).ok)) (by rw [HEL.out]; exact picked_dst HDS.out nd none 10 t))
      rw [HEL.out] at HSI
      clear hown
      go_wp2_with fail
      refine HSI.out.mono ?_
      rintro e w5 ⟨rfl, is', H5⟩
      have HB5 : Hid (Below w.heap.size w w5) := hid (HB.out.trans H5.out.2)
      have HV5 : Hid (VecV w5 _ (windowedV (ss.map Srs.ser) nd none 10 t) is') := hid (by rw [windowedV_picked]; exact H5.out.1)
      go_wp2
      go_ret
      exact ⟨_, is', rfl, HV5, HB5.out⟩
end Go.Proofs.YtpbemaaghbbocaaGreatDoor
