/- Parts. -/
import Derived.Test.YtpbemaaghbbocaaGreatDoorA21
import Derived.Test.YtpbemaaghbbocaaGreatDoorA35
import Derived.Test.YtpbemaaghbbocaaGreatDoorA25
import Derived.Deep.AppendLies
import Derived.Test.YtpbemaaghbbocaaGreatDoorA17
import Derived.Test.YtpbemaaghbbocaaGreatDoorA31
namespace Go.Proofs.YtpbemaaghbbocaaGreatDoor
open Go.RowKit LS
theorem own_setAt {w : World} {base : Nat} {e : TypeId} {g n cap : Nat} {xs : List Value} (h : w.ownsRow base e 1 (.slice (some ⟨g, 0, none⟩) n cap) n xs) (i : Nat) (u : Value) : (w.setCell ⟨g, i, none⟩ u).ownsRow base e 1 (.slice (some ⟨g, 0, none⟩) n cap) n (xs.set i u) := by
  obtain ⟨hl, h⟩ := h
  refine ⟨by rw [List.length_set]; exact hl, ?_⟩
  rcases h with ⟨h, _⟩ | ⟨g', cap', cur, hv, hb, hh, hn, hc, hs, ht⟩
  · cases h
  · injection hv with h1 _ h3
    injection h1 with h1
    injection h1 with h1
    subst h1 h3
    refine Or.inr ⟨g, cap, cur.setIfInBounds i u, rfl, hb, ?_, hn, hc, by simpa using hs, ?_⟩
    · simp [World.setCell, Array.getElem?_modify, hh]
    · rw [Nat.mul_one] at ht ⊢
      rw [← ht, Array.toList_setIfInBounds, List.take_set]
theorem set_map_range (c k : Nat) (f : Nat → Value) (z : Value) (hk : k < c) : ((List.range k).map f ++ List.replicate (c - k) z).set k (f k) = (List.range (k + 1)).map f ++ List.replicate (c - (k + 1)) z := by
  have e : c - k = (c - (k + 1)) + 1 := by omega
  rw [e, List.replicate_succ, List.set_append_right _ _ (by simp), List.range_succ, List.map_append, List.append_assoc]
  simp
theorem Tryz.infoInt3 : (Tryz.prog.info? 3).map (fun i => (i.zero, i.size, i.bytes)) = some (some (.int .i64 0), 1, 8) := by kernel_rfl
theorem itime_any (t : Int) (w : World) : Calls Tryz.prog 84 #[.int .i64 t] w fun e w' => e = .returned (.bool (decide (-1000000 ≤ t) && decide (t ≤ 1000000))) ∧ w' = w := by
  by_cases h1 : -1000000 ≤ t
  · by_cases h2 : t ≤ 1000000
    · rw [show (decide (-1000000 ≤ t) && decide (t ≤ 1000000)) = true by simp; omega]
      go_enter Tryz.func84, Tryz.ntmps84
      go_wp2
      go_ret
      exact ⟨rfl, rfl⟩
    · rw [show (decide (-1000000 ≤ t) && decide (t ≤ 1000000)) = false by simp; omega]
      go_enter Tryz.func84, Tryz.ntmps84
      go_wp2
      go_ret
      exact ⟨rfl, rfl⟩
  · rw [show (decide (-1000000 ≤ t) && decide (t ≤ 1000000)) = false by simp; omega]
    go_enter Tryz.func84, Tryz.ntmps84
    go_wp2
    go_ret
    exact ⟨rfl, rfl⟩
structure ArI (w wr : World) (xa ya : List Value) (vv : Value) (zs : List (Value × El)) : Prop where
  bel : Below w.heap.size w wr
  xb : BAt wr w.heap.size xa 76
  yb : BAt wr (w.heap.size + 1) ya 76
  rb : BAt wr (w.heap.size + 2) [.bool false, .int .i64 0, .slice none 0 0] 76
  vb : BAt wr (w.heap.size + 3) [.bool false, .int .i64 0, vv] 76
  own : wr.ownsRow (w.heap.size + 4) 128 2 vv zs.length (flatE zs)
theorem ArI.below {w wr w' : World} {xa ya : List Value} {vv : Value} {zs : List (Value × El)} (h : ArI w wr xa ya vv zs) (hb : Below wr.heap.size wr w') : ArI w w' xa ya vv zs :=
  ⟨h.bel.trans (hb.mono h.bel.size), h.xb.below hb, h.yb.below hb, h.rb.below hb, h.vb.below hb, own_below h.own hb⟩
theorem BAt.alloc {w : World} {a : Nat} {c : List Value} {t : TypeId} (h : BAt w a c t) (o : Obj) : BAt (w.alloc o) a c t := h.below ((Below.refl _ _).alloc (Nat.le_refl _) _)
theorem ArI.start (w : World) (x0 x1 x2 y0 y1 y2 : Value) : ArI w ((((w.alloc (.cells #[x0, x1, x2] 76)).alloc (.cells #[y0, y1, y2] 76)).alloc (.cells #[.bool false, .int .i64 0, .slice none 0 0] 76)).alloc (.cells #[.bool false, .int .i64 0, .slice none 0 0] 76)) [x0, x1, x2] [y0, y1, y2] (.slice none 0 0) [] := by
  have g3 : BAt (w.alloc (.cells #[x0, x1, x2] 76)) w.heap.size [x0, x1, x2] 76 := Go.Deep.blk_alloc_new w _
  have g2 : BAt ((w.alloc (.cells #[x0, x1, x2] 76)).alloc (.cells #[y0, y1, y2] 76)) (w.heap.size + 1) [y0, y1, y2] 76 := by
    have := Go.Deep.blk_alloc_new (w.alloc (.cells #[x0, x1, x2] 76)) (.cells #[y0, y1, y2] 76)
    rwa [World.size_alloc] at this
  have g1 : BAt (((w.alloc (.cells #[x0, x1, x2] 76)).alloc (.cells #[y0, y1, y2] 76)).alloc (.cells #[.bool false, .int .i64 0, .slice none 0 0] 76)) (w.heap.size + 2) [.bool false, .int .i64 0, .slice none 0 0] 76 := by
    have := Go.Deep.blk_alloc_new ((w.alloc (.cells #[x0, x1, x2] 76)).alloc (.cells #[y0, y1, y2] 76)) (.cells #[.bool false, .int .i64 0, .slice none 0 0] 76)
    rwa [World.size_alloc, World.size_alloc] at this
  have g0 := Go.Deep.blk_alloc_new (((w.alloc (.cells #[x0, x1, x2] 76)).alloc (.cells #[y0, y1, y2] 76)).alloc (.cells #[.bool false, .int .i64 0, .slice none 0 0] 76)) (.cells #[.bool false, .int .i64 0, .slice none 0 0] 76)
  rw [World.size_alloc, World.size_alloc, World.size_alloc] at g0
  exact ⟨(by repeat (first | exact Below.refl _ _ | assumption | refine Below.alloc ?_ (by first | omega | (simp; omega) | simp) _ | refine Below.setCell ?_ (by first | omega | (simp; omega) | simp) _ | refine below_drewN' ?_ _ | refine Below.drew ?_)), ((g3.alloc _).alloc _).alloc _, (g2.alloc _).alloc _, g1.alloc _, g0, World.ownsRow_nil _ _ _ _⟩
theorem ArI.done {w wr : World} {xa ya : List Value} {va : Option Addr} {vn vc : Nat} {os : List (Value × El)} (h : ArI w wr xa ya (.slice va vn vc) os) (hl : os.length ≤ 1000000) (hok : ∀ z ∈ os, ElOk wr z) :
    BAt (set3 wr (w.heap.size + 2) (.bool false) (.int .i64 0) (.slice va vn vc)) (w.heap.size + 2) [.bool false, .int .i64 0, .slice va vn vc] 76 ∧ ElsV (set3 wr (w.heap.size + 2) (.bool false) (.int .i64 0) (.slice va vn vc)) (.slice va vn vc) os ∧ Below w.heap.size w (set3 wr (w.heap.size + 2) (.bool false) (.int .i64 0) (.slice va vn vc)) := by
  have hb : Below w.heap.size w (set3 wr (w.heap.size + 2) (.bool false) (.int .i64 0) (.slice va vn vc)) := (((h.bel.setCell (p := ⟨w.heap.size + 2, 0, none⟩) (by show w.heap.size ≤ w.heap.size + 2; omega) _).setCell (p := ⟨w.heap.size + 2, 1, none⟩) (by show w.heap.size ≤ w.heap.size + 2; omega) _).setCell (p := ⟨w.heap.size + 2, 2, none⟩) (by show w.heap.size ≤ w.heap.size + 2; omega) _)
  refine ⟨set3_at h.rb (x := .bool false) (y := .int .i64 0) (z := .slice va vn vc), ⟨own_same (own_zero h.own) (fun j hj => set3_other _ _ _ _ _ (fun e => own_ne_block h.own h.rb (by decide) (by rw [hj, e]))), hl, fun z hz => ?_⟩, hb⟩
  obtain ⟨⟨qs, hq⟩, h2⟩ := hok z hz
  exact ⟨⟨qs, own_same hq.own (fun j hj => set3_other _ _ _ _ _ (fun e => own_ne_block hq.own h.rb (by decide) (by rw [hj, e]))), hq.say, hq.len, hq.ok⟩, h2⟩
theorem ElsV.set {W : World} {v : Value} {zs : List (Value × El)} {a : Nat} {c : List Value} (h : ElsV W v zs) (hb : BAt W a c 76) (i : Nat) (u : Value) : ElsV (W.setCell ⟨a, i, none⟩ u) v zs := by
  have hgg : ∀ j, j ≠ a → (W.setCell ⟨a, i, none⟩ u).heap[j]? = W.heap[j]? := fun j hj => Go.Deep.blk_setCell_other _ _ _ _ hj
  refine ⟨own_same h.own (fun j hj => hgg j (fun e => own_ne_block h.own hb (by decide) (by rw [hj, e]))), h.len, fun z hz => ?_⟩
  obtain ⟨⟨qs, hq⟩, h2⟩ := h.ok z hz
  exact ⟨⟨qs, own_same hq.own (fun j hj => hgg j (fun e => own_ne_block hq.own hb (by decide) (by rw [hj, e]))), hq.say, hq.len, hq.ok⟩, h2⟩
structure GrI (w wr : World) (xa : List Value) (vv : Value) (rs : List (Value × El)) : Prop where
  bel : Below w.heap.size w wr
  xb : BAt wr w.heap.size xa 76
  rb : BAt wr (w.heap.size + 1) [.bool false, .int .i64 0, .slice none 0 0] 76
  vb : BAt wr (w.heap.size + 2) [.bool false, .int .i64 0, vv] 76
  els : ElsV wr vv rs
theorem GrI.below {w wr w' : World} {xa : List Value} {vv : Value} {rs : List (Value × El)} (h : GrI w wr xa vv rs) (hb : Below wr.heap.size wr w') : GrI w w' xa vv rs :=
  ⟨h.bel.trans (hb.mono h.bel.size), h.xb.below hb, h.rb.below hb, h.vb.below hb, h.els.below hb⟩
theorem GrI.put {w wr : World} {xa : List Value} {vv v' : Value} {rs rs' : List (Value × El)} (h : GrI w wr xa vv rs) (he : ElsV wr v' rs') : GrI w (wr.setCell ⟨w.heap.size + 2, 2, none⟩ v') xa v' rs' := by
  have hgg : ∀ j, j ≠ w.heap.size + 2 → (wr.setCell ⟨w.heap.size + 2, 2, none⟩ v').heap[j]? = wr.heap[j]? := fun j hj => Go.Deep.blk_setCell_other _ _ _ _ hj
  refine ⟨h.bel.setCell (p := ⟨w.heap.size + 2, 2, none⟩) (by show w.heap.size ≤ w.heap.size + 2; omega) _, (hgg _ (by omega)).trans h.xb, (hgg _ (by omega)).trans h.rb, ?_, he.set h.vb 2 v'⟩
  have hv := h.vb
  unfold BAt at hv ⊢
  simp only [World.setCell, Array.getElem?_modify, hv, if_true, Option.map_some]; rfl
theorem GrI.done {w wr : World} {xa : List Value} {va : Option Addr} {vn vc : Nat} {rs : List (Value × El)} (h : GrI w wr xa (.slice va vn vc) rs) :
    BAt (set3 wr (w.heap.size + 1) (.bool false) (.int .i64 0) (.slice va vn vc)) (w.heap.size + 1) [.bool false, .int .i64 0, .slice va vn vc] 76 ∧ ElsV (set3 wr (w.heap.size + 1) (.bool false) (.int .i64 0) (.slice va vn vc)) (.slice va vn vc) rs ∧ Below w.heap.size w (set3 wr (w.heap.size + 1) (.bool false) (.int .i64 0) (.slice va vn vc)) := by
  refine ⟨set3_at h.rb (x := .bool false) (y := .int .i64 0) (z := .slice va vn vc), ?_, (((h.bel.setCell (p := ⟨w.heap.size + 1, 0, none⟩) (by show w.heap.size ≤ w.heap.size + 1; omega) _).setCell (p := ⟨w.heap.size + 1, 1, none⟩) (by show w.heap.size ≤ w.heap.size + 1; omega) _).setCell (p := ⟨w.heap.size + 1, 2, none⟩) (by show w.heap.size ≤ w.heap.size + 1; omega) _)⟩
  have e := h.els
  refine ⟨own_same e.own (fun j hj => set3_other _ _ _ _ _ (fun e' => own_ne_block e.own h.rb (by decide) (by rw [hj, e']))), e.len, fun z hz => ?_⟩
  obtain ⟨⟨qs, hq⟩, h2⟩ := e.ok z hz
  exact ⟨⟨qs, own_same hq.own (fun j hj => set3_other _ _ _ _ _ (fun e' => own_ne_block hq.own h.rb (by decide) (by rw [hj, e']))), hq.say, hq.len, hq.ok⟩, h2⟩
theorem GrI.start (w : World) (x0 x1 x2 : Value) : GrI w (((w.alloc (.cells #[x0, x1, x2] 76)).alloc (.cells #[.bool false, .int .i64 0, .slice none 0 0] 76)).alloc (.cells #[.bool false, .int .i64 0, .slice none 0 0] 76)) [x0, x1, x2] (.slice none 0 0) [] := by
  have g3 : BAt (w.alloc (.cells #[x0, x1, x2] 76)) w.heap.size [x0, x1, x2] 76 := Go.Deep.blk_alloc_new w _
  have g2 : BAt ((w.alloc (.cells #[x0, x1, x2] 76)).alloc (.cells #[.bool false, .int .i64 0, .slice none 0 0] 76)) (w.heap.size + 1) [.bool false, .int .i64 0, .slice none 0 0] 76 := by
    have := Go.Deep.blk_alloc_new (w.alloc (.cells #[x0, x1, x2] 76)) (.cells #[.bool false, .int .i64 0, .slice none 0 0] 76)
    rwa [World.size_alloc] at this
  have g0 := Go.Deep.blk_alloc_new ((w.alloc (.cells #[x0, x1, x2] 76)).alloc (.cells #[.bool false, .int .i64 0, .slice none 0 0] 76)) (.cells #[.bool false, .int .i64 0, .slice none 0 0] 76)
  rw [World.size_alloc, World.size_alloc] at g0
  exact ⟨(by repeat (first | exact Below.refl _ _ | assumption | refine Below.alloc ?_ (by first | omega | (simp; omega) | simp) _ | refine Below.setCell ?_ (by first | omega | (simp; omega) | simp) _ | refine below_drewN' ?_ _ | refine Below.drew ?_)), (g3.alloc _).alloc _, g2.alloc _, g0, ⟨World.ownsRow_nil _ _ _ _, by simp, by simp⟩⟩
structure NegI (w wr : World) (sc : Bool) (n m : Int) (xv vv : Value) (zs : List (Value × El)) : Prop where
  bel : Below w.heap.size w wr
  xb : BAt wr w.heap.size [.bool sc, .int .i64 n, xv] 76
  rb : BAt wr (w.heap.size + 1) [.bool false, .int .i64 0, .slice none 0 0] 76
  vb : BAt wr (w.heap.size + 2) [.bool sc, .int .i64 m, vv] 76
  own : wr.ownsRow (w.heap.size + 3) 128 2 vv zs.length (flatE zs)
theorem NegI.below {w wr w' : World} {sc : Bool} {n m : Int} {xv vv : Value} {zs : List (Value × El)} (h : NegI w wr sc n m xv vv zs) (hb : Below wr.heap.size wr w') : NegI w w' sc n m xv vv zs :=
  ⟨h.bel.trans (hb.mono h.bel.size), h.xb.below hb, h.rb.below hb, h.vb.below hb, own_below h.own hb⟩
def ValV (w : World) (v : Value) : VV → Prop
  | .sc n => (∃ (ea : Option Addr) (ec : Nat), v = .agg #[.bool true, .int .i64 n, .slice ea 0 ec] ∧ ElsV w (.slice ea 0 ec) []) ∧ vOk n
  | .vec l => ∃ (ea : Option Addr) (ec : Nat) (zs : List (Value × El)), v = .agg #[.bool false, .int .i64 0, .slice ea zs.length ec] ∧ ElsV w (.slice ea zs.length ec) zs ∧ zs.map (·.2) = l
theorem ValV.below {w w' : World} {v : Value} : ∀ {V : VV}, ValV w v V → Below w.heap.size w w' → ValV w' v V
  | .sc _, ⟨⟨ea, ec, h1, h2⟩, h3⟩, hb => ⟨⟨ea, ec, h1, h2.below hb⟩, h3⟩
  | .vec _, ⟨ea, ec, zs, h1, h2, h3⟩, hb => ⟨ea, ec, zs, h1, h2.below hb, h3⟩
theorem ValV.other {w w' : World} {v : Value} {a : Nat} {c : List Value} (hq : BAt w a c 76) (hg : ∀ j, j ≠ a → w'.heap[j]? = w.heap[j]?) : ∀ {V : VV}, ValV w v V → ValV w' v V
  | .sc _, ⟨⟨ea, ec, h1, h2⟩, h3⟩ => ⟨⟨ea, ec, h1, h2.other hq hg⟩, h3⟩
  | .vec _, ⟨ea, ec, zs, h1, h2, h3⟩ => ⟨ea, ec, zs, h1, h2.other hq hg, h3⟩
theorem ValV.shape {w : World} {v : Value} {V : VV} (h : ValV w v V) : ∃ (bb : Bool) (nn : Int) (ea : Option Addr) (en ec : Nat), v = .agg #[.bool bb, .int .i64 nn, .slice ea en ec] ∧ en = (elems V).length := by
  cases V with
  | sc n =>
    obtain ⟨⟨ea, ec, rfl, _⟩, _⟩ := h
    exact ⟨true, n, ea, 0, ec, rfl, rfl⟩
  | vec l =>
    obtain ⟨ea, ec, zs, rfl, _, hl⟩ := h
    exact ⟨false, 0, ea, zs.length, ec, rfl, by rw [← List.length_map (f := fun z : Value × El => z.2), hl]; rfl⟩
theorem nw_len : ∀ l : List (List UInt8), l.length ≤ nw l
  | [] => Nat.le_refl _
  | c :: l => by have := nw_len l; simp only [nw, List.length_cons]; omega
theorem VOk.mono {m n : Nat} {V : VV} (h : VOk m V) (hmn : m ≤ n) : VOk n V := by
  cases V with
  | sc _ => trivial
  | vec l => exact ⟨h.1, Nat.le_trans h.2 hmn⟩
variable {x mb gb : Nat} {sv : Value} {ss : List Srs} {tm : Int}
theorem says_any (ht0 : -1000000 ≤ tm) (ht1 : tm ≤ 1000000) (hD : Dst (ss.map Srs.ser)) (hN : ss.length ≤ 30) : ∀ t : Tr, wfT t → wT t ≤ 100000 → winT t → isNil t = false → kindT t ≠ 0 → SayCG x mb gb sv ss tm t
  | .nil, _, _, _, h, _ => by cases h
  | .node p q a l r, hwf, hwt, hwin, _, hkd => by
    have hwt2 : ownW a + wT l + wT r ≤ 100000 := hwt
    have hwl := hwf.2.2.2.2.2.2.2.2.2.2.1
    have hwr := hwf.2.2.2.2.2.2.2.2.2.2.2
    have ihl : isNil l = false → kindT l ≠ 0 → SayCG x mb gb sv ss tm l := fun h hk => says_any ht0 ht1 hD hN l hwl (by omega) hwin.2.1 h hk
    have ihr : isNil r = false → kindT r ≠ 0 → SayCG x mb gb sv ss tm r := fun h hk => says_any ht0 ht1 hD hN r hwr (by omega) hwin.2.2 h hk
    have hk6 := hwf.1
    have hnl := hwf.2.2.2.2.2.2.1
    have hnr := hwf.2.2.2.2.2.2.2.1
    have vl : isNil l = false → kindT l = 2 → isVec (sayT (ss.map Srs.ser) tm l) = true := fun h hk => by rw [say_kind _ tm l hwl h (by omega), hk]; rfl
    have vr : isNil r = false → kindT r = 2 → isVec (sayT (ss.map Srs.ser) tm r) = true := fun h hk => by rw [say_kind _ tm r hwr h (by omega), hk]; rfl
    have kl := kindT_le l
    have kr := kindT_le r
    unfold kindT at hkd
    rcases (by omega : a.kind = 0 ∨ a.kind = 1 ∨ a.kind = 2 ∨ a.kind = 3 ∨ a.kind = 4 ∨ a.kind = 5 ∨ a.kind = 6) with h | h | h | h | h | h | h
    · exact says_num a l r p q h (by unfold vOk; have := hwf.2.2.2.2.1; have := hwf.2.2.2.2.2.1; omega)
    · exact says_sel a l r p q h hD ht0 ht1
    · exact says_win a l r p q h hwf.2.1 (hwin.1 h) hD ht0 ht1
    · rw [if_neg (by omega), if_neg (by omega), if_pos h] at hkd
      exact says_neg a l r p q h (ihl (hnl (by omega)) hkd)
    · rw [if_neg (by omega), if_neg (by omega), if_neg (by omega), if_neg (by omega)] at hkd
      by_cases hb : kindT l = 0 ∨ kindT r = 0 ∨ (a.kind = 6 ∧ kindT l + kindT r ≠ 4)
      · rw [if_pos hb] at hkd; exact absurd rfl hkd
      · refine says_arith a l r p q h (hwf.2.2.1 h) ((say_ok hD tm r).mono (by rw [List.length_map]; omega)) (ihl (hnl (by omega)) (fun e => hb (Or.inl e))) (ihr (hnr (by omega)) (fun e => hb (Or.inr (Or.inl e))))
    · rw [if_neg (by omega), if_neg (by omega), if_neg (by omega), if_pos h] at hkd
      by_cases hb : kindT l = 2
      · refine says_group a l r p q h (hwf.2.2.2.1 h) (by have := nw_len a.by_; unfold ownW at hwt2; omega) (vl (hnl (by omega)) hb) (ihl (hnl (by omega)) (by omega))
      · rw [if_neg hb] at hkd; exact absurd rfl hkd
    · rw [if_neg (by omega), if_neg (by omega), if_neg (by omega), if_neg (by omega)] at hkd
      by_cases hb : kindT l = 0 ∨ kindT r = 0 ∨ (a.kind = 6 ∧ kindT l + kindT r ≠ 4)
      · rw [if_pos hb] at hkd; exact absurd rfl hkd
      · have h4 : kindT l + kindT r = 4 := by
          refine Classical.byContradiction fun h' => hb (Or.inr (Or.inr ⟨h, h'⟩))
        exact says_or a l r p q h (vl (hnl (by omega)) (by omega)) (vr (hnr (by omega)) (by omega)) (ihl (hnl (by omega)) (by omega)) (ihr (hnr (by omega)) (by omega))
def TimP (w' : World) (f l s : Int) (ft : Addr) (tv ev : Value) : Prop := (timesV f l s = none ∧ tv = .slice none 0 0 ∧ ev = .iface 389 (.pointer (some ft))) ∨ (∃ ts, timesV f l s = some ts ∧ ts.length ≤ 50 ∧ (∀ t ∈ ts, -1000000 ≤ t ∧ t ≤ 1000000) ∧ ev = .nilIface ∧ w'.ownsRow 0 3 1 tv ts.length (ts.map (Value.int .i64)))
theorem madeInts (n : Nat) : (madeCells #[Value.int .i64 0] n).toList = List.replicate n (Value.int .i64 0) := by
  refine List.ext_getElem (by simp [madeCells]) (fun i h1 h2 => ?_)
  simp [madeCells, Nat.mod_one]
set_option maxRecDepth 100000 in
set_option maxHeartbeats 8000000 in
theorem ptimes_any (f l s : Int) (ft : Addr) (w : World) (hft : w.cell? ⟨7, 0, none⟩ = some (.iface 389 (.pointer (some ft)))) :
    Calls Tryz.prog 40 #[.agg #[.int .i64 f, .int .i64 l, .int .i64 s]] w fun e w' => ∃ tv ev, e = .returned (.tuple #[tv, ev]) ∧ Hid (TimP w' f l s ft tv ev) ∧ Below w.heap.size w w' := by
  obtain ⟨i0, hi, hz0, hz1, hz2⟩ := info_parts Tryz.infoInt3
  have hgl : 7 < w.heap.size := World.block_lt_of_cell? _ _ hft
  have hft1 : ∀ o, (w.alloc o).cell? ⟨7, 0, none⟩ = some (.iface 389 (.pointer (some ft))) := fun o => by rw [World.cell?_alloc_lt _ _ _ hgl]; exact hft
  by_cases hb : badT f l s
  · have HT : Hid (∀ w', TimP w' f l s ft (.slice none 0 0) (.iface 389 (.pointer (some ft)))) := hid (fun w' => Or.inl ⟨by unfold timesV; rw [if_pos hb], rfl, rfl⟩)
    by_cases c1 : (-1000000 ≤ f ∧ f ≤ 1000000)
    · obtain ⟨d1, d2⟩ := c1
      by_cases c2 : (-1000000 ≤ l ∧ l ≤ 1000000)
      · obtain ⟨d3, d4⟩ := c2
        by_cases c3 : l < f
        · clear hb
          go_enter Tryz.func40, Tryz.ntmps40
          go_wp2_with (go_at_call 84; refine (itime_any _ _).mono ?_; rintro e w' ⟨rfl, rfl⟩)
          go_region
          all_goals (try go_wp2)
          all_goals (go_ret2; exact ⟨_, _, rfl, hid (HT.out _), (by repeat (first | exact Below.refl _ _ | assumption | refine Below.alloc ?_ (by first | omega | (simp; omega) | simp) _ | refine Below.setCell ?_ (by first | omega | (simp; omega) | simp) _ | refine below_drewN' ?_ _ | refine Below.drew ?_))⟩)
        · by_cases c4 : s < 1
          · clear hb
            go_enter Tryz.func40, Tryz.ntmps40
            go_wp2_with (go_at_call 84; refine (itime_any _ _).mono ?_; rintro e w' ⟨rfl, rfl⟩)
            go_region
            all_goals (try go_wp2)
            all_goals (go_ret2; exact ⟨_, _, rfl, hid (HT.out _), (by repeat (first | exact Below.refl _ _ | assumption | refine Below.alloc ?_ (by first | omega | (simp; omega) | simp) _ | refine Below.setCell ?_ (by first | omega | (simp; omega) | simp) _ | refine below_drewN' ?_ _ | refine Below.drew ?_))⟩)
          · have c5 : 1000000 < s := by unfold badT at hb; omega
            clear hb
            go_enter Tryz.func40, Tryz.ntmps40
            go_wp2_with (go_at_call 84; refine (itime_any _ _).mono ?_; rintro e w' ⟨rfl, rfl⟩)
            go_region
            all_goals (try go_wp2)
            all_goals (go_ret2; exact ⟨_, _, rfl, hid (HT.out _), (by repeat (first | exact Below.refl _ _ | assumption | refine Below.alloc ?_ (by first | omega | (simp; omega) | simp) _ | refine Below.setCell ?_ (by first | omega | (simp; omega) | simp) _ | refine below_drewN' ?_ _ | refine Below.drew ?_))⟩)
      · have c3 : (decide (-1000000 ≤ l) && decide (l ≤ 1000000)) = false := by simp; omega
        clear hb c2
        go_enter Tryz.func40, Tryz.ntmps40
        go_wp2_with (go_at_call 84; refine (itime_any _ _).mono ?_; rintro e w' ⟨rfl, rfl⟩)
        go_region
        all_goals (try go_wp2)
        all_goals (go_ret2; exact ⟨_, _, rfl, hid (HT.out _), (by repeat (first | exact Below.refl _ _ | assumption | refine Below.alloc ?_ (by first | omega | (simp; omega) | simp) _ | refine Below.setCell ?_ (by first | omega | (simp; omega) | simp) _ | refine below_drewN' ?_ _ | refine Below.drew ?_))⟩)
    · have c3 : (decide (-1000000 ≤ f) && decide (f ≤ 1000000)) = false := by simp; omega
      clear hb c1
      go_enter Tryz.func40, Tryz.ntmps40
      go_wp2_with (go_at_call 84; refine (itime_any _ _).mono ?_; rintro e w' ⟨rfl, rfl⟩)
      go_region
      all_goals (try go_wp2)
      all_goals (go_ret2; exact ⟨_, _, rfl, hid (HT.out _), (by repeat (first | exact Below.refl _ _ | assumption | refine Below.alloc ?_ (by first | omega | (simp; omega) | simp) _ | refine Below.setCell ?_ (by first | omega | (simp; omega) | simp) _ | refine below_drewN' ?_ _ | refine Below.drew ?_))⟩)
  · have HG : Hid (timesV f l s = if 50 < cnt l s f then none else some ((List.range (cnt l s f)).map fun (i : Nat) => f + (i : Int) * s)) := hid (timesV_good hb)
    have hbd : -1000000 ≤ f ∧ f ≤ 1000000 ∧ -1000000 ≤ l ∧ l ≤ 1000000 ∧ 1 ≤ s ∧ s ≤ 1000000 ∧ f ≤ l := by unfold badT at hb; omega
    obtain ⟨d1, d2, d3, d4, d5, d6, d7⟩ := hbd
    clear hb
    obtain ⟨m, hm⟩ : ∃ m : Nat, (l - f).tdiv s = (m : Int) := ⟨((l - f).tdiv s).toNat, by have := Int.tdiv_nonneg (a := l - f) (b := s) (by omega) (by omega); omega⟩
    have hmc : cnt l s f = m + 1 := by
      unfold cnt
      rw [if_pos d7, ← Int.tdiv_eq_ediv_of_nonneg (by omega), hm]
      omega
    have hmb : m ≤ 2000000 := by
      have h1 : ((l - f).tdiv s).natAbs ≤ (l - f).natAbs := by rw [Int.natAbs_tdiv]; exact Nat.div_le_self _ _
      rw [hm] at h1
      omega
    rw [hmc] at HG
    have hs0 : (s == 0) = false := by rw [beq_eq_false_iff_ne]; omega
    have hs1 : s ≠ 0 := by omega
    clear hmc
    by_cases h50 : 50 < m + 1
    · have HT : Hid (∀ w', TimP w' f l s ft (.slice none 0 0) (.iface 389 (.pointer (some ft)))) := hid (fun w' => Or.inl ⟨by rw [HG.out, if_pos h50], rfl, rfl⟩)
      have h51 : (50 : Int) < (m : Int) + 1 := by omega
      go_enter Tryz.func40, Tryz.ntmps40
      go_wp2_with (go_at_call 84; refine (itime_any _ _).mono ?_; rintro e w' ⟨rfl, rfl⟩)
      go_region
      all_goals (try go_wp2)
      all_goals (go_ret2; exact ⟨_, _, rfl, hid (HT.out _), (by repeat (first | exact Below.refl _ _ | assumption | refine Below.alloc ?_ (by first | omega | (simp; omega) | simp) _ | refine Below.setCell ?_ (by first | omega | (simp; omega) | simp) _ | refine below_drewN' ?_ _ | refine Below.drew ?_))⟩)
    · have HT : Hid (timesV f l s = some ((List.range (m + 1)).map fun (i : Nat) => f + (i : Int) * s)) := hid (by rw [HG.out, if_neg h50])
      have h51 : (m : Int) + 1 ≤ 50 := by omega
      have HLT : Hid (∀ i, i < m + 1 → -1000000 ≤ f + (i : Int) * s ∧ f + (i : Int) * s ≤ 1000000) := hid (fun i hi' => by
        have h1 : (i : Int) * s ≤ (m : Int) * s := Int.mul_le_mul_of_nonneg_right (by omega) (by omega)
        have h2 : (m : Int) * s ≤ l - f := by
          rw [← hm, Int.tdiv_eq_ediv_of_nonneg (by omega)]
          exact Int.ediv_mul_le _ hs1
        have h3 : 0 ≤ (i : Int) * s := Int.mul_nonneg (by omega) (by omega)
        omega)
      go_enter Tryz.func40, Tryz.ntmps40
      go_wp2_with (first
        | (go_at_call 84; refine (itime_any _ _).mono ?_; rintro e w' ⟨rfl, rfl⟩)
        | (at_make; refine wpList_make_full _ rfl _ _ 38 rfl w.heap.size 3 i0 _ 1 Tryz.underlying38 hi hz0 hz1 _ _ _ _ (m + 1) rfl rfl ?e1 ?e2 ?b2 ?b3 ?b4 ?_))
      case e1 => rfl
      case e2 => rfl
      case b2 => rw [hz2]; omega
      case b3 => unfold maxLen; omega
      case b4 => simp
      rw [madeInts]
      intro w2 hown2 hgrow2
      have HBX : Hid (BAt w2 w.heap.size [.int .i64 f, .int .i64 l, .int .i64 s] 23) := hid ((hgrow2.block _ (by simp) (by simp)).trans (Go.Deep.blk_alloc_new _ _))
      have HB2 : Hid (Below w.heap.size w w2) := hid (((Below.refl _ _).alloc (Nat.le_refl _) _).grown hgrow2 (by simp) (fun q hq => by cases hq))
      clear hgrow2 hm hft1
      have hgl2 : w.heap.size + 1 < w2.heap.size := own_lt hown2
      go_wp2
      go_loopw [50] (fun i wr => ∃ k : Nat, k ≤ m + 1 ∧ i = .int .i64 k ∧ Hid (wr.ownsRow w.heap.size 3 1 (.slice (some ⟨w.heap.size + 1, 0, none⟩) (m + 1) (m + 1)) (m + 1) ((List.range k).map (fun (i : Nat) => Value.int .i64 (f + (i : Int) * s)) ++ List.replicate (m + 1 - k) (Value.int .i64 0))) ∧ Hid (BAt wr w.heap.size [.int .i64 f, .int .i64 l, .int .i64 s] 23) ∧ Hid (Below w.heap.size w wr))
        (fun i _ => m + 1 - (intOf i).toNat)
      case atStart => exact ⟨0, Nat.zero_le _, rfl, hid (by simpa using hown2), HBX, HB2⟩
      case round =>
        obtain ⟨k, hk, rfl, HOW, HX, HB⟩ := hrel
        by_cases hlt : k < m + 1
        · have x0 := HX.out.cell 0
          have x2 := HX.out.cell 2
          simp only [List.getElem?_cons_zero, List.getElem?_cons_succ] at x0 x2
          have hks := HLT.out k hlt
          have hk3 : 0 ≤ (k : Int) * s := Int.mul_nonneg (by omega) (by omega)
          have hkw : (Go.IntKind.i64).wrap ((k : Int) * s) = (k : Int) * s := by
            generalize (k : Int) * s = ks at *
            rw [IntKind.wrap_i64]; omega
          have hfw : (Go.IntKind.i64).wrap (f + (k : Int) * s) = f + (k : Int) * s := by
            generalize (k : Int) * s = ks at *
            rw [IntKind.wrap_i64]; omega
          have hcell : wr.cell? ⟨w.heap.size + 1, k, none⟩ = some (.int .i64 0) := own_cell HOW.out _ _ (by rw [List.getElem?_append_right (by simp), List.length_map, List.length_range, Nat.sub_self, List.getElem?_replicate, if_pos (by omega)])
          have hfz : wr.frozen? ⟨w.heap.size + 1, k, none⟩ = false := by
            rcases HOW.out.2 with ⟨h, _⟩ | ⟨g, cap, cur, h, _, hh, _⟩
            · cases h
            · injection h with h1
              injection h1 with h1
              injection h1 with h1
              subst h1
              simp [World.frozen?, hh]
          have hkz : (k : Int) < (m : Int) + 1 := by omega
          have HO2 : Hid ((wr.setCell ⟨w.heap.size + 1, k, none⟩ (.int .i64 (f + (k : Int) * s))).ownsRow w.heap.size 3 1 (.slice (some ⟨w.heap.size + 1, 0, none⟩) (m + 1) (m + 1)) (m + 1) ((List.range (k + 1)).map (fun (i : Nat) => Value.int .i64 (f + (i : Int) * s)) ++ List.replicate (m + 1 - (k + 1)) (Value.int .i64 0))) := hid (by
            have := own_setAt HOW.out k (.int .i64 (f + (k : Int) * s))
            rw [set_map_range (m + 1) k (fun (i : Nat) => Value.int .i64 (f + (i : Int) * s)) _ hlt] at this
            exact this)
          go_wp2
          go_roundw
          case rel => exact ⟨k + 1, by omega, by go_num, HO2, hid (HX.out.other (p := ⟨w.heap.size + 1, k, none⟩) (by show w.heap.size ≠ w.heap.size + 1; omega) _), hid (HB.out.setCell (p := ⟨w.heap.size + 1, k, none⟩) (by show w.heap.size ≤ w.heap.size + 1; omega) _)⟩
          case measure => simp [intOf]; omega
        · obtain rfl : k = m + 1 := by omega
          have HTP : Hid (TimP wr f l s ft (.slice (some ⟨w.heap.size + 1, 0, none⟩) (m + 1) (m + 1)) .nilIface) := hid (Or.inr ⟨_, HT.out, by simp; omega, fun t ht => by
            obtain ⟨i, hi', rfl⟩ := List.mem_map.1 ht
            exact HLT.out i (List.mem_range.1 hi'), rfl, by
            have h1 := HOW.out
            rw [Nat.sub_self, List.replicate_zero, List.append_nil] at h1
            rw [List.length_map, List.length_range, List.map_map]
            exact h1.mono (Nat.zero_le _)⟩)
          go_wp2
          go_ret2
          exact ⟨_, _, rfl, HTP, HB.out⟩
end Go.Proofs.YtpbemaaghbbocaaGreatDoor
