/- Parts. -/
import Derived.Test.YtpbemaaghbbocaaGreatDoorA02
import Derived.Deep.RegionWith
import Derived.Deep.DeepCutAuto
import Derived.Deep.Heap
namespace Go.Proofs.YtpbemaaghbbocaaGreatDoor
open Go.RowKit LS
structure QV where
  pv : Value
  s : ByteArray
  at_ : Nat
  k : Nat
  tx : ByteArray
  ta : Nat
  deep : Nat
  e : Nat
  pl : Nat
def QV.cells (q : QV) : Array Value := #[q.pv, .string q.s, .int .i64 q.at_, .int .i64 q.k, .string q.tx, .int .i64 q.ta, .int .i64 q.deep, .int .i64 q.e, .int .i64 q.pl]
def QAt (w : World) (b : Nat) (q : QV) : Prop := w.heap[b]? = some (.cells q.cells 115 (0, 0))
theorem QAt.lt {w : World} {b : Nat} {q : QV} (h : QAt w b q) : b < w.heap.size := (Array.getElem?_eq_some_iff.1 h).1
theorem QAt.frozen {w : World} {b : Nat} {q : QV} (h : QAt w b q) (o : Nat) : w.frozen? ⟨b, o, none⟩ = false := by
  unfold QAt at h; simp [World.frozen?, h]
theorem QAt.cell {w : World} {b : Nat} {q : QV} (h : QAt w b q) (o : Nat) (v : Value) (hv : q.cells[o]? = some v) : w.cell? ⟨b, o, none⟩ = some v := by
  unfold QAt at h; simp only [World.cell?, h]; simpa using hv
theorem QAt.all {w : World} {b : Nat} {q : QV} (h : QAt w b q) :
    w.cell? ⟨b, 0, none⟩ = some q.pv ∧ w.cell? ⟨b, 1, none⟩ = some (.string q.s) ∧ w.cell? ⟨b, 2, none⟩ = some (.int .i64 q.at_) ∧ w.cell? ⟨b, 3, none⟩ = some (.int .i64 q.k) ∧ w.cell? ⟨b, 4, none⟩ = some (.string q.tx) ∧
    w.cell? ⟨b, 5, none⟩ = some (.int .i64 q.ta) ∧ w.cell? ⟨b, 6, none⟩ = some (.int .i64 q.deep) ∧ w.cell? ⟨b, 7, none⟩ = some (.int .i64 q.e) ∧ w.cell? ⟨b, 8, none⟩ = some (.int .i64 q.pl) :=
  ⟨h.cell 0 _ rfl, h.cell 1 _ rfl, h.cell 2 _ rfl, h.cell 3 _ rfl, h.cell 4 _ rfl, h.cell 5 _ rfl, h.cell 6 _ rfl, h.cell 7 _ rfl, h.cell 8 _ rfl⟩
theorem QAt.set {w : World} {b : Nat} {q q' : QV} (h : QAt w b q) (o : Nat) (v : Value) (hq : q.cells.setIfInBounds o v = q'.cells) : QAt (w.setCell ⟨b, o, none⟩ v) b q' := by
  unfold QAt at h ⊢
  simp only [World.setCell, Array.getElem?_modify, h, if_true, Option.map_some]
  rw [← hq]; rfl
theorem QAt.other {w : World} {b : Nat} {q : QV} (h : QAt w b q) {a : Addr} (ha : b ≠ a.block) (v : Value) : QAt (w.setCell a v) b q := (Go.Deep.blk_setCell_other w a v b ha).trans h
theorem QAt.alloc {w : World} {b : Nat} {q : QV} (h : QAt w b q) (o : Obj) : QAt (w.alloc o) b q := (Go.Deep.blk_alloc_lt w o b h.lt).trans h
theorem QAt.below {w w' : World} {b : Nat} {q : QV} (h : QAt w b q) (hb : Below w.heap.size w w') : QAt w' b q := (hb.block b h.lt).trans h
theorem grown_of_below {w w' : World} {r : Option Nat} (h : Below w.heap.size w w') : w.grownBy w' r := ⟨h.os, h.tape, h.output, h.size, fun k hk _ => h.block k hk⟩
theorem grown_refl (w : World) (r : Option Nat) : w.grownBy w r := ⟨rfl, rfl, rfl, Nat.le_refl _, fun _ _ _ => rfl⟩
theorem grown_trans {a b c : World} {r : Option Nat} (h : a.grownBy b r) (h' : b.grownBy c r) : a.grownBy c r :=
  ⟨h'.os.trans h.os, h'.tape.trans h.tape, h'.output.trans h.output, Nat.le_trans h.size h'.size, fun k hk hn => (h'.block k (Nat.lt_of_lt_of_le hk h.size) hn).trans (h.block k hk hn)⟩
theorem grown_set {a w : World} {b : Nat} (h : a.grownBy w (some b)) {p : Addr} (hp : p.block = b ∨ a.heap.size ≤ p.block) (v : Value) : a.grownBy (w.setCell p v) (some b) :=
  ⟨h.os, h.tape, h.output, by rw [Go.Deep.nblk_setCell]; exact h.size, fun k hk hn => (Go.Deep.blk_setCell_other w p v k (by rintro rfl; rcases hp with hp | hp; exact hn (by rw [hp]); omega)).trans (h.block k hk hn)⟩
theorem grown_alloc {a w : World} {r : Option Nat} (h : a.grownBy w r) (o : Obj) : a.grownBy (w.alloc o) r :=
  ⟨h.os, h.tape, h.output, by rw [Go.Deep.nblk_alloc]; have := h.size; omega, fun k hk hn => (Go.Deep.blk_alloc_lt w o k (Nat.lt_of_lt_of_le hk h.size)).trans (h.block k hk hn)⟩
theorem grown_drew {a w : World} {r : Option Nat} (h : a.grownBy w r) : a.grownBy w.drew r := ⟨h.os, h.tape, h.output, h.size, h.block⟩
theorem grown_below {a b c : World} {r : Option Nat} (h : a.grownBy b r) (h' : Below b.heap.size b c) : a.grownBy c r := grown_trans h (grown_of_below h')
theorem box3_of {w W w1 : World} {x y z : Value} {t : TypeId} (hb : Below W.heap.size W w1) (hW : W.heap = (w.alloc (.cells #[x, y, z] t)).heap) :
    w1.cell? ⟨w.heap.size, 0, none⟩ = some x ∧ w1.cell? ⟨w.heap.size, 1, none⟩ = some y ∧ w1.cell? ⟨w.heap.size, 2, none⟩ = some z ∧
    w1.frozen? ⟨w.heap.size, 0, none⟩ = false ∧ w1.frozen? ⟨w.heap.size, 1, none⟩ = false ∧ w1.frozen? ⟨w.heap.size, 2, none⟩ = false := by
  have hz : W.heap.size = w.heap.size + 1 := by rw [hW]; exact Go.Deep.nblk_alloc _ _
  have h : w1.heap[w.heap.size]? = some (.cells #[x, y, z] t) := by
    rw [hb.block _ (by omega), hW]; exact Go.Deep.blk_alloc_new _ _
  refine ⟨?_, ?_, ?_, ?_, ?_, ?_⟩ <;> simp [World.cell?, World.frozen?, h]
theorem cell_set_ne {W : World} {x o p : Nat} {a : Value} {r : Option Value} (h : W.cell? ⟨x, o, none⟩ = r) (hop : p ≠ o) : (W.setCell ⟨x, p, none⟩ a).cell? ⟨x, o, none⟩ = r :=
  (World.cell?_setCell_other _ _ _ _ (by intro e; injection e with _ e2; exact hop e2)).trans h
theorem set3_cells {W : World} {x : Nat} {u v y a b c : Value} (k0 : W.cell? ⟨x, 0, none⟩ = some u) (k1 : W.cell? ⟨x, 1, none⟩ = some v) (k2 : W.cell? ⟨x, 2, none⟩ = some y) :
    (((W.setCell ⟨x, 0, none⟩ a).setCell ⟨x, 1, none⟩ b).setCell ⟨x, 2, none⟩ c).cell? ⟨x, 0, none⟩ = some a ∧ (((W.setCell ⟨x, 0, none⟩ a).setCell ⟨x, 1, none⟩ b).setCell ⟨x, 2, none⟩ c).cell? ⟨x, 1, none⟩ = some b ∧
    (((W.setCell ⟨x, 0, none⟩ a).setCell ⟨x, 1, none⟩ b).setCell ⟨x, 2, none⟩ c).cell? ⟨x, 2, none⟩ = some c :=
  ⟨cell_set_ne (cell_set_ne (World.cell?_setCell_same _ _ _ k0) (by decide)) (by decide), cell_set_ne (World.cell?_setCell_same _ _ _ (cell_set_ne k1 (by decide))) (by decide), World.cell?_setCell_same _ _ _ (cell_set_ne (cell_set_ne k2 (by decide)) (by decide))⟩
set_option maxHeartbeats 1000000 in
theorem qfail_ok (w : World) (b : Nat) (q : QV) (e : Nat) (h : QAt w b q) (he : q.e = 0) :
    Calls Tryz.prog 48 #[.pointer (some ⟨b, 0, none⟩), .int .i64 e] w fun r w' => r = .returned (.tuple #[]) ∧ QAt w' b { q with e := e, pl := q.ta } ∧ w.grownBy w' (some b) := by
  obtain ⟨c0, c1, c2, c3, c4, c5, c6, c7, c8⟩ := h.all
  have f7 := h.frozen 7
  have f8 := h.frozen 8
  have hb : ((q.e : Int) == 0) = true := by rw [he]; rfl
  have HQ : Hid (QAt w b q) := h
  clear h he
  go_enter Tryz.func48, Tryz.ntmps48
  go_wp2
  go_end0
  exact ⟨rfl, QAt.set (QAt.set (q' := { q with e := e }) HQ.out 7 _ rfl) 8 _ rfl, (by repeat (first | exact grown_refl _ _ | assumption | refine grown_set ?_ (by first | exact Or.inl rfl | (right; omega) | (right; simp; omega)) _ | refine grown_alloc ?_ _ | refine grown_drew ?_))⟩
set_option maxHeartbeats 1000000 in
theorem qfail_err (w : World) (b : Nat) (q : QV) (e : Int) (h : QAt w b q) (he : q.e ≠ 0) :
    Calls Tryz.prog 48 #[.pointer (some ⟨b, 0, none⟩), .int .i64 e] w fun r w' => r = .returned (.tuple #[]) ∧ w' = w := by
  obtain ⟨c0, c1, c2, c3, c4, c5, c6, c7, c8⟩ := h.all
  have hb : ((q.e : Int) == 0) = false := by rw [beq_eq_false_iff_ne]; omega
  have HQ : Hid (QAt w b q) := h
  clear h he
  go_enter Tryz.func48, Tryz.ntmps48
  go_wp2
  go_end0
  exact ⟨rfl, rfl⟩
set_option maxHeartbeats 1000000 in
theorem qis_err (w : World) (b : Nat) (q : QV) (s : ByteArray) (h : QAt w b q) (he : q.e ≠ 0) :
    Calls Tryz.prog 94 #[.pointer (some ⟨b, 0, none⟩), .string s] w fun r w' => r = .returned (.bool false) ∧ w' = w := by
  obtain ⟨c0, c1, c2, c3, c4, c5, c6, c7, c8⟩ := h.all
  have hb : ((q.e : Int) == 0) = false := by rw [beq_eq_false_iff_ne]; omega
  have HQ : Hid (QAt w b q) := h
  clear h he
  go_enter Tryz.func94, Tryz.ntmps94
  go_wp2
  go_ret
  exact ⟨rfl, rfl⟩
def tokOf (q : QV) : Tok := ⟨q.k, bl q.tx, q.ta⟩
theorem isT_of (s : ByteArray) (q : QV) : isT (bl s) (tokOf q) = ((((q.k : Int) == 2) || ((q.k : Int) == 4)) && (q.tx.toList == s.toList)) := by
  unfold isT tokOf
  rw [toList_bl, toList_bl]
  have e2 : ((q.k : Int) == 2) = (q.k == 2) := by rw [Bool.eq_iff_iff, beq_iff_eq, beq_iff_eq]; omega
  have e4 : ((q.k : Int) == 4) = (q.k == 4) := by rw [Bool.eq_iff_iff, beq_iff_eq, beq_iff_eq]; omega
  rw [e2, e4]
set_option maxHeartbeats 1000000 in
theorem qis_ok (w : World) (b : Nat) (q : QV) (s : ByteArray) (h : QAt w b q) (he : q.e = 0) :
    Calls Tryz.prog 94 #[.pointer (some ⟨b, 0, none⟩), .string s] w fun r w' => r = .returned (.bool (isT (bl s) (tokOf q))) ∧ w' = w := by
  obtain ⟨c0, c1, c2, c3, c4, c5, c6, c7, c8⟩ := h.all
  have hb : ((q.e : Int) == 0) = true := by rw [he]; rfl
  have HQ : Hid (QAt w b q) := h
  clear h he
  rw [isT_of]
  generalize hx2 : ((q.k : Int) == 2) = x2
  generalize hx4 : ((q.k : Int) == 4) = x4
  generalize hxs : (q.tx.toList == s.toList) = xs
  go_enter Tryz.func94, Tryz.ntmps94
  cases x2 <;> cases x4 <;> cases xs <;> (go_wp2; go_ret; exact ⟨rfl, rfl⟩)
set_option maxRecDepth 100000 in
set_option maxHeartbeats 4000000 in
theorem qnext_any (w : World) (b : Nat) (q : QV) (h : QAt w b q) (hs : q.s.size ≤ 6000) (hi : q.at_ ≤ q.s.size) :
    Calls Tryz.prog 46 #[.pointer (some ⟨b, 0, none⟩)] w fun r w' => r = .returned (.tuple #[]) ∧ (∃ ts : ByteArray, bl ts = (lexAt (bl q.s) q.at_).1.txt ∧
      QAt w' b { q with at_ := (lexAt (bl q.s) q.at_).2, k := (lexAt (bl q.s) q.at_).1.kind, tx := ts, ta := (lexAt (bl q.s) q.at_).1.at_ }) ∧ w.grownBy w' (some b) := by
  obtain ⟨c0, c1, c2, c3, c4, c5, c6, c7, c8⟩ := h.all
  have hlt := h.lt
  have HQ : Hid (QAt w b q) := h
  clear h
  generalize hr : lexAt (bl q.s) q.at_ = r
  have HR : Hid _ := hr
  clear hr
  go_enter Tryz.func46, Tryz.ntmps46
  go_upto_region 0 with fail
  go_cut [2, 3] (fun s2 s3 wx => ∃ (x : Nat) (ts : ByteArray), s2 = .pointer (some ⟨x, 0, none⟩) ∧ s3 = .int .i64 r.2 ∧ Hid (bl ts = r.1.txt) ∧ b ≠ x ∧ Hid (QAt wx b q) ∧ Hid (w.grownBy wx (some b)) ∧
    wx.cell? ⟨x, 0, none⟩ = some (.int .i64 r.1.kind) ∧ wx.cell? ⟨x, 1, none⟩ = some (.string ts) ∧ wx.cell? ⟨x, 2, none⟩ = some (.int .i64 r.1.at_))
  case first =>
    go_region_with (go_at_call 92; refine (lex_any _ _ _ hs hi).mono ?_; rintro e w1 ⟨⟨ts, hts⟩, hb1⟩; rw [HR.out] at hts; obtain ⟨rfl, htx⟩ := hts; try (have hbx := box3_of (w := w) (x := .int .i64 0) (y := .string ⟨#[]⟩) (z := .int .i64 0) (t := 113) hb1 rfl; obtain ⟨k0, k1, k2, g0, g1, g2⟩ := hbx))
    all_goals
      have hq1 : QAt w1 b q := by first | exact QAt.below (w := w.drew) HQ.out hb1 | exact QAt.below (w := (w.alloc _).drew) (QAt.alloc HQ.out _) hb1
      have hg1 : w.grownBy w1 (some b) := by first | exact grown_below (b := w.drew) (grown_drew (grown_refl _ _)) hb1 | exact grown_below (b := (w.alloc _).drew) (grown_drew (grown_alloc (grown_refl _ _) _)) hb1
      have hsz : w.heap.size ≤ w1.heap.size := hg1.size
      have hne : b ≠ w.heap.size := by omega
      have hne1 : b ≠ w1.heap.size := by omega
      clear c0 c1 c2 c3 c4 c5 c6 c7 c8 hb1
      go_wp2_with fail
      go_meet
      first
        | exact ⟨w1.heap.size, ts, rfl, rfl, htx, hne1, QAt.alloc hq1 _, grown_alloc hg1 _, by simp, by simp, by simp⟩
        | exact ⟨w.heap.size, ts, rfl, rfl, htx, hne, QAt.other (QAt.other (QAt.other hq1 hne _) hne _) hne _, grown_set (grown_set (grown_set hg1 (Or.inr (Nat.le_refl _)) _) (Or.inr (Nat.le_refl _)) _) (Or.inr (Nat.le_refl _)) _, set3_cells k0 k1 k2⟩
  case rest =>
    obtain ⟨x, ts, rfl, rfl, HT, hbx, HQ1, HG, k0, k1, k2⟩ := hcut
    clear c0 c1 c2 c3 c4 c5 c6 c7 c8
    obtain ⟨c0, c1, c2, c3, c4, c5, c6, c7, c8⟩ := QAt.all HQ1.out
    have f2 := QAt.frozen HQ1.out 2
    have f3 := QAt.frozen HQ1.out 3
    have f4 := QAt.frozen HQ1.out 4
    have f5 := QAt.frozen HQ1.out 5
    go_wp2
    go_end0
    have hq := HQ1.out
    have hg := HG.out
    refine ⟨rfl, ⟨ts, HT.out, ?_⟩, (by repeat (first | exact grown_refl _ _ | assumption | refine grown_set ?_ (by first | exact Or.inl rfl | (right; omega) | (right; simp; omega)) _ | refine grown_alloc ?_ _ | refine grown_drew ?_))⟩
    refine QAt.set (q := { q with k := r.1.kind, tx := ts, ta := r.1.at_ }) ?_ 2 _ rfl
    refine QAt.set (q := { q with k := r.1.kind, tx := ts }) ?_ 5 _ rfl
    refine QAt.set (q := { q with k := r.1.kind }) ?_ 4 _ rfl
    refine QAt.set (q := q) ?_ 3 _ rfl
    exact hq
end Go.Proofs.YtpbemaaghbbocaaGreatDoor
namespace Go.Proofs.YtpbemaaghbbocaaGreatDoor.LS
open Go Go.RowKit
theorem lexC_gt (l : List UInt8) (j : Nat) (c : UInt8) (r : List UInt8) (hl : l.drop j = c :: r) : j < (lexC l j c r).2 ∧ (lexC l j c r).2 ≤ l.length := by
  have hlen : l.length = j + (r.length + 1) := by
    have := congrArg List.length hl; simp at this
    have h2 : j ≤ l.length := by
      rcases Nat.lt_or_ge l.length j with h | h
      · rw [List.drop_of_length_le (by omega)] at hl; cases hl
      · exact h
    omega
  unfold lexC
  split
  · rename_i hd
    have h1 := run_le digit (c :: r)
    have h2 : 0 < run digit (c :: r) := by simp [run, hd]
    simp only [List.length_cons] at h1
    exact ⟨by show j < j + _; omega, by show j + _ ≤ _; omega⟩
  · split
    · rename_i hd
      have h1 := run_le letter (c :: r)
      have h2 : 0 < run letter (c :: r) := by simp [run, hd]
      simp only [List.length_cons] at h1
      exact ⟨by show j < j + _; omega, by show j + _ ≤ _; omega⟩
    · split
      · split
        · exact ⟨by show j < l.length; omega, Nat.le_refl _⟩
        · rename_i p hs
          have := seek_lt hs
          exact ⟨by show j < j + p + 2; omega, by show j + p + 2 ≤ _; omega⟩
      · split
        · rename_i hc
          have : 0 < r.length := by
            cases r with
            | nil => simp at hc
            | cons a r => simp
          exact ⟨by show j < j + 2; omega, by show j + 2 ≤ _; omega⟩
        · split <;> exact ⟨by show j < j + 1; omega, by show j + 1 ≤ _; omega⟩
theorem lexAt_gt (l : List UInt8) (i : Nat) (hi : i ≤ l.length) : ((lexAt l i).1.kind ≠ 0 → i < (lexAt l i).2) ∧ (lexAt l i).2 ≤ l.length := by
  unfold lexAt
  have hr := run_le (· == 32) (l.drop i)
  rw [List.length_drop] at hr
  generalize run (· == 32) (l.drop i) = n at *
  unfold lexJ
  cases hd : l.drop (i + n) with
  | nil => exact ⟨fun h => absurd rfl h, by show i + n ≤ _; omega⟩
  | cons c r => have := lexC_gt l (i + n) c r hd; exact ⟨fun _ => by show i < (lexC l (i + n) c r).2; omega, this.2⟩
theorem lexAt_txt (l : List UInt8) (i : Nat) : (lexAt l i).1.txt.length ≤ l.length + 2 := by
  unfold lexAt lexJ
  split
  · simp
  · rename_i c r hd
    have hl : r.length + 1 ≤ l.length := by
      have := congrArg List.length hd
      rw [List.length_drop, List.length_cons] at this
      omega
    unfold lexC
    split
    · split
      · simp only [List.length_take, List.length_cons]; omega
      · simp
    · split
      · split
        · simp
        · simp only [List.length_take, List.length_cons]; omega
      · split
        · split
          · simp
          · split
            · simp only [List.length_take]; omega
            · simp
        · split
          · simp
          · split <;> simp
theorem lexAt_num (l : List UInt8) (i : Nat) : (lexAt l i).1.kind = 1 → (number 1000000000 (lexAt l i).1.txt).isSome = true := by
  unfold lexAt lexJ
  split
  · intro h; cases h
  · rename_i c r hd
    unfold lexC
    split
    · split
      · rename_i h; intro _; exact h
      · intro h; cases h
    · split
      · split
        · intro h; cases h
        · intro h; cases h
      · split
        · split
          · intro h; cases h
          · split
            · intro h; cases h
            · intro h; cases h
        · split
          · intro h; cases h
          · split
            · intro h; cases h
            · intro h; cases h
def Toks (l : List UInt8) (t : Tok) (at_ : Nat) (ts : List Tok) : Prop := ∃ r, ts = t :: r ∧ ((t.kind = 0 ∨ t.kind = 5) → r = []) ∧ (¬ (t.kind = 0 ∨ t.kind = 5) → ∃ n, l.length + 1 ≤ n + at_ ∧ r = lexAll l n at_) ∧ t.txt.length ≤ l.length + 2 ∧ (t.kind = 1 → (number 1000000000 t.txt).isSome = true)
theorem Toks.hd {l : List UInt8} {t : Tok} {at_ : Nat} {ts : List Tok} (h : Toks l t at_ ts) : LS.hd ts = t := by obtain ⟨r, rfl, _⟩ := h; rfl
theorem Toks.pos {l : List UInt8} {t : Tok} {at_ : Nat} {ts : List Tok} (h : Toks l t at_ ts) : ts.length = ts.tail.length + 1 := by obtain ⟨r, rfl, _⟩ := h; rfl
theorem Toks.next {l : List UInt8} {t : Tok} {at_ : Nat} {ts : List Tok} (h : Toks l t at_ ts) (ht : ¬ (t.kind = 0 ∨ t.kind = 5)) (ha : at_ ≤ l.length) : Toks l (lexAt l at_).1 (lexAt l at_).2 ts.tail := by
  obtain ⟨r, rfl, _, h, _⟩ := h
  obtain ⟨n, hn, rfl⟩ := h ht
  obtain ⟨m, rfl⟩ : ∃ m, n = m + 1 := ⟨n - 1, by omega⟩
  have hg := lexAt_gt l at_ ha
  show Toks _ _ _ (lexAll l (m + 1) at_)
  unfold lexAll
  by_cases hk : (lexAt l at_).1.kind = 0 ∨ (lexAt l at_).1.kind = 5
  · rw [if_pos hk]
    exact ⟨[], rfl, fun _ => rfl, fun h => absurd hk h, lexAt_txt _ _, lexAt_num _ _⟩
  · rw [if_neg hk]
    refine ⟨_, rfl, fun h => absurd h hk, fun _ => ⟨m, ?_, rfl⟩, lexAt_txt _ _, lexAt_num _ _⟩
    have := hg.1 (fun h => hk (Or.inl h)); omega
theorem Toks.start (l : List UInt8) : Toks l (lexAt l 0).1 (lexAt l 0).2 (lexAll l (l.length + 1) 0) := by
  have hg := lexAt_gt l 0 (Nat.zero_le _)
  show Toks _ _ _ (lexAll l (l.length + 1) 0)
  unfold lexAll
  by_cases hk : (lexAt l 0).1.kind = 0 ∨ (lexAt l 0).1.kind = 5
  · rw [if_pos hk]
    exact ⟨[], rfl, fun _ => rfl, fun h => absurd hk h, lexAt_txt _ _, lexAt_num _ _⟩
  · rw [if_neg hk]
    refine ⟨_, rfl, fun h => absurd h hk, fun _ => ⟨l.length, ?_, rfl⟩, lexAt_txt _ _, lexAt_num _ _⟩
    have := hg.1 (fun h => hk (Or.inl h)); omega
theorem lexAll_len (l : List UInt8) (n i : Nat) (hi : i ≤ l.length) : (lexAll l n i).length ≤ l.length + 1 - i := by
  induction n generalizing i with
  | zero => exact Nat.zero_le _
  | succ n ih =>
    unfold lexAll
    have hg := lexAt_gt l i hi
    split
    · simp; omega
    · rename_i hk
      have h1 := hg.1 (fun h => hk (Or.inl h))
      have h2 := ih (lexAt l i).2 hg.2
      simp; omega
theorem Toks.len {l : List UInt8} {t : Tok} {at_ : Nat} {ts : List Tok} (h : Toks l t at_ ts) (ha : at_ ≤ l.length) : ts.length ≤ l.length + 2 := by
  obtain ⟨r, rfl, h1, h2, _⟩ := h
  by_cases hk : t.kind = 0 ∨ t.kind = 5
  · rw [h1 hk]; simp
  · obtain ⟨n, _, rfl⟩ := h2 hk
    have := lexAll_len l n at_ ha
    simp; omega
theorem Toks.txt_le {l : List UInt8} {t : Tok} {at_ : Nat} {ts : List Tok} (h : Toks l t at_ ts) : t.txt.length ≤ l.length + 2 := by
  obtain ⟨_, _, _, _, h, _⟩ := h; exact h
theorem Toks.num {l : List UInt8} {t : Tok} {at_ : Nat} {ts : List Tok} (h : Toks l t at_ ts) : t.kind = 1 → (number 1000000000 t.txt).isSome = true := by
  obtain ⟨_, _, _, _, _, h⟩ := h; exact h
theorem isT_live {s : List UInt8} {t : Tok} (h : isT s t = true) : ¬ (t.kind = 0 ∨ t.kind = 5) := by
  unfold isT at h
  simp only [Bool.and_eq_true, Bool.or_eq_true, beq_iff_eq] at h
  omega
end Go.Proofs.YtpbemaaghbbocaaGreatDoor.LS
namespace Go.Proofs.YtpbemaaghbbocaaGreatDoor
open Go.RowKit LS
def QIs (w : World) (b : Nat) (pv : Value) (s : ByteArray) (ts : List Tok) (deep : Nat) : Prop := ∃ q : QV, QAt w b q ∧ q.pv = pv ∧ q.s = s ∧ q.deep = deep ∧ q.e = 0 ∧ q.at_ ≤ s.size ∧ Toks (bl s) (tokOf q) q.at_ ts
def QErr (w : World) (b : Nat) (pv : Value) (e p : Nat) (deep : Nat) : Prop := ∃ q : QV, QAt w b q ∧ q.pv = pv ∧ q.deep = deep ∧ q.e = e ∧ e ≠ 0 ∧ q.pl = p
def QRes {α : Type} (w : World) (b : Nat) (pv : Value) (s : ByteArray) (deep : Nat) (r : Out α) (good : α → Prop) : Prop := match r with
  | .error x => QErr w b pv x.1 x.2 deep
  | .ok x => QIs w b pv s x.2 deep ∧ good x.1
theorem QIs.kept {w w' : World} {b : Nat} {pv : Value} {s : ByteArray} {ts : List Tok} {deep : Nat} (h : QIs w b pv s ts deep) (hw : w'.heap[b]? = w.heap[b]?) : QIs w' b pv s ts deep := by
  obtain ⟨q, h1, h2⟩ := h; exact ⟨q, hw.trans h1, h2⟩
theorem QErr.kept {w w' : World} {b : Nat} {pv : Value} {e p deep : Nat} (h : QErr w b pv e p deep) (hw : w'.heap[b]? = w.heap[b]?) : QErr w' b pv e p deep := by
  obtain ⟨q, h1, h2⟩ := h; exact ⟨q, hw.trans h1, h2⟩
theorem QIs.lt {w : World} {b : Nat} {pv : Value} {s : ByteArray} {ts : List Tok} {deep : Nat} (h : QIs w b pv s ts deep) : b < w.heap.size := by obtain ⟨q, h1, _⟩ := h; exact h1.lt
theorem QErr.lt {w : World} {b : Nat} {pv : Value} {e p deep : Nat} (h : QErr w b pv e p deep) : b < w.heap.size := by obtain ⟨q, h1, _⟩ := h; exact h1.lt
theorem QIs.is {w : World} {b : Nat} {pv : Value} {s : ByteArray} {ts : List Tok} {deep : Nat} (h : QIs w b pv s ts deep) (c : ByteArray) :
    Calls Tryz.prog 94 #[.pointer (some ⟨b, 0, none⟩), .string c] w fun r w' => r = .returned (.bool (isT (bl c) (hd ts))) ∧ w' = w := by
  obtain ⟨q, h1, _, _, _, h5, _, h7⟩ := h
  rw [h7.hd]; exact qis_ok w b q c h1 h5
theorem QErr.is {w : World} {b : Nat} {pv : Value} {e p deep : Nat} (h : QErr w b pv e p deep) (c : ByteArray) :
    Calls Tryz.prog 94 #[.pointer (some ⟨b, 0, none⟩), .string c] w fun r w' => r = .returned (.bool false) ∧ w' = w := by
  obtain ⟨q, h1, _, _, h4, h5, _⟩ := h
  exact qis_err w b q c h1 (by rw [h4]; exact h5)
theorem QErr.fail {w : World} {b : Nat} {pv : Value} {e p deep : Nat} (h : QErr w b pv e p deep) (c : Int) :
    Calls Tryz.prog 48 #[.pointer (some ⟨b, 0, none⟩), .int .i64 c] w fun r w' => r = .returned (.tuple #[]) ∧ w' = w := by
  obtain ⟨q, h1, _, _, h4, h5, _⟩ := h
  exact qfail_err w b q c h1 (by rw [h4]; exact h5)
theorem QIs.fail {w : World} {b : Nat} {pv : Value} {s : ByteArray} {ts : List Tok} {deep : Nat} (h : QIs w b pv s ts deep) (c : Nat) (ci : Int) (hci : ci = c) (hc : c ≠ 0) :
    Calls Tryz.prog 48 #[.pointer (some ⟨b, 0, none⟩), .int .i64 ci] w fun r w' => r = .returned (.tuple #[]) ∧ QErr w' b pv c (hd ts).at_ deep ∧ w.grownBy w' (some b) := by
  subst hci
  obtain ⟨q, h1, h2, h3, h4, h5, h6, h7⟩ := h
  rw [h7.hd]
  refine (qfail_ok w b q c h1 h5).mono ?_
  rintro r w' ⟨rfl, hq, hg⟩
  exact ⟨rfl, ⟨_, hq, h2, h4, rfl, hc, rfl⟩, hg⟩
theorem QIs.next {w : World} {b : Nat} {pv : Value} {s : ByteArray} {ts : List Tok} {deep : Nat} (h : QIs w b pv s ts deep) (hs : s.size ≤ 6000) (hl : ¬ ((hd ts).kind = 0 ∨ (hd ts).kind = 5)) :
    Calls Tryz.prog 46 #[.pointer (some ⟨b, 0, none⟩)] w fun r w' => r = .returned (.tuple #[]) ∧ QIs w' b pv s ts.tail deep ∧ w.grownBy w' (some b) := by
  obtain ⟨q, h1, h2, rfl, h4, h5, h6, h7⟩ := h
  rw [h7.hd] at hl
  refine (qnext_any w b q h1 hs h6).mono ?_
  rintro r w' ⟨rfl, ⟨tx, htx, hq⟩, hg⟩
  have h8 := h7.next hl (by rw [bl_length]; exact h6)
  refine ⟨rfl, ⟨_, hq, h2, rfl, h4, h5, ?_, ?_⟩, hg⟩
  · have := (lexAt_gt (bl q.s) q.at_ (by rw [bl_length]; exact h6)).2; rw [bl_length] at this; exact this
  · have e : tokOf { q with at_ := (lexAt (bl q.s) q.at_).2, k := (lexAt (bl q.s) q.at_).1.kind, tx := tx, ta := (lexAt (bl q.s) q.at_).1.at_ } = (lexAt (bl q.s) q.at_).1 := by
      show (⟨_, bl tx, _⟩ : Tok) = _; rw [htx]
    rw [e]; exact h8
set_option maxHeartbeats 1000000 in
theorem QErr.take {w : World} {b : Nat} {pv : Value} {e p deep : Nat} (h : QErr w b pv e p deep) (c : ByteArray) :
    Calls Tryz.prog 236 #[.pointer (some ⟨b, 0, none⟩), .string c] w fun r w' => r = .returned (.tuple #[]) ∧ w' = w := by
  have H : Hid (QErr w b pv e p deep) := h
  clear h
  go_enter Tryz.func236, Tryz.ntmps236
  go_wp2_with fail
  refine (QErr.is H.out c).mono ?_
  rintro r w' ⟨rfl, rfl⟩
  go_wp2_with fail
  refine (QErr.fail H.out _).mono ?_
  rintro r w' ⟨rfl, rfl⟩
  go_wp2
  first | go_end0 | refine bodyPost_ret (results_none rfl _ _ _) rfl ?_
  exact ⟨rfl, rfl⟩
set_option maxHeartbeats 1000000 in
theorem QIs.take {w : World} {b : Nat} {pv : Value} {s : ByteArray} {ts : List Tok} {deep : Nat} (h : QIs w b pv s ts deep) (hs : s.size ≤ 6000) (c : ByteArray) :
    Calls Tryz.prog 236 #[.pointer (some ⟨b, 0, none⟩), .string c] w fun r w' => r = .returned (.tuple #[]) ∧ QRes w' b pv s deep (takeP (bl c) ts) (fun _ => True) ∧ w.grownBy w' (some b) := by
  have H : Hid (QIs w b pv s ts deep) := h
  clear h
  cases hc : isT (bl c) (hd ts)
  · have HR : Hid (takeP (bl c) ts = .error (2, (hd ts).at_)) := hid (by unfold takeP; rw [hc]; rfl)
    have HC : Hid _ := hc
    clear hc
    go_enter Tryz.func236, Tryz.ntmps236
    go_wp2_with fail
    refine (QIs.is H.out c).mono ?_
    rw [HC.out]
    rintro r w' ⟨rfl, rfl⟩
    go_wp2_with fail
    refine (QIs.fail H.out 2 _ rfl (by decide)).mono ?_
    rintro r w' ⟨rfl, hq, hg⟩
    have HQ : Hid _ := hq
    have HG : Hid _ := hg
    clear hq hg
    go_wp2
    first | go_end0 | refine bodyPost_ret (results_none rfl _ _ _) rfl ?_
    rw [HR.out]
    exact ⟨rfl, HQ.out, HG.out⟩
  · have HR : Hid (takeP (bl c) ts = .ok ((), ts.tail)) := hid (by unfold takeP; rw [hc]; rfl)
    have HC : Hid _ := hc
    clear hc
    go_enter Tryz.func236, Tryz.ntmps236
    go_wp2_with fail
    refine (QIs.is H.out c).mono ?_
    rw [HC.out]
    rintro r w' ⟨rfl, rfl⟩
    go_wp2_with fail
    refine (QIs.next H.out hs (isT_live HC.out)).mono ?_
    rintro r w' ⟨rfl, hq, hg⟩
    have HQ : Hid _ := hq
    have HG : Hid _ := hg
    clear hq hg
    go_wp2
    first | go_end0 | refine bodyPost_ret (results_none rfl _ _ _) rfl ?_
    rw [HR.out]
    exact ⟨rfl, ⟨HQ.out, trivial⟩, HG.out⟩
set_option maxHeartbeats 1000000 in
theorem QErr.kind {w : World} {b : Nat} {pv : Value} {e p deep : Nat} (h : QErr w b pv e p deep) (c : Int) :
    Calls Tryz.prog 238 #[.pointer (some ⟨b, 0, none⟩), .int .i64 c] w fun r w' => r = .returned (.string ⟨#[]⟩) ∧ w' = w := by
  obtain ⟨q, h1, h2, h3, h4, h5, h6⟩ := h
  obtain ⟨c0, c1, c2, c3, c4, c5, c6, c7, c8⟩ := h1.all
  have hne : ((q.e : Int) != 0) = true := by rw [bne_iff_ne]; omega
  have H : Hid (QErr w b pv e p deep) := ⟨q, h1, h2, h3, h4, h5, h6⟩
  clear h1 h2 h3 h4 h5 h6
  go_enter Tryz.func238, Tryz.ntmps238
  go_wp2_with fail
  refine (QErr.fail H.out _).mono ?_
  rintro r w' ⟨rfl, rfl⟩
  go_wp2
  go_ret
  exact ⟨rfl, rfl⟩
set_option maxHeartbeats 1000000 in
theorem QIs.kind {w : World} {b : Nat} {pv : Value} {s : ByteArray} {ts : List Tok} {deep : Nat} (h : QIs w b pv s ts deep) (hs : s.size ≤ 6000) (k : Nat) (ki : Int) (hki : ki = k) (hk : ¬ (k = 0 ∨ k = 5)) :
    Calls Tryz.prog 238 #[.pointer (some ⟨b, 0, none⟩), .int .i64 ki] w fun r w' => ∃ x : ByteArray, r = .returned (.string x) ∧ QRes w' b pv s deep (kindP k ts) (fun a => bl x = a) ∧ w.grownBy w' (some b) := by
  subst hki
  have H : Hid (QIs w b pv s ts deep) := h
  obtain ⟨q, h1, h2, h3, h4, h5, h6, h7⟩ := h
  obtain ⟨c0, c1, c2, c3, c4, c5, c6, c7, c8⟩ := h1.all
  have hz : ((q.e : Int) != 0) = false := by rw [h5]; rfl
  have hh := h7.hd
  clear h1 h2 h3 h4 h5 h6 h7
  by_cases hc : q.k = k
  · have hck : ((q.k : Int) != (k : Int)) = false := by rw [hc]; simp
    have HR : Hid (kindP k ts = .ok (bl q.tx, ts.tail)) := hid (by
      unfold kindP; rw [hh, if_pos (show (tokOf q).kind = k from hc)]; rfl)
    have HL : Hid (¬ ((hd ts).kind = 0 ∨ (hd ts).kind = 5)) := hid (by rw [hh]; show ¬ (q.k = 0 ∨ q.k = 5); rw [hc]; exact hk)
    clear hc hh hk
    go_enter Tryz.func238, Tryz.ntmps238
    go_wp2_with fail
    refine (QIs.next H.out hs HL.out).mono ?_
    rintro r w' ⟨rfl, hq, hg⟩
    have HQ : Hid _ := hq
    have HG : Hid _ := hg
    clear hq hg
    go_wp2
    go_ret
    rw [HR.out]
    exact ⟨q.tx, rfl, ⟨HQ.out, rfl⟩, HG.out⟩
  · have hck : ((q.k : Int) != (k : Int)) = true := by rw [bne_iff_ne]; omega
    have HR : Hid (kindP k ts = .error (2, (hd ts).at_)) := hid (by
      unfold kindP; rw [if_neg (show ¬ (hd ts).kind = k by rw [hh]; exact hc)])
    clear hc hh hk
    go_enter Tryz.func238, Tryz.ntmps238
    go_wp2_with fail
    refine (QIs.fail H.out 2 _ rfl (by decide)).mono ?_
    rintro r w' ⟨rfl, hq, hg⟩
    have HQ : Hid _ := hq
    have HG : Hid _ := hg
    clear hq hg
    go_wp2
    go_ret
    rw [HR.out]
    exact ⟨⟨#[]⟩, rfl, HQ.out, HG.out⟩
end Go.Proofs.YtpbemaaghbbocaaGreatDoor
