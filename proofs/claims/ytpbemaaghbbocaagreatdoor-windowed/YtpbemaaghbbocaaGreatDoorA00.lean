/- Parts. -/
import Derived.WalkKit
import Derived.Lib.Strings
import Derived.WalkSpells
import Derived.WalkLawsBesides
import Derived.Test.YtpbemaaghbbocaaGreatDoorProg
namespace Go.Proofs.YtpbemaaghbbocaaGreatDoor.LS
open Go Go.RowKit
theorem hid {p : Prop} (h : p) : Hid p := h
def bl (s : ByteArray) : List UInt8 := s.data.toList
theorem toList_bl (s : ByteArray) : s.toList = bl s := Lib.toList_data s
theorem bl_length (s : ByteArray) : (bl s).length = s.size := by simp [bl]
theorem empty_of {s : ByteArray} (h : s.size < 1) : s.toList.isEmpty = true := by
  rw [toList_bl, List.isEmpty_iff, ← List.length_eq_zero_iff, bl_length]; omega
theorem not_empty_of {s : ByteArray} (h : 1 ≤ s.size) : s.toList.isEmpty = false := by
  rw [toList_bl, List.isEmpty_eq_false_iff, ← List.length_pos_iff, bl_length]; omega
theorem bl_mk (l : List UInt8) : bl ⟨l.toArray⟩ = l := by simp [bl]
theorem mk_bl (s : ByteArray) : (⟨(bl s).toArray⟩ : ByteArray) = s := by simp [bl]
theorem bl_get (s : ByteArray) (k : Nat) (h : k < s.size) : (bl s)[k]'(by rw [bl_length]; exact h) = s[k] := by
  unfold bl; rfl
theorem bl_inj {a b : ByteArray} (h : bl a = bl b) : a = b := by rw [← mk_bl a, ← mk_bl b, h]
theorem bl_extract (s : ByteArray) (a b : Nat) : bl (s.extract a b) = ((bl s).take b).drop a := by
  unfold bl
  rw [ByteArray.data_extract]
  simp [Array.toList_extract]
  rw [List.drop_take]
def letter (c : UInt8) : Bool := decide (97 ≤ (c.toNat : Int)) && decide ((c.toNat : Int) ≤ 122)
def digit (c : UInt8) : Bool := decide (48 ≤ (c.toNat : Int)) && decide ((c.toNat : Int) ≤ 57)
def isName (l : List UInt8) : Bool := l.all letter && (decide (1 ≤ (l.length : Int)) && decide ((l.length : Int) ≤ 8))
def isWord (l : List UInt8) : Bool := l.all (fun c => letter c || digit c) && decide ((l.length : Int) ≤ 8)
theorem take_snoc (s : ByteArray) (k : Nat) (h : k < s.size) : (bl s).take (k + 1) = (bl s).take k ++ [s[k]] := by
  rw [List.take_succ_eq_append_getElem (by rw [bl_length]; exact h), bl_get s k h]
theorem drop_cons (s : ByteArray) (k : Nat) (h : k < s.size) : (bl s).drop k = s[k] :: (bl s).drop (k + 1) := by
  rw [List.drop_eq_getElem_cons (by rw [bl_length]; exact h), bl_get s k h]
theorem all_step (p : UInt8 → Bool) (s : ByteArray) (k : Nat) (h : k < s.size) (ha : ((bl s).take k).all p = true) (hp : p s[k] = true) : ((bl s).take (k + 1)).all p = true := by
  rw [take_snoc s k h, List.all_append, ha]; simp [hp]
theorem all_fail (p : UInt8 → Bool) (s : ByteArray) (k : Nat) (h : k < s.size) (hp : p s[k] = false) : (bl s).all p = false := by
  rw [List.all_eq_false]
  exact ⟨s[k], by rw [← bl_get s k h]; exact List.getElem_mem _, by simp [hp]⟩
theorem all_end (p : UInt8 → Bool) (s : ByteArray) (k : Nat) (h : ¬ k < s.size) (ha : ((bl s).take k).all p = true) : (bl s).all p = true := by
  rwa [List.take_of_length_le (by rw [bl_length]; omega)] at ha
def val (l : List UInt8) : Nat := l.foldl (fun n c => 10 * n + (c.toNat - 48)) 0
def number (most : Nat) (l : List UInt8) : Option Nat :=
  if l.length < 1 ∨ (l.head? = some 48 ∧ 1 < l.length) ∨ l.all digit = false ∨ most < val l then none else some (val l)
theorem val_snoc (l : List UInt8) (c : UInt8) : val (l ++ [c]) = 10 * val l + (c.toNat - 48) := by simp [val]
theorem val_foldl_ge (r : List UInt8) : ∀ n : Nat, n ≤ r.foldl (fun n c => 10 * n + (c.toNat - 48)) n := by
  induction r with
  | nil => intro n; exact Nat.le_refl _
  | cons c r ih => intro n; exact Nat.le_trans (show n ≤ 10 * n + (c.toNat - 48) by omega) (ih _)
theorem val_take_le (l : List UInt8) (k : Nat) : val (l.take k) ≤ val l := by
  conv => rhs; rw [← List.take_append_drop k l]
  unfold val
  rw [List.foldl_append]
  exact val_foldl_ge _ _
theorem digit_bounds {c : UInt8} (h : digit c = true) : 48 ≤ c.toNat ∧ c.toNat ≤ 57 := by
  simp [digit] at h; omega
def seek (c : UInt8) : List UInt8 → Option Nat
  | [] => none
  | b :: l => if b == c then some 0 else (seek c l).map (· + 1)
def cut (c : UInt8) (l : List UInt8) : Option (List UInt8 × List UInt8) := (seek c l).map fun i => (l.take i, l.drop (i + 1))
theorem seek_append_miss (c : UInt8) (a b : List UInt8) (h : seek c a = none) : seek c (a ++ b) = (seek c b).map (· + a.length) := by
  induction a with
  | nil => simp
  | cons x a ih =>
    unfold seek at h
    split at h
    · cases h
    · rename_i hx
      have h' : seek c a = none := by simpa using h
      simp only [List.cons_append, seek, hx]
      rw [ih h']
      cases seek c b <;> simp [Nat.add_assoc]
theorem seek_none_iff (c : UInt8) (l : List UInt8) : seek c l = none ↔ c ∉ l := by
  induction l with
  | nil => simp [seek]
  | cons b l ih =>
    unfold seek
    by_cases hb : b = c
    · subst hb; simp
    · simp [hb, ih, Ne.symm hb]
theorem seek_some {c : UInt8} {l : List UInt8} {i : Nat} (h : seek c l = some i) : ∃ a b, l = a ++ c :: b ∧ a.length = i ∧ c ∉ a := by
  induction l generalizing i with
  | nil => simp [seek] at h
  | cons b l ih =>
    unfold seek at h
    by_cases hb : b = c
    · subst hb; simp at h; subst h; exact ⟨[], l, rfl, rfl, by simp⟩
    · simp [hb] at h
      obtain ⟨j, hj, rfl⟩ := h
      obtain ⟨a', b', rfl, rfl, hn⟩ := ih hj
      exact ⟨b :: a', b', rfl, by simp, by simp [hn, Ne.symm hb]⟩
theorem seek_mid (c : UInt8) (a b : List UInt8) (h : c ∉ a) : seek c (a ++ c :: b) = some a.length := by
  rw [seek_append_miss c a _ ((seek_none_iff c a).2 h)]; simp [seek]
theorem seek_lt {c : UInt8} {l : List UInt8} {i : Nat} (h : seek c l = some i) : i < l.length := by
  obtain ⟨a, b, rfl, rfl, _⟩ := seek_some h; simp
def pre (p : List UInt8) : List (List UInt8) → List (List UInt8)
  | [] => [p]
  | h :: t => (p ++ h) :: t
def split (c : UInt8) : List UInt8 → List (List UInt8)
  | [] => [[]]
  | b :: l => if b == c then [] :: split c l else pre [b] (split c l)
theorem split_ne (c : UInt8) (l : List UInt8) : split c l ≠ [] := by
  cases l with
  | nil => simp [split]
  | cons b l =>
    unfold split
    split
    · simp
    · cases h : split c l <;> simp [pre]
theorem pre_nil (c : UInt8) (l : List UInt8) : pre [] (split c l) = split c l := by
  cases h : split c l with
  | nil => exact absurd h (split_ne c l)
  | cons a t => simp [pre]
theorem pre_pre (p q : List UInt8) (l : List (List UInt8)) (h : l ≠ []) : pre p (pre q l) = pre (p ++ q) l := by
  cases l with
  | nil => exact absurd rfl h
  | cons a t => simp [pre]
theorem split_hit (c : UInt8) (l : List UInt8) : split c (c :: l) = [] :: split c l := by simp [split]
theorem split_miss (c b : UInt8) (l : List UInt8) (h : (b == c) = false) : split c (b :: l) = pre [b] (split c l) := by
  simp only [split, h]; rfl
theorem split_append (c : UInt8) (p r : List UInt8) (h : c ∉ p) : split c (p ++ r) = pre p (split c r) := by
  induction p with
  | nil => rw [List.nil_append, pre_nil]
  | cons x p ih =>
    have hx : (x == c) = false := by simp; rintro rfl; simp at h
    rw [List.cons_append, split_miss c x _ hx, ih (by simp at h; exact h.2), pre_pre _ _ _ (split_ne c r)]; rfl
theorem split_length (c : UInt8) (l : List UInt8) : (split c l).length ≤ l.length + 1 := by
  induction l with
  | nil => simp [split]
  | cons b l ih =>
    by_cases hb : b = c
    · subst hb; rw [split_hit]; simp; exact ih
    · rw [split_miss c b l (by simp [hb])]
      cases h2 : split c l with
      | nil => simp [pre]
      | cons a t => rw [h2] at ih; simp [pre]; simp at ih; omega
end Go.Proofs.YtpbemaaghbbocaaGreatDoor.LS
namespace Go.Proofs.YtpbemaaghbbocaaGreatDoor
open Go.RowKit LS
theorem own_below {w w' : World} {base : Nat} {e : TypeId} {size : Nat} {v : Value} {n : Nat} {xs : List Value} (h : w.ownsRow base e size v n xs) (hb : Below w.heap.size w w') : w'.ownsRow base e size v n xs := by
  obtain ⟨h1, h2⟩ := h
  refine ⟨h1, ?_⟩
  rcases h2 with h2 | ⟨g, cap, cur, hv, hg, hh, r⟩
  · exact Or.inl h2
  · have hlt : g < w.heap.size := by
      rcases Nat.lt_or_ge g w.heap.size with h | h
      · exact h
      · rw [Array.getElem?_eq_none h] at hh; cases hh
    exact Or.inr ⟨g, cap, cur, hv, hg, by rw [hb.block g hlt]; exact hh, r⟩
theorem own_shape {w : World} {base : Nat} {e : TypeId} {size : Nat} {v : Value} {n : Nat} {xs : List Value} (h : w.ownsRow base e size v n xs) : ∃ av cp, v = .slice av n cp := by
  rcases h.2 with ⟨h, h'⟩ | ⟨g, cap, cur, h, _⟩
  · exact ⟨none, 0, by rw [h, h']⟩
  · exact ⟨_, _, h⟩
theorem own_drewN {w : World} {base : Nat} {e : TypeId} {size : Nat} {v : Value} {n : Nat} {xs : List Value} (h : w.ownsRow base e size v n xs) (k : Nat) : (w.drewN k).ownsRow base e size v n xs := h
theorem below_drewN (B : Nat) (w : World) (k : Nat) : Below B w (w.drewN k) := ⟨rfl, rfl, rfl, Nat.le_refl _, fun _ _ => rfl⟩
theorem below_drewN' {B : Nat} {a w : World} (h : Below B a w) (k : Nat) : Below B a (w.drewN k) := h.trans (below_drewN B w k)
theorem below_undrew {B : Nat} {w w' : World} {k : Nat} (h : Below B (w.drewN k) w') : Below B w w' := ⟨h.os, h.tape, h.output, h.size, h.block⟩
theorem size_of_bl {s : ByteArray} {r : List UInt8} (h : bl s = r) : s.size = r.length := by rw [← bl_length, h]
theorem cells_two {W : World} {a : Nat} {u v : Value} (h0 : W.cell? ⟨a, 0, none⟩ = some u) (h1 : W.cell? ⟨a, 1, none⟩ = some v) : ∀ j x, [u, v][j]? = some x → W.cell? ((⟨a, 0, none⟩ : Addr).add j) = some x := by
  intro j x hj
  match j, hj with
  | 0, hj => simp at hj; subst hj; simpa [Addr.add] using h0
  | 1, hj => simp at hj; subst hj; simpa [Addr.add] using h1
theorem cells_three {W : World} {a : Nat} {u v x : Value} (h0 : W.cell? ⟨a, 0, none⟩ = some u) (h1 : W.cell? ⟨a, 1, none⟩ = some v) (h2 : W.cell? ⟨a, 2, none⟩ = some x) : ∀ j y, [u, v, x][j]? = some y → W.cell? ((⟨a, 0, none⟩ : Addr).add j) = some y := by
  intro j y hj
  match j, hj with
  | 0, hj => simp at hj; subst hj; simpa [Addr.add] using h0
  | 1, hj => simp at hj; subst hj; simpa [Addr.add] using h1
  | 2, hj => simp at hj; subst hj; simpa [Addr.add] using h2
theorem add_zero_block (g j : Nat) : (⟨g, 0, none⟩ : Addr).add j = ⟨g, j, none⟩ := by
  by_cases h : j = 0 <;> simp [Addr.add, h]
theorem own_cell {w : World} {base : Nat} {e : TypeId} {size : Nat} {g n cp : Nat} {xs : List Value} (h : w.ownsRow base e size (.slice (some ⟨g, 0, none⟩) n cp) n xs) (j : Nat) (u : Value) (hj : xs[j]? = some u) : w.cell? ⟨g, j, none⟩ = some u := by
  have := h.cells rfl j u hj; rwa [add_zero_block] at this
theorem own_lt {w : World} {base : Nat} {e : TypeId} {size : Nat} {g n cp : Nat} {xs : List Value} (h : w.ownsRow base e size (.slice (some ⟨g, 0, none⟩) n cp) n xs) : g < w.heap.size := (h.lt g rfl).2
theorem own_some {w : World} {base : Nat} {e : TypeId} {size : Nat} {v : Value} {n : Nat} {xs : List Value} (h : w.ownsRow base e size v n xs) (hn : 0 < n) : ∃ g cp, v = .slice (some ⟨g, 0, none⟩) n cp := by
  rcases h.2 with ⟨_, h0⟩ | ⟨g, cap, cur, hv, _⟩
  · omega
  · exact ⟨g, cap, hv⟩
theorem own_ne {w : World} {b1 b2 : Nat} {e1 e2 : TypeId} {s1 s2 : Nat} {v1 v2 : Value} {n1 n2 : Nat} {xs1 xs2 : List Value} (h1 : w.ownsRow b1 e1 s1 v1 n1 xs1) (h2 : w.ownsRow b2 e2 s2 v2 n2 xs2) (he : e1 ≠ e2) : v1.ownBlock = none ∨ v1.ownBlock ≠ v2.ownBlock := by
  rcases h1.2 with ⟨rfl, _⟩ | ⟨g1, c1, cur1, rfl, _, hh1, _⟩
  · exact Or.inl rfl
  · right
    rcases h2.2 with ⟨rfl, _⟩ | ⟨g2, c2, cur2, rfl, _, hh2, _⟩
    · simp [Value.ownBlock]
    · intro h
      have hg : g1 = g2 := by simpa [Value.ownBlock] using h
      subst hg
      rw [hh1] at hh2
      injection hh2 with h3
      injection h3 with _ h4
      exact he h4
theorem own_ne_block {w : World} {b : Nat} {e : TypeId} {sz : Nat} {v : Value} {n : Nat} {xs : List Value} (h : w.ownsRow b e sz v n xs) {q : Nat} {c : Array Value} {t : TypeId} {fr : Nat × Nat} (hq : w.heap[q]? = some (.cells c t fr)) (ht : t ≠ e) : some q ≠ v.ownBlock := by
  rcases h.2 with ⟨rfl, _⟩ | ⟨g, cp, cur, rfl, _, hh, _⟩
  · simp [Value.ownBlock]
  · intro he
    have hg : q = g := by simpa [Value.ownBlock] using he
    subst hg
    rw [hq] at hh
    injection hh with h3
    injection h3 with _ h4
    exact ht h4
theorem nil_of_empty {s : ByteArray} (h : s.toList.isEmpty = true) : bl s = [] := by rw [toList_bl] at h; exact List.isEmpty_iff.1 h
theorem ne_of_nonempty {s : ByteArray} (h : s.toList.isEmpty = false) : bl s ≠ [] := by rw [toList_bl] at h; exact List.isEmpty_eq_false_iff.1 h
theorem split_piece_le (c : UInt8) (l : List UInt8) : ∀ x ∈ split c l, x.length ≤ l.length := by
  induction l with
  | nil => simp [split]
  | cons b l ih =>
    intro x hx
    by_cases hb : b = c
    · subst hb; rw [split_hit] at hx
      rcases List.mem_cons.1 hx with rfl | hx
      · simp
      · have := ih x hx; simp; omega
    · rw [split_miss c b l (by simp [hb])] at hx
      cases hsp : split c l with
      | nil => exact absurd hsp (split_ne c l)
      | cons h t =>
        rw [hsp] at hx ih
        simp only [pre] at hx
        rcases List.mem_cons.1 hx with rfl | hx
        · have := ih h (by simp); simp; omega
        · have := ih x (by simp [hx]); simp; omega
theorem split_getD_le (c : UInt8) (l : List UInt8) (k : Nat) (hk : k < (split c l).length) : ((split c l).getD k []).length ≤ l.length := by
  have e : (split c l).getD k [] = (split c l)[k] := by simp [hk]
  rw [e]; exact split_piece_le c l _ (List.getElem_mem _)
theorem number_le {most v : Nat} {l : List UInt8} (h : number most l = some v) : v ≤ most := by
  unfold number at h; split at h
  · cases h
  · rename_i hn; have := Option.some.inj h; simp at hn; omega
def sents : List Nat := [0, 1, 2, 3, 4, 5, 6, 7, 8, 9, 10, 11, 12]
structure Vars (w : World) (A : Nat → Addr) (m : Int) : Prop where
  max : w.cell? ⟨14, 0, none⟩ = some (.int .i64 m)
  sent : ∀ g ∈ sents, w.cell? ⟨g, 0, none⟩ = some (.iface 389 (.pointer (some (A g))))
  apart : ∀ g ∈ sents, ∀ h ∈ sents, g ≠ h → A g ≠ A h
  row : ∀ g ∈ sents, ∃ c t, w.heap[(A g).block]? = some (.cells c t (0, 0))
  handle : w.cell? ⟨13, 0, none⟩ = some (.iface 232 (.agg #[.pointer (some ⟨20, 52, none⟩)]))
theorem Vars.below {w w' : World} {A : Nat → Addr} {m : Int} (h : Vars w A m) (hb : Below w.heap.size w w') : Vars w' A m where
  max := (hb.cell (p := ⟨_, 0, none⟩) (World.block_lt_of_cell? _ _ h.max)).trans h.max
  sent g hg := (hb.cell (p := ⟨_, 0, none⟩) (World.block_lt_of_cell? _ _ (h.sent g hg))).trans (h.sent g hg)
  apart := h.apart
  row g hg := by
    obtain ⟨c, t, e⟩ := h.row g hg
    refine ⟨c, t, (hb.block _ ?_).trans e⟩
    rcases Nat.lt_or_ge (A g).block w.heap.size with h | h
    · exact h
    · rw [Array.getElem?_eq_none h] at e; cases e
  handle := (hb.cell (p := ⟨_, 0, none⟩) (World.block_lt_of_cell? _ _ h.handle)).trans h.handle
theorem Vars.alloc {w : World} {A : Nat → Addr} {m : Int} (h : Vars w A m) (o : Obj) : Vars (w.alloc o) A m := h.below ((Below.refl _ _).alloc (Nat.le_refl _) _)
theorem Vars.drewN {w : World} {A : Nat → Addr} {m : Int} (h : Vars w A m) (k : Nat) : Vars (w.drewN k) A m := h.below (below_drewN _ _ _)
theorem ret_bool {a b : Bool} (h : a = b) : Ending.returned (.bool a) = .returned (.bool b) := by rw [h]
theorem ret_int {k : IntKind} {a b : Int} (h : a = b) : Ending.returned (.int k a) = .returned (.int k b) := by rw [h]
theorem letter_any (c : UInt8) (w : World) :
    Calls Tryz.prog 144 #[.int .u8 c.toNat] w fun e w' => e = .returned (.bool (letter c)) ∧ w' = w := by
  go_enter Tryz.func144, Tryz.ntmps144
  go_wp2
  all_goals
    go_ret
    exact ⟨ret_bool (by unfold letter; simp; omega), rfl⟩
theorem isLetter_any (c : UInt8) (w : World) :
    Calls Tryz.prog 61 #[.int .u8 c.toNat] w fun e w' => e = .returned (.bool (letter c)) ∧ w' = w := by
  go_enter Tryz.func61, Tryz.ntmps61
  go_wp2
  all_goals
    go_ret
    exact ⟨ret_bool (by unfold letter; simp; omega), rfl⟩
theorem digit_any (c : UInt8) (w : World) :
    Calls Tryz.prog 143 #[.int .u8 c.toNat] w fun e w' => e = .returned (.bool (digit c)) ∧ w' = w := by
  go_enter Tryz.func143, Tryz.ntmps143
  go_wp2
  all_goals
    go_ret
    exact ⟨ret_bool (by unfold digit; simp; omega), rfl⟩
theorem isDigit_any (c : UInt8) (w : World) :
    Calls Tryz.prog 58 #[.int .u8 c.toNat] w fun e w' => e = .returned (.bool (digit c)) ∧ w' = w := by
  go_enter Tryz.func58, Tryz.ntmps58
  go_wp2
  all_goals
    go_ret
    exact ⟨ret_bool (by unfold digit; simp; omega), rfl⟩
set_option maxHeartbeats 400000 in
theorem wIsName_any (s : ByteArray) (w : World) (hs : s.size ≤ 6000) :
    Calls Tryz.prog 62 #[.string s] w fun e w' => e = .returned (.bool (isName (bl s))) ∧ w' = w := by
  by_cases h1 : s.size < 1 ∨ 8 < s.size
  · have HF : Hid (isName (bl s) = false) := hid (by
      unfold isName; rw [bl_length]
      have : (decide (1 ≤ (s.size : Int)) && decide ((s.size : Int) ≤ 8)) = false := by simp; omega
      rw [this]; simp)
    go_enter Tryz.func62, Tryz.ntmps62
    go_wp2
    all_goals first | omega | (go_ret; exact ⟨ret_bool HF.out.symm, rfl⟩)
  · have h2 : 1 ≤ (s.size : Int) := by omega
    have h3 : (s.size : Int) ≤ 8 := by omega
    go_enter Tryz.func62, Tryz.ntmps62
    go_wp2
    go_loop [14] (fun i => ∃ k : Nat, k ≤ s.size ∧ i = .int .i64 k ∧ ((bl s).take k).all letter = true) (fun i => s.size - (intOf i).toNat)
    case atStart => exact ⟨0, Nat.zero_le _, rfl, by simp⟩
    case round =>
      obtain ⟨k, hk, rfl, ha0⟩ := hrel
      have ha : Hid (((bl s).take k).all letter = true) := ha0
      clear ha0
      by_cases hlt : k < s.size
      · cases hl : letter s[k]
        · have HF : Hid (isName (bl s) = false) := by unfold isName; rw [all_fail letter s k hlt hl]; rfl
          go_wp2_with (go_at_call 61; refine (isLetter_any _ _).mono ?_; rintro e w' ⟨rfl, rfl⟩)
          go_ret
          exact ⟨ret_bool HF.out.symm, rfl⟩
        · have HF' : Hid (((bl s).take (k + 1)).all letter = true) := all_step letter s k hlt ha.out hl
          go_wp2_with (go_at_call 61; refine (isLetter_any _ _).mono ?_; rintro e w' ⟨rfl, rfl⟩)
          go_round
          case rel => exact ⟨k + 1, by omega, by go_num, HF'.out⟩
          case measure => simp [intOf]; omega
      · have HF : Hid (isName (bl s) = true) := hid (by
          unfold isName; rw [all_end letter s k hlt ha.out, bl_length]; simp; omega)
        go_wp2
        go_ret
        exact ⟨ret_bool HF.out.symm, rfl⟩
set_option maxHeartbeats 400000 in
theorem rIsWord_any (s : ByteArray) (w : World) (hs : s.size ≤ 6000) :
    Calls Tryz.prog 147 #[.string s] w fun e w' => e = .returned (.bool (isWord (bl s))) ∧ w' = w := by
  go_enter Tryz.func147, Tryz.ntmps147
  go_wp2
  go_loop [3] (fun i => ∃ k : Nat, k ≤ s.size ∧ i = .int .i64 k ∧ ((bl s).take k).all (fun c => letter c || digit c) = true) (fun i => s.size - (intOf i).toNat)
  case atStart => exact ⟨0, Nat.zero_le _, rfl, by simp⟩
  case round =>
    obtain ⟨k, hk, rfl, ha0⟩ := hrel
    have ha : Hid (((bl s).take k).all (fun c => letter c || digit c) = true) := ha0
    clear ha0
    by_cases hlt : k < s.size
    · have HS : Hid ((letter s[k] || digit s[k]) = true → ((bl s).take (k + 1)).all (fun c => letter c || digit c) = true) := all_step (fun c => letter c || digit c) s k hlt ha.out
      have HN : Hid ((letter s[k] || digit s[k]) = false → isWord (bl s) = false) := fun h => by
        unfold isWord; rw [all_fail (fun c => letter c || digit c) s k hlt h]; rfl
      cases hl : letter s[k] <;> cases hd : digit s[k]
      · go_wp2_with (first | (go_at_call 144; refine (letter_any _ _).mono ?_; rintro e w' ⟨rfl, rfl⟩) | (go_at_call 143; refine (digit_any _ _).mono ?_; rintro e w' ⟨rfl, rfl⟩))
        go_ret
        exact ⟨ret_bool (HN.out (by rw [hl, hd]; rfl)).symm, rfl⟩
      all_goals
        go_wp2_with (first | (go_at_call 144; refine (letter_any _ _).mono ?_; rintro e w' ⟨rfl, rfl⟩) | (go_at_call 143; refine (digit_any _ _).mono ?_; rintro e w' ⟨rfl, rfl⟩))
        go_round
        case rel => exact ⟨k + 1, by omega, by go_num, HS.out (by rw [hl, hd]; rfl)⟩
        case measure => simp [intOf]; omega
    · have HF : Hid (isWord (bl s) = decide ((s.size : Int) ≤ 8)) := by
        unfold isWord; rw [all_end _ s k hlt ha.out, bl_length]; rfl
      go_wp2
      go_ret
      exact ⟨ret_bool HF.out.symm, rfl⟩
set_option maxHeartbeats 400000 in
theorem wIsWord_any (s : ByteArray) (w : World) (hs : s.size ≤ 6000) :
    Calls Tryz.prog 63 #[.string s] w fun e w' => e = .returned (.bool (isWord (bl s))) ∧ w' = w := by
  by_cases h1 : 8 < s.size
  · have HF : Hid (isWord (bl s) = false) := hid (by
      unfold isWord; rw [bl_length]
      have : decide ((s.size : Int) ≤ 8) = false := by simp; omega
      rw [this]; simp)
    go_enter Tryz.func63, Tryz.ntmps63
    go_wp2
    go_ret
    exact ⟨ret_bool HF.out.symm, rfl⟩
  · have h3 : (s.size : Int) ≤ 8 := by omega
    go_enter Tryz.func63, Tryz.ntmps63
    go_wp2
    go_loop [9] (fun i => ∃ k : Nat, k ≤ s.size ∧ i = .int .i64 k ∧ ((bl s).take k).all (fun c => letter c || digit c) = true) (fun i => s.size - (intOf i).toNat)
    case atStart => exact ⟨0, Nat.zero_le _, rfl, by simp⟩
    case round =>
      obtain ⟨k, hk, rfl, ha0⟩ := hrel
      have ha : Hid (((bl s).take k).all (fun c => letter c || digit c) = true) := ha0
      clear ha0
      by_cases hlt : k < s.size
      · have HS : Hid ((letter s[k] || digit s[k]) = true → ((bl s).take (k + 1)).all (fun c => letter c || digit c) = true) := all_step (fun c => letter c || digit c) s k hlt ha.out
        have HN : Hid ((letter s[k] || digit s[k]) = false → isWord (bl s) = false) := fun h => by
          unfold isWord; rw [all_fail (fun c => letter c || digit c) s k hlt h]; rfl
        cases hl : letter s[k] <;> cases hd : digit s[k]
        · go_wp2_with (first | (go_at_call 61; refine (isLetter_any _ _).mono ?_; rintro e w' ⟨rfl, rfl⟩) | (go_at_call 58; refine (isDigit_any _ _).mono ?_; rintro e w' ⟨rfl, rfl⟩))
          go_ret
          exact ⟨ret_bool (HN.out (by rw [hl, hd]; rfl)).symm, rfl⟩
        all_goals
          go_wp2_with (first | (go_at_call 61; refine (isLetter_any _ _).mono ?_; rintro e w' ⟨rfl, rfl⟩) | (go_at_call 58; refine (isDigit_any _ _).mono ?_; rintro e w' ⟨rfl, rfl⟩))
          go_round
          case rel => exact ⟨k + 1, by omega, by go_num, HS.out (by rw [hl, hd]; rfl)⟩
          case measure => simp [intOf]; omega
      · have HF : Hid (isWord (bl s) = true) := hid (by
          unfold isWord; rw [all_end _ s k hlt ha.out, bl_length]; simp; omega)
        go_wp2
        go_ret
        exact ⟨ret_bool HF.out.symm, rfl⟩
def seekI (c : UInt8) (l : List UInt8) : Int := match LS.seek c l with | none => -1 | some i => i
theorem seekI_some {c : UInt8} {l : List UInt8} {i : Nat} (h : LS.seek c l = some i) : seekI c l = i := by unfold seekI; rw [h]
theorem seekI_none {c : UInt8} {l : List UInt8} (h : LS.seek c l = none) : seekI c l = -1 := by unfold seekI; rw [h]
theorem seek_found (c : UInt8) (s : ByteArray) (k : Nat) (h : k < s.size) (hn : LS.seek c ((bl s).take k) = none) (he : s[k] = c) : seekI c (bl s) = k := by
  have e : bl s = (bl s).take k ++ (bl s).drop k := (List.take_append_drop _ _).symm
  refine seekI_some ?_
  rw [e, seek_append_miss _ _ _ hn, drop_cons s k h]
  simp [LS.seek, he, bl_length]; omega
theorem seek_on (c : UInt8) (s : ByteArray) (k : Nat) (h : k < s.size) (hn : LS.seek c ((bl s).take k) = none) (he : s[k] ≠ c) : LS.seek c ((bl s).take (k + 1)) = none := by
  rw [take_snoc s k h, seek_append_miss _ _ _ hn]; simp [LS.seek, he]
set_option maxHeartbeats 400000 in
theorem seek_any (s : ByteArray) (c : UInt8) (w : World) (hs : s.size ≤ 6000) :
    Calls Tryz.prog 96 #[.string s, .int .u8 c.toNat] w fun e w' => e = .returned (.int .i64 (seekI c (bl s))) ∧ w' = w := by
  go_enter Tryz.func96, Tryz.ntmps96
  go_wp2
  go_loop [5] (fun i => ∃ k : Nat, k ≤ s.size ∧ i = .int .i64 k ∧ LS.seek c ((bl s).take k) = none) (fun i => s.size - (intOf i).toNat)
  case atStart => exact ⟨0, Nat.zero_le _, rfl, by simp [LS.seek]⟩
  case round =>
    obtain ⟨k, hk, rfl, ha0⟩ := hrel
    have ha : Hid (LS.seek c ((bl s).take k) = none) := ha0
    clear ha0
    by_cases hlt : k < s.size
    · by_cases he : s[k] = c
      · have HF : Hid (seekI c (bl s) = k) := seek_found c s k hlt ha.out he
        have hb : ((s[k].toNat : Int) == (c.toNat : Int)) = true := by rw [he]; simp
        clear he
        go_wp2
        go_ret
        exact ⟨ret_int HF.out.symm, rfl⟩
      · have HF : Hid (LS.seek c ((bl s).take (k + 1)) = none) := seek_on c s k hlt ha.out he
        have hb : ((s[k].toNat : Int) == (c.toNat : Int)) = false := by
          rw [beq_eq_false_iff_ne]; intro h; exact he (UInt8.toNat_inj.1 (by omega))
        clear he
        go_wp2
        go_round
        case rel => exact ⟨k + 1, by omega, by go_num, HF.out⟩
        case measure => simp [intOf]; omega
    · have HF : Hid (seekI c (bl s) = -1) := by
        have := ha.out
        rw [List.take_of_length_le (by rw [bl_length]; omega)] at this
        exact seekI_none this
      go_wp2
      go_ret
      exact ⟨ret_int HF.out.symm, rfl⟩
end Go.Proofs.YtpbemaaghbbocaaGreatDoor
