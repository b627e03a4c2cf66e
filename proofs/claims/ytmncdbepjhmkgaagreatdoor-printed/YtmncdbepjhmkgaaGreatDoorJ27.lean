/- Parts of the proof, joined: DFactor0, DMark, DLexP, DLexQ, DLexR -/
import Derived.Test.YtmncdbepjhmkgaaGreatDoorJ26
import Derived.Test.YtmncdbepjhmkgaaGreatDoorShelf
import Derived.Test.YtmncdbepjhmkgaaGreatDoorJ02
import Derived.Test.YtmncdbepjhmkgaaGreatDoorJ25
/- The program's operators' lines and signs; what begins a factor. -/
namespace Go.Proofs.YtmncdbepjhmkgaaGreatDoor
open Go.RowKit LS

def rankOf (o : Nat) : Nat := if o = 0 then 0 else if o ≤ 2 then 1 else 2
def signOf (o : Nat) : List UInt8 := if o = 0 then [111, 114] else if o = 1 then [43] else if o = 2 then [45] else if o = 3 then [42] else [47]
theorem rank_any (o : Nat) (ho : o ≤ 4) (w : World) : Calls Tryz.prog 42 #[.int .i64 o] w fun e w' => e = .returned (.int .i64 (rankOf o)) ∧ w' = w := by
  have h : o = 0 ∨ o = 1 ∨ o = 2 ∨ o = 3 ∨ o = 4 := by omega
  rcases h with rfl | rfl | rfl | rfl | rfl
  all_goals
    go_enter Tryz.func42, Tryz.ntmps42
    go_wp2
    go_ret
    exact ⟨rfl, rfl⟩
theorem sign_any (o : Nat) (ho : o ≤ 4) (w : World) : Calls Tryz.prog 56 #[.int .i64 o] w fun e w' => e = .returned (.string ⟨(signOf o).toArray⟩) ∧ w' = w := by
  have h : o = 0 ∨ o = 1 ∨ o = 2 ∨ o = 3 ∨ o = 4 := by omega
  rcases h with rfl | rfl | rfl | rfl | rfl
  all_goals
    go_enter Tryz.func56, Tryz.ntmps56
    go_wp2
    go_ret
    exact ⟨rfl, rfl⟩
def beginsB (t : PTok) : Bool := if ((t.kd : Int) == 0) then true else if ((t.kd : Int) == 1) then !(t.tx.toList == [111, 114]) && !(t.tx.toList == [98, 121]) else markB t ⟨#[45]⟩ || markB t ⟨#[40]⟩
set_option maxRecDepth 100000 in
set_option maxHeartbeats 1000000 in
theorem begins_any (t : PTok) (w : World) :
    Calls Tryz.prog 65 #[.agg #[.int .i64 t.kd, .int .i64 t.at_, .string t.tx, .int .i64 t.v]] w fun e w' => e = .returned (.bool (beginsB t)) ∧ Below w.heap.size w w' := by
  have HT0 : Hid (TAt (w.alloc (.cells #[.int .i64 t.kd, .int .i64 t.at_, .string t.tx, .int .i64 t.v] 52)) w.heap.size t) := Go.Deep.blk_alloc_new _ _
  have HB0 : Hid (Below w.heap.size w (w.alloc (.cells #[.int .i64 t.kd, .int .i64 t.at_, .string t.tx, .int .i64 t.v] 52))) := (Below.refl _ _).alloc (Nat.le_refl _) _
  obtain ⟨x0, h0⟩ : ∃ x, ((t.kd : Int) == 0) = x := ⟨_, rfl⟩
  obtain ⟨x1, h1⟩ : ∃ x, ((t.kd : Int) == 1) = x := ⟨_, rfl⟩
  obtain ⟨y1, g1⟩ : ∃ x, (t.tx.toList == [111, 114]) = x := ⟨_, rfl⟩
  obtain ⟨y2, g2⟩ : ∃ x, (t.tx.toList == [98, 121]) = x := ⟨_, rfl⟩
  obtain ⟨z1, f1⟩ : ∃ x, markB t ⟨#[45]⟩ = x := ⟨_, rfl⟩
  obtain ⟨z2, f2⟩ : ∃ x, markB t ⟨#[40]⟩ = x := ⟨_, rfl⟩
  have HF : Hid (beginsB t = if x0 then true else if x1 then !y1 && !y2 else z1 || z2) := hid (by unfold beginsB; rw [h0, h1, g1, g2, f1, f2])
  have HZ : Hid (markB t ⟨#[45]⟩ = z1 ∧ markB t ⟨#[40]⟩ = z2) := ⟨f1, f2⟩
  rw [HF.out]
  clear HF f1 f2
  cases x0
  · cases x1
    · go_enter Tryz.func65, Tryz.ntmps65
      go_wp2_with fail
      refine (mark_step t _ HZ.out.1 w _ w.heap.size HT0.out HB0.out).mono ?_
      rintro e w1 ⟨rfl, HT1, HB1⟩
      clear HT0 HB0
      cases z1
      · obtain ⟨k0, k1, k2, k3⟩ := TAt.all HT1.out
        go_wp2_with fail
        clear k0 k1 k2 k3
        refine (mark_step t _ HZ.out.2 w w1 w.heap.size HT1.out HB1.out).mono ?_
        rintro e w2 ⟨rfl, HT2, HB2⟩
        cases z2
        · go_wp2
          go_ret
          exact ⟨rfl, HB2.out⟩
        · go_wp2
          go_ret
          exact ⟨rfl, HB2.out⟩
      · go_wp2
        go_ret
        exact ⟨rfl, HB1.out⟩
    · cases y1 <;> cases y2
      all_goals
        go_enter Tryz.func65, Tryz.ntmps65
        go_wp2
        go_ret
        exact ⟨rfl, HB0.out⟩
  · go_enter Tryz.func65, Tryz.ntmps65
    go_wp2
    go_ret
    exact ⟨rfl, HB0.out⟩
end Go.Proofs.YtmncdbepjhmkgaaGreatDoor
/- The program's lexer: which mark begins at a place. -/
namespace Go.Proofs.YtmncdbepjhmkgaaGreatDoor
open Go.RowKit LS

def markS (c : UInt8) (r : List UInt8) : List UInt8 := if c == 33 && r.head? == some 61 then [33, 61] else if (seek c signs).isSome then [c] else []
theorem index_seek (c : UInt8) : ∀ l : List UInt8, decide (0 ≤ Lib.indexByte l c) = (seek c l).isSome ∧ -1 ≤ Lib.indexByte l c
  | [] => ⟨rfl, Int.le_refl (-1)⟩
  | b :: l => by
    obtain ⟨h1, h2⟩ := index_seek c l
    unfold Lib.indexByte seek
    by_cases hb : b = c
    · subst hb; simp
    · have e : (b == c) = false := by simpa using hb
      rw [e]
      simp only [Bool.false_eq_true, if_false]
      rw [Option.isSome_map, ← h1]
      split
      · rename_i h
        have : Lib.indexByte l c = -1 := by simpa using h
        rw [this]
        exact ⟨by decide, by decide⟩
      · rename_i h
        have : Lib.indexByte l c ≠ -1 := by simpa using h
        refine ⟨?_, by omega⟩
        rw [decide_eq_true (show 0 ≤ Lib.indexByte l c + 1 by omega), decide_eq_true (show 0 ≤ Lib.indexByte l c by omega)]
theorem prefix_ne (c : UInt8) (r : List UInt8) : Lib.hasPrefix (c :: r) [33, 61] = (c == 33 && r.head? == some 61) := by
  cases r with
  | nil => simp [Lib.hasPrefix, List.isPrefixOf]
  | cons d r =>
    simp only [Lib.hasPrefix, List.isPrefixOf, List.head?_cons]
    rw [Bool.and_true]
    congr 1
    · rw [Bool.eq_iff_iff, beq_iff_eq, beq_iff_eq]; exact eq_comm
    · rw [Bool.eq_iff_iff, beq_iff_eq, beq_iff_eq]; exact ⟨fun h => by rw [h], fun h => by injection h with h; exact h.symm⟩
set_option maxHeartbeats 1000000 in
theorem markAt_any (s : ByteArray) (k : Nat) (w : World) (hs : s.size ≤ 6000) (hk : k < s.size) :
    Calls Tryz.prog 39 #[.string s, .int .i64 k] w fun e w' => ∃ x : ByteArray, e = .returned (.string x) ∧ Hid (bl x = markS s[k] ((bl s).drop (k + 1))) ∧ w' = w := by
  have hx : (s.extract k s.size).data.toList = s[k] :: (bl s).drop (k + 1) := by
    show bl _ = _
    rw [bl_extract, ← bl_length, List.take_length, drop_cons s k hk]
  have hp : Lib.hasPrefix (s.extract k s.size).data.toList [33, 61] = (s[k] == 33 && ((bl s).drop (k + 1)).head? == some 61) := by rw [hx, prefix_ne]
  obtain ⟨b1, h1⟩ : ∃ x, (s[k] == 33 && ((bl s).drop (k + 1)).head? == some 61) = x := ⟨_, rfl⟩
  obtain ⟨b2, h2⟩ : ∃ x, (seek s[k] signs).isSome = x := ⟨_, rfl⟩
  have HM : Hid (markS s[k] ((bl s).drop (k + 1)) = if b1 then [33, 61] else if b2 then [s[k]] else []) := hid (by unfold markS; rw [h1, h2])
  have hi := index_seek s[k] signs
  rw [h2] at hi
  rw [h1] at hp
  have HP : Hid (Lib.hasPrefix (s.extract k s.size).data.toList [33, 61] = b1) := hp
  have HI : Hid (decide (0 ≤ Lib.indexByte signs s[k]) = b2 ∧ -1 ≤ Lib.indexByte signs s[k]) := hi
  have HX1 : Hid (bl (s.extract k (k + 1)) = [s[k]]) := hid (by rw [bl_extract, List.drop_take, drop_cons s k hk, show k + 1 - k = 1 by omega]; rfl)
  clear hx hp h1 h2 hi
  have hc : ∀ c : UInt8, ((c.toNat : Int).toNat.toUInt8) = c := fun c => by simp
  cases b1
  · cases b2
    · have hneg : ¬ (0 ≤ Lib.indexByte signs s[k]) := of_decide_eq_false HI.out.1
      go_enter Tryz.func39, Tryz.ntmps39
      go_wp2_with fail
      refine (Tryz.strings_HasPrefix _ _ _).mono ?_
      rintro e w' ⟨rfl, rfl⟩
      rw [show (⟨#[33, 61]⟩ : ByteArray).data.toList = [33, 61] from rfl, HP.out]
      go_wp2_with fail
      refine (Tryz.strings_IndexByte _ _ _).mono ?_
      rintro e w' ⟨rfl, rfl⟩
      rw [hc, show (⟨#[40, 41, 123, 125, 91, 93, 44, 61, 43, 45, 42, 47]⟩ : ByteArray).data.toList = signs from rfl]
      generalize Lib.indexByte signs s[k] = ix at *
      go_wp2
      go_ret
      exact ⟨_, rfl, hid (by rw [HM.out]; rfl), rfl⟩
    · have hpos : 0 ≤ Lib.indexByte signs s[k] := of_decide_eq_true HI.out.1
      go_enter Tryz.func39, Tryz.ntmps39
      go_wp2_with fail
      refine (Tryz.strings_HasPrefix _ _ _).mono ?_
      rintro e w' ⟨rfl, rfl⟩
      rw [show (⟨#[33, 61]⟩ : ByteArray).data.toList = [33, 61] from rfl, HP.out]
      go_wp2_with fail
      refine (Tryz.strings_IndexByte _ _ _).mono ?_
      rintro e w' ⟨rfl, rfl⟩
      rw [hc, show (⟨#[40, 41, 123, 125, 91, 93, 44, 61, 43, 45, 42, 47]⟩ : ByteArray).data.toList = signs from rfl]
      generalize Lib.indexByte signs s[k] = ix at *
      go_wp2
      go_ret
      exact ⟨_, rfl, hid (by rw [HM.out]; exact HX1.out), rfl⟩
  · go_enter Tryz.func39, Tryz.ntmps39
    go_wp2_with fail
    refine (Tryz.strings_HasPrefix _ _ _).mono ?_
    rintro e w' ⟨rfl, rfl⟩
    rw [show (⟨#[33, 61]⟩ : ByteArray).data.toList = [33, 61] from rfl, HP.out]
    go_wp2
    go_ret
    exact ⟨_, rfl, hid (by rw [HM.out]; rfl), rfl⟩
end Go.Proofs.YtmncdbepjhmkgaaGreatDoor
/- The program's tokens, one after the other, as the plain ones: what its lexer's loop keeps. -/
namespace Go.Proofs.YtmncdbepjhmkgaaGreatDoor
open Go.RowKit LS

def AllTok : List PTok → List Tok → Prop
  | [], [] => True
  | p :: ps, t :: ts => TokIs p t ∧ AllTok ps ts
  | _, _ => False
theorem AllTok.snoc : ∀ {ps : List PTok} {ts : List Tok} {p : PTok} {t : Tok}, AllTok ps ts → TokIs p t → AllTok (ps ++ [p]) (ts ++ [t])
  | [], [], _, _, _, h => ⟨h, trivial⟩
  | _ :: ps, _ :: ts, _, _, h, h' => ⟨h.1, AllTok.snoc (ps := ps) (ts := ts) h.2 h'⟩
  | [], _ :: _, _, _, h, _ => h.elim
  | _ :: _, [], _, _, h, _ => h.elim
theorem AllTok.length : ∀ {ps : List PTok} {ts : List Tok}, AllTok ps ts → ps.length = ts.length
  | [], [], _ => rfl
  | _ :: ps, _ :: ts, h => by rw [List.length_cons, List.length_cons, AllTok.length (ps := ps) (ts := ts) h.2]
  | [], _ :: _, h => h.elim
  | _ :: _, [], h => h.elim
theorem AllTok.get : ∀ {ps : List PTok} {ts : List Tok}, AllTok ps ts → ∀ (k : Nat) (h1 : k < ps.length) (h2 : k < ts.length), TokIs ps[k] ts[k]
  | _ :: _, _ :: _, h, 0, _, _ => h.1
  | _ :: ps, _ :: ts, h, k + 1, h1, h2 => AllTok.get (ps := ps) (ts := ts) h.2 k (by simpa using h1) (by simpa using h2)
  | [], [], _, _, h1, _ => absurd h1 (Nat.not_lt_zero _)
  | [], _ :: _, h, _, _, _ => h.elim
  | _ :: _, [], h, _, _, _ => h.elim
theorem lexAll_live {l : List UInt8} {n i : Nat} {t : Tok} {e : Nat} (hl : lexAt l i = (t, e)) (hk : ¬ (t.kind = 0 ∨ t.kind = 5)) : lexAll l (n + 1) i = t :: lexAll l n e := by
  show (if (lexAt l i).1.kind = 0 ∨ (lexAt l i).1.kind = 5 then [(lexAt l i).1] else (lexAt l i).1 :: lexAll l n (lexAt l i).2) = _
  rw [hl, if_neg hk]
theorem lexAll_dead {l : List UInt8} {n i : Nat} {t : Tok} {e : Nat} (hl : lexAt l i = (t, e)) (hk : t.kind = 0 ∨ t.kind = 5) : lexAll l (n + 1) i = [t] := by
  show (if (lexAt l i).1.kind = 0 ∨ (lexAt l i).1.kind = 5 then [(lexAt l i).1] else (lexAt l i).1 :: lexAll l n (lexAt l i).2) = _
  rw [hl, if_pos hk]
/-- The tokens so far, and where the lexer stands. -/
def LexRel (s : ByteArray) (ps : List PTok) (at_ : Nat) : Prop := at_ ≤ s.size ∧ ps.length ≤ at_ ∧ ∃ ts m, lexAll (bl s) ((bl s).length + 1) 0 = ts ++ lexAll (bl s) m at_ ∧ s.size + 1 ≤ m + at_ ∧ AllTok ps ts
theorem LexRel.start (s : ByteArray) : LexRel s [] 0 := ⟨Nat.zero_le _, Nat.le_refl _, [], (bl s).length + 1, rfl, by rw [bl_length]; omega, trivial⟩
theorem LexRel.skip {s : ByteArray} {ps : List PTok} {at_ : Nat} (h : LexRel s ps at_) (hlt : at_ < s.size) (hc : s[at_] = 32) : LexRel s ps (at_ + 1) := by
  obtain ⟨_, h2, ts, m, h3, h4, h5⟩ := h
  refine ⟨hlt, by omega, ts, m, ?_, by omega, h5⟩
  rw [h3]
  congr 1
  cases m with
  | zero => rfl
  | succ m =>
    show (if (lexAt (bl s) at_).1.kind = 0 ∨ (lexAt (bl s) at_).1.kind = 5 then [(lexAt (bl s) at_).1] else (lexAt (bl s) at_).1 :: lexAll (bl s) m (lexAt (bl s) at_).2) = _
    rw [lexAt_skip s at_ hlt hc]
    rfl
theorem LexRel.token {s : ByteArray} {ps : List PTok} {at_ : Nat} (h : LexRel s ps at_) {t : Tok} {e : Nat} (hl : lexAt (bl s) at_ = (t, e)) (hk : ¬ (t.kind = 0 ∨ t.kind = 5)) {p : PTok} (hp : TokIs p t) : LexRel s (ps ++ [p]) e := by
  obtain ⟨h1, h2, ts, m, h3, h4, h5⟩ := h
  have hg := lexAt_gt (bl s) at_ (by rw [bl_length]; exact h1)
  rw [hl] at hg
  have hgt := hg.1 (fun h => hk (Or.inl h))
  have hle := hg.2
  rw [bl_length] at hle
  simp only at hgt hle
  obtain ⟨m', rfl⟩ : ∃ m', m = m' + 1 := ⟨m - 1, by omega⟩
  refine ⟨hle, by simp; omega, ts ++ [t], m', ?_, by omega, h5.snoc hp⟩
  rw [h3, lexAll_live hl hk, List.append_assoc]
  rfl
theorem LexRel.done {s : ByteArray} {ps : List PTok} {at_ : Nat} (h : LexRel s ps at_) {t : Tok} {e : Nat} (hl : lexAt (bl s) at_ = (t, e)) (hk : t.kind = 0 ∨ t.kind = 5) {p : PTok} (hp : TokIs p t) : AllTok (ps ++ [p]) (lexAll (bl s) ((bl s).length + 1) 0) := by
  obtain ⟨h1, h2, ts, m, h3, h4, h5⟩ := h
  obtain ⟨m', rfl⟩ : ∃ m', m = m' + 1 := ⟨m - 1, by omega⟩
  rw [h3, lexAll_dead hl hk]
  exact h5.snoc hp
theorem lexAt_end (s : ByteArray) : lexAt (bl s) s.size = (⟨0, [], s.size⟩, s.size) := by
  unfold lexAt
  have hd : (bl s).drop s.size = [] := List.drop_of_length_le (by rw [bl_length]; exact Nat.le_refl _)
  rw [hd]
  show lexJ (bl s) s.size = _
  unfold lexJ
  rw [hd]
/-- a number, or letters: the run is one token, or none. -/
theorem lexAt_digit {s : ByteArray} {k : Nat} (h : k < s.size) (hd : digit s[k] = true) : lexAt (bl s) k = (if (number 1000000000 (((bl s).drop k).take (run digit ((bl s).drop k)))).isSome then ⟨1, ((bl s).drop k).take (run digit ((bl s).drop k)), k⟩ else ⟨5, [], k⟩, k + run digit ((bl s).drop k)) := by
  have hne : s[k] ≠ 32 := by rintro e; rw [e] at hd; revert hd; decide
  rw [lexAt_at s k h hne]
  unfold lexC
  rw [if_pos hd, ← drop_cons s k h]
theorem lexAt_letter {s : ByteArray} {k : Nat} (h : k < s.size) (hd : digit s[k] = false) (hl : letter s[k] = true) : lexAt (bl s) k = (if 8 < run letter ((bl s).drop k) then ⟨5, [], k⟩ else ⟨2, ((bl s).drop k).take (run letter ((bl s).drop k)), k⟩, k + run letter ((bl s).drop k)) := by
  have hne : s[k] ≠ 32 := by rintro e; rw [e] at hl; revert hl; decide
  rw [lexAt_at s k h hne]
  unfold lexC
  rw [if_neg (by rw [hd]; exact Bool.false_ne_true), if_pos hl, ← drop_cons s k h]
end Go.Proofs.YtmncdbepjhmkgaaGreatDoor
/- The plain tokens at a mark and at a quote, in the forms that the program's lexer takes. -/
namespace Go.Proofs.YtmncdbepjhmkgaaGreatDoor
open Go.RowKit LS

theorem lexAt_mark {s : ByteArray} {k : Nat} (h : k < s.size) (h32 : s[k] ≠ 32) (hd : digit s[k] = false) (hl : letter s[k] = false) (hq : s[k] ≠ 34) : lexAt (bl s) k = if markS s[k] ((bl s).drop (k + 1)) = [] then (⟨5, [], k⟩, k + 1) else (⟨4, markS s[k] ((bl s).drop (k + 1)), k⟩, k + (markS s[k] ((bl s).drop (k + 1))).length) := by
  rw [lexAt_at s k h h32]
  unfold lexC markS
  rw [hd, hl, beq_eq_false_iff_ne.2 hq]
  simp only [Bool.false_eq_true, if_false]
  split
  · rfl
  · split <;> rfl
theorem isWord_front {a b : List UInt8} (h : isWord (a ++ b) = true) : isWord a = true := by
  unfold isWord at h ⊢
  rw [Bool.and_eq_true] at h ⊢
  obtain ⟨h1, h2⟩ := h
  simp at h1 h2 ⊢
  constructor
  · exact h1.1
  · omega
theorem lexAt_quote {s : ByteArray} {k : Nat} (h : k < s.size) (hq : s[k] = 34) : lexAt (bl s) k = match seek 34 ((bl s).drop (k + 1)) with
    | none => (⟨5, [], k⟩, (bl s).length)
    | some p => (if isWord (((bl s).drop (k + 1)).take p) then ⟨3, ((bl s).drop (k + 1)).take p, k⟩ else ⟨5, [], k⟩, k + p + 2) := by
  rw [lexAt_at s k h (by rw [hq]; decide)]
  unfold lexC
  rw [hq]
  rw [show digit 34 = false by decide, show letter 34 = false by decide]
  simp only [Bool.false_eq_true, if_false, beq_self_eq_true, if_true]
  rfl
/-- The quote is shut at E. -/
theorem lexAt_shut {s : ByteArray} {k n : Nat} (h : k < s.size) (hq : s[k] = 34) (hn : k + 1 + n < s.size) (hE : s[k + 1 + n] = 34) (hno : 34 ∉ ((bl s).drop (k + 1)).take n) (hw : isWord (((bl s).drop (k + 1)).take n) = true) : lexAt (bl s) k = (⟨3, ((bl s).drop (k + 1)).take n, k⟩, k + n + 2) := by
  rw [lexAt_quote h hq]
  have hl : (((bl s).drop (k + 1)).take n).length = n := by rw [List.length_take, List.length_drop, bl_length]; omega
  have hs : seek 34 ((bl s).drop (k + 1)) = some n := by
    rw [← List.take_append_drop n ((bl s).drop (k + 1)), List.drop_drop, drop_cons s (k + 1 + n) hn, hE, seek_mid 34 _ _ hno, hl]
  rw [hs]
  simp only [hw, if_true]
/-- The quote is never shut. -/
theorem lexAt_open {s : ByteArray} {k : Nat} (h : k < s.size) (hq : s[k] = 34) (hno : 34 ∉ (bl s).drop (k + 1)) : lexAt (bl s) k = (⟨5, [], k⟩, (bl s).length) := by
  rw [lexAt_quote h hq, (seek_none_iff 34 _).2 hno]
/-- What stands behind the quote is no word. -/
theorem lexAt_noWord {s : ByteArray} {k n : Nat} (h : k < s.size) (hq : s[k] = 34) (hno : 34 ∉ ((bl s).drop (k + 1)).take n) (hw : isWord (((bl s).drop (k + 1)).take n) = false) : ∃ e, lexAt (bl s) k = (⟨5, [], k⟩, e) := by
  rw [lexAt_quote h hq]
  cases hs : seek 34 ((bl s).drop (k + 1)) with
  | none => exact ⟨_, rfl⟩
  | some p =>
    refine ⟨k + p + 2, ?_⟩
    obtain ⟨a, b, h1, h2, h3⟩ := seek_some hs
    have hnp : n ≤ p := by
      by_cases hp : n ≤ p
      · exact hp
      · exfalso
        apply hno
        rw [h1, List.take_append, List.take_of_length_le (by omega)]
        rw [show n - a.length = (n - a.length - 1) + 1 by omega]
        simp
    have hf : isWord (((bl s).drop (k + 1)).take p) = false := by
      cases hx : isWord (((bl s).drop (k + 1)).take p)
      · rfl
      · exfalso
        have : ((bl s).drop (k + 1)).take p = ((bl s).drop (k + 1)).take n ++ (((bl s).drop (k + 1)).drop n).take (p - n) := by
          rw [← List.take_add]; congr 1; omega
        rw [this] at hx
        rw [isWord_front hx] at hw
        exact Bool.noConfusion hw
    simp only [hf, Bool.false_eq_true, if_false]
end Go.Proofs.YtmncdbepjhmkgaaGreatDoor
/- What the lexer's inner loop keeps while it goes through a quoted text. -/
namespace Go.Proofs.YtmncdbepjhmkgaaGreatDoor
open Go.RowKit LS

/-- n bytes behind the quote at k: none is a quote, all are a word. -/
def QRel (s : ByteArray) (k n : Nat) : Prop := k + 1 + n ≤ s.size ∧ 34 ∉ ((bl s).drop (k + 1)).take n ∧ isWord (((bl s).drop (k + 1)).take n) = true
theorem QRel.start {s : ByteArray} {k : Nat} (h : k < s.size) : QRel s k 0 := ⟨by omega, by simp, by rfl⟩
theorem bl_quoted {s : ByteArray} {k n : Nat} (_ : k + 1 + n ≤ s.size) : bl (s.extract (k + 1) (k + 1 + n)) = ((bl s).drop (k + 1)).take n := by
  rw [bl_extract, List.drop_take]; congr 1; omega
theorem QRel.shut {s : ByteArray} {k n : Nat} {ps : List PTok} (h : QRel s k n) (HL : LexRel s ps k) (hk : k < s.size) (hq : s[k] = 34) (hn : k + 1 + n < s.size) (hE : s[k + 1 + n] = 34) : LexRel s (ps ++ [⟨2, k, s.extract (k + 1) (k + 1 + n), 0⟩]) (k + 1 + n + 1) := by
  have hx := lexAt_shut hk hq hn hE h.2.1 h.2.2
  rw [show k + 1 + n + 1 = k + n + 2 by omega]
  exact HL.token (t := ⟨3, ((bl s).drop (k + 1)).take n, k⟩) hx (by show ¬ ((3 : Nat) = 0 ∨ (3 : Nat) = 5); decide) ⟨rfl, rfl, bl_quoted (by omega), fun h => by cases h⟩
theorem QRel.never {s : ByteArray} {k n : Nat} {ps : List PTok} (h : QRel s k n) (HL : LexRel s ps k) (hk : k < s.size) (hq : s[k] = 34) (hn : ¬ k + 1 + n < s.size) : AllTok (ps ++ [⟨5, k, ⟨#[]⟩, 0⟩]) (lexAll (bl s) ((bl s).length + 1) 0) := by
  have hno : 34 ∉ (bl s).drop (k + 1) := by
    have := h.2.1
    rwa [List.take_of_length_le (by rw [List.length_drop, bl_length]; omega)] at this
  exact HL.done (t := ⟨5, [], k⟩) (lexAt_open hk hq hno) (Or.inr rfl) ⟨rfl, rfl, rfl, fun h => by cases h⟩
theorem take_one {s : ByteArray} {k n : Nat} (hn : k + 1 + n < s.size) : ((bl s).drop (k + 1)).take (n + 1) = ((bl s).drop (k + 1)).take n ++ [s[k + 1 + n]] := by
  rw [List.take_add, List.drop_drop, drop_cons s (k + 1 + n) hn]
  rfl
theorem QRel.no {s : ByteArray} {k n : Nat} (h : QRel s k n) (hn : k + 1 + n < s.size) (hE : s[k + 1 + n] ≠ 34) : 34 ∉ ((bl s).drop (k + 1)).take (n + 1) := by
  rw [take_one hn, List.mem_append]
  rintro (h1 | h1)
  · exact h.2.1 h1
  · simp at h1; exact hE h1.symm
theorem QRel.bad {s : ByteArray} {k n : Nat} {ps : List PTok} (h : QRel s k n) (HL : LexRel s ps k) (hk : k < s.size) (hq : s[k] = 34) (hn : k + 1 + n < s.size) (hE : s[k + 1 + n] ≠ 34) (hw : isWord (bl (s.extract (k + 1) (k + 1 + n + 1))) = false) : AllTok (ps ++ [⟨5, k, ⟨#[]⟩, 0⟩]) (lexAll (bl s) ((bl s).length + 1) 0) := by
  rw [show k + 1 + n + 1 = k + 1 + (n + 1) by omega, bl_quoted (by omega)] at hw
  obtain ⟨e, he⟩ := lexAt_noWord hk hq (h.no hn hE) hw
  exact HL.done (t := ⟨5, [], k⟩) he (Or.inr rfl) ⟨rfl, rfl, rfl, fun h => by cases h⟩
theorem QRel.go {s : ByteArray} {k n : Nat} (h : QRel s k n) (hn : k + 1 + n < s.size) (hE : s[k + 1 + n] ≠ 34) (hw : isWord (bl (s.extract (k + 1) (k + 1 + n + 1))) = true) : QRel s k (n + 1) := by
  rw [show k + 1 + n + 1 = k + 1 + (n + 1) by omega, bl_quoted (by omega)] at hw
  exact ⟨by omega, h.no hn hE, hw⟩
end Go.Proofs.YtmncdbepjhmkgaaGreatDoor
