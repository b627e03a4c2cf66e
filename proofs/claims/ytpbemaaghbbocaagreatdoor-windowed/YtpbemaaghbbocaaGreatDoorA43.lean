/- Parts. -/
import Derived.Test.YtpbemaaghbbocaaGreatDoorA42
import Derived.Test.YtpbemaaghbbocaaGreatDoorA16
namespace Go.Proofs.YtpbemaaghbbocaaGreatDoor
open Go.RowKit LS
set_option maxRecDepth 100000 in
set_option maxHeartbeats 8000000 in
theorem gEval_any (q s : ByteArray) (f l st : Int) (A : Nat → Addr) (m : Int) (w : World) (hv : Vars w A m) (ht : PowTab w) (hB : 20 ≤ w.heap.size) (hq : q.size ≤ 9223372036854775807) (hs : s.size ≤ maxLen) :
    Calls Tryz.prog 10 #[.string q, .string s, .agg #[.int .i64 f, .int .i64 l, .int .i64 st]] w fun e w' => ∃ (r : ByteArray) (c p : Nat), e = .returned (.tuple #[.string r, .int .i64 c, .int .i64 p]) ∧ Hid (evalQ (bl q) (bl s) f l st = (bl r, c, p)) ∧ Below w.heap.size w w' := by
  have HV : Hid (Vars w A m) := hv
  have HE : Hid (∀ W, Below w.heap.size w W → Calls Tryz.prog 23 #[.string q, .string s, .agg #[.int .i64 f, .int .i64 l, .int .i64 st]] W _) := hid (fun W hb => evaluate_any q s f l st A m W (hv.below hb) (ht.low hb hB) (Nat.le_trans hB hb.size) hq hs)
  clear hv ht hB hq hs
  go_enter Tryz.func10, Tryz.ntmps10
  go_wp2_with fail
  refine calls_gen fun W hW => ?_
  have hbW : Below w.heap.size w W := by rw [hW]; exact (Below.refl _ _).alloc (Nat.le_refl _) _
  refine (HE.out W hbW).mono ?_
  rintro e w1 ⟨r, err, c, p, rfl, HER, HQ, hb1⟩
  have HB1 : Hid (Below w.heap.size w w1) := hid (hbW.trans (hb1.mono hbW.size))
  have HV1 := hid (HV.out.below HB1.out)
  clear hb1 hbW hW HE HV
  rcases HER.out with ⟨rfl, rfl, rfl⟩ | ⟨rfl, rfl, rfl⟩ | ⟨rfl, rfl, rfl⟩ | ⟨rfl, rfl, rfl⟩ | ⟨rfl, rfl, rfl⟩ | ⟨fa, rfl, h1, h⟩
  · clear HER
    go_wp2_with fail
    refine (number_nil A m _ HV1.out).mono ?_
    rintro e wq ⟨rfl, rfl⟩
    go_wp2_with fail
    refine (place_nil _).mono ?_
    rintro e w2 ⟨rfl, hb2⟩
    have HB2 : Hid (Below w.heap.size w w2) := hid (HB1.out.trans (hb2.mono HB1.out.size))
    clear hb2
    go_wp2
    go_ret3
    exact ⟨r, _, _, rfl, HQ, HB2.out⟩
  · clear HER
    go_wp2_with fail
    refine (number_long A m _ HV1.out).mono ?_
    rintro e wq ⟨rfl, rfl⟩
    go_wp2_with fail
    refine (place_bare A m _ _ HV1.out).mono ?_
    rintro e w2 ⟨rfl, hb2⟩
    have HB2 : Hid (Below w.heap.size w w2) := hid (HB1.out.trans (hb2.mono HB1.out.size))
    clear hb2
    go_wp2
    go_ret3
    exact ⟨r, _, _, rfl, HQ, HB2.out⟩
  · clear HER
    go_wp2_with fail
    refine (number_type A m _ HV1.out).mono ?_
    rintro e wq ⟨rfl, rfl⟩
    go_wp2_with fail
    refine (place_bare A m _ _ HV1.out).mono ?_
    rintro e w2 ⟨rfl, hb2⟩
    have HB2 : Hid (Below w.heap.size w w2) := hid (HB1.out.trans (hb2.mono HB1.out.size))
    clear hb2
    go_wp2
    go_ret3
    exact ⟨r, _, _, rfl, HQ, HB2.out⟩
  · clear HER
    go_wp2_with fail
    refine (number_many A m _ HV1.out).mono ?_
    rintro e wq ⟨rfl, rfl⟩
    go_wp2_with fail
    refine (place_bare A m _ _ HV1.out).mono ?_
    rintro e w2 ⟨rfl, hb2⟩
    have HB2 : Hid (Below w.heap.size w w2) := hid (HB1.out.trans (hb2.mono HB1.out.size))
    clear hb2
    go_wp2
    go_ret3
    exact ⟨r, _, _, rfl, HQ, HB2.out⟩
  · clear HER
    go_wp2_with fail
    refine (number_times A m _ HV1.out).mono ?_
    rintro e wq ⟨rfl, rfl⟩
    go_wp2_with fail
    refine (place_bare A m _ _ HV1.out).mono ?_
    rintro e w2 ⟨rfl, hb2⟩
    have HB2 : Hid (Below w.heap.size w w2) := hid (HB1.out.trans (hb2.mono HB1.out.size))
    clear hb2
    go_wp2
    go_ret3
    exact ⟨r, _, _, rfl, HQ, HB2.out⟩
  · have HC1 : Hid (w1.cell? ⟨fa, 1, none⟩ = some (.int .i64 p)) := h1
    clear HER h1
    rcases h with ⟨rfl, h2⟩ | ⟨rfl, h2⟩ | ⟨rfl, h2⟩ | ⟨rfl, h2⟩
    · have HC2 := hid h2
      clear h2
      go_wp2_with fail
      refine (number_syntax A m _ HV1.out fa HC2.out).mono ?_
      rintro e wq ⟨rfl, rfl⟩
      go_wp2_with fail
      refine (place_fault A m fa p _ HV1.out HC1.out).mono ?_
      rintro e w2 ⟨rfl, hb2⟩
      have HB2 : Hid (Below w.heap.size w w2) := hid (HB1.out.trans (hb2.mono HB1.out.size))
      clear hb2
      go_wp2
      go_ret3
      exact ⟨r, _, _, rfl, HQ, HB2.out⟩
    · have HC2 := hid h2
      clear h2
      go_wp2_with fail
      refine (number_deep A m _ HV1.out fa HC2.out).mono ?_
      rintro e wq ⟨rfl, rfl⟩
      go_wp2_with fail
      refine (place_fault A m fa p _ HV1.out HC1.out).mono ?_
      rintro e w2 ⟨rfl, hb2⟩
      have HB2 : Hid (Below w.heap.size w w2) := hid (HB1.out.trans (hb2.mono HB1.out.size))
      clear hb2
      go_wp2
      go_ret3
      exact ⟨r, _, _, rfl, HQ, HB2.out⟩
    · have HC2 := hid h2
      clear h2
      go_wp2_with fail
      refine (number_store A m _ HV1.out fa HC2.out).mono ?_
      rintro e wq ⟨rfl, rfl⟩
      go_wp2_with fail
      refine (place_fault A m fa p _ HV1.out HC1.out).mono ?_
      rintro e w2 ⟨rfl, hb2⟩
      have HB2 : Hid (Below w.heap.size w w2) := hid (HB1.out.trans (hb2.mono HB1.out.size))
      clear hb2
      go_wp2
      go_ret3
      exact ⟨r, _, _, rfl, HQ, HB2.out⟩
    · have HC2 := hid h2
      clear h2
      go_wp2_with fail
      refine (number_twice A m _ HV1.out fa HC2.out).mono ?_
      rintro e wq ⟨rfl, rfl⟩
      go_wp2_with fail
      refine (place_fault A m fa p _ HV1.out HC1.out).mono ?_
      rintro e w2 ⟨rfl, hb2⟩
      have HB2 : Hid (Below w.heap.size w w2) := hid (HB1.out.trans (hb2.mono HB1.out.size))
      clear hb2
      go_wp2
      go_ret3
      exact ⟨r, _, _, rfl, HQ, HB2.out⟩
def awQ : List UInt8 := [97, 43, 98, 42, 99]
def awP : List UInt8 := [97, 32, 43, 32, 98, 32, 42, 32, 99]
def awE : List UInt8 := [99, 32, 43, 32, 100]
def awS : List UInt8 := [99, 123, 104, 61, 97, 125, 32, 49, 58, 53, 32, 52, 58, 56, 10, 99, 123, 104, 61, 98, 125, 32, 52, 58, 50, 10, 100, 123, 104, 61, 97, 125, 32, 52, 58, 51]
def awA : List UInt8 := [49, 10, 52, 32, 123, 104, 61, 97, 125, 49, 49]
theorem aw_print : printQ awQ = (awP, 0, 0) := by kernel_rfl
theorem aw_eval : evalQ awE awS 1 4 3 = (awA, 0, 0) := by kernel_rfl
theorem bl_is {r : ByteArray} {l : List UInt8} (h : bl r = l) : r = ⟨l.toArray⟩ := bl_inj (by rw [h, bl_mk])
set_option maxRecDepth 100000 in
set_option maxHeartbeats 4000000 in
theorem awake_any (A : Nat → Addr) (m : Int) (w : World) (hv : Vars w A m) (ht : PowTab w) (hB : 20 ≤ w.heap.size) :
    Calls Tryz.prog 8 #[] w fun e w' => e = .returned (.bool true) ∧ Below w.heap.size w w' := by
  have HP : Hid (∀ W, Below w.heap.size w W → Calls Tryz.prog 9 #[.string ⟨awQ.toArray⟩] W fun e w' => e = .returned (.tuple #[.string ⟨awP.toArray⟩, .int .i64 0, .int .i64 0]) ∧ Below W.heap.size W w') := hid (fun W hb => (gPrint_any ⟨awQ.toArray⟩ A m W (hv.below hb) (ht.low hb hB) (Nat.le_trans hB hb.size) (by decide)).mono (fun e w' ⟨r, c, p, h1, h2, _, h4⟩ => by
    have h := h2.out
    rw [bl_mk, aw_print] at h
    injection h with k1 k2
    injection k2 with k2 k3
    subst k2 k3
    rw [bl_is k1.symm] at h1
    exact ⟨h1, h4⟩))
  have HE : Hid (∀ W, Below w.heap.size w W → Calls Tryz.prog 10 #[.string ⟨awE.toArray⟩, .string ⟨awS.toArray⟩, .agg #[.int .i64 1, .int .i64 4, .int .i64 3]] W fun e w' => e = .returned (.tuple #[.string ⟨awA.toArray⟩, .int .i64 0, .int .i64 0]) ∧ Below W.heap.size W w') := hid (fun W hb => (gEval_any ⟨awE.toArray⟩ ⟨awS.toArray⟩ 1 4 3 A m W (hv.below hb) (ht.low hb hB) (Nat.le_trans hB hb.size) (by decide) (by decide)).mono (fun e w' ⟨r, c, p, h1, h2, h4⟩ => by
    have h := h2.out
    rw [bl_mk, bl_mk, aw_eval] at h
    injection h with k1 k2
    injection k2 with k2 k3
    subst k2 k3
    rw [bl_is k1.symm] at h1
    exact ⟨h1, h4⟩))
  clear hv ht hB
  go_enter Tryz.func8, Tryz.ntmps8
  go_wp2_with fail
  refine calls_gen fun W hW => ?_
  have hbW : Below w.heap.size w W := by rw [hW]; exact Below.refl _ _
  refine (HP.out W hbW).mono ?_
  rintro e w1 ⟨rfl, hb1⟩
  have HB1 : Hid (Below w.heap.size w w1) := hid (hbW.trans (hb1.mono hbW.size))
  clear hb1 hbW hW HP
  go_wp2_with fail
  refine calls_gen fun W hW => ?_
  have hbW : Below w.heap.size w W := by rw [hW]; exact HB1.out
  refine (HE.out W hbW).mono ?_
  rintro e w2 ⟨rfl, hb2⟩
  have HB2 : Hid (Below w.heap.size w w2) := hid (hbW.trans (hb2.mono hbW.size))
  clear hb2 hbW hW HE HB1
  go_wp2
  go_ret
  exact ⟨rfl, HB2.out⟩
def sh (t : Tok) : Nat × List UInt8 := (t.kind, t.txt)
abbrev Sh := Nat × List UInt8
inductive Lx : List UInt8 → List Sh → Prop
  | nil : Lx [] [(0, [])]
  | skip {r : List UInt8} {T : List Sh} : Lx r T → Lx (32 :: r) T
  | num {c : UInt8} {d r : List UInt8} {T : List Sh} : digit c = true → d.all digit = true → (number 1000000000 (c :: d)).isSome = true → run digit r = 0 → Lx r T → Lx (c :: d ++ r) ((1, c :: d) :: T)
  | name {c : UInt8} {d r : List UInt8} {T : List Sh} : letter c = true → d.all letter = true → d.length ≤ 7 → run letter r = 0 → Lx r T → Lx (c :: d ++ r) ((2, c :: d) :: T)
  | word {v r : List UInt8} {T : List Sh} : isWord v = true → Lx r T → Lx (34 :: (v ++ 34 :: r)) ((3, v) :: T)
  | ne {r : List UInt8} {T : List Sh} : Lx r T → Lx (33 :: 61 :: r) ((4, [33, 61]) :: T)
  | sign {c : UInt8} {r : List UInt8} {T : List Sh} : c ∈ signs → Lx r T → Lx (c :: r) ((4, [c]) :: T)
theorem run_app (p : UInt8 → Bool) : ∀ (d r : List UInt8), d.all p = true → run p r = 0 → run p (d ++ r) = d.length
  | [], _, _, h => h
  | c :: d, r, h, hr => by
    rw [List.all_cons, Bool.and_eq_true] at h
    rw [List.cons_append, run, if_pos h.1, run_app p d r h.2 hr, List.length_cons]
theorem lexAt_sk {l r : List UInt8} {i : Nat} (h : l.drop i = 32 :: r) : lexAt l i = lexAt l (i + 1) := by
  have h1 : l.drop (i + 1) = r := by rw [← List.drop_drop, h]; rfl
  unfold lexAt
  rw [h, h1]
  have : run (· == 32) (32 :: r) = run (· == 32) r + 1 := rfl
  rw [this, show i + (run (· == 32) r + 1) = i + 1 + run (· == 32) r by omega]
theorem lexAt_go {l r : List UInt8} {i : Nat} {c : UInt8} (h : l.drop i = c :: r) (hc : c ≠ 32) : lexAt l i = lexC l i c r := by
  unfold lexAt
  rw [h]
  have : run (· == 32) (c :: r) = 0 := by simp [run, hc]
  rw [this, Nat.add_zero]
  unfold lexJ
  rw [h]
theorem signs_no {c : UInt8} (h : c ∈ signs) : digit c = false ∧ letter c = false ∧ (c == 34) = false ∧ (c == 33) = false ∧ (seek c signs).isSome = true ∧ c ≠ 32 := by
  have : ∀ x ∈ signs, digit x = false ∧ letter x = false ∧ (x == 34) = false ∧ (x == 33) = false ∧ (seek x signs).isSome = true ∧ x ≠ 32 := by decide
  exact this c h
theorem word_noA {v : List UInt8} (h : isWord v = true) : (34 : UInt8) ∉ v := by
  intro hm
  unfold isWord at h
  rw [Bool.and_eq_true] at h
  exact absurd (List.all_eq_true.1 h.1 _ hm) (by decide)
theorem dig_not {c : UInt8} (h : digit c = true) : c ≠ 32 := by rintro rfl; exact absurd h (by decide)
theorem let_not {c : UInt8} (h : letter c = true) : c ≠ 32 ∧ digit c = false := by
  refine ⟨by rintro rfl; exact absurd h (by decide), ?_⟩
  simp only [letter, digit, Bool.and_eq_true, decide_eq_true_eq, Bool.and_eq_false_iff, decide_eq_false_iff_not] at *
  omega
theorem lx_step {l : List UInt8} {i n : Nat} {k : Nat} {x : List UInt8} {j : Nat} {T : List Sh} (h : lexAt l i = (⟨k, x, i⟩, j)) (hk : ¬ (k = 0 ∨ k = 5)) (hT : (lexAll l n j).map sh = T) : (lexAll l (n + 1) i).map sh = (k, x) :: T := by
  rw [lexAll, h, if_neg hk, List.map_cons, hT]; rfl
theorem drop_at {l p r : List UInt8} {i : Nat} (h : l.drop i = p ++ r) : l.drop (i + p.length) = r := by
  rw [← List.drop_drop, h, List.drop_left]
theorem drop_len {l p r : List UInt8} {i : Nat} (hi : i ≤ l.length) (h : l.drop i = p ++ r) : i + p.length ≤ l.length := by
  have := congrArg List.length h
  rw [List.length_drop, List.length_append] at this
  omega
theorem lx_all {m : List UInt8} {T : List Sh} (h : Lx m T) : ∀ (l : List UInt8) (i n : Nat), l.drop i = m → i ≤ l.length → l.length + 1 ≤ n + i → (lexAll l n i).map sh = T := by
  induction h with
  | nil =>
    intro l i n hd hi hn
    obtain ⟨n, rfl⟩ : ∃ k, n = k + 1 := ⟨n - 1, by have := congrArg List.length hd; simp at this; omega⟩
    have e : lexAt l i = (⟨0, [], i⟩, i) := by
      unfold lexAt
      rw [hd]
      show lexJ l i = _
      unfold lexJ
      rw [hd]
    rw [lexAll, e, if_pos (Or.inl rfl)]; rfl
  | @skip r T hr ih =>
    intro l i n hd hi hn
    have h1 : l.drop (i + 1) = r := drop_at (p := [32]) hd
    have h2 : i + 1 ≤ l.length := drop_len (p := [32]) hi hd
    obtain ⟨n, rfl⟩ : ∃ k, n = k + 1 := ⟨n - 1, by omega⟩
    have := ih l (i + 1) (n + 1) h1 h2 (by omega)
    rw [lexAll, ← lexAt_sk hd] at this
    rw [lexAll]; exact this
  | @num c d r T h1 h2 h3 h4 hr ih =>
    intro l i n hd hi hn
    have g1 := drop_at (p := c :: d) hd
    have g2 := drop_len (p := c :: d) hi hd
    rw [List.length_cons] at g1 g2
    obtain ⟨n, rfl⟩ : ∃ k, n = k + 1 := ⟨n - 1, by omega⟩
    have hrun : run digit (c :: (d ++ r)) = d.length + 1 := run_app digit (c :: d) r (by simp [h1, h2]) h4
    have htk : (c :: (d ++ r)).take (d.length + 1) = c :: d := by simp
    have e : lexAt l i = (⟨1, c :: d, i⟩, i + (d.length + 1)) := by
      rw [lexAt_go (r := d ++ r) (by rw [hd]; rfl) (dig_not h1), lexC, if_pos h1, hrun, htk, if_pos h3]
    exact lx_step e (by omega) (ih l _ n g1 g2 (by omega))
  | @name c d r T h1 h2 h3 h4 hr ih =>
    intro l i n hd hi hn
    have g1 := drop_at (p := c :: d) hd
    have g2 := drop_len (p := c :: d) hi hd
    rw [List.length_cons] at g1 g2
    obtain ⟨n, rfl⟩ : ∃ k, n = k + 1 := ⟨n - 1, by omega⟩
    have hrun : run letter (c :: (d ++ r)) = d.length + 1 := run_app letter (c :: d) r (by simp [h1, h2]) h4
    have htk : (c :: (d ++ r)).take (d.length + 1) = c :: d := by simp
    have hnd := let_not h1
    have e : lexAt l i = (⟨2, c :: d, i⟩, i + (d.length + 1)) := by
      rw [lexAt_go (r := d ++ r) (by rw [hd]; rfl) hnd.1, lexC, if_neg (by rw [hnd.2]; exact Bool.false_ne_true), if_pos h1, hrun, htk, if_neg (by omega)]
    exact lx_step e (by omega) (ih l _ n g1 g2 (by omega))
  | @word v r T h1 hr ih =>
    intro l i n hd hi hn
    have g1 := drop_at (p := 34 :: (v ++ [34])) (r := r) (by rw [hd]; simp)
    have g2 := drop_len (p := 34 :: (v ++ [34])) (r := r) hi (by rw [hd]; simp)
    have hlen : (34 :: (v ++ [34])).length = v.length + 2 := by simp
    rw [hlen] at g1 g2
    obtain ⟨n, rfl⟩ : ∃ k, n = k + 1 := ⟨n - 1, by omega⟩
    have e : lexAt l i = (⟨3, v, i⟩, i + (v.length + 2)) := by
      rw [lexAt_go hd (by decide), lexC, if_neg (by decide), if_neg (by decide), if_pos (by decide), seek_mid 34 v r (word_noA h1)]
      simp only [List.take_left, h1, if_true]
      rfl
    exact lx_step e (by omega) (ih l _ n g1 g2 (by omega))
  | @ne r T hr ih =>
    intro l i n hd hi hn
    have g1 := drop_at (p := [33, 61]) (r := r) hd
    have g2 := drop_len (p := [33, 61]) (r := r) hi hd
    obtain ⟨n, rfl⟩ : ∃ k, n = k + 1 := ⟨n - 1, by omega⟩
    have e : lexAt l i = (⟨4, [33, 61], i⟩, i + 2) := by
      rw [lexAt_go hd (by decide), lexC, if_neg (by decide), if_neg (by decide), if_neg (by decide), if_pos (by simp)]
    exact lx_step e (by omega) (ih l _ n g1 g2 (by simp at g2; omega))
  | @sign c r T h1 hr ih =>
    intro l i n hd hi hn
    have g1 := drop_at (p := [c]) (r := r) hd
    have g2 := drop_len (p := [c]) (r := r) hi hd
    obtain ⟨n, rfl⟩ : ∃ k, n = k + 1 := ⟨n - 1, by omega⟩
    obtain ⟨s1, s2, s3, s4, s5, s6⟩ := signs_no h1
    have e : lexAt l i = (⟨4, [c], i⟩, i + 1) := by
      rw [lexAt_go hd s6, lexC, s1, s2, s3, s4, s5]
      rfl
    exact lx_step e (by omega) (ih l _ n g1 g2 (by simp at g2; omega))
theorem dig_ok {d : Nat} (h : d ≤ 9) : (dig d).toNat = 48 + d := by unfold dig; simp; omega
theorem dig_digit {d : Nat} (h : d ≤ 9) : digit (dig d) = true := by
  have := dig_ok h
  simp only [digit, Bool.and_eq_true, decide_eq_true_eq]
  omega
theorem decS_ok (n : Nat) : (decS n).all digit = true ∧ val (decS n) = n ∧ decS n ≠ [] ∧ ((decS n).head? = some 48 → (decS n).length = 1) := by
  induction n using Nat.strongRecOn with
  | _ n ih =>
    by_cases h : n ≤ 9
    · rw [decS_small h]
      refine ⟨by simp [dig_digit h], ?_, by simp, fun _ => rfl⟩
      show 10 * 0 + ((dig n).toNat - 48) = n
      rw [dig_ok h]; omega
    · obtain ⟨h1, h2, h3, h4⟩ := ih (n / 10) (by omega)
      rw [decS_great h]
      refine ⟨by rw [List.all_append, h1]; simp [dig_digit (show n % 10 ≤ 9 by omega)], ?_, by simp, fun hh => ?_⟩
      · rw [val_snoc, h2, dig_ok (show n % 10 ≤ 9 by omega)]; omega
      · exfalso
        have hh' : (decS (n / 10)).head? = some 48 := by
          cases hd : decS (n / 10) with
          | nil => exact absurd hd h3
          | cons a t => rw [hd] at hh; exact hh
        have hl := h4 hh'
        obtain ⟨c, hc⟩ := List.length_eq_one_iff.1 hl
        rw [hc] at hh' h2
        simp only [List.head?_cons, Option.some.injEq] at hh'
        subst hh'
        have : n / 10 = 0 := by rw [← h2]; rfl
        omega
theorem number_decS {n most : Nat} (h : n ≤ most) : number most (decS n) = some n := by
  obtain ⟨h1, h2, h3, h4⟩ := decS_ok n
  unfold number
  rw [h2, if_neg]
  rintro (h | h | h | h)
  · cases hd : decS n with
    | nil => exact h3 hd
    | cons a t => rw [hd] at h; simp at h
  · have := h4 h.1; omega
  · rw [h1] at h; cases h
  · omega
def stop (r : List UInt8) : Prop := run letter r = 0 ∧ run digit r = 0
theorem stop_nil : stop [] := ⟨rfl, rfl⟩
theorem stop_cons {c : UInt8} (r : List UInt8) (h1 : letter c = false) (h2 : digit c = false) : stop (c :: r) := ⟨by simp [run, h1], by simp [run, h2]⟩
theorem lx_dec {n : Nat} (h : n ≤ 1000000000) {r : List UInt8} {T : List Sh} (hs : stop r) (hr : Lx r T) : Lx (decS n ++ r) ((1, decS n) :: T) := by
  obtain ⟨h1, h2, h3, h4⟩ := decS_ok n
  have h5 := number_decS h
  cases hd : decS n with
  | nil => exact absurd hd h3
  | cons c d =>
    rw [hd] at h1 h5
    rw [List.all_cons, Bool.and_eq_true] at h1
    exact Lx.num h1.1 h1.2 (by rw [h5]; rfl) hs.2 hr
theorem lx_name {x : List UInt8} (h : isName x = true) {r : List UInt8} {T : List Sh} (hs : stop r) (hr : Lx r T) : Lx (x ++ r) ((2, x) :: T) := by
  unfold isName at h
  rw [Bool.and_eq_true, Bool.and_eq_true, decide_eq_true_eq, decide_eq_true_eq] at h
  cases x with
  | nil => exact absurd h.2.1 (by decide)
  | cons c d =>
    have h1 := h.1
    rw [List.all_cons, Bool.and_eq_true] at h1
    exact Lx.name h1.1 h1.2 (by have := h.2.2; rw [List.length_cons] at this; omega) hs.1 hr
abbrev Cnd := List UInt8 × List UInt8 × Bool
def condT (c : Cnd) : List Sh := [(2, c.1), (4, if c.2.2 then [33, 61] else [61]), (3, c.2.1)]
def sepT : List (List Sh) → List Sh
  | [] => []
  | [a] => a
  | a :: l => a ++ (4, [44]) :: sepT l
def selTk (a : Nd) : List Sh := (2, a.name) :: (if a.conds = [] then [] else (4, [123]) :: (sepT (a.conds.map condT) ++ [(4, [125])]))
def opTk (o : Nat) : Sh := (4, opS o)
def coreTk (a : Nd) (pl pr : Nat → List Sh) : List Sh :=
  if a.kind = 0 then [(1, decS a.n.toNat)]
  else if a.kind = 1 then selTk a
  else if a.kind = 2 then (2, overWords.getD a.op []) :: (4, [40]) :: (selTk a ++ [(4, [91]), (1, decS a.n.toNat), (4, [93]), (4, [41])])
  else if a.kind = 3 then (4, [45]) :: pl 4
  else if a.kind = 5 then (2, groupWords.getD a.op []) :: (2, wBy) :: (4, [40]) :: (sepT (a.by_.map fun x => [(2, x)]) ++ (4, [41]) :: (4, [40]) :: (pl 1 ++ [(4, [41])]))
  else if a.kind = 6 then pl 1 ++ (2, wOr) :: pr 2
  else pl (tightT a) ++ opTk a.op :: pr (tightT a + 1)
def wrapTk (b : Bool) (s : List Sh) : List Sh := if b then (4, [40]) :: (s ++ [(4, [41])]) else s
def toks : Tr → Nat → List Sh
  | .nil, _ => []
  | .node _ _ a l r, must => wrapTk (decide (tightT a < must)) (coreTk a (toks l) (toks r))
def cndOk (c : Cnd) : Prop := isName c.1 = true ∧ isWord c.2.1 = true
def selOk (nm : List UInt8) (cs : List Cnd) : Prop := isName nm = true ∧ idx nm groupWords = none ∧ idx nm overWords = none ∧ nm ≠ wOr ∧ nm ≠ wBy ∧ ∀ c ∈ cs, cndOk c
inductive GT : Tr → Prop
  | num (n : Nat) : n ≤ 1000000000 → GT (leafT ⟨0, 0, (n : Int), [], [], []⟩)
  | sel (nm : List UInt8) (cs : List Cnd) : selOk nm cs → GT (leafT ⟨1, 0, 0, nm, cs, []⟩)
  | win (o n : Nat) (nm : List UInt8) (cs : List Cnd) : o < 5 → 1 ≤ n → n ≤ 1000 → selOk nm cs → GT (leafT ⟨2, o, (n : Int), nm, cs, []⟩)
  | neg (l : Tr) : GT l → GT (.node 0 0 (nd0 3 0) l .nil)
  | grp (g : Nat) (ns : List (List UInt8)) (l : Tr) : g < 4 → (∀ x ∈ ns, isName x = true) → GT l → GT (.node 0 0 ⟨5, g, 0, [], [], ns⟩ l .nil)
  | bin (o : Nat) (l r : Tr) : o < 4 → GT l → GT r → GT (.node 0 0 (nd0 4 o) l r)
  | or (l r : Tr) : GT l → GT r → GT (.node 0 0 (nd0 6 0) l r)
theorem lx_sep {α : Type} (f : α → List UInt8) (g : α → List Sh) (ok : α → Prop) (hf : ∀ a, ok a → ∀ r T, stop r → Lx r T → Lx (f a ++ r) (g a ++ T)) : ∀ (l : List α), (∀ a ∈ l, ok a) → ∀ r T, stop r → Lx r T → Lx (commas (l.map f) ++ r) (sepT (l.map g) ++ T)
  | [], _, r, T, _, hr => hr
  | [a], h, r, T, hs, hr => hf a (h a (List.mem_cons_self ..)) r T hs hr
  | a :: b :: l, h, r, T, hs, hr => by
    have ih := lx_sep f g ok hf (b :: l) (fun x hx => h x (List.mem_cons_of_mem _ hx)) r T hs hr
    have e1 : commas ((a :: b :: l).map f) ++ r = f a ++ 44 :: (commas ((b :: l).map f) ++ r) := by
      show (f a ++ 44 :: commas ((b :: l).map f)) ++ r = _
      simp
    have e2 : sepT ((a :: b :: l).map g) ++ T = g a ++ (4, [44]) :: (sepT ((b :: l).map g) ++ T) := by
      show (g a ++ (4, [44]) :: sepT ((b :: l).map g)) ++ T = _
      simp
    rw [e1, e2]
    exact hf a (h a (List.mem_cons_self ..)) _ _ (stop_cons _ (by decide) (by decide)) (Lx.sign (by decide) ih)
theorem lx_cond (c : Cnd) (h : cndOk c) (r : List UInt8) (T : List Sh) (_ : stop r) (hr : Lx r T) : Lx (condS c ++ r) (condT c ++ T) := by
  obtain ⟨n, v, b⟩ := c
  obtain ⟨h1, h2⟩ := h
  have hw : Lx (34 :: (v ++ 34 :: r)) ((3, v) :: T) := Lx.word h2 hr
  cases b with
  | true =>
    have e : condS (n, v, true) ++ r = n ++ 33 :: 61 :: 34 :: (v ++ 34 :: r) := by simp [condS]
    rw [e]
    exact lx_name h1 (stop_cons _ (by decide) (by decide)) (Lx.ne hw)
  | false =>
    have e : condS (n, v, false) ++ r = n ++ 61 :: 34 :: (v ++ 34 :: r) := by simp [condS]
    rw [e]
    exact lx_name h1 (stop_cons _ (by decide) (by decide)) (Lx.sign (by decide) hw)
theorem lx_sel (a : Nd) (h : selOk a.name a.conds) (r : List UInt8) (T : List Sh) (hs : stop r) (hr : Lx r T) : Lx (selS a ++ r) (selTk a ++ T) := by
  unfold selS selTk
  by_cases hc : a.conds = []
  · rw [if_pos hc, if_pos hc]
    exact lx_name h.1 hs hr
  · rw [if_neg hc, if_neg hc]
    have e1 : a.name ++ [123] ++ commas (a.conds.map condS) ++ [125] ++ r = a.name ++ 123 :: (commas (a.conds.map condS) ++ 125 :: r) := by simp
    have e2 : ((2, a.name) :: (4, [123]) :: (sepT (a.conds.map condT) ++ [(4, [125])])) ++ T = (2, a.name) :: (4, [123]) :: (sepT (a.conds.map condT) ++ (4, [125]) :: T) := by simp
    rw [e1, e2]
    exact lx_name h.1 (stop_cons _ (by decide) (by decide)) (Lx.sign (by decide) (lx_sep condS condT cndOk lx_cond a.conds h.2.2.2.2.2 _ _ (stop_cons _ (by decide) (by decide)) (Lx.sign (by decide) hr)))
theorem over_name : ∀ o, o < 5 → isName (overWords.getD o []) = true := by decide
theorem group_name : ∀ o, o < 4 → isName (groupWords.getD o []) = true := by decide
theorem op_sign : ∀ o, o < 4 → ∃ c : UInt8, opS o = [c] ∧ c ∈ signs := by
  intro o ho
  obtain rfl | rfl | rfl | rfl : o = 0 ∨ o = 1 ∨ o = 2 ∨ o = 3 := by omega
  · exact ⟨43, rfl, by decide⟩
  · exact ⟨45, rfl, by decide⟩
  · exact ⟨42, rfl, by decide⟩
  · exact ⟨47, rfl, by decide⟩
def LxP (s : List UInt8) (S : List Sh) : Prop := ∀ r T, stop r → Lx r T → Lx (s ++ r) (S ++ T)
theorem lx_wrap {b : Bool} {s : List UInt8} {S : List Sh} (h : LxP s S) : LxP (wrapS b s) (wrapTk b S) := by
  cases b with
  | false => exact h
  | true =>
    intro r T hs hr
    have e1 : wrapS true s ++ r = 40 :: (s ++ 41 :: r) := by simp [wrapS]
    have e2 : wrapTk true S ++ T = (4, [40]) :: (S ++ (4, [41]) :: T) := by simp [wrapTk]
    rw [e1, e2]
    exact Lx.sign (by decide) (h _ _ (stop_cons _ (by decide) (by decide)) (Lx.sign (by decide) hr))
theorem lx_print {t : Tr} (h : GT t) : ∀ must, LxP (printT t must) (toks t must) := by
  induction h with
  | num n hn =>
    intro must
    exact lx_wrap (fun r T hs hr => lx_dec (n := n) hn hs hr)
  | sel nm cs h =>
    intro must
    exact lx_wrap (fun r T hs hr => lx_sel ⟨1, 0, 0, nm, cs, []⟩ h r T hs hr)
  | win o n nm cs ho h1 h2 h =>
    intro must
    refine lx_wrap (fun r T hs hr => ?_)
    have e1 : coreS ⟨2, o, (n : Int), nm, cs, []⟩ (printT .nil) (printT .nil) ++ r = overWords.getD o [] ++ 40 :: (selS ⟨2, o, (n : Int), nm, cs, []⟩ ++ 91 :: (decS n ++ 93 :: 41 :: r)) := by simp [coreS]
    have e2 : coreTk ⟨2, o, (n : Int), nm, cs, []⟩ (toks .nil) (toks .nil) ++ T = (2, overWords.getD o []) :: (4, [40]) :: (selTk ⟨2, o, (n : Int), nm, cs, []⟩ ++ (4, [91]) :: (1, decS n) :: (4, [93]) :: (4, [41]) :: T) := by simp [coreTk]
    rw [e1, e2]
    exact lx_name (over_name o ho) (stop_cons _ (by decide) (by decide)) (Lx.sign (by decide) (lx_sel ⟨2, o, (n : Int), nm, cs, []⟩ h _ _ (stop_cons _ (by decide) (by decide)) (Lx.sign (by decide) (lx_dec (by omega) (stop_cons _ (by decide) (by decide)) (Lx.sign (by decide) (Lx.sign (by decide) hr))))))
  | neg l _ ih =>
    intro must
    refine lx_wrap (fun r T hs hr => ?_)
    exact Lx.sign (by decide) (ih 4 r T hs hr)
  | grp g ns l hg hns _ ih =>
    intro must
    refine lx_wrap (fun r T hs hr => ?_)
    have e1 : coreS ⟨5, g, 0, [], [], ns⟩ (printT l) (printT .nil) ++ r = groupWords.getD g [] ++ 32 :: (wBy ++ 32 :: 40 :: (commas (ns.map id) ++ 41 :: 32 :: 40 :: (printT l 1 ++ 41 :: r))) := by simp [coreS, wBy]
    have e2 : coreTk ⟨5, g, 0, [], [], ns⟩ (toks l) (toks .nil) ++ T = (2, groupWords.getD g []) :: (2, wBy) :: (4, [40]) :: (sepT (ns.map fun x => [(2, x)]) ++ (4, [41]) :: (4, [40]) :: (toks l 1 ++ (4, [41]) :: T)) := by simp [coreTk]
    rw [e1, e2]
    refine lx_name (group_name g hg) (stop_cons _ (by decide) (by decide)) (Lx.skip (lx_name (by decide) (stop_cons _ (by decide) (by decide)) (Lx.skip (Lx.sign (by decide) ?_))))
    refine lx_sep id (fun x => [(2, x)]) (fun x => isName x = true) (fun a ha r T hs hr => lx_name ha hs hr) ns hns _ _ (stop_cons _ (by decide) (by decide)) ?_
    exact Lx.sign (by decide) (Lx.skip (Lx.sign (by decide) (ih 1 _ _ (stop_cons _ (by decide) (by decide)) (Lx.sign (by decide) hr))))
  | bin o l r ho _ _ ihl ihr =>
    intro must
    refine lx_wrap (fun r' T hs hr => ?_)
    obtain ⟨c, hc, hcs⟩ := op_sign o ho
    have e1 : coreS (nd0 4 o) (printT l) (printT r) ++ r' = printT l (tightT (nd0 4 o)) ++ 32 :: c :: 32 :: (printT r (tightT (nd0 4 o) + 1) ++ r') := by simp [coreS, nd0, hc]
    have e2 : coreTk (nd0 4 o) (toks l) (toks r) ++ T = toks l (tightT (nd0 4 o)) ++ (4, [c]) :: (toks r (tightT (nd0 4 o) + 1) ++ T) := by simp [coreTk, nd0, opTk, hc]
    rw [e1, e2]
    exact ihl _ _ _ (stop_cons _ (by decide) (by decide)) (Lx.skip (Lx.sign hcs (Lx.skip (ihr _ _ _ hs hr))))
  | or l r _ _ ihl ihr =>
    intro must
    refine lx_wrap (fun r' T hs hr => ?_)
    have e1 : coreS (nd0 6 0) (printT l) (printT r) ++ r' = printT l 1 ++ 32 :: (wOr ++ 32 :: (printT r 2 ++ r')) := by simp [coreS, nd0, wOr]
    have e2 : coreTk (nd0 6 0) (toks l) (toks r) ++ T = toks l 1 ++ (2, wOr) :: (toks r 2 ++ T) := by simp [coreTk, nd0]
    rw [e1, e2]
    exact ihl _ _ _ (stop_cons _ (by decide) (by decide)) (Lx.skip (lx_name (by decide) (stop_cons _ (by decide) (by decide)) (Lx.skip (ihr _ _ _ hs hr))))
theorem lex_print {t : Tr} (h : GT t) (must : Nat) : (lexAll (printT t must) ((printT t must).length + 1) 0).map sh = toks t must ++ [(0, [])] := by
  have := lx_print h must [] _ stop_nil Lx.nil
  rw [List.append_nil] at this
  exact lx_all this _ 0 _ rfl (Nat.zero_le _) (Nat.le_refl _)
end Go.Proofs.YtpbemaaghbbocaaGreatDoor
