/- Parts. -/
import Derived.Test.YtpbemaaghbbocaaGreatDoorW00
import Derived.Test.YtpbemaaghbbocaaGreatDoorA43
import Derived.Test.YtpbemaaghbbocaaGreatDoorW01
import Derived.Maps.AppendAt
import Derived.Deep.RegionHeld3
namespace Go.Proofs.YtpbemaaghbbocaaGreatDoor
open Go.RowKit LS
def NearI (wr : World) (B : Nat) (sn sk : Value) (l m : List Int) : Prop := wr.ownsRow B 3 1 sn l.length (l.map (.int .i64)) ∧ wr.ownsRow B 3 1 sk m.length (m.map (.int .i64)) ∧ (sn.ownBlock = none ∨ sn.ownBlock ≠ sk.ownBlock)
theorem NearI.below {wr w' : World} {B : Nat} {sn sk : Value} {l m : List Int} (h : NearI wr B sn sk l m) (hb : Below wr.heap.size wr w') : NearI w' B sn sk l m := ⟨own_below h.1 hb, own_below h.2.1 hb, h.2.2⟩
theorem NearI.left {w w' : World} {B : Nat} {sn sk v' : Value} {l m : List Int} {x : Int} (h : NearI w B sn sk l m) (ho : w'.ownsRow B 3 1 v' (l.length + 1) (l.map (.int .i64) ++ [.int .i64 x])) (hg : w.grownBy w' sn.ownBlock) (hb : v'.ownBlock = sn.ownBlock ∨ v'.ownBlock = some w.heap.size) : NearI w' B v' sk (l ++ [x]) m := by
  obtain ⟨h1, h2, h3⟩ := h
  refine ⟨by rw [List.map_append, List.length_append]; exact ho, h2.kept hg ?_, ?_⟩
  · cases hk : sk.ownBlock with
    | none => exact Or.inl rfl
    | some k =>
      rcases h3 with h3 | h3
      · rw [h3]; exact Or.inr (by simp)
      · rw [hk] at h3; exact Or.inr (Ne.symm h3)
  · rcases hb with hb | hb
    · rw [hb]; exact h3
    · right
      rw [hb]
      intro he
      have := (h2.lt _ he.symm).2
      omega
theorem NearI.right {w w' : World} {B : Nat} {sn sk v' : Value} {l m : List Int} {x : Int} (h : NearI w B sn sk l m) (ho : w'.ownsRow B 3 1 v' (m.length + 1) (m.map (.int .i64) ++ [.int .i64 x])) (hg : w.grownBy w' sk.ownBlock) (hb : v'.ownBlock = sk.ownBlock ∨ v'.ownBlock = some w.heap.size) : NearI w' B sn v' l (m ++ [x]) := by
  obtain ⟨h1, h2, h3⟩ := h
  refine ⟨h1.kept hg h3, by rw [List.map_append, List.length_append]; exact ho, ?_⟩
  rcases hb with hb | hb
  · rw [hb]; exact h3
  · rw [hb]
    cases hs : sn.ownBlock with
    | none => exact Or.inl rfl
    | some k =>
      have := (h1.lt _ hs).2
      refine Or.inr ?_
      intro he
      injection he with he
      omega
def wordsB : List ByteArray := [⟨#[116, 111, 116, 97, 108, 40, 120, 91]⟩, ⟨#[112, 101, 97, 107, 40, 120, 91]⟩, ⟨#[108, 111, 119, 40, 120, 91]⟩, ⟨#[115, 105, 122, 101, 40, 120, 91]⟩, ⟨#[114, 105, 115, 101, 40, 120, 91]⟩]
theorem wordsB_get {j : Nat} (h : j < 5) : ∃ x : ByteArray, (wordsB.map Value.string)[j]? = some (.string x) ∧ bl x = overWords.getD j [] ++ [40, 120, 91] ∧ x.size ≤ 8 := by
  obtain rfl | rfl | rfl | rfl | rfl : j = 0 ∨ j = 1 ∨ j = 2 ∨ j = 3 ∨ j = 4 := by omega
  all_goals exact ⟨_, rfl, rfl, by decide⟩
theorem addr_blk (a : Addr) (i : Nat) : (a.add i).block = a.block := by unfold Addr.add; split <;> rfl
theorem addr_two (a : Addr) (i : Nat) : (a.add (i * 2)).add 1 = a.add (i * 2 + 1) := by
  unfold Addr.add
  by_cases h : i * 2 = 0
  · rw [if_pos h, if_neg (by decide), if_neg (by omega), h]
  · rw [if_neg h, if_neg (by decide), if_neg (by omega)]
    simp [Nat.add_assoc]
theorem strAdd {P : Program} (x y : ByteArray) (h : x.size + y.size ≤ 9000000000000) : ∀ W, (Op.stringOp .add x y).run P W = .ok (.string (x ++ y)) W := fun W => run_string_add_sum W _ _ (by omega)
set_option maxRecDepth 100000 in
set_option maxHeartbeats 16000000 in
theorem windowed_true (ao : Option Addr) (n cap : Nat) (c1 c2 : Int) (Rd : Nat → Int × Int) (A : Nat → Addr) (m : Int) (w : World) (hv : Vars w A m) (ht : PowTab w) (hB : 20 ≤ w.heap.size) (hn : n ≤ maxLen) (hc1 : -9223372036854775808 ≤ c1 ∧ c1 ≤ 9223372036854775807) (hc2 : -9223372036854775808 ≤ c2 ∧ c2 ≤ 9223372036854775807)
    (ha : (ao = none ∧ n = 0 ∧ cap = 0) ∨ ∃ a : Addr, ao = some a ∧ (0 < n → a.block < w.heap.size) ∧ ∀ i, i < n → w.cell? (a.add (i * 2)) = some (.int .i64 (Rd i).1) ∧ w.cell? (a.add (i * 2 + 1)) = some (.int .i64 (Rd i).2))
    (hrd : ∀ i, i < n → (-9223372036854775808 ≤ (Rd i).1 ∧ (Rd i).1 ≤ 9223372036854775807) ∧ (-9223372036854775808 ≤ (Rd i).2 ∧ (Rd i).2 ≤ 9223372036854775807)) :
    Calls Tryz.prog 6 #[.slice ao n cap, .int .i64 c1, .int .i64 c2] w fun e w' => e = .returned (.bool true) ∧ Below w.heap.size w w' := by
  have HE : Hid (∀ (q s : ByteArray) (t : Int) W, q.size ≤ 9223372036854775807 → s.size ≤ maxLen → Below w.heap.size w W → Calls Tryz.prog 10 #[.string q, .string s, .agg #[.int .i64 t, .int .i64 t, .int .i64 1]] W _) := hid (fun q s t W hq hs hb => gEval_any q s t t 1 A m W (hv.below hb) (ht.low hb hB) (Nat.le_trans hB hb.size) hq hs)
  have HC : Hid (∀ i, i < n → ∃ a : Addr, ao = some a ∧ ∀ W, Below w.heap.size w W → W.cell? (a.add (i * 2)) = some (.int .i64 (Rd i).1) ∧ W.cell? (a.add (i * 2 + 1)) = some (.int .i64 (Rd i).2)) := hid (fun i hi => by
    rcases ha with ⟨_, rfl, _⟩ | ⟨a, rfl, h1, h2⟩
    · omega
    · refine ⟨a, rfl, fun W hb => ?_⟩
      rw [← (h2 i hi).1, ← (h2 i hi).2]
      exact ⟨World.cell?_of_block (by rw [addr_blk]; exact hb.block a.block (h1 (by omega))), World.cell?_of_block (by rw [addr_blk]; exact hb.block a.block (h1 (by omega)))⟩)
  have HRD := hid hrd
  clear hv ht hB ha hrd
  obtain ⟨i0, hi, hz0, hz1, hz2⟩ := info_parts Tryz.infoInt
  obtain ⟨g, hg⟩ : ∃ g : Nat, pickV c1 1000 = g := ⟨(pickV c1 1000).toNat, by have := pickV_range c1 1000 (by decide); omega⟩
  have hg1 : g < 1000 := by have := pickV_range c1 1000 (by decide); omega
  obtain ⟨t, htd⟩ : ∃ t : Nat, pickV c2 2000 = t := ⟨(pickV c2 2000).toNat, by have := pickV_range c2 2000 (by decide); omega⟩
  have ht1 : t < 2000 := by have := pickV_range c2 2000 (by decide); omega
  have HP1 : Hid (Calls Tryz.prog 12 #[.int .i64 c1, .int .i64 1000] w fun e w' => e = .returned (.int .i64 (g : Int)) ∧ w = w') := hid ((pick_any c1 1000 hc1.1 hc1.2 (by decide) (by decide) w).mono (fun e w' ⟨h1, h2⟩ => ⟨by rw [h1, hg], h2.symm⟩))
  have HP2 : Hid (Calls Tryz.prog 12 #[.int .i64 c2, .int .i64 2000] w fun e w' => e = .returned (.int .i64 (t : Int)) ∧ w = w') := hid ((pick_any c2 2000 hc2.1 hc2.2 (by decide) (by decide) w).mono (fun e w' ⟨h1, h2⟩ => ⟨by rw [h1, htd], h2.symm⟩))
  have HPK : Hid (∀ (c k : Int) W, -9223372036854775808 ≤ c → c ≤ 9223372036854775807 → 1 ≤ k → k ≤ 9223372036854775807 → Calls Tryz.prog 12 #[.int .i64 c, .int .i64 k] W fun e w' => e = .returned (.int .i64 (pickV c k)) ∧ W = w') := hid (fun c k W h1 h2 h3 h4 => (pick_any c k h1 h2 h3 h4 W).mono (fun e w' ⟨h5, h6⟩ => ⟨h5, h6.symm⟩))
  clear hc1 hc2 hg htd
  go_enter Tryz.func6, Tryz.ntmps6
  go_wp2_with fail
  refine HP1.out.mono ?_
  rintro e w1 ⟨rfl, rfl⟩
  go_wp2_with fail
  refine HP2.out.mono ?_
  rintro e w2 ⟨rfl, rfl⟩
  clear HP1 HP2
  go_wp2_with fail
  go_loopg [9, 10, 11, 12, 13] n (fun gk s9 s10 s11 s12 s13 wr => ∃ (i : Nat) (L : ByteArray), i ≤ n ∧ i ≤ 100 ∧ gk = n - i ∧ s9 = .string L ∧ s10 = .int .i64 (tmS Rd i) ∧ s13 = .int .i64 i ∧ Hid (bl L = linS (RKs Rd i)) ∧ Hid (NearI wr w.heap.size s11 s12 (nearV Rd i ((g : Int) + 1) t) (nearV Rd i 10 t)) ∧ Hid (Below w.heap.size w wr))
  case atStart => exact ⟨0, ⟨#[120, 123, 125]⟩, Nat.zero_le _, Nat.zero_le _, rfl, rfl, rfl, rfl, hid rfl, hid ⟨World.ownsRow_nil _ _ _ _, World.ownsRow_nil _ _ _ _, Or.inl rfl⟩, hid (Below.refl _ _)⟩
  case round =>
    obtain ⟨i, L, hin, hi100, hgk, rfl, rfl, rfl, HL, HN, HB⟩ := hrel
    have hLs : L.size ≤ 3 + 18 * i := by rw [← bl_length, HL.out]; exact linS_len Rd i hi100
    have htm := tmS_le Rd i
    obtain ⟨htm1, htm2⟩ := htm
    by_cases hlt : i < n ∧ i < 100
    · obtain ⟨hlt1, hlt2⟩ := hlt
      obtain ⟨a, rfl, hac⟩ := HC.out i hlt1
      have hac := hac wr HB.out
      obtain ⟨ca, cb⟩ := hac
      rw [← addr_two] at cb
      have cb : wr.cell? ⟨(a.add (i * 2)).block, (a.add (i * 2)).off + 1, none⟩ = some (.int .i64 (Rd i).2) := cb
      obtain ⟨⟨r1, r2⟩, r3, r4⟩ := HRD.out i hlt1
      have hst := tmS_step Rd i
      have hsv := smK_v Rd i
      have hlt1' : (i : Int) < n := by omega
      have hpg := pickV_range (Rd i).1 20 (by decide)
      obtain ⟨hpg1, hpg2⟩ := hpg
      have hpv := pickV_range (Rd i).2 2000001 (by decide)
      obtain ⟨hpv1, hpv2⟩ := hpv
      have hi20 : (20 : Int) * (i : Int) ≤ 2000 := by omega
      have e32 : (⟨#[32]⟩ : ByteArray).size = 1 := rfl
      have e58 : (⟨#[58]⟩ : ByteArray).size = 1 := rfl
      go_wp2_with fail
      refine (HPK.out (Rd i).1 20 _ r1 r2 (by decide) (by decide)).mono ?_
      rintro e w3 ⟨rfl, rfl⟩
      go_wp2_with fail
      refine (HPK.out (Rd i).2 2000001 _ r3 r4 (by decide) (by decide)).mono ?_
      rintro e w3 ⟨rfl, rfl⟩
      obtain ⟨v, hvd⟩ : ∃ v : Int, v = pickV (Rd i).2 2000001 - 1000000 := ⟨_, rfl⟩
      obtain ⟨tm, htmd⟩ : ∃ x : Int, x = tmS Rd (i + 1) := ⟨_, rfl⟩
      have et : tmS Rd i + 1 + pickV (Rd i).1 20 = tm := htmd.symm
      have ev : pickV (Rd i).2 2000001 - 1000000 = v := hvd.symm
      have hv1 : -1000000 ≤ v := by omega
      have hv2 : v ≤ 1000000 := by omega
      have htn1 : 0 ≤ tm := by omega
      have htn2 : tm ≤ 2000 := by omega
      have HNI : Hid ((t : Int) - ((g : Int) + 1) < tm → tm ≤ t → nearV Rd (i + 1) ((g : Int) + 1) t = nearV Rd i ((g : Int) + 1) t ++ [v]) := hid (fun h1 h2 => by rw [hvd]; exact near_in (by rw [← htmd]; exact h1) (by rw [← htmd]; exact h2))
      have HNO : Hid (¬ ((t : Int) - ((g : Int) + 1) < tm ∧ tm ≤ t) → nearV Rd (i + 1) ((g : Int) + 1) t = nearV Rd i ((g : Int) + 1) t) := hid (fun h => near_out (by rw [← htmd]; exact h))
      have HLI : Hid ((t : Int) - 10 < tm → tm ≤ t → nearV Rd (i + 1) 10 t = nearV Rd i 10 t ++ [v]) := hid (fun h1 h2 => by rw [hvd]; exact near_in (by rw [← htmd]; exact h1) (by rw [← htmd]; exact h2))
      have HLO : Hid (¬ ((t : Int) - 10 < tm ∧ tm ≤ t) → nearV Rd (i + 1) 10 t = nearV Rd i 10 t) := hid (fun h => near_out (by rw [← htmd]; exact h))
      have HLS : Hid (linS (RKs Rd (i + 1)) = linS (RKs Rd i) ++ [32] ++ decI tm ++ [58] ++ decI v) := hid (by rw [linS_step, htmd, hvd])
      have hTM : tmS Rd (i + 1) = tm := htmd.symm
      clear htmd hvd hst hsv
      go_wp2_with fail
      refine (kdec_any tm wr (by omega) (by omega)).mono ?_
      rintro e w4 ⟨q1, rfl, hq1, HQ1, hb4⟩
      have HB4 : Hid (Below w.heap.size w w4) := hid (HB.out.trans (hb4.mono HB.out.size))
      have HN4 := hid (HN.out.below hb4)
      clear hb4 HN ca cb
      go_wp2_with fail
      refine (kdec_any v w4 (by omega) (by omega)).mono ?_
      rintro e w5 ⟨q2, rfl, hq2, HQ2, hb5⟩
      have HB5 : Hid (Below w.heap.size w w5) := hid (HB4.out.trans (hb5.mono HB4.out.size))
      have HN5 := hid (HN4.out.below hb5)
      clear hb5 HN4 HB4
      have HF : Hid (bl (L ++ ⟨#[32]⟩ ++ q1 ++ ⟨#[58]⟩ ++ q2) = linS (RKs Rd (i + 1))) := hid (by rw [bl_app, bl_app, bl_app, bl_app, HL.out, HQ1.out, HQ2.out, HLS.out]; rfl)
      have hn1 := near_len (Rd := Rd) (k := i) (n := (g : Int) + 1) (t := t)
      have hn2 := near_len (Rd := Rd) (k := i) (n := 10) (t := t)
      have hsw5 := HB5.out.size
      clear HQ1 HQ2 HLS HL
      by_cases hle : tm ≤ (t : Int)
      · by_cases hnr : (t : Int) - ((g : Int) + 1) < tm
        · have enr := HNI.out hnr hle
          have hln : (nearV Rd i ((g : Int) + 1) t).length + 1 ≤ 101 := by omega
          by_cases hls : (t : Int) - 10 < tm
          · have els := HLI.out hls hle
            go_wp2_with (at_builtin; refine wpList_append_own_at _ rfl (.tmp 76) (.tmp 78) 38 rfl w.heap.size 3 i0 (.int .i64 0) 1 8 Tryz.underlying38 hi hz0 hz1 hz2 rfl (by decide) _ _ _ rfl (HN5.out.1.alloc _) ⟨w5.heap.size, 0, none⟩ 1 1 [.int .i64 v] rfl rfl (cells_new rfl) ?c2 ?c3 ?c4 ?c5 ?_)
            case c2 => first | exact rfl | (intro u hu; simp at hu; subst hu; rfl)
            case c3 => unfold maxLen; omega
            case c4 => omega
            case c5 => first | omega | (simp; omega)
            intro v' w6 hown6 hgrow _ hblk
            have HN6 := hid (NearI.left (HN5.out.below ((Below.refl _ _).alloc (Nat.le_refl _) _)) hown6 hgrow (by simpa using hblk))
            have HB6 : Hid (Below w.heap.size w w6) := hid (below_own (HB5.out.alloc HB5.out.size _) hgrow (fun q hq => (HN5.out.1.lt q hq).1))
            have hsw6 := HB6.out.size
            clear hown6 hgrow hblk
            go_wp2_with (at_builtin; refine wpList_append_own_at _ rfl (.tmp 89) (.tmp 91) 38 rfl w.heap.size 3 i0 (.int .i64 0) 1 8 Tryz.underlying38 hi hz0 hz1 hz2 rfl (by decide) _ _ _ rfl (HN6.out.2.1.alloc _) ⟨w6.heap.size, 0, none⟩ 1 1 [.int .i64 v] rfl rfl (cells_new rfl) ?c2 ?c3 ?c4 ?c5 ?_)
            case c2 => first | exact rfl | (intro u hu; simp at hu; subst hu; rfl)
            case c3 => unfold maxLen; omega
            case c4 => omega
            case c5 => first | omega | (simp; omega)
            intro v2 w7 hown7 hgrow7 _ hblk7
            have HN7 := hid (NearI.right (HN6.out.below ((Below.refl _ _).alloc (Nat.le_refl _) _)) hown7 hgrow7 (by simpa using hblk7))
            have HB7 : Hid (Below w.heap.size w w7) := hid (below_own (HB6.out.alloc HB6.out.size _) hgrow7 (fun q hq => (HN6.out.2.1.lt q hq).1))
            clear hown7 hgrow7 hblk7
            go_wp2
            go_roundg (n - (i + 1))
            case measure => omega
            case rel => exact ⟨i + 1, _, by omega, by omega, rfl, rfl, congrArg (Value.int .i64) hTM.symm, by go_num, HF, hid (by rw [enr, els]; exact HN7.out), HB7⟩
          · have els := HLO.out (fun h => hls h.1)
            go_wp2_with (at_builtin; refine wpList_append_own_at _ rfl (.tmp 76) (.tmp 78) 38 rfl w.heap.size 3 i0 (.int .i64 0) 1 8 Tryz.underlying38 hi hz0 hz1 hz2 rfl (by decide) _ _ _ rfl (HN5.out.1.alloc _) ⟨w5.heap.size, 0, none⟩ 1 1 [.int .i64 v] rfl rfl (cells_new rfl) ?c2 ?c3 ?c4 ?c5 ?_)
            case c2 => first | exact rfl | (intro u hu; simp at hu; subst hu; rfl)
            case c3 => unfold maxLen; omega
            case c4 => omega
            case c5 => first | omega | (simp; omega)
            intro v' w6 hown6 hgrow _ hblk
            have HN6 := hid (NearI.left (HN5.out.below ((Below.refl _ _).alloc (Nat.le_refl _) _)) hown6 hgrow (by simpa using hblk))
            have HB6 : Hid (Below w.heap.size w w6) := hid (below_own (HB5.out.alloc HB5.out.size _) hgrow (fun q hq => (HN5.out.1.lt q hq).1))
            have hsw6 := HB6.out.size
            clear hown6 hgrow hblk
            go_wp2
            go_roundg (n - (i + 1))
            case measure => omega
            case rel => exact ⟨i + 1, _, by omega, by omega, rfl, rfl, congrArg (Value.int .i64) hTM.symm, by go_num, HF, hid (by rw [enr, els]; exact HN6.out), HB6⟩
        · have enr := HNO.out (fun h => hnr h.1)
          by_cases hls : (t : Int) - 10 < tm
          · have els := HLI.out hls hle
            go_wp2_with (at_builtin; refine wpList_append_own_at _ rfl (.tmp 89) (.tmp 91) 38 rfl w.heap.size 3 i0 (.int .i64 0) 1 8 Tryz.underlying38 hi hz0 hz1 hz2 rfl (by decide) _ _ _ rfl (HN5.out.2.1.alloc _) ⟨w5.heap.size, 0, none⟩ 1 1 [.int .i64 v] rfl rfl (cells_new rfl) ?c2 ?c3 ?c4 ?c5 ?_)
            case c2 => first | exact rfl | (intro u hu; simp at hu; subst hu; rfl)
            case c3 => unfold maxLen; omega
            case c4 => omega
            case c5 => first | omega | (simp; omega)
            intro v2 w7 hown7 hgrow7 _ hblk7
            have HN7 := hid (NearI.right (HN5.out.below ((Below.refl _ _).alloc (Nat.le_refl _) _)) hown7 hgrow7 (by simpa using hblk7))
            have HB7 : Hid (Below w.heap.size w w7) := hid (below_own (HB5.out.alloc HB5.out.size _) hgrow7 (fun q hq => (HN5.out.2.1.lt q hq).1))
            clear hown7 hgrow7 hblk7
            go_wp2
            go_roundg (n - (i + 1))
            case measure => omega
            case rel => exact ⟨i + 1, _, by omega, by omega, rfl, rfl, congrArg (Value.int .i64) hTM.symm, by go_num, HF, hid (by rw [enr, els]; exact HN7.out), HB7⟩
          · have els := HLO.out (fun h => hls h.1)
            go_wp2
            go_roundg (n - (i + 1))
            case measure => omega
            case rel => exact ⟨i + 1, _, by omega, by omega, rfl, rfl, congrArg (Value.int .i64) hTM.symm, by go_num, HF, hid (by rw [enr, els]; exact HN5.out), HB5⟩
      · have enr := HNO.out (fun h => hle h.2)
        have els := HLO.out (fun h => hle h.2)
        go_wp2
        go_roundg (n - (i + 1))
        case measure => omega
        case rel => exact ⟨i + 1, _, by omega, by omega, rfl, rfl, congrArg (Value.int .i64) hTM.symm, by go_num, HF, hid (by rw [enr, els]; exact HN5.out), HB5⟩
    · have h34 := HN.out
      by_cases hlt2 : (i : Int) < n
      · have h100 : ¬ (i : Int) < 100 := by omega
        clear hlt HC HRD HPK
        obtain ⟨near, hnr⟩ : ∃ l, l = nearV Rd i ((g : Int) + 1) t := ⟨_, rfl⟩
        obtain ⟨last, hls⟩ : ∃ l, l = nearV Rd i 10 t := ⟨_, rfl⟩
        have HMN : Hid (∀ x ∈ near, mil x) := hid (by rw [hnr]; exact near_mil)
        have HML : Hid (∀ x ∈ last, mil x) := hid (by rw [hls]; exact near_mil)
        have hln : near.length ≤ 100 := by rw [hnr]; exact Nat.le_trans near_len hi100
        have hll : last.length ≤ 100 := by rw [hls]; exact Nat.le_trans near_len hi100
        have HEW : Hid (∀ (j : Nat) (q r : ByteArray) (c p : Nat), j < 5 → bl q = overWords.getD j [] ++ [40, 120, 91] ++ decI ((g : Int) + 1) ++ [93, 41] → evalQ (bl q) (bl L) t t 1 = (bl r, c, p) → bl r = wantV t near (toldV j near) ∧ c = 0) := hid (fun j q r c p hj hq he => by
          have e1 : bl q = winQ j (g + 1) := by rw [hq, decI_nn (by omega), show ((g : Int) + 1).toNat = g + 1 by omega]; rfl
          rw [e1, HL.out, eval_win (RK_rise Rd i hi100) (by have := linS_len Rd i hi100; omega) (by rw [RK_len]; omega) (by omega) (by omega) hj (by omega) (by omega), want_win Rd i j _ t hi100] at he
          injection he with h1 h2
          injection h2 with h2 _
          rw [hnr]
          exact ⟨h1.symm, h2.symm⟩)
        have HEX : Hid (∀ (r : ByteArray) (c p : Nat), evalQ [120] (bl L) t t 1 = (bl r, c, p) → bl r = wantV t last (last.getLastD 0) ∧ c = 0) := hid (fun r c p he => by
          rw [HL.out, eval_x (RK_rise Rd i hi100) (by have := linS_len Rd i hi100; omega) (by rw [RK_len]; omega) (by omega) (by omega), want_sel Rd i t] at he
          injection he with h1 h2
          injection h2 with h2 _
          rw [hls]
          exact ⟨h1.symm, h2.symm⟩)
        have HN0 : Hid (NearI wr w.heap.size u11 u12 near last) := hid (by rw [hnr, hls]; exact HN.out)
        clear hnr hls HN HL
        obtain ⟨av, cp, hsn⟩ := own_shape HN0.out.1
        obtain ⟨av2, cp2, hsk⟩ := own_shape HN0.out.2.1
        subst hsn hsk
        go_wp2_with fail
        refine wp_gen fun W hW => ?_
        have HWd : Hid (BAt W wr.heap.size (wordsB.map Value.string) 9) := hid (by rw [hW]; exact BAt.alloc (Go.Deep.blk_alloc_new _ _) _)
        have HSp : Hid (BAt W (wr.heap.size + 1) [.int .i64 t, .int .i64 t, .int .i64 1] 23) := hid (by
          rw [hW]
          have := Go.Deep.blk_alloc_new (wr.alloc (.cells ⟨wordsB.map Value.string⟩ 9)) (.cells #[.int .i64 t, .int .i64 t, .int .i64 1] 23)
          rw [Go.Deep.nblk_alloc] at this
          exact this)
        have hbW : Below wr.heap.size wr W := by rw [hW]; exact ((Below.refl _ _).alloc (Nat.le_refl _) _).alloc (by simp) _
        have HBW : Hid (Below w.heap.size w W) := hid (HB.out.trans (hbW.mono HB.out.size))
        have HNW := hid (HN0.out.below hbW)
        clear hW hbW HN0 HB h34
        have hsz0 : w.heap.size ≤ W.heap.size := HBW.out.size
        obtain ⟨B1, hB1⟩ : ∃ B1, B1 = wr.heap.size := ⟨_, rfl⟩
        rw [← hB1] at HWd HSp ⊢
        clear hB1
        have hLm : L.size ≤ maxLen := Nat.le_trans hLs (by unfold maxLen; omega)
        have HDN : Hid (∀ X : World, Calls Tryz.prog 14 #[.int .i64 ((g : Int) + 1)] X _) := hid (fun X => kdec_any ((g : Int) + 1) X (by omega) (by omega))
        have HDT : Hid (∀ X : World, Calls Tryz.prog 14 #[.int .i64 (t : Int)] X _) := hid (fun X => kdec_any (t : Int) X (by omega) (by omega))
        go_loopg [17] 5 (fun gk s17 wx => ∃ j : Nat, j ≤ 5 ∧ gk = 5 - j ∧ s17 = .int .i64 j ∧ Hid (BAt wx B1 (wordsB.map Value.string) 9) ∧ Hid (BAt wx (B1 + 1) [.int .i64 t, .int .i64 t, .int .i64 1] 23) ∧ Hid (NearI wx w.heap.size (.slice av near.length cp) (.slice av2 last.length cp2) near last) ∧ Hid (Below w.heap.size w wx))
        case atStart => exact ⟨0, Nat.zero_le _, rfl, rfl, HWd, HSp, HNW, HBW⟩
        case round =>
          clear HWd HSp HNW HBW hsz0
          obtain ⟨j, hj, hgk2, rfl, HWj, HSj, HNj, HBj⟩ := hrel
          have x0 := HSj.out.cell 0
          have x1 := HSj.out.cell 1
          have x2 := HSj.out.cell 2
          simp only [List.getElem?_cons_zero, List.getElem?_cons_succ] at x0 x1 x2
          by_cases hlt : j < 5
          · obtain ⟨x, hx, hxb, hxs⟩ := wordsB_get hlt
            have cw : wr.cell? ⟨B1, j, none⟩ = some (.string x) := (HWj.out.cell j).trans hx
            have HXB := hid hxb
            have hj5 : (j : Int) < 5 := by omega
            have HKP : Hid (∀ X : World, Below wr.heap.size wr X → X.cell? ⟨B1, j, none⟩ = some (.string x) ∧ X.cell? ⟨B1 + 1, 0, none⟩ = some (.int .i64 t) ∧ X.cell? ⟨B1 + 1, 1, none⟩ = some (.int .i64 t) ∧ X.cell? ⟨B1 + 1, 2, none⟩ = some (.int .i64 1)) := hid (fun X hb => ⟨((HWj.out.below hb).cell j).trans hx, (HSj.out.below hb).cell 0, (HSj.out.below hb).cell 1, (HSj.out.below hb).cell 2⟩)
            have e93 : (⟨#[93, 41]⟩ : ByteArray).size = 2 := rfl
            clear hx hxb
            go_upto_region 22 with fail
            go_cut [18, 19, 20] from 97 to 136 (fun s18 s19 s20 wx => ∃ (r : ByteArray) (c p : Nat), s18 = .string r ∧ s19 = .int .i64 c ∧ s20 = .int .i64 p ∧ Hid (bl r = wantV t near (toldV j near) ∧ c = 0) ∧ Hid (Below wr.heap.size wr wx))
            case first =>
              go_region_held3 (fun w' => w'.cell? ⟨B1, j, none⟩ = some (.string x) ∧ w'.cell? ⟨B1 + 1, 0, none⟩ = some (.int .i64 t) ∧ w'.cell? ⟨B1 + 1, 1, none⟩ = some (.int .i64 t) ∧ w'.cell? ⟨B1 + 1, 2, none⟩ = some (.int .i64 1)) (first | exact ⟨cw, x0, x1, x2⟩ | exact HKP.out _ HB8.out | exact HKP.out _ HB7.out | go_keep) (first
                | (go_at_call 14
                   refine (HDN.out _).mono ?_
                   rintro e w7 ⟨q, rfl, hq, HQ, hb7⟩
                   have HB7 : Hid (Below wr.heap.size wr w7) := hid ⟨hb7.os, hb7.tape, hb7.output, hb7.size, hb7.block⟩
                   obtain ⟨y, y0, y1, y2⟩ := HKP.out w7 HB7.out
                   have a1 := strAdd (P := Tryz.prog) x q (by omega)
                   have a2 := strAdd (P := Tryz.prog) (x ++ q) ⟨#[93, 41]⟩ (by simp only [ByteArray.size_append]; omega)
                   have hszq : (x ++ q ++ ⟨#[93, 41]⟩ : ByteArray).size ≤ 9223372036854775807 := by simp only [ByteArray.size_append]; omega
                   have HQW : Hid (bl (x ++ q ++ ⟨#[93, 41]⟩) = overWords.getD j [] ++ [40, 120, 91] ++ decI ((g : Int) + 1) ++ [93, 41]) := hid (by rw [bl_app, bl_app, HXB.out, HQ.out]; rfl)
                   clear hb7)
                | (go_at_call 10
                   refine (HE.out _ L t _ hszq hLm (HBj.out.trans (((⟨HB7.out.os, HB7.out.tape, HB7.out.output, HB7.out.size, HB7.out.block⟩ : Below wr.heap.size wr _)).mono HBj.out.size))).mono ?_
                   rintro e w8 ⟨r, c, p, rfl, HQr, hb8⟩
                   have HB8 : Hid (Below wr.heap.size wr w8) := hid (HB7.out.trans ((⟨hb8.os, hb8.tape, hb8.output, hb8.size, hb8.block⟩ : Below w7.heap.size w7 w8).mono HB7.out.size))
                   have HR8 := hid (HEW.out j _ r c p hlt HQW.out HQr.out)
                   clear hb8))
              all_goals
                go_wp2_with fail
                go_meet
                exact ⟨_, _, _, rfl, rfl, rfl, HR8, HB8⟩
            case rest =>
            obtain ⟨r, c, p, rfl, rfl, rfl, HR, HBc⟩ := hcut
            obtain ⟨hrb, hc0⟩ := HR.out
            subst hc0
            have HRB := hid hrb
            clear HR hrb cw x0 x1 x2 HKP e93 HXB hxs
            go_wp2_with fail
            refine (HDT.out wc).mono ?_
            rintro e w9 ⟨d, rfl, hd, HD, hb9⟩
            have HB9 : Hid (Below wr.heap.size wr w9) := hid (HBc.out.trans (hb9.mono HBc.out.size))
            clear hb9 HBc
            have e3 : (⟨#[32, 123, 125]⟩ : ByteArray).size = 3 := rfl
            by_cases hne : 0 < near.length
            · have hgt : (0 : Int) < near.length := by omega
              have HW : Hid (wantV t near (toldV j near) = decI t ++ [32, 123, 125] ++ decI (toldV j near)) := hid (by
                unfold wantV
                rw [if_neg (by cases hh : near with | nil => rw [hh] at hne; exact absurd hne (by decide) | cons a b => simp), List.append_assoc])
              have a1 := strAdd (P := Tryz.prog) d ⟨#[32, 123, 125]⟩ (by omega)
              go_wp2_with fail
              refine (ktold_any j (by omega) _ near w9 (own_zero (own_below HNj.out.1 HB9.out)) hln HMN.out hne).mono ?_
              rintro e w10 ⟨rfl, nd, hw10⟩
              have hb10 : Below w9.heap.size w9 w10 := by rw [hw10]; exact below_drewN' (Below.refl _ _) _
              have HB10 : Hid (Below wr.heap.size wr w10) := hid (HB9.out.trans (hb10.mono HB9.out.size))
              have etk : toldK j near = toldV j near := by unfold toldK; rw [if_neg (by omega)]
              rw [etk]
              have hbd := (told_cut HMN.out hln j).2
              obtain ⟨hbd1, hbd2⟩ := hbd
              clear hb10 hw10 HB9 etk
              go_wp2_with fail
              refine (kdec_any (toldV j near) w10 (by omega) (by omega)).mono ?_
              rintro e w11 ⟨d2, rfl, hd2, HD2, hb11⟩
              have HB11 : Hid (Below wr.heap.size wr w11) := hid (HB10.out.trans (hb11.mono HB10.out.size))
              have a2 := strAdd (P := Tryz.prog) (d ++ ⟨#[32, 123, 125]⟩) d2 (by simp only [ByteArray.size_append]; omega)
              obtain rfl : r = d ++ ⟨#[32, 123, 125]⟩ ++ d2 := bl_inj (by rw [HRB.out, HW.out, bl_app, bl_app, HD.out, HD2.out]; rfl)
              have HW2 := hid (HWj.out.below HB11.out)
              have HS2 := hid (HSj.out.below HB11.out)
              have HN2 := hid (HNj.out.below HB11.out)
              have HB2 : Hid (Below w.heap.size w w11) := hid (HBj.out.trans (HB11.out.mono HBj.out.size))
              clear hb11 HB10 HD HD2 HW HRB HWj HSj HNj HBj
              go_wp2
              go_roundg (5 - (j + 1))
              case measure => omega
              case rel => exact ⟨j + 1, by omega, rfl, by go_num, HW2, HS2, HN2, HB2⟩
            · have hng : ¬ ((0 : Int) < near.length) := by omega
              obtain rfl : r = d := bl_inj (by
                rw [HRB.out, HD.out]
                unfold wantV
                rw [if_pos (by cases hh : near with | nil => rfl | cons a b => rw [hh] at hne; simp at hne), List.append_nil])
              have HW2 := hid (HWj.out.below HB9.out)
              have HS2 := hid (HSj.out.below HB9.out)
              have HN2 := hid (HNj.out.below HB9.out)
              have HB2 : Hid (Below w.heap.size w w9) := hid (HBj.out.trans (HB9.out.mono HBj.out.size))
              clear HD HRB HWj HSj HNj HBj HB9
              go_wp2
              go_roundg (5 - (j + 1))
              case measure => omega
              case rel => exact ⟨j + 1, by omega, rfl, by go_num, HW2, HS2, HN2, HB2⟩
          · obtain rfl : j = 5 := by omega
            have e3 : (⟨#[32, 123, 125]⟩ : ByteArray).size = 3 := rfl
            go_wp2_with fail
            refine (HE.out ⟨#[120]⟩ L t wr (by decide) hLm HBj.out).mono ?_
            rintro e w8 ⟨r, c, p, rfl, HQr, hb8⟩
            have hrx := HEX.out r c p (show evalQ [120] (bl L) t t 1 = (bl r, c, p) from by have h := HQr.out; rw [show bl (⟨#[120]⟩ : ByteArray) = [120] from rfl] at h; exact h)
            obtain ⟨hrb, hc0⟩ := hrx
            subst hc0
            have HRB := hid hrb
            have HB8 : Hid (Below wr.heap.size wr w8) := hid hb8
            clear hrb HQr hb8 x0 x1 x2 HE HEX HEW
            go_wp2_with fail
            refine (HDT.out w8).mono ?_
            rintro e w9 ⟨d, rfl, hd, HD, hb9⟩
            have HB9 : Hid (Below wr.heap.size wr w9) := hid (HB8.out.trans (hb9.mono HB8.out.size))
            clear hb9 HB8
            by_cases hne : 0 < last.length
            · have hgt : (0 : Int) < last.length := by omega
              have HW : Hid (wantV t last (last.getLastD 0) = decI t ++ [32, 123, 125] ++ decI (last.getLastD 0)) := hid (by
                unfold wantV
                rw [if_neg (by cases hh : last with | nil => rw [hh] at hne; exact absurd hne (by decide) | cons a b => simp), List.append_assoc])
              have a1 := strAdd (P := Tryz.prog) d ⟨#[32, 123, 125]⟩ (by omega)
              go_wp2_with fail
              obtain ⟨y, hy⟩ : ∃ y, y = last.getLastD 0 := ⟨_, rfl⟩
              rw [← hy] at HW HRB
              refine (ktold_any 5 (by omega) _ last w9 (own_zero (own_below HNj.out.2.1 HB9.out)) hll HML.out hne).mono ?_
              rintro e w10 ⟨rfl, nd, hw10⟩
              have hb10 : Below w9.heap.size w9 w10 := by rw [hw10]; exact below_drewN' (Below.refl _ _) _
              have HB10 : Hid (Below wr.heap.size wr w10) := hid (HB9.out.trans (hb10.mono HB9.out.size))
              have etk : toldK 5 last = y := by unfold toldK; rw [if_pos rfl, hy]
              rw [etk]
              have hbd := (head_mil HML.out).2
              rw [← hy] at hbd
              unfold mil at hbd
              obtain ⟨hbd1, hbd2⟩ := hbd
              clear hb10 hw10 HB9 etk hy
              go_wp2_with fail
              refine (kdec_any y w10 (by omega) (by omega)).mono ?_
              rintro e w11 ⟨d2, rfl, hd2, HD2, hb11⟩
              have HB11 : Hid (Below wr.heap.size wr w11) := hid (HB10.out.trans (hb11.mono HB10.out.size))
              have a2 := strAdd (P := Tryz.prog) (d ++ ⟨#[32, 123, 125]⟩) d2 (by simp only [ByteArray.size_append]; omega)
              obtain rfl : r = d ++ ⟨#[32, 123, 125]⟩ ++ d2 := bl_inj (by rw [HRB.out, HW.out, bl_app, bl_app, HD.out, HD2.out]; rfl)
              have HB2 : Hid (Below w.heap.size w w11) := hid (HBj.out.trans (HB11.out.mono HBj.out.size))
              clear hb11 HB10 HD HD2 HW HRB HWj HSj HNj HBj
              go_wp2
              go_ret
              exact ⟨by simp, HB2.out⟩
            · have hng : ¬ ((0 : Int) < last.length) := by omega
              obtain rfl : r = d := bl_inj (by
                rw [HRB.out, HD.out]
                unfold wantV
                rw [if_pos (by cases hh : last with | nil => rfl | cons a b => rw [hh] at hne; simp at hne), List.append_nil])
              have HB2 : Hid (Below w.heap.size w w9) := hid (HBj.out.trans (HB9.out.mono HBj.out.size))
              clear HD HRB HWj HSj HNj HBj HB9
              go_wp2
              go_ret
              exact ⟨by simp, HB2.out⟩
      · clear hlt HC HRD HPK
        obtain ⟨near, hnr⟩ : ∃ l, l = nearV Rd i ((g : Int) + 1) t := ⟨_, rfl⟩
        obtain ⟨last, hls⟩ : ∃ l, l = nearV Rd i 10 t := ⟨_, rfl⟩
        have HMN : Hid (∀ x ∈ near, mil x) := hid (by rw [hnr]; exact near_mil)
        have HML : Hid (∀ x ∈ last, mil x) := hid (by rw [hls]; exact near_mil)
        have hln : near.length ≤ 100 := by rw [hnr]; exact Nat.le_trans near_len hi100
        have hll : last.length ≤ 100 := by rw [hls]; exact Nat.le_trans near_len hi100
        have HEW : Hid (∀ (j : Nat) (q r : ByteArray) (c p : Nat), j < 5 → bl q = overWords.getD j [] ++ [40, 120, 91] ++ decI ((g : Int) + 1) ++ [93, 41] → evalQ (bl q) (bl L) t t 1 = (bl r, c, p) → bl r = wantV t near (toldV j near) ∧ c = 0) := hid (fun j q r c p hj hq he => by
          have e1 : bl q = winQ j (g + 1) := by rw [hq, decI_nn (by omega), show ((g : Int) + 1).toNat = g + 1 by omega]; rfl
          rw [e1, HL.out, eval_win (RK_rise Rd i hi100) (by have := linS_len Rd i hi100; omega) (by rw [RK_len]; omega) (by omega) (by omega) hj (by omega) (by omega), want_win Rd i j _ t hi100] at he
          injection he with h1 h2
          injection h2 with h2 _
          rw [hnr]
          exact ⟨h1.symm, h2.symm⟩)
        have HEX : Hid (∀ (r : ByteArray) (c p : Nat), evalQ [120] (bl L) t t 1 = (bl r, c, p) → bl r = wantV t last (last.getLastD 0) ∧ c = 0) := hid (fun r c p he => by
          rw [HL.out, eval_x (RK_rise Rd i hi100) (by have := linS_len Rd i hi100; omega) (by rw [RK_len]; omega) (by omega) (by omega), want_sel Rd i t] at he
          injection he with h1 h2
          injection h2 with h2 _
          rw [hls]
          exact ⟨h1.symm, h2.symm⟩)
        have HN0 : Hid (NearI wr w.heap.size u11 u12 near last) := hid (by rw [hnr, hls]; exact HN.out)
        clear hnr hls HN HL
        obtain ⟨av, cp, hsn⟩ := own_shape HN0.out.1
        obtain ⟨av2, cp2, hsk⟩ := own_shape HN0.out.2.1
        subst hsn hsk
        go_wp2_with fail
        refine wp_gen fun W hW => ?_
        have HWd : Hid (BAt W wr.heap.size (wordsB.map Value.string) 9) := hid (by rw [hW]; exact BAt.alloc (Go.Deep.blk_alloc_new _ _) _)
        have HSp : Hid (BAt W (wr.heap.size + 1) [.int .i64 t, .int .i64 t, .int .i64 1] 23) := hid (by
          rw [hW]
          have := Go.Deep.blk_alloc_new (wr.alloc (.cells ⟨wordsB.map Value.string⟩ 9)) (.cells #[.int .i64 t, .int .i64 t, .int .i64 1] 23)
          rw [Go.Deep.nblk_alloc] at this
          exact this)
        have hbW : Below wr.heap.size wr W := by rw [hW]; exact ((Below.refl _ _).alloc (Nat.le_refl _) _).alloc (by simp) _
        have HBW : Hid (Below w.heap.size w W) := hid (HB.out.trans (hbW.mono HB.out.size))
        have HNW := hid (HN0.out.below hbW)
        clear hW hbW HN0 HB h34
        have hsz0 : w.heap.size ≤ W.heap.size := HBW.out.size
        obtain ⟨B1, hB1⟩ : ∃ B1, B1 = wr.heap.size := ⟨_, rfl⟩
        rw [← hB1] at HWd HSp ⊢
        clear hB1
        have hLm : L.size ≤ maxLen := Nat.le_trans hLs (by unfold maxLen; omega)
        have HDN : Hid (∀ X : World, Calls Tryz.prog 14 #[.int .i64 ((g : Int) + 1)] X _) := hid (fun X => kdec_any ((g : Int) + 1) X (by omega) (by omega))
        have HDT : Hid (∀ X : World, Calls Tryz.prog 14 #[.int .i64 (t : Int)] X _) := hid (fun X => kdec_any (t : Int) X (by omega) (by omega))
        go_loopg [17] 5 (fun gk s17 wx => ∃ j : Nat, j ≤ 5 ∧ gk = 5 - j ∧ s17 = .int .i64 j ∧ Hid (BAt wx B1 (wordsB.map Value.string) 9) ∧ Hid (BAt wx (B1 + 1) [.int .i64 t, .int .i64 t, .int .i64 1] 23) ∧ Hid (NearI wx w.heap.size (.slice av near.length cp) (.slice av2 last.length cp2) near last) ∧ Hid (Below w.heap.size w wx))
        case atStart => exact ⟨0, Nat.zero_le _, rfl, rfl, HWd, HSp, HNW, HBW⟩
        case round =>
          clear HWd HSp HNW HBW hsz0
          obtain ⟨j, hj, hgk2, rfl, HWj, HSj, HNj, HBj⟩ := hrel
          have x0 := HSj.out.cell 0
          have x1 := HSj.out.cell 1
          have x2 := HSj.out.cell 2
          simp only [List.getElem?_cons_zero, List.getElem?_cons_succ] at x0 x1 x2
          by_cases hlt : j < 5
          · obtain ⟨x, hx, hxb, hxs⟩ := wordsB_get hlt
            have cw : wr.cell? ⟨B1, j, none⟩ = some (.string x) := (HWj.out.cell j).trans hx
            have HXB := hid hxb
            have hj5 : (j : Int) < 5 := by omega
            have HKP : Hid (∀ X : World, Below wr.heap.size wr X → X.cell? ⟨B1, j, none⟩ = some (.string x) ∧ X.cell? ⟨B1 + 1, 0, none⟩ = some (.int .i64 t) ∧ X.cell? ⟨B1 + 1, 1, none⟩ = some (.int .i64 t) ∧ X.cell? ⟨B1 + 1, 2, none⟩ = some (.int .i64 1)) := hid (fun X hb => ⟨((HWj.out.below hb).cell j).trans hx, (HSj.out.below hb).cell 0, (HSj.out.below hb).cell 1, (HSj.out.below hb).cell 2⟩)
            have e93 : (⟨#[93, 41]⟩ : ByteArray).size = 2 := rfl
            clear hx hxb
            go_upto_region 22 with fail
            go_cut [18, 19, 20] from 97 to 136 (fun s18 s19 s20 wx => ∃ (r : ByteArray) (c p : Nat), s18 = .string r ∧ s19 = .int .i64 c ∧ s20 = .int .i64 p ∧ Hid (bl r = wantV t near (toldV j near) ∧ c = 0) ∧ Hid (Below wr.heap.size wr wx))
            case first =>
              go_region_held3 (fun w' => w'.cell? ⟨B1, j, none⟩ = some (.string x) ∧ w'.cell? ⟨B1 + 1, 0, none⟩ = some (.int .i64 t) ∧ w'.cell? ⟨B1 + 1, 1, none⟩ = some (.int .i64 t) ∧ w'.cell? ⟨B1 + 1, 2, none⟩ = some (.int .i64 1)) (first | exact ⟨cw, x0, x1, x2⟩ | exact HKP.out _ HB8.out | exact HKP.out _ HB7.out | go_keep) (first
                | (go_at_call 14
                   refine (HDN.out _).mono ?_
                   rintro e w7 ⟨q, rfl, hq, HQ, hb7⟩
                   have HB7 : Hid (Below wr.heap.size wr w7) := hid ⟨hb7.os, hb7.tape, hb7.output, hb7.size, hb7.block⟩
                   obtain ⟨y, y0, y1, y2⟩ := HKP.out w7 HB7.out
                   have a1 := strAdd (P := Tryz.prog) x q (by omega)
                   have a2 := strAdd (P := Tryz.prog) (x ++ q) ⟨#[93, 41]⟩ (by simp only [ByteArray.size_append]; omega)
                   have hszq : (x ++ q ++ ⟨#[93, 41]⟩ : ByteArray).size ≤ 9223372036854775807 := by simp only [ByteArray.size_append]; omega
                   have HQW : Hid (bl (x ++ q ++ ⟨#[93, 41]⟩) = overWords.getD j [] ++ [40, 120, 91] ++ decI ((g : Int) + 1) ++ [93, 41]) := hid (by rw [bl_app, bl_app, HXB.out, HQ.out]; rfl)
                   clear hb7)
                | (go_at_call 10
                   refine (HE.out _ L t _ hszq hLm (HBj.out.trans (((⟨HB7.out.os, HB7.out.tape, HB7.out.output, HB7.out.size, HB7.out.block⟩ : Below wr.heap.size wr _)).mono HBj.out.size))).mono ?_
                   rintro e w8 ⟨r, c, p, rfl, HQr, hb8⟩
                   have HB8 : Hid (Below wr.heap.size wr w8) := hid (HB7.out.trans ((⟨hb8.os, hb8.tape, hb8.output, hb8.size, hb8.block⟩ : Below w7.heap.size w7 w8).mono HB7.out.size))
                   have HR8 := hid (HEW.out j _ r c p hlt HQW.out HQr.out)
                   clear hb8))
              all_goals
                go_wp2_with fail
                go_meet
                exact ⟨_, _, _, rfl, rfl, rfl, HR8, HB8⟩
            case rest =>
            obtain ⟨r, c, p, rfl, rfl, rfl, HR, HBc⟩ := hcut
            obtain ⟨hrb, hc0⟩ := HR.out
            subst hc0
            have HRB := hid hrb
            clear HR hrb cw x0 x1 x2 HKP e93 HXB hxs
            go_wp2_with fail
            refine (HDT.out wc).mono ?_
            rintro e w9 ⟨d, rfl, hd, HD, hb9⟩
            have HB9 : Hid (Below wr.heap.size wr w9) := hid (HBc.out.trans (hb9.mono HBc.out.size))
            clear hb9 HBc
            have e3 : (⟨#[32, 123, 125]⟩ : ByteArray).size = 3 := rfl
            by_cases hne : 0 < near.length
            · have hgt : (0 : Int) < near.length := by omega
              have HW : Hid (wantV t near (toldV j near) = decI t ++ [32, 123, 125] ++ decI (toldV j near)) := hid (by
                unfold wantV
                rw [if_neg (by cases hh : near with | nil => rw [hh] at hne; exact absurd hne (by decide) | cons a b => simp), List.append_assoc])
              have a1 := strAdd (P := Tryz.prog) d ⟨#[32, 123, 125]⟩ (by omega)
              go_wp2_with fail
              refine (ktold_any j (by omega) _ near w9 (own_zero (own_below HNj.out.1 HB9.out)) hln HMN.out hne).mono ?_
              rintro e w10 ⟨rfl, nd, hw10⟩
              have hb10 : Below w9.heap.size w9 w10 := by rw [hw10]; exact below_drewN' (Below.refl _ _) _
              have HB10 : Hid (Below wr.heap.size wr w10) := hid (HB9.out.trans (hb10.mono HB9.out.size))
              have etk : toldK j near = toldV j near := by unfold toldK; rw [if_neg (by omega)]
              rw [etk]
              have hbd := (told_cut HMN.out hln j).2
              obtain ⟨hbd1, hbd2⟩ := hbd
              clear hb10 hw10 HB9 etk
              go_wp2_with fail
              refine (kdec_any (toldV j near) w10 (by omega) (by omega)).mono ?_
              rintro e w11 ⟨d2, rfl, hd2, HD2, hb11⟩
              have HB11 : Hid (Below wr.heap.size wr w11) := hid (HB10.out.trans (hb11.mono HB10.out.size))
              have a2 := strAdd (P := Tryz.prog) (d ++ ⟨#[32, 123, 125]⟩) d2 (by simp only [ByteArray.size_append]; omega)
              obtain rfl : r = d ++ ⟨#[32, 123, 125]⟩ ++ d2 := bl_inj (by rw [HRB.out, HW.out, bl_app, bl_app, HD.out, HD2.out]; rfl)
              have HW2 := hid (HWj.out.below HB11.out)
              have HS2 := hid (HSj.out.below HB11.out)
              have HN2 := hid (HNj.out.below HB11.out)
              have HB2 : Hid (Below w.heap.size w w11) := hid (HBj.out.trans (HB11.out.mono HBj.out.size))
              clear hb11 HB10 HD HD2 HW HRB HWj HSj HNj HBj
              go_wp2
              go_roundg (5 - (j + 1))
              case measure => omega
              case rel => exact ⟨j + 1, by omega, rfl, by go_num, HW2, HS2, HN2, HB2⟩
            · have hng : ¬ ((0 : Int) < near.length) := by omega
              obtain rfl : r = d := bl_inj (by
                rw [HRB.out, HD.out]
                unfold wantV
                rw [if_pos (by cases hh : near with | nil => rfl | cons a b => rw [hh] at hne; simp at hne), List.append_nil])
              have HW2 := hid (HWj.out.below HB9.out)
              have HS2 := hid (HSj.out.below HB9.out)
              have HN2 := hid (HNj.out.below HB9.out)
              have HB2 : Hid (Below w.heap.size w w9) := hid (HBj.out.trans (HB9.out.mono HBj.out.size))
              clear HD HRB HWj HSj HNj HBj HB9
              go_wp2
              go_roundg (5 - (j + 1))
              case measure => omega
              case rel => exact ⟨j + 1, by omega, rfl, by go_num, HW2, HS2, HN2, HB2⟩
          · obtain rfl : j = 5 := by omega
            have e3 : (⟨#[32, 123, 125]⟩ : ByteArray).size = 3 := rfl
            go_wp2_with fail
            refine (HE.out ⟨#[120]⟩ L t wr (by decide) hLm HBj.out).mono ?_
            rintro e w8 ⟨r, c, p, rfl, HQr, hb8⟩
            have hrx := HEX.out r c p (show evalQ [120] (bl L) t t 1 = (bl r, c, p) from by have h := HQr.out; rw [show bl (⟨#[120]⟩ : ByteArray) = [120] from rfl] at h; exact h)
            obtain ⟨hrb, hc0⟩ := hrx
            subst hc0
            have HRB := hid hrb
            have HB8 : Hid (Below wr.heap.size wr w8) := hid hb8
            clear hrb HQr hb8 x0 x1 x2 HE HEX HEW
            go_wp2_with fail
            refine (HDT.out w8).mono ?_
            rintro e w9 ⟨d, rfl, hd, HD, hb9⟩
            have HB9 : Hid (Below wr.heap.size wr w9) := hid (HB8.out.trans (hb9.mono HB8.out.size))
            clear hb9 HB8
            by_cases hne : 0 < last.length
            · have hgt : (0 : Int) < last.length := by omega
              have HW : Hid (wantV t last (last.getLastD 0) = decI t ++ [32, 123, 125] ++ decI (last.getLastD 0)) := hid (by
                unfold wantV
                rw [if_neg (by cases hh : last with | nil => rw [hh] at hne; exact absurd hne (by decide) | cons a b => simp), List.append_assoc])
              have a1 := strAdd (P := Tryz.prog) d ⟨#[32, 123, 125]⟩ (by omega)
              go_wp2_with fail
              obtain ⟨y, hy⟩ : ∃ y, y = last.getLastD 0 := ⟨_, rfl⟩
              rw [← hy] at HW HRB
              refine (ktold_any 5 (by omega) _ last w9 (own_zero (own_below HNj.out.2.1 HB9.out)) hll HML.out hne).mono ?_
              rintro e w10 ⟨rfl, nd, hw10⟩
              have hb10 : Below w9.heap.size w9 w10 := by rw [hw10]; exact below_drewN' (Below.refl _ _) _
              have HB10 : Hid (Below wr.heap.size wr w10) := hid (HB9.out.trans (hb10.mono HB9.out.size))
              have etk : toldK 5 last = y := by unfold toldK; rw [if_pos rfl, hy]
              rw [etk]
              have hbd := (head_mil HML.out).2
              rw [← hy] at hbd
              unfold mil at hbd
              obtain ⟨hbd1, hbd2⟩ := hbd
              clear hb10 hw10 HB9 etk hy
              go_wp2_with fail
              refine (kdec_any y w10 (by omega) (by omega)).mono ?_
              rintro e w11 ⟨d2, rfl, hd2, HD2, hb11⟩
              have HB11 : Hid (Below wr.heap.size wr w11) := hid (HB10.out.trans (hb11.mono HB10.out.size))
              have a2 := strAdd (P := Tryz.prog) (d ++ ⟨#[32, 123, 125]⟩) d2 (by simp only [ByteArray.size_append]; omega)
              obtain rfl : r = d ++ ⟨#[32, 123, 125]⟩ ++ d2 := bl_inj (by rw [HRB.out, HW.out, bl_app, bl_app, HD.out, HD2.out]; rfl)
              have HB2 : Hid (Below w.heap.size w w11) := hid (HBj.out.trans (HB11.out.mono HBj.out.size))
              clear hb11 HB10 HD HD2 HW HRB HWj HSj HNj HBj
              go_wp2
              go_ret
              exact ⟨by simp, HB2.out⟩
            · have hng : ¬ ((0 : Int) < last.length) := by omega
              obtain rfl : r = d := bl_inj (by
                rw [HRB.out, HD.out]
                unfold wantV
                rw [if_pos (by cases hh : last with | nil => rfl | cons a b => rw [hh] at hne; simp at hne), List.append_nil])
              have HB2 : Hid (Below w.heap.size w w9) := hid (HBj.out.trans (HB9.out.mono HBj.out.size))
              clear HD HRB HWj HSj HNj HBj HB9
              go_wp2
              go_ret
              exact ⟨by simp, HB2.out⟩
end Go.Proofs.YtpbemaaghbbocaaGreatDoor
