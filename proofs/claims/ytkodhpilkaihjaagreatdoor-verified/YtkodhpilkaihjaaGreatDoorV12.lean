/- Parts. -/
import Derived.Test.YtkodhpilkaihjaaGreatDoorV11
import Derived.Laws.IdiomStrings
import Derived.Test.YtkodhpilkaihjaaGreatDoorV08
namespace Go.Proofs.YtkodhpilkaihjaaGreatDoor
open Go.RowKit LS
theorem bitS_odd {h : Nat} (hh : h % 2 = 1) : bitS h = (h / 2) ^^^ 3988292384 := if_pos hh
theorem bitS_even {h : Nat} (hh : ¬ h % 2 = 1) : bitS h = h / 2 := if_neg hh
theorem ret_u32 {k : IntKind} {a b : Int} (h : a = b) : Ending.returned (.int k a) = .returned (.int k b) := by rw [h]
theorem xor_byte {h0 : Nat} (hb : h0 < 4294967296) (c : UInt8) : bits .xor .u32 (h0 : Int) ((c.toNat : Int) % 4294967296) = ((h0 ^^^ c.toNat : Nat) : Int) := by
  have hc := c.toNat_lt
  rw [show ((c.toNat : Int) % 4294967296) = (c.toNat : Int) by omega]
  exact u32_xor_nat h0 _ hb (by omega)
theorem xor_ones {z : Nat} (hz : z < 4294967296) : 4294967295 ^^^ z = 4294967295 - z := by
  have h : (BitVec.allOnes 32 ^^^ BitVec.ofNat 32 z).toNat = (~~~ BitVec.ofNat 32 z).toNat := by rw [BitVec.allOnes_xor]
  rw [BitVec.toNat_xor, BitVec.toNat_not, BitVec.toNat_ofNat, Nat.mod_eq_of_lt hz] at h
  exact h
theorem not_u32 {z : Nat} (hz : z < 4294967296) : bits .xor .u32 IntKind.u32.max (z : Int) = 4294967295 - (z : Int) := by
  have := u32_xor_nat 4294967295 z (by decide) hz
  rw [xor_ones hz] at this
  rw [show IntKind.u32.max = ((4294967295 : Nat) : Int) from rfl, this]
  omega
theorem and_one {z : Nat} (hz : z < 4294967296) : bits .and .u32 (z : Int) 1 = (z : Int) % 2 := by
  have := u32_and_nat z 1 hz (by decide)
  rw [Nat.and_one_is_mod] at this
  rw [show (1 : Int) = ((1 : Nat) : Int) from rfl, this]
  omega
set_option maxHeartbeats 2000000 in
theorem rSum_any (s : ByteArray) (w : World) (hs : s.size ≤ maxLen) :
    Calls Tryz.prog 30 #[.string s] w fun e w' => e = .returned (.int .u32 (sumQ (bl s))) ∧ w' = w := by
  unfold maxLen at hs
  go_enter Tryz.func30, Tryz.ntmps30
  go_wp2
  go_loop [3, 4] (fun h i => ∃ k : Nat, k ≤ s.size ∧ i = .int .i64 k ∧ h = .int .u32 (sumL ((bl s).take k))) (fun _ i => s.size - (intOf i).toNat)
  case atStart => exact ⟨0, Nat.zero_le _, rfl, rfl⟩
  case round =>
    obtain ⟨k, hk, rfl, rfl⟩ := hrel
    have hb := sumL_lt ((bl s).take k)
    obtain ⟨h0, hh0⟩ : ∃ h0, sumL ((bl s).take k) = h0 := ⟨_, rfl⟩
    have HH0 : Hid (sumL ((bl s).take k) = h0) := hh0
    rw [hh0] at hb ⊢
    clear hh0
    by_cases hlt : k < s.size
    · have hx := xor_byte hb s[k]
      have HNX : Hid (sumL ((bl s).take (k + 1)) = bitsS 8 (h0 ^^^ s[k].toNat)) := hid (by rw [take_snoc s k hlt, sumL_snoc, HH0.out]; rfl)
      have hg0 : h0 ^^^ s[k].toNat < 4294967296 := xorb_lt hb _
      obtain ⟨g0, hgg⟩ : ∃ g0, h0 ^^^ s[k].toNat = g0 := ⟨_, rfl⟩
      rw [hgg] at hx HNX hg0
      clear hgg HH0
      go_wp2
      go_loop [3, 5] (fun h i => ∃ j : Nat, j ≤ 8 ∧ i = .int .i64 j ∧ h = .int .u32 (bitsS j g0)) (fun _ i => 8 - (intOf i).toNat)
      case atStart => exact ⟨0, Nat.zero_le _, rfl, rfl⟩
      case round =>
        obtain ⟨j, hj, rfl, rfl⟩ := hrel
        by_cases hj8 : j < 8
        · have hz := bitsS_lt hg0 j
          have HS : Hid (bitsS (j + 1) g0 = bitS (bitsS j g0)) := rfl
          generalize bitsS j g0 = z at *
          by_cases ho : z % 2 = 1
          · have hx2 : bits .xor .u32 ((z : Int) / 2) 3988292384 = ((z / 2 ^^^ 3988292384 : Nat) : Int) := by
              have := u32_xor_nat (z / 2) 3988292384 (by omega) (by omega)
              simpa using this
            have hm : ((z : Int) % 2 == 1) = true := by rw [beq_iff_eq]; omega
            have HB := hid (bitS_odd ho)
            clear ho
            go_wp2
            go_round
            case rel => exact ⟨j + 1, by omega, by go_num, by rw [HS.out, HB.out]⟩
            case measure => simp [intOf]; omega
          · have hm : ((z : Int) % 2 == 1) = false := by rw [beq_eq_false_iff_ne]; omega
            have HB := hid (bitS_even ho)
            clear ho
            go_wp2
            go_round
            case rel => exact ⟨j + 1, by omega, by go_num, by rw [HS.out, HB.out]; go_num⟩
            case measure => simp [intOf]; omega
        · obtain rfl : j = 8 := by omega
          go_wp2
          go_round
          case rel => exact ⟨k + 1, by omega, by go_num, by rw [HNX.out]⟩
          case measure => simp [intOf]; omega
    · have HF : Hid (sumQ (bl s) = 4294967295 - h0) := hid (by
        unfold sumQ; rw [← HH0.out, List.take_of_length_le (by rw [bl_length]; omega)])
      clear HH0
      go_wp2
      go_ret
      exact ⟨ret_u32 (by rw [HF.out]; omega), rfl⟩
set_option maxHeartbeats 2000000 in
theorem pSum_any (s : ByteArray) (w : World) (hs : s.size ≤ maxLen) :
    Calls Tryz.prog 77 #[.string s] w fun e w' => e = .returned (.int .u32 (sumQ (bl s))) ∧ w' = w := by
  unfold maxLen at hs
  go_enter Tryz.func77, Tryz.ntmps77
  go_wp2
  go_loop [3, 8] (fun h i => ∃ k : Nat, k ≤ s.size ∧ i = .int .i64 k ∧ h = .int .u32 (sumL ((bl s).take k))) (fun _ i => s.size - (intOf i).toNat)
  case atStart => exact ⟨0, Nat.zero_le _, rfl, rfl⟩
  case round =>
    obtain ⟨k, hk, rfl, rfl⟩ := hrel
    have hb := sumL_lt ((bl s).take k)
    obtain ⟨h0, hh0⟩ : ∃ h0, sumL ((bl s).take k) = h0 := ⟨_, rfl⟩
    have HH0 : Hid (sumL ((bl s).take k) = h0) := hh0
    rw [hh0] at hb ⊢
    clear hh0
    by_cases hlt : k < s.size
    · have hx := xor_byte hb s[k]
      have HNX : Hid (sumL ((bl s).take (k + 1)) = bitsS 8 (h0 ^^^ s[k].toNat)) := hid (by rw [take_snoc s k hlt, sumL_snoc, HH0.out]; rfl)
      have hg0 : h0 ^^^ s[k].toNat < 4294967296 := xorb_lt hb _
      obtain ⟨g0, hgg⟩ : ∃ g0, h0 ^^^ s[k].toNat = g0 := ⟨_, rfl⟩
      rw [hgg] at hx HNX hg0
      clear hgg HH0
      go_wp2
      go_loop [3, 17] (fun h i => ∃ j : Nat, j ≤ 8 ∧ i = .int .i64 j ∧ h = .int .u32 (bitsS j g0)) (fun _ i => 8 - (intOf i).toNat)
      case atStart => exact ⟨0, Nat.zero_le _, rfl, rfl⟩
      case round =>
        obtain ⟨j, hj, rfl, rfl⟩ := hrel
        by_cases hj8 : j < 8
        · have hz := bitsS_lt hg0 j
          have HS : Hid (bitsS (j + 1) g0 = bitS (bitsS j g0)) := rfl
          generalize bitsS j g0 = z at *
          have hone := and_one hz
          by_cases ho : z % 2 = 1
          · have hx2 : bits .xor .u32 ((z : Int) / 2) 3988292384 = ((z / 2 ^^^ 3988292384 : Nat) : Int) := by
              have := u32_xor_nat (z / 2) 3988292384 (by omega) (by omega)
              simpa using this
            have hm : ((z : Int) % 2 == 1) = true := by rw [beq_iff_eq]; omega
            have HB := hid (bitS_odd ho)
            clear ho
            go_wp2
            go_round
            case rel => exact ⟨j + 1, by omega, by go_num, by rw [HS.out, HB.out]⟩
            case measure => simp [intOf]; omega
          · have hm : ((z : Int) % 2 == 1) = false := by rw [beq_eq_false_iff_ne]; omega
            have HB := hid (bitS_even ho)
            clear ho
            go_wp2
            go_round
            case rel => exact ⟨j + 1, by omega, by go_num, by rw [HS.out, HB.out]; go_num⟩
            case measure => simp [intOf]; omega
        · obtain rfl : j = 8 := by omega
          go_wp2
          go_round
          case rel => exact ⟨k + 1, by omega, by go_num, by rw [HNX.out]⟩
          case measure => simp [intOf]; omega
    · have HF : Hid (sumQ (bl s) = 4294967295 - h0) := hid (by
        unfold sumQ; rw [← HH0.out, List.take_of_length_le (by rw [bl_length]; omega)])
      have hn := not_u32 hb
      clear HH0
      go_wp2
      go_ret
      exact ⟨ret_u32 (by rw [HF.out]; omega), rfl⟩
set_option maxHeartbeats 2000000 in
theorem rBack_any (s : ByteArray) (w : World) (hs : s.size ≤ 6) :
    Calls Tryz.prog 49 #[.string s] w fun e w' => e = .returned (.int .i64 (back (bl s))) ∧ w' = w := by
  go_enter Tryz.func49, Tryz.ntmps49
  go_wp2
  go_loop [3, 4] (fun h i => ∃ k : Nat, k ≤ s.size ∧ i = .int .i64 k ∧ h = .int .i64 (back ((bl s).take k))) (fun _ i => s.size - (intOf i).toNat)
  case atStart => exact ⟨0, Nat.zero_le _, rfl, rfl⟩
  case round =>
    obtain ⟨k, hk, rfl, rfl⟩ := hrel
    have hb : back ((bl s).take k) < 256 ^ 6 := back_lt_of (by rw [List.length_take]; omega)
    obtain ⟨h0, hh0⟩ : ∃ h0, back ((bl s).take k) = h0 := ⟨_, rfl⟩
    have HH0 : Hid (back ((bl s).take k) = h0) := hh0
    rw [hh0] at hb ⊢
    clear hh0
    by_cases hlt : k < s.size
    · have HNX : Hid (back ((bl s).take (k + 1)) = 256 * h0 + s[k].toNat) := hid (by rw [take_snoc s k hlt, back_snoc, HH0.out])
      have hc := s[k].toNat_lt
      clear HH0
      go_wp2
      go_round
      case rel => exact ⟨k + 1, by omega, by go_num, by rw [HNX.out]; go_num⟩
      case measure => simp [intOf]; omega
    · have HF : Hid (back (bl s) = h0) := hid (by rw [← HH0.out, List.take_of_length_le (by rw [bl_length]; omega)])
      clear HH0
      go_wp2
      go_ret
      exact ⟨ret_u32 (by rw [HF.out]), rfl⟩
theorem bl_app2 (a b : ByteArray) : bl (a ++ b) = bl a ++ bl b := by
  simp [bl, ByteArray.data_append]
theorem conv_byte (W : World) (d : Nat) (hd : d < 256) : (convert 41 9 (.slice (some ⟨W.heap.size, 0, none⟩) 1 1)).run Tryz.prog (W.alloc (.cells #[.int .u8 (d : Int)] 5)) = .ok (.string ⟨#[UInt8.ofNat d]⟩) (W.alloc (.cells #[.int .u8 (d : Int)] 5)) := by
  refine run_convert_bytes_back _ _ _ 5 ⟨W.heap.size, 0, none⟩ 1 [UInt8.ofNat d] Tryz.underlying41 Tryz.underlying5 Tryz.underlying9 ?_
  intro j hj
  obtain rfl : j = 0 := by simp at hj; omega
  rw [add_zero_block]
  have h := Go.Deep.blk_alloc_new W (.cells #[.int .u8 (d : Int)] 5)
  simp only [World.cell?, h]
  simp
  omega
set_option maxRecDepth 100000 in
set_option maxHeartbeats 2000000 in
theorem rDigits_any (n : Nat) (w : World) (hn : n < 4294967296) :
    Calls Tryz.prog 29 #[.int .i64 n, .int .i64 4] w fun e w' => ∃ r : ByteArray, e = .returned (.string r) ∧ Hid (bl r = digL n 4) ∧ Below w.heap.size w w' := by
  go_enter Tryz.func29, Tryz.ntmps29
  go_wp2
  go_loopw [0, 5, 6] (fun nv sv iv wr => ∃ (k : Nat) (r : ByteArray), k ≤ 4 ∧ iv = .int .i64 k ∧ nv = .int .i64 ((n / 256 ^ k : Nat) : Int) ∧ sv = .string r ∧ Hid (bl r = digL n k) ∧ Below w.heap.size w wr) (fun _ _ iv _ => 4 - (intOf iv).toNat)
  case atStart => exact ⟨0, ⟨#[]⟩, Nat.zero_le _, rfl, by simp, rfl, hid rfl, Below.refl _ _⟩
  case round =>
    obtain ⟨k, r, hk, rfl, rfl, rfl, HR, hb⟩ := hrel
    have hsz := hb.size
    have HM : Hid (n / 256 ^ (k + 1) = n / 256 ^ k / 256) := hid (by rw [Nat.div_div_eq_div_mul, ← Nat.pow_succ])
    have hm : n / 256 ^ k < 4294967296 := Nat.lt_of_le_of_lt (Nat.div_le_self _ _) hn
    have HD : Hid (digL n (k + 1) = UInt8.ofNat (n / 256 ^ k % 256) :: digL n k) := hid (digL_cons k n)
    have hrs : r.size ≤ 4 := by rw [size_of_bl HR.out, digL_len]; exact hk
    generalize n / 256 ^ k = m at *
    by_cases hlt : k < 4
    · have hcv := conv_byte wr (m % 256) (by omega)
      rw [show ((m % 256 : Nat) : Int) = (m : Int) % 256 from by omega] at hcv
      have HF : Hid (bl (⟨#[UInt8.ofNat (m % 256)]⟩ ++ r) = digL n (k + 1)) := hid (by rw [bl_app2, HD.out, HR.out]; rfl)
      have e1 : (⟨#[UInt8.ofNat (m % 256)]⟩ : ByteArray).size = 1 := rfl
      have a1 : ∀ W, (Op.stringOp .add ⟨#[UInt8.ofNat (m % 256)]⟩ r).run Tryz.prog W = .ok (.string (⟨#[UInt8.ofNat (m % 256)]⟩ ++ r)) W := fun W => run_string_add_sum W _ _ (by omega)
      go_wp2
      go_roundw
      case rel => exact ⟨k + 1, _, by omega, by go_num, by rw [HM.out]; go_num, rfl, HF, (by repeat (first | exact Below.refl _ _ | assumption | refine Below.alloc ?_ (by first | omega | (simp; omega) | simp) _ | refine Below.setCell ?_ (by first | omega | (simp; omega) | simp) _ | refine below_drewN' ?_ _ | refine Below.drew ?_))⟩
      case measure => simp [intOf]; omega
    · obtain rfl : k = 4 := by omega
      go_wp2
      go_ret
      exact ⟨r, rfl, HR, hb⟩
set_option maxRecDepth 100000 in
set_option maxHeartbeats 2000000 in
theorem rSealed_any (s : ByteArray) (w : World) (hs : s.size + 4 ≤ 9223372036854775807) :
    Calls Tryz.prog 17 #[.string s] w fun e w' => ∃ r : ByteArray, e = .returned (.string r) ∧ Hid (bl r = bl s ++ digL (sumQ (bl s)) 4) ∧ Below w.heap.size w w' := by
  have hq := sumQ_lt (bl s)
  go_enter Tryz.func17, Tryz.ntmps17
  go_wp2_with fail
  refine (rSum_any s _ (by unfold maxLen; omega)).mono ?_
  rintro e w0 ⟨rfl, rfl⟩
  go_wp2_with fail
  refine (rDigits_any (sumQ (bl s)) _ hq).mono ?_
  rintro e w1 ⟨r, rfl, HR, hb⟩
  have hrs : r.size = 4 := by rw [size_of_bl HR.out, digL_len]
  have a1 : ∀ W, (Op.stringOp .add s r).run Tryz.prog W = .ok (.string (s ++ r)) W := fun W => run_string_add_sum W _ _ (by omega)
  clear hrs
  go_wp2
  go_ret
  exact ⟨_, rfl, hid (by rw [bl_app2, HR.out]), hb⟩
abbrev RdAt (w : World) (b : Nat) (s : ByteArray) (p : Nat) : Prop := BAt w b [.string s, .int .i64 p] 178
abbrev CodeS (w : World) (ca : Addr) : Prop := w.cell? ⟨8, 0, none⟩ = some (.iface 491 (.pointer (some ca)))
def RdC {α : Type} (V : World → α → Value → Prop) (Z : Value → Prop) (w : World) (b : Nat) (s : ByteArray) (ca : Addr) (r : RdR α) (v err : Value) : Prop := match r with
  | .ok x => err = .nilIface ∧ V w x.1 v ∧ RdAt w b s x.2
  | .error x => x.1 = 9 ∧ ErrAt w err x.2 ca ∧ Z v ∧ ∃ p : Nat, RdAt w b s p
theorem RdC.ok {α : Type} {V : World → α → Value → Prop} {Z : Value → Prop} {w : World} {b : Nat} {s : ByteArray} {ca : Addr} {r : RdR α} {v err : Value} (h : RdC V Z w b s ca r v err) {x : α × Nat} (hr : r = .ok x) : err = .nilIface ∧ V w x.1 v ∧ RdAt w b s x.2 := by subst hr; exact h
theorem RdC.err {α : Type} {V : World → α → Value → Prop} {Z : Value → Prop} {w : World} {b : Nat} {s : ByteArray} {ca : Addr} {r : RdR α} {v err : Value} (h : RdC V Z w b s ca r v err) {x : Nat × Nat} (hr : r = .error x) : x.1 = 9 ∧ ErrAt w err x.2 ca ∧ Z v ∧ ∃ p : Nat, RdAt w b s p := by subst hr; exact h
theorem RdC.mkOk {α : Type} {V : World → α → Value → Prop} {Z : Value → Prop} {w : World} {b : Nat} {s : ByteArray} {ca : Addr} {r : RdR α} {v err : Value} {x : α × Nat} (hr : r = .ok x) (h : err = .nilIface ∧ V w x.1 v ∧ RdAt w b s x.2) : RdC V Z w b s ca r v err := by subst hr; exact h
theorem RdC.mkErr {α : Type} {V : World → α → Value → Prop} {Z : Value → Prop} {w : World} {b : Nat} {s : ByteArray} {ca : Addr} {r : RdR α} {v err : Value} {x : Nat × Nat} (hr : r = .error x) (h : x.1 = 9 ∧ ErrAt w err x.2 ca ∧ Z v ∧ ∃ p : Nat, RdAt w b s p) : RdC V Z w b s ca r v err := by subst hr; exact h
theorem CodeS.grown {w w' : World} {ca : Addr} {b : Nat} (h : CodeS w ca) (hg : w.grownBy w' (some b)) (hb : 20 ≤ b) : CodeS w' ca := by
  have hl : 8 < w.heap.size := World.block_lt_of_cell? _ _ h
  have e := hg.block _ hl (by intro e; injection e with e; have : 8 < 20 := by decide
                              omega)
  unfold CodeS at h ⊢
  unfold World.cell? at h ⊢
  simp only at h ⊢
  rw [e]; exact h
theorem CodeS.below {w w' : World} {ca : Addr} (h : CodeS w ca) (hb : Below w.heap.size w w') : CodeS w' ca :=
  (hb.cell (p := ⟨_, 0, none⟩) (World.block_lt_of_cell? _ _ h)).trans h
theorem RdAt.step {w : World} {b : Nat} {s : ByteArray} {p : Nat} (h : RdAt w b s p) (q : Nat) : RdAt (w.setCell ⟨b, 1, none⟩ (.int .i64 (q : Int))) b s q := by
  unfold RdAt BAt at h ⊢
  simp only [World.setCell, Array.getElem?_modify, h, if_true, Option.map_some]; rfl
theorem ErrAt.shape {w : World} {v : Value} {p : Int} {a : Addr} (h : ErrAt w v p a) : ∃ fa : Nat, v = .iface 115 (.pointer (some ⟨fa, 0, none⟩)) := ErrAt.lt h
set_option maxHeartbeats 1000000 in
theorem cstand_any (i : Int) (ca : Addr) (w : World) (hc : CodeS w ca) :
    Calls Tryz.prog 76 #[.int .i64 i] w fun e w' => ∃ v, e = .returned v ∧ Hid (ErrAt w' v i ca) ∧ Below w.heap.size w w' := by
  have hc' : w.cell? ⟨8, 0, none⟩ = some (.iface 491 (.pointer (some ca))) := hc
  clear hc
  go_enter Tryz.func76, Tryz.ntmps76
  go_wp2_with fail
  refine (atByte_any i _ w).mono ?_
  rintro e w' ⟨rfl, rfl⟩
  have HE : Hid (ErrAt (w.alloc (.cells #[.string ⟨#[98, 121, 116, 101]⟩, .int .i64 i, .iface 491 (.pointer (some ca))] 119)) (.iface 115 (.pointer (some ⟨w.heap.size, 0, none⟩))) i ca) := hid ⟨_, rfl, Go.Deep.blk_alloc_new _ _⟩
  go_wp2
  go_ret
  exact ⟨_, rfl, HE, (Below.refl _ _).alloc (Nat.le_refl _) _⟩
def SVt (_ : World) (a : List UInt8) (v : Value) : Prop := ∃ t : ByteArray, v = .string t ∧ bl t = a
def SZ (v : Value) : Prop := v = .string ⟨#[]⟩
set_option maxRecDepth 100000 in
set_option maxHeartbeats 2000000 in
theorem rtake_any (s : ByteArray) (p n b : Nat) (ca : Addr) (w : World) (hr : RdAt w b s p) (hc : CodeS w ca) (hp : p ≤ s.size) (hs : s.size ≤ maxLen) (hn : n ≤ 70000) :
    Calls Tryz.prog 144 #[.pointer (some ⟨b, 0, none⟩), .int .i64 n] w fun e w' => ∃ v err, e = .returned (.tuple #[v, err]) ∧ Hid (RdC SVt SZ w' b s ca (textN (bl s) p n) v err) ∧ w.grownBy w' (some b) := by
  unfold maxLen at hs
  have HR : Hid (RdAt w b s p) := hr
  have HC : Hid (CodeS w ca) := hc
  have HRD : Hid (RdAt w.drew b s p) := hid (hr.below ((Below.refl _ _).drew))
  have c0 : w.cell? ⟨b, 0, none⟩ = some (.string s) := HR.out.cell 0
  have c1 : w.cell? ⟨b, 1, none⟩ = some (.int .i64 p) := HR.out.cell 1
  have f1 : w.frozen? ⟨b, 1, none⟩ = false := HR.out.frozen 1
  clear hr hc
  by_cases h : s.size < p + n
  · have hd : (s.size : Int) - p < n := by omega
    have HX : Hid (textN (bl s) p n = .error (9, s.size)) := hid (by unfold textN; rw [if_pos (by rw [bl_length]; exact h), bl_length])
    clear h
    go_enter Tryz.func144, Tryz.ntmps144
    go_wp2
    go_region
    all_goals
      go_wp2_with fail
      refine (cstand_any _ ca _ (HC.out.below ((Below.refl _ _).drew))).mono ?_
      rintro e w1 ⟨v, rfl, hv, hb1⟩
      have HE := hid (ErrAt.shape hv.out)
      have HF : Hid (RdC SVt SZ w1 b s ca (textN (bl s) p n) (.string ⟨#[]⟩) v) := hid (RdC.mkErr HX.out ⟨rfl, hv.out, rfl, p, HRD.out.below hb1⟩)
      have HG : Hid (w.grownBy w1 (some b)) := hid (grown_of_below (((Below.refl w.heap.size w).drew).trans hb1))
      obtain ⟨fa, rfl⟩ := HE.out
      clear hv hb1
      go_wp2
      go_ret2
      exact ⟨_, _, rfl, HF, HG.out⟩
  · have hd : ¬ (s.size : Int) - p < n := by omega
    have HX : Hid (textN (bl s) p n = .ok (bl (s.extract p (p + n)), p + n)) := hid (by unfold textN; rw [if_neg (by rw [bl_length]; omega), sub_bl])
    have HF : Hid (RdAt (w.drew.setCell ⟨b, 1, none⟩ (.int .i64 ((p + n : Nat) : Int))) b s (p + n)) := hid (RdAt.step HRD.out _)
    have HG : Hid (w.grownBy (w.drew.setCell ⟨b, 1, none⟩ (.int .i64 ((p + n : Nat) : Int))) (some b)) := hid (grown_set (grown_drew (grown_refl _ _)) (Or.inl rfl) _)
    have hpn : p + n ≤ s.size := by omega
    go_enter Tryz.func144, Tryz.ntmps144
    go_wp2
    go_region
    all_goals
      go_wp2
      go_region
      all_goals
        go_wp2
        go_ret2
        exact ⟨_, _, rfl, hid (RdC.mkOk HX.out ⟨rfl, ⟨_, rfl, rfl⟩, HF.out.below ((Below.refl _ _).drew)⟩), grown_drew HG.out⟩
def NV (_ : World) (a : Nat) (v : Value) : Prop := v = .int .i64 a
def NZ (v : Value) : Prop := v = .int .i64 0
theorem or_byte {a c : Nat} (ha : a < 16777216) (hc : c < 256) : bits .or .i64 ((a : Int) * 256) (c : Int) = ((256 * a + c : Nat) : Int) := by
  have h1 : (BitVec.ofInt 64 ((a : Int) * 256)).toNat = a * 256 := by
    rw [show ((a : Int) * 256) = ((a * 256 : Nat) : Int) by omega, BitVec.ofInt_natCast, BitVec.toNat_ofNat]; exact Nat.mod_eq_of_lt (by omega)
  have h2 : (BitVec.ofInt 64 (c : Int)).toNat = c := by
    rw [BitVec.ofInt_natCast, BitVec.toNat_ofNat]; exact Nat.mod_eq_of_lt (by omega)
  have h3 : a * 256 ||| c = 256 * a + c := by
    have := Nat.two_pow_add_eq_or_of_lt (i := 8) (b := c) hc a
    rw [show (2 : Nat) ^ 8 = 256 from rfl] at this
    rw [Nat.mul_comm a 256]; exact this.symm
  show IntKind.i64.wrap ((BitVec.ofInt 64 ((a : Int) * 256) ||| BitVec.ofInt 64 (c : Int)).toNat : Int) = _
  rw [BitVec.toNat_or, h1, h2, h3, IntKind.wrap_i64]
  omega
set_option maxRecDepth 100000 in
set_option maxHeartbeats 2000000 in
theorem rnumber_any (s : ByteArray) (p n b : Nat) (ca : Addr) (w : World) (hr : RdAt w b s p) (hc : CodeS w ca) (hp : p ≤ s.size) (hs : s.size ≤ maxLen) (hn : n ≤ 4) :
    Calls Tryz.prog 75 #[.pointer (some ⟨b, 0, none⟩), .int .i64 n] w fun e w' => ∃ v err, e = .returned (.tuple #[v, err]) ∧ Hid (RdC NV NZ w' b s ca (numAt (bl s) p n) v err) ∧ w.grownBy w' (some b) := by
  have HT : Hid (Calls Tryz.prog 144 #[.pointer (some ⟨b, 0, none⟩), .int .i64 n] w _) := hid (rtake_any s p n b ca w hr hc hp hs (by omega))
  clear hr hc hs
  go_enter Tryz.func75, Tryz.ntmps75
  go_wp2_with fail
  refine HT.out.mono ?_
  rintro e w1 ⟨v, err, rfl, HC, HG⟩
  cases ht : textN (bl s) p n with
  | error x =>
    obtain ⟨h1, h2, rfl, h4⟩ := HC.out.err ht
    obtain ⟨fa, rfl⟩ := ErrAt.shape h2
    have HF : Hid (RdC NV NZ w1 b s ca (numAt (bl s) p n) (.int .i64 0) (.iface 115 (.pointer (some ⟨fa, 0, none⟩)))) := hid (RdC.mkErr (x := x) (by unfold numAt; rw [ht]) ⟨h1, h2, rfl, h4⟩)
    clear HC HT ht h1 h2 h4
    go_wp2
    go_loop [8, 18] (fun v i => v = .int .i64 0 ∧ i = .int .i64 0) (fun _ _ => 0)
    case atStart => exact ⟨rfl, rfl⟩
    case round =>
      obtain ⟨rfl, rfl⟩ := hrel
      go_wp2
      go_ret2
      exact ⟨_, _, rfl, HF, HG⟩
  | ok x =>
    obtain ⟨rfl, ⟨t, rfl, htb⟩, h3⟩ := HC.out.ok ht
    obtain ⟨hle, hx1, hx2⟩ := textN_ok ht
    have hts : t.size ≤ 4 := by rw [size_of_bl htb, hx1, sub_len hle]; exact hn
    have HF : Hid (RdC NV NZ w1 b s ca (numAt (bl s) p n) (.int .i64 (back (bl t))) .nilIface) := hid (RdC.mkOk (x := (back x.1, x.2)) (by unfold numAt; rw [ht]) ⟨rfl, by rw [htb]; rfl, h3⟩)
    clear HC HT ht h3 htb hx1 hx2 hle
    go_wp2
    go_loop [8, 18] (fun v i => ∃ k : Nat, k ≤ t.size ∧ i = .int .i64 k ∧ v = .int .i64 (back ((bl t).take k))) (fun _ i => t.size - (intOf i).toNat)
    case atStart => exact ⟨0, Nat.zero_le _, rfl, rfl⟩
    case round =>
      obtain ⟨k, hk, rfl, rfl⟩ := hrel
      obtain ⟨h0, hh0⟩ : ∃ h0, back ((bl t).take k) = h0 := ⟨_, rfl⟩
      have HH0 : Hid (back ((bl t).take k) = h0) := hh0
      rw [hh0]
      clear hh0
      by_cases hlt : k < t.size
      · have hb : h0 < 16777216 := by
          have : back ((bl t).take k) < 256 ^ 3 := back_lt_of (by rw [List.length_take]; omega)
          rw [HH0.out] at this; exact this
        have hc := t[k].toNat_lt
        have hor := or_byte hb hc
        have HNX : Hid (back ((bl t).take (k + 1)) = 256 * h0 + t[k].toNat) := hid (by rw [take_snoc t k hlt, back_snoc, HH0.out])
        clear HH0
        go_wp2
        go_round
        case rel => exact ⟨k + 1, by omega, by go_num, by rw [HNX.out]; go_num⟩
        case measure => simp [intOf]; omega
      · have HZ : Hid (back (bl t) = h0) := hid (by rw [← HH0.out, List.take_of_length_le (by rw [bl_length]; omega)])
        clear HH0
        go_wp2
        go_ret2
        exact ⟨_, _, rfl, by rw [← HZ.out]; exact HF, HG⟩
def beginQ (l : List UInt8) : RdR Unit := if l.head? ≠ some 103 then .error (9, 0) else .ok ((), 1)
theorem head_bl (s : ByteArray) (h : 0 < s.size) : (bl s).head? = some s[0] := by
  rw [List.head?_eq_getElem?, List.getElem?_eq_getElem (by rw [bl_length]; exact h), bl_get s 0 h]
set_option maxRecDepth 100000 in
set_option maxHeartbeats 2000000 in
theorem rbegin_any (s : ByteArray) (b : Nat) (ca : Addr) (w : World) (hr : RdAt w b s 0) (hc : CodeS w ca) (hb : 20 ≤ b) (hs : s.size ≤ maxLen) :
    Calls Tryz.prog 135 #[.pointer (some ⟨b, 0, none⟩)] w fun e w' => ∃ err, e = .returned err ∧ Hid (RdC (fun _ _ _ => True) (fun _ => True) w' b s ca (beginQ (bl s)) .nilIface err) ∧ w.grownBy w' (some b) := by
  have HT : Hid (Calls Tryz.prog 144 #[.pointer (some ⟨b, 0, none⟩), .int .i64 (1 : Nat)] w _) := hid (rtake_any s 0 1 b ca w hr hc (Nat.zero_le _) hs (by omega))
  have HC0 : Hid (CodeS w ca) := hc
  clear hr hc hs
  go_enter Tryz.func135, Tryz.ntmps135
  go_wp2_with fail
  refine HT.out.mono ?_
  rintro e w1 ⟨v, err, rfl, HC, HG⟩
  cases ht : textN (bl s) 0 1 with
  | error x =>
    obtain ⟨h1, h2, rfl, h4⟩ := HC.out.err ht
    obtain ⟨fa, rfl⟩ := ErrAt.shape h2
    have hx : s.size = 0 ∧ x = (9, 0) := by
      unfold textN at ht
      rw [bl_length] at ht
      split at ht
      · injection ht with ht; exact ⟨by omega, by rw [← ht]; congr 1; omega⟩
      · cases ht
    have HF : Hid (RdC (fun _ _ _ => True) (fun _ => True) w1 b s ca (beginQ (bl s)) .nilIface (.iface 115 (.pointer (some ⟨fa, 0, none⟩)))) := hid (RdC.mkErr (x := (9, 0)) (by
      unfold beginQ; rw [if_pos]
      rw [List.eq_nil_of_length_eq_zero (l := bl s) (by rw [bl_length]; exact hx.1)]; simp) ⟨rfl, by rw [hx.2] at h2; exact h2, trivial, h4⟩)
    clear HC HT ht h1 h2 h4 hx
    go_wp2
    go_ret
    exact ⟨_, rfl, HF, HG⟩
  | ok x =>
    obtain ⟨rfl, ⟨t, rfl, htb⟩, h3⟩ := HC.out.ok ht
    obtain ⟨hle, hx1, hx2⟩ := textN_ok ht
    rw [bl_length] at hle
    have hts : t.size = 1 := by rw [size_of_bl htb, hx1, sub_len (by rw [bl_length]; exact hle)]
    have ht0 : some t[0] = (bl s).head? := by
      rw [← head_bl t (by omega), htb, hx1]
      unfold sub
      rw [List.drop_zero, List.head?_take, if_neg (by decide)]
    have HR1 : Hid (RdAt w1 b s 1) := hid (by rw [hx2] at h3; exact h3)
    have HC1 : Hid (CodeS w1 ca) := hid (HC0.out.grown HG hb)
    by_cases h103 : t[0] = 103
    · have HF : Hid (RdC (fun _ _ _ => True) (fun _ => True) w1 b s ca (beginQ (bl s)) .nilIface .nilIface) := hid (RdC.mkOk (x := ((), 1)) (by unfold beginQ; rw [← ht0, h103]; rfl) ⟨rfl, trivial, HR1.out⟩)
      have hn : ((t[0].toNat : Int) != 103) = false := by rw [h103]; rfl
      clear HC HT ht h3 htb hx1 hx2 hle ht0 h103
      go_wp2
      go_ret
      exact ⟨_, rfl, HF, HG⟩
    · have hn : ((t[0].toNat : Int) != 103) = true := by
        rw [bne_iff_ne]; intro e; exact h103 (UInt8.toNat_inj.1 (by show _ = 103; omega))
      have HX : Hid (beginQ (bl s) = .error (9, 0)) := hid (by
        unfold beginQ; rw [← ht0, if_pos]; intro e; injection e with e; exact h103 e)
      clear HC HT ht h3 htb hx1 hx2 hle ht0 h103
      go_wp2_with fail
      refine (cstand_any _ ca _ HC1.out).mono ?_
      rintro e w2 ⟨v, rfl, hv, hb2⟩
      have HF : Hid (RdC (fun _ _ _ => True) (fun _ => True) w2 b s ca (beginQ (bl s)) .nilIface v) := hid (RdC.mkErr HX.out ⟨rfl, hv.out, trivial, 1, HR1.out.below hb2⟩)
      have HG2 : Hid (w.grownBy w2 (some b)) := hid (grown_below HG hb2)
      obtain ⟨fa, rfl⟩ := ErrAt.shape hv.out
      clear hv hb2
      go_wp2
      go_ret
      exact ⟨_, rfl, HF, HG2.out⟩
def KV (_ : World) (a : Int) (v : Value) : Prop := v = .int .i64 a
theorem signed_conv {v : Nat} (hv : v < 4294967296) : wrap32 (v : Int) = signed v := by
  unfold signed wrap32
  split <;> omega
set_option maxRecDepth 100000 in
set_option maxHeartbeats 2000000 in
theorem rconst_any (s : ByteArray) (p b : Nat) (ca : Addr) (w : World) (hr : RdAt w b s p) (hc : CodeS w ca) (hb : 20 ≤ b) (hp : p ≤ s.size) (hs : s.size ≤ maxLen) :
    Calls Tryz.prog 137 #[.pointer (some ⟨b, 0, none⟩)] w fun e w' => ∃ v err, e = .returned (.tuple #[v, err]) ∧ Hid (RdC KV NZ w' b s ca (constAt (bl s) p) v err) ∧ w.grownBy w' (some b) := by
  have HT : Hid (Calls Tryz.prog 75 #[.pointer (some ⟨b, 0, none⟩), .int .i64 (4 : Nat)] w _) := hid (rnumber_any s p 4 b ca w hr hc hp hs (by omega))
  have HC0 : Hid (CodeS w ca) := hc
  have c1 : w.cell? ⟨b, 1, none⟩ = some (.int .i64 p) := hr.cell 1
  clear hr hc hs
  go_enter Tryz.func137, Tryz.ntmps137
  go_wp2_with fail
  refine HT.out.mono ?_
  rintro e w1 ⟨v, err, rfl, HC, HG⟩
  clear c1 HT
  cases ht : numAt (bl s) p 4 with
  | error x =>
    obtain ⟨h1, h2, rfl, h4⟩ := HC.out.err ht
    obtain ⟨fa, rfl⟩ := ErrAt.shape h2
    have HF : Hid (RdC KV NZ w1 b s ca (constAt (bl s) p) (.int .i64 0) (.iface 115 (.pointer (some ⟨fa, 0, none⟩)))) := hid (RdC.mkErr (x := x) (by unfold constAt; rw [ht]) ⟨h1, h2, rfl, h4⟩)
    clear HC ht h1 h2 h4
    go_wp2
    go_ret2
    exact ⟨_, _, rfl, HF, HG⟩
  | ok x =>
    obtain ⟨x1, x2⟩ := x
    obtain ⟨rfl, rfl, h3⟩ := HC.out.ok ht
    have hlt := (numAt_ok ht).2.2.2
    simp only at h3 hlt
    have HR1 := hid h3
    have hlt : x1 < 4294967296 := hlt
    have hcv := signed_conv hlt
    have hbd := signed_bd hlt
    have HX : Hid (constAt (bl s) p = if signed x1 < -1000000000 ∨ 1000000000 < signed x1 then .error (9, p) else .ok (signed x1, x2)) := hid (by unfold constAt; rw [ht])
    have HC1 : Hid (CodeS w1 ca) := hid (HC0.out.grown HG hb)
    clear HC ht h3
    generalize signed x1 = z at *
    by_cases hz : z < -1000000000 ∨ 1000000000 < z
    · have HY : Hid (constAt (bl s) p = .error (9, p)) := hid (by rw [HX.out, if_pos hz])
      have hz1 : (decide (z < -1000000000) || decide (1000000000 < z)) = true := by simpa using hz
      clear HX
      by_cases hz2 : z < -1000000000
      all_goals
        have hw6 : wrap64 z = z := by unfold wrap64; omega
        go_wp2_with fail
        refine (cstand_any _ ca _ HC1.out).mono ?_
        rintro e w2 ⟨v, rfl, hv, hb2⟩
        have HF : Hid (RdC KV NZ w2 b s ca (constAt (bl s) p) (.int .i64 0) v) := hid (RdC.mkErr HY.out ⟨rfl, hv.out, rfl, _, HR1.out.below hb2⟩)
        have HG2 : Hid (w.grownBy w2 (some b)) := hid (grown_below HG hb2)
        obtain ⟨fa, rfl⟩ := ErrAt.shape hv.out
        clear hv hb2
        go_wp2
        go_ret2
        exact ⟨_, _, rfl, HF, HG2.out⟩
    · have HY : Hid (constAt (bl s) p = .ok (z, x2)) := hid (by rw [HX.out, if_neg hz])
      have hz1 : -1000000000 ≤ z := by omega
      have hz2 : z ≤ 1000000000 := by omega
      have hw6 : wrap64 z = z := by unfold wrap64; omega
      have HF : Hid (RdC KV NZ w1 b s ca (constAt (bl s) p) (.int .i64 z) .nilIface) := hid (RdC.mkOk HY.out ⟨rfl, rfl, HR1.out⟩)
      clear HX hz
      go_wp2
      go_ret2
      exact ⟨_, _, rfl, HF, HG⟩
end Go.Proofs.YtkodhpilkaihjaaGreatDoor
