/- Parts. -/
import Derived.Test.YtkodhpilkaihjaaGreatDoorV34
import Derived.Test.YtkodhpilkaihjaaGreatDoorV29
namespace Go.Proofs.YtkodhpilkaihjaaGreatDoor
open Go.RowKit LS
def ahC (a : Ah) : List Value := [.bool a.known, .bool a.clash, .string (stB a.stack), .string (if a.known then slB a.slots else ⟨#[]⟩)]
def bothL (x y : List UInt8) : List UInt8 := List.zipWith (fun a b => if a = b then b else 45) x y
theorem bothL_length (x y : List UInt8) (h : x.length = y.length) : (bothL x y).length = y.length := by unfold bothL; rw [List.length_zipWith]; omega
theorem bothL_kl : ∀ (x y : List Nat), (∀ k ∈ x, k ≤ 3) → (∀ k ∈ y, k ≤ 3) → bothL (x.map kl) (y.map kl) = (both x y).map kl
  | [], y, _, _ => by simp [bothL, both]
  | a :: x, [], _, _ => by simp [bothL, both]
  | a :: x, b :: y, hx, hy => by
    have ih := bothL_kl x y (fun k hk => hx k (by simp [hk])) (fun k hk => hy k (by simp [hk]))
    unfold bothL both at ih ⊢
    rw [List.map_cons, List.map_cons, List.zipWith_cons_cons, List.zipWith_cons_cons, List.map_cons, ih]
    congr 1
    by_cases e : a = b
    · subst e; rw [if_pos rfl, if_pos rfl]
    · rw [if_neg e, if_neg (fun h => e (kl_inj (hx a (by simp)) (hy b (by simp)) h))]; rfl
theorem u8_eqM {a b : UInt8} : ((a.toNat : Nat) : Int) = ((b.toNat : Nat) : Int) ↔ a = b := by
  constructor
  · intro h; exact UInt8.toNat_inj.1 (by omega)
  · intro h; rw [h]
theorem both_step (L1 L : ByteArray) (k : Nat) (h1 : k < L1.size) (h2 : k < L.size) : (bothL (bl L1) (bl L)).take (k + 1) = (bothL (bl L1) (bl L)).take k ++ [if L1[k] = L[k] then L[k] else 45] := by
  have hl : k < (bothL (bl L1) (bl L)).length := by unfold bothL; rw [List.length_zipWith, bl_length, bl_length]; omega
  rw [List.take_succ_eq_append_getElem hl]
  congr 2
  simp only [bothL, List.getElem_zipWith, bl_get L1 k h1, bl_get L k h2]
theorem BAt.setkM {w : World} {a : Nat} {c : List Value} {t : TypeId} (h : BAt w a c t) (i : Nat) (v : Value) : BAt (w.setCell ⟨a, i, none⟩ v) a (c.set i v) t := by
  unfold BAt at h ⊢
  simp only [World.setCell, Array.getElem?_modify, h, if_true, Option.map_some]
  show some (Obj.cells (c.toArray.setIfInBounds i v) t (0, 0)) = _
  rw [List.setIfInBounds_toArray]
def set4m (w : World) (a : Nat) (x y z u : Value) : World := (((w.setCell ⟨a, 0, none⟩ x).setCell ⟨a, 1, none⟩ y).setCell ⟨a, 2, none⟩ z).setCell ⟨a, 3, none⟩ u
theorem set4m_at {w : World} {a : Nat} {p0 p1 p2 p3 x y z u : Value} {t : TypeId} (h : BAt w a [p0, p1, p2, p3] t) : BAt (set4m w a x y z u) a [x, y, z, u] t :=
  (((h.setkM 0 x).setkM 1 y).setkM 2 z).setkM 3 u
theorem set4m_below {w0 w : World} {a : Nat} (h : Below w0.heap.size w0 w) (ha : w0.heap.size ≤ a) (x y z u : Value) : Below w0.heap.size w0 (set4m w a x y z u) :=
  (((h.setCell (p := ⟨a, 0, none⟩) ha _).setCell (p := ⟨a, 1, none⟩) ha _).setCell (p := ⟨a, 2, none⟩) ha _).setCell (p := ⟨a, 3, none⟩) ha _
set_option maxRecDepth 100000 in
set_option maxHeartbeats 8000000 in
theorem rmeet_any (kn cl : Bool) (S1 L1 S L : ByteArray) (w : World) (hL : kn = true → L1.size = L.size) (hs : L.size ≤ 16) :
    Calls Tryz.prog 57 #[.agg #[.bool kn, .bool cl, .string S1, .string L1], .string S, .string L] w fun e w' => e = .returned (if kn then .agg #[.bool true, .bool (cl || decide (S1 ≠ S)), .string S1, .string (baOf (bothL (bl L1) (bl L)))] else .agg #[.bool true, .bool false, .string S, .string L]) ∧ Below w.heap.size w w' := by
  cases kn with
  | false =>
    go_enter Tryz.func57, Tryz.ntmps57
    go_wp2
    have HR : BAt ((w.alloc (.cells #[.bool false, .bool cl, .string S1, .string L1] 139)).alloc (.cells #[.bool true, .bool false, .string S, .string L] 139)) (w.heap.size + 1) [.bool true, .bool false, .string S, .string L] 139 := by
      have := Go.Deep.blk_alloc_new (w.alloc (.cells #[.bool false, .bool cl, .string S1, .string L1] 139)) (.cells #[.bool true, .bool false, .string S, .string L] 139); rw [Go.Deep.nblk_alloc] at this; exact this
    have s0 := HR.cell 0
    have s1 := HR.cell 1
    have s2 := HR.cell 2
    have s3 := HR.cell 3
    simp only [List.getElem?_cons_zero, List.getElem?_cons_succ] at s0 s1 s2 s3
    have HBX : Hid (Below w.heap.size w ((w.alloc (.cells #[.bool false, .bool cl, .string S1, .string L1] 139)).alloc (.cells #[.bool true, .bool false, .string S, .string L] 139))) := hid (((Below.refl _ w).alloc (Nat.le_refl _) _).alloc (by simp) _)
    clear HR
    generalize (w.alloc (.cells #[.bool false, .bool cl, .string S1, .string L1] 139)).alloc (.cells #[.bool true, .bool false, .string S, .string L] 139) = WX at *
    exact bodyPost_ret (v := .agg #[.bool true, .bool false, .string S, .string L]) (by simp [results, Tryz.results57, go_sem, s0, s1, s2, s3]) rfl ⟨rfl, HBX.out⟩
  | true =>
    have hLL := hL rfl
    clear hL
    obtain ⟨cl2, hcl2⟩ : ∃ cl2, cl2 = (cl || decide (S1 ≠ S)) := ⟨_, rfl⟩
    rw [if_pos rfl, ← hcl2]
    by_cases hS : S1 = S
    case' pos =>
      have he : (S1.toList == S.toList) = true := by rw [bl_beqV]; exact decide_eq_true hS
      have hcc : cl2 = cl := by rw [hcl2]; simp [hS]
    case' neg =>
      have he : (S1.toList == S.toList) = false := by rw [bl_beqV]; exact decide_eq_false hS
      have hcc : cl2 = true := by rw [hcl2]; simp [hS]
    all_goals
      clear hcl2 hS
      have HCC := hid hcc
      clear hcc
      go_enter Tryz.func57, Tryz.ntmps57
      go_upto_region 5 with fail
      refine wp_gen fun W hW => ?_
      have HA : Hid (BAt W w.heap.size [.bool true, .bool cl2, .string S1, .string L1] 139) := hid (by
        rw [hW, HCC.out]
        exact BAt.below (show BAt _ _ _ _ from Go.Deep.blk_alloc_new w _) ((Below.refl _ _).alloc (Nat.le_refl _) _))
      have HR : Hid (BAt W (w.heap.size + 1) [.bool false, .bool false, .string ⟨#[]⟩, .string ⟨#[]⟩] 139) := hid (by
        rw [hW]
        have := fun o => Go.Deep.blk_alloc_new (w.alloc o) (.cells #[.bool false, .bool false, .string ⟨#[]⟩, .string ⟨#[]⟩] 139)
        simp only [Go.Deep.nblk_alloc] at this
        exact this _)
      have HB : Hid (Below w.heap.size w W) := hid (by rw [hW]; exact (by repeat (first | exact Below.refl _ _ | assumption | refine Below.alloc ?_ (by first | omega | (simp; omega) | simp) _ | refine Below.setCell ?_ (by first | omega | (simp; omega) | simp) _ | refine below_drewN' ?_ _ | refine Below.drew ?_)))
      clear hW he
      go_wp2
      go_loopw [7, 8] (fun bv iv wr => ∃ (k : Nat) (B : ByteArray), k ≤ L.size ∧ iv = .int .i64 k ∧ bv = .string B ∧ Hid (bl B = (bothL (bl L1) (bl L)).take k) ∧ Hid (BAt wr w.heap.size [.bool true, .bool cl2, .string S1, .string L1] 139) ∧ Hid (BAt wr (w.heap.size + 1) [.bool false, .bool false, .string ⟨#[]⟩, .string ⟨#[]⟩] 139) ∧ Hid (Below w.heap.size w wr)) (fun _ iv _ => L.size - (intOf iv).toNat)
      case atStart => exact ⟨0, ⟨#[]⟩, Nat.zero_le _, rfl, rfl, hid rfl, HA, HR, HB⟩
      case round =>
        obtain ⟨k, B, hk, rfl, rfl, HBl, HAr, HRr, HBr⟩ := hrel
        clear HA HR HB
        have hbs : B.size = k := by
          rw [← bl_length, HBl.out, List.length_take, bothL_length _ _ (by rw [bl_length, bl_length]; exact hLL), bl_length]; omega
        have hbs2 : B.size ≤ 16 := by omega
        have HBS := hid hbs
        clear hbs
        have a0 := HAr.out.cell 0
        have a1 := HAr.out.cell 1
        have a2 := HAr.out.cell 2
        have a3 := HAr.out.cell 3
        simp only [List.getElem?_cons_zero, List.getElem?_cons_succ] at a0 a1 a2 a3
        by_cases hlt : k < L.size
        · have hlt1 : k < L1.size := by omega
          have HST := hid (both_step L1 L k hlt1 hlt)
          have hex : bl (L.extract k (k + 1)) = [L[k]] := by
            rw [bl_extract, List.drop_take, show k + 1 - k = 1 by omega, List.drop_eq_getElem_cons (by rw [bl_length]; exact hlt), bl_get L k hlt]; rfl
          have HEX := hid hex
          clear hex
          have q1 : ¬ 9223372036854775807 < B.size + 1 := by omega
          by_cases heq : L1[k] = L[k]
          · have d1 : (((L1[k].toNat : Nat) : Int) == ((L[k].toNat : Nat) : Int)) = true := beq_iff_eq.2 (u8_eqM.2 heq)
            have HN : Hid (bl (B ++ L.extract k (k + 1)) = (bothL (bl L1) (bl L)).take (k + 1)) := hid (by rw [bl_app2, HBl.out, HEX.out, HST.out, if_pos heq])
            go_wp2
            go_quiet (fail)
            go_wp2
            go_roundw
            case rel => exact ⟨k + 1, _, by omega, by go_num, rfl, HN, hid (HAr.out.below (below_drewN' (Below.refl _ _) _)), hid (HRr.out.below (below_drewN' (Below.refl _ _) _)), hid (below_drewN' HBr.out _)⟩
            case measure => simp [intOf]; omega
          · have d1 : (((L1[k].toNat : Nat) : Int) == ((L[k].toNat : Nat) : Int)) = false := beq_eq_false_iff_ne.2 (fun e => heq (u8_eqM.1 e))
            have HN : Hid (bl (B ++ ⟨#[45]⟩) = (bothL (bl L1) (bl L)).take (k + 1)) := hid (by rw [bl_app2, HBl.out, HST.out, if_neg heq]; rfl)
            go_wp2
            go_quiet (fail)
            go_wp2
            go_roundw
            case rel => exact ⟨k + 1, _, by omega, by go_num, rfl, HN, hid (HAr.out.below (below_drewN' (Below.refl _ _) _)), hid (HRr.out.below (below_drewN' (Below.refl _ _) _)), hid (below_drewN' HBr.out _)⟩
            case measure => simp [intOf]; omega
        · obtain rfl : k = L.size := by omega
          have HF : Hid (baOf (bothL (bl L1) (bl L)) = B) := hid (bl_inj (by
            rw [bl_baOf, HBl.out, List.take_of_length_le (by rw [bothL_length _ _ (by rw [bl_length, bl_length]; exact hLL), bl_length]; exact Nat.le_refl _)]))
          have f3 := HAr.out.frozen 3
          have r0 := HRr.out.cell 0
          have r1 := HRr.out.cell 1
          have r2 := HRr.out.cell 2
          have r3 := HRr.out.cell 3
          simp only [List.getElem?_cons_zero, List.getElem?_cons_succ] at r0 r1 r2 r3
          have g0 := HRr.out.frozen 0
          have g1 := HRr.out.frozen 1
          have g2 := HRr.out.frozen 2
          have g3 := HRr.out.frozen 3
          go_wp2
          change bodyPost _ _ _ _ _ (set4m (wr.setCell ⟨w.heap.size, 3, none⟩ (.string B)) (w.heap.size + 1) (.bool true) (.bool cl2) (.string S1) (.string B))
          have HRX := (HRr.out.other (p := ⟨w.heap.size, 3, none⟩) (by show w.heap.size + 1 ≠ w.heap.size; omega) (.string B))
          have st := set4m_at HRX (x := .bool true) (y := .bool cl2) (z := .string S1) (u := .string B)
          have s0 := st.cell 0
          have s1 := st.cell 1
          have s2 := st.cell 2
          have s3 := st.cell 3
          simp only [List.getElem?_cons_zero, List.getElem?_cons_succ] at s0 s1 s2 s3
          have HBX := hid (set4m_below (w0 := w) (a := w.heap.size + 1) (HBr.out.setCell (p := ⟨w.heap.size, 3, none⟩) (Nat.le_refl _) (.string B)) (by omega) (.bool true) (.bool cl2) (.string S1) (.string B))
          clear a0 a1 a2 a3 f3 r0 r1 r2 r3 g0 g1 g2 g3
          generalize set4m (wr.setCell ⟨w.heap.size, 3, none⟩ (.string B)) (w.heap.size + 1) (.bool true) (.bool cl2) (.string S1) (.string B) = WX at *
          exact bodyPost_ret (v := .agg #[.bool true, .bool cl2, .string S1, .string B]) (by simp [results, Tryz.results57, go_sem, s0, s1, s2, s3]) rfl ⟨by rw [HF.out], HBX.out⟩
def flatA : List Ah → List Value
  | [] => []
  | a :: l => ahC a ++ flatA l
theorem ahC_len (a : Ah) : (ahC a).length = 4 := rfl
theorem flatA_length : ∀ l : List Ah, (flatA l).length = 4 * l.length
  | [] => rfl
  | a :: l => by
    show (ahC a ++ flatA l).length = _
    rw [List.length_append, ahC_len, flatA_length l, List.length_cons]; omega
theorem flatA_get : ∀ (l : List Ah) (i j : Nat), i < l.length → j < 4 → (flatA l)[i * 4 + j]? = (ahC (l.getD i ah0))[j]?
  | [], i, j, h, _ => absurd h (Nat.not_lt_zero _)
  | a :: l, 0, j, _, hj => by
    show (ahC a ++ flatA l)[0 * 4 + j]? = (ahC a)[j]?
    rw [Nat.zero_mul, Nat.zero_add, List.getElem?_append_left (by rw [ahC_len]; exact hj)]
  | a :: l, i + 1, j, h, hj => by
    have := flatA_get l i j (by simpa using h) hj
    show (ahC a ++ flatA l)[(i + 1) * 4 + j]? = (ahC (l.getD i ah0))[j]?
    rw [List.getElem?_append_right (by rw [ahC_len]; omega), ahC_len, show (i + 1) * 4 + j - 4 = i * 4 + j by omega]
    exact this
theorem flatA_set : ∀ (l : List Ah) (i : Nat) (b : Ah) (v0 v1 v2 v3 : Value), ahC b = [v0, v1, v2, v3] → i < l.length → ((((flatA l).set (i * 4) v0).set (i * 4 + 1) v1).set (i * 4 + 2) v2).set (i * 4 + 3) v3 = flatA (l.set i b)
  | [], i, b, _, _, _, _, _, h => absurd h (Nat.not_lt_zero _)
  | a :: l, 0, b, v0, v1, v2, v3, hb, _ => by
    show ((((ahC a ++ flatA l).set 0 v0).set 1 v1).set 2 v2).set 3 v3 = ahC b ++ flatA l
    rw [hb]; rfl
  | a :: l, i + 1, b, v0, v1, v2, v3, hb, h => by
    have ih := flatA_set l i b v0 v1 v2 v3 hb (by simpa using h)
    show ((((ahC a ++ flatA l).set ((i + 1) * 4) v0).set ((i + 1) * 4 + 1) v1).set ((i + 1) * 4 + 2) v2).set ((i + 1) * 4 + 3) v3 = ahC a ++ flatA (l.set i b)
    rw [List.set_append_right _ _ (by rw [ahC_len]; omega), List.set_append_right _ _ (by rw [ahC_len]; omega), List.set_append_right _ _ (by rw [ahC_len]; omega), List.set_append_right _ _ (by rw [ahC_len]; omega), ahC_len,
      show (i + 1) * 4 - 4 = i * 4 by omega, show (i + 1) * 4 + 1 - 4 = i * 4 + 1 by omega, show (i + 1) * 4 + 2 - 4 = i * 4 + 2 by omega, show (i + 1) * 4 + 3 - 4 = i * 4 + 3 by omega, ih]
def set4o (w : World) (g o : Nat) (x y z u : Value) : World := (((w.setCell ⟨g, o, none⟩ x).setCell ⟨g, o + 1, none⟩ y).setCell ⟨g, o + 2, none⟩ z).setCell ⟨g, o + 3, none⟩ u
theorem set4o_at {w : World} {g i : Nat} {l : List Ah} {b : Ah} {v0 v1 v2 v3 : Value} {t : TypeId} (h : BAt w g (flatA l) t) (hi : i < l.length) (hb : ahC b = [v0, v1, v2, v3]) : BAt (set4o w g (i * 4) v0 v1 v2 v3) g (flatA (l.set i b)) t := by
  rw [← flatA_set l i b v0 v1 v2 v3 hb hi]
  exact (((h.setk _ _).setk _ _).setk _ _).setk _ _
theorem set4o_other {w : World} {g o a : Nat} {c : List Value} {t : TypeId} {v0 v1 v2 v3 : Value} (h : BAt w a c t) (hn : a ≠ g) : BAt (set4o w g o v0 v1 v2 v3) a c t :=
  (((h.other (p := ⟨g, o, none⟩) hn _).other (p := ⟨g, o + 1, none⟩) hn _).other (p := ⟨g, o + 2, none⟩) hn _).other (p := ⟨g, o + 3, none⟩) hn _
theorem set4o_below {w0 w : World} {g : Nat} (h : Below w0.heap.size w0 w) (hg : w0.heap.size ≤ g) (o : Nat) (x y z u : Value) : Below w0.heap.size w0 (set4o w g o x y z u) :=
  (((h.setCell (p := ⟨g, o, none⟩) hg _).setCell (p := ⟨g, o + 1, none⟩) hg _).setCell (p := ⟨g, o + 2, none⟩) hg _).setCell (p := ⟨g, o + 3, none⟩) hg _
theorem made_zeroA (n : Nat) : (madeCells #[.bool false, .bool false, .string ⟨#[]⟩, .string ⟨#[]⟩] (n * 4)).toList = flatA (List.replicate n ah0) := by
  apply List.ext_getElem?
  intro t
  by_cases ht : t < 4 * n
  · have h1 : (madeCells #[.bool false, .bool false, .string ⟨#[]⟩, .string ⟨#[]⟩] (n * 4)).toList[t]? = some ((#[.bool false, .bool false, .string ⟨#[]⟩, .string ⟨#[]⟩] : Array Value)[t % 4]!) := by
      unfold madeCells
      rw [Array.toList_map, List.getElem?_map, Array.toList_range, List.getElem?_range (by omega)]
      rfl
    have h2 := flatA_get (List.replicate n ah0) (t / 4) (t % 4) (by rw [List.length_replicate]; omega) (by omega)
    rw [show t / 4 * 4 + t % 4 = t by omega] at h2
    have h3 : (List.replicate n ah0).getD (t / 4) ah0 = ah0 := by
      rw [List.getD_eq_getElem?_getD, List.getElem?_replicate]; split <;> rfl
    rw [h3] at h2
    rw [h1, h2]
    rcases (by omega : t % 4 = 0 ∨ t % 4 = 1 ∨ t % 4 = 2 ∨ t % 4 = 3) with e | e | e | e <;> rw [e] <;> rfl
  · rw [List.getElem?_eq_none (by simp [madeCells]; omega), List.getElem?_eq_none (by rw [flatA_length, List.length_replicate]; omega)]
structure AhK (a : Ah) : Prop where
  ok : AhOk a
  st : ∀ k ∈ a.stack, k ≤ 3
  sl : ∀ k ∈ a.slots, k ≤ 3
theorem ahK0 : AhK ah0 := ⟨ahOk0, (fun k hk => nomatch hk), fun k hk => by rw [(List.mem_replicate.1 hk).2]; decide⟩
theorem ahK_first : AhK ⟨true, false, [], List.replicate 16 0⟩ := ⟨ahOk_first, (fun k hk => nomatch hk), fun k hk => by rw [(List.mem_replicate.1 hk).2]; decide⟩
theorem pass0_k (n : Nat) : ∀ a ∈ pass0 n, AhK a := by
  intro a ha
  rcases List.mem_cons.1 ha with rfl | ha
  · exact ahK_first
  · rw [(List.mem_replicate.1 ha).2]; exact ahK0
theorem both_three : ∀ (x y : List Nat), (∀ k ∈ x, k ≤ 3) → ∀ k ∈ both x y, k ≤ 3
  | [], y, _ => by intro k hk; simp [both] at hk
  | a :: x, [], _ => by intro k hk; simp [both] at hk
  | a :: x, b :: y, hx => by
    intro k hk
    unfold both at hk
    rw [List.zipWith_cons_cons] at hk
    rcases List.mem_cons.1 hk with rfl | hk
    · split
      · exact hx a (by simp)
      · decide
    · exact both_three x y (fun k hk => hx k (by simp [hk])) k hk
theorem meet_k {a : Ah} {st sl : List Nat} (ha : AhK a) (h1 : st.length ≤ 64) (h2 : ∀ k ∈ st, k ≠ 0) (h3 : sl.length = 16) (h4 : ∀ k ∈ st, k ≤ 3) (h5 : ∀ k ∈ sl, k ≤ 3) : AhK (meetQ a st sl) := by
  refine ⟨meet_ok ha.ok h1 h2 h3, ?_, ?_⟩
  · unfold meetQ; split
    · exact ha.st
    · exact h4
  · unfold meetQ; split
    · exact both_three _ _ ha.sl
    · exact h5
theorem set_k {l : List Ah} {a : Ah} (hl : ∀ x ∈ l, AhK x) (ha : AhK a) (i : Nat) : ∀ x ∈ l.set i a, AhK x := fun x hx => by
  rcases List.mem_or_eq_of_mem_set hx with h | h
  · exact hl x h
  · rw [h]; exact ha
theorem getD_k {l : List Ah} (hl : ∀ x ∈ l, AhK x) (i : Nat) : AhK (l.getD i ah0) := by
  rw [List.getD_eq_getElem?_getD]
  cases h : l[i]? with
  | none => exact ahK0
  | some a => exact hl a (List.mem_of_getElem? h)
theorem rmeet_ah (a : Ah) (st sl : List Nat) (ha : AhK a) (h3 : sl.length = 16) (h4 : ∀ k ∈ st, k ≤ 3) (h5 : ∀ k ∈ sl, k ≤ 3) :
    ∃ (cl : Bool) (S L : ByteArray), Hid (ahC (meetQ a st sl) = [.bool true, .bool cl, .string S, .string L]) ∧ Hid (∀ w : World, Calls Tryz.prog 57 #[.agg #[.bool a.known, .bool a.clash, .string (stB a.stack), .string (if a.known then slB a.slots else ⟨#[]⟩)], .string (stB st), .string (slB sl)] w fun e w' => e = .returned (.agg #[.bool true, .bool cl, .string S, .string L]) ∧ Below w.heap.size w w') := by
  cases hk : a.known with
  | true =>
    refine ⟨a.clash || decide (stB a.stack ≠ stB st), stB a.stack, baOf (bothL (bl (slB a.slots)) (bl (slB sl))), hid ?_, hid (fun w => ?_)⟩
    · unfold meetQ
      rw [if_pos hk]
      have h1 : baOf (bothL (bl (slB a.slots)) (bl (slB sl))) = slB (both a.slots sl) := by
        rw [bl_slB, bl_slB, bothL_kl _ _ ha.sl h5]; rfl
      have h2 : decide (stB a.stack ≠ stB st) = decide (a.stack ≠ st) := by
        rw [decide_eq_decide]; exact not_congr (stB_inj ha.st h4)
      rw [h1, h2]; rfl
    · exact rmeet_any true a.clash (stB a.stack) (slB a.slots) (stB st) (slB sl) w (fun _ => by rw [slB_size, slB_size, ha.ok.sl, h3]) (by rw [slB_size, h3]; exact Nat.le_refl _)
  | false =>
    refine ⟨false, stB st, slB sl, hid ?_, hid (fun w => ?_)⟩
    · unfold meetQ
      rw [hk]; rfl
    · exact rmeet_any false a.clash (stB a.stack) _ (stB st) (slB sl) w (fun h => nomatch h) (by rw [slB_size, h3]; exact Nat.le_refl _)
theorem results_tmp4V {fn : Func} {t u v x : Tmp} (h : fn.results = #[.tmp t, .tmp u, .tmp v, .tmp x]) (tmps : Array Value) (P : Program) (w : World) :
    (results fn tmps).run P w = .ok (.tuple #[tmps.getD t undef, tmps.getD u undef, tmps.getD v undef, tmps.getD x undef]) w := by
  simp [results, h]
theorem Tryz.infoAhead : (Tryz.prog.info? 139).map (fun i => (i.zero, i.size, i.bytes)) = some (some (.agg #[.bool false, .bool false, .string ⟨#[]⟩, .string ⟨#[]⟩]), 4, 40) := by kernel_rfl
theorem fits_all {S W : ByteArray} (h0 : W.size ≤ S.size) (h : ∀ j, j < W.size → okL ((bl W).getD j 0) ((bl S).getD (S.size - W.size + j) 0) = true) : fitsB S W = true := by
  unfold fitsB
  rw [Bool.and_eq_true]
  exact ⟨decide_eq_true h0, List.all_eq_true.2 (fun j hj => h j (List.mem_range.1 hj))⟩
theorem fits_not {S W : ByteArray} (j : Nat) (hj : j < W.size) (h : okL ((bl W).getD j 0) ((bl S).getD (S.size - W.size + j) 0) = false) : fitsB S W = false := by
  unfold fitsB
  rw [Bool.and_eq_false_iff]
  refine Or.inr (Bool.eq_false_iff.2 (fun hh => ?_))
  have := List.all_eq_true.1 hh j (List.mem_range.2 hj)
  simp only [h] at this
  exact Bool.noConfusion this
theorem u8_eq {a b : UInt8} : ((a.toNat : Nat) : Int) = ((b.toNat : Nat) : Int) ↔ a = b := by
  constructor
  · intro h; exact UInt8.toNat_inj.1 (by omega)
  · intro h; rw [h]
theorem okL_case (a b : UInt8) : (a = 97 ∧ okL a b = true) ∨ (a ≠ 97 ∧ a = b ∧ okL a b = true) ∨ (a ≠ 97 ∧ a ≠ b ∧ a = 110 ∧ b ≠ 114 ∧ okL a b = true) ∨ (a ≠ 97 ∧ a ≠ b ∧ a = 110 ∧ b = 114 ∧ okL a b = false) ∨ (a ≠ 97 ∧ a ≠ b ∧ a ≠ 110 ∧ okL a b = false) := by
  unfold okL
  by_cases h1 : a = 97
  · subst h1; exact Or.inl ⟨rfl, rfl⟩
  · by_cases h2 : a = b
    · subst h2; exact Or.inr (Or.inl ⟨h1, rfl, by simp⟩)
    · by_cases h3 : a = 110
      · by_cases h4 : b = 114
        · exact Or.inr (Or.inr (Or.inr (Or.inl ⟨h1, h2, h3, h4, by subst h3; subst h4; rfl⟩)))
        · exact Or.inr (Or.inr (Or.inl ⟨h1, h2, h3, h4, by simp [h3, h4]⟩))
      · exact Or.inr (Or.inr (Or.inr (Or.inr ⟨h1, h2, h3, by simp [h1, h2, h3]⟩)))
set_option maxRecDepth 100000 in
set_option maxHeartbeats 4000000 in
theorem fits_any (S W : ByteArray) (w : World) (hS : S.size ≤ 70000) (hW : W.size ≤ 2) :
    Calls Tryz.prog 55 #[.string S, .string W] w fun e w' => e = .returned (.bool (fitsB S W)) ∧ Below w.heap.size w w' := by
  by_cases hle : W.size ≤ S.size
  · obtain ⟨T, hT⟩ : ∃ T, T = S.extract (S.size - W.size) S.size := ⟨_, rfl⟩
    have hTs : T.size = W.size := by rw [hT, ByteArray.size_extract]; omega
    have HG : Hid (∀ j (hj : j < T.size) (hj2 : j < W.size), okL W[j] T[j] = okL ((bl W).getD j 0) ((bl S).getD (S.size - W.size + j) 0)) := hid (fun j hj hj2 => by
      congr 1
      · rw [List.getD_eq_getElem?_getD, List.getElem?_eq_getElem (by rw [bl_length]; exact hj2), bl_get W j hj2]; rfl
      · have h1 : (bl T)[j]? = some T[j] := by rw [List.getElem?_eq_getElem (by rw [bl_length]; exact hj), bl_get T j hj]
        have h2 : bl T = (bl S).drop (S.size - W.size) := by rw [hT, bl_extract, List.take_of_length_le (by rw [bl_length]; exact Nat.le_refl _)]
        rw [h2, List.getElem?_drop] at h1
        rw [List.getD_eq_getElem?_getD, h1]; rfl)
    have HT := hid hT
    go_enter Tryz.func55, Tryz.ntmps55
    go_wp2
    rw [← HT.out]
    clear hT
    go_loopw [6] (fun iv wr => ∃ k : Nat, k ≤ W.size ∧ iv = .int .i64 k ∧ Hid (∀ j, j < k → okL ((bl W).getD j 0) ((bl S).getD (S.size - W.size + j) 0) = true) ∧ Hid (Below w.heap.size w wr)) (fun iv _ => W.size - (intOf iv).toNat)
    case atStart => exact ⟨0, Nat.zero_le _, rfl, hid (fun j hj => absurd hj (Nat.not_lt_zero _)), hid (Below.refl _ _)⟩
    case round =>
      obtain ⟨k, hk, rfl, HA, HB⟩ := hrel
      by_cases hlt : k < W.size
      · have hltT : k < T.size := by omega
        have hok := HG.out k hltT hlt
        have HOK := hid hok
        clear hok
        have go (h : okL W[k] T[k] = true) : Hid (∀ j, j < k + 1 → okL ((bl W).getD j 0) ((bl S).getD (S.size - W.size + j) 0) = true) := hid (fun j hj => by
          by_cases e : j = k
          · subst e; rw [← HOK.out]; exact h
          · exact HA.out j (by omega))
        have HGo := hid go
        clear go
        rcases okL_case W[k] T[k] with ⟨h1, ho⟩ | ⟨h1, h2, ho⟩ | ⟨h1, h2, h3, h4, ho⟩ | ⟨h1, h2, h3, h4, ho⟩ | ⟨h1, h2, h3, ho⟩
        · have HN := HGo.out ho
          have d1 : (((W[k].toNat : Nat) : Int) == 97) = true := by rw [h1]; rfl
          clear ho HGo
          go_wp2
          go_quiet (fail)
          go_wp2
          go_roundw
          case rel => exact ⟨k + 1, by omega, by go_num, HN, hid ((by have := HB.out; first | exact this | exact this.drew | exact below_drewN' this _))⟩
          case measure => simp [intOf]; omega
        · have HN := HGo.out ho
          have d1 : (((W[k].toNat : Nat) : Int) == 97) = false := beq_eq_false_iff_ne.2 (fun e => h1 (u8_eq.1 e))
          have d2 : (((W[k].toNat : Nat) : Int) == ((T[k].toNat : Nat) : Int)) = true := beq_iff_eq.2 (u8_eq.2 h2)
          clear ho HGo h1 h2
          go_wp2
          go_quiet (fail)
          go_wp2
          go_roundw
          case rel => exact ⟨k + 1, by omega, by go_num, HN, hid ((by have := HB.out; first | exact this | exact this.drew | exact below_drewN' this _))⟩
          case measure => simp [intOf]; omega
        · have HN := HGo.out ho
          have d1 : (((W[k].toNat : Nat) : Int) == 97) = false := beq_eq_false_iff_ne.2 (fun e => h1 (u8_eq.1 e))
          have d2 : (((W[k].toNat : Nat) : Int) == ((T[k].toNat : Nat) : Int)) = false := beq_eq_false_iff_ne.2 (fun e => h2 (u8_eq.1 e))
          have d3 : (((W[k].toNat : Nat) : Int) == 110) = true := by rw [h3]; rfl
          have d4 : (((T[k].toNat : Nat) : Int) != 114) = true := bne_iff_ne.2 (fun e => h4 (u8_eq.1 e))
          clear ho HGo h1 h2 h3 h4
          go_wp2
          go_quiet (fail)
          go_wp2
          go_roundw
          case rel => exact ⟨k + 1, by omega, by go_num, HN, hid ((by have := HB.out; first | exact this | exact this.drew | exact below_drewN' this _))⟩
          case measure => simp [intOf]; omega
        · have HN : Hid (fitsB S W = false) := hid (fits_not k hlt (by rw [← HOK.out]; exact ho))
          have d1 : (((W[k].toNat : Nat) : Int) == 97) = false := beq_eq_false_iff_ne.2 (fun e => h1 (u8_eq.1 e))
          have d2 : (((W[k].toNat : Nat) : Int) == ((T[k].toNat : Nat) : Int)) = false := beq_eq_false_iff_ne.2 (fun e => h2 (u8_eq.1 e))
          have d3 : (((W[k].toNat : Nat) : Int) == 110) = true := by rw [h3]; rfl
          have d4 : (((T[k].toNat : Nat) : Int) != 114) = false := by rw [h4]; rfl
          clear ho HGo h1 h2 h3 h4
          go_wp2
          go_quiet (fail)
          go_wp2
          go_ret
          exact ⟨ret_bool HN.out.symm, (by have := HB.out; first | exact this | exact this.drew | exact below_drewN' this _)⟩
        · have HN : Hid (fitsB S W = false) := hid (fits_not k hlt (by rw [← HOK.out]; exact ho))
          have d1 : (((W[k].toNat : Nat) : Int) == 97) = false := beq_eq_false_iff_ne.2 (fun e => h1 (u8_eq.1 e))
          have d2 : (((W[k].toNat : Nat) : Int) == ((T[k].toNat : Nat) : Int)) = false := beq_eq_false_iff_ne.2 (fun e => h2 (u8_eq.1 e))
          have d3 : (((W[k].toNat : Nat) : Int) == 110) = false := beq_eq_false_iff_ne.2 (fun e => h3 (u8_eq.1 e))
          clear ho HGo h1 h2 h3
          go_wp2
          go_quiet (fail)
          go_wp2
          go_ret
          exact ⟨ret_bool HN.out.symm, (by have := HB.out; first | exact this | exact this.drew | exact below_drewN' this _)⟩
      · obtain rfl : k = W.size := by omega
        have HN : Hid (fitsB S W = true) := hid (fits_all hle HA.out)
        go_wp2
        go_ret
        exact ⟨ret_bool HN.out.symm, HB.out⟩
  · have HN : Hid (fitsB S W = false) := hid (by unfold fitsB; rw [decide_eq_false hle]; rfl)
    go_enter Tryz.func55, Tryz.ntmps55
    go_wp2
    go_ret
    exact ⟨ret_bool HN.out.symm, (by repeat (first | exact Below.refl _ _ | assumption | refine Below.alloc ?_ (by first | omega | (simp; omega) | simp) _ | refine Below.setCell ?_ (by first | omega | (simp; omega) | simp) _ | refine below_drewN' ?_ _ | refine Below.drew ?_))⟩
theorem flatPV_get : ∀ (l : List PV) (i : Nat) (p : PV), l[i]? = some p → (flatPV l)[i * 8]? = some (.int .i64 p.k)
  | [], i, p, h => by simp at h
  | q :: l, 0, p, h => by simp at h; subst h; rfl
  | q :: l, i + 1, p, h => by
    rw [List.getElem?_cons_succ] at h
    have := flatPV_get l i p h
    show (q.cells ++ flatPV l)[(i + 1) * 8]? = _
    rw [List.getElem?_append_right (by rw [cells_len]; omega), cells_len, show (i + 1) * 8 - 8 = i * 8 by omega]
    exact this
def PickAtV (w : World) (cb : Nat) (c : CodeQ) (op arg : Nat) : Prop := op = 1 → ∃ (ca pa ga : Option Addr) (iv : Value) (cn cc pc gn gc g : Nat), BAt w cb [.slice ca cn cc, .slice (some ⟨g, 0, none⟩) c.picks.length pc, .slice ga gn gc, iv] 101 ∧ arg < c.picks.length ∧ pa = none ∧ w.cell? ⟨g, arg * 8, none⟩ = some (.int .i64 (if (c.picks[arg]?.map kindOfP).getD 0 = 3 then 2 else 1))
theorem RCode.pickAt {w : World} {cb : Nat} {c : CodeQ} {cv pv gv iv : Value} {l : List PV} {g : List (Option Addr × Nat × Nat)} (h : RCode w cb c cv pv gv iv l g) {i op arg : Nat} (hr : refersQ c i (op, arg) = true) : PickAtV w cb c op arg := by
  rintro rfl
  have ha : arg < c.picks.length := by simpa [refersQ] using hr
  obtain ⟨ca, cc, rfl⟩ := own_shape h.cs
  obtain ⟨gp, pc, rfl⟩ := own_some h.ps (by omega)
  obtain ⟨ga, gc, rfl⟩ := own_shape h.gs
  have hpl : arg < l.length := by rw [h.pl]; exact ha
  have hpk := h.pk arg c.picks[arg] l[arg] (List.getElem?_eq_getElem ha) (List.getElem?_eq_getElem hpl)
  have hc := own_cell h.ps _ _ (flatPV_get l arg l[arg] (List.getElem?_eq_getElem hpl))
  refine ⟨ca, none, ga, iv, _, cc, pc, _, gc, gp, h.box, ha, rfl, ?_⟩
  rw [hc, hpk.k, List.getElem?_eq_getElem ha]
  show some (Value.int .i64 (if 0 < (c.picks[arg]).2 then 2 else 1)) = some (.int .i64 (if kindOfP c.picks[arg] = 3 then 2 else 1))
  unfold kindOfP
  by_cases hx : 0 < (c.picks[arg]).2
  · rw [if_pos hx, if_pos hx, if_pos rfl]
  · rw [if_neg hx, if_neg hx, if_neg (by decide)]
theorem ret_str {a b : ByteArray} (h : a = b) : Ending.returned (.string a) = .returned (.string b) := by rw [h]
set_option maxRecDepth 100000 in
set_option maxHeartbeats 8000000 in
theorem puts_any (w : World) (cb : Nat) (c : CodeQ) (op arg : Nat) (took sl : ByteArray) (hop : op ≤ 13) (harg : arg < 65536) (hp : PickAtV w cb c op arg) (hsl : op = 13 → arg < sl.size) :
    Calls Tryz.prog 56 #[.pointer (some ⟨cb, 0, none⟩), .agg #[.int .i64 op, .int .i64 arg], .string took, .string sl] w fun e w' => e = .returned (.string (putsB c op arg took sl)) ∧ Below w.heap.size w w' := by
  rcases (by omega : op = 1 ∨ op = 3 ∨ op = 13 ∨ (op = 0 ∨ op = 2 ∨ op = 4 ∨ op = 5 ∨ op = 6 ∨ op = 7 ∨ op = 8 ∨ op = 9 ∨ op = 10 ∨ op = 11 ∨ op = 12)) with rfl | rfl | rfl | hh
  · obtain ⟨ca, pa, ga, iv, cn, cc, pc, gn, gc, g, hbx, ha, _, hc⟩ := hp rfl
    have HB := hid hbx
    have b1 := hbx.cell 1
    simp only [List.getElem?_cons_zero, List.getElem?_cons_succ] at b1
    have hbl := hbx.lt
    have hgl := World.block_lt_of_cell? _ _ hc
    simp only at hgl
    have haz : (arg : Int) < (c.picks.length : Int) := by omega
    have HPU : Hid (putsB c 1 arg took sl = if (c.picks[arg]?.map kindOfP).getD 0 = 3 then ⟨#[114]⟩ else ⟨#[118]⟩) := hid rfl
    generalize c.picks.length = np at *
    by_cases h3 : (c.picks[arg]?.map kindOfP).getD 0 = 3
    · rw [if_pos h3] at hc HPU
      clear h3 hbx hp
      go_enter Tryz.func56, Tryz.ntmps56
      go_wp2
      go_quiet (fail)
      go_wp2
      go_ret
      exact ⟨ret_str HPU.out.symm, (by repeat (first | exact Below.refl _ _ | assumption | refine Below.alloc ?_ (by first | omega | (simp; omega) | simp) _ | refine Below.setCell ?_ (by first | omega | (simp; omega) | simp) _ | refine below_drewN' ?_ _ | refine Below.drew ?_))⟩
    · rw [if_neg h3] at hc HPU
      clear h3 hbx hp
      go_enter Tryz.func56, Tryz.ntmps56
      go_wp2
      go_quiet (fail)
      go_wp2
      go_ret
      exact ⟨ret_str HPU.out.symm, (by repeat (first | exact Below.refl _ _ | assumption | refine Below.alloc ?_ (by first | omega | (simp; omega) | simp) _ | refine Below.setCell ?_ (by first | omega | (simp; omega) | simp) _ | refine below_drewN' ?_ _ | refine Below.drew ?_))⟩
  · clear hp hsl
    by_cases ht : took = ⟨#[115, 115]⟩
    · subst ht
      go_enter Tryz.func56, Tryz.ntmps56
      go_wp2
      go_ret
      exact ⟨rfl, (by repeat (first | exact Below.refl _ _ | assumption | refine Below.alloc ?_ (by first | omega | (simp; omega) | simp) _ | refine Below.setCell ?_ (by first | omega | (simp; omega) | simp) _ | refine below_drewN' ?_ _ | refine Below.drew ?_))⟩
    · have HPU : Hid (putsB c 3 arg took sl = ⟨#[118]⟩) := hid (if_neg ht)
      have ht2 : (took.toList == [115, 115]) = false := by
        have h1 := (bl_beqV took ⟨#[115, 115]⟩).trans (decide_eq_false ht)
        rw [toList_bl ⟨#[115, 115]⟩] at h1
        exact h1
      go_enter Tryz.func56, Tryz.ntmps56
      go_wp2
      go_ret
      exact ⟨ret_str HPU.out.symm, (by repeat (first | exact Below.refl _ _ | assumption | refine Below.alloc ?_ (by first | omega | (simp; omega) | simp) _ | refine Below.setCell ?_ (by first | omega | (simp; omega) | simp) _ | refine below_drewN' ?_ _ | refine Below.drew ?_))⟩
  · have h13 := hsl rfl
    clear hp hsl
    go_enter Tryz.func56, Tryz.ntmps56
    go_wp2
    go_ret
    exact ⟨rfl, (by repeat (first | exact Below.refl _ _ | assumption | refine Below.alloc ?_ (by first | omega | (simp; omega) | simp) _ | refine Below.setCell ?_ (by first | omega | (simp; omega) | simp) _ | refine below_drewN' ?_ _ | refine Below.drew ?_))⟩
  · clear hp hsl
    rcases hh with rfl | rfl | rfl | rfl | rfl | rfl | rfl | rfl | rfl | rfl | rfl
    all_goals
      go_enter Tryz.func56, Tryz.ntmps56
      go_wp2
      go_ret
      exact ⟨rfl, (by repeat (first | exact Below.refl _ _ | assumption | refine Below.alloc ?_ (by first | omega | (simp; omega) | simp) _ | refine Below.setCell ?_ (by first | omega | (simp; omega) | simp) _ | refine below_drewN' ?_ _ | refine Below.drew ?_))⟩
end Go.Proofs.YtkodhpilkaihjaaGreatDoor
