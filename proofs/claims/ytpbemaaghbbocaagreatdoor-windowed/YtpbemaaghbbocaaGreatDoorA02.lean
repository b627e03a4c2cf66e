/- Parts. -/
import Derived.Test.YtpbemaaghbbocaaGreatDoorA01
import Derived.Deep.Trees
namespace Go.Proofs.YtpbemaaghbbocaaGreatDoor
open Go.RowKit LS
def LexIs (e : Ending) (ts : ByteArray) (r : Tok × Nat) : Prop := e = .returned (.tuple #[.agg #[.int .i64 (r.1.kind : Nat), .string ts, .int .i64 (r.1.at_ : Nat)], .int .i64 (r.2 : Nat)]) ∧ bl ts = r.1.txt
theorem lexIs_mk {ts : ByteArray} {k a p : Nat} {r : Tok × Nat} {x y z : Int} (h : r = (⟨k, bl ts, a⟩, p)) (hx : x = (k : Nat)) (hy : y = (a : Nat)) (hz : z = (p : Nat)) : LexIs (.returned (.tuple #[.agg #[.int .i64 x, .string ts, .int .i64 y], .int .i64 z])) ts r := by
  subst h; subst hx; subst hy; subst hz; exact ⟨rfl, rfl⟩
set_option maxRecDepth 100000 in
set_option maxHeartbeats 4000000 in
theorem lex_any (s : ByteArray) (i : Nat) (w : World) (hs : s.size ≤ 6000) (hi : i ≤ s.size) :
    Calls Tryz.prog 92 #[.string s, .int .i64 i] w fun e w' => (∃ ts : ByteArray, LexIs e ts (lexAt (bl s) i)) ∧ Below w.heap.size w w' := by
  go_enter Tryz.func92, Tryz.ntmps92
  go_wp2
  go_loop [1] (fun v => ∃ j : Nat, j ≤ s.size ∧ v = .int .i64 j ∧ Hid (lexAt (bl s) i = lexAt (bl s) j)) (fun v => s.size - (intOf v).toNat)
  case atStart => exact ⟨i, hi, rfl, rfl⟩
  case round =>
    obtain ⟨j, hj, rfl, HL⟩ := hrel
    by_cases hlt : j < s.size
    · by_cases h32 : s[j] = 32
      · have HF : Hid (lexAt (bl s) i = lexAt (bl s) (j + 1)) := hid (by rw [HL.out]; exact lexAt_skip s j hlt h32)
        have hb : ((s[j].toNat : Int) == 32) = true := by rw [h32]; rfl
        clear h32
        go_wp2
        go_round
        case rel => exact ⟨j + 1, by omega, by go_num, HF⟩
        case measure => simp [intOf]; omega
      · have HF : Hid (lexAt (bl s) i = lexC (bl s) j s[j] ((bl s).drop (j + 1))) := hid (by rw [HL.out]; exact lexAt_at s j hlt h32)
        have hb : ((s[j].toNat : Int) == 32) = false := by
          rw [beq_eq_false_iff_ne]; intro h; exact h32 (UInt8.toNat_inj.1 (by show s[j].toNat = 32; omega))
        have hjn : ((j : Int) == (s.size : Int)) = false := by rw [beq_eq_false_iff_ne]; omega
        clear h32 HL
        have hcons : (bl s).drop j = s[j] :: (bl s).drop (j + 1) := drop_cons s j hlt
        have hN1 : j + 1 ≤ s.size := hlt
        have hN2 : j ≤ s.size := hj
        cases hd : digit s[j]
        · cases hl : letter s[j]
          · by_cases hq : s[j] = 34
            · have hb34 : ((s[j].toNat : Int) == 34) = true := by rw [hq]; rfl
              have e2 : bl (s.extract (j + 1) s.size) = (bl s).drop (j + 1) := by rw [bl_extract, List.take_of_length_le (by rw [bl_length]; exact Nat.le_refl _)]
              have hsz : (s.extract (j + 1) s.size).size ≤ 6000 := by rw [ByteArray.size_extract]; omega
              cases hsk : LS.seek 34 (bl (s.extract (j + 1) s.size)) with
              | none =>
                have hC : lexAt (bl s) i = (⟨5, bl ⟨#[]⟩, j⟩, s.size) := by
                  rw [HF.out]; unfold lexC; rw [hd, hl, hq, ← e2, hsk, bl_length]; rfl
                have HSK : Hid _ := hsk
                clear HF hcons hq hsk e2
                have HF : Hid _ := hC
                clear hC
                go_wp2_with (first | (go_at_call 143; refine (digit_any _ _).mono ?_; rintro e w' ⟨rfl, rfl⟩) | (go_at_call 144; refine (letter_any _ _).mono ?_; rintro e w' ⟨rfl, rfl⟩) | fail)
                refine (seek_none_any (c := 34) _ _ rfl hsz HSK.out).mono ?_
                rintro e w' ⟨rfl, rfl⟩
                go_wp2
                exact bodyPost_ret (v := .tuple #[.agg #[.int .i64 5, .string ⟨#[]⟩, .int .i64 j], .int .i64 ((s.size : Nat))]) (by simp [results, Tryz.results92, go_sem]) rfl ⟨⟨⟨#[]⟩, lexIs_mk (k := 5) (a := j) (p := s.size) HF.out rfl rfl (by omega)⟩, (by repeat (first | exact Below.refl _ _ | assumption | refine Below.alloc ?_ (by first | omega | (simp; omega) | simp) _ | refine Below.setCell ?_ (by first | omega | (simp; omega) | simp) _ | refine below_drewN' ?_ _ | refine Below.drew ?_))⟩
              | some p =>
                have hp : p < (s.extract (j + 1) s.size).size := by rw [← bl_length]; exact seek_lt hsk
                rw [ByteArray.size_extract] at hp
                have e3 : bl (s.extract (j + 1) (j + 1 + p)) = ((bl s).drop (j + 1)).take p := by rw [bl_extract, List.drop_take]; congr 1; omega
                have hsz2 : (s.extract (j + 1) (j + 1 + p)).size ≤ 6000 := by rw [ByteArray.size_extract]; omega
                have hp2 : j + 1 + p ≤ s.size := by omega
                have hC : lexAt (bl s) i = (if isWord (bl (s.extract (j + 1) (j + 1 + p))) then ⟨3, bl (s.extract (j + 1) (j + 1 + p)), j⟩ else ⟨5, [], j⟩, j + p + 2) := by
                  rw [HF.out]; unfold lexC; rw [hd, hl, hq, ← e2, hsk, e3, e2]; rfl
                have HSK : Hid _ := hsk
                clear HF hcons hq hsk e2 e3
                cases hw : isWord (bl (s.extract (j + 1) (j + 1 + p)))
                · have HF : Hid (lexAt (bl s) i = (⟨5, bl ⟨#[]⟩, j⟩, j + p + 2)) := hid (by rw [hC, hw]; rfl)
                  have HW : Hid _ := hw
                  clear hC hw
                  go_wp2_with (first | (go_at_call 143; refine (digit_any _ _).mono ?_; rintro e w' ⟨rfl, rfl⟩) | (go_at_call 144; refine (letter_any _ _).mono ?_; rintro e w' ⟨rfl, rfl⟩) | fail)
                  refine (seek_some_any (c := 34) _ _ rfl hsz HSK.out).mono ?_
                  rintro e w' ⟨rfl, rfl⟩
                  go_wp2_with fail
                  refine (rIsWord_of _ hsz2 HW.out).mono ?_
                  rintro e w' ⟨rfl, rfl⟩
                  go_wp2
                  exact bodyPost_ret (v := .tuple #[.agg #[.int .i64 5, .string ⟨#[]⟩, .int .i64 j], .int .i64 ((j : Int) + p + 2)]) (by simp [results, Tryz.results92, go_sem]) rfl ⟨⟨⟨#[]⟩, lexIs_mk (k := 5) (a := j) (p := j + p + 2) HF.out rfl rfl (by omega)⟩, (by repeat (first | exact Below.refl _ _ | assumption | refine Below.alloc ?_ (by first | omega | (simp; omega) | simp) _ | refine Below.setCell ?_ (by first | omega | (simp; omega) | simp) _ | refine below_drewN' ?_ _ | refine Below.drew ?_))⟩
                · have HF : Hid (lexAt (bl s) i = (⟨3, bl (s.extract (j + 1) (j + 1 + p)), j⟩, j + p + 2)) := hid (by rw [hC, hw]; rfl)
                  have HW : Hid _ := hw
                  clear hC hw
                  go_wp2_with (first | (go_at_call 143; refine (digit_any _ _).mono ?_; rintro e w' ⟨rfl, rfl⟩) | (go_at_call 144; refine (letter_any _ _).mono ?_; rintro e w' ⟨rfl, rfl⟩) | fail)
                  refine (seek_some_any (c := 34) _ _ rfl hsz HSK.out).mono ?_
                  rintro e w' ⟨rfl, rfl⟩
                  go_wp2_with fail
                  refine (rIsWord_of _ hsz2 HW.out).mono ?_
                  rintro e w' ⟨rfl, rfl⟩
                  go_wp2
                  exact bodyPost_ret (v := .tuple #[.agg #[.int .i64 3, .string (s.extract (j + 1) (j + 1 + p)), .int .i64 j], .int .i64 ((j : Int) + p + 2)]) (by simp [results, Tryz.results92, go_sem]) rfl ⟨⟨(s.extract (j + 1) (j + 1 + p)), lexIs_mk (k := 3) (a := j) (p := j + p + 2) HF.out rfl rfl (by omega)⟩, (by repeat (first | exact Below.refl _ _ | assumption | refine Below.alloc ?_ (by first | omega | (simp; omega) | simp) _ | refine Below.setCell ?_ (by first | omega | (simp; omega) | simp) _ | refine below_drewN' ?_ _ | refine Below.drew ?_))⟩
            · have hb34 : ((s[j].toNat : Int) == 34) = false := by
                rw [beq_eq_false_iff_ne]; intro h; exact hq (UInt8.toNat_inj.1 (by show s[j].toNat = 34; omega))
              have hq2 : (s[j] == 34) = false := by rw [beq_eq_false_iff_ne]; exact hq
              have hC : lexAt (bl s) i = if s[j] == 33 && ((bl s).drop (j + 1)).head? == some 61 then (⟨4, [33, 61], j⟩, j + 2) else if (LS.seek s[j] signs).isSome then (⟨4, [s[j]], j⟩, j + 1) else (⟨5, [], j⟩, j + 1) := by
                rw [HF.out]; unfold lexC; rw [hd, hl, hq2]; rfl
              clear HF
              have hway : (∃ h : j + 1 < s.size, ((s[j].toNat : Int) == 33) = true ∧ ((s[j + 1].toNat : Int) == 61) = true ∧ (s[j] == 33 && ((bl s).drop (j + 1)).head? == some 61) = true) ∨
                  ((((s[j].toNat : Int) == 33) = false ∨ (((s[j].toNat : Int) == 33) = true ∧ ¬ j + 1 < s.size) ∨ (∃ h : j + 1 < s.size, ((s[j].toNat : Int) == 33) = true ∧ ((s[j + 1].toNat : Int) == 61) = false)) ∧ (s[j] == 33 && ((bl s).drop (j + 1)).head? == some 61) = false) := by
                by_cases h33 : s[j] = 33
                · have b33 : ((s[j].toNat : Int) == 33) = true := by rw [h33]; rfl
                  by_cases hn : j + 1 < s.size
                  · rw [drop_cons s (j + 1) hn]
                    by_cases h61 : s[j + 1] = 61
                    · exact Or.inl ⟨hn, b33, by rw [h61]; rfl, by rw [h33, h61]; rfl⟩
                    · refine Or.inr ⟨Or.inr (Or.inr ⟨hn, b33, ?_⟩), by simp [h61]⟩
                      rw [beq_eq_false_iff_ne]; intro h; exact h61 (UInt8.toNat_inj.1 (by show s[j + 1].toNat = 61; omega))
                  · refine Or.inr ⟨Or.inr (Or.inl ⟨b33, hn⟩), ?_⟩
                    rw [List.drop_of_length_le (by rw [bl_length]; omega)]; simp
                · refine Or.inr ⟨Or.inl ?_, by simp [h33]⟩
                  rw [beq_eq_false_iff_ne]; intro h; exact h33 (UInt8.toNat_inj.1 (by show s[j].toNat = 33; omega))
              clear hcons hq hq2
              rcases hway with ⟨hn, b33, b61, hcc⟩ | ⟨hway, hcc⟩
              · have HF : Hid (lexAt (bl s) i = (⟨4, bl ⟨#[33, 61]⟩, j⟩, j + 2)) := hid (by rw [hC, if_pos hcc]; rfl)
                clear hC hcc
                go_wp2_with (first | (go_at_call 143; refine (digit_any _ _).mono ?_; rintro e w' ⟨rfl, rfl⟩) | (go_at_call 144; refine (letter_any _ _).mono ?_; rintro e w' ⟨rfl, rfl⟩) | fail)
                exact bodyPost_ret (v := .tuple #[.agg #[.int .i64 4, .string ⟨#[33, 61]⟩, .int .i64 j], .int .i64 ((j : Int) + 2)]) (by simp [results, Tryz.results92, go_sem]) rfl ⟨⟨⟨#[33, 61]⟩, lexIs_mk (k := 4) (a := j) (p := j + 2) HF.out rfl rfl (by omega)⟩, (by repeat (first | exact Below.refl _ _ | assumption | refine Below.alloc ?_ (by first | omega | (simp; omega) | simp) _ | refine Below.setCell ?_ (by first | omega | (simp; omega) | simp) _ | refine below_drewN' ?_ _ | refine Below.drew ?_))⟩
              · rw [hcc] at hC
                have e1 : bl (s.extract j (j + 1)) = [s[j]] := by
                  rw [bl_extract, List.drop_take, drop_cons s j hlt, Nat.add_sub_cancel_left]; rfl
                have hsig : (⟨#[40, 41, 123, 125, 91, 93, 44, 61, 43, 45, 42, 47]⟩ : ByteArray).size ≤ 6000 := by decide
                have ebs : bl ⟨#[40, 41, 123, 125, 91, 93, 44, 61, 43, 45, 42, 47]⟩ = signs := rfl
                cases hsk : LS.seek s[j] signs with
                | none =>
                  have HF : Hid (lexAt (bl s) i = (⟨5, bl ⟨#[]⟩, j⟩, j + 1)) := hid (by rw [hC, hsk]; rfl)
                  have HSK : Hid (LS.seek s[j] (bl ⟨#[40, 41, 123, 125, 91, 93, 44, 61, 43, 45, 42, 47]⟩) = none) := hsk
                  clear hC hcc hsk e1 ebs
                  rcases hway with b33 | ⟨b33, hn⟩ | ⟨hn, b33, b61⟩
                  all_goals
                    go_wp2_with (first | (go_at_call 143; refine (digit_any _ _).mono ?_; rintro e w' ⟨rfl, rfl⟩) | (go_at_call 144; refine (letter_any _ _).mono ?_; rintro e w' ⟨rfl, rfl⟩) | fail)
                    refine (seek_none_any (c := s[j]) _ _ rfl hsig HSK.out).mono ?_
                    rintro e w' ⟨rfl, rfl⟩
                    go_wp2
                    exact bodyPost_ret (v := .tuple #[.agg #[.int .i64 5, .string ⟨#[]⟩, .int .i64 j], .int .i64 ((j : Int) + 1)]) (by simp [results, Tryz.results92, go_sem]) rfl ⟨⟨⟨#[]⟩, lexIs_mk (k := 5) (a := j) (p := j + 1) HF.out rfl rfl (by omega)⟩, (by repeat (first | exact Below.refl _ _ | assumption | refine Below.alloc ?_ (by first | omega | (simp; omega) | simp) _ | refine Below.setCell ?_ (by first | omega | (simp; omega) | simp) _ | refine below_drewN' ?_ _ | refine Below.drew ?_))⟩
                | some p =>
                  have HF : Hid (lexAt (bl s) i = (⟨4, bl (s.extract j (j + 1)), j⟩, j + 1)) := hid (by rw [hC, hsk, e1]; rfl)
                  have HSK : Hid (LS.seek s[j] (bl ⟨#[40, 41, 123, 125, 91, 93, 44, 61, 43, 45, 42, 47]⟩) = some p) := hsk
                  clear hC hcc hsk e1 ebs
                  rcases hway with b33 | ⟨b33, hn⟩ | ⟨hn, b33, b61⟩
                  all_goals
                    go_wp2_with (first | (go_at_call 143; refine (digit_any _ _).mono ?_; rintro e w' ⟨rfl, rfl⟩) | (go_at_call 144; refine (letter_any _ _).mono ?_; rintro e w' ⟨rfl, rfl⟩) | fail)
                    refine (seek_some_any (c := s[j]) _ _ rfl hsig HSK.out).mono ?_
                    rintro e w' ⟨rfl, rfl⟩
                    go_wp2
                    exact bodyPost_ret (v := .tuple #[.agg #[.int .i64 4, .string (s.extract j (j + 1)), .int .i64 j], .int .i64 ((j : Int) + 1)]) (by simp [results, Tryz.results92, go_sem]) rfl ⟨⟨(s.extract j (j + 1)), lexIs_mk (k := 4) (a := j) (p := j + 1) HF.out rfl rfl (by omega)⟩, (by repeat (first | exact Below.refl _ _ | assumption | refine Below.alloc ?_ (by first | omega | (simp; omega) | simp) _ | refine Below.setCell ?_ (by first | omega | (simp; omega) | simp) _ | refine below_drewN' ?_ _ | refine Below.drew ?_))⟩
          · have hrun : run letter ((bl s).drop j) ≤ ((bl s).drop j).length := run_le _ _
            rw [List.length_drop, bl_length] at hrun
            have hC : lexAt (bl s) i = (if 8 < run letter ((bl s).drop j) then ⟨5, [], j⟩ else ⟨2, ((bl s).drop j).take (run letter ((bl s).drop j)), j⟩, j + run letter ((bl s).drop j)) := by
              rw [HF.out]; unfold lexC; rw [hd, hl, ← hcons]; rfl
            obtain ⟨n, hn⟩ : ∃ n, run letter ((bl s).drop j) = n := ⟨_, rfl⟩
            rw [hn] at hC hrun
            have HC : Hid _ := hC
            have HN : Hid (run letter ((bl s).drop j) = n) := hn
            clear hC hn HF hcons
            have hjn2 : j + n ≤ s.size := by omega
            have e3 : bl (s.extract j (j + n)) = ((bl s).drop j).take n := by rw [bl_extract, List.drop_take]; congr 1; omega
            have E3 : Hid _ := e3
            clear e3
            by_cases h8 : 8 < n
            · have HF : Hid (lexAt (bl s) i = (⟨5, bl ⟨#[]⟩, j⟩, j + n)) := hid (by rw [HC.out, if_pos h8]; rfl)
              go_wp2_with (first | (go_at_call 143; refine (digit_any _ _).mono ?_; rintro e w' ⟨rfl, rfl⟩) | (go_at_call 144; refine (letter_any _ _).mono ?_; rintro e w' ⟨rfl, rfl⟩) | fail)
              refine (while_letter s j _ hs (by omega)).mono ?_
              rintro e w' ⟨rfl, rfl⟩
              rw [HN.out]
              go_wp2
              exact bodyPost_ret (v := .tuple #[.agg #[.int .i64 5, .string ⟨#[]⟩, .int .i64 j], .int .i64 ((j : Int) + n)]) (by simp [results, Tryz.results92, go_sem]) rfl ⟨⟨⟨#[]⟩, lexIs_mk (k := 5) (a := j) (p := j + n) HF.out rfl rfl (by omega)⟩, (by repeat (first | exact Below.refl _ _ | assumption | refine Below.alloc ?_ (by first | omega | (simp; omega) | simp) _ | refine Below.setCell ?_ (by first | omega | (simp; omega) | simp) _ | refine below_drewN' ?_ _ | refine Below.drew ?_))⟩
            · have HF : Hid (lexAt (bl s) i = (⟨2, bl (s.extract j (j + n)), j⟩, j + n)) := hid (by rw [HC.out, if_neg h8, E3.out])
              go_wp2_with (first | (go_at_call 143; refine (digit_any _ _).mono ?_; rintro e w' ⟨rfl, rfl⟩) | (go_at_call 144; refine (letter_any _ _).mono ?_; rintro e w' ⟨rfl, rfl⟩) | fail)
              refine (while_letter s j _ hs (by omega)).mono ?_
              rintro e w' ⟨rfl, rfl⟩
              rw [HN.out]
              go_wp2
              exact bodyPost_ret (v := .tuple #[.agg #[.int .i64 2, .string (s.extract j (j + n)), .int .i64 j], .int .i64 ((j : Int) + n)]) (by simp [results, Tryz.results92, go_sem]) rfl ⟨⟨(s.extract j (j + n)), lexIs_mk (k := 2) (a := j) (p := j + n) HF.out rfl rfl (by omega)⟩, (by repeat (first | exact Below.refl _ _ | assumption | refine Below.alloc ?_ (by first | omega | (simp; omega) | simp) _ | refine Below.setCell ?_ (by first | omega | (simp; omega) | simp) _ | refine below_drewN' ?_ _ | refine Below.drew ?_))⟩
        · have hrun : run digit ((bl s).drop j) ≤ ((bl s).drop j).length := run_le _ _
          rw [List.length_drop, bl_length] at hrun
          have hC : lexAt (bl s) i = (if (number 1000000000 (((bl s).drop j).take (run digit ((bl s).drop j)))).isSome then ⟨1, ((bl s).drop j).take (run digit ((bl s).drop j)), j⟩ else ⟨5, [], j⟩, j + run digit ((bl s).drop j)) := by
            rw [HF.out]; unfold lexC; rw [hd, ← hcons]; rfl
          obtain ⟨n, hn⟩ : ∃ n, run digit ((bl s).drop j) = n := ⟨_, rfl⟩
          rw [hn] at hC hrun
          have HN : Hid (run digit ((bl s).drop j) = n) := hn
          clear hn HF hcons
          have hjn2 : j + n ≤ s.size := by omega
          have e3 : bl (s.extract j (j + n)) = ((bl s).drop j).take n := by rw [bl_extract, List.drop_take]; congr 1; omega
          have hsz : (s.extract j (j + n)).size ≤ 6000 := by rw [ByteArray.size_extract]; omega
          rw [← e3] at hC
          have HC : Hid _ := hC
          clear e3 hC
          have hT := numI_bounds 1000000000 (bl (s.extract j (j + n)))
          go_wp2_with (first | (go_at_call 143; refine (digit_any _ _).mono ?_; rintro e w' ⟨rfl, rfl⟩) | (go_at_call 144; refine (letter_any _ _).mono ?_; rintro e w' ⟨rfl, rfl⟩) | fail)
          refine (while_digit s j _ hs (by omega)).mono ?_
          rintro e w' ⟨rfl, rfl⟩
          rw [HN.out]
          go_wp2_with fail
          refine (rNumber_of 1000000000 _ _ rfl hsz (by omega)).mono ?_
          rintro e w' ⟨rfl, rfl⟩
          cases hnum : number 1000000000 (bl (s.extract j (j + n))) with
          | none =>
            have HF : Hid (lexAt (bl s) i = (⟨5, bl ⟨#[]⟩, j⟩, j + n)) := hid (by rw [HC.out, hnum]; rfl)
            rw [numI_none hnum]
            clear hnum hT
            go_wp2
            exact bodyPost_ret (v := .tuple #[.agg #[.int .i64 5, .string ⟨#[]⟩, .int .i64 j], .int .i64 ((j : Int) + n)]) (by simp [results, Tryz.results92, go_sem]) rfl ⟨⟨⟨#[]⟩, lexIs_mk (k := 5) (a := j) (p := j + n) HF.out rfl rfl (by omega)⟩, (by repeat (first | exact Below.refl _ _ | assumption | refine Below.alloc ?_ (by first | omega | (simp; omega) | simp) _ | refine Below.setCell ?_ (by first | omega | (simp; omega) | simp) _ | refine below_drewN' ?_ _ | refine Below.drew ?_))⟩
          | some v =>
            have HF : Hid (lexAt (bl s) i = (⟨1, bl (s.extract j (j + n)), j⟩, j + n)) := hid (by rw [HC.out, hnum]; rfl)
            rw [numI_some hnum]
            clear hnum hT
            go_wp2
            exact bodyPost_ret (v := .tuple #[.agg #[.int .i64 1, .string (s.extract j (j + n)), .int .i64 j], .int .i64 ((j : Int) + n)]) (by simp [results, Tryz.results92, go_sem]) rfl ⟨⟨(s.extract j (j + n)), lexIs_mk (k := 1) (a := j) (p := j + n) HF.out rfl rfl (by omega)⟩, (by repeat (first | exact Below.refl _ _ | assumption | refine Below.alloc ?_ (by first | omega | (simp; omega) | simp) _ | refine Below.setCell ?_ (by first | omega | (simp; omega) | simp) _ | refine below_drewN' ?_ _ | refine Below.drew ?_))⟩
    · have HF : Hid (lexAt (bl s) i = (⟨0, [], j⟩, j)) := hid (by rw [HL.out]; exact lexAt_end s j hlt hj)
      have hjn : ((j : Int) == (s.size : Int)) = true := by rw [beq_iff_eq]; omega
      go_wp2
      exact bodyPost_ret (v := .tuple #[.agg #[.int .i64 0, .string ⟨#[]⟩, .int .i64 j], .int .i64 j]) (by simp [results, Tryz.results92, go_sem]) rfl ⟨⟨⟨#[]⟩, lexIs_mk (k := 0) (a := j) (p := j) HF.out rfl rfl rfl⟩, (by repeat (first | exact Below.refl _ _ | assumption | refine Below.alloc ?_ (by first | omega | (simp; omega) | simp) _ | refine Below.setCell ?_ (by first | omega | (simp; omega) | simp) _ | refine below_drewN' ?_ _ | refine Below.drew ?_))⟩
end Go.Proofs.YtpbemaaghbbocaaGreatDoor
namespace Go.Proofs.YtpbemaaghbbocaaGreatDoor.LS
open Go Go.RowKit
structure Nd where
  kind : Nat
  op : Nat
  n : Int
  name : List UInt8
  conds : List (List UInt8 × List UInt8 × Bool)
  by_ : List (List UInt8)
abbrev Tr := Go.Deep.BT Nd
abbrev Out (α : Type) := Except (Nat × Nat) (α × List Tok)
def leafT (a : Nd) : Tr := .node 0 0 a .nil .nil
def nd0 (kind op : Nat) : Nd := ⟨kind, op, 0, [], [], []⟩
def lexAll (l : List UInt8) : Nat → Nat → List Tok
  | 0, _ => []
  | n + 1, i => if (lexAt l i).1.kind = 0 ∨ (lexAt l i).1.kind = 5 then [(lexAt l i).1] else (lexAt l i).1 :: lexAll l n (lexAt l i).2
def hd (ts : List Tok) : Tok := ts.headD ⟨0, [], 0⟩
def wOr : List UInt8 := [111, 114]
def wBy : List UInt8 := [98, 121]
def groupWords : List (List UInt8) := [[115, 117, 109], [109, 97, 120], [109, 105, 110], [99, 111, 117, 110, 116]]
def overWords : List (List UInt8) := [[116, 111, 116, 97, 108], [112, 101, 97, 107], [108, 111, 119], [115, 105, 122, 101], [114, 105, 115, 101]]
def idx (w : List UInt8) : List (List UInt8) → Option Nat
  | [] => none
  | x :: l => if x = w then some 0 else (idx w l).map (· + 1)
def isT (s : List UInt8) (t : Tok) : Bool := (t.kind == 2 || t.kind == 4) && t.txt == s
def bnd {α β : Type} (x : Out α) (f : α → List Tok → Out β) : Out β := match x with
  | .error e => .error e
  | .ok (a, ts) => f a ts
def takeP (s : List UInt8) (ts : List Tok) : Out Unit := if isT s (hd ts) then .ok ((), ts.tail) else .error (2, (hd ts).at_)
def kindP (k : Nat) (ts : List Tok) : Out (List UInt8) := if (hd ts).kind = k then .ok ((hd ts).txt, ts.tail) else .error (2, (hd ts).at_)
def listP {α : Type} (item : List Tok → Out α) (close : List UInt8) : Nat → List α → List Tok → Out (List α)
  | 0, _, _ => .error (0, 0)
  | n + 1, acc, ts => if isT close (hd ts) then .ok (acc, ts.tail) else
    bnd (if acc.isEmpty then .ok ((), ts) else takeP [44] ts) fun _ r => bnd (item r) fun a r => listP item close n (acc ++ [a]) r
def signP (ts : List Tok) : Out Bool := if isT [33, 61] (hd ts) then .ok (true, ts.tail) else bnd (takeP [61] ts) fun _ r => .ok (false, r)
def condP (ts : List Tok) : Out (List UInt8 × List UInt8 × Bool) := bnd (kindP 2 ts) fun a r => bnd (signP r) fun n r => bnd (kindP 3 r) fun b r => .ok ((a, b, n), r)
def reserved (t : Tok) : Bool := (idx t.txt groupWords).isSome || (idx t.txt overWords).isSome || isT wOr t || isT wBy t
def nameP (ts : List Tok) : Out (List UInt8) := if reserved (hd ts) then .error (2, (hd ts).at_) else kindP 2 ts
def selP (ts : List Tok) : Out Nd := bnd (nameP ts) fun a r => if isT [123] (hd r) then bnd (listP condP [125] r.length [] r.tail) fun cs r => .ok (⟨1, 0, 0, a, cs, []⟩, r) else .ok (⟨1, 0, 0, a, [], []⟩, r)
def sizeP (ts : List Tok) : Out Int := if (hd ts).kind = 1 ∧ 1 ≤ numI 1000 (hd ts).txt then .ok (numI 1000 (hd ts).txt, ts.tail) else .error (2, (hd ts).at_)
def winP (o : Nat) (ts : List Tok) : Out Tr := bnd (takeP [40] ts) fun _ r => bnd (selP r) fun p r => bnd (takeP [91] r) fun _ r => bnd (sizeP r) fun n r => bnd (takeP [93] r) fun _ r => bnd (takeP [41] r) fun _ r => .ok (leafT ⟨2, o, n, p.name, p.conds, []⟩, r)
def withinP (rec : Nat → List Tok → Nat → Out Tr) (ts : List Tok) (deep : Nat) : Out Tr := bnd (takeP [40] ts) fun _ r => bnd (rec 0 r deep) fun a r => bnd (takeP [41] r) fun _ r => .ok (a, r)
def groupP (rec : Nat → List Tok → Nat → Out Tr) (g : Nat) (ts : List Tok) (deep : Nat) : Out Tr := bnd (takeP wBy ts) fun _ r => bnd (takeP [40] r) fun _ r => bnd (listP (kindP 2) [41] (r.length + 1) [] r) fun ns r => bnd (withinP rec r deep) fun a r => .ok (.node 0 0 ⟨5, g, 0, [], [], ns⟩ a .nil, r)
def startsT (t : Tok) : Bool := t.kind == 1 || isT [45] t || isT [40] t || (t.kind == 2 && !isT wOr t && !isT wBy t)
def numV (l : List UInt8) : Int := ((number 1000000000 l).getD 0 : Nat)
def innerP (rec : Nat → List Tok → Nat → Out Tr) (ts : List Tok) (deep : Nat) : Out Tr :=
  if (hd ts).kind = 1 then .ok (leafT ⟨0, 0, numV (hd ts).txt, [], [], []⟩, ts.tail)
  else if isT [45] (hd ts) then bnd (rec 3 ts.tail deep) fun a r => .ok (.node 0 0 (nd0 3 0) a .nil, r)
  else if isT [40] (hd ts) then withinP rec ts deep
  else match idx (hd ts).txt groupWords with
    | some g => groupP rec g ts.tail deep
    | none => match idx (hd ts).txt overWords with
      | some o => winP o ts.tail
      | none => bnd (selP ts) fun p r => .ok (leafT p, r)
def factorP (rec : Nat → List Tok → Nat → Out Tr) (ts : List Tok) (deep : Nat) : Out Tr :=
  if startsT (hd ts) then (if deep = 20 then .error (3, (hd ts).at_) else innerP rec ts (deep + 1)) else .error (2, (hd ts).at_)
def opAt (lv : Nat) (t : Tok) : Option (Nat × Nat) :=
  if lv = 0 then (if isT wOr t then some (6, 0) else none)
  else if lv = 1 then (if isT [43] t then some (4, 0) else if isT [45] t then some (4, 1) else none)
  else (if isT [42] t then some (4, 2) else if isT [47] t then some (4, 3) else none)
def parse : Nat → Bool → Nat → Tr → List Tok → Nat → Out Tr
  | 0, _, _, _, _, _ => .error (0, 0)
  | n + 1, false, lv, _, ts, deep => if lv = 3 then factorP (fun lv ts d => parse n false lv .nil ts d) ts deep
    else bnd (parse n false (lv + 1) .nil ts deep) fun a r => parse n true lv a r deep
  | n + 1, true, lv, a, ts, deep => match opAt lv (hd ts) with
    | none => .ok (a, ts)
    | some p => bnd (parse n false (lv + 1) .nil ts.tail deep) fun b r => parse n true lv (.node 0 0 (nd0 p.1 p.2) a b) r deep
def kindT : Tr → Nat
  | .nil => 1
  | .node _ _ a l r => if a.kind = 0 then 1 else if a.kind = 1 ∨ a.kind = 2 then 2 else if a.kind = 3 then kindT l
    else if a.kind = 5 then (if kindT l = 2 then 2 else 0)
    else if kindT l = 0 ∨ kindT r = 0 ∨ (a.kind = 6 ∧ kindT l + kindT r ≠ 4) then 0 else if kindT l + kindT r = 2 then 1 else 2
def readQ (l : List UInt8) : Except (Nat × Nat) Tr :=
  if 300 < l.length then .error (1, 0) else
  match parse (10 * (lexAll l (l.length + 1) 0).length + 5) false 0 .nil (lexAll l (l.length + 1) 0) 0 with
  | .error e => .error e
  | .ok (t, r) => if (hd r).kind = 0 then (if kindT t = 0 then .error (4, 0) else .ok t) else .error (2, (hd r).at_)
def tightT (a : Nd) : Nat := if a.kind = 6 then 1 else if a.kind = 4 then (if a.op < 2 then 2 else 3) else 4
def commas : List (List UInt8) → List UInt8
  | [] => []
  | [a] => a
  | a :: l => a ++ 44 :: commas l
def condS (c : List UInt8 × List UInt8 × Bool) : List UInt8 := c.1 ++ (if c.2.2 then [33, 61] else [61]) ++ [34] ++ c.2.1 ++ [34]
def selS (a : Nd) : List UInt8 := if a.conds = [] then a.name else a.name ++ [123] ++ commas (a.conds.map condS) ++ [125]
end Go.Proofs.YtpbemaaghbbocaaGreatDoor.LS
