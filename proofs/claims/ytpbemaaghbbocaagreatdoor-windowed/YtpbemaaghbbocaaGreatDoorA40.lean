/- Parts. -/
import Derived.Test.YtpbemaaghbbocaaGreatDoorA33
import Derived.Deep.RegionHeld3
import Derived.Deep.DrawnRows
import Derived.Deep.LoopGhost
namespace Go.Proofs.YtpbemaaghbbocaaGreatDoor
open Go.RowKit LS
attribute [local go_sem ↓] Go.wp_at_zero Go.wp_at_succ
theorem csign_any (x y : ByteArray) (ng : Bool) (w : World) :
    Calls Tryz.prog 123 #[.agg #[.string x, .bool ng, .string y]] w fun e w' => e = .returned (.string (if ng then ⟨#[33, 61]⟩ else ⟨#[61]⟩)) ∧ Below w.heap.size w w' := by
  cases ng
  · go_enter Tryz.func123, Tryz.ntmps123
    go_wp2
    go_ret
    exact ⟨rfl, (by repeat (first | exact Below.refl _ _ | assumption | refine Below.alloc ?_ (by first | omega | (simp; omega) | simp) _ | refine Below.setCell ?_ (by first | omega | (simp; omega) | simp) _ | refine below_drewN' ?_ _ | refine Below.drew ?_))⟩
  · go_enter Tryz.func123, Tryz.ntmps123
    go_wp2
    go_ret
    exact ⟨rfl, (by repeat (first | exact Below.refl _ _ | assumption | refine Below.alloc ?_ (by first | omega | (simp; omega) | simp) _ | refine Below.setCell ?_ (by first | omega | (simp; omega) | simp) _ | refine below_drewN' ?_ _ | refine Below.drew ?_))⟩
theorem flatCo_getW (l : List (ByteArray × ByteArray × Bool)) (j : Nat) : (flatCo l)[j * 3]? = l[j]?.map (fun t => .string t.1) ∧ (flatCo l)[j * 3 + 1]? = l[j]?.map (fun t => .bool t.2.2) ∧ (flatCo l)[j * 3 + 2]? = l[j]?.map (fun t => .string t.2.1) := by
  induction l generalizing j with
  | nil => simp [flatCo]
  | cons r l ih =>
    cases j with
    | zero => simp [flatCo]
    | succ j =>
      obtain ⟨h1, h2, h3⟩ := ih j
      refine ⟨?_, ?_, ?_⟩
      · rw [show (j + 1) * 3 = j * 3 + 1 + 1 + 1 by omega]; simpa [flatCo] using h1
      · rw [show (j + 1) * 3 + 1 = j * 3 + 1 + 1 + 1 + 1 by omega]; simpa [flatCo] using h2
      · rw [show (j + 1) * 3 + 2 = j * 3 + 1 + 1 + 1 + 1 + 1 by omega]; simpa [flatCo] using h3
def condsToD (bs : List (ByteArray × ByteArray × Bool)) (k : Nat) : List UInt8 := commas ((bs.take k).map fun c => condS (condB c))
theorem condsToD_succ (bs : List (ByteArray × ByteArray × Bool)) (k : Nat) (h : k < bs.length) : condsToD bs (k + 1) = (if k = 0 then [] else condsToD bs k ++ [44]) ++ condS (condB bs[k]) := by
  unfold condsToD
  rw [List.take_succ_eq_append_getElem h, List.map_append, List.map_singleton, commas_snoc]
  by_cases hk : k = 0
  · subst hk; rfl
  · rw [if_neg hk, if_neg (by rw [List.isEmpty_iff, List.map_eq_nil_iff]; intro e; have := congrArg List.length e; rw [List.length_take, List.length_nil] at this; omega)]
theorem condsToD_len (bs : List (ByteArray × ByteArray × Bool)) (k : Nat) : (condsToD bs k).length ≤ cw (bs.map condB) := by
  unfold condsToD
  refine Nat.le_trans (commas_len _) ?_
  rw [show (fun c => condS (condB c)) = condS ∘ condB from rfl, ← List.map_map]
  refine Nat.le_trans (nw_conds _) ?_
  rw [List.map_take]
  have := cw_append ((bs.map condB).take k) ((bs.map condB).drop k)
  rw [List.take_append_drop] at this
  omega
theorem condsToD_all (bs : List (ByteArray × ByteArray × Bool)) : condsToD bs bs.length = commas ((bs.map condB).map condS) := by
  unfold condsToD
  rw [List.take_length, List.map_map]; rfl
theorem condS_b (c : ByteArray × ByteArray × Bool) : condS (condB c) = bl c.1 ++ (if c.2.2 then [33, 61] else [61]) ++ [34] ++ bl c.2.1 ++ [34] := rfl
set_option maxRecDepth 100000 in
set_option maxHeartbeats 8000000 in
theorem wsel_t {w : World} {B b : Nat} {l : List UInt8} (h : WB w B b l) (nm : ByteArray) (la : Option Addr) (ln lc : Nat) (a : Nd) (hnm : bl nm = a.name) (hc : CondsV w (.slice la ln lc) a.conds) (hlen : l.length + a.name.length + cw a.conds + 10 ≤ big) :
    Calls Tryz.prog 83 #[.pointer (some ⟨b, 0, none⟩), .agg #[.string nm, .slice la ln lc]] w fun e w' => e = .returned (.tuple #[]) ∧ Hid (WB w' B b (l ++ selS a)) ∧ Hid (WK B b w w') := by
  obtain ⟨bs, hown, hbs⟩ := hc
  have hln : ln = bs.length := by obtain ⟨_, _, e⟩ := own_shape hown; injection e
  subst hln
  have HW : Hid (WB w B b l) := h
  have HNM : Hid (bl nm = a.name) := hnm
  have HBS : Hid (bs.map condB = a.conds) := hbs
  have HLN : Hid (l.length + nm.size + cw (bs.map condB) + 10 ≤ big) := hid (by rw [hbs, size_of_bl hnm]; exact hlen)
  have HO : Hid (w.ownsRow 0 247 3 (.slice la bs.length lc) bs.length (flatCo bs)) := hown
  have hbg : bs.length ≤ 1000000 := by
    have h1 := HLN.out
    have h2 : bs.length ≤ cw (bs.map condB) := by
      clear h1 HLN HO HBS hown hbs
      induction bs with
      | nil => exact Nat.zero_le _
      | cons c l ih => simp only [List.map_cons, cw, List.length_cons]; omega
    unfold big at h1; omega
  clear h hnm hbs hlen hown
  go_enter Tryz.func83, Tryz.ntmps83
  go_upto_region 1 with fail
  refine wp_gen fun W0 hW0 => ?_
  have hb0 : Below w.heap.size w W0 := by rw [hW0]; exact (Below.refl _ _).alloc (Nat.le_refl _) _
  have HS0 : Hid (BAt W0 w.heap.size [.string nm, .slice la bs.length lc] 179) := hid (by rw [hW0]; exact Go.Deep.blk_alloc_new _ _)
  have HW0 : Hid (WB W0 B b l) := HW.out.below hb0
  have HK0 : Hid (WK B b w W0) := WK.below hb0 HW.out.le
  have HO0 := hid (own_below HO.out hb0)
  clear hW0 hb0
  have s0 := HS0.out.cell 0
  have s1 := HS0.out.cell 1
  simp only [List.getElem?_cons_zero, List.getElem?_cons_succ] at s0 s1
  go_wp2_with fail
  refine (put_t HW0.out nm (by have := HLN.out; omega)).mono ?_
  rintro e w1 ⟨rfl, HW1, HK1'⟩
  have HK1 : Hid (WK B b w w1) := HK0.out.trans HK1'.out
  have HS1 := hid (WK.bat HW0.out HK1'.out HS0.out (by decide) (by decide))
  have HO1 := hid (WK.own HW0.out HK1'.out HO0.out (by decide) (by decide))
  clear HK1' s0 s1 HS0 HK0 HW0 HO0
  have s1 := HS1.out.cell 1
  simp only [List.getElem?_cons_zero, List.getElem?_cons_succ] at s1
  by_cases hz : bs.length = 0
  · have HE : Hid (selS a = bl nm) := hid (by
      have : bs = [] := List.eq_nil_of_length_eq_zero hz
      unfold selS; rw [← HBS.out, this, HNM.out]; rfl)
    rw [hz] at s1
    go_wp2
    exact bodyPost_ret (v := .tuple #[]) (results_none rfl _ _ _) rfl ⟨rfl, by rw [HE.out]; exact HW1, HK1⟩
  · have hp : 0 < bs.length := by omega
    have HE : Hid (selS a = bl nm ++ [123] ++ condsToD bs bs.length ++ [125]) := hid (by
      unfold selS
      rw [if_neg (by rw [← HBS.out]; intro e; rw [List.map_eq_nil_iff] at e; subst e; exact hz rfl), condsToD_all, HBS.out, HNM.out])
    have hz2 : ((bs.length : Int) == 0) = false := by rw [beq_eq_false_iff_ne]; omega
    obtain ⟨g, cp, hg⟩ := own_some HO1.out hp
    injection hg with hg1 _ hg2
    subst hg1 hg2
    go_wp2_with fail
    refine (put_t HW1.out ⟨#[123]⟩ (by rw [List.length_append, bl_length]; have := HLN.out; show _ + 1 ≤ _; omega)).mono ?_
    rintro e w2 ⟨rfl, HW2, HK2'⟩
    have HK2 : Hid (WK B b w w2) := HK1.out.trans HK2'.out
    have HS2 := hid (WK.bat HW1.out HK2'.out HS1.out (by decide) (by decide))
    have HO2 := hid (WK.own HW1.out HK2'.out HO1.out (by decide) (by decide))
    have HL2 : Hid (l ++ bl nm ++ [123] ++ condsToD bs 0 = l ++ bl nm ++ [123]) := hid (by show _ ++ commas ([] : List (List UInt8)) = _; simp [commas])
    clear HK2' s1 HS1 HK1 HW1 HO1
    have s1 := HS2.out.cell 1
    simp only [List.getElem?_cons_zero, List.getElem?_cons_succ] at s1
    go_wp2
    go_loopg [19] bs.length (fun gk v19 wr => ∃ k : Nat, k ≤ bs.length ∧ gk = bs.length - k ∧ v19 = .int .i64 k ∧ Hid (WB wr B b (l ++ bl nm ++ [123] ++ condsToD bs k)) ∧ Hid (WK B b w wr) ∧ Hid (wr.ownsRow 0 247 3 (.slice (some ⟨g, 0, none⟩) bs.length lc) bs.length (flatCo bs)))
    case atStart => exact ⟨0, Nat.zero_le _, rfl, rfl, by rw [HL2.out]; exact HW2, HK2, HO2⟩
    case round =>
      obtain ⟨k, hk, hgk, rfl, HWr, HKr, HOr⟩ := hrel
      clear HW2 HK2 HO2 s1 HS2
      by_cases hlt : k < bs.length
      · have HSC : Hid (condsToD bs (k + 1) = (if k = 0 then [] else condsToD bs k ++ [44]) ++ condS (condB bs[k])) := hid (condsToD_succ bs k hlt)
        have HCL : Hid ((condsToD bs (k + 1)).length ≤ cw (bs.map condB)) := hid (condsToD_len bs (k + 1))
        have HCB : Hid (condS (condB bs[k]) = bl bs[k].1 ++ (if bs[k].2.2 then [33, 61] else [61]) ++ [34] ++ bl bs[k].2.1 ++ [34]) := hid (condS_b bs[k])
        obtain ⟨f1, f2, f3⟩ := flatCo_getW bs k
        rw [List.getElem?_eq_getElem hlt] at f1 f2 f3
        simp only [Option.map_some] at f1 f2 f3
        have r0 := own_cell HOr.out _ _ f1
        have r1 := own_cell HOr.out _ _ f2
        have r2 := own_cell HOr.out _ _ f3
        clear f1 f2 f3
        obtain ⟨⟨x, y, ng⟩, hc⟩ : ∃ c, c = bs[k] := ⟨_, rfl⟩
        rw [← hc] at r0 r1 r2 HSC HCB
        simp only at r0 r1 r2 HCB
        have hgl := own_lt HOr.out
        clear hc
        go_upto_region 7 with fail
        refine wp_gen fun W3 hW3 => ?_
        have hb3 : Below wr.heap.size wr W3 := by rw [hW3]; exact (Below.refl _ _).alloc (Nat.le_refl _) _
        have HC3 : Hid (BAt W3 wr.heap.size [.string x, .bool ng, .string y] 247) := hid (by rw [hW3]; exact Go.Deep.blk_alloc_new _ _)
        have HW3 : Hid (WB W3 B b (l ++ bl nm ++ [123] ++ condsToD bs k)) := HWr.out.below hb3
        have HK3 : Hid (WK B b w W3) := HKr.out.trans (WK.below hb3 HWr.out.le)
        have HO3 := hid (own_below HOr.out hb3)
        clear hW3 hb3 HWr HKr HOr r0 r1 r2
        have HKZ : Hid (k = 0 ∨ 0 < k) := hid (by omega)
        rcases HKZ.out with hk0 | hk0
        · have HW4 : Hid (WB W3 B b (l ++ bl nm ++ [123] ++ (if k = 0 then [] else condsToD bs k ++ [44]))) := hid (by
            rw [if_pos hk0, List.append_nil]
            have h3 := HW3.out
            rw [hk0, show condsToD bs 0 = [] from rfl, List.append_nil] at h3
            exact h3)
          have HC4 := HC3
          have HK4 := HK3
          have HO4 := HO3
          clear HW3 HC3 HK3 HO3
          have hkn : ¬ (0 : Int) < k := by omega
          go_upto_region 9 with fail
          have c0 := HC4.out.cell 0
          have c1 := HC4.out.cell 1
          have c2 := HC4.out.cell 2
          simp only [List.getElem?_cons_zero, List.getElem?_cons_succ] at c0 c1 c2
          obtain ⟨sg, hsg⟩ : ∃ sg : ByteArray, sg = (if ng then ⟨#[33, 61]⟩ else ⟨#[61]⟩) := ⟨_, rfl⟩
          have HSG : Hid (sg = (if ng then ⟨#[33, 61]⟩ else ⟨#[61]⟩)) := hsg
          have HSB : Hid (bl sg = (if ng then [33, 61] else [61])) := hid (by rw [hsg]; cases ng <;> rfl)
          have HXL : Hid (l.length + nm.size + 1 + (if k = 0 then [] else condsToD bs k ++ [44]).length + (condS (condB (x, y, ng))).length + 8 ≤ big) := hid (by
            have h1 := HLN.out
            have h2 := HCL.out
            rw [HSC.out, List.length_append] at h2
            omega)
          have hxs : x.size + sg.size + y.size + 2 ≤ 1000000 := by
            have h1 := HXL.out
            rw [HCB.out, ← HSB.out] at h1
            simp only [List.length_append, bl_length, List.length_cons, List.length_nil] at h1
            unfold big at h1
            omega
          clear hsg
          have a1 : ∀ W, (Op.stringOp .add x sg).run Tryz.prog W = .ok (.string (x ++ sg)) W := fun W => run_string_add_sum W _ _ (by omega)
          have y1 : (x ++ sg : ByteArray).size = x.size + sg.size := by rw [ByteArray.size_append]
          have a2 : ∀ W, (Op.stringOp .add (x ++ sg) ⟨#[34]⟩).run Tryz.prog W = .ok (.string ((x ++ sg) ++ ⟨#[34]⟩)) W := fun W => run_string_add_sum W _ _ (by rw [y1]; show _ + 1 ≤ _; omega)
          have y2 : ((x ++ sg) ++ ⟨#[34]⟩ : ByteArray).size = x.size + sg.size + 1 := by rw [ByteArray.size_append, y1]; rfl
          have a3 : ∀ W, (Op.stringOp .add ((x ++ sg) ++ ⟨#[34]⟩) y).run Tryz.prog W = .ok (.string (((x ++ sg) ++ ⟨#[34]⟩) ++ y)) W := fun W => run_string_add_sum W _ _ (by rw [y2]; omega)
          have y3 : (((x ++ sg) ++ ⟨#[34]⟩) ++ y : ByteArray).size = x.size + sg.size + 1 + y.size := by rw [ByteArray.size_append, y2]
          have a4 : ∀ W, (Op.stringOp .add (((x ++ sg) ++ ⟨#[34]⟩) ++ y) ⟨#[34]⟩).run Tryz.prog W = .ok (.string ((((x ++ sg) ++ ⟨#[34]⟩) ++ y) ++ ⟨#[34]⟩)) W := fun W => run_string_add_sum W _ _ (by rw [y3]; show _ + 1 ≤ _; omega)
          have HSZ : Hid (((((x ++ sg) ++ ⟨#[34]⟩) ++ y) ++ ⟨#[34]⟩ : ByteArray).size = (condS (condB (x, y, ng))).length) := hid (by
            rw [HCB.out, ← HSB.out]; simp only [List.length_append, bl_length, ByteArray.size_append]; rfl)
          have HTX : Hid (bl ((((x ++ sg) ++ ⟨#[34]⟩) ++ y) ++ ⟨#[34]⟩) = condS (condB (x, y, ng))) := hid (by
            rw [HCB.out, ← HSB.out, bl_app, bl_app, bl_app, bl_app]; rfl)
          clear y1 y2 y3 hxs
          go_region_held3 (fun w' => w'.cell? ⟨wr.heap.size, 0, none⟩ = some (.string x) ∧ w'.cell? ⟨wr.heap.size, 1, none⟩ = some (.bool ng) ∧ w'.cell? ⟨wr.heap.size, 2, none⟩ = some (.string y)) (first | exact ⟨e0, e1, e2⟩ | exact ⟨d0, d1, d2⟩ | exact ⟨c0, c1, c2⟩ | go_keep) (first
            | (go_at_call 123
               refine (csign_any x y ng _).mono ?_
               rintro e w5 ⟨rfl, hb5⟩
               rw [← HSG.out]
               have HB5 : Hid (Below W3.heap.size W3 w5) := hid ⟨hb5.os, hb5.tape, hb5.output, hb5.size, hb5.block⟩
               have HC5 := hid (HC4.out.below HB5.out)
               have d0 := HC5.out.cell 0
               have d1 := HC5.out.cell 1
               have d2 := HC5.out.cell 2
               simp only [List.getElem?_cons_zero, List.getElem?_cons_succ] at d0 d1 d2
               clear hb5)
            | (go_at_call 77
               refine (put_t (HW4.out.below HB5.out) _ (by rw [HSZ.out]; have := HXL.out; simp only [List.length_append, bl_length, List.length_cons, List.length_nil]; omega)).mono ?_
               rintro e w6 ⟨rfl, HW6, HK6'⟩
               have HC6 := hid (WK.bat (HW4.out.below HB5.out) HK6'.out HC5.out (by decide) (by decide))
               have e0 := HC6.out.cell 0
               have e1 := HC6.out.cell 1
               have e2 := HC6.out.cell 2
               simp only [List.getElem?_cons_zero, List.getElem?_cons_succ] at e0 e1 e2
               have HK6 : Hid (WK B b w w6) := HK4.out.trans ((WK.below HB5.out HW4.out.le).trans HK6'.out)
               have HO6 := hid (WK.own (HW4.out.below HB5.out) HK6'.out (own_below HO4.out HB5.out) (by decide) (by decide))
               clear HK6'))
          have HW7 : Hid (WB w6 B b (l ++ bl nm ++ [123] ++ condsToD bs (k + 1))) := hid (by
            rw [HSC.out, ← HTX.out, ← List.append_assoc]; exact HW6.out)
          go_wp2
          go_roundg (bs.length - (k + 1))
          case measure => omega
          case rel => exact ⟨k + 1, by omega, rfl, by go_num, HW7, HK6, HO6⟩
        · have HC3' := HC3
          have hkn : (0 : Int) < k := by omega
          go_wp2_with fail
          refine (put_t HW3.out ⟨#[44]⟩ (by have h1 := HLN.out; have h2 := condsToD_len bs k; simp only [List.length_append, bl_length]; show _ + 1 ≤ _; simp only [List.length_cons, List.length_nil]; omega)).mono ?_
          rintro e w4 ⟨rfl, HW4', HK4'⟩
          have HW4 : Hid (WB w4 B b (l ++ bl nm ++ [123] ++ (if k = 0 then [] else condsToD bs k ++ [44]))) := hid (by
            rw [if_neg (by omega), ← List.append_assoc]; exact HW4'.out)
          have HC4 := hid (WK.bat HW3.out HK4'.out HC3.out (by decide) (by decide))
          have HK4 : Hid (WK B b w w4) := HK3.out.trans HK4'.out
          have HO4 := hid (WK.own HW3.out HK4'.out HO3.out (by decide) (by decide))
          clear HW3 HC3 HK3 HO3 HK4' HW4' HC3'
          go_upto_region 9 with fail
          have c0 := HC4.out.cell 0
          have c1 := HC4.out.cell 1
          have c2 := HC4.out.cell 2
          simp only [List.getElem?_cons_zero, List.getElem?_cons_succ] at c0 c1 c2
          obtain ⟨sg, hsg⟩ : ∃ sg : ByteArray, sg = (if ng then ⟨#[33, 61]⟩ else ⟨#[61]⟩) := ⟨_, rfl⟩
          have HSG : Hid (sg = (if ng then ⟨#[33, 61]⟩ else ⟨#[61]⟩)) := hsg
          have HSB : Hid (bl sg = (if ng then [33, 61] else [61])) := hid (by rw [hsg]; cases ng <;> rfl)
          have HXL : Hid (l.length + nm.size + 1 + (if k = 0 then [] else condsToD bs k ++ [44]).length + (condS (condB (x, y, ng))).length + 8 ≤ big) := hid (by
            have h1 := HLN.out
            have h2 := HCL.out
            rw [HSC.out, List.length_append] at h2
            omega)
          have hxs : x.size + sg.size + y.size + 2 ≤ 1000000 := by
            have h1 := HXL.out
            rw [HCB.out, ← HSB.out] at h1
            simp only [List.length_append, bl_length, List.length_cons, List.length_nil] at h1
            unfold big at h1
            omega
          clear hsg
          have a1 : ∀ W, (Op.stringOp .add x sg).run Tryz.prog W = .ok (.string (x ++ sg)) W := fun W => run_string_add_sum W _ _ (by omega)
          have y1 : (x ++ sg : ByteArray).size = x.size + sg.size := by rw [ByteArray.size_append]
          have a2 : ∀ W, (Op.stringOp .add (x ++ sg) ⟨#[34]⟩).run Tryz.prog W = .ok (.string ((x ++ sg) ++ ⟨#[34]⟩)) W := fun W => run_string_add_sum W _ _ (by rw [y1]; show _ + 1 ≤ _; omega)
          have y2 : ((x ++ sg) ++ ⟨#[34]⟩ : ByteArray).size = x.size + sg.size + 1 := by rw [ByteArray.size_append, y1]; rfl
          have a3 : ∀ W, (Op.stringOp .add ((x ++ sg) ++ ⟨#[34]⟩) y).run Tryz.prog W = .ok (.string (((x ++ sg) ++ ⟨#[34]⟩) ++ y)) W := fun W => run_string_add_sum W _ _ (by rw [y2]; omega)
          have y3 : (((x ++ sg) ++ ⟨#[34]⟩) ++ y : ByteArray).size = x.size + sg.size + 1 + y.size := by rw [ByteArray.size_append, y2]
          have a4 : ∀ W, (Op.stringOp .add (((x ++ sg) ++ ⟨#[34]⟩) ++ y) ⟨#[34]⟩).run Tryz.prog W = .ok (.string ((((x ++ sg) ++ ⟨#[34]⟩) ++ y) ++ ⟨#[34]⟩)) W := fun W => run_string_add_sum W _ _ (by rw [y3]; show _ + 1 ≤ _; omega)
          have HSZ : Hid (((((x ++ sg) ++ ⟨#[34]⟩) ++ y) ++ ⟨#[34]⟩ : ByteArray).size = (condS (condB (x, y, ng))).length) := hid (by
            rw [HCB.out, ← HSB.out]; simp only [List.length_append, bl_length, ByteArray.size_append]; rfl)
          have HTX : Hid (bl ((((x ++ sg) ++ ⟨#[34]⟩) ++ y) ++ ⟨#[34]⟩) = condS (condB (x, y, ng))) := hid (by
            rw [HCB.out, ← HSB.out, bl_app, bl_app, bl_app, bl_app]; rfl)
          clear y1 y2 y3 hxs
          go_region_held3 (fun w' => w'.cell? ⟨wr.heap.size, 0, none⟩ = some (.string x) ∧ w'.cell? ⟨wr.heap.size, 1, none⟩ = some (.bool ng) ∧ w'.cell? ⟨wr.heap.size, 2, none⟩ = some (.string y)) (first | exact ⟨e0, e1, e2⟩ | exact ⟨d0, d1, d2⟩ | exact ⟨c0, c1, c2⟩ | go_keep) (first
            | (go_at_call 123
               refine (csign_any x y ng _).mono ?_
               rintro e w5 ⟨rfl, hb5⟩
               rw [← HSG.out]
               have HB5 : Hid (Below w4.heap.size w4 w5) := hid ⟨hb5.os, hb5.tape, hb5.output, hb5.size, hb5.block⟩
               have HC5 := hid (HC4.out.below HB5.out)
               have d0 := HC5.out.cell 0
               have d1 := HC5.out.cell 1
               have d2 := HC5.out.cell 2
               simp only [List.getElem?_cons_zero, List.getElem?_cons_succ] at d0 d1 d2
               clear hb5)
            | (go_at_call 77
               refine (put_t (HW4.out.below HB5.out) _ (by rw [HSZ.out]; have := HXL.out; simp only [List.length_append, bl_length, List.length_cons, List.length_nil]; omega)).mono ?_
               rintro e w6 ⟨rfl, HW6, HK6'⟩
               have HC6 := hid (WK.bat (HW4.out.below HB5.out) HK6'.out HC5.out (by decide) (by decide))
               have e0 := HC6.out.cell 0
               have e1 := HC6.out.cell 1
               have e2 := HC6.out.cell 2
               simp only [List.getElem?_cons_zero, List.getElem?_cons_succ] at e0 e1 e2
               have HK6 : Hid (WK B b w w6) := HK4.out.trans ((WK.below HB5.out HW4.out.le).trans HK6'.out)
               have HO6 := hid (WK.own (HW4.out.below HB5.out) HK6'.out (own_below HO4.out HB5.out) (by decide) (by decide))
               clear HK6'))
          have HW7 : Hid (WB w6 B b (l ++ bl nm ++ [123] ++ condsToD bs (k + 1))) := hid (by
            rw [HSC.out, ← HTX.out, ← List.append_assoc]; exact HW6.out)
          go_wp2
          go_roundg (bs.length - (k + 1))
          case measure => omega
          case rel => exact ⟨k + 1, by omega, rfl, by go_num, HW7, HK6, HO6⟩
      · obtain rfl : k = bs.length := by omega
        go_wp2_with fail
        refine (put_t HWr.out ⟨#[125]⟩ (by have h1 := HLN.out; have h2 := condsToD_len bs bs.length; simp only [List.length_append, bl_length, List.length_cons, List.length_nil]; show _ + 1 ≤ _; omega)).mono ?_
        rintro e w8 ⟨rfl, HW8, HK8'⟩
        have HK8 : Hid (WK B b w w8) := HKr.out.trans HK8'.out
        have HW9 : Hid (WB w8 B b (l ++ selS a)) := hid (by rw [HE.out]; have := HW8.out; simp only [List.append_assoc] at this ⊢; exact this)
        clear HK8' HW8
        go_wp2
        go_end0
        exact ⟨rfl, HW9, HK8⟩
end Go.Proofs.YtpbemaaghbbocaaGreatDoor
