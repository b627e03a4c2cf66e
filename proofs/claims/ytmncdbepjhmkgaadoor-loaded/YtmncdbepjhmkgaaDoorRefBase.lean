/- The document's own splitting and seeking, in the forms that the walks take. -/
import Derived.Test.YtmncdbepjhmkgaaDoorRefSplit
namespace Go.Proofs.YtmncdbepjhmkgaaDoor
open Go.RowKit LS

theorem cut_seek {c : UInt8} {l : List UInt8} {p : Nat} (h : LS.seek c l = some p) : cut c l = some (l.take p, l.drop (p + 1)) := by unfold cut; rw [h]; rfl
theorem cut_seek_none {c : UInt8} {l : List UInt8} (h : LS.seek c l = none) : cut c l = none := by unfold cut; rw [h]; rfl
theorem seek_some_any {s : ByteArray} {c : UInt8} {p : Nat} (ci : Int) (w : World) (hci : ci = c.toNat) (hs : s.size ≤ 6000) (h : LS.seek c (bl s) = some p) :
    Calls Tryd.prog 20 #[.string s, .int .u8 ci] w fun e w' => e = .returned (.int .i64 p) ∧ w' = w := by
  subst hci
  have := seek_any s c w hs
  rwa [seekI_some h] at this
theorem seek_none_any {s : ByteArray} {c : UInt8} (ci : Int) (w : World) (hci : ci = c.toNat) (hs : s.size ≤ 6000) (h : LS.seek c (bl s) = none) :
    Calls Tryd.prog 20 #[.string s, .int .u8 ci] w fun e w' => e = .returned (.int .i64 (-1)) ∧ w' = w := by
  subst hci
  have := seek_any s c w hs
  rwa [seekI_none h] at this
theorem rIsWord_of {s : ByteArray} {b : Bool} (w : World) (hs : s.size ≤ 6000) (h : isWord (bl s) = b) :
    Calls Tryd.prog 35 #[.string s] w fun e w' => e = .returned (.bool b) ∧ w' = w := by
  have := rIsWord_any s w hs; rwa [h] at this
theorem rSplit_of (s : ByteArray) (c : UInt8) (ci : Int) (w : World) (hci : ci = c.toNat) (hs : s.size ≤ 6000) :
    Calls Tryd.prog 11 #[.string s, .int .u8 ci] w fun e w' => ∃ (g n cp : Nat) (bs : List ByteArray), e = .returned (.slice (some ⟨g, 0, none⟩) n cp) ∧
      n = bs.length ∧ w.heap.size ≤ g ∧ g < w'.heap.size ∧ Hid (∀ i (h : i < bs.length), w'.cell? ⟨g, i, none⟩ = some (.string bs[i])) ∧ Hid (bs.map bl = split c (bl s)) ∧ Below w.heap.size w w' := by
  subst hci
  refine (rSplit_any s c w hs).mono ?_
  rintro e w' ⟨v, bs, rfl, hown, hsp, hb⟩
  have hpos : 0 < bs.length := by
    have : bs.length = (split c (bl s)).length := by rw [← hsp.out, List.length_map]
    rw [this]; exact List.length_pos_iff.2 (split_ne c (bl s))
  obtain ⟨g, cp, rfl⟩ := own_some hown hpos
  refine ⟨g, bs.length, cp, bs, rfl, rfl, (hown.lt g rfl).1, own_lt hown, fun i hi => own_cell hown i _ (by simp [hi]), hsp, hb⟩
theorem map_bl_get {bs : List ByteArray} {ps : List (List UInt8)} (h : bs.map bl = ps) (i : Nat) (hi : i < bs.length) : bl bs[i] = ps.getD i [] := by
  subst h; simp [hi]
theorem numI_bounds (most : Nat) (l : List UInt8) : -1 ≤ numI most l ∧ numI most l ≤ most := by
  cases h : number most l with
  | none => rw [numI_none h]; omega
  | some v => rw [numI_some h]; have := number_le h; omega
theorem rNumber_of {s : ByteArray} (most : Nat) (mi : Int) (w : World) (hmi : mi = most) (hs : s.size ≤ 6000) (hm : most ≤ 1000000000) :
    Calls Tryd.prog 36 #[.string s, .int .i64 mi] w fun e w' => e = .returned (.int .i64 (numI most (bl s))) ∧ w' = w := by
  subst hmi; exact rNumber_any s most w hs hm
theorem number_of_numI {most : Nat} {l : List UInt8} {t : Int} (h : numI most l = t) (ht : 0 ≤ t) : number most l = some t.toNat := by
  cases hn : number most l with
  | none => rw [numI_none hn] at h; omega
  | some v => rw [numI_some hn] at h; subst h; rfl
theorem number_none_of {most : Nat} {l : List UInt8} {t : Int} (h : numI most l = t) (ht : t < 0) : number most l = none := by
  cases hn : number most l with
  | none => rfl
  | some v => rw [numI_some hn] at h; omega
end Go.Proofs.YtmncdbepjhmkgaaDoor
