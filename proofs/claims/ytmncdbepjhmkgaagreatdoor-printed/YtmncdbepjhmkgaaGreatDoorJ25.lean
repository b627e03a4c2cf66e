/- Parts of the proof, joined: QPrint, DLex, DTok -/
import Derived.Test.YtmncdbepjhmkgaaGreatDoorJ24
import Derived.Test.YtmncdbepjhmkgaaGreatDoorJ21
import Derived.Test.YtmncdbepjhmkgaaGreatDoorJ22
import Derived.Test.YtmncdbepjhmkgaaGreatDoorJ02
import Derived.Test.YtmncdbepjhmkgaaGreatDoorJ07
/- The document's Print: what the plain reading and the plain printing say. -/
namespace Go.Proofs.YtmncdbepjhmkgaaGreatDoor
open Go.RowKit LS

theorem printed_any {b : Nat} {pv : Value} {n : Nat} {xs : List Value} : ∀ t : Tr, wfT t → wT t ≤ 100000 → isNil t = false → PrC b pv n xs t
  | .nil, _, _, h => by cases h
  | .node x y nd l r, hwf, hwt, _ => by
    have hw : ownW nd + wT l + wT r ≤ 100000 := hwt
    have ihl : isNil l = false → PrC b pv n xs l := fun h => printed_any l hwf.2.2.2.2.2.2.2.2.2.2.1 (by omega) h
    have ihr : isNil r = false → PrC b pv n xs r := fun h => printed_any r hwf.2.2.2.2.2.2.2.2.2.2.2 (by omega) h
    have hk : nd.kind ≤ 6 := hwf.1
    rcases (by omega : nd.kind = 0 ∨ nd.kind = 1 ∨ nd.kind = 2 ∨ nd.kind = 3 ∨ nd.kind = 4 ∨ nd.kind = 5 ∨ nd.kind = 6) with h | h | h | h | h | h | h
    · exact pr_num hwf hwt ihl ihr h
    · exact pr_sel hwf hwt ihl ihr h
    · exact pr_win hwf hwt ihl ihr h
    · exact pr_neg hwf hwt ihl ihr h
    · exact pr_arith hwf hwt ihl ihr h
    · exact pr_group hwf hwt ihl ihr h
    · exact pr_or hwf hwt ihl ihr h
theorem root_any {w : World} {b : Nat} {av : Option Addr} {cp : Nat} {n : Nat} (h : w.cell? ⟨b, 0, none⟩ = some (.slice av (n + 1 : Nat) cp)) (hn : n + 1 ≤ 301) :
    Calls Tryz.prog 14 #[.pointer (some ⟨b, 0, none⟩)] w fun e w' => e = .returned (.int .i64 n) ∧ w' = w := by
  go_enter Tryz.func14, Tryz.ntmps14
  go_wp2
  go_ret
  exact ⟨ret_int (by omega), rfl⟩
/-- the text, the error, the place. -/
def printQ (l : List UInt8) : List UInt8 × Nat × Nat := match readQ l with
  | .error x => ([], x.1, x.2)
  | .ok t => (printT t 1, 0, 0)
set_option maxRecDepth 100000 in
set_option maxHeartbeats 4000000 in
theorem qPrint_any (s : ByteArray) (w : World) (hlim : s.size ≤ 9223372036854775807) :
    Calls Tryz.prog 6 #[.string s] w fun e w' => ∃ (r : ByteArray) (c p : Nat), e = .returned (.tuple #[.string r, .int .i64 c, .int .i64 p]) ∧ Hid (printQ (bl s) = (bl r, c, p)) ∧ Below w.heap.size w w' := by
  have HR : Hid (Calls Tryz.prog 12 #[.string s] w _) := read_any s w hlim
  go_enter Tryz.func6, Tryz.ntmps6
  go_wp2_with fail
  refine HR.out.mono ?_
  rintro e w1 ⟨⟨v, c, p, rfl, hres⟩, hb⟩
  have HB1 : Hid (Below w.heap.size w w1) := hb
  clear hb HR
  cases hq : readQ (bl s) with
  | error x =>
    obtain ⟨rfl, rfl, hc0, rfl⟩ := hres.out.1 x hq
    have HQ : Hid (printQ (bl s) = ([], x.1, x.2)) := hid (by unfold printQ; rw [hq])
    have hc : ((x.1 : Int) != 0) = true := by rw [bne_iff_ne]; omega
    clear hres hq
    go_wp2
    go_ret3
    exact ⟨_, _, _, rfl, HQ, HB1.out⟩
  | ok t =>
    obtain ⟨rfl, rfl, b, rfl, hbl, pv, n, xs, hrow, hn, hrep, hwf, hnil, hwt⟩ := hres.out.2 t hq
    have HQ : Hid (printQ (bl s) = (printT t 1, 0, 0)) := hid (by unfold printQ; rw [hq])
    obtain ⟨av, cp, rfl⟩ := own_shape hrow.own
    have hcell := hrow.cell
    have HPR : Hid (Calls Tryz.prog 13 #[.pointer (some ⟨b, 0, none⟩), .int .i64 n, .int .i64 1] w1 _) := printed_any t hwf hwt hnil n 1 w1 hrow hrep (by decide)
    clear hres hq hrow hrep hwf hnil hwt
    go_wp2_with (go_at_call 14; refine (root_any hcell hn).mono ?_; rintro e w' ⟨rfl, rfl⟩)
    refine HPR.out.mono ?_
    rintro e w2 ⟨r, rfl, _, hr, hb2⟩
    have HB2 : Hid (Below w.heap.size w w2) := HB1.out.trans (hb2.mono HB1.out.size)
    clear hb2 HPR
    go_wp2
    go_ret3
    exact ⟨r, 0, 0, rfl, hid (by rw [HQ.out, hr.out]), HB2.out⟩
end Go.Proofs.YtmncdbepjhmkgaaGreatDoor
/- The program's lexer: runs of letters and digits. -/
namespace Go.Proofs.YtmncdbepjhmkgaaGreatDoor
open Go.RowKit LS

theorem run_cons {p : UInt8 → Bool} (s : ByteArray) (k : Nat) (h : k < s.size) (hp : p s[k] = true) : run p ((bl s).drop k) = run p ((bl s).drop (k + 1)) + 1 := by
  rw [drop_cons s k h, run, if_pos hp]
theorem run_stop {p : UInt8 → Bool} (s : ByteArray) (k : Nat) (h : k < s.size) (hp : p s[k] = false) : run p ((bl s).drop k) = 0 := by
  rw [drop_cons s k h, run, if_neg (by rw [hp]; exact Bool.false_ne_true)]
theorem run_end {p : UInt8 → Bool} (s : ByteArray) (k : Nat) (h : ¬ k < s.size) : run p ((bl s).drop k) = 0 := by
  rw [List.drop_of_length_le (by rw [bl_length]; omega)]; rfl
set_option maxHeartbeats 1000000 in
theorem runDigits_any (s : ByteArray) (k : Nat) (w : World) (hs : s.size ≤ 6000) (hk : k ≤ s.size) :
    Calls Tryz.prog 34 #[.string s, .int .i64 k, .func (.func 33) #[] #[]] w fun e w' => e = .returned (.int .i64 ((k + run digit ((bl s).drop k) : Nat) : Int)) ∧ w' = w := by
  obtain ⟨E, hE⟩ : ∃ E, E = k + run digit ((bl s).drop k) := ⟨_, rfl⟩
  rw [← hE]
  have HE : Hid (E = k + run digit ((bl s).drop k)) := hE
  clear hE
  go_enter Tryz.func34, Tryz.ntmps34
  go_wp2
  go_loop [1] (fun i => ∃ j : Nat, j ≤ s.size ∧ i = .int .i64 j ∧ Hid (E = j + run digit ((bl s).drop j))) (fun i => s.size - (intOf i).toNat)
  case atStart => exact ⟨k, hk, rfl, HE⟩
  case round =>
    obtain ⟨j, hj, rfl, HJ⟩ := hrel
    clear HE
    by_cases hlt : j < s.size
    · cases hd : digit s[j]
      · have HF : Hid (E = j) := hid (by rw [HJ.out, run_stop s j hlt hd]; rfl)
        go_wp2_with (go_at_call 33; refine (isDigit_any _ _).mono ?_; rintro e w' ⟨rfl, rfl⟩)
        go_ret
        exact ⟨by rw [HF.out]; rfl, rfl⟩
      · have HF : Hid (E = (j + 1) + run digit ((bl s).drop (j + 1))) := hid (by rw [HJ.out, run_cons s j hlt hd]; omega)
        go_wp2_with (go_at_call 33; refine (isDigit_any _ _).mono ?_; rintro e w' ⟨rfl, rfl⟩)
        go_round
        case rel => exact ⟨j + 1, by omega, by go_num, HF⟩
        case measure => simp [intOf]; omega
    · have HF : Hid (E = j) := hid (by rw [HJ.out, run_end s j hlt]; rfl)
      go_wp2
      go_ret
      exact ⟨by rw [HF.out]; rfl, rfl⟩
set_option maxHeartbeats 1000000 in
theorem runLetters_any (s : ByteArray) (k : Nat) (w : World) (hs : s.size ≤ 6000) (hk : k ≤ s.size) :
    Calls Tryz.prog 34 #[.string s, .int .i64 k, .func (.func 36) #[] #[]] w fun e w' => e = .returned (.int .i64 ((k + run letter ((bl s).drop k) : Nat) : Int)) ∧ w' = w := by
  obtain ⟨E, hE⟩ : ∃ E, E = k + run letter ((bl s).drop k) := ⟨_, rfl⟩
  rw [← hE]
  have HE : Hid (E = k + run letter ((bl s).drop k)) := hE
  clear hE
  go_enter Tryz.func34, Tryz.ntmps34
  go_wp2
  go_loop [1] (fun i => ∃ j : Nat, j ≤ s.size ∧ i = .int .i64 j ∧ Hid (E = j + run letter ((bl s).drop j))) (fun i => s.size - (intOf i).toNat)
  case atStart => exact ⟨k, hk, rfl, HE⟩
  case round =>
    obtain ⟨j, hj, rfl, HJ⟩ := hrel
    clear HE
    by_cases hlt : j < s.size
    · cases hd : letter s[j]
      · have HF : Hid (E = j) := hid (by rw [HJ.out, run_stop s j hlt hd]; rfl)
        go_wp2_with (go_at_call 36; refine (isLetter_any _ _).mono ?_; rintro e w' ⟨rfl, rfl⟩)
        go_ret
        exact ⟨by rw [HF.out]; rfl, rfl⟩
      · have HF : Hid (E = (j + 1) + run letter ((bl s).drop (j + 1))) := hid (by rw [HJ.out, run_cons s j hlt hd]; omega)
        go_wp2_with (go_at_call 36; refine (isLetter_any _ _).mono ?_; rintro e w' ⟨rfl, rfl⟩)
        go_round
        case rel => exact ⟨j + 1, by omega, by go_num, HF⟩
        case measure => simp [intOf]; omega
    · have HF : Hid (E = j) := hid (by rw [HJ.out, run_end s j hlt]; rfl)
      go_wp2
      go_ret
      exact ⟨by rw [HF.out]; rfl, rfl⟩
end Go.Proofs.YtmncdbepjhmkgaaGreatDoor
/- The program's tokens and its reader: which token is at hand. -/
namespace Go.Proofs.YtmncdbepjhmkgaaGreatDoor
open Go.RowKit LS

structure PTok where
  kd : Nat
  at_ : Nat
  tx : ByteArray
  v : Nat
def flatT : List PTok → List Value
  | [] => []
  | t :: l => .int .i64 t.kd :: .int .i64 t.at_ :: .string t.tx :: .int .i64 t.v :: flatT l
theorem flatT_append (l m : List PTok) : flatT (l ++ m) = flatT l ++ flatT m := by
  induction l with
  | nil => rfl
  | cons a l ih => simp [flatT, ih]
theorem flatT_get (l : List PTok) (j : Nat) : (flatT l)[j * 4]? = l[j]?.map (fun t => .int .i64 t.kd) ∧ (flatT l)[j * 4 + 1]? = l[j]?.map (fun t => .int .i64 t.at_) ∧ (flatT l)[j * 4 + 2]? = l[j]?.map (fun t => .string t.tx) ∧ (flatT l)[j * 4 + 3]? = l[j]?.map (fun t => .int .i64 t.v) := by
  induction l generalizing j with
  | nil => simp [flatT]
  | cons r l ih =>
    cases j with
    | zero => simp [flatT]
    | succ j =>
      obtain ⟨h1, h2, h3, h4⟩ := ih j
      refine ⟨?_, ?_, ?_, ?_⟩
      · rw [show (j + 1) * 4 = j * 4 + 1 + 1 + 1 + 1 by omega]; simpa [flatT] using h1
      · rw [show (j + 1) * 4 + 1 = j * 4 + 1 + 1 + 1 + 1 + 1 by omega]; simpa [flatT] using h2
      · rw [show (j + 1) * 4 + 2 = j * 4 + 2 + 1 + 1 + 1 + 1 by omega]; simpa [flatT] using h3
      · rw [show (j + 1) * 4 + 3 = j * 4 + 3 + 1 + 1 + 1 + 1 by omega]; simpa [flatT] using h4
/-- The program's number for a kind of token. -/
def pk (k : Nat) : Nat := if k = 0 then 4 else if k = 1 then 0 else if k = 2 then 1 else if k = 3 then 2 else if k = 4 then 3 else 5
def TokIs (p : PTok) (t : Tok) : Prop := p.kd = pk t.kind ∧ p.at_ = t.at_ ∧ bl p.tx = t.txt ∧ (t.kind = 1 → (p.v : Int) = numV t.txt)
/-- The program's reader in block b, at token k of ps. -/
structure RD (w : World) (b g cp : Nat) (ps : List PTok) (k : Nat) : Prop where
  cells : w.heap[b]? = some (.cells #[.slice (some ⟨g, 0, none⟩) ps.length cp, .int .i64 k] 47 (0, 0))
  own : w.ownsRow 0 52 4 (.slice (some ⟨g, 0, none⟩) ps.length cp) ps.length (flatT ps)
  lt : k < ps.length
theorem RD.below {w w' : World} {b g cp : Nat} {ps : List PTok} {k : Nat} (h : RD w b g cp ps k) (hb : Below w.heap.size w w') : RD w' b g cp ps k :=
  ⟨(hb.block b (Array.getElem?_eq_some_iff.1 h.cells).1).trans h.cells, own_below h.own hb, h.lt⟩
theorem RD.all {w : World} {b g cp : Nat} {ps : List PTok} {k : Nat} (h : RD w b g cp ps k) :
    w.cell? ⟨b, 0, none⟩ = some (.slice (some ⟨g, 0, none⟩) ps.length cp) ∧ w.cell? ⟨b, 1, none⟩ = some (.int .i64 k) ∧ w.frozen? ⟨b, 1, none⟩ = false ∧ b < w.heap.size ∧ g < w.heap.size ∧
    w.cell? ⟨g, k * 4, none⟩ = some (.int .i64 (ps[k]'h.lt).kd) ∧ w.cell? ⟨g, k * 4 + 1, none⟩ = some (.int .i64 (ps[k]'h.lt).at_) ∧ w.cell? ⟨g, k * 4 + 2, none⟩ = some (.string (ps[k]'h.lt).tx) ∧ w.cell? ⟨g, k * 4 + 3, none⟩ = some (.int .i64 (ps[k]'h.lt).v) := by
  obtain ⟨f1, f2, f3, f4⟩ := flatT_get ps k
  rw [List.getElem?_eq_getElem h.lt] at f1 f2 f3 f4
  refine ⟨by simp [World.cell?, h.cells], by simp [World.cell?, h.cells], by simp [World.frozen?, h.cells], (Array.getElem?_eq_some_iff.1 h.cells).1, own_lt h.own, own_cell h.own _ _ f1, own_cell h.own _ _ f2, own_cell h.own _ _ f3, own_cell h.own _ _ f4⟩
set_option maxRecDepth 100000 in
set_option maxHeartbeats 1000000 in
theorem token_any {w : World} {b g cp : Nat} {ps : List PTok} {k : Nat} (h : RD w b g cp ps k) :
    Calls Tryz.prog 17 #[.pointer (some ⟨b, 0, none⟩)] w fun e w' => e = .returned (.agg #[.int .i64 (ps[k]'h.lt).kd, .int .i64 (ps[k]'h.lt).at_, .string (ps[k]'h.lt).tx, .int .i64 (ps[k]'h.lt).v]) ∧ Below w.heap.size w w' := by
  obtain ⟨c0, c1, _, hbl, hgl, d0, d1, d2, d3⟩ := h.all
  have hlt := h.lt
  generalize ps[k]'h.lt = t at *
  obtain ⟨kd, at_, tx, v⟩ := t
  simp only at d0 d1 d2 d3 ⊢
  generalize ps.length = n at *
  clear h
  go_enter Tryz.func17, Tryz.ntmps17
  go_wp2
  go_region
  all_goals
    go_wp2
    exact bodyPost_ret (v := .agg #[.int .i64 kd, .int .i64 at_, .string tx, .int .i64 v]) (by simp [results, Tryz.results17, go_sem]) rfl ⟨rfl, (by repeat (first | exact Below.refl _ _ | assumption | refine Below.alloc ?_ (by first | omega | (simp; omega) | simp) _ | refine Below.setCell ?_ (by first | omega | (simp; omega) | simp) _ | refine below_drewN' ?_ _ | refine Below.drew ?_))⟩
theorem isMark_any (t : PTok) (s : ByteArray) (w : World) :
    Calls Tryz.prog 66 #[.agg #[.int .i64 t.kd, .int .i64 t.at_, .string t.tx, .int .i64 t.v], .string s] w fun e w' => e = .returned (.bool (((t.kd : Int) == 3) && (t.tx.toList == s.toList))) ∧ Below w.heap.size w w' := by
  obtain ⟨kd, at_, tx, v⟩ := t
  simp only
  generalize hk : ((kd : Int) == 3) = x
  cases x
  · go_enter Tryz.func66, Tryz.ntmps66
    go_wp2
    go_ret
    exact ⟨rfl, (by repeat (first | exact Below.refl _ _ | assumption | refine Below.alloc ?_ (by first | omega | (simp; omega) | simp) _ | refine Below.setCell ?_ (by first | omega | (simp; omega) | simp) _ | refine below_drewN' ?_ _ | refine Below.drew ?_))⟩
  · go_enter Tryz.func66, Tryz.ntmps66
    go_wp2
    go_ret
    exact ⟨rfl, (by repeat (first | exact Below.refl _ _ | assumption | refine Below.alloc ?_ (by first | omega | (simp; omega) | simp) _ | refine Below.setCell ?_ (by first | omega | (simp; omega) | simp) _ | refine below_drewN' ?_ _ | refine Below.drew ?_))⟩
theorem isWord_any (t : PTok) (s : ByteArray) (w : World) :
    Calls Tryz.prog 73 #[.agg #[.int .i64 t.kd, .int .i64 t.at_, .string t.tx, .int .i64 t.v], .string s] w fun e w' => e = .returned (.bool (((t.kd : Int) == 1) && (t.tx.toList == s.toList))) ∧ Below w.heap.size w w' := by
  obtain ⟨kd, at_, tx, v⟩ := t
  simp only
  generalize hk : ((kd : Int) == 1) = x
  cases x
  · go_enter Tryz.func73, Tryz.ntmps73
    go_wp2
    go_ret
    exact ⟨rfl, (by repeat (first | exact Below.refl _ _ | assumption | refine Below.alloc ?_ (by first | omega | (simp; omega) | simp) _ | refine Below.setCell ?_ (by first | omega | (simp; omega) | simp) _ | refine below_drewN' ?_ _ | refine Below.drew ?_))⟩
  · go_enter Tryz.func73, Tryz.ntmps73
    go_wp2
    go_ret
    exact ⟨rfl, (by repeat (first | exact Below.refl _ _ | assumption | refine Below.alloc ?_ (by first | omega | (simp; omega) | simp) _ | refine Below.setCell ?_ (by first | omega | (simp; omega) | simp) _ | refine below_drewN' ?_ _ | refine Below.drew ?_))⟩
/-- An error that tells a byte's place. -/
def ErrAt (w : World) (v : Value) (at_ : Int) (what : Addr) : Prop := ∃ fa : Nat, v = .iface 59 (.pointer (some ⟨fa, 0, none⟩)) ∧ w.heap[fa]? = some (.cells #[.string ⟨#[98, 121, 116, 101]⟩, .int .i64 at_, .iface 198 (.pointer (some what))] 63 (0, 0))
theorem ErrAt.below {w w' : World} {v : Value} {at_ : Int} {what : Addr} (h : ErrAt w v at_ what) (hb : Below w.heap.size w w') : ErrAt w' v at_ what := by
  obtain ⟨fa, h1, h2⟩ := h
  exact ⟨fa, h1, (hb.block fa (Array.getElem?_eq_some_iff.1 h2).1).trans h2⟩
theorem atByte_any (i : Int) (what : Value) (w : World) :
    Calls Tryz.prog 43 #[.int .i64 i, .iface 198 what] w fun e w' => e = .returned (.iface 59 (.pointer (some ⟨w.heap.size, 0, none⟩))) ∧ w' = w.alloc (.cells #[.string ⟨#[98, 121, 116, 101]⟩, .int .i64 i, .iface 198 what] 63) := by
  go_enter Tryz.func43, Tryz.ntmps43
  go_wp2
  go_ret
  exact ⟨rfl, rfl⟩
set_option maxRecDepth 100000 in
set_option maxHeartbeats 1000000 in
theorem cannotStand_any {w : World} {b g cp : Nat} {ps : List PTok} {k : Nat} (h : RD w b g cp ps k) {sy : Addr} (hsy : w.cell? ⟨1, 0, none⟩ = some (.iface 198 (.pointer (some sy)))) :
    Calls Tryz.prog 18 #[.pointer (some ⟨b, 0, none⟩)] w fun e w' => ∃ v, e = .returned v ∧ Hid (ErrAt w' v (ps[k]'h.lt).at_ sy) ∧ Below w.heap.size w w' := by
  have H : Hid (RD w b g cp ps k) := h
  have HD : Hid (RD w.drew b g cp ps k) := RD.below h ((Below.refl _ _).drew)
  have hgl : 1 < w.heap.size := World.block_lt_of_cell? _ _ hsy
  obtain ⟨t, ht⟩ : ∃ t, t = ps[k]'h.lt := ⟨_, rfl⟩
  have HT : Hid (∀ hh : k < ps.length, ps[k]'hh = t) := fun _ => ht.symm
  rw [← ht]
  clear ht h
  have hf : ∀ W : World, (Instr.field 52 (.agg #[.int .i64 t.kd, .int .i64 t.at_, .string t.tx, .int .i64 t.v]) 1).run Tryz.prog W = .ok (.int .i64 t.at_) W := fun _ => rfl
  go_enter Tryz.func18, Tryz.ntmps18
  go_wp2
  go_region_with (first
    | (go_at_call 17
       refine (token_any HD.out).mono ?_
       rintro e w1 ⟨rfl, hb1⟩
       rw [HT.out]
       have HB1 : Hid (Below w.heap.size w w1) := ⟨hb1.os, hb1.tape, hb1.output, hb1.size, hb1.block⟩
       have hsy1 : w1.cell? ⟨1, 0, none⟩ = some (.iface 198 (.pointer (some sy))) := (HB1.out.cell (p := ⟨_, 0, none⟩) hgl).trans hsy
       clear hb1)
    | (go_at_call 43
       refine (atByte_any _ _ _).mono ?_
       rintro e w2 ⟨rfl, rfl⟩))
  all_goals
    go_wp2
    go_ret
    exact ⟨_, rfl, ⟨w1.heap.size, rfl, Go.Deep.blk_alloc_new _ _⟩, HB1.out.alloc HB1.out.size _⟩
end Go.Proofs.YtmncdbepjhmkgaaGreatDoor
