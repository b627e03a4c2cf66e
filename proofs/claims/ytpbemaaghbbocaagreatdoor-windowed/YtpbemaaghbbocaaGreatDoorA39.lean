/- Parts. -/
import Derived.Test.YtpbemaaghbbocaaGreatDoorA38
import Derived.Test.YtpbemaaghbbocaaGreatDoorA37
import Derived.Test.YtpbemaaghbbocaaGreatDoorA36
import Derived.Test.YtpbemaaghbbocaaGreatDoorA16
namespace Go.Proofs.YtpbemaaghbbocaaGreatDoor
open Go.RowKit LS
theorem samplesAcc_tm : ∀ (xs : List (List UInt8)) (last : Int) (n m : Nat), samplesAcc last n xs = some m → (∀ x ∈ xs.map smV, last < x.1) ∧ TmS (xs.map smV) ∧ m = n + xs.length
  | [], last, n, m, h => by
    simp only [samplesAcc, Option.some.injEq] at h
    exact ⟨(fun x hx => by cases hx), List.Pairwise.nil, by simp [h]⟩
  | x :: xs, last, n, m, h => by
    unfold samplesAcc at h
    cases hs : sample x with
    | none => rw [hs] at h; cases h
    | some t =>
      rw [hs] at h
      simp only at h
      split at h
      · cases h
      · rename_i hlt
        obtain ⟨i1, i2, i3⟩ := samplesAcc_tm xs t (n + 1) m h
        have hx1 : (smV x).1 = (t : Int) := by
          unfold sample at hs
          unfold smV
          cases hc : cut 58 x with
          | none => rw [hc] at hs; cases hs
          | some p =>
            obtain ⟨a, d⟩ := p
            rw [hc] at hs
            simp only at hs ⊢
            cases hn : number 1000000 a with
            | none => rw [hn] at hs; cases hs
            | some tm =>
              rw [hn] at hs
              simp only at hs
              split at hs
              · rw [numI_some hn]; injection hs with hs; rw [hs]
              · cases hs
        refine ⟨fun y hy => ?_, ?_, by simp; omega⟩
        · rcases List.mem_cons.1 hy with rfl | hy
          · rw [hx1]; omega
          · have := i1 y hy; omega
        · exact List.pairwise_cons.2 ⟨fun y hy => by rw [hx1]; exact i1 y hy, i2⟩
theorem samples_tm {z : List UInt8} {n : Nat} (h : samples z = some n) : TmS (samsL z) ∧ (samsL z).length = n := by
  unfold samples at h
  cases z with
  | nil => simp at h; exact ⟨List.Pairwise.nil, by simp [samsL, h]⟩
  | cons c t =>
    by_cases hc : (c == 32) = true
    · have hs : strip 32 (c :: t) = (t, true) := if_pos hc
      rw [hs] at h
      simp only [reduceCtorEq, if_false, if_true] at h
      obtain ⟨_, h2, h3⟩ := samplesAcc_tm _ _ _ _ h
      exact ⟨h2, by simp [samsL, h3]⟩
    · have hs : strip 32 (c :: t) = (c :: t, false) := if_neg hc
      rw [hs] at h
      simp at h
theorem line_inv {l nm ins : List UInt8} {n : Nat} (h : line l = some (nm, ins, n)) : isName nm = true ∧ (labels ins).isSome = true ∧ TmS (sams1 l) ∧ (sams1 l).length = n := by
  cases hc : cut 123 l with
  | none => rw [line_noopen hc] at h; cases h
  | some p =>
    obtain ⟨x, r⟩ := p
    cases hc2 : cut 125 r with
    | none => rw [line_noclose hc hc2] at h; cases h
    | some q =>
      obtain ⟨y, z⟩ := q
      rw [line_of hc hc2] at h
      split at h
      · rename_i hb
        rw [Bool.and_eq_true] at hb
        cases hs : samples z with
        | none => rw [hs] at h; cases h
        | some k =>
          rw [hs] at h
          simp only [Option.map_some, Option.some.injEq, Prod.mk.injEq] at h
          obtain ⟨rfl, rfl, rfl⟩ := h
          have := samples_tm hs
          rw [sams1_of hb.1 hc hc2]
          exact ⟨hb.1, hb.2, this⟩
      · cases h
theorem samV_own {w : World} {sa : Option Addr} {sc n : Nat} {l : List (Int × Int)} (h : w.ownsRow 0 313 2 (.slice sa n sc) n (flatP l)) (hn : l.length = n) : SamV w sa l ∧ n ≤ sc := by
  by_cases hz : l = []
  · subst hz
    refine ⟨Or.inl rfl, ?_⟩
    rw [← hn]; exact Nat.zero_le _
  · have hp : 0 < n := by rw [← hn]; exact List.length_pos_iff.2 hz
    rcases h.2 with ⟨_, e⟩ | ⟨g, cap, cur, e, _, h3, h4, _, _, h7⟩
    · omega
    · injection e with e1 _ e3
      subst e1 e3
      refine ⟨Or.inr ⟨g, 0, rfl, cur, (0, 0), h3, fun j hj => ?_⟩, h4⟩
      have hg := flatP_get l j
      rw [List.getElem?_eq_getElem hj] at hg
      have hc : ∀ i, i < n * 2 → cur[i]? = (flatP l)[i]? := fun i hi => by
        rw [← h7, List.getElem?_take, if_pos hi, Array.getElem?_toList]
      rw [Nat.zero_add, hc _ (by omega), hc _ (by omega)]
      exact hg
theorem encS_of (zs : List Srs) (rs : List (Value × Value × Value × Value)) (hl : rs.length = zs.length) (h : ∀ j (hj : j < zs.length), rs[j]? = some (.string zs[j].nm, .slice zs[j].a zs[j].n zs[j].c, .string zs[j].tx, .slice zs[j].sa zs[j].sams.length zs[j].sc)) : encS zs = flat4 rs := by
  induction zs generalizing rs with
  | nil => cases rs with
    | nil => rfl
    | cons _ _ => simp at hl
  | cons z zs ih =>
    cases rs with
    | nil => simp at hl
    | cons r rs =>
      have h0 := h 0 (by simp)
      simp only [List.getElem?_cons_zero, List.getElem_cons_zero, Option.some.injEq] at h0
      subst h0
      rw [flat4, ← ih rs (by simpa using hl) (fun j hj => by have := h (j + 1) (by simp; omega); simpa using this)]
      rfl
theorem flat4_len (rs : List (Value × Value × Value × Value)) : (flat4 rs).length = rs.length * 4 := by
  induction rs with
  | nil => rfl
  | cons r rs ih => simp only [flat4, List.length_cons, ih]; omega
theorem load_zero {l : List UInt8} {es : List Entry} (h : (loadRes l).1 = 0) (he : linesAcc 0 [] (split 10 l) = .inr es) : dupFrom [] es = none ∧ l.length ≤ 6000 := by
  unfold loadRes at h
  split at h
  · cases h
  · rename_i h6
    rw [he] at h
    simp only at h
    rw [twice_eq he] at h
    cases hd : dupFrom [] es with
    | none => exact ⟨rfl, by omega⟩
    | some i => rw [hd] at h; cases h
theorem ReadV.sto {w : World} {v : Value} {l : List UInt8} (h0 : (loadRes l).1 = 0) (h : ReadV w v l) : ∃ ss : List Srs, StoP w v ss ∧ ss.map Srs.ser = storeS l ∧ Dst (ss.map Srs.ser) ∧ ss.length ≤ 30 := by
  obtain ⟨es, rs, h1, h2, h3, h5⟩ := h
  obtain ⟨hd, hll⟩ := load_zero h0 h1
  have h7 : ∀ j (hj : j < es.length), (es[j]).count ≤ 6001 := fun j hj => (linesAcc_bounds h1 (by simp) (fun p hp => by
    obtain ⟨i, hi, rfl⟩ := List.mem_iff_getElem.1 hp
    have := split_getD_le 10 l i hi
    rw [List.getD_eq_getElem?_getD, List.getElem?_eq_getElem hi, Option.getD_some] at this
    omega)).2 _ (List.getElem_mem hj)
  have hrl : rs.length = es.length := by have := h3.1; rw [flat4_len] at this; omega
  have hch := choose_list (fun j (z : Srs) => ∃ hj : j < es.length, rs[j]? = some (.string z.nm, .slice z.a z.n z.c, .string z.tx, .slice z.sa z.sams.length z.sc) ∧ z.ser = serE (split 10 l) es[j] ∧ SrsOk w z) es.length (fun j hj => by
    obtain ⟨nm, a, n, c, tx, sa, sc, e1, ⟨ins, qs, g1, g2, g3, g4, g5⟩, e3⟩ := h5 j hj
    rw [e3] at g1
    simp only [Option.some.injEq, Prod.mk.injEq] at g1
    obtain ⟨b1, b2, _⟩ := g1
    obtain ⟨c1, c2, c3, c4⟩ := line_inv e3
    have hn : n = qs.length := by obtain ⟨_, _, e⟩ := own_shape g3.1; injection e
    obtain ⟨s1, s2⟩ := samV_own g5 c4
    have hlen : (qs.map blP).length ≤ 6001 := by rw [List.length_map]; exact g3.2.1
    refine ⟨⟨nm, a, n, c, tx, qs, sa, sc, sams1 ((split 10 l).getD (es[j]).at_ [])⟩, hj, ?_, ?_, ?_⟩
    · show rs[j]? = some (.string nm, .slice a n c, .string tx, .slice sa (sams1 ((split 10 l).getD (es[j]).at_ [])).length sc)
      rw [e1, c4]
    · show (⟨bl nm, qs.map blP, sams1 ((split 10 l).getD (es[j]).at_ [])⟩ : Ser) = ⟨(es[j]).name, (labels (es[j]).inside).getD [], sams1 ((split 10 l).getD (es[j]).at_ [])⟩
      rw [b1, b2, g2]; rfl
    · exact ⟨⟨by rw [hn]; rw [hn] at g3; exact g3, by rw [g4]; exact labelsS_wrt qs, labels_wf g2 hlen⟩, s1, c3, by show (sams1 _).length ≤ _; rw [c4]; exact h7 j hj, by show (sams1 _).length ≤ _; rw [c4]; exact s2, sams1_ok _⟩)
  obtain ⟨zs, hz1, hz2⟩ := hch
  have hst : storeS l = es.map (serE (split 10 l)) := by unfold storeS; rw [h1]
  have hsr : zs.map Srs.ser = storeS l := by
    rw [hst]
    refine List.ext_getElem (by rw [List.length_map, List.length_map, hz1]) (fun j h1' h2' => ?_)
    rw [List.getElem_map, List.getElem_map]
    exact (hz2 j (by simpa using h1')).2.2.1
  refine ⟨zs, ⟨?_, fun z hz => ?_, by omega⟩, hsr, ?_, by omega⟩
  · have := encS_of zs rs (by rw [hrl, hz1]) (fun j hj => (hz2 j hj).2.1)
    rw [this, hz1]; exact h3
  · obtain ⟨j, hj, rfl⟩ := List.mem_iff_getElem.1 hz
    exact (hz2 j hj).2.2.2
  · rw [hsr, hst]
    unfold Dst
    rw [List.pairwise_map]
    refine List.Pairwise.imp_of_mem ?_ (dup_pair es [] hd).1
    intro a b ha hb hne hh
    obtain ⟨i, hi, rfl⟩ := List.mem_iff_getElem.1 ha
    obtain ⟨k, hk, rfl⟩ := List.mem_iff_getElem.1 hb
    obtain ⟨_, _, _, _, _, _, _, _, _, e1⟩ := h5 i hi
    obtain ⟨_, _, _, _, _, _, _, _, _, e2⟩ := h5 k hk
    obtain ⟨n1, l1, _⟩ := line_inv e1
    obtain ⟨n2, l2, _⟩ := line_inv e2
    obtain ⟨p1, l1⟩ := Option.isSome_iff_exists.1 l1
    obtain ⟨p2, l2⟩ := Option.isSome_iff_exists.1 l2
    refine hne ((key_iff n1 n2).2 ⟨hh.1, ?_⟩)
    have hw := hh.2
    unfold serE at hw
    simp only [l1, l2, Option.getD_some] at hw
    rw [wrt_back l1, wrt_back l2] at hw
    exact hw
theorem readQ_wf {l : List UInt8} {t : Tr} (h : readQ l = .ok t) : wfT t ∧ isNil t = false ∧ wT t ≤ 100000 := by
  unfold readQ at h
  by_cases hl : 300 < l.length
  · rw [if_pos hl] at h; cases h
  · rw [if_neg hl] at h
    have h1 := lexAll_len l (l.length + 1) 0 (Nat.zero_le _)
    have h2 := lexAll_tw l (by omega) (l.length + 1) 0
    cases hp : parse (10 * (lexAll l (l.length + 1) 0).length + 5) false 0 .nil (lexAll l (l.length + 1) 0) 0 with
    | error e => rw [hp] at h; cases h
    | ok z =>
      obtain ⟨t', r⟩ := z
      rw [hp] at h
      have hw := parse_wf _ _ _ _ _ _ _ (fun e => by cases e) hp
      simp only at h
      by_cases h0 : (hd r).kind = 0
      · rw [if_pos h0] at h
        by_cases hk : kindT t' = 0
        · rw [if_pos hk] at h; cases h
        · rw [if_neg hk] at h
          injection h with h
          subst h
          refine ⟨hw.1, hw.2.1, ?_⟩
          have h3 := hw.2.2
          rw [if_neg (by decide)] at h3
          simp only at h3
          omega
      · rw [if_neg h0] at h; cases h
theorem Vars.sents {w : World} {A : Nat → Addr} {m : Int} (h : Vars w A m) : Sents w (A 0) (A 1) (A 2) (A 3) :=
  ⟨h.sent _ (by decide), h.sent _ (by decide), h.sent _ (by decide), h.sent _ (by decide)⟩
theorem ErrAt.cells {w : World} {v : Value} {p : Int} {a : Addr} (h : ErrAt w v p a) : ∃ fa : Nat, v = .iface 94 (.pointer (some ⟨fa, 0, none⟩)) ∧ w.cell? ⟨fa, 1, none⟩ = some (.int .i64 p) ∧ w.cell? ⟨fa, 2, none⟩ = some (.iface 389 (.pointer (some a))) := by
  obtain ⟨fa, h1, h2⟩ := h
  exact ⟨fa, h1, by simp [World.cell?, h2], by simp [World.cell?, h2]⟩
def EvErr (w : World) (A : Nat → Addr) (err : Value) (c p : Nat) : Prop :=
  (err = .nilIface ∧ c = 0 ∧ p = 0) ∨
  (err = .iface 389 (.pointer (some (A 0))) ∧ c = 1 ∧ p = 0) ∨
  (err = .iface 389 (.pointer (some (A 3))) ∧ c = 4 ∧ p = 0) ∨
  (err = .iface 389 (.pointer (some (A 6))) ∧ c = 7 ∧ p = 0) ∨
  (err = .iface 389 (.pointer (some (A 7))) ∧ c = 8 ∧ p = 0) ∨
  (∃ fa : Nat, err = .iface 94 (.pointer (some ⟨fa, 0, none⟩)) ∧ w.cell? ⟨fa, 1, none⟩ = some (.int .i64 p) ∧
    ((c = 2 ∧ w.cell? ⟨fa, 2, none⟩ = some (.iface 389 (.pointer (some (A 1))))) ∨
     (c = 3 ∧ w.cell? ⟨fa, 2, none⟩ = some (.iface 389 (.pointer (some (A 2))))) ∨
     (c = 5 ∧ w.cell? ⟨fa, 2, none⟩ = some (.iface 389 (.pointer (some (A 4))))) ∨
     (c = 6 ∧ w.cell? ⟨fa, 2, none⟩ = some (.iface 389 (.pointer (some (A 5)))))))
theorem EvErr.rd {w : World} {A : Nat → Addr} {r : Except (Nat × Nat) Tr} {x : Nat × Nat} {pv v : Value} (hr : r = .error x) (h : RdIs w (A 0) (A 1) (A 2) (A 3) r pv v) : EvErr w A v x.1 x.2 ∧ ∃ ty u, v = .iface ty u := by
  subst hr
  rcases h with ⟨rfl, rfl⟩ | ⟨rfl, rfl⟩ | ⟨hx, he⟩ | ⟨hx, he⟩
  · exact ⟨Or.inr (Or.inl ⟨rfl, rfl, rfl⟩), _, _, rfl⟩
  · exact ⟨Or.inr (Or.inr (Or.inl ⟨rfl, rfl, rfl⟩)), _, _, rfl⟩
  · obtain ⟨fa, rfl, h1, h2⟩ := he.cells
    exact ⟨Or.inr (Or.inr (Or.inr (Or.inr (Or.inr ⟨fa, rfl, h1, Or.inl ⟨hx, h2⟩⟩)))), _, _, rfl⟩
  · obtain ⟨fa, rfl, h1, h2⟩ := he.cells
    exact ⟨Or.inr (Or.inr (Or.inr (Or.inr (Or.inr ⟨fa, rfl, h1, Or.inr (Or.inl ⟨hx, h2⟩)⟩)))), _, _, rfl⟩
theorem EvErr.ld {w : World} {A : Nat → Addr} {v : Value} {r : Nat × Nat} (h : LErrIs w A v r) : (r.1 = 0 ∧ v = .nilIface) ∨ (r.1 ≠ 0 ∧ EvErr w A v r.1 r.2 ∧ ∃ ty u, v = .iface ty u) := by
  rcases h with ⟨rfl, rfl⟩ | ⟨rfl, rfl⟩ | ⟨rfl, rfl⟩ | ⟨i, fa, rfl, rfl, h1, h2⟩ | ⟨i, fa, rfl, rfl, h1, h2⟩
  · exact Or.inl ⟨rfl, rfl⟩
  · exact Or.inr ⟨by simp, Or.inr (Or.inl ⟨rfl, rfl, rfl⟩), _, _, rfl⟩
  · exact Or.inr ⟨by simp, Or.inr (Or.inr (Or.inr (Or.inl ⟨rfl, rfl, rfl⟩))), _, _, rfl⟩
  · exact Or.inr ⟨by simp, Or.inr (Or.inr (Or.inr (Or.inr (Or.inr ⟨fa, rfl, h1, Or.inr (Or.inr (Or.inl ⟨rfl, h2⟩))⟩)))), _, _, rfl⟩
  · exact Or.inr ⟨by simp, Or.inr (Or.inr (Or.inr (Or.inr (Or.inr ⟨fa, rfl, h1, Or.inr (Or.inr (Or.inr ⟨rfl, h2⟩))⟩)))), _, _, rfl⟩
theorem sread_any (s : ByteArray) (A : Nat → Addr) (m : Int) (w : World) (hv : Vars w A m) (hs : s.size ≤ maxLen) :
    Calls Tryz.prog 24 #[.string s] w fun e w' => ∃ sv err, e = .returned (.tuple #[sv, err]) ∧ Hid (LErrIs w' A err (loadRes (bl s))) ∧ Below w.heap.size w w' ∧ Hid ((loadRes (bl s)).1 = 0 → ReadV w' sv (bl s)) := by
  by_cases h : s.size ≤ 6000
  · exact read_short s A m w hv h
  · have e : loadRes (bl s) = (1, 0) := by unfold loadRes; rw [if_pos (by rw [bl_length]; omega)]
    rw [e]
    refine (read_long s A m w hv (by omega) hs).mono ?_
    rintro e' w' ⟨v, err, h1, h2, h3⟩
    exact ⟨v, err, h1, h2, h3, hid (fun h => by cases h)⟩
end Go.Proofs.YtpbemaaghbbocaaGreatDoor
