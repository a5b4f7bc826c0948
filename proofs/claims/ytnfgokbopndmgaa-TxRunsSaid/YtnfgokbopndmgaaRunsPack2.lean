/-
  Part 2 of the texts that the seat's proofs stand on; each part of it begins with its own sentence and conditions. Conditions: those that each theorem names.
-/
import Derived.Test.YtnfgokbopndmgaaRunsPack1
import Derived.Lib.Hide
import Derived.StillTail

/-
  What the document's own New of layer 13 does. Conditions: none.
-/
namespace Go.Proofs.Ytnfgokbopndmgaa
open Go.RowKit
open Pol (co)

/-- The blocks that were laid since. -/
def Fresh (w w' : World) (b : Nat) : Prop := w.heap.size ≤ b ∧ b < w'.heap.size
/-- The error's number that New answers. -/
def newc (l : List Nat) : Nat := if l.length < 1 ∨ 6 < l.length then 1 else if 1152921504606846976 < l.sum then 10 else 0
def Lgr.new (l : List Nat) : Lgr := ⟨l, List.replicate l.length 0, List.replicate l.length 0, List.replicate l.length 0, 0⟩
theorem sum_zeros13 (n : Nat) : (List.replicate n 0).sum = 0 := by
  induction n with
  | zero => rfl
  | succ n ih => rw [List.replicate_succ, List.sum_cons, ih]
theorem co_zeros13 (n i : Nat) : co (List.replicate n 0) i = 0 := by
  unfold co
  rw [List.getElem?_replicate]
  split <;> rfl
theorem Lgr.new_ok (l : List Nat) : (Lgr.new l).ok l.length l.sum :=
  ⟨rfl, by simp [Lgr.new], by simp [Lgr.new], by simp [Lgr.new], by simp [Lgr.new], fun i => by simp [Lgr.new, co_zeros13]⟩
/-- What New of the document's ledger leaves. -/
def NewR (l : List Nat) (w : World) (e : Ending) (w' : World) : Prop :=
  Ext w w' ∧ ((newc l = 0 ∧ ∃ σ G, e = .returned (.tuple #[.pointer (some ⟨σ, 0, none⟩), .int .i64 0]) ∧ RG (Fresh w w') σ G w' l.length (Lgr.new l)) ∨
    (newc l ≠ 0 ∧ e = .returned (.tuple #[.pointer none, .int .i64 ((newc l : Nat) : Int)])))
/-- What has been made by the region that lays the ledger. -/
structure NwI (u : World) (n : Nat) (A : Option Addr) (c : Nat) (l : List Nat) (L : Nat → Bool) (x0 x1 x2 x3 x4 x5 x6 x7 x8 : Value) (w : World) : Prop where
  ext : Ext u w
  p0 : L 0 = true → ∃ g, x0 = .slice (some ⟨g, 0, none⟩) 0 0
  p1 : L 1 = true → x1 = .slice A n c
  p3 : L 3 = true → x3 = .int .i64 (n : Int)
  p5 : L 5 = true → x5 = .int .i64 (n : Int)
  p7 : L 7 = true → x7 = .int .i64 (n : Int)
  fam : Fam w u.heap.size n (fun k => if k = 0 then l else List.replicate n 0) (fun k => L (2 * k + 2)) (fun k => if k = 0 then x2 else if k = 1 then x4 else if k = 2 then x6 else x8)
section
variable {u : World} {n : Nat} {A : Option Addr} {c : Nat} {l : List Nat} {L : Nat → Bool} {x0 x1 x2 x3 x4 x5 x6 x7 x8 : Value} {w : World}
theorem NwI.set0 {w' : World} (h : NwI u n A c l L x0 x1 x2 x3 x4 x5 x6 x7 x8 w) (g : Nat) (hx : Ext w w') : NwI u n A c l (fun j => j == 0 || L j) (.slice (some ⟨g, 0, none⟩) 0 0) x1 x2 x3 x4 x5 x6 x7 x8 w' :=
  ⟨h.ext.trans hx, fun _ => ⟨g, rfl⟩, fun e => h.p1 (by simpa using e), fun e => h.p3 (by simpa using e), fun e => h.p5 (by simpa using e), fun e => h.p7 (by simpa using e), h.fam.same hx (fun k _ e => by simpa using e) (fun k _ => rfl)⟩
theorem NwI.set1 (h : NwI u n A c l L x0 x1 x2 x3 x4 x5 x6 x7 x8 w) : NwI u n A c l (fun j => j == 1 || L j) x0 (.slice A n c) x2 x3 x4 x5 x6 x7 x8 w :=
  ⟨h.ext, fun e => h.p0 (by simpa using e), fun _ => rfl, fun e => h.p3 (by simpa using e), fun e => h.p5 (by simpa using e), fun e => h.p7 (by simpa using e), h.fam.same (Ext.refl _) (fun k _ e => by
    simp only [Bool.or_eq_true, beq_iff_eq] at e
    rcases e with e | e
    · omega
    · exact e) (fun k _ => rfl)⟩
theorem NwI.set3 (h : NwI u n A c l L x0 x1 x2 x3 x4 x5 x6 x7 x8 w) : NwI u n A c l (fun j => j == 3 || L j) x0 x1 x2 (.int .i64 (n : Int)) x4 x5 x6 x7 x8 w :=
  ⟨h.ext, fun e => h.p0 (by simpa using e), fun e => h.p1 (by simpa using e), fun _ => rfl, fun e => h.p5 (by simpa using e), fun e => h.p7 (by simpa using e), h.fam.same (Ext.refl _) (fun k _ e => by
    simp only [Bool.or_eq_true, beq_iff_eq] at e
    rcases e with e | e
    · omega
    · exact e) (fun k _ => rfl)⟩
theorem NwI.set5 (h : NwI u n A c l L x0 x1 x2 x3 x4 x5 x6 x7 x8 w) : NwI u n A c l (fun j => j == 5 || L j) x0 x1 x2 x3 x4 (.int .i64 (n : Int)) x6 x7 x8 w :=
  ⟨h.ext, fun e => h.p0 (by simpa using e), fun e => h.p1 (by simpa using e), fun e => h.p3 (by simpa using e), fun _ => rfl, fun e => h.p7 (by simpa using e), h.fam.same (Ext.refl _) (fun k _ e => by
    simp only [Bool.or_eq_true, beq_iff_eq] at e
    rcases e with e | e
    · omega
    · exact e) (fun k _ => rfl)⟩
theorem NwI.set7 (h : NwI u n A c l L x0 x1 x2 x3 x4 x5 x6 x7 x8 w) : NwI u n A c l (fun j => j == 7 || L j) x0 x1 x2 x3 x4 x5 x6 (.int .i64 (n : Int)) x8 w :=
  ⟨h.ext, fun e => h.p0 (by simpa using e), fun e => h.p1 (by simpa using e), fun e => h.p3 (by simpa using e), fun e => h.p5 (by simpa using e), fun _ => rfl, h.fam.same (Ext.refl _) (fun k _ e => by
    simp only [Bool.or_eq_true, beq_iff_eq] at e
    rcases e with e | e
    · omega
    · exact e) (fun k _ => rfl)⟩
theorem NwI.set2 {w' : World} {v : Value} (h : NwI u n A c l L x0 x1 x2 x3 x4 x5 x6 x7 x8 w) (hm : MadeU w' w.heap.size v n l) (hx : Ext w w') : NwI u n A c l (fun j => j == 2 || L j) x0 x1 v x3 x4 x5 x6 x7 x8 w' :=
  ⟨h.ext.trans hx, fun e => h.p0 (by simpa using e), fun e => h.p1 (by simpa using e), fun e => h.p3 (by simpa using e), fun e => h.p5 (by simpa using e), fun e => h.p7 (by simpa using e),
    h.fam.next (i := 0) hx h.ext.size (by simpa using hm) (fun k _ e hne => by
      simp only [Bool.or_eq_true, beq_iff_eq] at e
      rcases e with e | e
      · omega
      · exact e) (fun k _ hne => by simp [hne])⟩
theorem NwI.set4 {w' : World} {v : Value} (h : NwI u n A c l L x0 x1 x2 x3 x4 x5 x6 x7 x8 w) (hm : MadeU w' w.heap.size v n (List.replicate n 0)) (hx : Ext w w') : NwI u n A c l (fun j => j == 4 || L j) x0 x1 x2 x3 v x5 x6 x7 x8 w' :=
  ⟨h.ext.trans hx, fun e => h.p0 (by simpa using e), fun e => h.p1 (by simpa using e), fun e => h.p3 (by simpa using e), fun e => h.p5 (by simpa using e), fun e => h.p7 (by simpa using e),
    h.fam.next (i := 1) hx h.ext.size (by simpa using hm) (fun k _ e hne => by
      simp only [Bool.or_eq_true, beq_iff_eq] at e
      rcases e with e | e
      · omega
      · exact e) (fun k _ hne => by simp [hne])⟩
theorem NwI.set6 {w' : World} {v : Value} (h : NwI u n A c l L x0 x1 x2 x3 x4 x5 x6 x7 x8 w) (hm : MadeU w' w.heap.size v n (List.replicate n 0)) (hx : Ext w w') : NwI u n A c l (fun j => j == 6 || L j) x0 x1 x2 x3 x4 x5 v x7 x8 w' :=
  ⟨h.ext.trans hx, fun e => h.p0 (by simpa using e), fun e => h.p1 (by simpa using e), fun e => h.p3 (by simpa using e), fun e => h.p5 (by simpa using e), fun e => h.p7 (by simpa using e),
    h.fam.next (i := 2) hx h.ext.size (by simpa using hm) (fun k _ e hne => by
      simp only [Bool.or_eq_true, beq_iff_eq] at e
      rcases e with e | e
      · omega
      · exact e) (fun k _ hne => by simp [hne])⟩
theorem NwI.set8 {w' : World} {v : Value} (h : NwI u n A c l L x0 x1 x2 x3 x4 x5 x6 x7 x8 w) (hm : MadeU w' w.heap.size v n (List.replicate n 0)) (hx : Ext w w') : NwI u n A c l (fun j => j == 8 || L j) x0 x1 x2 x3 x4 x5 x6 x7 v w' :=
  ⟨h.ext.trans hx, fun e => h.p0 (by simpa using e), fun e => h.p1 (by simpa using e), fun e => h.p3 (by simpa using e), fun e => h.p5 (by simpa using e), fun e => h.p7 (by simpa using e),
    h.fam.next (i := 3) hx h.ext.size (by simpa using hm) (fun k _ e hne => by
      simp only [Bool.or_eq_true, beq_iff_eq] at e
      rcases e with e | e
      · omega
      · exact e) (fun k hk hne => by
      have : k < 3 := by omega
      match k, this with
      | 0, _ => rfl
      | 1, _ => rfl
      | 2, _ => rfl)⟩
end
set_option maxHeartbeats 3200000 in
set_option maxRecDepth 100000 in
theorem ref13_new (l : List Nat) (A : Option Addr) (n c : Nat) (w : World) (hn : l.length = n) (hr : URd w A l) :
    Calls Try.prog 17 #[.slice A n c] w (NewR l w) := by
  unfold NewR
  have HR := Lib.hid hr
  have HN := Lib.hid hn
  have HT := Lib.hid (fun i (hi : i < l.length) => take_sum13 l i hi)
  have HTL := Lib.hid (fun i => take_sum_le13 l i)
  have HF := Lib.hid (show l.take n = l from by rw [← hn, List.take_length])
  by_cases h1 : n < 1
  · have hc : newc l = 1 := by unfold newc; rw [if_pos (Or.inl (by omega))]
    rw [hc]
    have d1 : decide ((n : Int) < 1) = true := decide_eq_true (by omega)
    clear hr hn
    go_enter Try.func17, Try.ntmps17
    go_wp2
    go_ret2
    exact ⟨Ext.refl _, .inr ⟨by decide, rfl⟩⟩
  · have d1 : decide ((n : Int) < 1) = false := decide_eq_false (by omega)
    by_cases h2 : 6 < n
    · have hc : newc l = 1 := by unfold newc; rw [if_pos (Or.inr (by omega))]
      rw [hc]
      have d2 : decide ((n : Int) > 6) = true := decide_eq_true (by omega)
      have d2' : decide (6 < (n : Int)) = true := decide_eq_true (by omega)
      clear hr hn
      go_enter Try.func17, Try.ntmps17
      go_wp2
      go_ret2
      exact ⟨Ext.refl _, .inr ⟨by decide, rfl⟩⟩
    · have d2 : decide ((n : Int) > 6) = false := decide_eq_false (by omega)
      have d2' : decide (6 < (n : Int)) = false := decide_eq_false (by omega)
      have HC := Lib.hid (show newc l = if 1152921504606846976 < l.sum then 10 else 0 from by unfold newc; rw [if_neg (by omega)])
      clear hr hn
      go_enter Try.func17, Try.ntmps17
      go_wp2
      go_loopg [4, 17] n (fun g s4 s17 wx => ∃ i t : Nat, i + g = n ∧ (l.take i).sum + t = 1152921504606846976 ∧ s4 = .int .u64 (t : Int) ∧ s17 = .int .i64 (i : Int) ∧ w = wx)
      case atStart => exact ⟨0, 1152921504606846976, by omega, by simp, rfl, rfl, rfl⟩
      case round =>
        obtain ⟨i, t, hig, ht, rfl, rfl, rfl⟩ := hrel
        cases gk with
        | zero =>
          obtain rfl : i = n := by omega
          have HV := Lib.hid (show newc l = 0 by rw [HC.out, if_neg]; rw [HF.out] at ht; omega)
          have d3 : decide ((i : Int) < (i : Int)) = false := decide_eq_false (by omega)
          clear ht
          go_wp2
          have HRA := Lib.hid (fun w' (h : Ext w w') => HR.out.ext h)
          have hpos : 0 < i := by omega
          have hle : i ≤ 6 := by omega
          have hmk := run_make_u64 i (by omega)
          refine wp_region_inv_tail 9 (fun L a w' => ∃ x0 x1 x2 x3 x4 x5 x6 x7 x8, a = ⟨#[.slice A i c, undef, u2, u3, .int .u64 (t : Int), u5, .int .i64 (i : Int), .slice A i c,
            .int .i64 (i : Int), .bool false, .bool false, .slice A i c, .int .i64 (i : Int),
            .bool false, .bool false, .slice A i c, .int .i64 (i : Int), .int .i64 (i : Int),
            .bool false, u19, u20, u21, u22, u23, u24, u25, u26, u27, u28, u29, u30, u31, u32, .slice A i c,
            .int .i64 (i : Int), x0, x1, x2, x3, x4, x5, x6, x7, x8, undef, undef], []⟩ ∧ NwI w i A c l L x0 x1 x2 x3 x4 x5 x6 x7 x8 w') (by kernel_rfl) (by kernel_rfl) (by kernel_rfl) (by kernel_rfl) ?_ ?_ ?_
          · intro L hL
            refine ⟨_, _, _, _, _, _, _, _, _, rfl, (Ext.refl w).drew, fun e => ?_, fun e => ?_, fun e => ?_, fun e => ?_, fun e => ?_, ⟨fun k hk e => ?_, fun j k hj hk hne e e2 => ?_⟩⟩
            all_goals (rw [hL _ (by omega)] at e; cases e)
          · intro i0 o ho hi9 L a w2 hI hL haft
            obtain ⟨x0, x1, x2, x3, x4, x5, x6, x7, x8, rfl, h⟩ := hI
            have HH := Lib.hid h
            clear h
            match i0, ho, hi9, hL with
            | 0, ho, hi9, hL =>
              obtain rfl : _ = o := Option.some.inj ho
              clear ho haft hL hi9
              go_wp2
              exact ⟨_, _, _, _, _, _, _, _, _, rfl, HH.out.set0 _ ((Ext.refl _).alloc _)⟩
            | 1, ho, hi9, hL =>
              obtain rfl : _ = o := Option.some.inj ho
              clear ho haft hL hi9
              go_wp2
              exact ⟨_, _, _, _, _, _, _, _, _, rfl, HH.out.set1⟩
            | 3, ho, hi9, hL =>
              obtain rfl : _ = o := Option.some.inj ho
              clear ho haft hL hi9
              go_wp2
              exact ⟨_, _, _, _, _, _, _, _, _, rfl, HH.out.set3⟩
            | 5, ho, hi9, hL =>
              obtain rfl : _ = o := Option.some.inj ho
              clear ho haft hL hi9
              go_wp2
              exact ⟨_, _, _, _, _, _, _, _, _, rfl, HH.out.set5⟩
            | 7, ho, hi9, hL =>
              obtain rfl : _ = o := Option.some.inj ho
              clear ho haft hL hi9
              go_wp2
              exact ⟨_, _, _, _, _, _, _, _, _, rfl, HH.out.set7⟩
            | 2, ho, hi9, hL =>
              obtain rfl : _ = o := Option.some.inj ho
              have l0 := haft ⟨0, .data⟩ (by simp) (by kernel_rfl)
              have l1 := haft ⟨1, .data⟩ (by simp) (by kernel_rfl)
              obtain ⟨g, rfl⟩ := HH.out.p0 l0
              obtain rfl := HH.out.p1 l1
              clear ho haft hL hi9 l0 l1
              have HU := Lib.hid (HRA.out w2 HH.out.ext)
              go_wp2_with (first | (at_builtin; refine wpList_append_new64 rfl (.tmp 35) (.tmp 36) rfl g l rfl A i c rfl HN.out hpos HU.out (by omega) ?_; rintro v w3 hm hx) | fail)
              have HM := Lib.hid hm
              have HX := Lib.hid hx
              clear hm hx
              go_wp2
              exact ⟨_, _, _, _, _, _, _, _, _, rfl, HH.out.set2 HM.out HX.out⟩
            | 4, ho, hi9, hL =>
              obtain rfl : _ = o := Option.some.inj ho
              have l0 := haft ⟨3, .data⟩ (by simp) (by kernel_rfl)
              obtain rfl := HH.out.p3 l0
              clear ho haft hL hi9 l0
              go_wp2
              exact ⟨_, _, _, _, _, _, _, _, _, rfl, HH.out.set4 ⟨_, _, rfl, Nat.le_refl _, row_zeros w2 i⟩ ((Ext.refl _).alloc _)⟩
            | 6, ho, hi9, hL =>
              obtain rfl : _ = o := Option.some.inj ho
              have l0 := haft ⟨5, .data⟩ (by simp) (by kernel_rfl)
              obtain rfl := HH.out.p5 l0
              clear ho haft hL hi9 l0
              go_wp2
              exact ⟨_, _, _, _, _, _, _, _, _, rfl, HH.out.set6 ⟨_, _, rfl, Nat.le_refl _, row_zeros w2 i⟩ ((Ext.refl _).alloc _)⟩
            | 8, ho, hi9, hL =>
              obtain rfl : _ = o := Option.some.inj ho
              have l0 := haft ⟨7, .data⟩ (by simp) (by kernel_rfl)
              obtain rfl := HH.out.p7 l0
              clear ho haft hL hi9 l0
              go_wp2
              exact ⟨_, _, _, _, _, _, _, _, _, rfl, HH.out.set8 ⟨_, _, rfl, Nat.le_refl _, row_zeros w2 i⟩ ((Ext.refl _).alloc _)⟩
            | i0 + 9, ho, hi9, hL => omega
          · intro L a w2 hL hI
            obtain ⟨x0, x1, x2, x3, x4, x5, x6, x7, x8, rfl, h⟩ := hI
            have m2 := h.fam.made 0 (by omega) (hL 2 (by omega))
            have m4 := h.fam.made 1 (by omega) (hL 4 (by omega))
            have m6 := h.fam.made 2 (by omega) (hL 6 (by omega))
            have m8 := h.fam.made 3 (by omega) (hL 8 (by omega))
            have f01 := h.fam.far 0 1 (by omega) (by omega) (by omega) (hL 2 (by omega)) (hL 4 (by omega))
            have f02 := h.fam.far 0 2 (by omega) (by omega) (by omega) (hL 2 (by omega)) (hL 6 (by omega))
            have f03 := h.fam.far 0 3 (by omega) (by omega) (by omega) (hL 2 (by omega)) (hL 8 (by omega))
            have f12 := h.fam.far 1 2 (by omega) (by omega) (by omega) (hL 4 (by omega)) (hL 6 (by omega))
            have f13 := h.fam.far 1 3 (by omega) (by omega) (by omega) (hL 4 (by omega)) (hL 8 (by omega))
            have f23 := h.fam.far 2 3 (by omega) (by omega) (by omega) (hL 6 (by omega)) (hL 8 (by omega))
            have HX := Lib.hid h.ext
            clear h hL
            simp only [if_pos, reduceIte, Nat.reduceEqDiff, Nat.succ_ne_zero] at m2 m4 m6 m8 f01 f02 f03 f12 f13 f23
            obtain ⟨g2, c2, rfl, b2, r2⟩ := m2
            obtain ⟨g4, c4, rfl, b4, r4⟩ := m4
            obtain ⟨g6, c6, rfl, b6, r6⟩ := m6
            obtain ⟨g8, c8, rfl, b8, r8⟩ := m8
            have HG := Lib.hid (show g2 ≠ g4 ∧ g2 ≠ g6 ∧ g2 ≠ g8 ∧ g4 ≠ g6 ∧ g4 ≠ g8 ∧ g6 ≠ g8 from ⟨fun e => f01 (by rw [e]; rfl), fun e => f02 (by rw [e]; rfl), fun e => f03 (by rw [e]; rfl), fun e => f12 (by rw [e]; rfl), fun e => f13 (by rw [e]; rfl), fun e => f23 (by rw [e]; rfl)⟩)
            have HB := Lib.hid (And.intro b2 (And.intro b4 (And.intro b6 b8)))
            have R2 := Lib.hid r2
            have R4 := Lib.hid r4
            have R6 := Lib.hid r6
            have R8 := Lib.hid r8
            clear f01 f02 f03 f12 f13 f23 b2 b4 b6 b8 r2 r4 r6 r8
            simp only [List.drop_succ_cons, List.drop_zero]
            go_wp2
            go_ret2
            have hx : Ext w2 (w2.alloc (.cells #[.slice (some ⟨g2, 0, none⟩) i c2, .slice (some ⟨g4, 0, none⟩) i c4, .slice (some ⟨g6, 0, none⟩) i c6, .slice (some ⟨g8, 0, none⟩) i c8, .int .u64 0] 52)) := (Ext.refl _).alloc _
            obtain ⟨b2, b4, b6, b8⟩ := HB.out
            obtain ⟨f1, f2, f3, f4, f5, f6⟩ := HG.out
            have l2 := R2.out.lt
            have l4 := R4.out.lt
            have l6 := R6.out.lt
            have l8 := R8.out.lt
            have hs := HX.out.size
            have hz : (w2.alloc (.cells #[.slice (some ⟨g2, 0, none⟩) i c2, .slice (some ⟨g4, 0, none⟩) i c4, .slice (some ⟨g6, 0, none⟩) i c6, .slice (some ⟨g8, 0, none⟩) i c8, .int .u64 0] 52)).heap.size = w2.heap.size + 1 := by simp
            refine ⟨HX.out.trans hx, .inl ⟨HV.out, w2.heap.size, ⟨g2, g4, g6, g8, c2, c4, c6, c8⟩, rfl, ?_⟩⟩
            rw [HN.out]
            exact ⟨heap_alloc_new _ _, R2.out.ext hx, by rw [show (Lgr.new l).n = List.replicate i 0 from by rw [← HN.out]; rfl]; exact R4.out.ext hx, by rw [show (Lgr.new l).f = List.replicate i 0 from by rw [← HN.out]; rfl]; exact R6.out.ext hx, by rw [show (Lgr.new l).d = List.replicate i 0 from by rw [← HN.out]; rfl]; exact R8.out.ext hx, (by decide : (0 : Nat) < 18446744073709551616),
              ⟨hs, by omega⟩, ⟨b2, by dsimp only; omega⟩, ⟨b4, by dsimp only; omega⟩, ⟨b6, by dsimp only; omega⟩, ⟨b8, by dsimp only; omega⟩, by dsimp only; omega, by dsimp only; omega, by dsimp only; omega, by dsimp only; omega, f1, f2, f3, f4, f5, f6⟩
        | succ g =>
          have hi : i < n := by omega
          have hiI : (i : Int) < (n : Int) := by omega
          obtain ⟨b0, o, rfl, hcb⟩ := HR.out.2 i (by rw [HN.out]; exact hi)
          have e1 := HT.out i (by rw [HN.out]; exact hi)
          have e2 := HTL.out (i + 1)
          obtain ⟨x, hx⟩ : ∃ x, co l i = x := ⟨_, rfl⟩
          rw [hx] at hcb e1
          by_cases hxt : t < x
          · have HV := Lib.hid (show newc l = 10 by rw [HC.out, if_pos]; omega)
            have d4 : decide ((x : Int) > (t : Int)) = true := decide_eq_true (by omega)
            have d4' : decide ((t : Int) < (x : Int)) = true := decide_eq_true (by omega)
            have d4'' : decide (t < x) = true := decide_eq_true hxt
            clear e1 e2 ht hx
            go_wp2
            go_ret2
            rw [HV.out]
            exact ⟨Ext.refl _, .inr ⟨by decide, rfl⟩⟩
          · have d4 : decide ((x : Int) > (t : Int)) = false := decide_eq_false (by omega)
            have d4' : decide ((t : Int) < (x : Int)) = false := decide_eq_false (by omega)
            have d4'' : decide (t < x) = false := decide_eq_false hxt
            obtain ⟨y, hy⟩ : ∃ y, t - x = y := ⟨_, rfl⟩
            have e3 : IntKind.u64.wrap ((t : Int) - (x : Int)) = (y : Int) := by rw [IntKind.wrap_u64]; omega
            have HE := Lib.hid (show (l.take (i + 1)).sum + y = 1152921504606846976 by omega)
            clear e1 e2 ht hx hy
            go_wp2
            go_roundg g
            case measure => omega
            case rel => exact ⟨i + 1, y, by omega, HE.out, rfl, by go_num, rfl⟩
end Go.Proofs.Ytnfgokbopndmgaa

/-
  What a ledger's calls leave, over a predicate that the code's proof chooses: what a ledger is in memory. Conditions: none.
-/
namespace Go.Proofs.Ytnfgokbopndmgaa
open Go.RowKit
open Pol (co)

abbrev LgrP := (Nat → Prop) → Nat → World → Nat → Lgr → Prop
/-- An account that is there. -/
def Inn (m : Nat) (who : Int) : Prop := 0 ≤ who ∧ who < (m : Int)
instance (m : Nat) (who : Int) : Decidable (Inn m who) := inferInstanceAs (Decidable (_ ∧ _))
/-- What a call of a ledger leaves: the error's number, the ledger. -/
def OpP (I : LgrP) (X : Nat → Prop) (σ m : Nat) (w : World) (r : Nat × Lgr) (e : Ending) (w' : World) : Prop :=
  e = .returned (.int .i64 ((r.1 : Nat) : Int)) ∧ Only X w w' ∧ I X σ w' m r.2
def NewP (I : LgrP) (l : List Nat) (w : World) (e : Ending) (w' : World) : Prop :=
  Ext w w' ∧ ((newc l = 0 ∧ ∃ σ, e = .returned (.tuple #[.pointer (some ⟨σ, 0, none⟩), .int .i64 0]) ∧ I (Fresh w w') σ w' l.length (Lgr.new l)) ∨
    (newc l ≠ 0 ∧ e = .returned (.tuple #[.pointer none, .int .i64 ((newc l : Nat) : Int)])))
/-- A ledger of m accounts and the total M. -/
structure Good (s : Lgr) (m M : Nat) : Prop where
  ok : s.ok m M
  tot : M ≤ 1152921504606846976
  few : m ≤ 6
/-- What a ledger is in memory stays while its blocks do. -/
structure Keeps (I : LgrP) : Prop where
  keep : ∀ {X : Nat → Prop} {σ m : Nat} {w w' : World} {s : Lgr}, I X σ w m s → (∀ b, X b → w'.heap[b]? = w.heap[b]?) → I X σ w' m s
end Go.Proofs.Ytnfgokbopndmgaa

/-
  A ledger with the blocks that are its own; what its calls leave of it. Conditions: none.
-/
namespace Go.Proofs.Ytnfgokbopndmgaa
open Go.RowKit
open Pol (co)

theorem Good.hold {s : Lgr} {m M i x : Nat} (h : Good s m M) (hi : i < m) : Good (s.hold i x).2 m M := ⟨Lgr.hold_ok h.ok hi, h.tot, h.few⟩
theorem Good.back {s : Lgr} {m M i x : Nat} {u v : Bool} (h : Good s m M) (hi : i < m) : Good (s.back i x u v).2 m M := ⟨Lgr.back_ok h.ok hi, h.tot, h.few⟩
theorem Good.move {s : Lgr} {m M i j x : Nat} (h : Good s m M) (hi : i < m) (hj : j < m) : Good (s.move i j x).2 m M := ⟨Lgr.move_ok h.ok hi hj, h.tot, h.few⟩
theorem Good.turn {s : Lgr} {m M i x : Nat} (h : Good s m M) : Good (s.turn i x).2 m M := ⟨Lgr.turn_ok h.ok, h.tot, h.few⟩
theorem Inn.lt {m : Nat} {who : Int} (h : Inn m who) : who.toNat < m := by
  obtain ⟨h1, h2⟩ := h
  omega
/-- A ledger, whose blocks are those of X, which lie between base and the world's end. -/
structure Lq (I : LgrP) (X : Nat → Prop) (σ : Nat) (w : World) (m : Nat) (s : Lgr) (M base : Nat) : Prop where
  mem : I X σ w m s
  good : Good s m M
  own : ∀ b, X b → base ≤ b ∧ b < w.heap.size
/-- What an operation of the code's leaves. -/
def LqP (I : LgrP) (X : Nat → Prop) (σ m M base : Nat) (w : World) (r : Nat × Lgr) (e : Ending) (w' : World) : Prop :=
  e = .returned (.int .i64 ((r.1 : Nat) : Int)) ∧ Only X w w' ∧ Lq I X σ w' m r.2 M base
section
variable {I : LgrP} (C : Keeps I)
include C
theorem Lq.only {X Y : Nat → Prop} {σ m M base : Nat} {w w' : World} {s : Lgr} (h : Lq I X σ w m s M base) (ho : Only Y w w') (hxy : ∀ b, X b → ¬ Y b) : Lq I X σ w' m s M base :=
  ⟨C.keep h.mem (fun b hb => ho.block b (h.own b hb).2 (hxy b hb)), h.good, fun b hb => ⟨(h.own b hb).1, Nat.lt_of_lt_of_le (h.own b hb).2 ho.size⟩⟩
theorem Lq.ext {X : Nat → Prop} {σ m M base : Nat} {w w' : World} {s : Lgr} (h : Lq I X σ w m s M base) (hx : Ext w w') : Lq I X σ w' m s M base := h.only C (Y := fun _ => False) (Only.of_ext hx) (fun _ _ h => h)
omit C in
theorem Lq.down {X : Nat → Prop} {σ m M base base' : Nat} {w : World} {s : Lgr} (h : Lq I X σ w m s M base) (hb : base' ≤ base) : Lq I X σ w m s M base' := ⟨h.mem, h.good, fun b hb' => ⟨Nat.le_trans hb (h.own b hb').1, (h.own b hb').2⟩⟩
omit C in
theorem OpP.lq {X : Nat → Prop} {σ m M base : Nat} {w : World} {s : Lgr} {r : Nat × Lgr} {e : Ending} {w' : World} (h : OpP I X σ m w r e w') (hq : Lq I X σ w m s M base) (hg : Good r.2 m M) : LqP I X σ m M base w r e w' :=
  ⟨h.1, h.2.1, h.2.2, hg, fun b hb => ⟨(hq.own b hb).1, Nat.lt_of_lt_of_le (hq.own b hb).2 h.2.1.size⟩⟩
end
end Go.Proofs.Ytnfgokbopndmgaa

/-
  The plain mathematics of linear equations over the field: what the kernel of some rows tells, which unknowns are free, the one solution whose free unknowns are 0, and the rank. Conditions: none; nothing of the program is named here.
-/
namespace Lin
open Gf (mul quo)
open Pol (xs co Sm)

/-- All are bytes. -/
def By (x : Nat → Nat) : Prop := ∀ k, x k < 256
/-- A row times unknowns. -/
def dot (N : Nat) (r x : Nat → Nat) : Nat := xs N fun k => mul (r k) (x k)
theorem dot_lt (N : Nat) (r x : Nat → Nat) : dot N r x < 256 := Pol.xs_lt N fun _ _ => Gf.mul_lt _ _
theorem dot_add (N : Nat) (r x y : Nat → Nat) (hr : By r) (hx : By x) (hy : By y) : dot N r (fun k => x k ^^^ y k) = dot N r x ^^^ dot N r y := by
  unfold dot
  rw [← Pol.xs_add]
  exact Pol.xs_congr N fun k _ => Gf.mul_add _ _ _ (hr k) (hx k) (hy k)
theorem dot_add_left (N : Nat) (r s x : Nat → Nat) (hr : By r) (hs : By s) (hx : By x) : dot N (fun k => r k ^^^ s k) x = dot N r x ^^^ dot N s x := by
  unfold dot
  rw [← Pol.xs_add]
  exact Pol.xs_congr N fun k _ => Gf.add_mul _ _ _ (hr k) (hs k) (hx k)
theorem dot_smul_left (N : Nat) (c : Nat) (r x : Nat → Nat) (hc : c < 256) (hr : By r) (hx : By x) : dot N (fun k => mul c (r k)) x = mul c (dot N r x) := by
  unfold dot
  rw [Pol.mul_xs c _ hc N fun _ _ => Gf.mul_lt _ _]
  exact Pol.xs_congr N fun k _ => Gf.mul_assoc _ _ _ hc (hr k) (hx k)
theorem dot_comm (N : Nat) (r x : Nat → Nat) : dot N r x = dot N x r := Pol.xs_congr N fun _ _ => Gf.mul_comm _ _
theorem dot_smul (N : Nat) (c : Nat) (r x : Nat → Nat) (hc : c < 256) (hr : By r) (hx : By x) : dot N r (fun k => mul c (x k)) = mul c (dot N r x) := by
  rw [dot_comm, dot_smul_left N c x r hc hx hr, dot_comm]
theorem dot_congr {N : Nat} {r s x y : Nat → Nat} (h : ∀ k, k < N → r k = s k) (h' : ∀ k, k < N → x k = y k) : dot N r x = dot N s y := Pol.xs_congr N fun k hk => by rw [h k hk, h' k hk]
theorem dot_zero (N : Nat) (r x : Nat → Nat) (h : ∀ k, k < N → r k = 0 ∨ x k = 0) : dot N r x = 0 := Pol.xs_zero N fun k hk => by
  rcases h k hk with e | e
  · rw [e, Gf.zero_mul]
  · rw [e, Gf.mul_zero]
theorem dot_single (N : Nat) (r x : Nat → Nat) (c : Nat) (hc : c < N) (h : ∀ k, k < N → k ≠ c → r k = 0 ∨ x k = 0) : dot N r x = mul (r c) (x c) :=
  Pol.xs_single _ c N hc fun k hk hne => by
    rcases h k hk hne with e | e
    · rw [e, Gf.zero_mul]
    · rw [e, Gf.mul_zero]

/-- Closed under sums and multiples. -/
structure IsLin (K : (Nat → Nat) → Prop) : Prop where
  add : ∀ x y, By x → By y → K x → K y → K (fun k => x k ^^^ y k)
  smul : ∀ c x, c < 256 → By x → K x → K (fun k => mul c (x k))
  /-- it depends on the values alone -/
  cong : ∀ x y, (∀ k, x k = y k) → K x → K y

/-- What all rows send to 0. -/
def KL (N : Nat) (rows : List (List Nat)) (x : Nat → Nat) : Prop := ∀ r ∈ rows, dot N (co r) x = 0
def Bytes (rows : List (List Nat)) : Prop := ∀ r ∈ rows, Sm r
theorem kl_lin (N : Nat) (rows : List (List Nat)) (h : Bytes rows) : IsLin (KL N rows) where
  add := fun x y hx hy h1 h2 r hr => by rw [dot_add N (co r) x y (h r hr) hx hy, h1 r hr, h2 r hr]; rfl
  smul := fun c x hc hx h1 r hr => by rw [dot_smul N c (co r) x hc (h r hr) hx, h1 r hr, Gf.mul_zero]
  cong := fun x y e h1 r hr => by rw [← h1 r hr]; exact dot_congr (fun _ _ => rfl) (fun k _ => (e k).symm)

/-- Something in K has its last part at c. -/
def Free (K : (Nat → Nat) → Prop) (c : Nat) : Prop := ∃ v, By v ∧ K v ∧ v c ≠ 0 ∧ ∀ j, c < j → v j = 0
def Alike (K K' : (Nat → Nat) → Prop) : Prop := ∀ x, By x → (K x ↔ K' x)
theorem Alike.symm {K K' : (Nat → Nat) → Prop} (h : Alike K K') : Alike K' K := fun x hx => (h x hx).symm
theorem Alike.trans {K K' K'' : (Nat → Nat) → Prop} (h : Alike K K') (k : Alike K' K'') : Alike K K'' := fun x hx => (h x hx).trans (k x hx)
theorem Alike.free {K K' : (Nat → Nat) → Prop} (h : Alike K K') (c : Nat) : Free K c ↔ Free K' c :=
  ⟨fun ⟨v, hv, k, r⟩ => ⟨v, hv, (h v hv).1 k, r⟩, fun ⟨v, hv, k, r⟩ => ⟨v, hv, (h v hv).2 k, r⟩⟩

/-- The unknowns, and 1 behind them. -/
def ext1 (n : Nat) (x : Nat → Nat) : Nat → Nat := fun k => if k < n then x k else if k = n then 1 else 0
theorem ext1_by (n : Nat) (x : Nat → Nat) (h : By x) : By (ext1 n x) := fun k => by
  unfold ext1
  split
  · exact h k
  · split <;> omega
/-- The solution whose free unknowns are 0; and: there is none. -/
structure SolSome (K : (Nat → Nat) → Prop) (n : Nat) (x : List Nat) : Prop where
  len : x.length = n
  sm : Sm x
  sol : K (ext1 n (co x))
  zero : ∀ c, c < n → Free K c → co x c = 0
def SolNone (K : (Nat → Nat) → Prop) (n : Nat) : Prop := ∀ x, By x → ¬ K (ext1 n x)
theorem SolSome.alike {K K' : (Nat → Nat) → Prop} {n : Nat} {x : List Nat} (h : SolSome K n x) (e : Alike K K') : SolSome K' n x :=
  ⟨h.len, h.sm, (e _ (ext1_by n _ h.sm)).1 h.sol, fun c hc hf => h.zero c hc ((e.free c).2 hf)⟩
theorem SolNone.alike {K K' : (Nat → Nat) → Prop} {n : Nat} (h : SolNone K n) (e : Alike K K') : SolNone K' n := fun x hx k => h x hx ((e _ (ext1_by n _ hx)).2 k)
theorem SolSome.not_none {K : (Nat → Nat) → Prop} {n : Nat} {x : List Nat} (h : SolSome K n x) : ¬ SolNone K n := fun k => k _ h.sm h.sol

theorem top_of : ∀ (n : Nat) (d : Nat → Nat), (∀ k, n ≤ k → d k = 0) → (∃ c, c < n ∧ d c ≠ 0 ∧ ∀ j, c < j → d j = 0) ∨ ∀ k, d k = 0
  | 0, _, h => .inr fun k => h k (Nat.zero_le _)
  | n + 1, d, h => by
    by_cases e : d n = 0
    · rcases top_of n d (fun k hk => by
        by_cases hk' : k = n
        · rw [hk', e]
        · exact h k (by omega)) with ⟨c, hc, r⟩ | r
      · exact .inl ⟨c, by omega, r⟩
      · exact .inr r
    · exact .inl ⟨n, by omega, e, fun j hj => h j (by omega)⟩

theorem list_ext {x y : List Nat} (hl : x.length = y.length) (h : ∀ i, i < x.length → co x i = co y i) : x = y := by
  apply List.ext_getElem hl
  intro i h1 h2
  have := h i h1
  unfold co at this
  rw [List.getElem?_eq_getElem h1, List.getElem?_eq_getElem h2] at this
  exact this
theorem sol_one {K : (Nat → Nat) → Prop} (hK : IsLin K) {n : Nat} {x y : List Nat} (h : SolSome K n x) (k : SolSome K n y) : x = y := by
  have hd := hK.add _ _ (ext1_by n _ h.sm) (ext1_by n _ k.sm) h.sol k.sol
  have hz : ∀ j, n ≤ j → (ext1 n (co x) j ^^^ ext1 n (co y) j) = 0 := fun j hj => by
    have e : ext1 n (co x) j = ext1 n (co y) j := by
      unfold ext1
      rw [if_neg (show ¬ j < n by omega), if_neg (show ¬ j < n by omega)]
    rw [e, Nat.xor_self]
  rcases top_of n _ hz with ⟨c, hc, hne, htop⟩ | hall
  · exfalso
    have hf : Free K c := ⟨_, fun j => Gf.xor_lt _ _ (ext1_by n _ h.sm j) (ext1_by n _ k.sm j), hd, hne, htop⟩
    apply hne
    unfold ext1
    rw [if_pos hc, if_pos hc, h.zero c hc hf, k.zero c hc hf]
    rfl
  · refine list_ext (h.len.trans k.len.symm) fun i hi => ?_
    have := hall i
    rw [h.len] at hi
    unfold ext1 at this
    rw [if_pos hi, if_pos hi] at this
    exact Gf.xor_zero_iff _ _ this
theorem kill {K : (Nat → Nat) → Prop} (hK : IsLin K) (n : Nat) (y : Nat → Nat) (hy : By y) (h : K (ext1 n y)) : ∀ t, ∃ z, By z ∧ K (ext1 n z) ∧ ∀ c, n - t ≤ c → c < n → Free K c → z c = 0
  | 0 => ⟨y, hy, h, fun c h1 h2 => by omega⟩
  | t + 1 => by
    obtain ⟨z, hz, hk, hf⟩ := kill hK n y hy h t
    by_cases ht : n - (t + 1) < n - t
    · by_cases hfr : Free K (n - (t + 1))
      · obtain ⟨v, hv, kv, hne, htop⟩ := hfr
        obtain ⟨c, hc⟩ : ∃ c, n - (t + 1) = c := ⟨_, rfl⟩
        rw [hc] at hne htop
        obtain ⟨q, hq⟩ : ∃ q, quo (z c) (v c) = q := ⟨_, rfl⟩
        have hq256 : q < 256 := by rw [← hq]; exact Gf.quo_lt _ _
        have hkill : z c ^^^ mul q (v c) = 0 := by rw [← hq, Gf.quo_mul _ _ (hz c) (hv c) hne, Nat.xor_self]
        refine ⟨fun k => z k ^^^ mul q (v k), fun k => Gf.xor_lt _ _ (hz k) (Gf.mul_lt _ _), ?_, fun c' h1 h2 h3 => ?_⟩
        · refine hK.cong _ _ (fun k => ?_) (hK.add _ _ (ext1_by n z hz) (fun k => Gf.mul_lt q (v k)) hk (hK.smul q v hq256 hv kv))
          unfold ext1
          by_cases hkn : k < n
          · rw [if_pos hkn, if_pos hkn]
          · rw [if_neg hkn, if_neg hkn, htop k (by omega), Gf.mul_zero, Nat.xor_zero]
        · by_cases e : c' = c
          · rw [e]; exact hkill
          · show z c' ^^^ mul q (v c') = 0
            rw [htop c' (by omega), Gf.mul_zero, Nat.xor_zero]
            exact hf c' (by omega) h2 h3
      · refine ⟨z, hz, hk, fun c' h1 h2 h3 => ?_⟩
        by_cases e : c' = n - (t + 1)
        · rw [e] at h3; exact absurd h3 hfr
        · exact hf c' (by omega) h2 h3
    · exact ⟨z, hz, hk, fun c' h1 h2 h3 => hf c' (by omega) h2 h3⟩
theorem sol_or {K : (Nat → Nat) → Prop} (hK : IsLin K) (n : Nat) : (∃ x, SolSome K n x) ∨ SolNone K n := by
  by_cases h : ∃ y, By y ∧ K (ext1 n y)
  · obtain ⟨y, hy, k⟩ := h
    obtain ⟨z, hz, kz, hf⟩ := kill hK n y hy k n
    refine .inl ⟨(List.range n).map z, by simp, fun i => ?_, ?_, fun c hc hfr => ?_⟩
    · unfold co
      rw [List.getElem?_map]
      by_cases hi : i < n
      · rw [List.getElem?_range hi]; exact hz i
      · rw [List.getElem?_eq_none (by simp; omega)]; simp
    · refine hK.cong _ _ (fun k => ?_) kz
      unfold ext1
      by_cases hk : k < n
      · rw [if_pos hk, if_pos hk]
        unfold co
        rw [List.getElem?_map, List.getElem?_range hk]; rfl
      · rw [if_neg hk, if_neg hk]
    · unfold co
      rw [List.getElem?_map, List.getElem?_range hc]
      exact hf c (by omega) hc hfr
  · exact .inr fun x hx k => h ⟨x, hx, k⟩

/-! ### Counting -/
def Cnt (P : Nat → Prop) : Nat → Nat → Prop
  | 0, d => d = 0
  | N + 1, d => (P N ∧ ∃ e, d = e + 1 ∧ Cnt P N e) ∨ (¬ P N ∧ Cnt P N d)
theorem cnt_is (P : Nat → Prop) : ∀ N, ∃ d, Cnt P N d
  | 0 => ⟨0, rfl⟩
  | N + 1 => by
    obtain ⟨d, h⟩ := cnt_is P N
    by_cases e : P N
    · exact ⟨d + 1, .inl ⟨e, d, rfl, h⟩⟩
    · exact ⟨d, .inr ⟨e, h⟩⟩
theorem cnt_le {P : Nat → Prop} : ∀ {N d : Nat}, Cnt P N d → d ≤ N
  | 0, d, h => by rw [show d = 0 from h]; exact Nat.le_refl _
  | N + 1, d, h => by
    rcases h with ⟨_, e, rfl, h⟩ | ⟨_, h⟩
    · have := cnt_le h; omega
    · have := cnt_le h; omega
/-- P' holds wherever P does; then it counts no less, and where it differs at one place at most, one more at most. -/
theorem cnt_sub {P P' : Nat → Prop} : ∀ {N d d' : Nat}, (∀ c, c < N → P c → P' c) → Cnt P N d → Cnt P' N d' → d ≤ d'
  | 0, d, d', _, h, h' => by rw [show d = 0 from h]; exact Nat.zero_le _
  | N + 1, d, d', hs, h, h' => by
    rcases h with ⟨p, e, rfl, h⟩ | ⟨p, h⟩ <;> rcases h' with ⟨p', e', rfl, h'⟩ | ⟨p', h'⟩
    · have := cnt_sub (fun c hc => hs c (by omega)) h h'; omega
    · exact absurd (hs N (by omega) p) p'
    · have := cnt_sub (fun c hc => hs c (by omega)) h h'; omega
    · exact cnt_sub (fun c hc => hs c (by omega)) h h'
theorem cnt_same {P P' : Nat → Prop} {N d d' : Nat} (hs : ∀ c, c < N → (P c ↔ P' c)) (h : Cnt P N d) (h' : Cnt P' N d') : d = d' :=
  Nat.le_antisymm (cnt_sub (fun c hc => (hs c hc).1) h h') (cnt_sub (fun c hc => (hs c hc).2) h' h)
theorem cnt_more {P P' : Nat → Prop} : ∀ {N d d' : Nat}, (∀ c c', c < N → c' < N → P' c → ¬ P c → P' c' → ¬ P c' → c = c') → Cnt P N d → Cnt P' N d' → d' ≤ d + 1
  | 0, d, d', _, _, h' => by rw [show d' = 0 from h']; omega
  | N + 1, d, d', hs, h, h' => by
    rcases h with ⟨p, e, rfl, h⟩ | ⟨p, h⟩ <;> rcases h' with ⟨p', e', rfl, h'⟩ | ⟨p', h'⟩
    · have := cnt_more (fun c c' h1 h2 => hs c c' (by omega) (by omega)) h h'; omega
    · have := cnt_more (fun c c' h1 h2 => hs c c' (by omega) (by omega)) h h'; omega
    · have := cnt_sub (P := P') (P' := P) (fun c hc hp' => by
        by_cases hp : P c
        · exact hp
        · have := hs c N (by omega) (by omega) hp' hp p' p; omega) h' h
      omega
    · have := cnt_more (fun c c' h1 h2 => hs c c' (by omega) (by omega)) h h'; omega
def NotFree (K : (Nat → Nat) → Prop) (c : Nat) : Prop := ¬ Free K c
theorem rank_alike {K K' : (Nat → Nat) → Prop} {N d d' : Nat} (e : Alike K K') (h : Cnt (NotFree K) N d) (h' : Cnt (NotFree K') N d') : d = d' :=
  cnt_same (fun c _ => not_congr (e.free c)) h h'

/-! ### One row more -/
theorem kl_snoc (N : Nat) (rows : List (List Nat)) (r : List Nat) (x : Nat → Nat) : KL N (rows ++ [r]) x ↔ KL N rows x ∧ dot N (co r) x = 0 := by
  unfold KL
  simp only [List.mem_append, List.mem_singleton]
  exact ⟨fun h => ⟨fun s hs => h s (.inl hs), h r (.inr rfl)⟩, fun h s hs => hs.elim (h.1 s) (fun e => e ▸ h.2)⟩
theorem snoc_rank {N d d' : Nat} {rows : List (List Nat)} {r : List Nat} (hb : Bytes rows) (hr : Sm r) (h : Cnt (NotFree (KL N rows)) N d) (h' : Cnt (NotFree (KL N (rows ++ [r]))) N d') : d ≤ d' ∧ d' ≤ d + 1 := by
  have hK := kl_lin N rows hb
  have key : ∀ c c', c < c' → Free (KL N rows) c → ¬ Free (KL N (rows ++ [r])) c → Free (KL N rows) c' → Free (KL N (rows ++ [r])) c' := by
    rintro c c' hcc ⟨v, hv, kv, hne, htop⟩ hnot ⟨v', hv', kv', hne', htop'⟩
    have h1 : dot N (co r) v ≠ 0 := fun e => hnot ⟨v, hv, (kl_snoc N rows r v).2 ⟨kv, e⟩, hne, htop⟩
    obtain ⟨q, hq⟩ : ∃ q, quo (dot N (co r) v') (dot N (co r) v) = q := ⟨_, rfl⟩
    have hq256 : q < 256 := by rw [← hq]; exact Gf.quo_lt _ _
    refine ⟨fun k => v' k ^^^ mul q (v k), fun k => Gf.xor_lt _ _ (hv' k) (Gf.mul_lt _ _), (kl_snoc N rows r _).2 ⟨hK.add _ _ hv' (fun k => Gf.mul_lt q (v k)) kv' (hK.smul q v hq256 hv kv), ?_⟩, ?_, fun j hj => ?_⟩
    · rw [dot_add N (co r) v' _ hr hv' (fun k => Gf.mul_lt q (v k)), dot_smul N q (co r) v hq256 hr hv, ← hq, Gf.quo_mul _ _ (dot_lt _ _ _) (dot_lt _ _ _) h1, Nat.xor_self]
    · show v' c' ^^^ mul q (v c') ≠ 0
      rw [htop c' hcc, Gf.mul_zero, Nat.xor_zero]
      exact hne'
    · show v' j ^^^ mul q (v j) = 0
      rw [htop' j hj, htop j (by omega), Gf.mul_zero]
      rfl
  constructor
  · refine cnt_sub (fun c _ hn => ?_) h h'
    intro hf
    apply hn
    obtain ⟨v, hv, kv, rest⟩ := hf
    exact ⟨v, hv, ((kl_snoc N rows r v).1 kv).1, rest⟩
  · refine cnt_more (fun c c' _ _ h1 h2 h3 h4 => ?_) h h'
    have f1 : Free (KL N rows) c := Classical.byContradiction fun e => h2 e
    have f2 : Free (KL N rows) c' := Classical.byContradiction fun e => h4 e
    rcases Nat.lt_trichotomy c c' with hlt | e | hgt
    · exact absurd (key c c' hlt f1 h1 f2) h3
    · exact e
    · exact absurd (key c' c hgt f2 h3 f1) h1
theorem none_rank {N d : Nat} (h : Cnt (NotFree (KL N [])) N d) : d = 0 := by
  have hf : ∀ c, Free (KL N []) c := fun c => ⟨fun k => if k = c then 1 else 0, fun k => by show (if k = c then 1 else 0) < 256; split <;> omega, fun r hr => absurd hr (by simp), by simp, fun j hj => if_neg (by omega)⟩
  have hz : ∀ M e, Cnt (NotFree (KL N [])) M e → e = 0 := by
    intro M
    induction M with
    | zero => intro e he; exact he
    | succ M ih =>
      intro e he
      rcases he with ⟨hp, _⟩ | ⟨_, he⟩
      · exact absurd (hf M) hp
      · exact ih e he
  exact hz N d h
theorem kl_mem {N : Nat} {rows rows' : List (List Nat)} (h : ∀ r, r ∈ rows ↔ r ∈ rows') : Alike (KL N rows) (KL N rows') := fun _ _ => ⟨fun k r hr => k r ((h r).2 hr), fun k r hr => k r ((h r).1 hr)⟩
theorem rank_le {N : Nat} : ∀ (rows : List (List Nat)), Bytes rows → ∀ d, Cnt (NotFree (KL N rows)) N d → d ≤ rows.length
  | [], _, d, h => by rw [none_rank h]; exact Nat.zero_le _
  | r :: rows, hb, d, h => by
    obtain ⟨e, he⟩ := cnt_is (NotFree (KL N rows)) N
    obtain ⟨d', hd'⟩ := cnt_is (NotFree (KL N (rows ++ [r]))) N
    have hb' : Bytes rows := fun s hs => hb s (List.mem_cons_of_mem _ hs)
    have h1 := (snoc_rank hb' (hb r (by simp)) he hd').2
    have h2 := rank_le rows hb' e he
    have h3 : d = d' := rank_alike (kl_mem fun s => by simp [or_comm]) h hd'
    rw [List.length_cons]
    omega
end Lin

/-
  What layer 8's functions are to answer: numbers as varints, and what is read of bytes. Conditions: none; no function is named here.
-/
namespace Go.Proofs.Ytnfgokbopndmgaa
open Go.RowKit
open Pol (co Sm)

/-- What is read, and what is left; or an error. -/
inductive Rs (α : Type) where
  | ok (a : α) (rest : List Nat)
  | er (e : Nat)
  deriving DecidableEq
/-- A number's bytes. -/
def vn (n : Nat) : List Nat := if n < 128 then [n] else (n % 128 + 128) :: vn (n / 128)
termination_by n
decreasing_by omega
/-- A number is read: i bytes were, that come to n. -/
def rv (most : Nat) : Nat → Nat → List Nat → Rs Nat
  | _, _, [] => .er 2
  | i, n, b :: l => if i = 9 ∧ 1 < b ∨ 0 < i ∧ b = 0 then .er 14 else if b < 128 then (if most < n + b % 128 * 128 ^ i then .er 10 else .ok (n + b % 128 * 128 ^ i) l) else rv most (i + 1) (n + b % 128 * 128 ^ i) l
def rdN (most : Nat) (l : List Nat) : Rs Nat := rv most 0 0 l
/-- So many bytes are read. -/
def rdB (n : Nat) (l : List Nat) : Rs (List Nat) := if l.length < n then .er 2 else .ok (l.take n) (l.drop n)
def Rs.bind {α β : Type} (r : Rs α) (f : α → List Nat → Rs β) : Rs β := match r with | .ok a l => f a l | .er e => .er e
def rdT (longest : Nat) (l : List Nat) : Rs (List Nat) := (rdN longest l).bind rdB
def vt (t : List Nat) : List Nat := vn t.length ++ t

theorem vn_lt {n : Nat} (h : n < 128) : vn n = [n] := by rw [vn, if_pos h]
theorem vn_ge {n : Nat} (h : ¬ n < 128) : vn n = (n % 128 + 128) :: vn (n / 128) := by rw [vn, if_neg h]
theorem vn_sm : ∀ n, Sm (vn n) := fun n => by
  induction n using Nat.strongRecOn with
  | _ n ih =>
    by_cases h : n < 128
    · rw [vn_lt h]; exact Sm.cons (by omega) Sm.nil
    · rw [vn_ge h]; exact Sm.cons (by omega) (ih _ (by omega))
theorem vn_pos : ∀ n, 0 < (vn n).length := fun n => by
  by_cases h : n < 128
  · rw [vn_lt h]; simp
  · rw [vn_ge h]; simp
/-- A number of i bytes more is no more than ten bytes long. -/
theorem vn_len : ∀ (k n : Nat), n < 128 ^ (k + 1) → (vn n).length ≤ k + 1
  | 0, n, h => by rw [vn_lt (by omega)]; simp
  | k + 1, n, h => by
    by_cases hn : n < 128
    · rw [vn_lt hn]; simp
    · rw [vn_ge hn, List.length_cons]
      have := vn_len k (n / 128) (by rw [Nat.pow_succ] at h; omega)
      omega
theorem vn_zero : ∀ n l, vn n ≠ 0 :: l ∨ (n = 0 ∧ l = []) := fun n l => by
  by_cases h : n < 128
  · rw [vn_lt h]
    by_cases h0 : n = 0
    · by_cases hl : l = []
      · exact .inr ⟨h0, hl⟩
      · left; intro e; injection e with _ e; exact hl e.symm
    · left; intro e; injection e with e _; exact h0 e
  · rw [vn_ge h]
    left; intro e; injection e with e _; omega

/-- What was laid is read. -/
theorem rv_vn (most : Nat) (rest : List Nat) : ∀ (k i n acc : Nat), i + k = 9 → (i = 0 ∨ 0 < n) → n < 2 ^ (64 - 7 * i) → acc + n * 128 ^ i ≤ most ∨ most < acc + n * 128 ^ i →
    rv most i acc (vn n ++ rest) = if most < acc + n * 128 ^ i then .er 10 else .ok (acc + n * 128 ^ i) rest
  | k, i, n, acc, hik, h0, hn, _ => by
    by_cases h : n < 128
    · rw [vn_lt h, List.singleton_append, rv, if_neg, if_pos h, Nat.mod_eq_of_lt h]
      rintro (⟨h9, h1⟩ | ⟨hi, hz⟩)
      · subst h9
        have : n < 2 ^ 1 := hn
        omega
      · omega
    · have hi : i ≠ 9 := fun e => by
        subst e
        have : n < 2 ^ 1 := hn
        omega
      rw [vn_ge h, List.cons_append, rv, if_neg (by omega), if_neg (by omega)]
      have e1 : acc + (n % 128 + 128) % 128 * 128 ^ i + n / 128 * 128 ^ (i + 1) = acc + n * 128 ^ i := by
        rw [Nat.add_mod_right, Nat.mod_mod, Nat.pow_succ, Nat.add_assoc]
        congr 1
        rw [Nat.mul_comm (128 ^ i) 128, ← Nat.mul_assoc, ← Nat.add_mul]
        congr 1
        omega
      match k, hik with
      | 0, hik => omega
      | k + 1, hik =>
        rw [rv_vn most rest k (i + 1) (n / 128) _ (by omega) (.inr (by omega)) (by
          have e : 64 - 7 * i = (64 - 7 * (i + 1)) + 7 := by omega
          rw [e, Nat.pow_add] at hn
          omega) (by omega), e1]
theorem rdN_vn (most n : Nat) (rest : List Nat) (h : n < 2 ^ 64) : rdN most (vn n ++ rest) = if most < n then .er 10 else .ok n rest := by
  unfold rdN
  rw [rv_vn most rest 9 0 n 0 (by omega) (.inl rfl) h (by omega), Nat.pow_zero, Nat.mul_one, Nat.zero_add]
/-- What is read was laid so. -/
theorem sm_head {b : Nat} {l : List Nat} (h : Sm (b :: l)) : b < 256 := by have := h 0; rwa [Pol.co_zero] at this
theorem sm_tail {b : Nat} {l : List Nat} (h : Sm (b :: l)) : Sm l := fun i => by have := h (i + 1); rwa [Pol.co_succ] at this
theorem vn_rv (most : Nat) : ∀ (l : List Nat) (i acc n : Nat) (rest : List Nat), Sm l → i ≤ 9 → rv most i acc l = .ok n rest → ∃ m, l = vn m ++ rest ∧ n = acc + m * 128 ^ i ∧ m < 2 ^ (64 - 7 * i) ∧ (i = 0 ∨ 0 < m) ∧ n ≤ most
  | [], _, _, _, _, _, _, h => by rw [rv] at h; cases h
  | b :: l, i, acc, n, rest, hs, hi, h => by
    rw [rv] at h
    split at h
    · cases h
    · rename_i hk
      split at h
      · rename_i hb
        split at h
        · cases h
        · rename_i hm
          injection h with h1 h2
          subst h1; subst h2
          refine ⟨b, by rw [vn_lt hb]; rfl, by rw [Nat.mod_eq_of_lt hb], ?_, by omega, by omega⟩
          rcases Nat.lt_or_ge i 9 with h9 | h9
          · exact Nat.lt_of_lt_of_le hb (by
              have : 2 ^ 7 ≤ 2 ^ (64 - 7 * i) := Nat.pow_le_pow_right (by omega) (by omega)
              exact this)
          · obtain rfl : i = 9 := by omega
            show b < 2 ^ 1
            omega
      · rename_i hb
        have hi9 : i ≠ 9 := fun e => by omega
        obtain ⟨m, rfl, rfl, hm, hpos, hle⟩ := vn_rv most l (i + 1) _ n rest (sm_tail hs) (by omega) h
        have hm0 : 0 < m := by omega
        have hb2 := sm_head hs
        refine ⟨b % 128 + m * 128, ?_, ?_, ?_, .inr (by omega), hle⟩
        · rw [vn_ge (n := b % 128 + m * 128) (by omega), show (b % 128 + m * 128) / 128 = m from by omega, show (b % 128 + m * 128) % 128 + 128 = b from by omega]
          rfl
        · rw [Nat.pow_succ, Nat.add_mul, Nat.add_assoc]
          congr 1
          rw [Nat.mul_comm (128 ^ i) 128, ← Nat.mul_assoc]
        · have e : 64 - 7 * i = (64 - 7 * (i + 1)) + 7 := by omega
          rw [e, Nat.pow_add]
          omega
theorem vn_rdN {most n : Nat} {l rest : List Nat} (hs : Sm l) (h : rdN most l = .ok n rest) : l = vn n ++ rest ∧ n < 2 ^ 64 ∧ n ≤ most := by
  obtain ⟨m, h1, h2, h3, _, h4⟩ := vn_rv most l 0 0 n rest hs (by omega) h
  rw [Nat.pow_zero, Nat.mul_one, Nat.zero_add] at h2
  subst h2
  exact ⟨h1, h3, h4⟩
/-- What was laid, and cut short, is too short. -/
theorem rv_cut (most : Nat) : ∀ (k i n acc c : Nat), i + k = 9 → (i = 0 ∨ 0 < n) → n < 2 ^ (64 - 7 * i) → c < (vn n).length → rv most i acc ((vn n).take c) = .er 2
  | k, i, n, acc, 0, _, _, _, _ => by rw [List.take_zero, rv]
  | k, i, n, acc, c + 1, hik, h0, hn, hc => by
    by_cases h : n < 128
    · rw [vn_lt h] at hc
      simp at hc
    · have hi : i ≠ 9 := fun e => by
        subst e
        have : n < 2 ^ 1 := hn
        omega
      rw [vn_ge h, List.length_cons] at hc
      rw [vn_ge h, List.take_succ_cons, rv, if_neg (by omega), if_neg (by omega)]
      match k, hik with
      | 0, hik => omega
      | k + 1, hik =>
        exact rv_cut most k (i + 1) (n / 128) _ c (by omega) (.inr (by omega)) (by
          have e : 64 - 7 * i = (64 - 7 * (i + 1)) + 7 := by omega
          rw [e, Nat.pow_add] at hn
          omega) (by omega)
theorem rdN_cut (most n c : Nat) (h : n < 2 ^ 64) (hc : c < (vn n).length) : rdN most ((vn n).take c) = .er 2 := rv_cut most 9 0 n 0 c (by omega) (.inl rfl) h hc
theorem rdT_vt (longest : Nat) (t rest : List Nat) (h : t.length < 2 ^ 64) : rdT longest (vt t ++ rest) = if longest < t.length then .er 10 else .ok t rest := by
  unfold rdT vt
  rw [List.append_assoc, rdN_vn _ _ _ h]
  split
  · rfl
  · unfold Rs.bind rdB
    simp only
    rw [if_neg (by rw [List.length_append]; omega), List.take_left, List.drop_left]
theorem vt_rdT {longest : Nat} {l t rest : List Nat} (hs : Sm l) (h : rdT longest l = .ok t rest) : l = vt t ++ rest ∧ t.length ≤ longest ∧ t.length < 2 ^ 64 := by
  unfold rdT at h
  cases hn : rdN longest l with
  | er e => rw [hn] at h; cases h
  | ok n r =>
    rw [hn] at h
    unfold Rs.bind rdB at h
    simp only at h
    split at h
    · cases h
    · rename_i hl
      injection h with h1 h2
      obtain ⟨e1, e2, e3⟩ := vn_rdN hs hn
      have hlen : t.length = n := by rw [← h1, List.length_take]; omega
      refine ⟨?_, by omega, by omega⟩
      unfold vt
      rw [hlen, e1, List.append_assoc, ← h1, ← h2, List.take_append_drop]
theorem rdB_ok {n : Nat} {l t rest : List Nat} (h : rdB n l = .ok t rest) : l = t ++ rest ∧ t.length = n := by
  unfold rdB at h
  split at h
  · cases h
  · injection h with h1 h2
    exact ⟨by rw [← h1, ← h2, List.take_append_drop], by rw [← h1, List.length_take]; omega⟩
theorem rdB_app (t rest : List Nat) : rdB t.length (t ++ rest) = .ok t rest := by
  unfold rdB
  rw [if_neg (by rw [List.length_append]; omega), List.take_left, List.drop_left]
/-- An error is not 0. -/
theorem rv_er (most : Nat) : ∀ (l : List Nat) (i n e : Nat), rv most i n l = .er e → 0 < e ∧ e < 17
  | [], _, _, _, h => by rw [rv] at h; injection h with h; omega
  | b :: l, i, n, e, h => by
    rw [rv] at h
    split at h
    · injection h with h; omega
    · split at h
      · split at h
        · injection h with h; omega
        · cases h
      · exact rv_er most l _ _ e h
theorem rdN_er {most e : Nat} {l : List Nat} (h : rdN most l = .er e) : 0 < e ∧ e < 17 := rv_er most l 0 0 e h
theorem rdB_er {n e : Nat} {l : List Nat} (h : rdB n l = .er e) : 0 < e ∧ e < 17 := by
  unfold rdB at h
  split at h
  · injection h with h; omega
  · cases h
theorem rdT_er {m e : Nat} {l : List Nat} (h : rdT m l = .er e) : 0 < e ∧ e < 17 := by
  unfold rdT at h
  cases hr : rdN m l with
  | er e' =>
    rw [hr] at h
    injection h with h
    rw [← h]
    exact rdN_er hr
  | ok n r =>
    rw [hr] at h
    exact rdB_er h
theorem sm_app {a b : List Nat} (ha : Sm a) (hb : Sm b) : Sm (a ++ b) := Pol.co_lt_of fun z hz => by
  rcases List.mem_append.1 hz with h | h
  · exact ha.mem z h
  · exact hb.mem z h
theorem sm_split {a b : List Nat} (h : Sm (a ++ b)) : Sm a ∧ Sm b := ⟨Pol.co_lt_of fun z hz => h.mem z (List.mem_append.2 (.inl hz)), Pol.co_lt_of fun z hz => h.mem z (List.mem_append.2 (.inr hz))⟩
theorem vt_sm {t : List Nat} (h : Sm t) : Sm (vt t) := sm_app (vn_sm _) h
theorem vn_ten {n : Nat} (h : n < 18446744073709551616) : (vn n).length ≤ 10 := vn_len 9 n (by omega)
end Go.Proofs.Ytnfgokbopndmgaa

/-
  Orders in plain numbers: which can be, their bytes, what is read of bytes. Conditions: none; no function is named here.
-/
namespace Go.Proofs.Ytnfgokbopndmgaa
open Go.RowKit
open Pol (co Sm)

/-- An order: its kind, whom it is for, how much, the memo. -/
structure Od where
  k : Int
  t : Int
  a : Nat
  m : List Nat
def Od.zero : Od := ⟨0, 0, 0, []⟩
def Od.right (o : Od) : Prop := o.m.length ≤ 16 ∧ ((o.k = 1 ∧ 0 ≤ o.t ∧ o.t < 6) ∨ (o.k = 2 ∧ o.t = 0 ∧ o.a = 0))
instance (o : Od) : Decidable o.right := inferInstanceAs (Decidable (_ ∧ _))
def Od.enc (o : Od) : List Nat := vn o.k.toNat ++ vn o.t.toNat ++ vn o.a ++ vt o.m
/-- The bytes, or none. -/
def Od.bytes (o : Od) : List Nat := if o.right then o.enc else []
def Od.code (o : Od) : Nat := if o.right then 0 else 1
/-- What is read, and what is left. -/
def rdO (b : List Nat) : Rs Od := (rdN 2 b).bind fun k b1 => (rdN 5 b1).bind fun t b2 => (rdN 18446744073709551615 b2).bind fun a b3 => (rdT 16 b3).bind fun m b4 => .ok ⟨(k : Int), (t : Int), a, m⟩ b4
def dec14 (b : List Nat) : Nat × Od := match rdO b with
  | .er n => (n, Od.zero)
  | .ok o rest => if rest ≠ [] then (3, Od.zero) else if o.right then (0, o) else (14, Od.zero)
theorem Od.right_bounds {o : Od} (h : o.right) : 0 ≤ o.k ∧ o.k ≤ 2 ∧ 0 ≤ o.t ∧ o.t ≤ 5 ∧ o.m.length ≤ 16 := by
  obtain ⟨h1, h2 | h2⟩ := h
  · omega
  · omega
theorem rdN_of {m n : Nat} (rest : List Nat) (h : n < 18446744073709551616) (hm : n ≤ m) : rdN m (vn n ++ rest) = .ok n rest := by
  rw [rdN_vn m n rest (by omega), if_neg (by omega)]
theorem rdO_enc {o : Od} (h : o.right) (ha : o.a < 18446744073709551616) : rdO o.enc = .ok o [] := by
  obtain ⟨h1, h2, h3, h4, h5⟩ := Od.right_bounds h
  unfold rdO Od.enc
  rw [List.append_assoc, List.append_assoc, rdN_of _ (by omega) (by omega)]
  show ((rdN 5 _).bind _ : Rs Od) = _
  rw [rdN_of _ (by omega) (by omega)]
  show ((rdN _ _).bind _ : Rs Od) = _
  rw [rdN_of _ ha (by omega)]
  show ((rdT _ _).bind _ : Rs Od) = _
  have e := rdT_vt 16 o.m [] (by omega)
  rw [List.append_nil, if_neg (by omega)] at e
  rw [e]
  show (Rs.ok (⟨((o.k.toNat : Nat) : Int), ((o.t.toNat : Nat) : Int), o.a, o.m⟩ : Od) [] : Rs Od) = _
  rw [Int.toNat_of_nonneg h1, Int.toNat_of_nonneg h3]
theorem dec_enc {o : Od} (h : o.right) (ha : o.a < 18446744073709551616) : dec14 o.enc = (0, o) := by
  unfold dec14
  rw [rdO_enc h ha]
  show (if ([] : List Nat) ≠ [] then _ else _) = _
  rw [if_neg (by simp), if_pos h]
/-- What is read, its parts one by one. -/
theorem rdO_ok {b rest : List Nat} {o : Od} (hs : Sm b) (h : rdO b = .ok o rest) : b = o.enc ++ rest ∧ 0 ≤ o.k ∧ 0 ≤ o.t ∧ o.a < 18446744073709551616 := by
  unfold rdO at h
  cases h1 : rdN 2 b with
  | er n => rw [h1] at h; cases h
  | ok k b1 =>
    rw [h1] at h
    obtain ⟨e1, f1, _⟩ := vn_rdN hs h1
    have hs1 : Sm b1 := (sm_split (e1 ▸ hs)).2
    change ((rdN 5 b1).bind _ : Rs Od) = _ at h
    cases h2 : rdN 5 b1 with
    | er n => rw [h2] at h; cases h
    | ok t b2 =>
      rw [h2] at h
      obtain ⟨e2, f2, _⟩ := vn_rdN hs1 h2
      have hs2 : Sm b2 := (sm_split (e2 ▸ hs1)).2
      change ((rdN 18446744073709551615 b2).bind _ : Rs Od) = _ at h
      cases h3 : rdN 18446744073709551615 b2 with
      | er n => rw [h3] at h; cases h
      | ok a b3 =>
        rw [h3] at h
        obtain ⟨e3, f3, g3⟩ := vn_rdN hs2 h3
        have hs3 : Sm b3 := (sm_split (e3 ▸ hs2)).2
        change ((rdT 16 b3).bind _ : Rs Od) = _ at h
        cases h4 : rdT 16 b3 with
        | er n => rw [h4] at h; cases h
        | ok m b4 =>
          rw [h4] at h
          obtain ⟨e4, _, _⟩ := vt_rdT hs3 h4
          have h' : (Rs.ok (⟨(k : Int), (t : Int), a, m⟩ : Od) b4 : Rs Od) = .ok o rest := h
          injection h' with h5 h6
          subst h5 h6
          refine ⟨?_, by dsimp only; omega, by dsimp only; omega, by dsimp only; omega⟩
          unfold Od.enc
          dsimp only
          rw [Int.toNat_natCast, Int.toNat_natCast, e1, e2, e3, e4]
          simp only [List.append_assoc]
theorem dec_ok {b : List Nat} (hs : Sm b) (h : (dec14 b).1 = 0) : (dec14 b).2.right ∧ (dec14 b).2.enc = b ∧ (dec14 b).2.a < 18446744073709551616 := by
  unfold dec14 at h ⊢
  cases h1 : rdO b with
  | er n =>
    rw [h1] at h
    exfalso
    have hn : n = 0 := h
    have : ∀ {α : Type} {r : Rs α} {f : α → List Nat → Rs Od} {n : Nat}, (∀ e, r = .er e → 0 < e) → (∀ a l, r = .ok a l → ∀ e, f a l = .er e → 0 < e) → r.bind f = .er n → 0 < n := fun {α} {r} {f} {n} h1 h2 h => by
      cases r with
      | er e => exact h1 _ (by injection h with h; rw [h])
      | ok a l => exact h2 a l rfl n h
    have h0 := this (fun e he => (rdN_er he).1) (fun k b1 _ e he => this (fun e he => (rdN_er he).1) (fun t b2 _ e he => this (fun e he => (rdN_er he).1) (fun a b3 _ e he => this (fun e he => (rdT_er he).1) (fun m b4 _ e he => by cases he) he) he) he) h1
    omega
  | ok o rest =>
    rw [h1] at h
    obtain ⟨e1, e2, e3, e4⟩ := rdO_ok hs h1
    dsimp only at h ⊢
    by_cases hr : rest = []
    · rw [if_neg (by simpa using hr)] at h ⊢
      by_cases ho : o.right
      · rw [if_pos ho] at h ⊢
        refine ⟨ho, ?_, e4⟩
        rw [e1, hr, List.append_nil]
      · rw [if_neg ho] at h
        cases h
    · rw [if_pos hr] at h
      cases h
theorem Od.enc_len {o : Od} (h : o.right) (ha : o.a < 18446744073709551616) : 4 ≤ o.enc.length ∧ o.enc.length ≤ 29 ∧ o.m.length < o.enc.length := by
  obtain ⟨h1, h2, h3, h4, h5⟩ := Od.right_bounds h
  have a1 := vn_pos o.k.toNat
  have a2 := vn_pos o.t.toNat
  have a3 := vn_pos o.a
  have a4 := vn_ten ha
  have b1 : (vn o.k.toNat).length = 1 := by rw [vn_lt (by omega)]; rfl
  have b2 : (vn o.t.toNat).length = 1 := by rw [vn_lt (by omega)]; rfl
  have b3 : (vn o.m.length).length = 1 := by rw [vn_lt (by omega)]; rfl
  unfold Od.enc vt
  simp only [List.length_append]
  omega
theorem Od.enc_sm {o : Od} (h : Sm o.m) : Sm o.enc := by
  unfold Od.enc
  exact sm_app (sm_app (sm_app (vn_sm _) (vn_sm _)) (vn_sm _)) (vt_sm h)
theorem Od.bytes_sm {o : Od} (h : Sm o.m) : Sm o.bytes := by
  unfold Od.bytes
  split
  · exact Od.enc_sm h
  · exact Sm.nil
theorem Od.bytes_len {o : Od} (ha : o.a < 18446744073709551616) : o.bytes.length ≤ 29 := by
  unfold Od.bytes
  split
  · rename_i h; exact (Od.enc_len h ha).2.1
  · simp
/-- Two orders that can be have the same bytes just if they are one. -/
theorem Od.enc_one {o p : Od} (ho : o.right) (hp : p.right) (ha : o.a < 18446744073709551616) (hb : p.a < 18446744073709551616) : o.enc = p.enc ↔ o = p := by
  constructor
  · intro h
    have h1 := rdO_enc ho ha
    rw [h, rdO_enc hp hb] at h1
    injection h1 with h1
    exact h1.symm
  · intro h; rw [h]
theorem dec_bounds {b : List Nat} (hs : Sm b) : (dec14 b).2.a < 18446744073709551616 ∧ (dec14 b).2.m.length ≤ 16 ∧ Sm (dec14 b).2.m := by
  by_cases h : (dec14 b).1 = 0
  · obtain ⟨h1, h2, h3⟩ := dec_ok hs h
    refine ⟨h3, h1.1, ?_⟩
    rw [← h2] at hs
    unfold Od.enc vt at hs
    exact (sm_split (sm_split hs).2).2
  · have hz : (dec14 b).2 = Od.zero := by
      unfold dec14 at h ⊢
      cases h1 : rdO b with
      | er n => rfl
      | ok o rest =>
        rw [h1] at h
        dsimp only at h ⊢
        split
        · rfl
        · rename_i hr
          rw [if_neg hr] at h
          split
          · rename_i ho; rw [if_pos ho] at h; exact absurd rfl h
          · rfl
    rw [hz]
    exact ⟨by decide, by decide, Sm.nil⟩
end Go.Proofs.Ytnfgokbopndmgaa

/-
  Which orders the document's own Right of layer 14 takes. Conditions: none.
-/
namespace Go.Proofs.Ytnfgokbopndmgaa
open Go.RowKit
open Pol (co Sm)

def RightN (k t : Int) (a n : Nat) : Prop := n ≤ 16 ∧ ((k = 1 ∧ 0 ≤ t ∧ t < 6) ∨ (k = 2 ∧ t = 0 ∧ a = 0))
instance (k t : Int) (a n : Nat) : Decidable (RightN k t a n) := inferInstanceAs (Decidable (_ ∧ _))
set_option maxHeartbeats 1600000 in
theorem ref14_right (k t : Int) (a n c : Nat) (A : Option Addr) (w : World) : Calls Try.prog 27 #[.agg #[.int .i64 k, .int .i64 t, .int .u64 (a : Int), .slice A n c]] w (Tells (.bool (decide (RightN k t a n))) w) := by
  by_cases h0 : 16 < n
  · have d0 : decide ((n : Int) > 16) = true := decide_eq_true (by omega)
    have d0' : decide (16 < (n : Int)) = true := decide_eq_true (by omega)
    rw [show decide (RightN k t a n) = false from decide_eq_false (by unfold RightN; omega)]
    go_enter Try.func27, Try.ntmps27
    go_wp2
    go_ret
    exact ⟨rfl, (Ext.refl _).alloc _⟩
  have d0 : decide ((n : Int) > 16) = false := decide_eq_false (by omega)
  have d0' : decide (16 < (n : Int)) = false := decide_eq_false (by omega)
  by_cases h1 : k = 1
  · by_cases h2 : 0 ≤ t
    · have d2 : decide (t ≥ 0) = true := decide_eq_true (by omega)
      have d2' : decide (0 ≤ t) = true := decide_eq_true (by omega)
      by_cases h3 : t < 6
      · have d3 : decide (t < 6) = true := decide_eq_true h3
        rw [show decide (RightN k t a n) = true from decide_eq_true (by unfold RightN; omega)]
        subst h1
        go_enter Try.func27, Try.ntmps27
        go_wp2
        go_ret
        exact ⟨rfl, (Ext.refl _).alloc _⟩
      · have d3 : decide (t < 6) = false := decide_eq_false h3
        rw [show decide (RightN k t a n) = false from decide_eq_false (by unfold RightN; omega)]
        subst h1
        go_enter Try.func27, Try.ntmps27
        go_wp2
        go_ret
        exact ⟨rfl, (Ext.refl _).alloc _⟩
    · have d2 : decide (t ≥ 0) = false := decide_eq_false (by omega)
      have d2' : decide (0 ≤ t) = false := decide_eq_false (by omega)
      rw [show decide (RightN k t a n) = false from decide_eq_false (by unfold RightN; omega)]
      subst h1
      go_enter Try.func27, Try.ntmps27
      go_wp2
      go_ret
      exact ⟨rfl, (Ext.refl _).alloc _⟩
  have d1 : (k == 1) = false := by simp; omega
  have d1' : decide (k = 1) = false := decide_eq_false h1
  by_cases h4 : k = 2
  · by_cases h5 : t = 0
    · by_cases h6 : a = 0
      · have HD := Lib.hid (show decide (RightN k t a n) = true from decide_eq_true (by unfold RightN; omega))
        rw [HD.out]
        subst h4 h5 h6
        go_enter Try.func27, Try.ntmps27
        go_wp2
        go_ret
        exact ⟨rfl, (Ext.refl _).alloc _⟩
      · have d6 : ((a : Int) == 0) = false := by simp; omega
        have d6' : decide ((a : Int) = 0) = false := decide_eq_false (by omega)
        have d6'' : decide (a = 0) = false := decide_eq_false h6
        have HD := Lib.hid (show decide (RightN k t a n) = false from decide_eq_false (by unfold RightN; omega))
        rw [HD.out]
        subst h4 h5
        go_enter Try.func27, Try.ntmps27
        go_wp2
        go_ret
        exact ⟨rfl, (Ext.refl _).alloc _⟩
    · have d5 : (t == 0) = false := by simp; omega
      have d5' : decide (t = 0) = false := decide_eq_false h5
      have HD := Lib.hid (show decide (RightN k t a n) = false from decide_eq_false (by unfold RightN; omega))
      rw [HD.out]
      subst h4
      go_enter Try.func27, Try.ntmps27
      go_wp2
      go_ret
      exact ⟨rfl, (Ext.refl _).alloc _⟩
  · have d4 : (k == 2) = false := by simp; omega
    have d4' : decide (k = 2) = false := decide_eq_false h4
    rw [show decide (RightN k t a n) = false from decide_eq_false (by unfold RightN; omega)]
    go_enter Try.func27, Try.ntmps27
    go_wp2
    go_ret
    exact ⟨rfl, (Ext.refl _).alloc _⟩
end Go.Proofs.Ytnfgokbopndmgaa

/-
  Slices of bytes of a call's own that are handed back. Conditions: none.
-/
namespace Go.Proofs.Ytnfgokbopndmgaa
open Go.RowKit
open Pol (co Sm)

theorem mine_ext {w w' : World} {base : Nat} {v : Value} {l : List Nat} (h : Mine w base v l) (hx : Ext w w') : Mine w' base v l :=
  World.ownsRow.kept h (row := none) ⟨hx.below.os, hx.below.tape, hx.below.output, hx.below.size, fun k hk _ => hx.below.block k hk⟩ (by
    cases hb : v.ownBlock with
    | none => exact .inl rfl
    | some k => exact .inr (by simp))
theorem Mine.down {w : World} {base base' : Nat} {v : Value} {l : List Nat} (h : Mine w base v l) (hb : base' ≤ base) : Mine w base' v l :=
  ⟨h.1, h.2.imp id fun ⟨g, cap, cur, h1, h2, h3⟩ => ⟨g, cap, cur, h1, Nat.le_trans hb h2, h3⟩⟩
theorem Mine.nil (w : World) (base : Nat) : Mine w base (.slice none 0 0) [] := World.ownsRow_nil w base _ _
theorem Mine.block {w : World} {base : Nat} {v : Value} {l : List Nat} (h : Mine w base v l) : ∀ k, v.ownBlock = some k → base ≤ k ∧ k < w.heap.size := fun k hk => World.ownsRow.lt h k hk
/-- A list, in a block that was laid since. -/
def GivesM (l : List Nat) (w : World) (e : Ending) (w' : World) : Prop := ∃ v, e = .returned v ∧ Mine w' w.heap.size v l ∧ Sm l ∧ Ext w w'
theorem gives_m {w w' : World} {v : Value} {l m : List Nat} (hm : Mine w' w.heap.size v l) (hl : l = m) (hs : Sm m) (hx : Ext w w') : GivesM m w (.returned v) w' := by
  subst hl
  exact ⟨v, rfl, hm, hs, hx⟩
theorem GivesM.gives {l : List Nat} {w : World} {e : Ending} {w' : World} (h : GivesM l w e w') : Gives l w e w' := by
  obtain ⟨v, rfl, hm, hs, hx⟩ := h
  exact gives_of hm rfl hs hx
theorem GivesM.after {l : List Nat} {w w1 : World} {e : Ending} {w' : World} (h : GivesM l w1 e w') (hx : Ext w w1) : GivesM l w e w' := by
  obtain ⟨v, rfl, hm, hs, hx'⟩ := h
  exact ⟨v, rfl, hm.down hx.size, hs, hx.trans hx'⟩
end Go.Proofs.Ytnfgokbopndmgaa

/-
  What the document's own Number and Text of layer 8 do. Conditions: no more than 2^20 bytes.
-/
namespace Go.Proofs.Ytnfgokbopndmgaa
open Go.RowKit
open Pol (co Sm)

/-- Bytes of a call's own. -/
def OwnE (l : List Nat) (w : World) (e : Ending) (w' : World) : Prop := ∃ v, e = .returned v ∧ Mine w' w.heap.size v l ∧ Ext w w'

set_option maxHeartbeats 1600000 in
set_option maxRecDepth 100000 in
theorem ref8_number (n : Nat) (w : World) (hn : n < 18446744073709551616) : Calls Try.prog 31 #[.int .u64 (n : Int)] w (OwnE (vn n) w) := by
  unfold OwnE
  have HSM := Lib.hid (vn_sm n)
  have HTEN := Lib.hid (vn_ten hn)
  have hn10 : n < 128 ^ (9 + 1) := by omega
  obtain ⟨V, hV⟩ : ∃ V, vn n = V := ⟨_, rfl⟩
  rw [hV] at HSM HTEN
  rw [hV]
  have HV := Lib.hid hV
  clear hV
  go_enter Try.func31, Try.ntmps31
  go_wp2
  go_loopg [0, 3] 9 (fun g s0 s3 wx => ∃ (m : Nat) (acc : List Nat) (B : Option Addr) (c : Nat), m < 128 ^ (g + 1) ∧ s0 = .int .u64 (m : Int) ∧ m < 18446744073709551616 ∧ acc ++ vn m = V ∧ s3 = .slice B acc.length c ∧ Mine wx w.heap.size (.slice B acc.length c) acc ∧ Ext w wx)
  case atStart => exact ⟨n, [], none, 0, hn10, rfl, hn, HV.out, rfl, Mine.nil _ _, Ext.refl _⟩
  case round =>
    obtain ⟨m, acc, B, c, hmg, rfl, hm64, hac, rfl, hmi, hx⟩ := hrel
    have HM := Lib.hid hmi
    have HX := Lib.hid hx
    have hlen : acc.length ≤ 10 := by have := HTEN.out; rw [← hac, List.length_append] at this; omega
    obtain ⟨la, hla⟩ : ∃ la, acc.length = la := ⟨_, rfl⟩
    have HLA := Lib.hid hla
    rw [hla] at HM hlen ⊢
    clear hmi hx hla
    by_cases h128 : m < 128
    · have d1 : decide (128 ≤ (m : Int)) = false := decide_eq_false (by omega)
      have e1 : IntKind.u8.wrap (m : Int) = (m : Int) := IntWalk.u8_in _ (by omega)
      have HAV := Lib.hid (show acc ++ [m] = V from by rw [← hac, vn_lt h128])
      have hm256 : m < 256 := by omega
      clear hac hmg
      go_wp2_with (at_builtin; refine wpList_append_rd rfl (.tmp 15) (.tmp 18) rfl w.heap.size _ acc [m] rfl (mine_ext HM.out ((Ext.refl _).alloc _)) (some ⟨wr.heap.size, 0, none⟩) 1 1 rfl rfl (rd_one wr m hm256) (by rw [HLA.out]; simp; omega) (by simp; have := HX.out.size; omega) ?_; intro v' w3 hown' hg' hat'; rw [HAV.out] at hown'; have hx3 := (HX.out.alloc (.cells #[.int .u8 (m : Int)] 5)).more hg' (fun r e => (HM.out.block r e).1); obtain ⟨Bv, cv, ev', hcv, _⟩ := hown'.slice HSM.out; subst ev'; have HO := Lib.hid hown'; have HX3 := Lib.hid hx3; clear hown' hg' hat' hx3)
      go_ret
      exact ⟨_, rfl, HO.out, HX3.out⟩
    · cases gk with
      | zero => omega
      | succ g =>
        have d1 : decide (128 ≤ (m : Int)) = true := decide_eq_true (by omega)
        obtain ⟨q, hq⟩ : ∃ q, m % 128 = q := ⟨_, rfl⟩
        obtain ⟨y, hy⟩ : ∃ y, q + 128 = y := ⟨_, rfl⟩
        obtain ⟨m2, hm2⟩ : ∃ m2, m / 128 = m2 := ⟨_, rfl⟩
        have e1 : (m : Int) % 128 = (q : Int) := by omega
        have e1' : (m : Int).tmod 128 = (q : Int) := by rw [Int.tmod_eq_emod_of_nonneg (by omega)]; exact e1
        have e2 : IntKind.u64.wrap (q : Int) = (q : Int) := by rw [IntKind.wrap_u64]; omega
        have e3 : IntKind.u64.wrap ((q : Int) + 128) = (y : Int) := by rw [IntKind.wrap_u64]; omega
        have e4 : IntKind.u8.wrap (y : Int) = (y : Int) := IntWalk.u8_in _ (by omega)
        have e5 : (m : Int) / 128 = (m2 : Int) := by omega
        have e5' : (m : Int).tdiv 128 = (m2 : Int) := by rw [Int.tdiv_eq_ediv_of_nonneg (by omega)]; exact e5
        have e6 : IntKind.u64.wrap (m2 : Int) = (m2 : Int) := by rw [IntKind.wrap_u64]; omega
        have hy256 : y < 256 := by omega
        have HAV := Lib.hid (show (acc ++ [y]) ++ vn m2 = V from by rw [← hac, vn_ge h128, List.append_assoc, hq, hy, hm2]; rfl)
        have HS9 := Lib.hid (show Sm (acc ++ [y]) from (sm_split (b := vn m2) (by rw [HAV.out]; exact HSM.out)).1)
        have HL9 := Lib.hid (show (acc ++ [y]).length = la + 1 by rw [List.length_append, HLA.out]; rfl)
        have hm2b : m2 < 128 ^ (g + 1) := by rw [← hm2]; rw [Nat.pow_succ] at hmg; omega
        have hm2c : m2 < 18446744073709551616 := by omega
        clear hac hq hy hm2 hmg
        go_wp2_with (at_builtin; refine wpList_append_rd rfl (.tmp 6) (.tmp 11) rfl w.heap.size _ acc [y] rfl (mine_ext HM.out ((Ext.refl _).alloc _)) (some ⟨wr.heap.size, 0, none⟩) 1 1 rfl rfl (rd_one wr y hy256) (by rw [HLA.out]; simp; omega) (by simp; have := HX.out.size; omega) ?_; intro v' w3 hown' hg' hat'; have hx3 := (HX.out.alloc (.cells #[.int .u8 (y : Int)] 5)).more hg' (fun r e => (HM.out.block r e).1); obtain ⟨Bv, cv, ev', hcv, _⟩ := hown'.slice HS9.out; rw [HL9.out] at ev'; subst ev'; have HO := Lib.hid hown'; have HX3 := Lib.hid hx3; clear hown' hg' hat' hx3)
        go_roundg g
        case measure => omega
        case rel => exact ⟨m2, acc ++ [y], Bv, cv, hm2b, rfl, hm2c, HAV.out, by rw [HL9.out], by rw [HL9.out]; exact HO.out, HX3.out⟩

set_option maxHeartbeats 1600000 in
theorem ref8_text (s : List Nat) (A : Option Addr) (ca : Nat) (w : World) (hr : Rd w A s) (hl : s.length ≤ 1048576) : Calls Try.prog 32 #[.slice A s.length ca] w (OwnE (vt s) w) := by
  have HN := Lib.hid (ref8_number s.length w (by omega))
  have HR := Lib.hid hr
  have HS := Lib.hid (vt_sm hr.1)
  have HSN := Lib.hid (vn_sm s.length)
  have HTEN := Lib.hid (vn_ten (n := s.length) (by omega))
  have HVT := Lib.hid (show vn s.length ++ s = vt s from rfl)
  unfold OwnE at *
  clear hr
  generalize hn : s.length = n at *
  have HL := Lib.hid hn
  clear hn
  have e1 : IntKind.u64.wrap (n : Int) = (n : Int) := by rw [IntKind.wrap_u64]; omega
  generalize vn n = V at *
  go_enter Try.func32, Try.ntmps32
  go_wp2_with fail
  refine HN.out.mono ?_
  rintro e w1 ⟨v, rfl, hm, hx⟩
  obtain ⟨B, c, ev, hc, _⟩ := hm.slice HSN.out
  subst ev
  have HM := Lib.hid hm
  have HX := Lib.hid hx
  clear hm hx
  obtain ⟨lv, hlv⟩ : ∃ lv, V.length = lv := ⟨_, rfl⟩
  have HLV := Lib.hid hlv
  rw [hlv] at HM hc HTEN ⊢
  clear hlv
  go_wp2_with (at_builtin; refine wpList_append_rd rfl (.tmp 6) (.tmp 7) rfl w.heap.size _ V s rfl HM.out A n ca rfl HL.out (HR.out.ext HX.out) (by rw [HLV.out, HL.out]; have := HTEN.out; omega) (by have := HX.out.size; omega) ?_; intro v' w3 hown' hg' hat'; rw [HVT.out] at hown'; have hx3 := HX.out.more hg' (fun r e => (HM.out.block r e).1); obtain ⟨Bv, cv, ev', hcv, _⟩ := hown'.slice HS.out; subst ev'; have HO := Lib.hid hown'; have HX3 := Lib.hid hx3; clear hown' hg' hat' hx3)
  go_ret
  exact ⟨_, rfl, HO.out, HX3.out⟩
end Go.Proofs.Ytnfgokbopndmgaa

/-
  What the document's own Encode of layer 14 does. Conditions: no more than 2^16 bytes.
-/
namespace Go.Proofs.Ytnfgokbopndmgaa
open Go.RowKit
open Pol (co Sm)

/-- The bytes of an order, and the error's number. -/
def EncR (o : Od) (w : World) (e : Ending) (w' : World) : Prop :=
  Ext w w' ∧ ∃ B n c, e = .returned (.tuple #[.slice B n c, .int .i64 ((o.code : Nat) : Int)]) ∧ o.bytes.length = n ∧ n ≤ c ∧ Rd w' B o.bytes
theorem EncR.no {o : Od} {w : World} (h : ¬ o.right) {w' : World} (hx : Ext w w') : EncR o w (.returned (.tuple #[.slice none 0 0, .int .i64 1])) w' := by
  refine ⟨hx, none, 0, 0, ?_, ?_, Nat.le_refl _, ?_⟩
  · unfold Od.code; rw [if_neg h]; rfl
  · unfold Od.bytes; rw [if_neg h]; rfl
  · unfold Od.bytes; rw [if_neg h]; exact Rd.nil _ _
theorem mine_two14 (w : World) (x y : Nat) : Mine (w.alloc (.cells #[.int .u8 (x : Int), .int .u8 (y : Int)] 5)) w.heap.size (.slice (some ⟨w.heap.size, 0, none⟩) 2 2) [x, y] :=
  World.ownsRow_lit w #[.int .u8 (x : Int), .int .u8 (y : Int)] 2 (Nat.le_refl _) (by decide) rfl
theorem right_is {k t : Int} {a : Nat} {m : List Nat} {n : Nat} (h : m.length = n) : decide (RightN k t a n) = decide (Od.right ⟨k, t, a, m⟩) := by
  subst h
  exact decide_eq_decide.2 Iff.rfl
set_option maxHeartbeats 3200000 in
set_option maxRecDepth 100000 in
theorem ref14_encode (k t : Int) (a n c : Nat) (m : List Nat) (A : Option Addr) (w : World) (hn : m.length = n) (hr : Rd w A m) (hl : n ≤ 65536) (ha : a < 18446744073709551616) :
    Calls Try.prog 11 #[.agg #[.int .i64 k, .int .i64 t, .int .u64 (a : Int), .slice A n c]] w (EncR ⟨k, t, a, m⟩ w) := by
  have HRI := Lib.hid (fun u => ref14_right k t a n c A u)
  rw [right_is hn] at HRI
  have hx0 := (Ext.refl w).alloc (.cells #[.int .i64 k, .int .i64 t, .int .u64 (a : Int), .slice A n c] 25)
  have HX0 := Lib.hid hx0
  by_cases ho : Od.right ⟨k, t, a, m⟩
  · rw [decide_eq_true ho] at HRI
    obtain ⟨b1, b2, b3, b4, _⟩ := Od.right_bounds ho
    dsimp only at b1 b2 b3 b4
    have HE := Lib.hid (show Od.bytes ⟨k, t, a, m⟩ = [k.toNat, t.toNat] ++ vn a ++ vt m ∧ Od.code ⟨k, t, a, m⟩ = 0 from by
      unfold Od.bytes Od.code Od.enc
      rw [if_pos ho, if_pos ho]
      dsimp only
      rw [vn_lt (show k.toNat < 128 by omega), vn_lt (show t.toNat < 128 by omega)]
      exact ⟨rfl, rfl⟩)
    have HSM := Lib.hid (Od.bytes_sm (o := ⟨k, t, a, m⟩) hr.1)
    obtain ⟨kk, rfl⟩ : ∃ q : Nat, (q : Int) = k := ⟨k.toNat, by omega⟩
    obtain ⟨tt, rfl⟩ : ∃ q : Nat, (q : Int) = t := ⟨t.toNat, by omega⟩
    rw [Int.toNat_natCast, Int.toNat_natCast] at HE
    have w8 : IntKind.u8.wrap (kk : Int) = (kk : Int) := by rw [IntKind.wrap_u8]; omega
    have w8' : IntKind.u8.wrap (tt : Int) = (tt : Int) := by rw [IntKind.wrap_u8]; omega
    have HNUM := Lib.hid (fun u => ref8_number a u ha)
    have HTEN := Lib.hid (vn_ten ha)
    have HSMN := Lib.hid (vn_sm a)
    have HTXT := Lib.hid (fun u (h : Ext w u) => show Calls Try.prog 32 #[.slice A n c] u (OwnE (vt m) u) from by
      have h := ref8_text m A c u (hr.ext h) (by omega)
      rwa [hn] at h)
    have HSMT := Lib.hid (vt_sm hr.1)
    have HVT := Lib.hid (show (vt m).length ≤ 65546 from by
      unfold vt
      have h1 := vn_ten (n := m.length) (by omega)
      rw [List.length_append]
      omega)
    unfold EncR
    rw [HE.out.2]
    rw [HE.out.1] at HSM ⊢
    have hkI : (0 : Int) ≤ (kk : Int) := by omega
    clear hr ho HE b1 b2 b3 b4 hx0
    obtain ⟨VA, hVA⟩ : ∃ V, vn a = V := ⟨_, rfl⟩
    obtain ⟨VT, hVT⟩ : ∃ V, vt m = V := ⟨_, rfl⟩
    rw [hVA] at HNUM HTEN HSMN HSM ⊢
    rw [hVT] at HTXT HSMT HVT HSM ⊢
    clear hVA hVT
    have b0 := cell_of_row _ w.heap.size 0 _ _ _ (heap_alloc_new w (.cells #[.int .i64 (kk : Int), .int .i64 (tt : Int), .int .u64 (a : Int), .slice A n c] 25))
    have b1 := cell_of_row _ w.heap.size 1 _ _ _ (heap_alloc_new w (.cells #[.int .i64 (kk : Int), .int .i64 (tt : Int), .int .u64 (a : Int), .slice A n c] 25))
    have b2 := cell_of_row _ w.heap.size 2 _ _ _ (heap_alloc_new w (.cells #[.int .i64 (kk : Int), .int .i64 (tt : Int), .int .u64 (a : Int), .slice A n c] 25))
    have b3 := cell_of_row _ w.heap.size 3 _ _ _ (heap_alloc_new w (.cells #[.int .i64 (kk : Int), .int .i64 (tt : Int), .int .u64 (a : Int), .slice A n c] 25))
    simp only [List.getElem?_toArray, List.getElem?_cons_zero, List.getElem?_cons_succ] at b0 b1 b2 b3
    have HB := Lib.hid (And.intro b0 (And.intro b1 (And.intro b2 b3)))
    clear b0 b1 b2 b3
    go_enter Try.func11, Try.ntmps11
    go_wp2_with fail
    refine (HRI.out _).mono ?_
    rintro e w1 ⟨rfl, hx1⟩
    obtain ⟨q0, q1, q2, q3⟩ := HB.out
    have c0 := hx1.at q0
    have c1 := hx1.at q1
    have hx2 := hx1.trans ((Ext.refl w1).alloc (.cells #[.int .u8 (kk : Int), .int .u8 (tt : Int)] 5))
    have c2 := hx2.at q2
    have HX2 := Lib.hid (HX0.out.trans hx2)
    have HB2 := Lib.hid (hx2.at q3)
    have HM2 := Lib.hid (mine_two14 w1 kk tt)
    have HS1 := Lib.hid (HX0.out.trans hx1).size
    have HS1' := Lib.hid (show w.heap.size + 1 ≤ w1.heap.size from by have h := hx1.size; simp at h; exact h)
    clear hx1 hx2 q0 q1 q2 q3
    go_wp2_with fail
    refine (HNUM.out _).mono ?_
    rintro e w3 ⟨v3, rfl, hm3, hx3⟩
    obtain ⟨B3, c3, rfl, hc3, hr3⟩ := hm3.slice HSMN.out
    have HX3 := Lib.hid (HX2.out.trans hx3)
    have HB3 := Lib.hid (hx3.at HB2.out)
    have HM3 := Lib.hid ((mine_ext HM2.out hx3).down (base' := w.heap.size) HS1.out)
    have HR3 := Lib.hid hr3
    obtain ⟨la, hla⟩ : ∃ q, VA.length = q := ⟨_, rfl⟩
    have HLA := Lib.hid hla
    rw [hla] at hc3 HTEN ⊢
    clear hx3 hm3 hr3 hla HM2 HB2
    go_wp2_with (first | (at_builtin; refine wpList_append_rd rfl (.tmp 15) (.tmp 18) rfl w.heap.size _ [kk, tt] VA rfl HM3.out B3 la c3 rfl HLA.out HR3.out (by rw [HLA.out]; have := HTEN.out; simp; omega) HX3.out.size ?_; intro v4 w4 hm4 hg4 _; have hx4 := HX3.out.more hg4 (fun r e => (HM3.out.block r e).1); have HX4 := Lib.hid hx4; have hb4 := hg4.cell HB3.out (fun e => by change some _ = some _ at e; injection e with e; dsimp only at e; have h := HS1'.out; omega); have HM4 := Lib.hid hm4; clear hm4 hg4 hx4) | fail)
    refine (HTXT.out _ HX4.out).mono ?_
    rintro e w5 ⟨v5, rfl, hm5, hx5⟩
    obtain ⟨B5, c5, rfl, hc5, hr5⟩ := hm5.slice HSMT.out
    have HX5 := Lib.hid (HX4.out.trans hx5)
    have HM5 := Lib.hid (mine_ext HM4.out hx5)
    have HR5 := Lib.hid hr5
    obtain ⟨lt, hlt⟩ : ∃ q, VT.length = q := ⟨_, rfl⟩
    have HLT := Lib.hid hlt
    rw [hlt] at hc5 HVT ⊢
    clear hx5 hm5 hr5 hlt HM4 hb4 HM3 HB3
    go_wp2_with (first | (at_builtin; refine wpList_append_rd rfl (.tmp 20) (.tmp 23) rfl w.heap.size _ ([kk, tt] ++ VA) VT rfl HM5.out B5 lt c5 rfl HLT.out HR5.out (by rw [HLT.out, List.length_append, HLA.out]; have := HTEN.out; have := HVT.out; simp; omega) HX5.out.size ?_; intro v6 w6 hm6 hg6 _; have HX6 := Lib.hid (HX5.out.more hg6 (fun r e => (HM5.out.block r e).1)); obtain ⟨B6, c6, rfl, hc6, hr6⟩ := hm6.slice HSM.out; have HR6 := Lib.hid hr6; have HC6 := Lib.hid hc6; clear hm6 hg6 hr6 hc6) | fail)
    go_ret2
    have h6 := HC6.out
    simp only [List.length_append, List.length_cons, List.length_nil] at h6
    exact ⟨HX6.out, _, _, _, rfl, by simp, by omega, HR6.out⟩
  · rw [decide_eq_false ho] at HRI
    have HO := Lib.hid ho
    clear hr hx0 ho
    go_enter Try.func11, Try.ntmps11
    go_wp2_with fail
    refine (HRI.out _).mono ?_
    rintro e w1 ⟨rfl, hx1⟩
    have HX1 := Lib.hid (HX0.out.trans hx1)
    clear hx1
    go_wp2
    go_ret2
    exact EncR.no HO.out HX1.out
end Go.Proofs.Ytnfgokbopndmgaa

/-
  Two slices that read as one list are the same to the statements' own comparison. Conditions: none.
-/
namespace Go.Proofs.Ytnfgokbopndmgaa
open Go.RowKit
open Pol (co Sm)

set_option maxHeartbeats 400000 in
set_option maxRecDepth 100000 in
theorem same_true (l : List Nat) (A B : Option Addr) (ca cb : Nat) (w : World) (ha : Rd w A l) (hb : Rd w B l) (hl : l.length ≤ 1048576) :
    Calls Try.prog 14 #[.slice A l.length ca, .slice B l.length cb] w (Hands (.bool true) w) := by
  generalize hn : l.length = n at *
  have HA := Lib.hid ha
  have HB := Lib.hid hb
  have HN := Lib.hid hn
  clear ha hb hn
  go_enter Try.func14, Try.ntmps14
  go_wp2
  go_loopg [13] n (fun g s wx => ∃ k m : Nat, k + g = n ∧ s = .int .i64 (k : Int) ∧ wx = w.drewN m)
  case atStart => exact ⟨0, 0, by omega, rfl, rfl⟩
  case round =>
    obtain ⟨k, m, hkg, rfl, rfl⟩ := hrel
    cases gk with
    | zero =>
      obtain rfl : k = n := by omega
      clear hkg
      go_wp2
      go_ret
      exact ⟨rfl, m, rfl⟩
    | succ g =>
      have hk : k < n := by omega
      obtain ⟨b, o, rfl, hc⟩ := HA.out.2 k (by rw [HN.out]; exact hk)
      obtain ⟨b', o', rfl, hc'⟩ := HB.out.2 k (by rw [HN.out]; exact hk)
      have hkI : (k : Int) < (n : Int) := by omega
      go_wp2
      go_quiet (fail)
      go_wp2
      go_roundg g
      case measure => omega
      case rel => exact ⟨k + 1, _, by omega, by go_num, rfl⟩
theorem same_tells (l : List Nat) (A B : Option Addr) (ca cb : Nat) (w : World) (ha : Rd w A l) (hb : Rd w B l) (hl : l.length ≤ 1048576) :
    Calls Try.prog 14 #[.slice A l.length ca, .slice B l.length cb] w (Tells (.bool true) w) := (same_true l A B ca cb w ha hb hl).mono fun _ _ h => h.tells
end Go.Proofs.Ytnfgokbopndmgaa

/-
  What it is to lay something behind bytes of a call's own. Conditions: none; no function is named here.
-/
namespace Go.Proofs.Ytnfgokbopndmgaa
open Go.RowKit
open Pol (co Sm)

/-- What lays something behind bytes of a call's own. -/
def Lays (base : Nat) (v : Value) (l : List Nat) (w : World) (e : Ending) (w' : World) : Prop :=
  ∃ v', e = .returned v' ∧ Mine w' base v' l ∧ w.grownBy w' v.ownBlock ∧ (v'.ownBlock = v.ownBlock ∨ ∃ k, v'.ownBlock = some k ∧ w.heap.size ≤ k)
/-- From v in world w on, vx has come in world wx. -/
def LayS (w wx : World) (v vx : Value) : Prop := w.grownBy wx v.ownBlock ∧ (vx.ownBlock = v.ownBlock ∨ ∃ k, vx.ownBlock = some k ∧ w.heap.size ≤ k)
theorem LayS.refl (w : World) (v : Value) : LayS w w v v := ⟨⟨rfl, rfl, rfl, Nat.le_refl _, fun _ _ _ => rfl⟩, .inl rfl⟩
theorem LayS.step {w wx w' : World} {v vx v' : Value} (h : LayS w wx v vx) (hg : wx.grownBy w' vx.ownBlock) (ha : v'.ownBlock = vx.ownBlock ∨ v'.ownBlock = some wx.heap.size) : LayS w w' v v' := by
  refine ⟨⟨hg.os.trans h.1.os, hg.tape.trans h.1.tape, hg.output.trans h.1.output, Nat.le_trans h.1.size hg.size, fun k hk hne => (hg.block k (Nat.lt_of_lt_of_le hk h.1.size) ?_).trans (h.1.block k hk hne)⟩, ?_⟩
  · intro e
    rcases h.2 with e' | ⟨b, e', hb⟩
    · exact hne (e.trans e')
    · rw [e'] at e
      injection e with e
      omega
  · rcases ha with e | e
    · rcases h.2 with e' | ⟨b, e', hb⟩
      · exact .inl (e.trans e')
      · exact .inr ⟨b, e.trans e', hb⟩
    · exact .inr ⟨_, e, h.1.size⟩
theorem LayS.alloc {w wx : World} {v vx : Value} (h : LayS w wx v vx) (o : Obj) : LayS w (wx.alloc o) v vx :=
  ⟨⟨h.1.os, h.1.tape, h.1.output, by simp; have := h.1.size; omega, fun k hk hne => (heap_alloc_old _ _ (Nat.lt_of_lt_of_le hk h.1.size)).trans (h.1.block k hk hne)⟩, h.2⟩
theorem LayS.lays {w w' : World} {base : Nat} {v v' : Value} {l : List Nat} (h : LayS w w' v v') (hm : Mine w' base v' l) : Lays base v l w (.returned v') w' := ⟨v', rfl, hm, h.1, h.2⟩

set_option maxRecDepth 100000 in
theorem or8_128 : ∀ b : Nat, b < 256 → bits .or .u8 (b : Int) 128 = ((b % 128 + 128 : Nat) : Int) := by decide

theorem LayS.ext {w wx wy : World} {v vx : Value} (h : LayS w wx v vx) (hx : Ext wx wy) : LayS w wy v vx :=
  ⟨⟨hx.below.os.trans h.1.os, hx.below.tape.trans h.1.tape, hx.below.output.trans h.1.output, Nat.le_trans h.1.size hx.size, fun k hk hne => (hx.below.block k (Nat.lt_of_lt_of_le hk h.1.size)).trans (h.1.block k hk hne)⟩, h.2⟩

end Go.Proofs.Ytnfgokbopndmgaa

/-
  The statements' own comparison of bytes tells lists that are unlike from those that are alike. Conditions: no more than 2^20 bytes.
-/
namespace Go.Proofs.Ytnfgokbopndmgaa
open Go.RowKit
open Pol (co Sm)

set_option maxHeartbeats 400000 in
set_option maxRecDepth 100000 in
theorem same_no (l m : List Nat) (A B : Option Addr) (ca cb : Nat) (w : World) (ha : Rd w A l) (hb : Rd w B m) (hl : l.length ≤ 1048576) (h : l ≠ m) :
    Calls Try.prog 14 #[.slice A l.length ca, .slice B m.length cb] w (Hands (.bool false) w) := by
  by_cases hlm : l.length = m.length
  · rw [← hlm]
    have HNE := Lib.hid (fun (k : ∀ j, j < l.length → co l j = co m j) => h (Lin.list_ext hlm k))
    have HLM := Lib.hid hlm
    generalize hn : l.length = n at *
    have HA := Lib.hid ha
    have HB := Lib.hid hb
    have HN := Lib.hid hn
    clear ha hb hn h hlm
    go_enter Try.func14, Try.ntmps14
    go_wp2
    go_loopg [13] n (fun g s wx => ∃ k q : Nat, k + g = n ∧ s = .int .i64 (k : Int) ∧ wx = w.drewN q ∧ ∀ j, j < k → co l j = co m j)
    case atStart => exact ⟨0, 0, by omega, rfl, rfl, fun j hj => by omega⟩
    case round =>
      obtain ⟨k, q, hkg, rfl, rfl, hsame⟩ := hrel
      have HSA := Lib.hid hsame
      clear hsame
      cases gk with
      | zero =>
        obtain rfl : k = n := by omega
        exact absurd HSA.out HNE.out
      | succ g =>
        have hk : k < n := by omega
        obtain ⟨b, o, rfl, hc⟩ := HA.out.2 k (by rw [HN.out]; exact hk)
        obtain ⟨b', o', rfl, hc'⟩ := HB.out.2 k (by rw [← HLM.out]; exact hk)
        have hkI : (k : Int) < (n : Int) := by omega
        obtain ⟨x, hx⟩ : ∃ x, co l k = x := ⟨_, rfl⟩
        obtain ⟨y, hy⟩ : ∃ y, co m k = y := ⟨_, rfl⟩
        rw [hx] at hc
        rw [hy] at hc'
        by_cases e : x = y
        · have t : ((x : Int) != (y : Int)) = false := by subst e; simp
          have HE := Lib.hid (show co l k = co m k by rw [hx, hy]; exact e)
          clear e hx hy
          go_wp2
          go_quiet (fail)
          go_wp2
          go_roundg g
          case measure => omega
          case rel => exact ⟨k + 1, _, by omega, by go_num, rfl, fun j hj => by
            by_cases e : j = k
            · subst e; exact HE.out
            · exact HSA.out j (by omega)⟩
        · have t : ((x : Int) != (y : Int)) = true := by simp; omega
          clear e hx hy
          go_wp2
          go_quiet (fail)
          go_wp2
          go_ret
          exact ⟨rfl, q + nq, by rw [World.drewN_drewN]⟩
  · have t : ((l.length : Int) != (m.length : Int)) = true := by simp; omega
    generalize l.length = n at *
    generalize m.length = n' at *
    clear ha hb h
    go_enter Try.func14, Try.ntmps14
    go_wp2
    go_ret
    exact ⟨rfl, 0, rfl⟩
end Go.Proofs.Ytnfgokbopndmgaa

/-
  What a reader of layer 8 is in memory (which the code decides), and how a reading ends. Conditions: none.
-/
namespace Go.Proofs.Ytnfgokbopndmgaa
open Go.RowKit
open Pol (co Sm)

/-- The blocks from lo on, below hi. -/
def Btw (lo hi k : Nat) : Prop := lo ≤ k ∧ k < hi
/-- What a reader is in memory: between which blocks its own lie, where its bytes lie, where it is, and what is left; and how a reading ends with an error. -/
structure Rdr where
  RI : Nat → Nat → Option Addr → Addr → World → List Nat → Prop
  St : Nat → Nat → Option Addr → Addr → World → Nat → List PanicEntry → Prop
/-- A call of a reader's method. -/
def Reads {α : Type} (I : Rdr) (lo hi : Nat) (B : Option Addr) (ρ : Addr) (V : Value → World → α → Prop) (r : Rs α) (w : World) (e : Ending) (w' : World) : Prop :=
  Only (Btw lo hi) w w' ∧ match r with
    | .ok a rest => ∃ v, e = .returned v ∧ V v w' a ∧ I.RI lo hi B ρ w' rest
    | .er n => ∃ ch, e = .panicked ch ∧ I.St lo hi B ρ w' n ch
/-- Bytes of a call's own. -/
def OwnB (base : Nat) (v : Value) (w : World) (t : List Nat) : Prop := ∃ B c, v = .slice B t.length c ∧ t.length ≤ c ∧ Rd w B t ∧ ∀ b o, B = some ⟨b, o, none⟩ → 0 < t.length → base ≤ b
def dg (t : List Nat) : Value := .agg (bv t).toArray
/-- What the function that reads does: it comes to its end, or ends by an error of the reader's, or panics by itself with an integer. -/
inductive By where
  | done (l : List Nat)
  | fails (n : Nat)
  | dies (x : Int)
def ByE (I : Rdr) (lo hi : Nat) (B : Option Addr) (ρ : Addr) (J : Nat → World → By → Prop) (e : Ending) (w : World) : Prop :=
  (∃ l v, e = .returned v ∧ I.RI lo hi B ρ w l ∧ J hi w (.done l)) ∨ (∃ n ch, e = .panicked ch ∧ I.St lo hi B ρ w n ch ∧ J hi w (.fails n)) ∨
  (∃ x, e = .panicked [{ v := .iface 3 (.int .i64 x), recovered := false }] ∧ (∃ l, I.RI lo hi B ρ w l) ∧ J hi w (.dies x))
def endOf : By → Ending → Prop
  | .done l, e => e = .returned (.int .i64 (if l = [] then 0 else 3))
  | .fails n, e => e = .returned (.int .i64 (n : Int))
  | .dies x, e => ∃ older : List PanicEntry, e = .panicked ({ v := .iface 3 (.int .i64 x), recovered := false } :: older) ∧ ∀ p ∈ older, p.goexit = false
def ReadE (J : Nat → World → By → Prop) (w : World) (e : Ending) (w' : World) : Prop := ∃ hi w2 y, w.heap.size ≤ hi ∧ J hi w2 y ∧ Only (Btw w.heap.size hi) w2 w' ∧ endOf y e
theorem ByE.mono {I : Rdr} {lo hi : Nat} {B : Option Addr} {ρ : Addr} {J J' : Nat → World → By → Prop} {e : Ending} {w : World} (h : ByE I lo hi B ρ J e w) (hJ : ∀ w y, J hi w y → J' hi w y) : ByE I lo hi B ρ J' e w := by
  rcases h with ⟨l, v, h1, h2, h3⟩ | ⟨n, ch, h1, h2, h3⟩ | ⟨x, h1, h2, h3⟩
  · exact .inl ⟨l, v, h1, h2, hJ _ _ h3⟩
  · exact .inr (.inl ⟨n, ch, h1, h2, hJ _ _ h3⟩)
  · exact .inr (.inr ⟨x, h1, h2, hJ _ _ h3⟩)
theorem Rd.block' {w : World} {A : Option Addr} {l : List Nat} (h : Rd w A l) : ∀ b o, A = some ⟨b, o, none⟩ → 0 < l.length → b < w.heap.size := fun b o e hl => by
  obtain ⟨b', o', e', hc⟩ := h.2 0 hl
  rw [e] at e'
  injection e' with e'
  injection e' with e' _
  rw [e']
  exact block_lt_of_cell hc
/-- Where bytes lie, if there are any. -/
def nz (b : List Nat) (B : Option Addr) : Option Addr := if b = [] then none else B
theorem nz_some {b : List Nat} {B : Option Addr} {a : Addr} (h : nz b B = some a) : B = some a ∧ 0 < b.length := by
  unfold nz at h
  split at h
  · cases h
  · rename_i hb
    exact ⟨h, List.length_pos_iff.2 hb⟩
theorem mine_only {X : Nat → Prop} {w w' : World} {base : Nat} {v : Value} {l : List Nat} (h : Mine w base v l) (ho : Only X w w') (hx : ∀ k, v.ownBlock = some k → ¬ X k) : Mine w' base v l := by
  refine ⟨h.1, ?_⟩
  rcases h.2 with h0 | ⟨g, cap, cur, e, hb, hg, h3⟩
  · exact .inl h0
  · refine .inr ⟨g, cap, cur, e, hb, ?_, h3⟩
    rw [ho.block g (World.ownsRow.lt h g (by rw [e]; rfl)).2 (hx g (by rw [e]; rfl))]
    exact hg
/-- A function with a body, as Go code has it. -/
def HasBody (fn : FuncId) : Prop := ∃ F c, Try.prog.funcs[fn]? = some F ∧ F.body = some c ∧ (F.name == "runtime.NumGoroutine") = false

theorem grown_set' (w : World) (g o : Nat) (v : Value) : w.grownBy (w.setCell ⟨g, o, none⟩ v) (some g) :=
  ⟨rfl, rfl, rfl, by simp [World.setCell], fun k _ hk => Below.heap_setCell _ _ _ k (fun e => hk (by rw [e]))⟩

end Go.Proofs.Ytnfgokbopndmgaa

/-
  Parts of slices of bytes. Conditions: none; no function is named here.
-/
namespace Go.Proofs.Ytnfgokbopndmgaa
open Go.RowKit
open Pol (co Sm)

/-- s[:h] of bytes. -/
theorem run_to_u8 (A : Option Addr) (len cap h : Nat) (hh : h ≤ cap) (W : World) :
    (Instr.slice 23 (.slice A len cap) none (some (.int .i64 (h : Int))) none).run Try.prog W = .ok (.slice A h cap) W := by
  obtain ⟨i0, hi, hz0, hz1, hz2⟩ := info_parts u8_info
  have he : Try.prog.elem 23 = 5 := by kernel_rfl
  rw [run_slice_h W 23 _ len cap (by rw [he]; exact Try.underlying23) .i64 (h : Int) (by omega) (by omega), he]
  cases A <;> simp [sizeOf, typeInfo, hi, hz1, Result.andThen, sliced, Addr.add]
/-- s[a:b] of bytes. -/
theorem run_cut_u8 (A : Option Addr) (len cap a b : Nat) (hab : a ≤ b) (hb : b ≤ cap) : ∃ X : Option Addr, (∀ W, (Instr.slice 23 (.slice A len cap) (some (.int .i64 (a : Int))) (some (.int .i64 (b : Int))) none).run Try.prog W = .ok (.slice X (b - a) (cap - a)) W) ∧
    ∀ w l, Rd w A l → b ≤ l.length → Rd w X (tab (b - a) (fun j => co l (a + j))) := by
  obtain ⟨i0, hi, hz0, hz1, hz2⟩ := info_parts u8_info
  have he : Try.prog.elem 23 = 5 := by kernel_rfl
  refine ⟨if cap = a then A else A.map (·.add a), fun W => ?_, fun w l h hl => ⟨tab_sm _ _ fun _ _ => h.1 _, fun i hi => ?_⟩⟩
  · rw [run_slice_lh W 23 _ len cap (by rw [he]; exact Try.underlying23) .i64 .i64 (a : Int) (b : Int) (by omega) (by omega) (by omega), he]
    cases A <;> simp [sizeOf, typeInfo, hi, hz1, Result.andThen, sliced]
  · rw [tab_len] at hi
    obtain ⟨b', o', e, hc⟩ := h.2 (a + i) (by omega)
    subst e
    refine ⟨b', o' + a, by rw [if_neg (by omega)]; simp [addr_add], ?_⟩
    rw [co_tab, if_pos hi, Nat.add_assoc]
    exact hc
/-- s[l:] of bytes, whole. -/
theorem run_rest_u8 (A : Option Addr) (len cap l : Nat) (hl : l ≤ len) (hc : len ≤ cap) : ∃ X : Option Addr, (∀ W, (Instr.slice 23 (.slice A len cap) (some (.int .i64 (l : Int))) none none).run Try.prog W = .ok (.slice X (len - l) (cap - l)) W) ∧
    (∀ w L, Rd w A L → L.length = len → Rd w X (tab (len - l) (fun j => co L (l + j)))) ∧ (∀ b o, l < cap → A = some ⟨b, o, none⟩ → X = some ⟨b, o + l, none⟩) := by
  obtain ⟨i0, hi, hz0, hz1, hz2⟩ := info_parts u8_info
  have he : Try.prog.elem 23 = 5 := by kernel_rfl
  refine ⟨if cap = l then A else A.map (·.add l), fun W => ?_, fun w L h hL => ⟨tab_sm _ _ fun _ _ => h.1 _, fun i hi => ?_⟩, fun b o h e => ?_⟩
  · rw [run_slice_l W 23 _ len cap (by rw [he]; exact Try.underlying23) .i64 (l : Int) (by omega) (by omega), he]
    cases A <;> simp [sizeOf, typeInfo, hi, hz1, Result.andThen, sliced]
  · rw [tab_len] at hi
    obtain ⟨b', o', e, hc⟩ := h.2 (l + i) (by omega)
    subst e
    refine ⟨b', o' + l, by rw [if_neg (by omega)]; simp [addr_add], ?_⟩
    rw [co_tab, if_pos hi, Nat.add_assoc]
    exact hc
  · subst e
    rw [if_neg (by omega)]
    simp [addr_add]

end Go.Proofs.Ytnfgokbopndmgaa

/-
  A region that draws its order, some of whose operations only read what stays: these may be taken ahead of the others, and the others come one after the other. Conditions: a check of the region's text (by the kernel); of no program in particular.
-/
namespace Go.Proofs.Ytnfgokbopndmgaa
open Go

section
variable {P : Program} {ops : Array Oper} {Q : Exit → Act → World → Prop} {md : Region.Mode} {C : World → Prop}

/-- In every world of the class the operation yields v and leaves the world alone. -/
def YieldsC (P : Program) (ops : Array Oper) (C : World → Prop) (o : Oper) (v : Value) (a : Act) : Prop :=
  (Region.wanted o (yielded ops a.tmps) = true ∧ ∀ w, C w → (execOp a.eval o).run P w = .ok (.value v) w) ∨ (Region.wanted o (yielded ops a.tmps) = false ∧ v = undef) ∨
    (Region.wanted o (yielded ops a.tmps) = true ∧ ∃ f args, (∀ w, C w → (execOp a.eval o).run P w = .ok (.enter f args) w) ∧ ∀ w, C w → Calls P f args w (fun e w' => e = .returned v ∧ w = w'))
theorem YieldsC.wpOp {i : Nat} {o : Oper} {v : Value} {a : Act} (hi : ops[i]? = some o) (hy : YieldsC P ops C o v a) {K : Act → World → Prop} {w : World} (hw : C w) (h : K (a.put o.dst v) w) : wpOp P ops Q i K a w := by
  unfold Go.wpOp
  simp only [hi]
  rcases hy with ⟨hg, hv⟩ | ⟨hg, rfl⟩ | ⟨hg, f, args, hv, hc⟩
  · simp only [hg, if_true, Oper.wp, hv w hw, Oper.upon]; exact .inl h
  · simp only [hg, Bool.false_eq_true, if_false]; exact h
  · simp only [hg, if_true, Oper.wp, hv w hw, Oper.upon]
    refine .inl (Calls.mono (hc w hw) ?_)
    rintro e w' ⟨rfl, rfl⟩
    exact h
theorem YieldsC.of_same {o : Oper} {v : Value} {a a' : Act} (hy : YieldsC P ops C o v a) (he : execOp a'.eval o = execOp a.eval o) (hw : Region.wanted o (yielded ops a'.tmps) = Region.wanted o (yielded ops a.tmps)) : YieldsC P ops C o v a' := by
  unfold YieldsC at *
  rw [he, hw]
  exact hy
theorem wpOp_putC {j : Nat} {oi oj : Oper} {v : Value} (hj : ops[j]? = some oj) (hap : oi.apart ops oj = true) (hsi : ∀ cs b, oi.op ≠ .select cs b) (hsj : ∀ cs b, oj.op ≠ .select cs b)
    (hQ : ∀ c a w, Q (.panic c) (a.put oi.dst v) w → Q (.panic c) a w) {K : Act → World → Prop} {a : Act} {w : World} (hy : YieldsC P ops C oi v a) (h : wpOp P ops Q j K (a.put oi.dst v) w) :
    wpOp P ops Q j (fun a' w' => YieldsC P ops C oi v a' ∧ K (a'.put oi.dst v) w') a w := by
  obtain ⟨h1, h2, h3⟩ := Oper.apart_spec hap
  have keep : ∀ (a : Act), YieldsC P ops C oi v a → ∀ u, YieldsC P ops C oi v (a.put oj.dst u) := fun a hy u => hy.of_same (execOp_put oi hsi a oj.dst u h3) (wanted_put oi a oj.dst u h3)
  have keepD : ∀ d, YieldsC P ops C oi v { a with defers := d :: a.defers } := fun d => hy.of_same rfl rfl
  unfold wpOp at *
  simp only [hj] at *
  rw [wanted_put oj a oi.dst v h1] at h
  split
  · rename_i hw
    simp only [hw, if_true] at h
    rcases h with h | ⟨hasks, hlets⟩
    case inr => exact .inr ⟨by unfold Oper.asks at *; rw [execOp_put oj hsj a oi.dst v h1] at hasks; exact hasks, hlets⟩
    refine .inl ?_
    unfold Oper.wp at *
    rw [execOp_put oj hsj a oi.dst v h1] at h
    generalize (execOp a.eval oj).run P w = r at *
    cases r with
    | ok n w' =>
      cases n <;> simp only [Oper.upon] at h ⊢
      case value u => exact ⟨keep a hy u, by rw [← Act.put_comm a v u h2]; exact h⟩
      case skip => exact ⟨keep a hy _, by rw [← Act.put_comm a v undef h2]; exact h⟩
      case defer d =>
        refine ⟨keep _ (keepD d) _, ?_⟩
        rw [← Act.put_comm _ v undef h2, ← Act.put_defers]
        exact h
      case enter f args =>
        refine Calls.mono h fun e w'' he => ?_
        cases e with
        | returned u => exact ⟨keep a hy u, by rw [← Act.put_comm a v u h2]; exact he⟩
        | panicked c => exact hQ _ _ _ he
        | outgrown => exact he
      case row row args => exact Rows.mono h fun u w'' he => ⟨keep a hy u, by rw [← Act.put_comm a v u h2]; exact he⟩
    | halt x w' =>
      cases x <;> simp only [Oper.upon] at h ⊢
      case panic u => exact hQ _ _ _ h
  · rename_i hw
    simp only [hw] at h
    exact ⟨keep a hy _, by rw [← Act.put_comm a v undef h2]; exact h⟩

/-- As wpAny, and the operations of F leave the world in the class. -/
def wpAnyC (P : Program) (md : Region.Mode) (ops : Array Oper) (C : World → Prop) (F : Nat → Bool) (Q : Exit → Act → World → Prop) : Nat → Array Bool → Act → World → Prop
  | 0, listed, a, w => Region.ready md ops listed = [] ∧ Q .normal a w
  | fuel + 1, listed, a, w => (Region.ready md ops listed = [] → Q .normal a w) ∧ ∀ i ∈ Region.ready md ops listed, wpOp P ops Q i (fun a' w' => (F i = true → C w') ∧ wpAnyC P md ops C F Q fuel (listed.setIfInBounds i true) a' w') a w
theorem wpAny_of_C {F : Nat → Bool} : ∀ (fuel : Nat) (listed : Array Bool) (a : Act) (w : World), wpAnyC P md ops C F Q fuel listed a w → wpAny P md ops Q fuel listed a w
  | 0, _, _, _, h => h
  | fuel + 1, _, _, _, h => ⟨h.1, fun i hi => wpOp_mono (fun a' w' h' => wpAny_of_C fuel _ a' w' h'.2) (h.2 i hi)⟩
/-- What is listed waits for nothing that is not. -/
def Closed (md : Region.Mode) (ops : Array Oper) (listed : Array Bool) : Prop := ∀ j oj, ops[j]? = some oj → listed.getD j false = true → ∀ e ∈ oj.after, Region.binds md e = true → listed.getD e.on false = true
theorem Closed.set {listed : Array Bool} (h : Closed md ops listed) {i : Nat} (hi : i ∈ Region.ready md ops listed) : Closed md ops (listed.setIfInBounds i true) := fun j oj hoj hl e he hb => by
  by_cases hji : j = i
  · subst hji
    obtain ⟨_, o, ho, hall⟩ := mem_ready.1 hi
    rw [hoj] at ho
    injection ho with ho
    subst ho
    exact getD_set_true (hall e he hb)
  · rw [getD_set_ne false (fun h => hji h.symm)] at hl
    exact getD_set_true (h j oj hoj hl e he hb)
/-- What stands behind i; what is not of F does. -/
def bhStep (md : Region.Mode) (ops : Array Oper) (i : Nat) (acc : List Nat) (j : Nat) : List Nat :=
  match ops[j]? with
  | some oj => if oj.after.any (fun e => Region.binds md e && (e.on == i || acc.contains e.on)) then j :: acc else acc
  | none => acc
def behindB (md : Region.Mode) (ops : Array Oper) (F : Nat → Bool) (i : Nat) : Bool :=
  (List.range ops.size).all fun j => j == i || F j || ((List.range ops.size).foldl (bhStep md ops i) []).contains j
theorem bh_fold {i : Nat} {listed : Array Bool} (hc : Closed md ops listed) (hi : listed.getD i false = false) : ∀ (l acc : List Nat), (∀ j ∈ acc, listed.getD j false = false ∧ j ∉ Region.ready md ops listed) →
    ∀ j ∈ l.foldl (bhStep md ops i) acc, listed.getD j false = false ∧ j ∉ Region.ready md ops listed
  | [], acc, h => h
  | k :: l, acc, h => by
    refine bh_fold hc hi l (bhStep md ops i acc k) ?_
    unfold bhStep
    cases hk : ops[k]? with
    | none => exact h
    | some ok =>
      simp only
      split
      · rename_i hany
        intro j hj
        rcases List.mem_cons.1 hj with e | e
        · subst e
          obtain ⟨e, he, hb⟩ := Array.any_eq_true'.1 hany
          simp only [Bool.and_eq_true, Bool.or_eq_true, beq_iff_eq] at hb
          have hno : listed.getD e.on false = false := by
            rcases hb.2 with h2 | h2
            · rw [h2]; exact hi
            · exact (h e.on (by simpa using h2)).1
          constructor
          · cases hl : listed.getD j false with
            | false => rfl
            | true =>
              have := hc j ok hk hl e he hb.1
              rw [hno] at this
              cases this
          · intro hr
            obtain ⟨_, o, ho, hall⟩ := mem_ready.1 hr
            rw [hk] at ho
            injection ho with ho
            subst ho
            have := hall e he hb.1
            rw [hno] at this
            cases this
        · exact h j e
      · exact h
theorem behind_not {F : Nat → Bool} {i : Nat} (hB : behindB md ops F i = true) {listed : Array Bool} (hc : Closed md ops listed) (hi : listed.getD i false = false) :
    ∀ j, j < ops.size → j ≠ i → F j = false → listed.getD j false = false ∧ j ∉ Region.ready md ops listed := fun j hj hji hF => by
  have h1 := List.all_eq_true.1 hB j (List.mem_range.2 hj)
  simp only [hF, Bool.or_false, Bool.or_eq_true, beq_iff_eq, hji, false_or] at h1
  exact bh_fold hc hi _ [] (fun _ h => absurd h (by simp)) j (by simpa using h1)

theorem wpAnyC_first {F : Nat → Bool} {i : Nat} {oi : Oper} {v : Value} (hi : ops[i]? = some oi) (hsel : ∀ (j : Nat) (o : Oper) cs b, ops[j]? = some o → o.op ≠ .select cs b)
    (hQ : ∀ c a w, Q (.panic c) (a.put oi.dst v) w → Q (.panic c) a w) (hB : behindB md ops F i = true) :
    ∀ (fuel : Nat) (listed : Array Bool) (a : Act) (w : World), C w → Closed md ops listed →
      (∀ j oj, ops[j]? = some oj → j ≠ i → listed.getD j true = false → (∀ e ∈ oj.after, Region.binds md e = true → e.on ≠ i) → oi.apart ops oj = true) →
      i ∈ Region.ready md ops listed → YieldsC P ops C oi v a →
      wpAnyC P md ops C F Q fuel (listed.setIfInBounds i true) (a.put oi.dst v) w → wpAnyC P md ops C F Q (fuel + 1) listed a w := by
  intro fuel
  induction fuel with
  | zero =>
    intro listed a w hC _ _ hr hy H
    refine ⟨fun h => (by rw [h] at hr; cases hr), fun j hj => ?_⟩
    by_cases hji : j = i
    · subst hji; exact hy.wpOp hi hC ⟨fun _ => hC, H⟩
    · have := ready_mono hj hji
      rw [H.1] at this
      cases this
  | succ fuel ih =>
    intro listed a w hC hcl hfree hr hy H
    refine ⟨fun h => (by rw [h] at hr; cases hr), fun j hj => ?_⟩
    by_cases hji : j = i
    · subst hji; exact hy.wpOp hi hC ⟨fun _ => hC, H⟩
    · have h1 := H.2 j (ready_mono hj hji)
      obtain ⟨hjun, oj, hoj, hall⟩ := mem_ready.1 hj
      have hiun := (mem_ready.1 hr).1
      have hnot : ∀ e ∈ oj.after, Region.binds md e = true → e.on ≠ i := fun e he hb heq => by
        have h1 := hall e he hb
        rw [heq, getD_both hiun] at h1
        cases h1
      have hFj : F j = true := by
        cases hF : F j with
        | true => rfl
        | false => exact absurd hj (behind_not hB hcl (getD_both hiun) j (Array.getElem?_eq_some_iff.1 hoj).1 hji hF).2
      have h2 := wpOp_putC hoj (hfree j oj hoj hji hjun hnot) (fun cs b => hsel i oi cs b hi) (fun cs b => hsel j oj cs b hoj) hQ hy h1
      have hfree' : ∀ k ok, ops[k]? = some ok → k ≠ i → (listed.setIfInBounds j true).getD k true = false →
          (∀ e ∈ ok.after, Region.binds md e = true → e.on ≠ i) → oi.apart ops ok = true := fun k ok hk hki hun hno => by
        refine hfree k ok hk hki ?_ hno
        by_cases hjk : j = k
        · subst hjk; exact hjun
        · rw [getD_set_ne true hjk] at hun; exact hun
      refine wpOp_mono (fun a' w' h3 => ⟨fun _ => h3.2.1 hFj, ih (listed.setIfInBounds j true) a' w' (h3.2.1 hFj) (hcl.set hj) hfree' (ready_mono hr (Ne.symm hji)) h3.1 ?_⟩) h2
      rw [Array.setIfInBounds_comm _ _ hji]
      exact h3.2.2

/-- The walk: an operation that only reads what stays (true), or the only one that may come up (false). -/
def wpStab (P : Program) (l : List Oper) (C : World → Prop) (F : Nat → Bool) (Q : Exit → Act → World → Prop) : List (Nat × Bool) → Act → World → Prop
  | [], a, w => wpList P l.toArray Q [] a w
  | (i, true) :: π, a, w => ∃ o v, l[i]? = some o ∧ YieldsC P l.toArray C o v a ∧ wpStab P l C F Q π (a.put o.dst v) w
  | (i, false) :: π, a, w => ∃ o, l[i]? = some o ∧ wpList P l.toArray (Exit.then (fun a' w' => (F i = true → C w') ∧ wpStab P l C F Q π a' w') Q) [o] a w
theorem stab_yes {F : Nat → Bool} {l : List Oper} {i : Nat} {o : Oper} {π : List (Nat × Bool)} {a : Act} {w : World} (ho : l[i]? = some o)
    (h : ∀ K : Act → Prop, (∀ a', wpStab P l C F Q π a' w → K a') → Region.wanted o (yielded l.toArray a.tmps) = true ∧ ∃ v, (∀ W, C W → (execOp a.eval o).run P W = .ok (.value v) W) ∧ K (a.put o.dst v)) : wpStab P l C F Q ((i, true) :: π) a w := by
  obtain ⟨h1, v, h2, h3⟩ := h (fun a' => wpStab P l C F Q π a' w) (fun _ h => h)
  exact ⟨o, v, ho, .inl ⟨h1, h2⟩, h3⟩
theorem stab_call {F : Nat → Bool} {l : List Oper} {i : Nat} {o : Oper} {π : List (Nat × Bool)} {a : Act} {w : World} (ho : l[i]? = some o)
    (h : ∀ K : Act → Prop, (∀ a', wpStab P l C F Q π a' w → K a') → Region.wanted o (yielded l.toArray a.tmps) = true ∧ ∃ f args v, (∀ W, C W → (execOp a.eval o).run P W = .ok (.enter f args) W) ∧ (∀ W, C W → Calls P f args W (fun e w' => e = .returned v ∧ W = w')) ∧ K (a.put o.dst v)) : wpStab P l C F Q ((i, true) :: π) a w := by
  obtain ⟨h1, f, args, v, h2, h3, h4⟩ := h (fun a' => wpStab P l C F Q π a' w) (fun _ h => h)
  exact ⟨o, v, ho, .inr (.inr ⟨h1, f, args, h2, h3⟩), h4⟩
theorem stab_one {F : Nat → Bool} {l : List Oper} {i : Nat} {o : Oper} {π : List (Nat × Bool)} {a : Act} {w : World} (ho : l[i]? = some o)
    (h : ∀ K : Act → World → Prop, (∀ a' w', (F i = true → C w') ∧ wpStab P l C F Q π a' w' → K a' w') → wpList P l.toArray (Exit.then K Q) [o] a w) : wpStab P l C F Q ((i, false) :: π) a w :=
  ⟨o, ho, h _ (fun _ _ h => h)⟩
/-- The check: c says whether the world is in the class. -/
def stabB (md : Region.Mode) (ops : Array Oper) (F : Nat → Bool) : Bool → List (Nat × Bool) → Array Bool → Bool
  | _, [], listed => (Region.ready md ops listed).isEmpty
  | c, (i, true) :: π, listed => c && (Region.ready md ops listed).contains i && Region.free md ops listed i && behindB md ops F i && stabB md ops F c π (listed.setIfInBounds i true)
  | c, (i, false) :: π, listed => (Region.ready md ops listed == [i]) && stabB md ops F (c && F i) π (listed.setIfInBounds i true)
theorem wpAnyC_of_stab {F : Nat → Bool} {l : List Oper} (hsel : Region.noSelect l.toArray = true) (hQ : ∀ c a a' w, a.defers = a'.defers → Q (.panic c) a w → Q (.panic c) a' w) :
    ∀ (π : List (Nat × Bool)) (c : Bool) (listed : Array Bool) (a : Act) (w : World), (c = true → C w) → Closed md l.toArray listed → stabB md l.toArray F c π listed = true → wpStab P l C F Q π a w → wpAnyC P md l.toArray C F Q π.length listed a w
  | [], _, listed, a, w, _, _, hB, h => ⟨by simpa [stabB] using hB, h⟩
  | (i, true) :: π, c, listed, a, w, hC, hcl, hB, h => by
    obtain ⟨o, v, ho0, hy, hK⟩ := h
    have ho : l.toArray[i]? = some o := by simpa using ho0
    simp only [stabB, Bool.and_eq_true] at hB
    obtain ⟨⟨⟨⟨hc, hr⟩, hf⟩, hb⟩, hrest⟩ := hB
    have hr' : i ∈ Region.ready md l.toArray listed := by simpa using hr
    exact wpAnyC_first ho (Region.noSelect_spec hsel) (fun ch a w h => hQ ch _ _ w (by cases o.dst <;> rfl) h) hb π.length listed a w (hC hc) hcl (Region.free_spec ho hf) hr' hy
      (wpAnyC_of_stab hsel hQ π c _ _ _ hC (hcl.set hr') hrest hK)
  | (i, false) :: π, c, listed, a, w, hC, hcl, hB, h => by
    obtain ⟨o, ho0, hK⟩ := h
    have ho : l.toArray[i]? = some o := by simpa using ho0
    simp only [stabB, Bool.and_eq_true] at hB
    obtain ⟨hr, hrest⟩ := hB
    have hr1 : Region.ready md l.toArray listed = [i] := by simpa using hr
    have hr' : i ∈ Region.ready md l.toArray listed := by rw [hr1]; simp
    refine ⟨fun h0 => absurd h0 (by rw [hr1]; simp), fun j hj => ?_⟩
    obtain rfl : j = i := by rw [hr1] at hj; simpa using hj
    refine wpOp_mono (fun a' w' h' => ⟨h'.1, wpAnyC_of_stab hsel hQ π (c && F j) _ a' w' (fun hcf => ?_) (hcl.set hr') hrest h'.2⟩) (wpOp_of_one ho hK)
    rw [Bool.and_eq_true] at hcf
    exact h'.1 hcf.2
theorem wp_region_stab {id : Nat} {a : Act} {w : World} {l : List Oper} (C : World → Prop) (F : List Nat) (π : List (Nat × Bool)) (hm : P.follows .mixedOrders = true) (hQ : ∀ c a a' w, a.defers = a'.defers → Q (.panic c) a w → Q (.panic c) a' w)
    (hB : (Region.noSelect l.toArray && (π.length == l.length) && stabB .any l.toArray (fun i => F.contains i) true π (Array.replicate l.length false)) = true) (hC : C w.drew) (h : wpStab P l C (fun i => F.contains i) Q π a w.drew) : (Code.region id l.toArray true).wp P Q a w := by
  simp only [Bool.and_eq_true, beq_iff_eq] at hB
  obtain ⟨⟨hsel, hlen⟩, hst⟩ := hB
  refine wp_region_any hm (wpAny_of_C (C := C) (F := fun i => F.contains i) _ _ _ _ ?_)
  have h1 := wpAnyC_of_stab (P := P) (Q := Q) (C := C) (md := .any) hsel hQ π true (Array.replicate l.length false) a w.drew (fun _ => hC) (fun j oj _ hl => by rw [getD_replicate_false] at hl; cases hl) hst h
  rw [hlen] at h1
  have hsz : l.toArray.size = l.length := by simp
  rw [hsz]
  exact h1
end
/-- Two cells, and what they hold. -/
def Two (p : Addr) (v : Value) (q : Addr) (u : Value) (W : World) : Prop := W.cell? p = some v ∧ W.cell? q = some u
end Go.Proofs.Ytnfgokbopndmgaa

/-
  What the document's own reader of layer 8 does. Conditions: no more than 2^16 bytes.
-/
namespace Go.Proofs.Ytnfgokbopndmgaa
open Go.RowKit
open Pol (co Sm)

/-- A reader of the document's in block g: its bytes, where it is, its error. -/
structure RR (w : World) (g : Nat) (B : Option Addr) (n cb a e : Nat) : Prop where
  c0 : w.cell? ⟨g, 0, none⟩ = some (.slice B n cb)
  c1 : w.cell? ⟨g, 1, none⟩ = some (.int .i64 (a : Int))
  c2 : w.cell? ⟨g, 2, none⟩ = some (.int .i64 (e : Int))
  z1 : w.frozen? ⟨g, 1, none⟩ = false
  z2 : w.frozen? ⟨g, 2, none⟩ = false
theorem off_ne8 (g : Nat) {a b : Nat} (h : a ≠ b) : (⟨g, a, none⟩ : Addr) ≠ ⟨g, b, none⟩ := fun e => h (by injection e)
theorem RR.drewN {w : World} {g : Nat} {B : Option Addr} {n cb a e : Nat} (h : RR w g B n cb a e) (q : Nat) : RR (w.drewN q) g B n cb a e := ⟨h.c0, h.c1, h.c2, h.z1, h.z2⟩
theorem RR.set1 {w : World} {g : Nat} {B : Option Addr} {n cb a e : Nat} (h : RR w g B n cb a e) (a' : Nat) : RR (w.setCell ⟨g, 1, none⟩ (.int .i64 (a' : Int))) g B n cb a' e :=
  ⟨(World.cell?_setCell_other _ _ _ _ (off_ne8 g (by omega))).trans h.c0, World.cell?_setCell_same' _ _ _ (by rw [h.c1]; rfl), (World.cell?_setCell_other _ _ _ _ (off_ne8 g (by omega))).trans h.c2, by rw [World.frozen?_setCell]; exact h.z1, by rw [World.frozen?_setCell]; exact h.z2⟩
theorem RR.set2 {w : World} {g : Nat} {B : Option Addr} {n cb a e : Nat} (h : RR w g B n cb a e) (e' : Nat) : RR (w.setCell ⟨g, 2, none⟩ (.int .i64 (e' : Int))) g B n cb a e' :=
  ⟨(World.cell?_setCell_other _ _ _ _ (off_ne8 g (by omega))).trans h.c0, (World.cell?_setCell_other _ _ _ _ (off_ne8 g (by omega))).trans h.c1, World.cell?_setCell_same' _ _ _ (by rw [h.c2]; rfl), by rw [World.frozen?_setCell]; exact h.z1, by rw [World.frozen?_setCell]; exact h.z2⟩
theorem RR.ext {w w' : World} {g : Nat} {B : Option Addr} {n cb a e : Nat} (h : RR w g B n cb a e) (hx : Ext w w') : RR w' g B n cb a e :=
  ⟨(hx.below.cell (p := ⟨g, 0, none⟩) (block_lt_of_cell h.c0)).trans h.c0, (hx.below.cell (p := ⟨g, 1, none⟩) (block_lt_of_cell h.c1)).trans h.c1, (hx.below.cell (p := ⟨g, 2, none⟩) (block_lt_of_cell h.c2)).trans h.c2, (hx.below.frozen (p := ⟨g, 1, none⟩) (block_lt_of_cell h.c1)).trans h.z1, (hx.below.frozen (p := ⟨g, 2, none⟩) (block_lt_of_cell h.c2)).trans h.z2⟩
theorem RR.only {X : Nat → Prop} {w w' : World} {g : Nat} {B : Option Addr} {n cb a e : Nat} (h : RR w g B n cb a e) (ho : Only X w w') (hx : ¬ X g) : RR w' g B n cb a e :=
  ⟨ho.cell h.c0 hx, ho.cell h.c1 hx, ho.cell h.c2 hx, (ho.frozen (o := 1) (block_lt_of_cell h.c1) hx).trans h.z1, (ho.frozen (o := 2) (block_lt_of_cell h.c2) hx).trans h.z2⟩
theorem rd_keep {w w' : World} {A : Option Addr} {l : List Nat} {g : Nat} (h : Rd w A l) (ho : Only (fun k => k = g) w w') (hne : ∀ b o, A = some ⟨b, o, none⟩ → 0 < l.length → b ≠ g) : Rd w' A l :=
  ⟨h.1, fun i hi => by
    obtain ⟨b, o, e, hc⟩ := h.2 i hi
    exact ⟨b, o, e, ho.cell hc (hne b o e (by omega))⟩⟩
/-- What a method of the document's reader leaves, of bytes l of which rest is left. -/
def RefE {α : Type} (l : List Nat) (g : Nat) (B : Option Addr) (cb : Nat) (V : Value → World → Option α → Prop) (r : Rs α) (w : World) (e : Ending) (w' : World) : Prop :=
  Only (fun k => k = g) w w' ∧ match r with
    | .ok a rest => ∃ v, e = .returned v ∧ V v w' (some a) ∧ RR w' g B l.length cb (l.length - rest.length) 0
    | .er n => ∃ v at', e = .returned v ∧ V v w' none ∧ RR w' g B l.length cb at' n

set_option maxHeartbeats 3200000 in
set_option maxRecDepth 100000 in
theorem ref8r_number (l rest : List Nat) (g : Nat) (B : Option Addr) (cb most : Nat) (w : World) (hr : Rd w B l) (hfar : ∀ b o, B = some ⟨b, o, none⟩ → 0 < l.length → b ≠ g) (hl : l.length ≤ 65536) (hd : ∃ pre, l = pre ++ rest) (hR : RR w g B l.length cb (l.length - rest.length) 0) (_hm : most < 18446744073709551616) :
    Calls Try.prog 38 #[.pointer (some ⟨g, 0, none⟩), .int .u64 (most : Int)] w (RefE l g B cb (fun v _ n => v = .int .u64 ((n.getD 0 : Nat) : Int)) (rdN most rest) w) := by
  have HR := Lib.hid hr
  have HFAR := Lib.hid hfar
  have HD := Lib.hid hd
  have HRR := Lib.hid hR
  obtain ⟨res, hres⟩ : ∃ res, rdN most rest = res := ⟨_, rfl⟩
  have HRES := Lib.hid hres
  rw [hres]
  clear hr hfar hd hR hres
  generalize hn : l.length = n at *
  have HN := Lib.hid hn
  clear hn
  go_enter Try.func38, Try.ntmps38
  go_wp2
  go_loopg [5, 6, 7] rest.length (fun gh s5 s6 s7 wx => ∃ (i acc sc : Nat) (rs pre : List Nat), rs.length = gh ∧ l = pre ++ rs ∧ i ≤ 9 ∧ s7 = .int .i64 (i : Int) ∧ s5 = .int .u64 (acc : Int) ∧ s6 = .int .u64 (sc : Int) ∧ sc = 128 ^ i ∧ acc < 128 ^ i ∧ rv most i acc rs = res ∧ RR wx g B n cb pre.length 0 ∧ Only (fun k => k = g) w wx)
  case atStart =>
    obtain ⟨pre, hp⟩ := HD.out
    have hpl : n - rest.length = pre.length := by rw [← HN.out, hp, List.length_append]; omega
    exact ⟨0, 0, 1, rest, pre, rfl, hp, by omega, rfl, rfl, rfl, rfl, by omega, HRES.out, by rw [← hpl]; exact HRR.out, Only.refl _ _⟩
  case round =>
    obtain ⟨i, acc, sc, rs, pre, hgh, hlp, hi9, rfl, rfl, rfl, hsc, hacc, hrv, hrr, ho⟩ := hrel
    have HR1 := Lib.hid hrr
    have HO := Lib.hid ho
    have z0 := hrr.c0
    have z1 := hrr.c1
    have z2 := hrr.c2
    have y1 := hrr.z1
    have y2 := hrr.z2
    obtain ⟨pa, hpa⟩ : ∃ pa, pre.length = pa := ⟨_, rfl⟩
    have hpn : pa + rs.length = n := by rw [← HN.out, hlp, List.length_append, hpa]
    have HLP := Lib.hid hlp
    rw [hpa] at z1 HR1
    clear ho hrr hlp
    cases rs with
    | nil =>
      obtain rfl : gk = 0 := by simpa using hgh.symm
      have hpn' : n ≤ pa := by simp at hpn; omega
      have d1 : decide (n ≤ pa) = true := decide_eq_true hpn'
      have hrs : res = .er 2 := by rw [← hrv, rv]
      subst hrs
      clear hrv hgh
      go_wp2
      go_quiet (fail)
      go_wp2
      go_ret
      exact ⟨(HO.out.drewN nq).trans (Only.of_grown (grown_set' _ _ _ _) (fun k e => by cases e; rfl)), _, _, rfl, rfl, HN.out ▸ (HR1.out.drewN nq).set2 2⟩
    | cons b rs =>
      cases gk with
      | zero => simp at hgh
      | succ gh =>
      obtain rfl : rs.length = gh := by simpa using hgh
      have hpn' : pa < n := by simp at hpn; omega
      have hpnI : (pa : Int) < (n : Int) := by omega
      have d1 : decide (n ≤ pa) = false := decide_eq_false (by omega)
      obtain ⟨pa1, hpa1⟩ : ∃ pa1, pa + 1 = pa1 := ⟨_, rfl⟩
      have ep : IntKind.i64.wrap ((pa : Int) + 1) = (pa1 : Int) := by rw [IntWalk.i64_in _ (by omega)]; omega
      have hcb : co l pa = b := by rw [HLP.out, ← hpa]; unfold co; rw [List.getElem?_append_right (Nat.le_refl _), Nat.sub_self]; rfl
      obtain ⟨b1, o1, e1, hc1⟩ := (rd_keep HR.out HO.out (by rw [HN.out]; exact HFAR.out)).2 pa (by rw [HN.out]; exact hpn')
      subst e1
      have hbb := HR.out.1 pa
      rw [hcb] at hc1 hbb
      have hne : b1 ≠ g := HFAR.out b1 o1 rfl (by omega)
      have HPB := Lib.hid (show (pre ++ [b]).length = pa1 by rw [List.length_append, hpa]; exact hpa1)
      have hpn1 : pa1 + rs.length = n := by simp at hpn; omega
      clear hcb hpa hpn hgh
      have HR2' := Lib.hid (fun q => (HR1.out.drewN q).set1 pa1)
      have HO2' := Lib.hid (fun q => (HO.out.drewN q).trans (Only.of_grown (grown_set' (wr.drewN q) g 1 (.int .i64 (pa1 : Int))) (fun k e => by cases e; rfl)))
      obtain ⟨y, hy⟩ : ∃ y, b % 128 = y := ⟨_, rfl⟩
      have e2 : (b : Int) % 128 = (y : Int) := by omega
      have e2' : (b : Int).tmod 128 = (y : Int) := by rw [Int.tmod_eq_emod_of_nonneg (by omega)]; exact e2
      have e3 : IntKind.u8.wrap (y : Int) = (y : Int) := IntWalk.u8_in _ (by omega)
      have e4 : IntKind.u64.wrap (y : Int) = (y : Int) := by rw [IntKind.wrap_u64]; omega
      rw [rv] at hrv
      have hval : acc + b % 128 * 128 ^ i = acc + y * sc := by rw [hy, hsc]
      rw [hval] at hrv
      clear hy
      go_wp2
      go_quiet (fail)
      revert nq
      intro q1
      go_wp2
      go_quiet (fail)
      have HR2 := Lib.hid ((HR1.out.drewN (q1 + nq)).set1 pa1)
      have HO2 := Lib.hid ((HO.out.drewN (q1 + nq)).trans (Only.of_grown (grown_set' (wr.drewN (q1 + nq)) g 1 (.int .i64 (pa1 : Int))) (fun k e => by cases e; rfl)))
      have c2' := HR2.out.c2
      have y2' := HR2.out.z2
      by_cases h9 : i = 9
      · have t9 : ((i : Int) == 9) = true := by rw [h9]; rfl
        by_cases hb1 : 1 < b
        · have d2 : decide (1 < (b : Int)) = true := decide_eq_true (by omega)
          rw [if_pos (.inl ⟨h9, hb1⟩)] at hrv
          subst hrv
          clear hval hsc hacc h9
          go_wp2
          go_ret
          exact ⟨HO2.out.trans (Only.of_grown (grown_set' _ g 2 (.int .i64 14)) (fun k e => by cases e; rfl)), _, _, rfl, rfl, HN.out ▸ HR2.out.set2 14⟩
        · have d2 : decide (1 < (b : Int)) = false := decide_eq_false (by omega)
          have d3 : decide (0 < (i : Int)) = true := decide_eq_true (by omega)
          have d3n : decide (0 < i) = true := decide_eq_true (by omega)
          by_cases hb0 : b = 0
          · have d4 : ((b : Int) == 0) = true := by rw [hb0]; rfl
            have d4n : decide (b = 0) = true := decide_eq_true hb0
            have d4m : (b == 0) = true := by rw [hb0]; rfl
            rw [if_pos (.inr ⟨by omega, hb0⟩)] at hrv
            subst hrv
            clear hval hsc hacc h9 hb0
            go_wp2
            go_ret
            exact ⟨HO2.out.trans (Only.of_grown (grown_set' _ g 2 (.int .i64 14)) (fun k e => by cases e; rfl)), _, _, rfl, rfl, HN.out ▸ HR2.out.set2 14⟩
          · have d4 : ((b : Int) == 0) = false := beq_eq_false_iff_ne.2 (by omega)
            have d4n : decide (b = 0) = false := decide_eq_false hb0
            have d4m : (b == 0) = false := beq_eq_false_iff_ne.2 hb0
            rw [if_neg (by omega)] at hrv
            have hbound : acc + y * sc < 18446744073709551616 := by
              have hy1 : y = 1 := by omega
              rw [hy1, hsc, h9]
              rw [h9] at hacc
              have h128 : (128 : Nat) ^ 9 = 9223372036854775808 := by decide
              omega
            have HSC := Lib.hid hsc
            have HAC := Lib.hid hacc
            clear hsc hacc h9
            obtain ⟨nv, hnv⟩ : ∃ nv, acc + y * sc = nv := ⟨_, rfl⟩
            have hnvb : nv < 18446744073709551616 := by rw [← hnv]; exact hbound
            rw [hnv] at hrv
            have e5 : IntKind.u64.wrap ((y : Int) * (sc : Int)) = ((y * sc : Nat) : Int) := by rw [← Int.natCast_mul, IntKind.wrap_u64]; omega
            obtain ⟨ys, hys⟩ : ∃ ys, y * sc = ys := ⟨_, rfl⟩
            rw [hys] at e5 hnv
            have e6 : IntKind.u64.wrap ((acc : Int) + (ys : Int)) = (nv : Int) := by rw [IntKind.wrap_u64]; omega
            by_cases h128 : b < 128
            · have d7 : decide ((b : Int) < 128) = true := decide_eq_true (by omega)
              rw [if_pos h128] at hrv
              by_cases hmo : most < nv
              · have d8 : decide (most < nv) = true := decide_eq_true hmo
                have d8' : decide ((most : Int) < (nv : Int)) = true := decide_eq_true (by omega)
                have hrs : res = .er 10 := by rw [← hrv, if_pos hmo]
                subst hrs
                clear hrv hval hnv hys hbound
                go_wp2
                go_ret
                exact ⟨HO2.out.trans (Only.of_grown (grown_set' _ g 2 (.int .i64 10)) (fun k e => by cases e; rfl)), _, _, rfl, rfl, HN.out ▸ HR2.out.set2 10⟩
              · have d8 : decide (most < nv) = false := decide_eq_false hmo
                have d8' : decide ((most : Int) < (nv : Int)) = false := decide_eq_false (by omega)
                have hrs : res = .ok nv rs := by rw [← hrv, if_neg hmo]
                subst hrs
                have HAT := Lib.hid (show n - rs.length = pa1 by omega)
                clear hrv hval hnv hys hbound
                go_wp2
                go_ret
                exact ⟨HO2.out, _, rfl, rfl, by rw [HN.out, HAT.out]; exact HR2.out⟩
            · have d7 : decide ((b : Int) < 128) = false := decide_eq_false (by omega)
              rw [if_neg h128] at hrv
              omega
      · have t9 : ((i : Int) == 9) = false := beq_eq_false_iff_ne.2 (by omega)
        have hscl : 128 * sc ≤ 9223372036854775808 := by
          have h1 : 128 * sc = 128 ^ (i + 1) := by rw [hsc, Nat.pow_succ, Nat.mul_comm]
          have h2 : (128 : Nat) ^ (i + 1) ≤ 128 ^ 9 := Nat.pow_le_pow_right (by omega) (by omega)
          have h3 : (128 : Nat) ^ 9 = 9223372036854775808 := by decide
          omega
        have hbound : acc + y * sc < 18446744073709551616 := by
          have h1 : y * sc ≤ 127 * sc := Nat.mul_le_mul_right sc (by omega)
          have h2 : acc < sc := by rw [hsc]; exact hacc
          omega
        by_cases hi0 : i = 0
        · have d3 : decide (0 < (i : Int)) = false := decide_eq_false (by omega)
          have d3n : decide (0 < i) = false := decide_eq_false (by omega)
          rw [if_neg (by omega)] at hrv
          have HSC := Lib.hid hsc
          have HAC := Lib.hid hacc
          clear hsc hacc hi0
          obtain ⟨nv, hnv⟩ : ∃ nv, acc + y * sc = nv := ⟨_, rfl⟩
          have hnvb : nv < 18446744073709551616 := by rw [← hnv]; exact hbound
          rw [hnv] at hrv
          have e5 : IntKind.u64.wrap ((y : Int) * (sc : Int)) = ((y * sc : Nat) : Int) := by rw [← Int.natCast_mul, IntKind.wrap_u64]; omega
          obtain ⟨ys, hys⟩ : ∃ ys, y * sc = ys := ⟨_, rfl⟩
          rw [hys] at e5 hnv
          have e6 : IntKind.u64.wrap ((acc : Int) + (ys : Int)) = (nv : Int) := by rw [IntKind.wrap_u64]; omega
          by_cases h128 : b < 128
          · have d7 : decide ((b : Int) < 128) = true := decide_eq_true (by omega)
            rw [if_pos h128] at hrv
            by_cases hmo : most < nv
            · have d8 : decide (most < nv) = true := decide_eq_true hmo
              have d8' : decide ((most : Int) < (nv : Int)) = true := decide_eq_true (by omega)
              have hrs : res = .er 10 := by rw [← hrv, if_pos hmo]
              subst hrs
              clear hrv hval hnv hys hbound
              go_wp2
              go_ret
              exact ⟨HO2.out.trans (Only.of_grown (grown_set' _ g 2 (.int .i64 10)) (fun k e => by cases e; rfl)), _, _, rfl, rfl, HN.out ▸ HR2.out.set2 10⟩
            · have d8 : decide (most < nv) = false := decide_eq_false hmo
              have d8' : decide ((most : Int) < (nv : Int)) = false := decide_eq_false (by omega)
              have hrs : res = .ok nv rs := by rw [← hrv, if_neg hmo]
              subst hrs
              have HAT := Lib.hid (show n - rs.length = pa1 by omega)
              clear hrv hval hnv hys hbound
              go_wp2
              go_ret
              exact ⟨HO2.out, _, rfl, rfl, by rw [HN.out, HAT.out]; exact HR2.out⟩
          · have d7 : decide ((b : Int) < 128) = false := decide_eq_false (by omega)
            rw [if_neg h128] at hrv
            have HRV := Lib.hid hrv
            obtain ⟨sc2, hsc2⟩ : ∃ sc2, sc * 128 = sc2 := ⟨_, rfl⟩
            have hsc3 : sc2 = 128 ^ (i + 1) := by rw [← hsc2, HSC.out, Nat.pow_succ]
            have hscb : sc2 < 18446744073709551616 := by rw [hsc3]; exact Nat.lt_of_le_of_lt (Nat.pow_le_pow_right (n := 128) (by omega) (show i + 1 ≤ 9 by omega)) (by decide)
            have e9 : IntKind.u64.wrap ((sc : Int) * 128) = (sc2 : Int) := by rw [IntKind.wrap_u64]; omega
            have hnv3 : nv < 128 ^ (i + 1) := by rw [← hsc3, ← hsc2, ← hnv, ← hys]; have : y * sc ≤ 127 * sc := Nat.mul_le_mul_right sc (by omega); have hacc := HAC.out; rw [← HSC.out] at hacc; omega
            have HHH := Lib.hid (show sc2 = 128 ^ (i + 1) ∧ nv < 128 ^ (i + 1) from ⟨hsc3, hnv3⟩)
            clear hrv hval hnv hys hbound hsc2 hsc3 hnv3
            go_wp2
            go_roundg rs.length
            case measure => omega
            case rel => exact ⟨i + 1, nv, sc2, rs, pre ++ [b], rfl, by rw [HLP.out, List.append_assoc]; rfl, by omega, by go_num, rfl, rfl, HHH.out.1, HHH.out.2, HRV.out, by rw [HPB.out]; exact HR2.out, HO2.out⟩
        · have d3 : decide (0 < (i : Int)) = true := decide_eq_true (by omega)
          have d3n : decide (0 < i) = true := decide_eq_true (by omega)
          by_cases hb0 : b = 0
          · have d4 : ((b : Int) == 0) = true := by rw [hb0]; rfl
            have d4n : decide (b = 0) = true := decide_eq_true hb0
            have d4m : (b == 0) = true := by rw [hb0]; rfl
            rw [if_pos (.inr ⟨by omega, hb0⟩)] at hrv
            subst hrv
            clear hval hsc hacc hb0 hbound hscl
            go_wp2
            go_ret
            exact ⟨HO2.out.trans (Only.of_grown (grown_set' _ g 2 (.int .i64 14)) (fun k e => by cases e; rfl)), _, _, rfl, rfl, HN.out ▸ HR2.out.set2 14⟩
          · have d4 : ((b : Int) == 0) = false := beq_eq_false_iff_ne.2 (by omega)
            have d4n : decide (b = 0) = false := decide_eq_false hb0
            have d4m : (b == 0) = false := beq_eq_false_iff_ne.2 hb0
            rw [if_neg (by omega)] at hrv
            have HSC := Lib.hid hsc
            have HAC := Lib.hid hacc
            clear hsc hacc
            obtain ⟨nv, hnv⟩ : ∃ nv, acc + y * sc = nv := ⟨_, rfl⟩
            have hnvb : nv < 18446744073709551616 := by rw [← hnv]; exact hbound
            rw [hnv] at hrv
            have e5 : IntKind.u64.wrap ((y : Int) * (sc : Int)) = ((y * sc : Nat) : Int) := by rw [← Int.natCast_mul, IntKind.wrap_u64]; omega
            obtain ⟨ys, hys⟩ : ∃ ys, y * sc = ys := ⟨_, rfl⟩
            rw [hys] at e5 hnv
            have e6 : IntKind.u64.wrap ((acc : Int) + (ys : Int)) = (nv : Int) := by rw [IntKind.wrap_u64]; omega
            by_cases h128 : b < 128
            · have d7 : decide ((b : Int) < 128) = true := decide_eq_true (by omega)
              rw [if_pos h128] at hrv
              by_cases hmo : most < nv
              · have d8 : decide (most < nv) = true := decide_eq_true hmo
                have d8' : decide ((most : Int) < (nv : Int)) = true := decide_eq_true (by omega)
                have hrs : res = .er 10 := by rw [← hrv, if_pos hmo]
                subst hrs
                clear hrv hval hnv hys hbound
                go_wp2
                go_ret
                exact ⟨HO2.out.trans (Only.of_grown (grown_set' _ g 2 (.int .i64 10)) (fun k e => by cases e; rfl)), _, _, rfl, rfl, HN.out ▸ HR2.out.set2 10⟩
              · have d8 : decide (most < nv) = false := decide_eq_false hmo
                have d8' : decide ((most : Int) < (nv : Int)) = false := decide_eq_false (by omega)
                have hrs : res = .ok nv rs := by rw [← hrv, if_neg hmo]
                subst hrs
                have HAT := Lib.hid (show n - rs.length = pa1 by omega)
                clear hrv hval hnv hys hbound
                go_wp2
                go_ret
                exact ⟨HO2.out, _, rfl, rfl, by rw [HN.out, HAT.out]; exact HR2.out⟩
            · have d7 : decide ((b : Int) < 128) = false := decide_eq_false (by omega)
              rw [if_neg h128] at hrv
              have HRV := Lib.hid hrv
              obtain ⟨sc2, hsc2⟩ : ∃ sc2, sc * 128 = sc2 := ⟨_, rfl⟩
              have hsc3 : sc2 = 128 ^ (i + 1) := by rw [← hsc2, HSC.out, Nat.pow_succ]
              have hscb : sc2 < 18446744073709551616 := by rw [hsc3]; exact Nat.lt_of_le_of_lt (Nat.pow_le_pow_right (n := 128) (by omega) (show i + 1 ≤ 9 by omega)) (by decide)
              have e9 : IntKind.u64.wrap ((sc : Int) * 128) = (sc2 : Int) := by rw [IntKind.wrap_u64]; omega
              have hnv3 : nv < 128 ^ (i + 1) := by rw [← hsc3, ← hsc2, ← hnv, ← hys]; have : y * sc ≤ 127 * sc := Nat.mul_le_mul_right sc (by omega); have hacc := HAC.out; rw [← HSC.out] at hacc; omega
              have HHH := Lib.hid (show sc2 = 128 ^ (i + 1) ∧ nv < 128 ^ (i + 1) from ⟨hsc3, hnv3⟩)
              clear hrv hval hnv hys hbound hsc2 hsc3 hnv3
              go_wp2
              go_roundg rs.length
              case measure => omega
              case rel => exact ⟨i + 1, nv, sc2, rs, pre ++ [b], rfl, by rw [HLP.out, List.append_assoc]; rfl, by omega, by go_num, rfl, rfl, HHH.out.1, HHH.out.2, HRV.out, by rw [HPB.out]; exact HR2.out, HO2.out⟩
end Go.Proofs.Ytnfgokbopndmgaa

/-
  What the document's own reader of layer 8 does beside numbers: bytes, texts, its end. Conditions: no more than 2^16 bytes.
-/
namespace Go.Proofs.Ytnfgokbopndmgaa
open Go.RowKit
open Pol (co Sm)

/-- Bytes that were handed back, or none. -/
def OptB (base : Nat) (v : Value) (w : World) (o : Option (List Nat)) : Prop := OwnB base v w (o.getD [])
theorem mine_own {w : World} {base : Nat} {v : Value} {l : List Nat} (h : Mine w base v l) (hs : Sm l) : OwnB base v w l := by
  obtain ⟨B, c, rfl, hc, hr⟩ := h.slice hs
  refine ⟨B, c, rfl, hc, hr, fun b o e hl => ?_⟩
  subst e
  rcases h.2 with ⟨e, hn⟩ | ⟨g, cap, cur, e, hb, _⟩
  · omega
  · injection e with e
    injection e with e
    injection e with e _
    rw [e]
    exact hb

set_option maxHeartbeats 3200000 in
set_option maxRecDepth 100000 in
theorem ref8r_bytes (l rest : List Nat) (g : Nat) (B : Option Addr) (cb m : Nat) (w : World) (hr : Rd w B l) (hcb : l.length ≤ cb) (hl : l.length ≤ 65536) (hd : ∃ pre, l = pre ++ rest) (hR : RR w g B l.length cb (l.length - rest.length) 0) (hm : m ≤ 1048576) :
    Calls Try.prog 53 #[.pointer (some ⟨g, 0, none⟩), .int .i64 (m : Int)] w (RefE l g B cb (OptB w.heap.size) (rdB m rest) w) := by
  obtain ⟨pre, hp⟩ := hd
  have hrl : pre.length + rest.length = l.length := by rw [hp, List.length_append]
  obtain ⟨pa, hpa⟩ : ∃ pa, pre.length = pa := ⟨_, rfl⟩
  rw [show l.length - rest.length = pa from by omega] at hR
  obtain ⟨rl, hrl2⟩ : ∃ rl, rest.length = rl := ⟨_, rfl⟩
  rw [hpa, hrl2] at hrl
  have HR := Lib.hid hr
  have HRR := Lib.hid hR
  have z0 := hR.c0
  have z1 := hR.c1
  have z2 := hR.c2
  have y1 := hR.z1
  have y2 := hR.z2
  have hgl := block_lt_of_cell hR.c0
  have HCUT := Lib.hid (fun k (hk : k ≤ rl) => show tab k (fun j => co l (pa + j)) = rest.take k from Lin.list_ext (by rw [tab_len, List.length_take]; omega) fun i hi => by
    rw [tab_len] at hi
    rw [co_tab, if_pos hi, hp, ← hpa]
    unfold co
    rw [List.getElem?_append_right (by omega), List.getElem?_take, if_pos hi]
    congr 2
    omega)
  have HSR := Lib.hid (show ∀ k, Sm (rest.take k) from fun k => Pol.co_lt_of fun z hz => hr.1.mem z (by rw [hp]; exact List.mem_append.2 (.inr (List.mem_of_mem_take hz))))
  have HRD := Lib.hid (show rdB m rest = if rl < m then .er 2 else .ok (rest.take m) (rest.drop m) from by unfold rdB; rw [hrl2])
  have HDL := Lib.hid (show (rest.drop m).length = rl - m by rw [List.length_drop, hrl2])
  have HTL := Lib.hid (fun k (hk : k ≤ rl) => show (rest.take k).length = k by rw [List.length_take, hrl2]; omega)
  rw [HRD.out]
  clear hr hR hp hpa hrl2
  generalize hn : l.length = n at *
  have HN := Lib.hid hn
  clear hn
  obtain ⟨df, hdf⟩ : ∃ df, n - pa = df := ⟨_, rfl⟩
  have e1 : IntKind.i64.wrap ((n : Int) - (pa : Int)) = (df : Int) := by rw [IntWalk.i64_in _ (by omega)]; omega
  by_cases hlt : rl < m
  · rw [if_pos hlt]
    have d1 : decide (df < m) = true := decide_eq_true (by omega)
    clear hdf HRD
    go_enter Try.func53, Try.ntmps53
    go_wp2
    go_quiet (fail)
    go_wp2
    go_ret
    exact ⟨((Only.refl _ w).drewN nq).trans (Only.of_grown (grown_set' _ g 2 (.int .i64 2)) (fun k e => by cases e; rfl)), _, _, rfl, ⟨none, 0, rfl, Nat.le_refl _, Rd.nil _ _, fun _ _ _ h => absurd h (by simp)⟩, HN.out ▸ (HRR.out.drewN nq).set2 2⟩
  · rw [if_neg hlt]
    have d1 : decide (df < m) = false := decide_eq_false (by omega)
    obtain ⟨p2, hp2⟩ : ∃ p2, pa + m = p2 := ⟨_, rfl⟩
    have e2 : IntKind.i64.wrap ((pa : Int) + (m : Int)) = (p2 : Int) := by rw [IntWalk.i64_in _ (by omega)]; omega
    obtain ⟨X, hX, hXr⟩ := run_cut_u8 B n cb pa p2 (by omega) (by omega)
    rw [show p2 - pa = m from by omega] at hX hXr
    obtain ⟨cx, hcx⟩ : ∃ cx, cb - pa = cx := ⟨_, rfl⟩
    rw [hcx] at hX
    have HXR := Lib.hid (fun W (hW : Ext w W) => show Rd W X (rest.take m) from by
      have h := hXr W l (HR.out.ext hW) (by rw [HN.out]; omega)
      rwa [HCUT.out m (by omega)] at h)
    have hp2n : p2 ≤ n := by omega
    have hpa2 : pa ≤ p2 := by omega
    have hp2c : p2 ≤ cb := by omega
    have HAT := Lib.hid (show n - (rl - m) = p2 by omega)
    have HT1 := Lib.hid (HTL.out m (by omega))
    have HS1 := Lib.hid (HSR.out m)
    clear hdf hXr hcx hp2 HRD HCUT
    generalize rest.take m = E at *
    go_enter Try.func53, Try.ntmps53
    go_wp2
    go_quiet (fail)
    revert nq
    intro q1
    go_wp2
    refine wp_region_stab (Two ⟨g, 0, none⟩ (.slice B n cb) ⟨g, 1, none⟩ (.int .i64 (pa : Int))) [0, 1, 2, 3, 4, 5, 6, 7, 8, 9, 10, 11, 12, 13, 14, 15] [(1, true), (2, true), (3, true), (4, true), (5, true), (6, true), (7, true), (8, true), (9, true), (10, true), (11, true), (12, true), (13, true), (14, true), (15, true), (0, false), (16, false), (17, false)] (by kernel_rfl) (fun c a a' w e h => ⟨e ▸ h.1, h.2⟩) (by kernel_rfl) ⟨z0, z1⟩ ?_
    refine stab_yes rfl (fun K hK => ?_)
    go_simp
    refine ⟨_, fun _ _ => rfl, hK _ ?_⟩
    clear hK K
    refine stab_yes rfl (fun K hK => ?_)
    go_simp
    refine ⟨_, fun _ _ => rfl, hK _ ?_⟩
    clear hK K
    refine stab_yes rfl (fun K hK => ?_)
    go_simp
    refine ⟨_, fun _ _ => rfl, hK _ ?_⟩
    clear hK K
    refine stab_yes rfl (fun K hK => ?_)
    go_simp
    refine ⟨(.slice B n cb), fun W hW => ?_, hK _ ?_⟩
    focus (have h1 := hW.1; go_simp; done)
    clear hK K
    refine stab_yes rfl (fun K hK => ?_)
    go_simp
    refine ⟨_, fun _ _ => rfl, hK _ ?_⟩
    clear hK K
    refine stab_yes rfl (fun K hK => ?_)
    go_simp
    refine ⟨_, fun _ _ => rfl, hK _ ?_⟩
    clear hK K
    refine stab_yes rfl (fun K hK => ?_)
    go_simp
    refine ⟨_, fun _ _ => rfl, hK _ ?_⟩
    clear hK K
    refine stab_yes rfl (fun K hK => ?_)
    go_simp
    refine ⟨(.int .i64 (pa : Int)), fun W hW => ?_, hK _ ?_⟩
    focus (have h1 := hW.2; go_simp; done)
    clear hK K
    refine stab_yes rfl (fun K hK => ?_)
    go_simp
    refine ⟨_, fun _ _ => rfl, hK _ ?_⟩
    clear hK K
    refine stab_yes rfl (fun K hK => ?_)
    go_simp
    refine ⟨_, fun _ _ => rfl, hK _ ?_⟩
    clear hK K
    refine stab_yes rfl (fun K hK => ?_)
    go_simp
    refine ⟨_, fun _ _ => rfl, hK _ ?_⟩
    clear hK K
    refine stab_yes rfl (fun K hK => ?_)
    go_simp
    refine ⟨(.int .i64 (pa : Int)), fun W hW => ?_, hK _ ?_⟩
    focus (have h1 := hW.2; go_simp; done)
    clear hK K
    refine stab_yes rfl (fun K hK => ?_)
    go_simp
    refine ⟨_, fun _ _ => rfl, hK _ ?_⟩
    clear hK K
    refine stab_yes rfl (fun K hK => ?_)
    go_simp
    refine ⟨_, fun _ _ => rfl, hK _ ?_⟩
    clear hK K
    refine stab_yes rfl (fun K hK => ?_)
    go_simp
    refine ⟨_, fun _ _ => rfl, hK _ ?_⟩
    clear hK K
    refine stab_one rfl (fun K hK => ?_)
    go_wp2
    have HRR1 := Lib.hid ((HRR.out.drewN (q1 + 1)).ext ((Ext.refl (w.drewN (q1 + 1))).alloc (.cells #[] 5)))
    have HXD := Lib.hid ((Ext.refl w).drewN (q1 + 1))
    have hsd : (w.drewN (q1 + 1)).heap.size = w.heap.size := rfl
    refine ⟨fun _ => ⟨HRR1.out.c0, HRR1.out.c1⟩, ?_⟩
    clear HRR1 z0 z1 z2 y1 y2
    refine stab_one rfl (fun K hK => ?_)
    go_wp2_with (at_builtin; refine wpList_append_rd rfl (.tmp 26) (.tmp 41) rfl w.heap.size _ [] E rfl (mine_empty (w.drewN (q1 + 1))) X m cx rfl HT1.out (HXR.out _ (HXD.out.alloc _)) (by rw [HT1.out]; simp; omega) (by simp) ?_; intro v' w3 hown' hg' hat'; rw [List.nil_append] at hown'; have hx3 := (HXD.out.alloc (.cells #[] 5)).more hg' (fun r e => by have := ((mine_empty (w.drewN (q1 + 1))).block r e).1; exact this); obtain ⟨Bv, cv, ev', hcv, _⟩ := hown'.slice HS1.out; rw [HT1.out] at ev' hcv; subst ev'; have HO := Lib.hid hown'; have HX3 := Lib.hid hx3; clear hown' hg' hat' hx3)
    have HR3 := Lib.hid (HRR.out.ext HX3.out)
    have z0 := HR3.out.c0
    have z1 := HR3.out.c1
    have y1 := HR3.out.z1
    refine ⟨fun h => absurd h (by decide), ?_⟩
    refine stab_one rfl (fun K hK => ?_)
    go_wp2
    refine ⟨fun h => absurd h (by decide), ?_⟩
    unfold wpStab
    go_wp2
    go_ret
    have hmv := mine_only (X := fun k => k = g) HO.out (Only.of_grown (grown_set' w3 g 1 (.int .i64 (p2 : Int))) (fun k e => by cases e; rfl)) (fun k hk e => by have := (HO.out.block k hk).1; omega)
    exact ⟨(Only.of_ext HX3.out).trans (Only.of_grown (grown_set' _ g 1 (.int .i64 (p2 : Int))) (fun k e => by cases e; rfl)), _, rfl, by
      have h := mine_own (hmv.down (base' := w.heap.size) (by omega)) HS1.out
      exact h, by rw [HN.out, HDL.out, HAT.out]; exact HR3.out.set1 p2⟩

theorem OwnB.down {base base' : Nat} {v : Value} {w : World} {l : List Nat} (h : OwnB base v w l) (hb : base' ≤ base) : OwnB base' v w l := by
  obtain ⟨B, c, e, hc, hr, hbl⟩ := h
  exact ⟨B, c, e, hc, hr, fun b o e hl => Nat.le_trans hb (hbl b o e hl)⟩
set_option maxHeartbeats 800000 in
theorem ref8r_none (g : Nat) (B : Option Addr) (n cb a e : Nat) (m : Int) (w : World) (hR : RR w g B n cb a e) (he : 0 < e) :
    Calls Try.prog 53 #[.pointer (some ⟨g, 0, none⟩), .int .i64 m] w (fun en w' => en = .returned (.slice none 0 0) ∧ w = w') := by
  have z2 := hR.c2
  have t0 : ((e : Int) != 0) = true := by simp; omega
  clear hR he
  go_enter Try.func53, Try.ntmps53
  go_wp2
  go_ret
  exact ⟨rfl, rfl⟩

set_option maxHeartbeats 1600000 in
set_option maxRecDepth 100000 in
theorem ref8r_text (l rest : List Nat) (g : Nat) (B : Option Addr) (cb m : Nat) (w : World) (hr : Rd w B l) (hcb : l.length ≤ cb) (hfar : ∀ b o, B = some ⟨b, o, none⟩ → 0 < l.length → b ≠ g) (hl : l.length ≤ 65536) (hd : ∃ pre, l = pre ++ rest) (hR : RR w g B l.length cb (l.length - rest.length) 0) (hm : m ≤ 5000) :
    Calls Try.prog 39 #[.pointer (some ⟨g, 0, none⟩), .int .i64 (m : Int)] w (RefE l g B cb (OptB w.heap.size) (rdT m rest) w) := by
  have HN := Lib.hid (ref8r_number l rest g B cb m w hr hfar hl hd hR (by omega))
  have e0 : max (m : Int) 0 = (m : Int) := by omega
  have e0' : max 0 (m : Int) = (m : Int) := by omega
  have e1 : IntKind.u64.wrap (m : Int) = (m : Int) := by rw [IntKind.wrap_u64]; omega
  have hsr : Sm rest := by obtain ⟨pre, hp⟩ := hd; rw [hp] at hr; exact (sm_split hr.1).2
  unfold rdT
  cases hres : rdN m rest with
  | er e =>
    rw [hres] at HN
    have he := (rdN_er hres).1
    clear hr hR hd hfar hres hsr
    go_enter Try.func39, Try.ntmps39
    go_wp2_with fail
    refine HN.out.mono ?_
    rintro en w1 ⟨ho, v, a, rfl, rfl, hrr⟩
    have HO := Lib.hid ho
    have HRR := Lib.hid hrr
    clear ho hrr
    go_wp2_with fail
    refine (ref8r_none g B l.length cb a e 0 w1 HRR.out he).mono ?_
    rintro en w2 ⟨rfl, rfl⟩
    go_wp2
    go_ret
    exact ⟨HO.out, _, a, rfl, ⟨none, 0, rfl, Nat.le_refl _, Rd.nil _ _, fun _ _ _ h => absurd h (by simp)⟩, HRR.out⟩
  | ok k r =>
    rw [hres] at HN
    obtain ⟨hk1, _, hk3⟩ := vn_rdN hsr hres
    have hkm : k ≤ 5000 := by omega
    have e2 : IntKind.i64.wrap (k : Int) = (k : Int) := IntWalk.i64_in _ (by omega)
    have HB := Lib.hid (fun w1 (ho : Only (fun k => k = g) w w1) (hrr : RR w1 g B l.length cb (l.length - r.length) 0) => ref8r_bytes l r g B cb k w1 (rd_keep hr ho hfar) hcb hl (by
      obtain ⟨pre, hp⟩ := hd
      exact ⟨pre ++ vn k, by rw [List.append_assoc, ← hk1]; exact hp⟩) hrr (by omega))
    show Calls _ _ _ _ (RefE l g B cb (OptB w.heap.size) (rdB k r) w)
    clear hr hR hd hfar hres hsr hk1 hk3
    go_enter Try.func39, Try.ntmps39
    go_wp2_with fail
    refine HN.out.mono ?_
    rintro en w1 ⟨ho, v, rfl, rfl, hrr⟩
    have HO := Lib.hid ho
    have HB1 := Lib.hid (HB.out w1 ho hrr)
    have hs1 := ho.size
    clear ho hrr
    go_wp2_with fail
    refine HB1.out.mono ?_
    intro en w2 h2
    cases hrd : rdB k r with
    | ok t r2 =>
      rw [hrd] at h2
      obtain ⟨ho2, v2, rfl, hv2, hrr2⟩ := h2
      have HH := Lib.hid (show Only (fun k => k = g) w w2 ∧ OwnB w.heap.size v2 w2 t ∧ RR w2 g B l.length cb (l.length - r2.length) 0 from ⟨HO.out.trans ho2, OwnB.down hv2 hs1, hrr2⟩)
      have HRD := Lib.hid hrd
      clear ho2 hv2 hrr2 hrd
      go_wp2
      go_ret
      refine ⟨HH.out.1, ?_⟩
      rw [HRD.out]
      exact ⟨_, rfl, HH.out.2.1, HH.out.2.2⟩
    | er e =>
      rw [hrd] at h2
      obtain ⟨ho2, v2, a, rfl, hv2, hrr2⟩ := h2
      have HH := Lib.hid (show Only (fun k => k = g) w w2 ∧ OwnB w.heap.size v2 w2 [] ∧ RR w2 g B l.length cb a e from ⟨HO.out.trans ho2, OwnB.down hv2 hs1, hrr2⟩)
      have HRD := Lib.hid hrd
      clear ho2 hv2 hrr2 hrd
      go_wp2
      go_ret
      refine ⟨HH.out.1, ?_⟩
      rw [HRD.out]
      exact ⟨_, a, rfl, HH.out.2.1, HH.out.2.2⟩

set_option maxHeartbeats 1600000 in
set_option maxRecDepth 100000 in
theorem ref8r_end (rest : List Nat) (g : Nat) (B : Option Addr) (n cb : Nat) (w : World) (hR : RR w g B n cb (n - rest.length) 0) (hl : rest.length ≤ n) :
    Calls Try.prog 40 #[.pointer (some ⟨g, 0, none⟩)] w (fun e w' => e = .returned (.int .i64 (if rest = [] then 0 else 3)) ∧ Only (fun k => k = g) w w') := by
  have z0 := hR.c0
  have z1 := hR.c1
  have z2 := hR.c2
  have y2 := hR.z2
  have HZ := Lib.hid (fun q v => World.cell?_setCell_same' (w.drewN q) ⟨g, 2, none⟩ v (by rw [show (w.drewN q).cell? ⟨g, 2, none⟩ = w.cell? ⟨g, 2, none⟩ from rfl, hR.c2]; rfl))
  clear hR
  cases rest with
  | nil =>
    rw [if_pos rfl]
    have d1 : decide (n - ([] : List Nat).length < n) = false := decide_eq_false (by simp)
    generalize n - ([] : List Nat).length = a at *
    clear hl
    go_enter Try.func40, Try.ntmps40
    go_wp2
    go_quiet (fail)
    go_wp2
    go_ret
    exact ⟨rfl, (Only.refl _ w).drewN nq⟩
  | cons x r =>
    rw [if_neg (by simp)]
    obtain ⟨a, ha⟩ : ∃ a, n - (x :: r).length = a := ⟨_, rfl⟩
    rw [ha] at z1
    have d1 : decide (a < n) = true := decide_eq_true (by simp at ha hl; omega)
    clear hl ha
    go_enter Try.func40, Try.ntmps40
    go_wp2
    go_quiet (fail)
    have z3 := HZ.out nq (.int .i64 3)
    go_wp2
    go_ret
    exact ⟨rfl, ((Only.refl _ w).drewN nq).trans (Only.of_grown (grown_set' _ g 2 (.int .i64 3)) (fun k e => by cases e; rfl))⟩
end Go.Proofs.Ytnfgokbopndmgaa
