/-
  Part 2 of the texts that the seat's proofs stand on; each part of it begins with its own sentence and conditions. Conditions: those that each theorem names.
-/
import Derived.Test.YtoelkmmdnhnljaaCopiesPack1
import Derived.ProofKit
import Derived.OpenShut
import Derived.SizedLaws
import Derived.ChangeSame
import Derived.Deep.Slices
import Derived.Deep.SlicePairs
import Derived.Maps.RangeWalk

/-
  What the document's own New of layer 13 does. Conditions: none.
-/
namespace Go.Proofs.Ytoelkmmdnhnljaa
open Go.RowKit
open Pol (co)

/-- The blocks that were laid since. -/
def Fresh (w w' : World) (b : Nat) : Prop := w.heap.size ≤ b ∧ b < w'.heap.size
/-- The error's number that New answers. -/
def newc (l : List Nat) : Nat := if l.length < 1 ∨ 6 < l.length then 1 else if 1152921504606846976 < l.sum then 10 else 0
def Lgr.new (l : List Nat) : Lgr := ⟨l, List.replicate l.length 0, List.replicate l.length 0, List.replicate l.length 0, 0⟩
theorem sum_zeros13 (n : Nat) : (List.replicate n 0).sum = 0 := by
  induction n with
  | zero => rfl
  | succ n ih => rw [List.replicate_succ, List.sum_cons, ih]
theorem co_zeros13 (n i : Nat) : co (List.replicate n 0) i = 0 := by
  unfold co
  rw [List.getElem?_replicate]
  split <;> rfl
theorem Lgr.new_ok (l : List Nat) : (Lgr.new l).ok l.length l.sum :=
  ⟨rfl, by simp [Lgr.new], by simp [Lgr.new], by simp [Lgr.new], by simp [Lgr.new], fun i => by simp [Lgr.new, co_zeros13]⟩
/-- What New of the document's ledger leaves. -/
def NewR (l : List Nat) (w : World) (e : Ending) (w' : World) : Prop :=
  Ext w w' ∧ ((newc l = 0 ∧ ∃ σ G, e = .returned (.tuple #[.pointer (some ⟨σ, 0, none⟩), .int .i64 0]) ∧ RG (Fresh w w') σ G w' l.length (Lgr.new l)) ∨
    (newc l ≠ 0 ∧ e = .returned (.tuple #[.pointer none, .int .i64 ((newc l : Nat) : Int)])))
/-- What has been made by the region that lays the ledger. -/
structure NwI (u : World) (n : Nat) (A : Option Addr) (c : Nat) (l : List Nat) (L : Nat → Bool) (x0 x1 x2 x3 x4 x5 x6 x7 x8 : Value) (w : World) : Prop where
  ext : Ext u w
  p0 : L 0 = true → ∃ g, x0 = .slice (some ⟨g, 0, none⟩) 0 0
  p1 : L 1 = true → x1 = .slice A n c
  p3 : L 3 = true → x3 = .int .i64 (n : Int)
  p5 : L 5 = true → x5 = .int .i64 (n : Int)
  p7 : L 7 = true → x7 = .int .i64 (n : Int)
  fam : Fam w u.heap.size n (fun k => if k = 0 then l else List.replicate n 0) (fun k => L (2 * k + 2)) (fun k => if k = 0 then x2 else if k = 1 then x4 else if k = 2 then x6 else x8)
section
variable {u : World} {n : Nat} {A : Option Addr} {c : Nat} {l : List Nat} {L : Nat → Bool} {x0 x1 x2 x3 x4 x5 x6 x7 x8 : Value} {w : World}
theorem NwI.set0 {w' : World} (h : NwI u n A c l L x0 x1 x2 x3 x4 x5 x6 x7 x8 w) (g : Nat) (hx : Ext w w') : NwI u n A c l (fun j => j == 0 || L j) (.slice (some ⟨g, 0, none⟩) 0 0) x1 x2 x3 x4 x5 x6 x7 x8 w' :=
  ⟨h.ext.trans hx, fun _ => ⟨g, rfl⟩, fun e => h.p1 (by simpa using e), fun e => h.p3 (by simpa using e), fun e => h.p5 (by simpa using e), fun e => h.p7 (by simpa using e), h.fam.same hx (fun k _ e => by simpa using e) (fun k _ => rfl)⟩
theorem NwI.set1 (h : NwI u n A c l L x0 x1 x2 x3 x4 x5 x6 x7 x8 w) : NwI u n A c l (fun j => j == 1 || L j) x0 (.slice A n c) x2 x3 x4 x5 x6 x7 x8 w :=
  ⟨h.ext, fun e => h.p0 (by simpa using e), fun _ => rfl, fun e => h.p3 (by simpa using e), fun e => h.p5 (by simpa using e), fun e => h.p7 (by simpa using e), h.fam.same (Ext.refl _) (fun k _ e => by
    simp only [Bool.or_eq_true, beq_iff_eq] at e
    rcases e with e | e
    · omega
    · exact e) (fun k _ => rfl)⟩
theorem NwI.set3 (h : NwI u n A c l L x0 x1 x2 x3 x4 x5 x6 x7 x8 w) : NwI u n A c l (fun j => j == 3 || L j) x0 x1 x2 (.int .i64 (n : Int)) x4 x5 x6 x7 x8 w :=
  ⟨h.ext, fun e => h.p0 (by simpa using e), fun e => h.p1 (by simpa using e), fun _ => rfl, fun e => h.p5 (by simpa using e), fun e => h.p7 (by simpa using e), h.fam.same (Ext.refl _) (fun k _ e => by
    simp only [Bool.or_eq_true, beq_iff_eq] at e
    rcases e with e | e
    · omega
    · exact e) (fun k _ => rfl)⟩
theorem NwI.set5 (h : NwI u n A c l L x0 x1 x2 x3 x4 x5 x6 x7 x8 w) : NwI u n A c l (fun j => j == 5 || L j) x0 x1 x2 x3 x4 (.int .i64 (n : Int)) x6 x7 x8 w :=
  ⟨h.ext, fun e => h.p0 (by simpa using e), fun e => h.p1 (by simpa using e), fun e => h.p3 (by simpa using e), fun _ => rfl, fun e => h.p7 (by simpa using e), h.fam.same (Ext.refl _) (fun k _ e => by
    simp only [Bool.or_eq_true, beq_iff_eq] at e
    rcases e with e | e
    · omega
    · exact e) (fun k _ => rfl)⟩
theorem NwI.set7 (h : NwI u n A c l L x0 x1 x2 x3 x4 x5 x6 x7 x8 w) : NwI u n A c l (fun j => j == 7 || L j) x0 x1 x2 x3 x4 x5 x6 (.int .i64 (n : Int)) x8 w :=
  ⟨h.ext, fun e => h.p0 (by simpa using e), fun e => h.p1 (by simpa using e), fun e => h.p3 (by simpa using e), fun e => h.p5 (by simpa using e), fun _ => rfl, h.fam.same (Ext.refl _) (fun k _ e => by
    simp only [Bool.or_eq_true, beq_iff_eq] at e
    rcases e with e | e
    · omega
    · exact e) (fun k _ => rfl)⟩
theorem NwI.set2 {w' : World} {v : Value} (h : NwI u n A c l L x0 x1 x2 x3 x4 x5 x6 x7 x8 w) (hm : MadeU w' w.heap.size v n l) (hx : Ext w w') : NwI u n A c l (fun j => j == 2 || L j) x0 x1 v x3 x4 x5 x6 x7 x8 w' :=
  ⟨h.ext.trans hx, fun e => h.p0 (by simpa using e), fun e => h.p1 (by simpa using e), fun e => h.p3 (by simpa using e), fun e => h.p5 (by simpa using e), fun e => h.p7 (by simpa using e),
    h.fam.next (i := 0) hx h.ext.size (by simpa using hm) (fun k _ e hne => by
      simp only [Bool.or_eq_true, beq_iff_eq] at e
      rcases e with e | e
      · omega
      · exact e) (fun k _ hne => by simp [hne])⟩
theorem NwI.set4 {w' : World} {v : Value} (h : NwI u n A c l L x0 x1 x2 x3 x4 x5 x6 x7 x8 w) (hm : MadeU w' w.heap.size v n (List.replicate n 0)) (hx : Ext w w') : NwI u n A c l (fun j => j == 4 || L j) x0 x1 x2 x3 v x5 x6 x7 x8 w' :=
  ⟨h.ext.trans hx, fun e => h.p0 (by simpa using e), fun e => h.p1 (by simpa using e), fun e => h.p3 (by simpa using e), fun e => h.p5 (by simpa using e), fun e => h.p7 (by simpa using e),
    h.fam.next (i := 1) hx h.ext.size (by simpa using hm) (fun k _ e hne => by
      simp only [Bool.or_eq_true, beq_iff_eq] at e
      rcases e with e | e
      · omega
      · exact e) (fun k _ hne => by simp [hne])⟩
theorem NwI.set6 {w' : World} {v : Value} (h : NwI u n A c l L x0 x1 x2 x3 x4 x5 x6 x7 x8 w) (hm : MadeU w' w.heap.size v n (List.replicate n 0)) (hx : Ext w w') : NwI u n A c l (fun j => j == 6 || L j) x0 x1 x2 x3 x4 x5 v x7 x8 w' :=
  ⟨h.ext.trans hx, fun e => h.p0 (by simpa using e), fun e => h.p1 (by simpa using e), fun e => h.p3 (by simpa using e), fun e => h.p5 (by simpa using e), fun e => h.p7 (by simpa using e),
    h.fam.next (i := 2) hx h.ext.size (by simpa using hm) (fun k _ e hne => by
      simp only [Bool.or_eq_true, beq_iff_eq] at e
      rcases e with e | e
      · omega
      · exact e) (fun k _ hne => by simp [hne])⟩
theorem NwI.set8 {w' : World} {v : Value} (h : NwI u n A c l L x0 x1 x2 x3 x4 x5 x6 x7 x8 w) (hm : MadeU w' w.heap.size v n (List.replicate n 0)) (hx : Ext w w') : NwI u n A c l (fun j => j == 8 || L j) x0 x1 x2 x3 x4 x5 x6 x7 v w' :=
  ⟨h.ext.trans hx, fun e => h.p0 (by simpa using e), fun e => h.p1 (by simpa using e), fun e => h.p3 (by simpa using e), fun e => h.p5 (by simpa using e), fun e => h.p7 (by simpa using e),
    h.fam.next (i := 3) hx h.ext.size (by simpa using hm) (fun k _ e hne => by
      simp only [Bool.or_eq_true, beq_iff_eq] at e
      rcases e with e | e
      · omega
      · exact e) (fun k hk hne => by
      have : k < 3 := by omega
      match k, this with
      | 0, _ => rfl
      | 1, _ => rfl
      | 2, _ => rfl)⟩
end
set_option maxHeartbeats 3200000 in
set_option maxRecDepth 100000 in
theorem ref13_new (l : List Nat) (A : Option Addr) (n c : Nat) (w : World) (hn : l.length = n) (hr : URd w A l) :
    Calls Try.prog 11 #[.slice A n c] w (NewR l w) := by
  unfold NewR
  have HR := Lib.hid hr
  have HN := Lib.hid hn
  have HT := Lib.hid (fun i (hi : i < l.length) => take_sum13 l i hi)
  have HTL := Lib.hid (fun i => take_sum_le13 l i)
  have HF := Lib.hid (show l.take n = l from by rw [← hn, List.take_length])
  by_cases h1 : n < 1
  · have hc : newc l = 1 := by unfold newc; rw [if_pos (Or.inl (by omega))]
    rw [hc]
    have d1 : decide ((n : Int) < 1) = true := decide_eq_true (by omega)
    clear hr hn
    go_enter Try.func11, Try.ntmps11
    go_wp2
    go_ret2
    exact ⟨Ext.refl _, .inr ⟨by decide, rfl⟩⟩
  · have d1 : decide ((n : Int) < 1) = false := decide_eq_false (by omega)
    by_cases h2 : 6 < n
    · have hc : newc l = 1 := by unfold newc; rw [if_pos (Or.inr (by omega))]
      rw [hc]
      have d2 : decide ((n : Int) > 6) = true := decide_eq_true (by omega)
      have d2' : decide (6 < (n : Int)) = true := decide_eq_true (by omega)
      clear hr hn
      go_enter Try.func11, Try.ntmps11
      go_wp2
      go_ret2
      exact ⟨Ext.refl _, .inr ⟨by decide, rfl⟩⟩
    · have d2 : decide ((n : Int) > 6) = false := decide_eq_false (by omega)
      have d2' : decide (6 < (n : Int)) = false := decide_eq_false (by omega)
      have HC := Lib.hid (show newc l = if 1152921504606846976 < l.sum then 10 else 0 from by unfold newc; rw [if_neg (by omega)])
      clear hr hn
      go_enter Try.func11, Try.ntmps11
      go_wp2
      go_loopg [4, 17] n (fun g s4 s17 wx => ∃ i t : Nat, i + g = n ∧ (l.take i).sum + t = 1152921504606846976 ∧ s4 = .int .u64 (t : Int) ∧ s17 = .int .i64 (i : Int) ∧ w = wx)
      case atStart => exact ⟨0, 1152921504606846976, by omega, by simp, rfl, rfl, rfl⟩
      case round =>
        obtain ⟨i, t, hig, ht, rfl, rfl, rfl⟩ := hrel
        cases gk with
        | zero =>
          obtain rfl : i = n := by omega
          have HV := Lib.hid (show newc l = 0 by rw [HC.out, if_neg]; rw [HF.out] at ht; omega)
          have d3 : decide ((i : Int) < (i : Int)) = false := decide_eq_false (by omega)
          clear ht
          go_wp2
          have HRA := Lib.hid (fun w' (h : Ext w w') => HR.out.ext h)
          have hpos : 0 < i := by omega
          have hle : i ≤ 6 := by omega
          have hmk := run_make_u64 i (by omega)
          refine wp_region_inv_tail 9 (fun L a w' => ∃ x0 x1 x2 x3 x4 x5 x6 x7 x8, a = ⟨#[.slice A i c, undef, u2, u3, .int .u64 (t : Int), u5, .int .i64 (i : Int), .slice A i c,
            .int .i64 (i : Int), .bool false, .bool false, .slice A i c, .int .i64 (i : Int),
            .bool false, .bool false, .slice A i c, .int .i64 (i : Int), .int .i64 (i : Int),
            .bool false, u19, u20, u21, u22, u23, u24, u25, u26, u27, u28, u29, u30, u31, u32, .slice A i c,
            .int .i64 (i : Int), x0, x1, x2, x3, x4, x5, x6, x7, x8, undef, undef], []⟩ ∧ NwI w i A c l L x0 x1 x2 x3 x4 x5 x6 x7 x8 w') (by kernel_rfl) (by kernel_rfl) (by kernel_rfl) (by kernel_rfl) ?_ ?_ ?_
          · intro L hL
            refine ⟨_, _, _, _, _, _, _, _, _, rfl, (Ext.refl w).drew, fun e => ?_, fun e => ?_, fun e => ?_, fun e => ?_, fun e => ?_, ⟨fun k hk e => ?_, fun j k hj hk hne e e2 => ?_⟩⟩
            all_goals (rw [hL _ (by omega)] at e; cases e)
          · intro i0 o ho hi9 L a w2 hI hL haft
            obtain ⟨x0, x1, x2, x3, x4, x5, x6, x7, x8, rfl, h⟩ := hI
            have HH := Lib.hid h
            clear h
            match i0, ho, hi9, hL with
            | 0, ho, hi9, hL =>
              obtain rfl : _ = o := Option.some.inj ho
              clear ho haft hL hi9
              go_wp2
              exact ⟨_, _, _, _, _, _, _, _, _, rfl, HH.out.set0 _ ((Ext.refl _).alloc _)⟩
            | 1, ho, hi9, hL =>
              obtain rfl : _ = o := Option.some.inj ho
              clear ho haft hL hi9
              go_wp2
              exact ⟨_, _, _, _, _, _, _, _, _, rfl, HH.out.set1⟩
            | 3, ho, hi9, hL =>
              obtain rfl : _ = o := Option.some.inj ho
              clear ho haft hL hi9
              go_wp2
              exact ⟨_, _, _, _, _, _, _, _, _, rfl, HH.out.set3⟩
            | 5, ho, hi9, hL =>
              obtain rfl : _ = o := Option.some.inj ho
              clear ho haft hL hi9
              go_wp2
              exact ⟨_, _, _, _, _, _, _, _, _, rfl, HH.out.set5⟩
            | 7, ho, hi9, hL =>
              obtain rfl : _ = o := Option.some.inj ho
              clear ho haft hL hi9
              go_wp2
              exact ⟨_, _, _, _, _, _, _, _, _, rfl, HH.out.set7⟩
            | 2, ho, hi9, hL =>
              obtain rfl : _ = o := Option.some.inj ho
              have l0 := haft ⟨0, .data⟩ (by simp) (by kernel_rfl)
              have l1 := haft ⟨1, .data⟩ (by simp) (by kernel_rfl)
              obtain ⟨g, rfl⟩ := HH.out.p0 l0
              obtain rfl := HH.out.p1 l1
              clear ho haft hL hi9 l0 l1
              have HU := Lib.hid (HRA.out w2 HH.out.ext)
              go_wp2_with (first | (at_builtin; refine wpList_append_new64 rfl (.tmp 35) (.tmp 36) rfl g l rfl A i c rfl HN.out hpos HU.out (by omega) ?_; rintro v w3 hm hx) | fail)
              have HM := Lib.hid hm
              have HX := Lib.hid hx
              clear hm hx
              go_wp2
              exact ⟨_, _, _, _, _, _, _, _, _, rfl, HH.out.set2 HM.out HX.out⟩
            | 4, ho, hi9, hL =>
              obtain rfl : _ = o := Option.some.inj ho
              have l0 := haft ⟨3, .data⟩ (by simp) (by kernel_rfl)
              obtain rfl := HH.out.p3 l0
              clear ho haft hL hi9 l0
              go_wp2
              exact ⟨_, _, _, _, _, _, _, _, _, rfl, HH.out.set4 ⟨_, _, rfl, Nat.le_refl _, row_zeros w2 i⟩ ((Ext.refl _).alloc _)⟩
            | 6, ho, hi9, hL =>
              obtain rfl : _ = o := Option.some.inj ho
              have l0 := haft ⟨5, .data⟩ (by simp) (by kernel_rfl)
              obtain rfl := HH.out.p5 l0
              clear ho haft hL hi9 l0
              go_wp2
              exact ⟨_, _, _, _, _, _, _, _, _, rfl, HH.out.set6 ⟨_, _, rfl, Nat.le_refl _, row_zeros w2 i⟩ ((Ext.refl _).alloc _)⟩
            | 8, ho, hi9, hL =>
              obtain rfl : _ = o := Option.some.inj ho
              have l0 := haft ⟨7, .data⟩ (by simp) (by kernel_rfl)
              obtain rfl := HH.out.p7 l0
              clear ho haft hL hi9 l0
              go_wp2
              exact ⟨_, _, _, _, _, _, _, _, _, rfl, HH.out.set8 ⟨_, _, rfl, Nat.le_refl _, row_zeros w2 i⟩ ((Ext.refl _).alloc _)⟩
            | i0 + 9, ho, hi9, hL => omega
          · intro L a w2 hL hI
            obtain ⟨x0, x1, x2, x3, x4, x5, x6, x7, x8, rfl, h⟩ := hI
            have m2 := h.fam.made 0 (by omega) (hL 2 (by omega))
            have m4 := h.fam.made 1 (by omega) (hL 4 (by omega))
            have m6 := h.fam.made 2 (by omega) (hL 6 (by omega))
            have m8 := h.fam.made 3 (by omega) (hL 8 (by omega))
            have f01 := h.fam.far 0 1 (by omega) (by omega) (by omega) (hL 2 (by omega)) (hL 4 (by omega))
            have f02 := h.fam.far 0 2 (by omega) (by omega) (by omega) (hL 2 (by omega)) (hL 6 (by omega))
            have f03 := h.fam.far 0 3 (by omega) (by omega) (by omega) (hL 2 (by omega)) (hL 8 (by omega))
            have f12 := h.fam.far 1 2 (by omega) (by omega) (by omega) (hL 4 (by omega)) (hL 6 (by omega))
            have f13 := h.fam.far 1 3 (by omega) (by omega) (by omega) (hL 4 (by omega)) (hL 8 (by omega))
            have f23 := h.fam.far 2 3 (by omega) (by omega) (by omega) (hL 6 (by omega)) (hL 8 (by omega))
            have HX := Lib.hid h.ext
            clear h hL
            simp only [if_pos, reduceIte, Nat.reduceEqDiff, Nat.succ_ne_zero] at m2 m4 m6 m8 f01 f02 f03 f12 f13 f23
            obtain ⟨g2, c2, rfl, b2, r2⟩ := m2
            obtain ⟨g4, c4, rfl, b4, r4⟩ := m4
            obtain ⟨g6, c6, rfl, b6, r6⟩ := m6
            obtain ⟨g8, c8, rfl, b8, r8⟩ := m8
            have HG := Lib.hid (show g2 ≠ g4 ∧ g2 ≠ g6 ∧ g2 ≠ g8 ∧ g4 ≠ g6 ∧ g4 ≠ g8 ∧ g6 ≠ g8 from ⟨fun e => f01 (by rw [e]; rfl), fun e => f02 (by rw [e]; rfl), fun e => f03 (by rw [e]; rfl), fun e => f12 (by rw [e]; rfl), fun e => f13 (by rw [e]; rfl), fun e => f23 (by rw [e]; rfl)⟩)
            have HB := Lib.hid (And.intro b2 (And.intro b4 (And.intro b6 b8)))
            have R2 := Lib.hid r2
            have R4 := Lib.hid r4
            have R6 := Lib.hid r6
            have R8 := Lib.hid r8
            clear f01 f02 f03 f12 f13 f23 b2 b4 b6 b8 r2 r4 r6 r8
            simp only [List.drop_succ_cons, List.drop_zero]
            go_wp2
            go_ret2
            have hx : Ext w2 (w2.alloc (.cells #[.slice (some ⟨g2, 0, none⟩) i c2, .slice (some ⟨g4, 0, none⟩) i c4, .slice (some ⟨g6, 0, none⟩) i c6, .slice (some ⟨g8, 0, none⟩) i c8, .int .u64 0] 57)) := (Ext.refl _).alloc _
            obtain ⟨b2, b4, b6, b8⟩ := HB.out
            obtain ⟨f1, f2, f3, f4, f5, f6⟩ := HG.out
            have l2 := R2.out.lt
            have l4 := R4.out.lt
            have l6 := R6.out.lt
            have l8 := R8.out.lt
            have hs := HX.out.size
            have hz : (w2.alloc (.cells #[.slice (some ⟨g2, 0, none⟩) i c2, .slice (some ⟨g4, 0, none⟩) i c4, .slice (some ⟨g6, 0, none⟩) i c6, .slice (some ⟨g8, 0, none⟩) i c8, .int .u64 0] 57)).heap.size = w2.heap.size + 1 := by simp
            refine ⟨HX.out.trans hx, .inl ⟨HV.out, w2.heap.size, ⟨g2, g4, g6, g8, c2, c4, c6, c8⟩, rfl, ?_⟩⟩
            rw [HN.out]
            exact ⟨heap_alloc_new _ _, R2.out.ext hx, by rw [show (Lgr.new l).n = List.replicate i 0 from by rw [← HN.out]; rfl]; exact R4.out.ext hx, by rw [show (Lgr.new l).f = List.replicate i 0 from by rw [← HN.out]; rfl]; exact R6.out.ext hx, by rw [show (Lgr.new l).d = List.replicate i 0 from by rw [← HN.out]; rfl]; exact R8.out.ext hx, (by decide : (0 : Nat) < 18446744073709551616),
              ⟨hs, by omega⟩, ⟨b2, by dsimp only; omega⟩, ⟨b4, by dsimp only; omega⟩, ⟨b6, by dsimp only; omega⟩, ⟨b8, by dsimp only; omega⟩, by dsimp only; omega, by dsimp only; omega, by dsimp only; omega, by dsimp only; omega, f1, f2, f3, f4, f5, f6⟩
        | succ g =>
          have hi : i < n := by omega
          have hiI : (i : Int) < (n : Int) := by omega
          obtain ⟨b0, o, rfl, hcb⟩ := HR.out.2 i (by rw [HN.out]; exact hi)
          have e1 := HT.out i (by rw [HN.out]; exact hi)
          have e2 := HTL.out (i + 1)
          obtain ⟨x, hx⟩ : ∃ x, co l i = x := ⟨_, rfl⟩
          rw [hx] at hcb e1
          by_cases hxt : t < x
          · have HV := Lib.hid (show newc l = 10 by rw [HC.out, if_pos]; omega)
            have d4 : decide ((x : Int) > (t : Int)) = true := decide_eq_true (by omega)
            have d4' : decide ((t : Int) < (x : Int)) = true := decide_eq_true (by omega)
            have d4'' : decide (t < x) = true := decide_eq_true hxt
            clear e1 e2 ht hx
            go_wp2
            go_ret2
            rw [HV.out]
            exact ⟨Ext.refl _, .inr ⟨by decide, rfl⟩⟩
          · have d4 : decide ((x : Int) > (t : Int)) = false := decide_eq_false (by omega)
            have d4' : decide ((t : Int) < (x : Int)) = false := decide_eq_false (by omega)
            have d4'' : decide (t < x) = false := decide_eq_false hxt
            obtain ⟨y, hy⟩ : ∃ y, t - x = y := ⟨_, rfl⟩
            have e3 : IntKind.u64.wrap ((t : Int) - (x : Int)) = (y : Int) := by rw [IntKind.wrap_u64]; omega
            have HE := Lib.hid (show (l.take (i + 1)).sum + y = 1152921504606846976 by omega)
            clear e1 e2 ht hx hy
            go_wp2
            go_roundg g
            case measure => omega
            case rel => exact ⟨i + 1, y, by omega, HE.out, rfl, by go_num, rfl⟩
end Go.Proofs.Ytoelkmmdnhnljaa

/-
  What layer 13's own functions are to do, as one statement, over a predicate that the code's proof chooses: what a ledger is in memory. Conditions: no more than 6 accounts, a total of no more than 2^60.
-/
namespace Go.Proofs.Ytoelkmmdnhnljaa
open Go.RowKit
open Pol (co)

abbrev LgrP := (Nat → Prop) → Nat → World → Nat → Lgr → Prop
/-- An account that is there. -/
def Inn (m : Nat) (who : Int) : Prop := 0 ≤ who ∧ who < (m : Int)
instance (m : Nat) (who : Int) : Decidable (Inn m who) := inferInstanceAs (Decidable (_ ∧ _))
/-- What a call of a ledger leaves: the error's number, the ledger. -/
def OpP (I : LgrP) (X : Nat → Prop) (σ m : Nat) (w : World) (r : Nat × Lgr) (e : Ending) (w' : World) : Prop :=
  e = .returned (.int .i64 ((r.1 : Nat) : Int)) ∧ Only X w w' ∧ I X σ w' m r.2
def NewP (I : LgrP) (l : List Nat) (w : World) (e : Ending) (w' : World) : Prop :=
  Ext w w' ∧ ((newc l = 0 ∧ ∃ σ, e = .returned (.tuple #[.pointer (some ⟨σ, 0, none⟩), .int .i64 0]) ∧ I (Fresh w w') σ w' l.length (Lgr.new l)) ∨
    (newc l ≠ 0 ∧ e = .returned (.tuple #[.pointer none, .int .i64 ((newc l : Nat) : Int)])))
/-- A ledger of m accounts and the total M. -/
structure Good (s : Lgr) (m M : Nat) : Prop where
  ok : s.ok m M
  tot : M ≤ 1152921504606846976
  few : m ≤ 6
structure LedgerSaid (I : LgrP) : Prop where
  keep : ∀ {X : Nat → Prop} {σ m : Nat} {w w' : World} {s : Lgr}, I X σ w m s → (∀ b, X b → w'.heap[b]? = w.heap[b]?) → I X σ w' m s
  new : ∀ (l : List Nat) (A : Option Addr) (n c : Nat) (w : World), l.length = n → URd w A l → Calls Try.prog 10 #[.slice A n c] w (NewP I l w)
  hold : ∀ {X : Nat → Prop} {σ m M x : Nat} {s : Lgr} (who : Int) (w : World), I X σ w m s → Good s m M → x < 18446744073709551616 →
    Calls Try.prog 22 #[.pointer (some ⟨σ, 0, none⟩), .int .i64 who, .int .u64 (x : Int)] w (OpP I X σ m w (if Inn m who then s.hold who.toNat x else (1, s)))
  free : ∀ {X : Nat → Prop} {σ m M x : Nat} {s : Lgr} (who : Int) (w : World), I X σ w m s → Good s m M → x < 18446744073709551616 →
    Calls Try.prog 23 #[.pointer (some ⟨σ, 0, none⟩), .int .i64 who, .int .u64 (x : Int)] w (OpP I X σ m w (if Inn m who then s.back who.toNat x true true else (1, s)))
  pay : ∀ {X : Nat → Prop} {σ m M x : Nat} {s : Lgr} (who : Int) (w : World), I X σ w m s → Good s m M → x < 18446744073709551616 →
    Calls Try.prog 24 #[.pointer (some ⟨σ, 0, none⟩), .int .i64 who, .int .u64 (x : Int)] w (OpP I X σ m w (if Inn m who then s.back who.toNat x false true else (1, s)))
  slash : ∀ {X : Nat → Prop} {σ m M x : Nat} {s : Lgr} (who : Int) (w : World), I X σ w m s → Good s m M → x < 18446744073709551616 →
    Calls Try.prog 25 #[.pointer (some ⟨σ, 0, none⟩), .int .i64 who, .int .u64 (x : Int)] w (OpP I X σ m w (if Inn m who then s.back who.toNat x false false else (1, s)))
  move : ∀ {X : Nat → Prop} {σ m M x : Nat} {s : Lgr} (a b : Int) (w : World), I X σ w m s → Good s m M → x < 18446744073709551616 →
    Calls Try.prog 28 #[.pointer (some ⟨σ, 0, none⟩), .int .i64 a, .int .i64 b, .int .u64 (x : Int)] w (OpP I X σ m w (if Inn m a ∧ Inn m b then s.move a.toNat b.toNat x else (1, s)))
  turn : ∀ {X : Nat → Prop} {σ m M x : Nat} {s : Lgr} (who : Int) (w : World), I X σ w m s → Good s m M → x < 18446744073709551616 →
    Calls Try.prog 26 #[.pointer (some ⟨σ, 0, none⟩), .int .i64 who, .int .u64 (x : Int)] w (OpP I X σ m w (if Inn m who then s.turn who.toNat x else (1, s)))
  balance : ∀ {X : Nat → Prop} {σ m M : Nat} {s : Lgr} (who : Int) (w : World), I X σ w m s → Good s m M →
    Calls Try.prog 16 #[.pointer (some ⟨σ, 0, none⟩), .int .i64 who] w (Tells (.int .u64 (((if Inn m who then co s.b who.toNat else 0) : Nat) : Int)) w)
  nonce : ∀ {X : Nat → Prop} {σ m M : Nat} {s : Lgr} (who : Int) (w : World), I X σ w m s → Good s m M →
    Calls Try.prog 17 #[.pointer (some ⟨σ, 0, none⟩), .int .i64 who] w (Tells (.int .u64 (((if Inn m who then co s.n who.toNat else 0) : Nat) : Int)) w)
  fees : ∀ {X : Nat → Prop} {σ m M : Nat} {s : Lgr} (w : World), I X σ w m s → Good s m M → Calls Try.prog 18 #[.pointer (some ⟨σ, 0, none⟩)] w (Tells (.int .u64 ((s.f.sum : Nat) : Int)) w)
  deposits : ∀ {X : Nat → Prop} {σ m M : Nat} {s : Lgr} (w : World), I X σ w m s → Good s m M → Calls Try.prog 19 #[.pointer (some ⟨σ, 0, none⟩)] w (Tells (.int .u64 ((s.d.sum : Nat) : Int)) w)
  treasury : ∀ {X : Nat → Prop} {σ m M : Nat} {s : Lgr} (w : World), I X σ w m s → Good s m M → Calls Try.prog 20 #[.pointer (some ⟨σ, 0, none⟩)] w (Tells (.int .u64 ((s.t : Nat) : Int)) w)
  total : ∀ {X : Nat → Prop} {σ m M : Nat} {s : Lgr} (w : World), I X σ w m s → Good s m M → Calls Try.prog 21 #[.pointer (some ⟨σ, 0, none⟩)] w (Tells (.int .u64 (M : Int)) w)
  copy : ∀ {X : Nat → Prop} {σ m M : Nat} {s : Lgr} (w : World), I X σ w m s → Good s m M → 0 < m →
    Calls Try.prog 27 #[.pointer (some ⟨σ, 0, none⟩)] w (fun e w' => Ext w w' ∧ ∃ τ, e = .returned (.pointer (some ⟨τ, 0, none⟩)) ∧ I (Fresh w w') τ w' m s)
  ncopy : ∀ (w : World), Calls Try.prog 27 #[.pointer none] w (Tells (.pointer none) w)
  nhold : ∀ (who : Int) (x : Nat) (w : World), Calls Try.prog 22 #[.pointer none, .int .i64 who, .int .u64 (x : Int)] w (Tells (.int .i64 1) w)
  nmove : ∀ (a b : Int) (x : Nat) (w : World), Calls Try.prog 28 #[.pointer none, .int .i64 a, .int .i64 b, .int .u64 (x : Int)] w (Tells (.int .i64 1) w)
  nturn : ∀ (who : Int) (x : Nat) (w : World), Calls Try.prog 26 #[.pointer none, .int .i64 who, .int .u64 (x : Int)] w (Tells (.int .i64 1) w)
  ntotal : ∀ (w : World), Calls Try.prog 21 #[.pointer none] w (Tells (.int .u64 0) w)
  nbalance : ∀ (who : Int) (w : World), Calls Try.prog 16 #[.pointer none, .int .i64 who] w (Tells (.int .u64 0) w)
  nfees : ∀ (w : World), Calls Try.prog 18 #[.pointer none] w (Tells (.int .u64 0) w)
end Go.Proofs.Ytoelkmmdnhnljaa

/-
  What the document's own Move of layer 13 does. Conditions: a total of 64 bits.
-/
namespace Go.Proofs.Ytoelkmmdnhnljaa
open Go.RowKit
open Pol (co)

theorem RG.drewN {Y : Nat → Prop} {σ m : Nat} {G : Gb} {w : World} {s : Lgr} (h : RG Y σ G w m s) (q : Nat) : RG Y σ G (w.drewN q) m s := h.stay fun _ _ => rfl
set_option maxHeartbeats 1600000 in
theorem ref13_move {Y : Nat → Prop} {σ m M x : Nat} {G : Gb} {s : Lgr} (w : World) (h : RG Y σ G w m s) (hk : s.ok m M) (hM : M < 18446744073709551616) (a b : Int) (hx : x < 18446744073709551616) :
    Calls Try.prog 31 #[.pointer (some ⟨σ, 0, none⟩), .int .i64 a, .int .i64 b, .int .u64 (x : Int)] w
      (LedP Y σ m G w (if (0 ≤ a ∧ a < (m : Int)) ∧ 0 ≤ b ∧ b < (m : Int) then s.move a.toNat b.toNat x else (1, s))) := by
  have HIA := Lib.hid (ref13_is w h a)
  have HIB := Lib.hid (ref13_is w h b)
  have HR := Lib.hid h
  have c0 := h.c0
  by_cases ha : 0 ≤ a ∧ a < (m : Int)
  · by_cases hb : 0 ≤ b ∧ b < (m : Int)
    · rw [if_pos ⟨ha, hb⟩]
      obtain ⟨i, rfl⟩ : ∃ i : Nat, (i : Int) = a := ⟨a.toNat, by omega⟩
      obtain ⟨j, rfl⟩ : ∃ j : Nat, (j : Int) = b := ⟨b.toNat, by omega⟩
      rw [decide_eq_true ha] at HIA
      rw [decide_eq_true hb] at HIB
      rw [Int.toNat_natCast, Int.toNat_natCast]
      have hi : i < m := by omega
      have hj : j < m := by omega
      have ci := h.rb.at hi
      have zi := h.rb.free i
      obtain ⟨v, hv⟩ : ∃ v, co s.b i = v := ⟨_, rfl⟩
      rw [hv] at ci
      have HT := Lib.hid (show s.move i j x = if v < x then (9, s) else (0, { s with b := (s.b.set i (v - x)).set j (co (s.b.set i (v - x)) j + x) }) by rw [← hv]; rfl)
      have hiI : (i : Int) < (m : Int) := by omega
      have hi0 : (0 : Int) ≤ (i : Int) := by omega
      have hjI : (j : Int) < (m : Int) := by omega
      have hj0 : (0 : Int) ≤ (j : Int) := by omega
      by_cases h1 : v < x
      · rw [HT.out, if_pos h1]
        have d1 : decide ((v : Int) < (x : Int)) = true := decide_eq_true (by omega)
        have d2 : decide (v < x) = true := decide_eq_true h1
        clear h hk ha hb hv
        obtain ⟨gb, gn, gf, gd, cb, cn', cf, cd⟩ := G
        go_enter Try.func31, Try.ntmps31
        go_wp2_with fail
        refine HIA.out.mono ?_
        rintro e w1 ⟨rfl, rfl⟩
        go_wp2_with fail
        refine HIB.out.mono ?_
        rintro e w1 ⟨rfl, rfl⟩
        go_wp2
        go_ret
        exact ⟨rfl, Only.refl _ _, HR.out⟩
      · rw [HT.out, if_neg h1]
        have d1 : decide ((v : Int) < (x : Int)) = false := decide_eq_false (by omega)
        have d2 : decide (v < x) = false := decide_eq_false h1
        have hle := hk.le i
        rw [hv] at hle
        have HB := Lib.hid (fun (c : Nat) (hc : co (s.b.set i (v - x)) j = c) => show c + x < 18446744073709551616 from by
          have h1 := sum_set13 s.b i (v - x) (by rw [hk.lb]; exact hi)
          have h2 := co_le_sum13 (s.b.set i (v - x)) j
          have h3 := hk.sum
          rw [hv] at h1
          omega)
        obtain ⟨y, hy⟩ : ∃ y, v - x = y := ⟨_, rfl⟩
        have e1 : IntKind.u64.wrap ((v : Int) - (x : Int)) = (y : Int) := by rw [IntKind.wrap_u64]; omega
        have hys : y < 18446744073709551616 := by omega
        rw [hy] at HB ⊢
        have H1 := Lib.hid (fun q => (h.drewN q).set_b (i := i) (x := y) hys)
        clear h hk ha hb hv hle hy HT
        obtain ⟨gb, gn, gf, gd, cb, cn', cf, cd⟩ := G
        go_enter Try.func31, Try.ntmps31
        go_wp2_with fail
        refine HIA.out.mono ?_
        rintro e w1 ⟨rfl, rfl⟩
        go_wp2_with fail
        refine HIB.out.mono ?_
        rintro e w1 ⟨rfl, rfl⟩
        go_wp2
        refine wp_region_quiet_tail 15 (fun w' => ∃ q, w' = w.drewN q) (by kernel_rfl) (by kernel_rfl) ⟨1, rfl⟩ ?_
        simp only [List.take_succ_cons, List.take_zero, List.drop_succ_cons, List.drop_zero]
        repeat (quiet_step (fail))
        refine wpQuiet_nil ?_
        rintro _ ⟨q, rfl⟩
        go_wp2
        obtain ⟨u, hu⟩ : ∃ u, co (s.b.set i y) j = u := ⟨_, rfl⟩
        have hux := HB.out u hu
        have H2 := H1.out q
        have c0' := H2.c0
        have cj := H2.rb.at hj
        have zj := H2.rb.free j
        change World.cell? _ _ = some (.int .u64 ((co (s.b.set i y) j : Nat) : Int)) at cj
        rw [hu] at cj
        obtain ⟨z, hz⟩ : ∃ z, u + x = z := ⟨_, rfl⟩
        have HZ := Lib.hid (show co (s.b.set i y) j + x = z by rw [hu]; exact hz)
        have e2 : IntKind.u64.wrap ((u : Int) + (x : Int)) = (z : Int) := by rw [IntKind.wrap_u64]; omega
        rw [hz] at hux
        have HO := Lib.hid (show Only (Gb.has ⟨gb, gn, gf, gd, cb, cn', cf, cd⟩ σ) w ((w.drewN q).setCell ⟨gb, i, none⟩ (.int .u64 (y : Int))) from ((Only.refl _ w).drewN q).trans (Only.of_grown (grown_set _ gb i _) (fun k e => by injection e with e; exact .inr (.inl e.symm))))
        have HH2 := Lib.hid (fun q2 => (H2.drewN q2).set_b (i := j) (x := z) hux)
        clear H2 hu H1 HB hz
        generalize ((w.drewN q).setCell ⟨gb, i, none⟩ (.int .u64 (y : Int))) = wa at *
        refine wp_region_quiet_tail 15 (fun w' => ∃ q, w' = wa.drewN q) (by kernel_rfl) (by kernel_rfl) ⟨1, rfl⟩ ?_
        simp only [List.take_succ_cons, List.take_zero, List.drop_succ_cons, List.drop_zero]
        repeat (quiet_step (fail))
        refine wpQuiet_nil ?_
        rintro _ ⟨q2, rfl⟩
        go_wp2
        go_ret
        exact ⟨rfl, HO.out.trans (((Only.refl _ wa).drewN q2).trans (Only.of_grown (grown_set _ gb j _) (fun k e => by injection e with e; exact .inr (.inl e.symm)))), by rw [HZ.out]; exact HH2.out q2⟩
    · rw [if_neg (by omega)]
      rw [decide_eq_true ha] at HIA
      rw [decide_eq_false hb] at HIB
      clear h hk ha hb
      go_enter Try.func31, Try.ntmps31
      go_wp2_with fail
      refine HIA.out.mono ?_
      rintro e w1 ⟨rfl, rfl⟩
      go_wp2_with fail
      refine HIB.out.mono ?_
      rintro e w1 ⟨rfl, rfl⟩
      go_wp2
      go_ret
      exact ⟨rfl, Only.refl _ _, HR.out⟩
  · rw [if_neg (by omega)]
    rw [decide_eq_false ha] at HIA
    clear h hk ha HIB
    go_enter Try.func31, Try.ntmps31
    go_wp2_with fail
    refine HIA.out.mono ?_
    rintro e w1 ⟨rfl, rfl⟩
    go_wp2
    go_ret
    exact ⟨rfl, Only.refl _ _, HR.out⟩
end Go.Proofs.Ytoelkmmdnhnljaa

/-
  What the document's own Hold of layer 13 does. Conditions: a total of 64 bits.
-/
namespace Go.Proofs.Ytoelkmmdnhnljaa
open Go.RowKit
open Pol (co)

set_option maxHeartbeats 3200000 in
theorem ref13_hold {Y : Nat → Prop} {σ m M x : Nat} {G : Gb} {s : Lgr} (w : World) (h : RG Y σ G w m s) (hk : s.ok m M) (hM : M < 18446744073709551616) (who : Int) (hx : x < 18446744073709551616) :
    Calls Try.prog 29 #[.pointer (some ⟨σ, 0, none⟩), .int .i64 who, .int .u64 (x : Int)] w
      (LedP Y σ m G w (if 0 ≤ who ∧ who < (m : Int) then s.hold who.toNat x else (1, s))) := by
  have HI := Lib.hid (ref13_is w h who)
  have HR := Lib.hid h
  have c0 := h.c0
  have c2 := h.c2
  have c3 := h.c3
  by_cases hin : 0 ≤ who ∧ who < (m : Int)
  · obtain ⟨i, rfl⟩ : ∃ i : Nat, (i : Int) = who := ⟨who.toNat, by omega⟩
    have hi : i < m := by omega
    rw [decide_eq_true hin] at HI
    rw [if_pos hin, Int.toNat_natCast]
    have ci := h.rb.at hi
    have zi := h.rb.free i
    have fi := h.rf.at hi
    have zf := h.rf.free i
    have di := h.rd.at hi
    have zd := h.rd.free i
    obtain ⟨v, hv⟩ : ∃ v, co s.b i = v := ⟨_, rfl⟩
    obtain ⟨f, hf⟩ : ∃ f, co s.f i = f := ⟨_, rfl⟩
    obtain ⟨d, hd⟩ : ∃ d, co s.d i = d := ⟨_, rfl⟩
    rw [hv] at ci
    rw [hf] at fi
    rw [hd] at di
    have hiI : (i : Int) < (m : Int) := by omega
    have hi0 : (0 : Int) ≤ (i : Int) := by omega
    have HT := Lib.hid (show s.hold i x = if v < 50 ∨ v - 50 < x then (9, s) else (0, { s with b := s.b.set i (v - x - 50), f := s.f.set i (f + x), d := s.d.set i (d + 50) }) by rw [← hv, ← hf, ← hd]; rfl)
    have hok := Lgr.hold_ok (fee := x) hk hi
    by_cases h1 : v < 50
    · rw [HT.out, if_pos (Or.inl h1)]
      have d1 : decide ((v : Int) < 50) = true := decide_eq_true (by omega)
      clear h hk hin hv hf hd hok
      obtain ⟨gb, gn, gf, gd, cb, cn', cf, cd⟩ := G
      go_enter Try.func29, Try.ntmps29
      go_wp2_with fail
      refine HI.out.mono ?_
      rintro e w1 ⟨rfl, rfl⟩
      go_wp2
      go_ret
      exact ⟨rfl, Only.refl _ _, HR.out⟩
    · have d1 : decide ((v : Int) < 50) = false := decide_eq_false (by omega)
      obtain ⟨u, hu⟩ : ∃ u, v - 50 = u := ⟨_, rfl⟩
      have e0 : IntKind.u64.wrap ((v : Int) - 50) = (u : Int) := by rw [IntKind.wrap_u64]; have := hk.le i; omega
      by_cases h2 : v - 50 < x
      · rw [HT.out, if_pos (Or.inr h2)]
        have d2 : decide ((u : Int) < (x : Int)) = true := decide_eq_true (by omega)
        have d2' : decide (u < x) = true := decide_eq_true (by omega)
        clear h hk hin hv hf hd hok
        obtain ⟨gb, gn, gf, gd, cb, cn', cf, cd⟩ := G
        go_enter Try.func29, Try.ntmps29
        go_wp2_with fail
        refine HI.out.mono ?_
        rintro e w1 ⟨rfl, rfl⟩
        go_wp2
        go_ret
        exact ⟨rfl, Only.refl _ _, HR.out⟩
      · rw [HT.out, if_neg (by omega)]
        rw [HT.out, if_neg (by omega)] at hok
        have d2 : decide ((u : Int) < (x : Int)) = false := decide_eq_false (by omega)
        have d2' : decide (u < x) = false := decide_eq_false (by omega)
        have hle := hk.le i
        have hle2 := hok.le i
        have hf2 : co (s.f.set i (f + x)) i = f + x := by rw [co_set13, if_pos ⟨rfl, by rw [hk.lf]; exact hi⟩]
        have hd2 : co (s.d.set i (d + 50)) i = d + 50 := by rw [co_set13, if_pos ⟨rfl, by rw [hk.ld]; exact hi⟩]
        change co (s.b.set i _) i ≤ M ∧ co (s.f.set i (f + x)) i ≤ M ∧ co (s.d.set i (d + 50)) i ≤ M ∧ _ at hle2
        rw [hf2, hd2] at hle2
        rw [hv, hf, hd] at hle
        obtain ⟨y0, hy0⟩ : ∃ y, v - x = y := ⟨_, rfl⟩
        obtain ⟨y1, hy1⟩ : ∃ y, y0 - 50 = y := ⟨_, rfl⟩
        obtain ⟨y2, hy2⟩ : ∃ y, f + x = y := ⟨_, rfl⟩
        obtain ⟨y3, hy3⟩ : ∃ y, d + 50 = y := ⟨_, rfl⟩
        rw [hy0, hy1, hy2, hy3]
        have e1 : IntKind.u64.wrap ((v : Int) - (x : Int)) = (y0 : Int) := by rw [IntKind.wrap_u64]; omega
        have e2 : IntKind.u64.wrap ((y0 : Int) - 50) = (y1 : Int) := by rw [IntKind.wrap_u64]; omega
        have e3 : IntKind.u64.wrap ((f : Int) + (x : Int)) = (y2 : Int) := by rw [IntKind.wrap_u64]; omega
        have e4 : IntKind.u64.wrap ((d : Int) + 50) = (y3 : Int) := by rw [IntKind.wrap_u64]; omega
        have b1 : y1 < 18446744073709551616 := by omega
        have b2 : y2 < 18446744073709551616 := by omega
        have b3 : y3 < 18446744073709551616 := by omega
        have HS1 := Lib.hid (fun q => (h.drewN q).set_b (i := i) (x := y1) b1)
        clear h hk hin hok hle hle2 hf2 hd2 hv hy0 hy1 hy2 hy3 h1 h2 HT hu
        have HF := Lib.hid hf
        have HD := Lib.hid hd
        clear hf hd
        obtain ⟨gb, gn, gf, gd, cb, cn', cf, cd⟩ := G
        have HO0 := Lib.hid (show Only (Gb.has ⟨gb, gn, gf, gd, cb, cn', cf, cd⟩ σ) w w from Only.refl _ w)
        go_enter Try.func29, Try.ntmps29
        go_wp2_with fail
        refine HI.out.mono ?_
        rintro e w1 ⟨rfl, rfl⟩
        go_wp2
        refine wp_region_quiet_tail 16 (fun w' => ∃ q, w' = w.drewN q) (by kernel_rfl) (by kernel_rfl) ⟨1, rfl⟩ ?_
        simp only [List.take_succ_cons, List.take_zero, List.drop_succ_cons, List.drop_zero]
        repeat (quiet_step (fail))
        refine wpQuiet_nil ?_
        rintro _ ⟨q, rfl⟩
        go_wp2
        have H1 := Lib.hid (HS1.out q)
        have HO1 := Lib.hid (show Only (Gb.has ⟨gb, gn, gf, gd, cb, cn', cf, cd⟩ σ) w ((w.drewN q).setCell ⟨gb, i, none⟩ (.int .u64 (y1 : Int))) from HO0.out.trans (((Only.refl _ w).drewN q).trans (Only.of_grown (grown_set _ gb i _) (fun k e => by injection e with e; exact .inr (.inl e.symm)))))
        clear HS1 HO0
        generalize ((w.drewN q).setCell ⟨gb, i, none⟩ (.int .u64 (y1 : Int))) = wa at *
        have c2' := H1.out.c2
        have f' := H1.out.rf.at hi
        have zf' := H1.out.rf.free i
        change World.cell? _ _ = some (.int .u64 ((co s.f i : Nat) : Int)) at f'
        rw [HF.out] at f'
        have HS2 := Lib.hid (fun q => (H1.out.drewN q).set_f (i := i) (x := y2) b2)
        refine wp_region_quiet_tail 15 (fun w' => ∃ q, w' = wa.drewN q) (by kernel_rfl) (by kernel_rfl) ⟨1, rfl⟩ ?_
        simp only [List.take_succ_cons, List.take_zero, List.drop_succ_cons, List.drop_zero]
        repeat (quiet_step (fail))
        refine wpQuiet_nil ?_
        rintro _ ⟨q, rfl⟩
        go_wp2
        have H2 := Lib.hid (HS2.out q)
        have HO2 := Lib.hid (show Only (Gb.has ⟨gb, gn, gf, gd, cb, cn', cf, cd⟩ σ) w ((wa.drewN q).setCell ⟨gf, i, none⟩ (.int .u64 (y2 : Int))) from HO1.out.trans (((Only.refl _ wa).drewN q).trans (Only.of_grown (grown_set _ gf i _) (fun k e => by injection e with e; exact .inr (.inr (.inr (.inl e.symm)))))))
        clear HS2 HO1
        generalize ((wa.drewN q).setCell ⟨gf, i, none⟩ (.int .u64 (y2 : Int))) = wb at *
        have c3' := H2.out.c3
        have d' := H2.out.rd.at hi
        have zd' := H2.out.rd.free i
        change World.cell? _ _ = some (.int .u64 ((co s.d i : Nat) : Int)) at d'
        rw [HD.out] at d'
        have HS3 := Lib.hid (fun q => (H2.out.drewN q).set_d (i := i) (x := y3) b3)
        refine wp_region_quiet_tail 14 (fun w' => ∃ q, w' = wb.drewN q) (by kernel_rfl) (by kernel_rfl) ⟨1, rfl⟩ ?_
        simp only [List.take_succ_cons, List.take_zero, List.drop_succ_cons, List.drop_zero]
        repeat (quiet_step (fail))
        refine wpQuiet_nil ?_
        rintro _ ⟨q, rfl⟩
        go_wp2
        have H3 := Lib.hid (HS3.out q)
        have HO3 := Lib.hid (show Only (Gb.has ⟨gb, gn, gf, gd, cb, cn', cf, cd⟩ σ) w ((wb.drewN q).setCell ⟨gd, i, none⟩ (.int .u64 (y3 : Int))) from HO2.out.trans (((Only.refl _ wb).drewN q).trans (Only.of_grown (grown_set _ gd i _) (fun k e => by injection e with e; exact .inr (.inr (.inr (.inr e.symm)))))))
        clear HS3 HO2
        generalize ((wb.drewN q).setCell ⟨gd, i, none⟩ (.int .u64 (y3 : Int))) = wc at *
        go_ret
        exact ⟨rfl, HO3.out, H3.out⟩
  · rw [if_neg hin]
    rw [decide_eq_false hin] at HI
    clear h hk hin
    go_enter Try.func29, Try.ntmps29
    go_wp2_with fail
    refine HI.out.mono ?_
    rintro e w1 ⟨rfl, rfl⟩
    go_wp2
    go_ret
    exact ⟨rfl, Only.refl _ _, HR.out⟩
end Go.Proofs.Ytoelkmmdnhnljaa

/-
  What the document's own Back of layer 13 does: fee and deposit back, the fee taken, both taken. Conditions: a total of 64 bits.
-/
namespace Go.Proofs.Ytoelkmmdnhnljaa
open Go.RowKit
open Pol (co)

theorem set_same13 : ∀ (l : List Nat) (i : Nat), i < l.length → l.set i (co l i) = l
  | [], _, h => absurd h (by simp)
  | x :: l, 0, _ => by simp [co]
  | x :: l, i + 1, h => by
    have := set_same13 l i (by simpa using h)
    unfold co at this ⊢
    simp at this ⊢
    exact this
theorem RG.set_t {Y : Nat → Prop} {σ m x : Nat} {G : Gb} {w : World} {s : Lgr} (h : RG Y σ G w m s) (hx : x < 18446744073709551616) :
    RG Y σ G (w.setCell ⟨σ, 4, none⟩ (.int .u64 (x : Int))) m { s with t := x } := by
  obtain ⟨f1, f2, f3, f4, f5, f6, f7, f8, f9, f10⟩ := h.far
  exact ⟨heap_setCell_same w σ 4 _ _ _ h.head, h.rb.stay (heap_setCell_other w ⟨σ, 4, none⟩ G.b _ f1.symm), h.rn.stay (heap_setCell_other w ⟨σ, 4, none⟩ G.n _ f2.symm), h.rf.stay (heap_setCell_other w ⟨σ, 4, none⟩ G.f _ f3.symm), h.rd.stay (heap_setCell_other w ⟨σ, 4, none⟩ G.d _ f4.symm), hx, h.yσ, h.yb, h.yn, h.yf, h.yd, h.far⟩
theorem RG.free {Y : Nat → Prop} {σ m : Nat} {G : Gb} {w : World} {s : Lgr} (h : RG Y σ G w m s) (i : Nat) : w.frozen? ⟨σ, i, none⟩ = false := frozen_of_row w σ i _ _ h.head
set_option maxHeartbeats 3200000 in
theorem ref13_back11 {Y : Nat → Prop} {σ m M x : Nat} {G : Gb} {s : Lgr} (w : World) (h : RG Y σ G w m s) (hk : s.ok m M) (hM : M < 18446744073709551616) (who : Int) (hx : x < 18446744073709551616) :
    Calls Try.prog 30 #[.pointer (some ⟨σ, 0, none⟩), .int .i64 who, .int .u64 (x : Int), .bool true, .bool true] w
      (LedP Y σ m G w (if 0 ≤ who ∧ who < (m : Int) then s.back who.toNat x true true else (1, s))) := by
  have HI := Lib.hid (ref13_is w h who)
  have HR := Lib.hid h
  have c0 := h.c0
  have c2 := h.c2
  have c3 := h.c3
  by_cases hin : 0 ≤ who ∧ who < (m : Int)
  · obtain ⟨i, rfl⟩ : ∃ i : Nat, (i : Int) = who := ⟨who.toNat, by omega⟩
    have hi : i < m := by omega
    rw [decide_eq_true hin] at HI
    rw [if_pos hin, Int.toNat_natCast]
    have ci := h.rb.at hi
    have zi := h.rb.free i
    have fi := h.rf.at hi
    have zf := h.rf.free i
    have di := h.rd.at hi
    have zd := h.rd.free i
    obtain ⟨v, hv⟩ : ∃ v, co s.b i = v := ⟨_, rfl⟩
    obtain ⟨f, hf⟩ : ∃ f, co s.f i = f := ⟨_, rfl⟩
    obtain ⟨d, hd⟩ : ∃ d, co s.d i = d := ⟨_, rfl⟩
    rw [hv] at ci
    rw [hf] at fi
    rw [hd] at di
    have hiI : (i : Int) < (m : Int) := by omega
    have hi0 : (0 : Int) ≤ (i : Int) := by omega
    have HT := Lib.hid (show s.back i x true true = if f < x ∨ d = 0 then (9, s) else (0, { s with b := s.b.set i (v + x + 50), f := s.f.set i (f - x), d := s.d.set i (d - 50), t := s.t + 0 + 0 }) by rw [← hv, ← hf, ← hd]; rfl)
    have hok := Lgr.back_ok (fee := x) (u := true) (v := true) hk hi
    by_cases h1 : f < x
    · rw [HT.out, if_pos (Or.inl h1)]
      have d1 : decide ((f : Int) < (x : Int)) = true := decide_eq_true (by omega)
      have d1' : decide (f < x) = true := decide_eq_true h1
      clear h hk hin hv hf hd hok
      obtain ⟨gb, gn, gf, gd, cb, cn', cf, cd⟩ := G
      go_enter Try.func30, Try.ntmps30
      go_wp2_with fail
      refine HI.out.mono ?_
      rintro e w1 ⟨rfl, rfl⟩
      go_wp2
      go_ret
      exact ⟨rfl, Only.refl _ _, HR.out⟩
    · have d1 : decide ((f : Int) < (x : Int)) = false := decide_eq_false (by omega)
      have d1' : decide (f < x) = false := decide_eq_false h1
      by_cases h2 : d = 0
      · rw [HT.out, if_pos (Or.inr h2)]
        subst h2
        clear h hk hin hv hf hd hok
        obtain ⟨gb, gn, gf, gd, cb, cn', cf, cd⟩ := G
        go_enter Try.func30, Try.ntmps30
        go_wp2_with fail
        refine HI.out.mono ?_
        rintro e w1 ⟨rfl, rfl⟩
        go_wp2
        go_ret
        exact ⟨rfl, Only.refl _ _, HR.out⟩
      · rw [HT.out, if_neg (by omega)]
        rw [HT.out, if_neg (by omega)] at hok
        have d2 : ((d : Int) == 0) = false := by simp; omega
        have d2' : decide ((d : Int) = 0) = false := decide_eq_false (by omega)
        have d2'' : decide (d = 0) = false := decide_eq_false h2
        have hle := hk.le i
        have hle2 := hok.le i
        have hdp := hk.dep i
        have hb2 : co (s.b.set i (v + x + 50)) i = v + x + 50 := by rw [co_set13, if_pos ⟨rfl, by rw [hk.lb]; exact hi⟩]
        change co (s.b.set i (v + x + 50)) i ≤ M ∧ _ ∧ _ ∧ s.t + 0 + 0 ≤ M at hle2
        rw [hb2] at hle2
        rw [hv, hf, hd] at hle
        rw [hd] at hdp
        obtain ⟨t, ht⟩ : ∃ t, s.t = t := ⟨_, rfl⟩
        rw [ht] at hle hle2
        obtain ⟨y1, hy1⟩ : ∃ y, f - x = y := ⟨_, rfl⟩
        obtain ⟨y2, hy2⟩ : ∃ y, d - 50 = y := ⟨_, rfl⟩
        have e1 : IntKind.u64.wrap ((f : Int) - (x : Int)) = (y1 : Int) := by rw [IntKind.wrap_u64]; omega
        have e2 : IntKind.u64.wrap ((d : Int) - 50) = (y2 : Int) := by rw [IntKind.wrap_u64]; omega
        have b1 : y1 < 18446744073709551616 := by omega
        have b2 : y2 < 18446744073709551616 := by omega
        rw [ht, hy1, hy2]
        obtain ⟨y3, hy3⟩ : ∃ y, v + x = y := ⟨_, rfl⟩
        have e3 : IntKind.u64.wrap ((v : Int) + (x : Int)) = (y3 : Int) := by rw [IntKind.wrap_u64]; omega
        obtain ⟨y4, hy4⟩ : ∃ y, y3 + 50 = y := ⟨_, rfl⟩
        have e4 : IntKind.u64.wrap ((y3 : Int) + 50) = (y4 : Int) := by rw [IntKind.wrap_u64]; omega
        have b3 : y3 < 18446744073709551616 := by omega
        have b4 : y4 < 18446744073709551616 := by omega
        rw [show v + x + 50 = y4 by omega, show t + 0 + 0 = t by omega]
        have HS1 := Lib.hid (fun q => (h.drewN q).set_f (i := i) (x := y1) b1)
        have HLB := Lib.hid (show i < s.b.length by rw [hk.lb]; exact hi)
        clear h hk hin hok hle hle2 hb2 hdp hy1 hy2 hy3 hy4 h1 h2 HT
        have HV := Lib.hid hv
        have HD := Lib.hid hd
        have HTT := Lib.hid ht
        clear hv hf hd ht
        obtain ⟨gb, gn, gf, gd, cb, cn', cf, cd⟩ := G
        have HO0 := Lib.hid (show Only (Gb.has ⟨gb, gn, gf, gd, cb, cn', cf, cd⟩ σ) w w from Only.refl _ w)
        go_enter Try.func30, Try.ntmps30
        go_wp2_with fail
        refine HI.out.mono ?_
        rintro e w1 ⟨rfl, rfl⟩
        go_wp2
        refine wp_region_quiet_tail 15 (fun w' => ∃ q, w' = w.drewN q) (by kernel_rfl) (by kernel_rfl) ⟨1, rfl⟩ ?_
        simp only [List.take_succ_cons, List.take_zero, List.drop_succ_cons, List.drop_zero]
        repeat (quiet_step (fail))
        refine wpQuiet_nil ?_
        rintro _ ⟨q, rfl⟩
        go_wp2
        have H1 := Lib.hid (HS1.out q)
        have HO1 := Lib.hid (show Only (Gb.has ⟨gb, gn, gf, gd, cb, cn', cf, cd⟩ σ) w ((w.drewN q).setCell ⟨gf, i, none⟩ (.int .u64 (y1 : Int))) from HO0.out.trans (((Only.refl _ w).drewN q).trans (Only.of_grown (grown_set _ gf i _) (fun k e => by injection e with e; exact .inr (.inr (.inr (.inl e.symm)))))))
        clear HS1 HO0
        generalize ((w.drewN q).setCell ⟨gf, i, none⟩ (.int .u64 (y1 : Int))) = wa at *
        have c3' := H1.out.c3
        have d' := H1.out.rd.at hi
        have zd' := H1.out.rd.free i
        change World.cell? _ _ = some (.int .u64 ((co s.d i : Nat) : Int)) at d'
        rw [HD.out] at d'
        have HS2 := Lib.hid (fun q => (H1.out.drewN q).set_d (i := i) (x := y2) b2)
        refine wp_region_quiet_tail 14 (fun w' => ∃ q, w' = wa.drewN q) (by kernel_rfl) (by kernel_rfl) ⟨1, rfl⟩ ?_
        simp only [List.take_succ_cons, List.take_zero, List.drop_succ_cons, List.drop_zero]
        repeat (quiet_step (fail))
        refine wpQuiet_nil ?_
        rintro _ ⟨q, rfl⟩
        go_wp2
        have H2 := Lib.hid (HS2.out q)
        have HO2 := Lib.hid (show Only (Gb.has ⟨gb, gn, gf, gd, cb, cn', cf, cd⟩ σ) w ((wa.drewN q).setCell ⟨gd, i, none⟩ (.int .u64 (y2 : Int))) from HO1.out.trans (((Only.refl _ wa).drewN q).trans (Only.of_grown (grown_set _ gd i _) (fun k e => by injection e with e; exact .inr (.inr (.inr (.inr e.symm)))))))
        clear HS2 HO1
        generalize ((wa.drewN q).setCell ⟨gd, i, none⟩ (.int .u64 (y2 : Int))) = wb at *
        have c0_3 := H2.out.c0
        have b_3 := H2.out.rb.at hi
        have zb_3 := H2.out.rb.free i
        change World.cell? _ _ = some (.int .u64 ((co s.b i : Nat) : Int)) at b_3
        rw [HV.out] at b_3
        have HS3 := Lib.hid (fun q => (H2.out.drewN q).set_b (i := i) (x := y3) b3)
        refine wp_region_quiet_tail 15 (fun w' => ∃ q, w' = wb.drewN q) (by kernel_rfl) (by kernel_rfl) ⟨1, rfl⟩ ?_
        simp only [List.take_succ_cons, List.take_zero, List.drop_succ_cons, List.drop_zero]
        repeat (quiet_step (fail))
        refine wpQuiet_nil ?_
        rintro _ ⟨q, rfl⟩
        go_wp2
        have H3 := Lib.hid (HS3.out q)
        have HO3 := Lib.hid (show Only (Gb.has ⟨gb, gn, gf, gd, cb, cn', cf, cd⟩ σ) w ((wb.drewN q).setCell ⟨gb, i, none⟩ (.int .u64 (y3 : Int))) from HO2.out.trans (((Only.refl _ wb).drewN q).trans (Only.of_grown (grown_set _ gb i _) (fun k e => by injection e with e; exact .inr (.inl e.symm)))))
        clear HS3 HO2
        generalize ((wb.drewN q).setCell ⟨gb, i, none⟩ (.int .u64 (y3 : Int))) = wc at *
        have c0_4 := H3.out.c0
        have b_4 := H3.out.rb.at hi
        have zb_4 := H3.out.rb.free i
        change World.cell? _ _ = some (.int .u64 ((co (s.b.set i y3) i : Nat) : Int)) at b_4
        rw [show co (s.b.set i y3) i = y3 from by rw [co_set13, if_pos ⟨rfl, HLB.out⟩]] at b_4
        have HS4 := Lib.hid (fun q => (H3.out.drewN q).set_b (i := i) (x := y4) b4)
        refine wp_region_quiet_tail 14 (fun w' => ∃ q, w' = wc.drewN q) (by kernel_rfl) (by kernel_rfl) ⟨1, rfl⟩ ?_
        simp only [List.take_succ_cons, List.take_zero, List.drop_succ_cons, List.drop_zero]
        repeat (quiet_step (fail))
        refine wpQuiet_nil ?_
        rintro _ ⟨q, rfl⟩
        go_wp2
        have H4 := Lib.hid (HS4.out q)
        have HO4 := Lib.hid (show Only (Gb.has ⟨gb, gn, gf, gd, cb, cn', cf, cd⟩ σ) w ((wc.drewN q).setCell ⟨gb, i, none⟩ (.int .u64 (y4 : Int))) from HO3.out.trans (((Only.refl _ wc).drewN q).trans (Only.of_grown (grown_set _ gb i _) (fun k e => by injection e with e; exact .inr (.inl e.symm)))))
        clear HS4 HO3
        generalize ((wc.drewN q).setCell ⟨gb, i, none⟩ (.int .u64 (y4 : Int))) = wd at *
        go_ret
        have HE := H4.out
        change RG _ _ _ _ _ { s with f := s.f.set i y1, d := s.d.set i y2, b := (s.b.set i y3).set i y4 } at HE
        rw [List.set_set] at HE
        rw [← HTT.out]
        exact ⟨rfl, HO4.out, HE⟩
  · rw [if_neg hin]
    rw [decide_eq_false hin] at HI
    clear h hk hin
    go_enter Try.func30, Try.ntmps30
    go_wp2_with fail
    refine HI.out.mono ?_
    rintro e w1 ⟨rfl, rfl⟩
    go_wp2
    go_ret
    exact ⟨rfl, Only.refl _ _, HR.out⟩
set_option maxHeartbeats 3200000 in
theorem ref13_back01 {Y : Nat → Prop} {σ m M x : Nat} {G : Gb} {s : Lgr} (w : World) (h : RG Y σ G w m s) (hk : s.ok m M) (hM : M < 18446744073709551616) (who : Int) (hx : x < 18446744073709551616) :
    Calls Try.prog 30 #[.pointer (some ⟨σ, 0, none⟩), .int .i64 who, .int .u64 (x : Int), .bool false, .bool true] w
      (LedP Y σ m G w (if 0 ≤ who ∧ who < (m : Int) then s.back who.toNat x false true else (1, s))) := by
  have HI := Lib.hid (ref13_is w h who)
  have HR := Lib.hid h
  have c0 := h.c0
  have c2 := h.c2
  have c3 := h.c3
  by_cases hin : 0 ≤ who ∧ who < (m : Int)
  · obtain ⟨i, rfl⟩ : ∃ i : Nat, (i : Int) = who := ⟨who.toNat, by omega⟩
    have hi : i < m := by omega
    rw [decide_eq_true hin] at HI
    rw [if_pos hin, Int.toNat_natCast]
    have ci := h.rb.at hi
    have zi := h.rb.free i
    have fi := h.rf.at hi
    have zf := h.rf.free i
    have di := h.rd.at hi
    have zd := h.rd.free i
    obtain ⟨v, hv⟩ : ∃ v, co s.b i = v := ⟨_, rfl⟩
    obtain ⟨f, hf⟩ : ∃ f, co s.f i = f := ⟨_, rfl⟩
    obtain ⟨d, hd⟩ : ∃ d, co s.d i = d := ⟨_, rfl⟩
    rw [hv] at ci
    rw [hf] at fi
    rw [hd] at di
    have hiI : (i : Int) < (m : Int) := by omega
    have hi0 : (0 : Int) ≤ (i : Int) := by omega
    have HT := Lib.hid (show s.back i x false true = if f < x ∨ d = 0 then (9, s) else (0, { s with b := s.b.set i (v + 0 + 50), f := s.f.set i (f - x), d := s.d.set i (d - 50), t := s.t + x + 0 }) by rw [← hv, ← hf, ← hd]; rfl)
    have hok := Lgr.back_ok (fee := x) (u := false) (v := true) hk hi
    by_cases h1 : f < x
    · rw [HT.out, if_pos (Or.inl h1)]
      have d1 : decide ((f : Int) < (x : Int)) = true := decide_eq_true (by omega)
      have d1' : decide (f < x) = true := decide_eq_true h1
      clear h hk hin hv hf hd hok
      obtain ⟨gb, gn, gf, gd, cb, cn', cf, cd⟩ := G
      go_enter Try.func30, Try.ntmps30
      go_wp2_with fail
      refine HI.out.mono ?_
      rintro e w1 ⟨rfl, rfl⟩
      go_wp2
      go_ret
      exact ⟨rfl, Only.refl _ _, HR.out⟩
    · have d1 : decide ((f : Int) < (x : Int)) = false := decide_eq_false (by omega)
      have d1' : decide (f < x) = false := decide_eq_false h1
      by_cases h2 : d = 0
      · rw [HT.out, if_pos (Or.inr h2)]
        subst h2
        clear h hk hin hv hf hd hok
        obtain ⟨gb, gn, gf, gd, cb, cn', cf, cd⟩ := G
        go_enter Try.func30, Try.ntmps30
        go_wp2_with fail
        refine HI.out.mono ?_
        rintro e w1 ⟨rfl, rfl⟩
        go_wp2
        go_ret
        exact ⟨rfl, Only.refl _ _, HR.out⟩
      · rw [HT.out, if_neg (by omega)]
        rw [HT.out, if_neg (by omega)] at hok
        have d2 : ((d : Int) == 0) = false := by simp; omega
        have d2' : decide ((d : Int) = 0) = false := decide_eq_false (by omega)
        have d2'' : decide (d = 0) = false := decide_eq_false h2
        have hle := hk.le i
        have hle2 := hok.le i
        have hdp := hk.dep i
        have hb2 : co (s.b.set i (v + 0 + 50)) i = v + 0 + 50 := by rw [co_set13, if_pos ⟨rfl, by rw [hk.lb]; exact hi⟩]
        change co (s.b.set i (v + 0 + 50)) i ≤ M ∧ _ ∧ _ ∧ s.t + x + 0 ≤ M at hle2
        rw [hb2] at hle2
        rw [hv, hf, hd] at hle
        rw [hd] at hdp
        obtain ⟨t, ht⟩ : ∃ t, s.t = t := ⟨_, rfl⟩
        rw [ht] at hle hle2
        obtain ⟨y1, hy1⟩ : ∃ y, f - x = y := ⟨_, rfl⟩
        obtain ⟨y2, hy2⟩ : ∃ y, d - 50 = y := ⟨_, rfl⟩
        have e1 : IntKind.u64.wrap ((f : Int) - (x : Int)) = (y1 : Int) := by rw [IntKind.wrap_u64]; omega
        have e2 : IntKind.u64.wrap ((d : Int) - 50) = (y2 : Int) := by rw [IntKind.wrap_u64]; omega
        have b1 : y1 < 18446744073709551616 := by omega
        have b2 : y2 < 18446744073709551616 := by omega
        rw [ht, hy1, hy2]
        obtain ⟨y3, hy3⟩ : ∃ y, t + x = y := ⟨_, rfl⟩
        have e3 : IntKind.u64.wrap ((t : Int) + (x : Int)) = (y3 : Int) := by rw [IntKind.wrap_u64]; omega
        obtain ⟨y4, hy4⟩ : ∃ y, v + 50 = y := ⟨_, rfl⟩
        have e4 : IntKind.u64.wrap ((v : Int) + 50) = (y4 : Int) := by rw [IntKind.wrap_u64]; omega
        have b3 : y3 < 18446744073709551616 := by omega
        have b4 : y4 < 18446744073709551616 := by omega
        rw [show v + 0 + 50 = y4 by omega, show t + x + 0 = y3 by omega]
        have HS1 := Lib.hid (fun q => (h.drewN q).set_f (i := i) (x := y1) b1)
        have HLB := Lib.hid (show i < s.b.length by rw [hk.lb]; exact hi)
        clear h hk hin hok hle hle2 hb2 hdp hy1 hy2 hy3 hy4 h1 h2 HT
        have HV := Lib.hid hv
        have HD := Lib.hid hd
        have HTT := Lib.hid ht
        clear hv hf hd ht
        obtain ⟨gb, gn, gf, gd, cb, cn', cf, cd⟩ := G
        have HO0 := Lib.hid (show Only (Gb.has ⟨gb, gn, gf, gd, cb, cn', cf, cd⟩ σ) w w from Only.refl _ w)
        go_enter Try.func30, Try.ntmps30
        go_wp2_with fail
        refine HI.out.mono ?_
        rintro e w1 ⟨rfl, rfl⟩
        go_wp2
        refine wp_region_quiet_tail 15 (fun w' => ∃ q, w' = w.drewN q) (by kernel_rfl) (by kernel_rfl) ⟨1, rfl⟩ ?_
        simp only [List.take_succ_cons, List.take_zero, List.drop_succ_cons, List.drop_zero]
        repeat (quiet_step (fail))
        refine wpQuiet_nil ?_
        rintro _ ⟨q, rfl⟩
        go_wp2
        have H1 := Lib.hid (HS1.out q)
        have HO1 := Lib.hid (show Only (Gb.has ⟨gb, gn, gf, gd, cb, cn', cf, cd⟩ σ) w ((w.drewN q).setCell ⟨gf, i, none⟩ (.int .u64 (y1 : Int))) from HO0.out.trans (((Only.refl _ w).drewN q).trans (Only.of_grown (grown_set _ gf i _) (fun k e => by injection e with e; exact .inr (.inr (.inr (.inl e.symm)))))))
        clear HS1 HO0
        generalize ((w.drewN q).setCell ⟨gf, i, none⟩ (.int .u64 (y1 : Int))) = wa at *
        have c3' := H1.out.c3
        have d' := H1.out.rd.at hi
        have zd' := H1.out.rd.free i
        change World.cell? _ _ = some (.int .u64 ((co s.d i : Nat) : Int)) at d'
        rw [HD.out] at d'
        have HS2 := Lib.hid (fun q => (H1.out.drewN q).set_d (i := i) (x := y2) b2)
        refine wp_region_quiet_tail 14 (fun w' => ∃ q, w' = wa.drewN q) (by kernel_rfl) (by kernel_rfl) ⟨1, rfl⟩ ?_
        simp only [List.take_succ_cons, List.take_zero, List.drop_succ_cons, List.drop_zero]
        repeat (quiet_step (fail))
        refine wpQuiet_nil ?_
        rintro _ ⟨q, rfl⟩
        have c4_2 := (HS2.out q).c4
        have z4_2 := (HS2.out q).free 4
        change World.cell? _ _ = some (.int .u64 ((s.t : Nat) : Int)) at c4_2
        rw [HTT.out] at c4_2
        go_wp2
        have H2 := Lib.hid (HS2.out q)
        have HO2 := Lib.hid (show Only (Gb.has ⟨gb, gn, gf, gd, cb, cn', cf, cd⟩ σ) w ((wa.drewN q).setCell ⟨gd, i, none⟩ (.int .u64 (y2 : Int))) from HO1.out.trans (((Only.refl _ wa).drewN q).trans (Only.of_grown (grown_set _ gd i _) (fun k e => by injection e with e; exact .inr (.inr (.inr (.inr e.symm)))))))
        clear HS2 HO1
        generalize ((wa.drewN q).setCell ⟨gd, i, none⟩ (.int .u64 (y2 : Int))) = wb at *
        have HS3 := Lib.hid (H2.out.set_t (x := y3) b3)
        have H3 := Lib.hid (HS3.out)
        have HO3 := Lib.hid (show Only (Gb.has ⟨gb, gn, gf, gd, cb, cn', cf, cd⟩ σ) w ((wb).setCell ⟨σ, 4, none⟩ (.int .u64 (y3 : Int))) from HO2.out.trans ((Only.of_grown (grown_set _ σ 4 _) (fun k e => by injection e with e; exact .inl e.symm))))
        clear HS3 HO2
        generalize ((wb).setCell ⟨σ, 4, none⟩ (.int .u64 (y3 : Int))) = wc at *
        have c0_4 := H3.out.c0
        have b_4 := H3.out.rb.at hi
        have zb_4 := H3.out.rb.free i
        change World.cell? _ _ = some (.int .u64 ((co s.b i : Nat) : Int)) at b_4
        rw [HV.out] at b_4
        have HS4 := Lib.hid (fun q => (H3.out.drewN q).set_b (i := i) (x := y4) b4)
        refine wp_region_quiet_tail 14 (fun w' => ∃ q, w' = wc.drewN q) (by kernel_rfl) (by kernel_rfl) ⟨1, rfl⟩ ?_
        simp only [List.take_succ_cons, List.take_zero, List.drop_succ_cons, List.drop_zero]
        repeat (quiet_step (fail))
        refine wpQuiet_nil ?_
        rintro _ ⟨q, rfl⟩
        go_wp2
        have H4 := Lib.hid (HS4.out q)
        have HO4 := Lib.hid (show Only (Gb.has ⟨gb, gn, gf, gd, cb, cn', cf, cd⟩ σ) w ((wc.drewN q).setCell ⟨gb, i, none⟩ (.int .u64 (y4 : Int))) from HO3.out.trans (((Only.refl _ wc).drewN q).trans (Only.of_grown (grown_set _ gb i _) (fun k e => by injection e with e; exact .inr (.inl e.symm)))))
        clear HS4 HO3
        generalize ((wc.drewN q).setCell ⟨gb, i, none⟩ (.int .u64 (y4 : Int))) = wd at *
        go_ret
        exact ⟨rfl, HO4.out, H4.out⟩
  · rw [if_neg hin]
    rw [decide_eq_false hin] at HI
    clear h hk hin
    go_enter Try.func30, Try.ntmps30
    go_wp2_with fail
    refine HI.out.mono ?_
    rintro e w1 ⟨rfl, rfl⟩
    go_wp2
    go_ret
    exact ⟨rfl, Only.refl _ _, HR.out⟩
set_option maxHeartbeats 3200000 in
theorem ref13_back00 {Y : Nat → Prop} {σ m M x : Nat} {G : Gb} {s : Lgr} (w : World) (h : RG Y σ G w m s) (hk : s.ok m M) (hM : M < 18446744073709551616) (who : Int) (hx : x < 18446744073709551616) :
    Calls Try.prog 30 #[.pointer (some ⟨σ, 0, none⟩), .int .i64 who, .int .u64 (x : Int), .bool false, .bool false] w
      (LedP Y σ m G w (if 0 ≤ who ∧ who < (m : Int) then s.back who.toNat x false false else (1, s))) := by
  have HI := Lib.hid (ref13_is w h who)
  have HR := Lib.hid h
  have c0 := h.c0
  have c2 := h.c2
  have c3 := h.c3
  by_cases hin : 0 ≤ who ∧ who < (m : Int)
  · obtain ⟨i, rfl⟩ : ∃ i : Nat, (i : Int) = who := ⟨who.toNat, by omega⟩
    have hi : i < m := by omega
    rw [decide_eq_true hin] at HI
    rw [if_pos hin, Int.toNat_natCast]
    have ci := h.rb.at hi
    have zi := h.rb.free i
    have fi := h.rf.at hi
    have zf := h.rf.free i
    have di := h.rd.at hi
    have zd := h.rd.free i
    obtain ⟨v, hv⟩ : ∃ v, co s.b i = v := ⟨_, rfl⟩
    obtain ⟨f, hf⟩ : ∃ f, co s.f i = f := ⟨_, rfl⟩
    obtain ⟨d, hd⟩ : ∃ d, co s.d i = d := ⟨_, rfl⟩
    rw [hv] at ci
    rw [hf] at fi
    rw [hd] at di
    have hiI : (i : Int) < (m : Int) := by omega
    have hi0 : (0 : Int) ≤ (i : Int) := by omega
    have HT := Lib.hid (show s.back i x false false = if f < x ∨ d = 0 then (9, s) else (0, { s with b := s.b.set i (v + 0 + 0), f := s.f.set i (f - x), d := s.d.set i (d - 50), t := s.t + x + 50 }) by rw [← hv, ← hf, ← hd]; rfl)
    have hok := Lgr.back_ok (fee := x) (u := false) (v := false) hk hi
    by_cases h1 : f < x
    · rw [HT.out, if_pos (Or.inl h1)]
      have d1 : decide ((f : Int) < (x : Int)) = true := decide_eq_true (by omega)
      have d1' : decide (f < x) = true := decide_eq_true h1
      clear h hk hin hv hf hd hok
      obtain ⟨gb, gn, gf, gd, cb, cn', cf, cd⟩ := G
      go_enter Try.func30, Try.ntmps30
      go_wp2_with fail
      refine HI.out.mono ?_
      rintro e w1 ⟨rfl, rfl⟩
      go_wp2
      go_ret
      exact ⟨rfl, Only.refl _ _, HR.out⟩
    · have d1 : decide ((f : Int) < (x : Int)) = false := decide_eq_false (by omega)
      have d1' : decide (f < x) = false := decide_eq_false h1
      by_cases h2 : d = 0
      · rw [HT.out, if_pos (Or.inr h2)]
        subst h2
        clear h hk hin hv hf hd hok
        obtain ⟨gb, gn, gf, gd, cb, cn', cf, cd⟩ := G
        go_enter Try.func30, Try.ntmps30
        go_wp2_with fail
        refine HI.out.mono ?_
        rintro e w1 ⟨rfl, rfl⟩
        go_wp2
        go_ret
        exact ⟨rfl, Only.refl _ _, HR.out⟩
      · rw [HT.out, if_neg (by omega)]
        rw [HT.out, if_neg (by omega)] at hok
        have d2 : ((d : Int) == 0) = false := by simp; omega
        have d2' : decide ((d : Int) = 0) = false := decide_eq_false (by omega)
        have d2'' : decide (d = 0) = false := decide_eq_false h2
        have hle := hk.le i
        have hle2 := hok.le i
        have hdp := hk.dep i
        have hb2 : co (s.b.set i (v + 0 + 0)) i = v + 0 + 0 := by rw [co_set13, if_pos ⟨rfl, by rw [hk.lb]; exact hi⟩]
        change co (s.b.set i (v + 0 + 0)) i ≤ M ∧ _ ∧ _ ∧ s.t + x + 50 ≤ M at hle2
        rw [hb2] at hle2
        rw [hv, hf, hd] at hle
        rw [hd] at hdp
        obtain ⟨t, ht⟩ : ∃ t, s.t = t := ⟨_, rfl⟩
        rw [ht] at hle hle2
        obtain ⟨y1, hy1⟩ : ∃ y, f - x = y := ⟨_, rfl⟩
        obtain ⟨y2, hy2⟩ : ∃ y, d - 50 = y := ⟨_, rfl⟩
        have e1 : IntKind.u64.wrap ((f : Int) - (x : Int)) = (y1 : Int) := by rw [IntKind.wrap_u64]; omega
        have e2 : IntKind.u64.wrap ((d : Int) - 50) = (y2 : Int) := by rw [IntKind.wrap_u64]; omega
        have b1 : y1 < 18446744073709551616 := by omega
        have b2 : y2 < 18446744073709551616 := by omega
        rw [ht, hy1, hy2]
        obtain ⟨y3, hy3⟩ : ∃ y, t + x = y := ⟨_, rfl⟩
        have e3 : IntKind.u64.wrap ((t : Int) + (x : Int)) = (y3 : Int) := by rw [IntKind.wrap_u64]; omega
        obtain ⟨y4, hy4⟩ : ∃ y, y3 + 50 = y := ⟨_, rfl⟩
        have e4 : IntKind.u64.wrap ((y3 : Int) + 50) = (y4 : Int) := by rw [IntKind.wrap_u64]; omega
        have b3 : y3 < 18446744073709551616 := by omega
        have b4 : y4 < 18446744073709551616 := by omega
        rw [show v + 0 + 0 = v by omega, show t + x + 50 = y4 by omega]
        have HS1 := Lib.hid (fun q => (h.drewN q).set_f (i := i) (x := y1) b1)
        have HLB := Lib.hid (show i < s.b.length by rw [hk.lb]; exact hi)
        clear h hk hin hok hle hle2 hb2 hdp hy1 hy2 hy3 hy4 h1 h2 HT
        have HV := Lib.hid hv
        have HD := Lib.hid hd
        have HTT := Lib.hid ht
        clear hv hf hd ht
        obtain ⟨gb, gn, gf, gd, cb, cn', cf, cd⟩ := G
        have HO0 := Lib.hid (show Only (Gb.has ⟨gb, gn, gf, gd, cb, cn', cf, cd⟩ σ) w w from Only.refl _ w)
        go_enter Try.func30, Try.ntmps30
        go_wp2_with fail
        refine HI.out.mono ?_
        rintro e w1 ⟨rfl, rfl⟩
        go_wp2
        refine wp_region_quiet_tail 15 (fun w' => ∃ q, w' = w.drewN q) (by kernel_rfl) (by kernel_rfl) ⟨1, rfl⟩ ?_
        simp only [List.take_succ_cons, List.take_zero, List.drop_succ_cons, List.drop_zero]
        repeat (quiet_step (fail))
        refine wpQuiet_nil ?_
        rintro _ ⟨q, rfl⟩
        go_wp2
        have H1 := Lib.hid (HS1.out q)
        have HO1 := Lib.hid (show Only (Gb.has ⟨gb, gn, gf, gd, cb, cn', cf, cd⟩ σ) w ((w.drewN q).setCell ⟨gf, i, none⟩ (.int .u64 (y1 : Int))) from HO0.out.trans (((Only.refl _ w).drewN q).trans (Only.of_grown (grown_set _ gf i _) (fun k e => by injection e with e; exact .inr (.inr (.inr (.inl e.symm)))))))
        clear HS1 HO0
        generalize ((w.drewN q).setCell ⟨gf, i, none⟩ (.int .u64 (y1 : Int))) = wa at *
        have c3' := H1.out.c3
        have d' := H1.out.rd.at hi
        have zd' := H1.out.rd.free i
        change World.cell? _ _ = some (.int .u64 ((co s.d i : Nat) : Int)) at d'
        rw [HD.out] at d'
        have HS2 := Lib.hid (fun q => (H1.out.drewN q).set_d (i := i) (x := y2) b2)
        refine wp_region_quiet_tail 14 (fun w' => ∃ q, w' = wa.drewN q) (by kernel_rfl) (by kernel_rfl) ⟨1, rfl⟩ ?_
        simp only [List.take_succ_cons, List.take_zero, List.drop_succ_cons, List.drop_zero]
        repeat (quiet_step (fail))
        refine wpQuiet_nil ?_
        rintro _ ⟨q, rfl⟩
        have c4_2 := (HS2.out q).c4
        have z4_2 := (HS2.out q).free 4
        change World.cell? _ _ = some (.int .u64 ((s.t : Nat) : Int)) at c4_2
        rw [HTT.out] at c4_2
        have c4_3 := ((HS2.out q).set_t (x := y3) b3).c4
        have z4_3 := ((HS2.out q).set_t (x := y3) b3).free 4
        change World.cell? _ _ = some (.int .u64 (y3 : Int)) at c4_3
        go_wp2
        have H2 := Lib.hid (HS2.out q)
        have HO2 := Lib.hid (show Only (Gb.has ⟨gb, gn, gf, gd, cb, cn', cf, cd⟩ σ) w ((wa.drewN q).setCell ⟨gd, i, none⟩ (.int .u64 (y2 : Int))) from HO1.out.trans (((Only.refl _ wa).drewN q).trans (Only.of_grown (grown_set _ gd i _) (fun k e => by injection e with e; exact .inr (.inr (.inr (.inr e.symm)))))))
        clear HS2 HO1
        generalize ((wa.drewN q).setCell ⟨gd, i, none⟩ (.int .u64 (y2 : Int))) = wb at *
        have HS3 := Lib.hid (H2.out.set_t (x := y3) b3)
        have H3 := Lib.hid (HS3.out)
        have HO3 := Lib.hid (show Only (Gb.has ⟨gb, gn, gf, gd, cb, cn', cf, cd⟩ σ) w ((wb).setCell ⟨σ, 4, none⟩ (.int .u64 (y3 : Int))) from HO2.out.trans ((Only.of_grown (grown_set _ σ 4 _) (fun k e => by injection e with e; exact .inl e.symm))))
        clear HS3 HO2
        generalize ((wb).setCell ⟨σ, 4, none⟩ (.int .u64 (y3 : Int))) = wc at *
        have HS4 := Lib.hid (H3.out.set_t (x := y4) b4)
        have H4 := Lib.hid (HS4.out)
        have HO4 := Lib.hid (show Only (Gb.has ⟨gb, gn, gf, gd, cb, cn', cf, cd⟩ σ) w ((wc).setCell ⟨σ, 4, none⟩ (.int .u64 (y4 : Int))) from HO3.out.trans ((Only.of_grown (grown_set _ σ 4 _) (fun k e => by injection e with e; exact .inl e.symm))))
        clear HS4 HO3
        generalize ((wc).setCell ⟨σ, 4, none⟩ (.int .u64 (y4 : Int))) = wd at *
        go_ret
        have HE := H4.out
        change RG _ _ _ _ _ { s with f := s.f.set i y1, d := s.d.set i y2, t := y4 } at HE
        rw [show s.b.set i v = s.b from by rw [← HV.out]; exact set_same13 _ _ HLB.out]
        exact ⟨rfl, HO4.out, HE⟩
  · rw [if_neg hin]
    rw [decide_eq_false hin] at HI
    clear h hk hin
    go_enter Try.func30, Try.ntmps30
    go_wp2_with fail
    refine HI.out.mono ?_
    rintro e w1 ⟨rfl, rfl⟩
    go_wp2
    go_ret
    exact ⟨rfl, Only.refl _ _, HR.out⟩
end Go.Proofs.Ytoelkmmdnhnljaa

/-
  An argument that is a slice of uint64 reads as a list of numbers; one that is a slice of a ledger's operations. Conditions: none.
-/
namespace Go.Proofs.Ytoelkmmdnhnljaa
open Go.RowKit
open Go.ChangeShapes Go.WideShapes Go.ChangeAt
open Pol (co)

/-- An operation's kind, the account, the other one, the number. -/
def gk (l : List (Int × Int × Int × Nat)) (i : Nat) : Int := (l[i]?.getD (0, 0, 0, 0)).1
def gw (l : List (Int × Int × Int × Nat)) (i : Nat) : Int := (l[i]?.getD (0, 0, 0, 0)).2.1
def gt (l : List (Int × Int × Int × Nat)) (i : Nat) : Int := (l[i]?.getD (0, 0, 0, 0)).2.2.1
def gn (l : List (Int × Int × Int × Nat)) (i : Nat) : Nat := (l[i]?.getD (0, 0, 0, 0)).2.2.2
def GRd (w : World) (A : Option Addr) (l : List (Int × Int × Int × Nat)) : Prop :=
  ∀ i, i < l.length → ∃ b o, A = some ⟨b, o, none⟩ ∧ w.cell? ⟨b, o + i * 4, none⟩ = some (.int .i64 (gk l i)) ∧ w.cell? ⟨b, o + i * 4 + 1, none⟩ = some (.int .i64 (gw l i)) ∧ w.cell? ⟨b, o + i * 4 + 2, none⟩ = some (.int .i64 (gt l i)) ∧
    w.cell? ⟨b, o + i * 4 + 3, none⟩ = some (.int .u64 ((gn l i : Nat) : Int)) ∧ gn l i < 18446744073709551616
/-- Operations as they come in. -/
def AGop (w : World) (A : Option Addr) (l : List (Int × Int × Int × Nat)) : Prop := GRd w A l ∧ l.length ≤ maxLen
section
variable {H : Type} {enc : TypeId × Value → H} {w : World} {base : Nat} {spare : Nat → Bool} {held : Bool}
theorem open_u64s {fuel len cap : Nat} {a : Option Addr} {x : DataW H × List MemPlace} (h : DataW.trod enc Try.prog w base spare held fuel 22 [.slice a len cap] = some x) :
    ∃ l : List Nat, l.length = len ∧ len ≤ cap ∧ URd w a l := by
  rcases open_ints Try.underlying22 Try.underlying33 (by kernel_rfl) h with ⟨hcs, _⟩ | ⟨a', len', cap', zs, hcs, _, hl, _, hz, _, hcell, hwz⟩
  · simp at hcs
    obtain ⟨rfl, rfl, rfl⟩ := hcs
    exact ⟨[], rfl, Nat.le_refl _, URd.nil _ _⟩
  · simp at hcs
    obtain ⟨rfl, rfl, rfl⟩ := hcs
    have hlz : len ≤ zs.length := by rw [hz]; split <;> omega
    have hat : ∀ i, i < len → co ((List.range len).map fun i => (zs.getD i 0).toNat) i = (zs.getD i 0).toNat := fun i hi => by
      unfold co
      rw [List.getElem?_map, List.getElem?_range hi]
      rfl
    have hb : ∀ i, i < len → ∃ n : Nat, zs.getD i 0 = (n : Int) ∧ n < 18446744073709551616 := fun i hi => by
      have hm : zs.getD i 0 ∈ zs := by rw [List.getD_eq_getElem?_getD, List.getElem?_eq_getElem (by omega)]; exact List.getElem_mem (by omega)
      exact nat_u64 (hwz _ hm)
    refine ⟨(List.range len).map (fun i => (zs.getD i 0).toNat), by simp, hl, fun i => ?_, fun i hi => ?_⟩
    · by_cases hi : i < len
      · rw [hat i hi]
        obtain ⟨n, h1, h2⟩ := hb i hi
        omega
      · unfold co
        rw [List.getElem?_eq_none (by simp; omega)]
        decide
    · have hi' : i < len := by simpa using hi
      obtain ⟨b, o, rfl, hc⟩ := ints_at hcell (by omega)
      refine ⟨b, o, rfl, ?_⟩
      obtain ⟨n, h1, h2⟩ := hb i hi'
      rw [hc i (by omega), hat i hi', h1]
      rfl
/-- One operation, by its four cells. -/
theorem open_gop {fuel : Nat} {cs : List Value} {x : DataW H × List MemPlace} (h : DataW.trod enc Try.prog w base spare held fuel 35 cs = some x) :
    ∃ (k p q : Int) (n : Nat), cs = [.int .i64 k, .int .i64 p, .int .i64 q, .int .u64 (n : Int)] ∧ n < 18446744073709551616 := by
  obtain ⟨xs, m, _, _, hl, hxl, hf⟩ := DataW.trod_struct Try.underlying35 h
  have hc : cs.length = 4 := by rw [hl]; kernel_rfl
  have ci : Try.prog.cellsOf 3 = 1 := by kernel_rfl
  have cu : Try.prog.cellsOf 33 = 1 := by kernel_rfl
  match cs, hc with
  | [v0, v1, v2, v3], _ =>
    match xs, hxl with
    | [y0, y1, y2, y3], _ =>
      have g0 := hf 0 _ rfl
      have g1 := hf 1 _ rfl
      have g2 := hf 2 _ rfl
      have g3 := hf 3 _ rfl
      simp [ci, cu] at g0 g1 g2 g3
      obtain ⟨k, e0, _, _⟩ := DataW.trod_int Try.underlying3 g0
      obtain ⟨p, e1, _, _⟩ := DataW.trod_int Try.underlying3 g1
      obtain ⟨q, e2, _, _⟩ := DataW.trod_int Try.underlying3 g2
      obtain ⟨z, e3, _, w3⟩ := DataW.trod_int Try.underlying33 g3
      obtain ⟨n, rfl, hn⟩ := nat_u64 w3
      simp only [List.cons.injEq, and_true] at e0 e1 e2 e3
      subst e0; subst e1; subst e2; subst e3
      exact ⟨k, p, q, n, rfl, hn⟩
theorem open_gops {fuel len cap : Nat} {a : Option Addr} {x : DataW H × List MemPlace} (h : DataW.trod enc Try.prog w base spare held fuel 23 [.slice a len cap] = some x) :
    ∃ l : List (Int × Int × Int × Nat), l.length = len ∧ len ≤ cap ∧ AGop w a l := by
  rcases Go.Deep.open_slice Try.underlying23 h with ⟨hcs, _⟩ | ⟨a', len', cap', m, n, D, Pl, hcs, _, hl, hcm, hm, _, hall⟩
  · simp at hcs
    obtain ⟨rfl, rfl, rfl⟩ := hcs
    exact ⟨[], rfl, Nat.le_refl _, fun i hi => absurd hi (by simp), Nat.zero_le _⟩
  · simp at hcs
    obtain ⟨rfl, rfl, rfl⟩ := hcs
    have hlm : len ≤ m := by rw [hm]; split <;> omega
    have ce : Try.prog.cellsOf 35 = 4 := by kernel_rfl
    rw [ce] at hall
    have each : ∀ i, i < len → ∃ q : Int × Int × Int × Nat, q.2.2.2 < 18446744073709551616 ∧ w.cell? (a'.add (i * 4)) = some (.int .i64 q.1) ∧ w.cell? (a'.add (i * 4 + 1)) = some (.int .i64 q.2.1) ∧ w.cell? (a'.add (i * 4 + 2)) = some (.int .i64 q.2.2.1) ∧ w.cell? (a'.add (i * 4 + 3)) = some (.int .u64 (q.2.2.2 : Int)) := fun i hi => by
      obtain ⟨cs', h1, h2⟩ := hall i (by omega)
      obtain ⟨_, hlen, hcell⟩ := World.cells?_some h1
      obtain ⟨k, p, q, n, rfl, h3⟩ := open_gop h2
      have e0 := hcell 0 (by omega)
      have e1 := hcell 1 (by omega)
      have e2 := hcell 2 (by omega)
      have e3 := hcell 3 (by omega)
      rw [Go.Deep.add_add] at e0 e1 e2 e3
      exact ⟨(k, p, q, n), h3, by simpa using e0, by simpa using e1, by simpa using e2, by simpa using e3⟩
    obtain ⟨q, hq⟩ := Go.Deep.choose_lt each
    have hat : ∀ i, i < len → ((List.range len).map q)[i]? = some (q i) := fun i hi => by rw [List.getElem?_map, List.getElem?_range hi]; rfl
    have hw : ∀ i, i < len → gk ((List.range len).map q) i = (q i).1 ∧ gw ((List.range len).map q) i = (q i).2.1 ∧ gt ((List.range len).map q) i = (q i).2.2.1 ∧ gn ((List.range len).map q) i = (q i).2.2.2 := fun i hi => by
      unfold gk gw gt gn
      rw [hat i hi]
      exact ⟨rfl, rfl, rfl, rfl⟩
    refine ⟨(List.range len).map q, by simp, hl, fun i hi => ?_, by simp; omega⟩
    have hi' : i < len := by simpa using hi
    obtain ⟨h0, h1, h2, h3, h4⟩ := hq i hi'
    obtain ⟨b, o, spot⟩ := a'
    have hspot : spot = none := by
      have h0 := (hq 0 (by omega)).2.1
      simpa [Addr.add] using World.cell?_spot h0
    subst hspot
    obtain ⟨e1, e2, e3, e4⟩ := hw i hi'
    rw [e1, e2, e3, e4]
    exact ⟨b, o, rfl, by rw [← Addr.add_mid]; exact h1, by rw [Nat.add_assoc, ← Addr.add_mid]; exact h2, by rw [Nat.add_assoc, ← Addr.add_mid]; exact h3, by rw [Nat.add_assoc, ← Addr.add_mid]; exact h4, h0⟩
end
end Go.Proofs.Ytoelkmmdnhnljaa

/-
  Layer 13's functions as the laws' walks use them: a ledger with the blocks that are its own; an operation, of the code's and of the document's. Conditions: no more than 6 accounts, a total of no more than 2^60.
-/
namespace Go.Proofs.Ytoelkmmdnhnljaa
open Go.RowKit
open Pol (co)

theorem Good.hold {s : Lgr} {m M i x : Nat} (h : Good s m M) (hi : i < m) : Good (s.hold i x).2 m M := ⟨Lgr.hold_ok h.ok hi, h.tot, h.few⟩
theorem Good.back {s : Lgr} {m M i x : Nat} {u v : Bool} (h : Good s m M) (hi : i < m) : Good (s.back i x u v).2 m M := ⟨Lgr.back_ok h.ok hi, h.tot, h.few⟩
theorem Good.move {s : Lgr} {m M i j x : Nat} (h : Good s m M) (hi : i < m) (hj : j < m) : Good (s.move i j x).2 m M := ⟨Lgr.move_ok h.ok hi hj, h.tot, h.few⟩
theorem Good.turn {s : Lgr} {m M i x : Nat} (h : Good s m M) : Good (s.turn i x).2 m M := ⟨Lgr.turn_ok h.ok, h.tot, h.few⟩
theorem Inn.lt {m : Nat} {who : Int} (h : Inn m who) : who.toNat < m := by
  obtain ⟨h1, h2⟩ := h
  omega
/-- A ledger, whose blocks are those of X, which lie between base and the world's end. -/
structure Lq (I : LgrP) (X : Nat → Prop) (σ : Nat) (w : World) (m : Nat) (s : Lgr) (M base : Nat) : Prop where
  mem : I X σ w m s
  good : Good s m M
  own : ∀ b, X b → base ≤ b ∧ b < w.heap.size
/-- What an operation of the code's leaves. -/
def LqP (I : LgrP) (X : Nat → Prop) (σ m M base : Nat) (w : World) (r : Nat × Lgr) (e : Ending) (w' : World) : Prop :=
  e = .returned (.int .i64 ((r.1 : Nat) : Int)) ∧ Only X w w' ∧ Lq I X σ w' m r.2 M base
section
variable {I : LgrP} (C : LedgerSaid I)
include C
theorem Lq.only {X Y : Nat → Prop} {σ m M base : Nat} {w w' : World} {s : Lgr} (h : Lq I X σ w m s M base) (ho : Only Y w w') (hxy : ∀ b, X b → ¬ Y b) : Lq I X σ w' m s M base :=
  ⟨C.keep h.mem (fun b hb => ho.block b (h.own b hb).2 (hxy b hb)), h.good, fun b hb => ⟨(h.own b hb).1, Nat.lt_of_lt_of_le (h.own b hb).2 ho.size⟩⟩
theorem Lq.ext {X : Nat → Prop} {σ m M base : Nat} {w w' : World} {s : Lgr} (h : Lq I X σ w m s M base) (hx : Ext w w') : Lq I X σ w' m s M base := h.only C (Y := fun _ => False) (Only.of_ext hx) (fun _ _ h => h)
omit C in
theorem Lq.down {X : Nat → Prop} {σ m M base base' : Nat} {w : World} {s : Lgr} (h : Lq I X σ w m s M base) (hb : base' ≤ base) : Lq I X σ w m s M base' := ⟨h.mem, h.good, fun b hb' => ⟨Nat.le_trans hb (h.own b hb').1, (h.own b hb').2⟩⟩
omit C in
theorem OpP.lq {X : Nat → Prop} {σ m M base : Nat} {w : World} {s : Lgr} {r : Nat × Lgr} {e : Ending} {w' : World} (h : OpP I X σ m w r e w') (hq : Lq I X σ w m s M base) (hg : Good r.2 m M) : LqP I X σ m M base w r e w' :=
  ⟨h.1, h.2.1, h.2.2, hg, fun b hb => ⟨(hq.own b hb).1, Nat.lt_of_lt_of_le (hq.own b hb).2 h.2.1.size⟩⟩
theorem lq_new {l : List Nat} {A : Option Addr} {n c : Nat} (w : World) (hn : l.length = n) (hr : URd w A l) : Calls Try.prog 10 #[.slice A n c] w (fun e w' => Ext w w' ∧
    ((newc l = 0 ∧ ∃ σ X, e = .returned (.tuple #[.pointer (some ⟨σ, 0, none⟩), .int .i64 0]) ∧ Lq I X σ w' n (Lgr.new l) l.sum w.heap.size) ∨ (newc l ≠ 0 ∧ e = .returned (.tuple #[.pointer none, .int .i64 ((newc l : Nat) : Int)])))) := by
  refine (C.new l A n c w hn hr).mono ?_
  rintro e w' ⟨hx, h⟩
  refine ⟨hx, h.imp (fun ⟨h0, σ, he, hi⟩ => ⟨h0, σ, _, he, by rw [hn] at hi; exact hi, ⟨?_, ?_, ?_⟩, fun b hb => hb⟩) id⟩
  · rw [← hn]; exact Lgr.new_ok l
  · unfold newc at h0
    split at h0
    · cases h0
    · split at h0
      · cases h0
      · omega
  · unfold newc at h0
    split at h0
    · cases h0
    · omega
theorem lq_hold {X : Nat → Prop} {σ m M base x : Nat} {s : Lgr} (who : Int) (w : World) (h : Lq I X σ w m s M base) (hx : x < 18446744073709551616) :
    Calls Try.prog 22 #[.pointer (some ⟨σ, 0, none⟩), .int .i64 who, .int .u64 (x : Int)] w (LqP I X σ m M base w (if Inn m who then s.hold who.toNat x else (1, s))) :=
  (C.hold who w h.mem h.good hx).mono fun _ _ hp => hp.lq h (by
    split
    · rename_i hin
      exact h.good.hold hin.lt
    · exact h.good)
theorem lq_free {X : Nat → Prop} {σ m M base x : Nat} {s : Lgr} (who : Int) (w : World) (h : Lq I X σ w m s M base) (hx : x < 18446744073709551616) :
    Calls Try.prog 23 #[.pointer (some ⟨σ, 0, none⟩), .int .i64 who, .int .u64 (x : Int)] w (LqP I X σ m M base w (if Inn m who then s.back who.toNat x true true else (1, s))) :=
  (C.free who w h.mem h.good hx).mono fun _ _ hp => hp.lq h (by
    split
    · rename_i hin
      exact h.good.back hin.lt
    · exact h.good)
theorem lq_pay {X : Nat → Prop} {σ m M base x : Nat} {s : Lgr} (who : Int) (w : World) (h : Lq I X σ w m s M base) (hx : x < 18446744073709551616) :
    Calls Try.prog 24 #[.pointer (some ⟨σ, 0, none⟩), .int .i64 who, .int .u64 (x : Int)] w (LqP I X σ m M base w (if Inn m who then s.back who.toNat x false true else (1, s))) :=
  (C.pay who w h.mem h.good hx).mono fun _ _ hp => hp.lq h (by
    split
    · rename_i hin
      exact h.good.back hin.lt
    · exact h.good)
theorem lq_slash {X : Nat → Prop} {σ m M base x : Nat} {s : Lgr} (who : Int) (w : World) (h : Lq I X σ w m s M base) (hx : x < 18446744073709551616) :
    Calls Try.prog 25 #[.pointer (some ⟨σ, 0, none⟩), .int .i64 who, .int .u64 (x : Int)] w (LqP I X σ m M base w (if Inn m who then s.back who.toNat x false false else (1, s))) :=
  (C.slash who w h.mem h.good hx).mono fun _ _ hp => hp.lq h (by
    split
    · rename_i hin
      exact h.good.back hin.lt
    · exact h.good)
theorem lq_turn {X : Nat → Prop} {σ m M base x : Nat} {s : Lgr} (who : Int) (w : World) (h : Lq I X σ w m s M base) (hx : x < 18446744073709551616) :
    Calls Try.prog 26 #[.pointer (some ⟨σ, 0, none⟩), .int .i64 who, .int .u64 (x : Int)] w (LqP I X σ m M base w (if Inn m who then s.turn who.toNat x else (1, s))) :=
  (C.turn who w h.mem h.good hx).mono fun _ _ hp => hp.lq h (by
    split
    · exact h.good.turn
    · exact h.good)
theorem lq_move {X : Nat → Prop} {σ m M base x : Nat} {s : Lgr} (a b : Int) (w : World) (h : Lq I X σ w m s M base) (hx : x < 18446744073709551616) :
    Calls Try.prog 28 #[.pointer (some ⟨σ, 0, none⟩), .int .i64 a, .int .i64 b, .int .u64 (x : Int)] w (LqP I X σ m M base w (if Inn m a ∧ Inn m b then s.move a.toNat b.toNat x else (1, s))) :=
  (C.move a b w h.mem h.good hx).mono fun _ _ hp => hp.lq h (by
    split
    · rename_i hin
      exact h.good.move hin.1.lt hin.2.lt
    · exact h.good)
theorem lq_balance {X : Nat → Prop} {σ m M base : Nat} {s : Lgr} (who : Int) (w : World) (h : Lq I X σ w m s M base) :
    Calls Try.prog 16 #[.pointer (some ⟨σ, 0, none⟩), .int .i64 who] w (Tells (.int .u64 (((if Inn m who then co s.b who.toNat else 0) : Nat) : Int)) w) := C.balance who w h.mem h.good
theorem lq_nonce {X : Nat → Prop} {σ m M base : Nat} {s : Lgr} (who : Int) (w : World) (h : Lq I X σ w m s M base) :
    Calls Try.prog 17 #[.pointer (some ⟨σ, 0, none⟩), .int .i64 who] w (Tells (.int .u64 (((if Inn m who then co s.n who.toNat else 0) : Nat) : Int)) w) := C.nonce who w h.mem h.good
theorem lq_fees {X : Nat → Prop} {σ m M base : Nat} {s : Lgr} (w : World) (h : Lq I X σ w m s M base) : Calls Try.prog 18 #[.pointer (some ⟨σ, 0, none⟩)] w (Tells (.int .u64 ((s.f.sum : Nat) : Int)) w) := C.fees w h.mem h.good
theorem lq_deposits {X : Nat → Prop} {σ m M base : Nat} {s : Lgr} (w : World) (h : Lq I X σ w m s M base) : Calls Try.prog 19 #[.pointer (some ⟨σ, 0, none⟩)] w (Tells (.int .u64 ((s.d.sum : Nat) : Int)) w) := C.deposits w h.mem h.good
theorem lq_treasury {X : Nat → Prop} {σ m M base : Nat} {s : Lgr} (w : World) (h : Lq I X σ w m s M base) : Calls Try.prog 20 #[.pointer (some ⟨σ, 0, none⟩)] w (Tells (.int .u64 ((s.t : Nat) : Int)) w) := C.treasury w h.mem h.good
theorem lq_total {X : Nat → Prop} {σ m M base : Nat} {s : Lgr} (w : World) (h : Lq I X σ w m s M base) : Calls Try.prog 21 #[.pointer (some ⟨σ, 0, none⟩)] w (Tells (.int .u64 (M : Int)) w) := C.total w h.mem h.good
theorem lq_copy {X : Nat → Prop} {σ m M base : Nat} {s : Lgr} (w : World) (h : Lq I X σ w m s M base) (h0 : 0 < m) :
    Calls Try.prog 27 #[.pointer (some ⟨σ, 0, none⟩)] w (fun e w' => Ext w w' ∧ ∃ τ X', e = .returned (.pointer (some ⟨τ, 0, none⟩)) ∧ Lq I X' τ w' m s M w.heap.size) :=
  (C.copy w h.mem h.good h0).mono fun _ _ ⟨hx, τ, he, hi⟩ => ⟨hx, τ, _, he, hi, h.good, fun _ hb => hb⟩
end
/-- A whole operation: its kind, the account, the other one, the number. -/
def Lgr.step (s : Lgr) (m : Nat) (k who to' : Int) (x : Nat) : Nat × Lgr :=
  if k = 1 then (if Inn m who then s.hold who.toNat x else (1, s))
  else if k = 2 then (if Inn m who then s.back who.toNat x true true else (1, s))
  else if k = 3 then (if Inn m who then s.back who.toNat x false true else (1, s))
  else if k = 4 then (if Inn m who then s.back who.toNat x false false else (1, s))
  else if k = 5 then (if Inn m who ∧ Inn m to' then s.move who.toNat to'.toNat x else (1, s))
  else if k = 6 then (if Inn m who then s.turn who.toNat x else (1, s))
  else (0, s)
theorem RG.ext {Y : Nat → Prop} {σ m : Nat} {G : Gb} {w w' : World} {s : Lgr} (h : RG Y σ G w m s) (hx : Ext w w') : RG Y σ G w' m s :=
  ⟨(hx.below.block σ (row_lt h.head)).trans h.head, h.rb.ext hx, h.rn.ext hx, h.rf.ext hx, h.rd.ext hx, h.t, h.yσ, h.yb, h.yn, h.yf, h.yd, h.far⟩
theorem inn_if {α : Type} {m : Nat} {who : Int} {a b : α} : (if 0 ≤ who ∧ who < (m : Int) then a else b) = if Inn m who then a else b := rfl
set_option maxHeartbeats 3200000 in
theorem law13_do {I : LgrP} (C : LedgerSaid I) {X : Nat → Prop} {σ m M base x : Nat} {s : Lgr} (k who to' : Int) (w : World) (h : Lq I X σ w m s M base) (hx : x < 18446744073709551616) :
    Calls Try.prog 12 #[.pointer (some ⟨σ, 0, none⟩), .agg #[.int .i64 k, .int .i64 who, .int .i64 to', .int .u64 (x : Int)]] w (LqP I X σ m M base w (s.step m k who to' x)) := by
  have hx0 := (Ext.refl w).alloc (.cells #[.int .i64 k, .int .i64 who, .int .i64 to', .int .u64 (x : Int)] 35)
  by_cases h1 : k = 1
  · subst h1
    have e : s.step m 1 who to' x = (if Inn m who then s.hold who.toNat x else (1, s)) := by unfold Lgr.step; rw [if_pos rfl]
    have HS := Lib.hid (show Calls Try.prog 22 #[.pointer (some ⟨σ, 0, none⟩), .int .i64 who, .int .u64 (x : Int)] (w.alloc (.cells #[.int .i64 1, .int .i64 who, .int .i64 to', .int .u64 (x : Int)] 35)) (LqP I X σ m M base (w.alloc (.cells #[.int .i64 1, .int .i64 who, .int .i64 to', .int .u64 (x : Int)] 35)) (s.step m 1 who to' x)) from by rw [e]; exact lq_hold C who (w.alloc (.cells #[.int .i64 1, .int .i64 who, .int .i64 to', .int .u64 (x : Int)] 35)) (h.ext C hx0) hx)
    clear h C e
    generalize s.step m 1 who to' x = r at HS ⊢
    go_enter Try.func12, Try.ntmps12
    go_wp2_with fail
    refine HS.out.mono ?_
    rintro e w1 ⟨rfl, ho1, hq1⟩
    have HO := Lib.hid ((Only.of_ext hx0).trans ho1)
    have HQ := Lib.hid hq1
    clear ho1 hq1
    go_wp2
    go_ret
    exact ⟨rfl, HO.out, HQ.out⟩
  · have d1 : (k == 1) = false := by simp; omega
    have e1 : decide (k = 1) = false := decide_eq_false h1
    by_cases h2 : k = 2
    · subst h2
      have e : s.step m 2 who to' x = (if Inn m who then s.back who.toNat x true true else (1, s)) := by unfold Lgr.step; rw [if_neg (by decide)]; rw [if_pos rfl]
      have HS := Lib.hid (show Calls Try.prog 23 #[.pointer (some ⟨σ, 0, none⟩), .int .i64 who, .int .u64 (x : Int)] (w.alloc (.cells #[.int .i64 2, .int .i64 who, .int .i64 to', .int .u64 (x : Int)] 35)) (LqP I X σ m M base (w.alloc (.cells #[.int .i64 2, .int .i64 who, .int .i64 to', .int .u64 (x : Int)] 35)) (s.step m 2 who to' x)) from by rw [e]; exact lq_free C who (w.alloc (.cells #[.int .i64 2, .int .i64 who, .int .i64 to', .int .u64 (x : Int)] 35)) (h.ext C hx0) hx)
      clear h C e
      generalize s.step m 2 who to' x = r at HS ⊢
      go_enter Try.func12, Try.ntmps12
      go_wp2_with fail
      refine HS.out.mono ?_
      rintro e w1 ⟨rfl, ho1, hq1⟩
      have HO := Lib.hid ((Only.of_ext hx0).trans ho1)
      have HQ := Lib.hid hq1
      clear ho1 hq1
      go_wp2
      go_ret
      exact ⟨rfl, HO.out, HQ.out⟩
    · have d2 : (k == 2) = false := by simp; omega
      have e2 : decide (k = 2) = false := decide_eq_false h2
      by_cases h3 : k = 3
      · subst h3
        have e : s.step m 3 who to' x = (if Inn m who then s.back who.toNat x false true else (1, s)) := by unfold Lgr.step; rw [if_neg (by decide)]; rw [if_neg (by decide)]; rw [if_pos rfl]
        have HS := Lib.hid (show Calls Try.prog 24 #[.pointer (some ⟨σ, 0, none⟩), .int .i64 who, .int .u64 (x : Int)] (w.alloc (.cells #[.int .i64 3, .int .i64 who, .int .i64 to', .int .u64 (x : Int)] 35)) (LqP I X σ m M base (w.alloc (.cells #[.int .i64 3, .int .i64 who, .int .i64 to', .int .u64 (x : Int)] 35)) (s.step m 3 who to' x)) from by rw [e]; exact lq_pay C who (w.alloc (.cells #[.int .i64 3, .int .i64 who, .int .i64 to', .int .u64 (x : Int)] 35)) (h.ext C hx0) hx)
        clear h C e
        generalize s.step m 3 who to' x = r at HS ⊢
        go_enter Try.func12, Try.ntmps12
        go_wp2_with fail
        refine HS.out.mono ?_
        rintro e w1 ⟨rfl, ho1, hq1⟩
        have HO := Lib.hid ((Only.of_ext hx0).trans ho1)
        have HQ := Lib.hid hq1
        clear ho1 hq1
        go_wp2
        go_ret
        exact ⟨rfl, HO.out, HQ.out⟩
      · have d3 : (k == 3) = false := by simp; omega
        have e3 : decide (k = 3) = false := decide_eq_false h3
        by_cases h4 : k = 4
        · subst h4
          have e : s.step m 4 who to' x = (if Inn m who then s.back who.toNat x false false else (1, s)) := by unfold Lgr.step; rw [if_neg (by decide)]; rw [if_neg (by decide)]; rw [if_neg (by decide)]; rw [if_pos rfl]
          have HS := Lib.hid (show Calls Try.prog 25 #[.pointer (some ⟨σ, 0, none⟩), .int .i64 who, .int .u64 (x : Int)] (w.alloc (.cells #[.int .i64 4, .int .i64 who, .int .i64 to', .int .u64 (x : Int)] 35)) (LqP I X σ m M base (w.alloc (.cells #[.int .i64 4, .int .i64 who, .int .i64 to', .int .u64 (x : Int)] 35)) (s.step m 4 who to' x)) from by rw [e]; exact lq_slash C who (w.alloc (.cells #[.int .i64 4, .int .i64 who, .int .i64 to', .int .u64 (x : Int)] 35)) (h.ext C hx0) hx)
          clear h C e
          generalize s.step m 4 who to' x = r at HS ⊢
          go_enter Try.func12, Try.ntmps12
          go_wp2_with fail
          refine HS.out.mono ?_
          rintro e w1 ⟨rfl, ho1, hq1⟩
          have HO := Lib.hid ((Only.of_ext hx0).trans ho1)
          have HQ := Lib.hid hq1
          clear ho1 hq1
          go_wp2
          go_ret
          exact ⟨rfl, HO.out, HQ.out⟩
        · have d4 : (k == 4) = false := by simp; omega
          have e4 : decide (k = 4) = false := decide_eq_false h4
          by_cases h5 : k = 5
          · subst h5
            have e : s.step m 5 who to' x = (if Inn m who ∧ Inn m to' then s.move who.toNat to'.toNat x else (1, s)) := by unfold Lgr.step; rw [if_neg (by decide)]; rw [if_neg (by decide)]; rw [if_neg (by decide)]; rw [if_neg (by decide)]; rw [if_pos rfl]
            have HS := Lib.hid (show Calls Try.prog 28 #[.pointer (some ⟨σ, 0, none⟩), .int .i64 who, .int .i64 to', .int .u64 (x : Int)] (w.alloc (.cells #[.int .i64 5, .int .i64 who, .int .i64 to', .int .u64 (x : Int)] 35)) (LqP I X σ m M base (w.alloc (.cells #[.int .i64 5, .int .i64 who, .int .i64 to', .int .u64 (x : Int)] 35)) (s.step m 5 who to' x)) from by rw [e]; exact lq_move C who to' (w.alloc (.cells #[.int .i64 5, .int .i64 who, .int .i64 to', .int .u64 (x : Int)] 35)) (h.ext C hx0) hx)
            clear h C e
            generalize s.step m 5 who to' x = r at HS ⊢
            go_enter Try.func12, Try.ntmps12
            go_wp2_with fail
            refine HS.out.mono ?_
            rintro e w1 ⟨rfl, ho1, hq1⟩
            have HO := Lib.hid ((Only.of_ext hx0).trans ho1)
            have HQ := Lib.hid hq1
            clear ho1 hq1
            go_wp2
            go_ret
            exact ⟨rfl, HO.out, HQ.out⟩
          · have d5 : (k == 5) = false := by simp; omega
            have e5 : decide (k = 5) = false := decide_eq_false h5
            by_cases h6 : k = 6
            · subst h6
              have e : s.step m 6 who to' x = (if Inn m who then s.turn who.toNat x else (1, s)) := by unfold Lgr.step; rw [if_neg (by decide)]; rw [if_neg (by decide)]; rw [if_neg (by decide)]; rw [if_neg (by decide)]; rw [if_neg (by decide)]; rw [if_pos rfl]
              have HS := Lib.hid (show Calls Try.prog 26 #[.pointer (some ⟨σ, 0, none⟩), .int .i64 who, .int .u64 (x : Int)] (w.alloc (.cells #[.int .i64 6, .int .i64 who, .int .i64 to', .int .u64 (x : Int)] 35)) (LqP I X σ m M base (w.alloc (.cells #[.int .i64 6, .int .i64 who, .int .i64 to', .int .u64 (x : Int)] 35)) (s.step m 6 who to' x)) from by rw [e]; exact lq_turn C who (w.alloc (.cells #[.int .i64 6, .int .i64 who, .int .i64 to', .int .u64 (x : Int)] 35)) (h.ext C hx0) hx)
              clear h C e
              generalize s.step m 6 who to' x = r at HS ⊢
              go_enter Try.func12, Try.ntmps12
              go_wp2_with fail
              refine HS.out.mono ?_
              rintro e w1 ⟨rfl, ho1, hq1⟩
              have HO := Lib.hid ((Only.of_ext hx0).trans ho1)
              have HQ := Lib.hid hq1
              clear ho1 hq1
              go_wp2
              go_ret
              exact ⟨rfl, HO.out, HQ.out⟩
            · have d6 : (k == 6) = false := by simp; omega
              have e6 : decide (k = 6) = false := decide_eq_false h6
              have e : s.step m k who to' x = (0, s) := by unfold Lgr.step; rw [if_neg h1, if_neg h2, if_neg h3, if_neg h4, if_neg h5, if_neg h6]
              rw [e]
              have HQ := Lib.hid (h.ext C hx0)
              clear h C e
              go_enter Try.func12, Try.ntmps12
              go_wp2
              go_ret
              exact ⟨rfl, Only.of_ext hx0, HQ.out⟩
set_option maxHeartbeats 3200000 in
theorem law13_doc {Y : Nat → Prop} {σ m M x : Nat} {G : Gb} {s : Lgr} (k who to' : Int) (w : World) (h : RG Y σ G w m s) (hk : s.ok m M) (hM : M < 18446744073709551616) (hx : x < 18446744073709551616) :
    Calls Try.prog 13 #[.pointer (some ⟨σ, 0, none⟩), .agg #[.int .i64 k, .int .i64 who, .int .i64 to', .int .u64 (x : Int)]] w (LedP Y σ m G w (s.step m k who to' x)) := by
  have hx0 := (Ext.refl w).alloc (.cells #[.int .i64 k, .int .i64 who, .int .i64 to', .int .u64 (x : Int)] 35)
  by_cases h1 : k = 1
  · subst h1
    have e : s.step m 1 who to' x = (if Inn m who then s.hold who.toNat x else (1, s)) := by unfold Lgr.step; rw [if_pos rfl]
    have HS := Lib.hid (show Calls Try.prog 29 #[.pointer (some ⟨σ, 0, none⟩), .int .i64 who, .int .u64 (x : Int)] (w.alloc (.cells #[.int .i64 1, .int .i64 who, .int .i64 to', .int .u64 (x : Int)] 35)) (LedP Y σ m G (w.alloc (.cells #[.int .i64 1, .int .i64 who, .int .i64 to', .int .u64 (x : Int)] 35)) (s.step m 1 who to' x)) from by rw [e]; exact ref13_hold (w.alloc (.cells #[.int .i64 1, .int .i64 who, .int .i64 to', .int .u64 (x : Int)] 35)) (h.ext hx0) hk hM who hx)
    clear h hk hM e
    generalize s.step m 1 who to' x = r at HS ⊢
    go_enter Try.func13, Try.ntmps13
    go_wp2_with fail
    refine HS.out.mono ?_
    rintro e w1 ⟨rfl, ho1, hq1⟩
    have HO := Lib.hid ((Only.of_ext hx0).trans ho1)
    have HQ := Lib.hid hq1
    clear ho1 hq1
    go_wp2
    go_ret
    exact ⟨rfl, HO.out, HQ.out⟩
  · have d1 : (k == 1) = false := by simp; omega
    have e1 : decide (k = 1) = false := decide_eq_false h1
    by_cases h2 : k = 2
    · subst h2
      have e : s.step m 2 who to' x = (if Inn m who then s.back who.toNat x true true else (1, s)) := by unfold Lgr.step; rw [if_neg (by decide)]; rw [if_pos rfl]
      have HS := Lib.hid (show Calls Try.prog 30 #[.pointer (some ⟨σ, 0, none⟩), .int .i64 who, .int .u64 (x : Int), .bool true, .bool true] (w.alloc (.cells #[.int .i64 2, .int .i64 who, .int .i64 to', .int .u64 (x : Int)] 35)) (LedP Y σ m G (w.alloc (.cells #[.int .i64 2, .int .i64 who, .int .i64 to', .int .u64 (x : Int)] 35)) (s.step m 2 who to' x)) from by rw [e]; exact ref13_back11 (w.alloc (.cells #[.int .i64 2, .int .i64 who, .int .i64 to', .int .u64 (x : Int)] 35)) (h.ext hx0) hk hM who hx)
      clear h hk hM e
      generalize s.step m 2 who to' x = r at HS ⊢
      go_enter Try.func13, Try.ntmps13
      go_wp2_with fail
      refine HS.out.mono ?_
      rintro e w1 ⟨rfl, ho1, hq1⟩
      have HO := Lib.hid ((Only.of_ext hx0).trans ho1)
      have HQ := Lib.hid hq1
      clear ho1 hq1
      go_wp2
      go_ret
      exact ⟨rfl, HO.out, HQ.out⟩
    · have d2 : (k == 2) = false := by simp; omega
      have e2 : decide (k = 2) = false := decide_eq_false h2
      by_cases h3 : k = 3
      · subst h3
        have e : s.step m 3 who to' x = (if Inn m who then s.back who.toNat x false true else (1, s)) := by unfold Lgr.step; rw [if_neg (by decide)]; rw [if_neg (by decide)]; rw [if_pos rfl]
        have HS := Lib.hid (show Calls Try.prog 30 #[.pointer (some ⟨σ, 0, none⟩), .int .i64 who, .int .u64 (x : Int), .bool false, .bool true] (w.alloc (.cells #[.int .i64 3, .int .i64 who, .int .i64 to', .int .u64 (x : Int)] 35)) (LedP Y σ m G (w.alloc (.cells #[.int .i64 3, .int .i64 who, .int .i64 to', .int .u64 (x : Int)] 35)) (s.step m 3 who to' x)) from by rw [e]; exact ref13_back01 (w.alloc (.cells #[.int .i64 3, .int .i64 who, .int .i64 to', .int .u64 (x : Int)] 35)) (h.ext hx0) hk hM who hx)
        clear h hk hM e
        generalize s.step m 3 who to' x = r at HS ⊢
        go_enter Try.func13, Try.ntmps13
        go_wp2_with fail
        refine HS.out.mono ?_
        rintro e w1 ⟨rfl, ho1, hq1⟩
        have HO := Lib.hid ((Only.of_ext hx0).trans ho1)
        have HQ := Lib.hid hq1
        clear ho1 hq1
        go_wp2
        go_ret
        exact ⟨rfl, HO.out, HQ.out⟩
      · have d3 : (k == 3) = false := by simp; omega
        have e3 : decide (k = 3) = false := decide_eq_false h3
        by_cases h4 : k = 4
        · subst h4
          have e : s.step m 4 who to' x = (if Inn m who then s.back who.toNat x false false else (1, s)) := by unfold Lgr.step; rw [if_neg (by decide)]; rw [if_neg (by decide)]; rw [if_neg (by decide)]; rw [if_pos rfl]
          have HS := Lib.hid (show Calls Try.prog 30 #[.pointer (some ⟨σ, 0, none⟩), .int .i64 who, .int .u64 (x : Int), .bool false, .bool false] (w.alloc (.cells #[.int .i64 4, .int .i64 who, .int .i64 to', .int .u64 (x : Int)] 35)) (LedP Y σ m G (w.alloc (.cells #[.int .i64 4, .int .i64 who, .int .i64 to', .int .u64 (x : Int)] 35)) (s.step m 4 who to' x)) from by rw [e]; exact ref13_back00 (w.alloc (.cells #[.int .i64 4, .int .i64 who, .int .i64 to', .int .u64 (x : Int)] 35)) (h.ext hx0) hk hM who hx)
          clear h hk hM e
          generalize s.step m 4 who to' x = r at HS ⊢
          go_enter Try.func13, Try.ntmps13
          go_wp2_with fail
          refine HS.out.mono ?_
          rintro e w1 ⟨rfl, ho1, hq1⟩
          have HO := Lib.hid ((Only.of_ext hx0).trans ho1)
          have HQ := Lib.hid hq1
          clear ho1 hq1
          go_wp2
          go_ret
          exact ⟨rfl, HO.out, HQ.out⟩
        · have d4 : (k == 4) = false := by simp; omega
          have e4 : decide (k = 4) = false := decide_eq_false h4
          by_cases h5 : k = 5
          · subst h5
            have e : s.step m 5 who to' x = (if Inn m who ∧ Inn m to' then s.move who.toNat to'.toNat x else (1, s)) := by unfold Lgr.step; rw [if_neg (by decide)]; rw [if_neg (by decide)]; rw [if_neg (by decide)]; rw [if_neg (by decide)]; rw [if_pos rfl]
            have HS := Lib.hid (show Calls Try.prog 31 #[.pointer (some ⟨σ, 0, none⟩), .int .i64 who, .int .i64 to', .int .u64 (x : Int)] (w.alloc (.cells #[.int .i64 5, .int .i64 who, .int .i64 to', .int .u64 (x : Int)] 35)) (LedP Y σ m G (w.alloc (.cells #[.int .i64 5, .int .i64 who, .int .i64 to', .int .u64 (x : Int)] 35)) (s.step m 5 who to' x)) from by rw [e]; exact ref13_move (w.alloc (.cells #[.int .i64 5, .int .i64 who, .int .i64 to', .int .u64 (x : Int)] 35)) (h.ext hx0) hk hM who to' hx)
            clear h hk hM e
            generalize s.step m 5 who to' x = r at HS ⊢
            go_enter Try.func13, Try.ntmps13
            go_wp2_with fail
            refine HS.out.mono ?_
            rintro e w1 ⟨rfl, ho1, hq1⟩
            have HO := Lib.hid ((Only.of_ext hx0).trans ho1)
            have HQ := Lib.hid hq1
            clear ho1 hq1
            go_wp2
            go_ret
            exact ⟨rfl, HO.out, HQ.out⟩
          · have d5 : (k == 5) = false := by simp; omega
            have e5 : decide (k = 5) = false := decide_eq_false h5
            by_cases h6 : k = 6
            · subst h6
              have e : s.step m 6 who to' x = (if Inn m who then s.turn who.toNat x else (1, s)) := by unfold Lgr.step; rw [if_neg (by decide)]; rw [if_neg (by decide)]; rw [if_neg (by decide)]; rw [if_neg (by decide)]; rw [if_neg (by decide)]; rw [if_pos rfl]
              have HS := Lib.hid (show Calls Try.prog 32 #[.pointer (some ⟨σ, 0, none⟩), .int .i64 who, .int .u64 (x : Int)] (w.alloc (.cells #[.int .i64 6, .int .i64 who, .int .i64 to', .int .u64 (x : Int)] 35)) (LedP Y σ m G (w.alloc (.cells #[.int .i64 6, .int .i64 who, .int .i64 to', .int .u64 (x : Int)] 35)) (s.step m 6 who to' x)) from by rw [e]; exact ref13_turn (w.alloc (.cells #[.int .i64 6, .int .i64 who, .int .i64 to', .int .u64 (x : Int)] 35)) (h.ext hx0) who hx)
              clear h hk hM e
              generalize s.step m 6 who to' x = r at HS ⊢
              go_enter Try.func13, Try.ntmps13
              go_wp2_with fail
              refine HS.out.mono ?_
              rintro e w1 ⟨rfl, ho1, hq1⟩
              have HO := Lib.hid ((Only.of_ext hx0).trans ho1)
              have HQ := Lib.hid hq1
              clear ho1 hq1
              go_wp2
              go_ret
              exact ⟨rfl, HO.out, HQ.out⟩
            · have d6 : (k == 6) = false := by simp; omega
              have e6 : decide (k = 6) = false := decide_eq_false h6
              have e : s.step m k who to' x = (0, s) := by unfold Lgr.step; rw [if_neg h1, if_neg h2, if_neg h3, if_neg h4, if_neg h5, if_neg h6]
              rw [e]
              have HQ := Lib.hid (h.ext hx0)
              clear h hk hM e
              go_enter Try.func13, Try.ntmps13
              go_wp2
              go_ret
              exact ⟨rfl, Only.of_ext hx0, HQ.out⟩
end Go.Proofs.Ytoelkmmdnhnljaa

/-
  The laws' first call of layer 13. Conditions: none.
-/
namespace Go.Proofs.Ytoelkmmdnhnljaa
open Go.RowKit
open Pol (co)

theorem urd_lit (w : World) (l : List Nat) (cs : Array Value) (hc : cs.toList = uv l) (hu : U64 l) : URd (w.alloc (.cells cs 33)) (some ⟨w.heap.size, 0, none⟩) l := by
  have hl : cs.size = l.length := by rw [← Array.length_toList, hc, uv_len]
  refine RowU.rd (n := l.length) (c := l.length) ⟨rfl, Nat.le_refl _, hu, cs, heap_alloc_new w _, by omega, ?_⟩
  rw [hc, ← uv_len, List.take_length]
theorem u64_list {l : List Nat} (h : ∀ x ∈ l, x < 18446744073709551616) : U64 l := fun i => by
  unfold co
  cases hi : l[i]? with
  | none => decide
  | some x => exact h x (List.mem_of_getElem? hi)
/-- New of a list that may be. -/
theorem lq_new_ok {I : LgrP} (C : LedgerSaid I) {l : List Nat} {A : Option Addr} {n c : Nat} (w : World) (hn : l.length = n) (hr : URd w A l) (h0 : newc l = 0) : Calls Try.prog 10 #[.slice A n c] w (fun e w' => Ext w w' ∧
    ∃ σ X, e = .returned (.tuple #[.pointer (some ⟨σ, 0, none⟩), .int .i64 0]) ∧ Lq I X σ w' n (Lgr.new l) l.sum w.heap.size) := by
  refine (lq_new C w hn hr).mono ?_
  rintro e w' ⟨hx, (⟨_, h⟩ | ⟨h, _⟩)⟩
  · exact ⟨hx, h⟩
  · exact absurd h0 h
set_option maxHeartbeats 1600000 in
theorem awake13 {I : LgrP} (C : LedgerSaid I) (w : World) : Calls Try.prog 9 #[] w (Holds w) := by
  have HC := Lib.hid C
  have HN := Lib.hid (lq_new_ok C (l := [100]) (A := some ⟨w.heap.size, 0, none⟩) (n := 1) (c := 1) (w.alloc (.cells #[.int .u64 100] 33)) rfl (urd_lit w [100] #[.int .u64 100] rfl (u64_list (by simp))) rfl)
  clear C
  go_enter Try.func9, Try.ntmps9
  go_wp2_with fail
  refine HN.out.mono ?_
  rintro e w1 ⟨hx1, σ, X, rfl, hq1⟩
  have HX1 := Lib.hid (((Ext.refl w).alloc _).trans hx1)
  have HB := Lib.hid (show ∀ b, X b → w.heap.size ≤ b from fun b hb => by have h1 := (hq1.own b hb).1; have h2 := ((Ext.refl w).alloc (.cells #[.int .u64 100] 33)).size; omega)
  have H1 := Lib.hid (show Calls Try.prog 22 #[.pointer (some ⟨σ, 0, none⟩), .int .i64 0, .int .u64 20] w1 (LqP I X σ 1 100 _ w1 (0, ⟨[30], [0], [20], [50], 0⟩)) from lq_hold HC.out 0 w1 hq1 (x := 20) (by decide))
  clear hx1 hq1 HN
  go_wp2_with fail
  refine H1.out.mono ?_
  rintro e w2 ⟨rfl, ho2, hq2⟩
  have HX2 := Lib.hid (ho2.ext HX1.out HB.out)
  have HQ2 := Lib.hid hq2
  clear ho2 hq2 H1
  go_wp2_with fail
  refine (lq_balance HC.out 0 w2 HQ2.out).mono ?_
  rintro e w3 ⟨rfl, hx3⟩
  have HX3 := Lib.hid (HX2.out.trans hx3)
  have H3 := Lib.hid (show Calls Try.prog 24 #[.pointer (some ⟨σ, 0, none⟩), .int .i64 0, .int .u64 20] w3 (LqP I X σ 1 100 _ w3 (0, ⟨[80], [0], [0], [0], 20⟩)) from lq_pay HC.out 0 w3 (HQ2.out.ext HC.out hx3) (x := 20) (by decide))
  clear hx3
  go_wp2_with fail
  refine H3.out.mono ?_
  rintro e w4 ⟨rfl, ho4, hq4⟩
  have HX4 := Lib.hid (ho4.ext HX3.out HB.out)
  have HQ4 := Lib.hid hq4
  clear ho4 hq4 H3
  go_wp2_with fail
  refine (lq_balance HC.out 0 w4 HQ4.out).mono ?_
  rintro e w5 ⟨rfl, hx5⟩
  have HX5 := Lib.hid (HX4.out.trans hx5)
  have HQ5 := Lib.hid (HQ4.out.ext HC.out hx5)
  clear hx5
  go_wp2_with fail
  refine (lq_treasury HC.out w5 HQ5.out).mono ?_
  rintro e w6 ⟨rfl, hx6⟩
  have HX6 := Lib.hid (HX5.out.trans hx6)
  have HQ6 := Lib.hid (HQ5.out.ext HC.out hx6)
  clear hx6
  go_wp2_with fail
  refine (lq_total HC.out w6 HQ6.out).mono ?_
  rintro e w7 ⟨rfl, hx7⟩
  have HX7 := Lib.hid (HX6.out.trans hx7)
  clear hx7
  go_wp2
  go_ret
  exact ⟨rfl, HX7.out⟩
end Go.Proofs.Ytoelkmmdnhnljaa

/-
  Is a ledger the document's? What same answers. Conditions: no more than 6 accounts, a total of no more than 2^60.
-/
namespace Go.Proofs.Ytoelkmmdnhnljaa
open Go.RowKit
open Pol (co)

def Cls13s (u w : World) : Prop := Ext u w
set_option maxHeartbeats 6400000 in
theorem law13_same {I : LgrP} (C : LedgerSaid I) {X Y : Nat → Prop} {σ τ m M base : Nat} {G : Gb} {s : Lgr} (w : World) (h : Lq I X σ w m s M base) (hg : RG Y τ G w m s) :
    Calls Try.prog 14 #[.pointer (some ⟨σ, 0, none⟩), .pointer (some ⟨τ, 0, none⟩)] w (Tells (.bool true) w) := by
  have HC := Lib.hid C
  have HQ := Lib.hid h
  have HG := Lib.hid hg
  have hm := h.good.few
  clear h hg C
  go_enter Try.func14, Try.ntmps14
  go_wp2
  go_loopg [5] (m + 2) (fun gk s5 wx => ∃ z : Int, -1 ≤ z ∧ z + gk = (m : Int) + 1 ∧ s5 = .int .i64 z ∧ Ext w wx)
  case atStart => exact ⟨-1, by omega, by omega, rfl, Ext.refl _⟩
  case round =>
    obtain ⟨z, hz1, hz2, rfl, hxr⟩ := hrel
    have HX := Lib.hid hxr
    have c0 := (HG.out.ext hxr).c0
    clear hxr
    cases gk with
    | zero =>
      have d1 : decide (z ≤ (m : Int)) = false := decide_eq_false (by omega)
      have q2 := Lib.hid (HG.out.ext HX.out)
      obtain ⟨f, hf⟩ : ∃ f, s.f.sum = f := ⟨_, rfl⟩
      obtain ⟨d, hd⟩ : ∃ d, s.d.sum = d := ⟨_, rfl⟩
      obtain ⟨t, ht⟩ : ∃ t, s.t = t := ⟨_, rfl⟩
      have HS := Lib.hid (show s.f.sum < 18446744073709551616 ∧ s.d.sum < 18446744073709551616 by
        have h1 := HQ.out.good.ok.sum
        have h2 := HQ.out.good.tot
        omega)
      have F2 := Lib.hid (show ∀ W, Cls13s wr W → W.cell? ⟨τ, 2, none⟩ = some (.slice (some ⟨G.f, 0, none⟩) m G.cf) from fun W hW => (q2.out.ext hW).c2)
      have F3 := Lib.hid (show ∀ W, Cls13s wr W → W.cell? ⟨τ, 3, none⟩ = some (.slice (some ⟨G.d, 0, none⟩) m G.cd) from fun W hW => (q2.out.ext hW).c3)
      have F4 := Lib.hid (show ∀ W, Cls13s wr W → W.cell? ⟨τ, 4, none⟩ = some (.int .u64 (t : Int)) from fun W hW => by rw [(q2.out.ext hW).c4, ht])
      have K1 := Lib.hid (show ∀ W, Cls13s wr W → Calls Try.prog 18 #[.pointer (some ⟨σ, 0, none⟩)] W (fun e w' => e = .returned (.int .u64 (f : Int)) ∧ Cls13s wr w') from fun W hW =>
        (lq_fees HC.out W (HQ.out.ext HC.out (HX.out.trans hW))).mono fun _ _ h => ⟨by rw [h.1, hf], Ext.trans hW h.2⟩)
      have K2 := Lib.hid (show ∀ W, Cls13s wr W → Calls Try.prog 19 #[.pointer (some ⟨σ, 0, none⟩)] W (fun e w' => e = .returned (.int .u64 (d : Int)) ∧ Cls13s wr w') from fun W hW =>
        (lq_deposits HC.out W (HQ.out.ext HC.out (HX.out.trans hW))).mono fun _ _ h => ⟨by rw [h.1, hd], Ext.trans hW h.2⟩)
      have K3 := Lib.hid (show ∀ W, Cls13s wr W → Calls Try.prog 20 #[.pointer (some ⟨σ, 0, none⟩)] W (fun e w' => e = .returned (.int .u64 (t : Int)) ∧ Cls13s wr w') from fun W hW =>
        (lq_treasury HC.out W (HQ.out.ext HC.out (HX.out.trans hW))).mono fun _ _ h => ⟨by rw [h.1, ht], Ext.trans hW h.2⟩)
      have K4 := Lib.hid (show ∀ W, Cls13s wr W → Calls Try.prog 21 #[.pointer (some ⟨σ, 0, none⟩)] W (fun e w' => e = .returned (.int .u64 (M : Int)) ∧ Cls13s wr w') from fun W hW =>
        (lq_total HC.out W (HQ.out.ext HC.out (HX.out.trans hW))).mono fun _ _ h => ⟨h.1, Ext.trans hW h.2⟩)
      have K5 := Lib.hid (show ∀ W, Cls13s wr W → Calls Try.prog 15 #[.slice (some ⟨G.f, 0, none⟩) m G.cf] W (fun e w' => e = .returned (.int .u64 (f : Int)) ∧ Cls13s wr w') from fun W hW =>
        (ref13_sum s.f (some ⟨G.f, 0, none⟩) m G.cf W HG.out.rf.len ((q2.out.ext hW).rf.rd) (by omega) HS.out.1).mono fun _ _ h => ⟨by rw [h.1, hf], h.2 ▸ hW⟩)
      have K6 := Lib.hid (show ∀ W, Cls13s wr W → Calls Try.prog 15 #[.slice (some ⟨G.d, 0, none⟩) m G.cd] W (fun e w' => e = .returned (.int .u64 (d : Int)) ∧ Cls13s wr w') from fun W hW =>
        (ref13_sum s.d (some ⟨G.d, 0, none⟩) m G.cd W HG.out.rd.len ((q2.out.ext hW).rd.rd) (by omega) HS.out.2).mono fun _ _ h => ⟨by rw [h.1, hd], h.2 ▸ hW⟩)
      have K7 := Lib.hid (show ∀ W, Cls13s wr W → Calls Try.prog 34 #[.pointer (some ⟨τ, 0, none⟩)] W (fun e w' => e = .returned (.int .u64 (M : Int)) ∧ Cls13s wr w') from fun W hW =>
        (ref13_total W (q2.out.ext hW) HQ.out.good.ok (by omega) (by have := HQ.out.good.tot; omega)).mono fun _ _ h => ⟨h.1, by obtain ⟨k, hk⟩ := h.2; rw [hk]; exact Ext.drewN hW k⟩)
      clear hf hd ht q2 HS
      obtain ⟨gb, gn, gf, gd, cb, cn, cf, cd⟩ := G
      go_wp2
      refine wp_region_quiet (C := Cls13s wr) (by kernel_rfl) (by kernel_rfl) (show Cls13s wr wr.drew from (Ext.refl wr).drew) ?_
      refine wpQuiet_step (fun K hK => ?_); go_simp; refine ⟨_, fun _ _ => rfl, hK _ ?_⟩; clear hK K
      refine wpQuiet_step (fun K hK => ?_); go_simp; refine ⟨_, fun W hW => K1.out W hW, hK _ ?_⟩; clear hK K
      refine wpQuiet_step (fun K hK => ?_); go_simp; refine ⟨_, fun _ _ => rfl, hK _ ?_⟩; clear hK K
      refine wpQuiet_step (fun K hK => ?_); go_simp; refine ⟨_, fun _ _ => rfl, hK _ ?_⟩; clear hK K
      refine wpQuiet_step (fun K hK => ?_); go_simp; refine ⟨_, fun _ _ => rfl, hK _ ?_⟩; clear hK K
      refine wpQuiet_step (fun K hK => ?_); go_simp; refine ⟨.slice (some ⟨gf, 0, none⟩) m cf, fun W hW => ?_, hK _ ?_⟩; (focus (have h1 := F2.out W hW; go_simp; done)); clear hK K
      refine wpQuiet_step (fun K hK => ?_); go_simp; refine ⟨_, fun W hW => K5.out W hW, hK _ ?_⟩; clear hK K
      refine wpQuiet_step (fun K hK => ?_); go_simp; refine ⟨_, fun _ _ => rfl, hK _ ?_⟩; clear hK K
      refine wpQuiet_step (fun K hK => ?_); go_simp; refine ⟨_, fun _ _ => rfl, hK _ ?_⟩; clear hK K
      refine wpQuiet_step (fun K hK => ?_); go_simp; refine ⟨_, fun _ _ => rfl, hK _ ?_⟩; clear hK K
      refine wpQuiet_step (fun K hK => ?_); go_simp; refine ⟨_, fun W hW => K2.out W hW, hK _ ?_⟩; clear hK K
      refine wpQuiet_step (fun K hK => ?_); go_simp; refine ⟨_, fun _ _ => rfl, hK _ ?_⟩; clear hK K
      refine wpQuiet_step (fun K hK => ?_); go_simp; refine ⟨_, fun _ _ => rfl, hK _ ?_⟩; clear hK K
      refine wpQuiet_step (fun K hK => ?_); go_simp; refine ⟨_, fun _ _ => rfl, hK _ ?_⟩; clear hK K
      refine wpQuiet_step (fun K hK => ?_); go_simp; refine ⟨.slice (some ⟨gd, 0, none⟩) m cd, fun W hW => ?_, hK _ ?_⟩; (focus (have h1 := F3.out W hW; go_simp; done)); clear hK K
      refine wpQuiet_step (fun K hK => ?_); go_simp; refine ⟨_, fun W hW => K6.out W hW, hK _ ?_⟩; clear hK K
      refine wpQuiet_step (fun K hK => ?_); go_simp; refine ⟨_, fun _ _ => rfl, hK _ ?_⟩; clear hK K
      refine wpQuiet_step (fun K hK => ?_); go_simp; refine ⟨_, fun _ _ => rfl, hK _ ?_⟩; clear hK K
      refine wpQuiet_step (fun K hK => ?_); go_simp; refine ⟨_, fun _ _ => rfl, hK _ ?_⟩; clear hK K
      refine wpQuiet_step (fun K hK => ?_); go_simp; refine ⟨_, fun _ _ => rfl, hK _ ?_⟩; clear hK K
      refine wpQuiet_step (fun K hK => ?_); go_simp; refine ⟨_, fun W hW => K3.out W hW, hK _ ?_⟩; clear hK K
      refine wpQuiet_step (fun K hK => ?_); go_simp; refine ⟨_, fun _ _ => rfl, hK _ ?_⟩; clear hK K
      refine wpQuiet_step (fun K hK => ?_); go_simp; refine ⟨_, fun _ _ => rfl, hK _ ?_⟩; clear hK K
      refine wpQuiet_step (fun K hK => ?_); go_simp; refine ⟨_, fun _ _ => rfl, hK _ ?_⟩; clear hK K
      refine wpQuiet_step (fun K hK => ?_); go_simp; refine ⟨.int .u64 (t : Int), fun W hW => ?_, hK _ ?_⟩; (focus (have h1 := F4.out W hW; go_simp; done)); clear hK K
      refine wpQuiet_step (fun K hK => ?_); go_simp; refine ⟨_, fun _ _ => rfl, hK _ ?_⟩; clear hK K
      refine wpQuiet_step (fun K hK => ?_); go_simp; refine ⟨_, fun _ _ => rfl, hK _ ?_⟩; clear hK K
      refine wpQuiet_step (fun K hK => ?_); go_simp; refine ⟨_, fun _ _ => rfl, hK _ ?_⟩; clear hK K
      refine wpQuiet_step (fun K hK => ?_); go_simp; refine ⟨_, fun _ _ => rfl, hK _ ?_⟩; clear hK K
      refine wpQuiet_step (fun K hK => ?_); go_simp; refine ⟨_, fun W hW => K4.out W hW, hK _ ?_⟩; clear hK K
      refine wpQuiet_step (fun K hK => ?_); go_simp; refine ⟨_, fun _ _ => rfl, hK _ ?_⟩; clear hK K
      refine wpQuiet_step (fun K hK => ?_); go_simp; refine ⟨_, fun W hW => K7.out W hW, hK _ ?_⟩; clear hK K
      refine wpQuiet_step (fun K hK => ?_); go_simp; refine ⟨_, fun _ _ => rfl, hK _ ?_⟩; clear hK K
      refine wpQuiet_step (fun K hK => ?_); go_simp; refine ⟨_, fun _ _ => rfl, hK _ ?_⟩; clear hK K
      refine wpQuiet_step (fun K hK => ?_); go_simp; refine ⟨_, fun _ _ => rfl, hK _ ?_⟩; clear hK K
      refine wpQuiet_nil ?_
      intro u hu
      have HU := Lib.hid (show Ext w u from HX.out.trans hu)
      clear hu F2 F3 F4 K1 K2 K3 K4 K5 K6 K7
      go_wp2
      go_ret
      exact ⟨rfl, HU.out⟩
    | succ gk =>
      have d1 : decide (z ≤ (m : Int)) = true := decide_eq_true (by omega)
      have HIS := Lib.hid (ref13_is wr (HG.out.ext HX.out) z)
      have HBAL := Lib.hid (fun u (hu : Ext wr u) => lq_balance HC.out z u (HQ.out.ext HC.out (HX.out.trans hu)))
      have HNON := Lib.hid (fun u (hu : Ext wr u) => lq_nonce HC.out z u (HQ.out.ext HC.out (HX.out.trans hu)))
      by_cases hin : Inn m z
      · obtain ⟨h0, h1⟩ := hin
        rw [decide_eq_true (show 0 ≤ z ∧ z < (m : Int) from ⟨h0, h1⟩)] at HIS
        simp only [if_pos (show Inn m z from ⟨h0, h1⟩)] at HBAL HNON
        obtain ⟨i, rfl⟩ : ∃ i : Nat, (i : Int) = z := ⟨z.toNat, by omega⟩
        have hi : i < m := by omega
        have c1 := (HG.out.ext HX.out).c1
        have cb := (HG.out.ext HX.out).rb.at hi
        have cn := (HG.out.ext HX.out).rn.at hi
        simp only [Int.toNat_natCast] at HBAL HNON
        obtain ⟨v, hv⟩ : ∃ v, co s.b i = v := ⟨_, rfl⟩
        obtain ⟨y, hy⟩ : ∃ y, co s.n i = y := ⟨_, rfl⟩
        rw [hv] at cb HBAL
        rw [hy] at cn HNON
        clear hv hy
        obtain ⟨gb, gn, gf, gd, cb', cn', cf, cd⟩ := G
        go_wp2_with fail
        refine HIS.out.mono ?_
        rintro e w1 ⟨rfl, rfl⟩
        go_wp2
        go_quiet (fail)
        have HX1 := Lib.hid (show Ext wr (wr.drewN nq) from (Ext.refl wr).drewN nq)
        generalize wr.drewN nq = w1 at *
        go_wp2_with fail
        refine (HBAL.out w1 HX1.out).mono ?_
        rintro e w2 ⟨rfl, hx2⟩
        have HX2 := Lib.hid (HX1.out.trans hx2)
        clear hx2
        go_wp2_with fail
        refine (HNON.out w2 HX2.out).mono ?_
        rintro e w3 ⟨rfl, hx3⟩
        have HX3 := Lib.hid (HX.out.trans (HX2.out.trans hx3))
        clear hx3
        go_wp2
        go_roundg gk
        case measure => omega
        case rel => exact ⟨(i : Int) + 1, by omega, by omega, by go_num, HX3.out⟩
      · rw [decide_eq_false (show ¬ (0 ≤ z ∧ z < (m : Int)) from hin)] at HIS
        simp only [if_neg hin] at HBAL HNON
        go_wp2_with fail
        refine HIS.out.mono ?_
        rintro e w1 ⟨rfl, rfl⟩
        go_wp2_with fail
        refine (HBAL.out wr (Ext.refl _)).mono ?_
        rintro e w2 ⟨rfl, hx2⟩
        have HX2 := Lib.hid hx2
        clear hx2
        go_wp2_with fail
        refine (HNON.out w2 HX2.out).mono ?_
        rintro e w3 ⟨rfl, hx3⟩
        have HX3 := Lib.hid (HX.out.trans (HX2.out.trans hx3))
        clear hx3
        go_wp2
        go_roundg gk
        case measure => omega
        case rel => exact ⟨z + 1, by omega, by omega, by go_num, HX3.out⟩
end Go.Proofs.Ytoelkmmdnhnljaa

/-
  A ledger and the document's side by side; an operation as it lies among those that came in. Conditions: none.
-/
namespace Go.Proofs.Ytoelkmmdnhnljaa
open Go.RowKit
open Pol (co)

theorem RG.only {X Y : Nat → Prop} {τ m : Nat} {G : Gb} {w w' : World} {s : Lgr} (h : RG Y τ G w m s) (ho : Only X w w') (hd : ∀ b, X b → ¬ G.has τ b) : RG Y τ G w' m s :=
  ⟨(ho.block τ (row_lt h.head) (fun e => hd _ e (.inl rfl))).trans h.head, h.rb.stay (ho.block _ h.rb.lt (fun e => hd _ e (.inr (.inl rfl)))), h.rn.stay (ho.block _ h.rn.lt (fun e => hd _ e (.inr (.inr (.inl rfl))))),
    h.rf.stay (ho.block _ h.rf.lt (fun e => hd _ e (.inr (.inr (.inr (.inl rfl)))))), h.rd.stay (ho.block _ h.rd.lt (fun e => hd _ e (.inr (.inr (.inr (.inr rfl)))))), h.t, h.yσ, h.yb, h.yn, h.yf, h.yd, h.far⟩
theorem RG.has {Y : Nat → Prop} {τ m b : Nat} {G : Gb} {w : World} {s : Lgr} (h : RG Y τ G w m s) (hb : G.has τ b) : Y b := by
  rcases hb with rfl | rfl | rfl | rfl | rfl
  · exact h.yσ
  · exact h.yb
  · exact h.yn
  · exact h.yf
  · exact h.yd
/-- Where an operation lies. -/
def OpAt (b o : Nat) (k a t : Int) (x : Nat) (W : World) : Prop :=
  W.cell? ⟨b, o, none⟩ = some (.int .i64 k) ∧ W.cell? ⟨b, o + 1, none⟩ = some (.int .i64 a) ∧ W.cell? ⟨b, o + 2, none⟩ = some (.int .i64 t) ∧ W.cell? ⟨b, o + 3, none⟩ = some (.int .u64 (x : Int))
theorem GRd.at {w : World} {A : Option Addr} {l : List (Int × Int × Int × Nat)} (h : GRd w A l) {i : Nat} (hi : i < l.length) : ∃ b o, A = some ⟨b, o, none⟩ ∧ gn l i < 18446744073709551616 ∧ ∀ W, Ext w W → OpAt b (o + i * 4) (gk l i) (gw l i) (gt l i) (gn l i) W := by
  obtain ⟨b, o, e, h1, h2, h3, h4, h5⟩ := h i hi
  exact ⟨b, o, e, h5, fun W hW => ⟨hW.at h1, hW.at h2, hW.at h3, hW.at h4⟩⟩
theorem Good.step {s : Lgr} {m M : Nat} {k a t : Int} {x : Nat} (h : Good s m M) : Good (s.step m k a t x).2 m M := by
  unfold Lgr.step
  repeat' split
  all_goals first
    | exact h
    | (rename_i hin; first | exact h.hold hin.lt | exact h.back hin.lt | exact h.move hin.1.lt hin.2.lt)
    | exact h.turn
/-- The document's New of a list that may be. -/
theorem ref13_new_ok {l : List Nat} {A : Option Addr} {n c : Nat} (w : World) (hn : l.length = n) (hr : URd w A l) (h0 : newc l = 0) : Calls Try.prog 11 #[.slice A n c] w (fun e w' => Ext w w' ∧
    ∃ τ G, e = .returned (.tuple #[.pointer (some ⟨τ, 0, none⟩), .int .i64 0]) ∧ RG (Fresh w w') τ G w' n (Lgr.new l)) := by
  refine (ref13_new l A n c w hn hr).mono ?_
  rintro e w' ⟨hx, (⟨_, τ, G, h1, h2⟩ | ⟨h, _⟩)⟩
  · exact ⟨hx, τ, G, h1, by rw [hn] at h2; exact h2⟩
  · exact absurd h0 h
theorem ref13_new_no {l : List Nat} {A : Option Addr} {n c : Nat} (w : World) (hn : l.length = n) (hr : URd w A l) (h0 : newc l ≠ 0) : Calls Try.prog 11 #[.slice A n c] w (fun e w' => Ext w w' ∧
    e = .returned (.tuple #[.pointer none, .int .i64 ((newc l : Nat) : Int)])) := by
  refine (ref13_new l A n c w hn hr).mono ?_
  rintro e w' ⟨hx, (⟨h, _⟩ | ⟨_, h⟩)⟩
  · exact absurd h h0
  · exact ⟨hx, h⟩
end Go.Proofs.Ytoelkmmdnhnljaa

/-
  LedgerCopies over LedgerSaid. Conditions: none.
-/
namespace Go.Proofs.Ytoelkmmdnhnljaa
open Go.RowKit
open Pol (co)

/-- A ledger behind the first i operations. -/
def runs13 (s : Lgr) (m : Nat) (ops : List (Int × Int × Int × Nat)) : Nat → Lgr
  | 0 => s
  | i + 1 => ((runs13 s m ops i).step m (gk ops i) (gw ops i) (gt ops i) (gn ops i)).2
theorem runs13_next (s : Lgr) (m : Nat) (ops : List (Int × Int × Int × Nat)) (i : Nat) : runs13 s m ops (i + 1) = ((runs13 s m ops i).step m (gk ops i) (gw ops i) (gt ops i) (gn ops i)).2 := rfl
set_option maxHeartbeats 6400000 in
set_option maxRecDepth 100000 in
theorem copies13_walk {I : LgrP} (C : LedgerSaid I) (l : List Nat) (A : Option Addr) (n c : Nat) (ops : List (Int × Int × Int × Nat)) (B : Option Addr) (k d : Nat) (mor : List (Int × Int × Int × Nat)) (D : Option Addr) (q e : Nat) (w : World)
    (hn : l.length = n) (hr : URd w A l) (hk : ops.length = k) (ho : GRd w B ops) (hq : mor.length = q) (hd : GRd w D mor) :
    Calls Try.prog 8 #[.slice A n c, .slice B k d, .slice D q e] w (Holds w) := by
  have HC := Lib.hid C
  have HAW := Lib.hid (fun u => awake13 C u)
  have HR := Lib.hid hr
  have HN := Lib.hid hn
  have HK := Lib.hid hk
  have HO := Lib.hid ho
  have HKM := Lib.hid hq
  have HM := Lib.hid hd
  clear C hr hn hk ho hq hd
  by_cases h1 : 200 < k
  · have d1 : decide ((k : Int) > 200) = true := decide_eq_true (by omega)
    have d1' : decide (200 < (k : Int)) = true := decide_eq_true (by omega)
    go_enter Try.func8, Try.ntmps8
    go_wp2_with fail
    refine (HAW.out w).mono ?_
    rintro e w1 ⟨rfl, hx1⟩
    have HX1 := Lib.hid hx1
    clear hx1
    go_wp2_with fail
    refine (HAW.out w1).mono ?_
    rintro e w2 ⟨rfl, hx2⟩
    have HX2 := Lib.hid (HX1.out.trans hx2)
    clear hx2
    go_wp2
    go_ret
    exact ⟨rfl, HX2.out⟩
  · have d1 : decide ((k : Int) > 200) = false := decide_eq_false (by omega)
    have d1' : decide (200 < (k : Int)) = false := decide_eq_false (by omega)
    by_cases h2 : 200 < q
    · have d2 : decide ((q : Int) > 200) = true := decide_eq_true (by omega)
      have d2' : decide (200 < (q : Int)) = true := decide_eq_true (by omega)
      go_enter Try.func8, Try.ntmps8
      go_wp2_with fail
      refine (HAW.out w).mono ?_
      rintro e w1 ⟨rfl, hx1⟩
      have HX1 := Lib.hid hx1
      clear hx1
      go_wp2_with fail
      refine (HAW.out w1).mono ?_
      rintro e w2 ⟨rfl, hx2⟩
      have HX2 := Lib.hid (HX1.out.trans hx2)
      clear hx2
      go_wp2
      go_ret
      exact ⟨rfl, HX2.out⟩
    · have d2 : decide ((q : Int) > 200) = false := decide_eq_false (by omega)
      have d2' : decide (200 < (q : Int)) = false := decide_eq_false (by omega)
      by_cases h3 : 20 < n
      · have d3 : decide ((n : Int) > 20) = true := decide_eq_true (by omega)
        have d3' : decide (20 < (n : Int)) = true := decide_eq_true (by omega)
        go_enter Try.func8, Try.ntmps8
        go_wp2_with fail
        refine (HAW.out w).mono ?_
        rintro e w1 ⟨rfl, hx1⟩
        have HX1 := Lib.hid hx1
        clear hx1
        go_wp2_with fail
        refine (HAW.out w1).mono ?_
        rintro e w2 ⟨rfl, hx2⟩
        have HX2 := Lib.hid (HX1.out.trans hx2)
        clear hx2
        go_wp2
        go_ret
        exact ⟨rfl, HX2.out⟩
      · have d3 : decide ((n : Int) > 20) = false := decide_eq_false (by omega)
        have d3' : decide (20 < (n : Int)) = false := decide_eq_false (by omega)
        go_enter Try.func8, Try.ntmps8
        go_wp2_with fail
        refine (HAW.out w).mono ?_
        rintro e w1 ⟨rfl, hx1⟩
        have HX1 := Lib.hid hx1
        clear hx1
        go_wp2_with fail
        refine (lq_new HC.out w1 HN.out (HR.out.ext HX1.out)).mono ?_
        rintro e w2 ⟨hx2, (⟨h0, σ, X, rfl, hq2⟩ | ⟨h0, rfl⟩)⟩
        case inr =>
          have HX2 := Lib.hid (HX1.out.trans hx2)
          obtain ⟨cc, hcc⟩ : ∃ cc, newc l = cc := ⟨_, rfl⟩
          have HNO := Lib.hid (ref13_new_no (c := c) w2 HN.out (HR.out.ext HX2.out) h0)
          rw [hcc] at HNO h0 ⊢
          have d3 : ((cc : Int) == 0) = false := by simp; omega
          have d3' : ((cc : Int) != 0) = true := by simp; omega
          have d3'' : decide ((cc : Int) = 0) = false := decide_eq_false (by omega)
          have d3''' : decide (cc = 0) = false := decide_eq_false h0
          clear hx2 hcc
          go_wp2_with fail
          refine HNO.out.mono ?_
          rintro e w3 ⟨hx3, rfl⟩
          have HX3 := Lib.hid (HX2.out.trans hx3)
          clear hx3
          go_wp2
          go_ret
          exact ⟨rfl, HX3.out⟩
        case inl =>
          have HX2 := Lib.hid (HX1.out.trans hx2)
          have HNO := Lib.hid (ref13_new_ok (c := c) w2 HN.out (HR.out.ext HX2.out) h0)
          have HQ2 := Lib.hid hq2
          have HN0 := Lib.hid (show 0 < n by unfold newc at h0; rw [HN.out] at h0; split at h0; cases h0; omega)
          clear hx2 hq2 h0
          go_wp2_with fail
          refine HNO.out.mono ?_
          rintro e w3 ⟨hx3, τ, G, rfl, hg3⟩
          have HX3 := Lib.hid (HX2.out.trans hx3)
          have HQ3 := Lib.hid (HQ2.out.ext HC.out hx3)
          have HG3 := Lib.hid hg3
          have HD := Lib.hid (show ∀ b, X b → ¬ G.has τ b from fun b hb hG => by have h1 := (HQ2.out.own b hb).2; have h2 := (hg3.has hG).1; omega)
          have HBX := Lib.hid (show ∀ b, X b → w.heap.size ≤ b from fun b hb => by have h1 := (HQ2.out.own b hb).1; have h2 := HX1.out.size; omega)
          have HBG := Lib.hid (show ∀ b, G.has τ b → w.heap.size ≤ b from fun b hG => by have h1 := (hg3.has hG).1; have h2 := HX2.out.size; omega)
          have HGB := Lib.hid (show ∀ b, G.has τ b → b < w3.heap.size from fun b hG => (hg3.has hG).2)
          obtain ⟨Y, hY⟩ : ∃ Y, Fresh w2 w3 = Y := ⟨_, rfl⟩
          rw [hY] at HG3
          obtain ⟨bs, hbs⟩ : ∃ b, w1.heap.size = b := ⟨_, rfl⟩
          obtain ⟨M, hM⟩ : ∃ M, l.sum = M := ⟨_, rfl⟩
          rw [hbs, hM] at HQ3
          have HMM := Lib.hid (show M < 18446744073709551616 by have := HQ3.out.good.tot; omega)
          clear hx3 hg3 HQ2 HNO hY hbs hM
          go_wp2
          go_loopg [50] k (fun gi s50 wx => ∃ (i : Nat) (s : Lgr), i + gi = k ∧ s50 = .int .i64 (i : Int) ∧ Lq I X σ wx n s M bs ∧ RG Y τ G wx n s ∧ Ext w wx ∧ w3.heap.size ≤ wx.heap.size)
          case atStart => exact ⟨0, _, by omega, rfl, HQ3.out, HG3.out, HX3.out, Nat.le_refl _⟩
          case round =>
            obtain ⟨wa, hwo⟩ : ∃ wo, wo = wr := ⟨_, rfl⟩
            subst hwo
            obtain ⟨gg, hgg⟩ : ∃ g, g = gk := ⟨_, rfl⟩
            subst hgg
            obtain ⟨i, s, hig, rfl, hq, hg, hxr, hsz⟩ := hrel
            have HQ := Lib.hid hq
            have HG := Lib.hid hg
            have HX := Lib.hid hxr
            have HSZ := Lib.hid hsz
            clear hq hg hxr hsz
            cases gg with
            | succ gg =>
              have hi : i < k := by omega
              have hiI : (i : Int) < (k : Int) := by omega
              obtain ⟨b0, o, rfl, hxs, hop⟩ := HO.out.at (i := i) (by rw [HK.out]; exact hi)
              have HRN := Lib.hid (fun s => runs13_next s n ops i)
              obtain ⟨kk, hkk⟩ : ∃ z, Go.Proofs.Ytoelkmmdnhnljaa.gk ops i = z := ⟨_, rfl⟩
              obtain ⟨aa, haa⟩ : ∃ z, gw ops i = z := ⟨_, rfl⟩
              obtain ⟨tt, htt⟩ : ∃ z, gt ops i = z := ⟨_, rfl⟩
              obtain ⟨xx, hxx⟩ : ∃ z, gn ops i = z := ⟨_, rfl⟩
              rw [hkk, haa, htt, hxx] at hop HRN
              rw [hxx] at hxs
              have HOP := Lib.hid hop
              clear hop hkk haa htt hxx
              obtain ⟨p0, p1, p2, p3⟩ := HOP.out _ HX.out
              go_wp2_with fail
              refine (law13_do HC.out kk aa tt wa HQ.out hxs).mono ?_
              rintro e w4 ⟨rfl, ho4, hq4⟩
              have HX4 := Lib.hid (ho4.ext HX.out HBX.out)
              have HQ4 := Lib.hid hq4
              have HG4 := Lib.hid (HG.out.only ho4 HD.out)
              have HS4 := Lib.hid ho4.size
              clear ho4 hq4 p0 p1 p2 p3
              obtain ⟨p0, p1, p2, p3⟩ := HOP.out _ HX4.out
              go_wp2_with fail
              refine (law13_doc kk aa tt w4 HG4.out HQ.out.good.ok HMM.out hxs).mono ?_
              rintro e w5 ⟨rfl, ho5, hg5⟩
              have HX5 := Lib.hid (ho5.ext HX4.out HBG.out)
              have HG5 := Lib.hid hg5
              have HQ5 := Lib.hid (HQ4.out.only HC.out ho5 HD.out)
              have HS5 := Lib.hid (Nat.le_trans HSZ.out (Nat.le_trans HS4.out ho5.size))
              clear ho5 hg5 p0 p1 p2 p3
              go_wp2
              go_roundg gg
              case measure => omega
              case rel => exact ⟨i + 1, _, by omega, by go_num, HQ5.out, HG5.out, HX5.out, HS5.out⟩
            | zero =>
              have hik : i = k := by omega
              have d4 : decide ((i : Int) < (k : Int)) = false := decide_eq_false (by omega)
              have d4' : decide (i < k) = false := decide_eq_false (by omega)
              have d4n : ¬ (i < k) := by omega
              clear hik hig
              go_wp2_with fail
              refine (lq_copy HC.out wa HQ.out HN0.out).mono ?_
              rintro e wb ⟨hxb, κ, Z, rfl, hqz⟩
              have HXB := Lib.hid (HX.out.trans hxb)
              have HQX := Lib.hid (HQ.out.ext HC.out hxb)
              have HGX := Lib.hid (HG.out.ext hxb)
              have HQZ := Lib.hid hqz
              have HZX := Lib.hid (show ∀ b, Z b → ¬ X b from fun b hb hX => by have h1 := (hqz.own b hb).1; have h2 := (HQ.out.own b hX).2; omega)
              have HZG := Lib.hid (show ∀ b, Z b → ¬ G.has τ b from fun b hb hG => by have h1 := (hqz.own b hb).1; have h2 := HGB.out b hG; have h3 := HSZ.out; omega)
              have HBZ := Lib.hid (show ∀ b, Z b → w.heap.size ≤ b from fun b hb => by have h1 := (hqz.own b hb).1; have h2 := HX.out.size; omega)
              obtain ⟨bz, hbz⟩ : ∃ b, wa.heap.size = b := ⟨_, rfl⟩
              rw [hbz] at HQZ
              clear hxb hqz hbz HQ HG HSZ HGB
              go_wp2
              go_loopg [72] q (fun gi s72 wx => ∃ (i : Nat), i + gi = q ∧ s72 = .int .i64 (i : Int) ∧ Lq I X σ wx n (runs13 s n mor i) M bs ∧ Lq I Z κ wx n s M bz ∧ RG Y τ G wx n s ∧ Ext w wx)
              case atStart => exact ⟨0, by omega, rfl, HQX.out, HQZ.out, HGX.out, HXB.out⟩
              case round =>
                obtain ⟨wc, hwo⟩ : ∃ wo, wo = wr := ⟨_, rfl⟩
                subst hwo
                obtain ⟨gg, hgg⟩ : ∃ g, g = gk := ⟨_, rfl⟩
                subst hgg
                obtain ⟨i2, hig, rfl, hq, hz, hg, hxr⟩ := hrel
                have HQ := Lib.hid hq
                have HZ := Lib.hid hz
                have HG := Lib.hid hg
                have HX2c := Lib.hid hxr
                clear hq hz hg hxr
                cases gg with
                | succ gg =>
                  have hi : i2 < q := by omega
                  have hiI : (i2 : Int) < (q : Int) := by omega
                  obtain ⟨b0, o, rfl, hxs, hop⟩ := HM.out.at (i := i2) (by rw [HKM.out]; exact hi)
                  have HRN := Lib.hid (fun s => runs13_next s n mor i2)
                  obtain ⟨kk, hkk⟩ : ∃ z, Go.Proofs.Ytoelkmmdnhnljaa.gk mor i2 = z := ⟨_, rfl⟩
                  obtain ⟨aa, haa⟩ : ∃ z, gw mor i2 = z := ⟨_, rfl⟩
                  obtain ⟨tt, htt⟩ : ∃ z, gt mor i2 = z := ⟨_, rfl⟩
                  obtain ⟨xx, hxx⟩ : ∃ z, gn mor i2 = z := ⟨_, rfl⟩
                  rw [hkk, haa, htt, hxx] at hop HRN
                  rw [hxx] at hxs
                  have HOP := Lib.hid hop
                  clear hop hkk haa htt hxx
                  obtain ⟨p0, p1, p2, p3⟩ := HOP.out _ HX2c.out
                  go_wp2_with fail
                  refine (law13_do HC.out kk aa tt wc HQ.out hxs).mono ?_
                  rintro e w4 ⟨rfl, ho4, hq4⟩
                  have HX4 := Lib.hid (ho4.ext HX2c.out HBX.out)
                  have HQ4 := Lib.hid (show Lq I X σ w4 n (runs13 s n mor (i2 + 1)) M bs from by rw [HRN.out]; exact hq4)
                  have HG4 := Lib.hid (HG.out.only ho4 HD.out)
                  have HZ4 := Lib.hid (HZ.out.only HC.out ho4 HZX.out)
                  clear ho4 hq4 p0 p1 p2 p3
                  go_wp2
                  go_roundg gg
                  case measure => omega
                  case rel => exact ⟨i2 + 1, by omega, by go_num, HQ4.out, HZ4.out, HG4.out, HX4.out⟩
                | zero =>
                  have hiq : i2 = q := by omega
                  have d5 : decide ((i2 : Int) < (q : Int)) = false := decide_eq_false (by omega)
                  have d5' : decide (i2 < q) = false := decide_eq_false (by omega)
                  have d5n : ¬ (i2 < q) := by omega
                  rw [hiq] at HQ
                  clear hig
                  go_wp2_with fail
                  refine (law13_same HC.out wc HZ.out HG.out).mono ?_
                  rintro e w4 ⟨rfl, hx4⟩
                  have HX4 := Lib.hid (HX2c.out.trans hx4)
                  have HQ4 := Lib.hid (HQ.out.ext HC.out hx4)
                  have HZ4 := Lib.hid (HZ.out.ext HC.out hx4)
                  have HG4 := Lib.hid (HG.out.ext hx4)
                  clear hx4 HQ HZ HG
                  go_wp2
                  go_loopg [88] q (fun gi s88 wx => ∃ (i : Nat), i + gi = q ∧ s88 = .int .i64 (i : Int) ∧ Lq I X σ wx n (runs13 s n mor q) M bs ∧ Lq I Z κ wx n (runs13 s n mor i) M bz ∧ RG Y τ G wx n (runs13 s n mor i) ∧ Ext w wx)
                  case atStart => exact ⟨0, by omega, rfl, HQ4.out, HZ4.out, HG4.out, HX4.out⟩
                  case round =>
                    obtain ⟨wd, hwo⟩ : ∃ wo, wo = wr := ⟨_, rfl⟩
                    subst hwo
                    obtain ⟨gg, hgg⟩ : ∃ g, g = gk := ⟨_, rfl⟩
                    subst hgg
                    obtain ⟨i3, hig, rfl, hq, hz, hg, hxr⟩ := hrel
                    have HQ := Lib.hid hq
                    have HZ := Lib.hid hz
                    have HG := Lib.hid hg
                    have HXd := Lib.hid hxr
                    clear hq hz hg hxr
                    cases gg with
                    | succ gg =>
                      have hi : i3 < q := by omega
                      have hiI : (i3 : Int) < (q : Int) := by omega
                      obtain ⟨b0, o, rfl, hxs, hop⟩ := HM.out.at (i := i3) (by rw [HKM.out]; exact hi)
                      have HRN := Lib.hid (fun s => runs13_next s n mor i3)
                      obtain ⟨kk, hkk⟩ : ∃ z, Go.Proofs.Ytoelkmmdnhnljaa.gk mor i3 = z := ⟨_, rfl⟩
                      obtain ⟨aa, haa⟩ : ∃ z, gw mor i3 = z := ⟨_, rfl⟩
                      obtain ⟨tt, htt⟩ : ∃ z, gt mor i3 = z := ⟨_, rfl⟩
                      obtain ⟨xx, hxx⟩ : ∃ z, gn mor i3 = z := ⟨_, rfl⟩
                      rw [hkk, haa, htt, hxx] at hop HRN
                      rw [hxx] at hxs
                      have HOP := Lib.hid hop
                      clear hop hkk haa htt hxx
                      have HXZ := Lib.hid (show ∀ b, X b → ¬ Z b from fun b hb hZ => HZX.out b hZ hb)
                      obtain ⟨p0, p1, p2, p3⟩ := HOP.out _ HXd.out
                      go_wp2_with fail
                      refine (law13_do HC.out kk aa tt wd HZ.out hxs).mono ?_
                      rintro e w5 ⟨rfl, ho5, hq5⟩
                      have HX5 := Lib.hid (ho5.ext HXd.out HBZ.out)
                      have HZ5 := Lib.hid hq5
                      have HG5 := Lib.hid (HG.out.only ho5 HZG.out)
                      have HQ5 := Lib.hid (HQ.out.only HC.out ho5 HXZ.out)
                      clear ho5 hq5 p0 p1 p2 p3
                      obtain ⟨p0, p1, p2, p3⟩ := HOP.out _ HX5.out
                      go_wp2_with fail
                      refine (law13_doc kk aa tt w5 HG5.out HZ.out.good.ok HMM.out hxs).mono ?_
                      rintro e w6 ⟨rfl, ho6, hg6⟩
                      have HX6 := Lib.hid (ho6.ext HX5.out HBG.out)
                      have HG6 := Lib.hid (show RG Y τ G w6 n (runs13 s n mor (i3 + 1)) from by rw [HRN.out]; exact hg6)
                      have HZ6 := Lib.hid (show Lq I Z κ w6 n (runs13 s n mor (i3 + 1)) M bz from by rw [HRN.out]; exact HZ5.out.only HC.out ho6 HZG.out)
                      have HQ6 := Lib.hid (HQ5.out.only HC.out ho6 HD.out)
                      clear ho6 hg6 p0 p1 p2 p3
                      go_wp2
                      go_roundg gg
                      case measure => omega
                      case rel => exact ⟨i3 + 1, by omega, by go_num, HQ6.out, HZ6.out, HG6.out, HX6.out⟩
                    | zero =>
                      have hiq3 : i3 = q := by omega
                      have d6 : decide ((i3 : Int) < (q : Int)) = false := decide_eq_false (by omega)
                      have d6' : decide (i3 < q) = false := decide_eq_false (by omega)
                      have d6n : ¬ (i3 < q) := by omega
                      rw [hiq3] at HZ HG
                      clear hig
                      go_wp2_with fail
                      refine (law13_same HC.out wd HQ.out HG.out).mono ?_
                      rintro e w5 ⟨rfl, hx5⟩
                      have HX5 := Lib.hid (HXd.out.trans hx5)
                      have HZ5 := Lib.hid (HZ.out.ext HC.out hx5)
                      have HG5 := Lib.hid (HG.out.ext hx5)
                      clear hx5
                      go_wp2_with fail
                      refine (law13_same HC.out w5 HZ5.out HG5.out).mono ?_
                      rintro e w6 ⟨rfl, hx6⟩
                      have HX6 := Lib.hid (HX5.out.trans hx6)
                      clear hx6
                      go_wp2_with fail
                      refine (HC.out.ncopy w6).mono ?_
                      rintro e w7 ⟨rfl, hxn⟩
                      have HX7 := Lib.hid (HX6.out.trans hxn)
                      clear hxn
                      go_wp2_with fail
                      refine (HC.out.nhold 0 1 w7).mono ?_
                      rintro e w8 ⟨rfl, hxn⟩
                      have HX8 := Lib.hid (HX7.out.trans hxn)
                      clear hxn
                      go_wp2_with fail
                      refine (HC.out.nmove 0 0 0 w8).mono ?_
                      rintro e w9 ⟨rfl, hxn⟩
                      have HX9 := Lib.hid (HX8.out.trans hxn)
                      clear hxn
                      go_wp2_with fail
                      refine (HC.out.nturn 0 0 w9).mono ?_
                      rintro e w10 ⟨rfl, hxn⟩
                      have HX10 := Lib.hid (HX9.out.trans hxn)
                      clear hxn
                      go_wp2_with fail
                      refine (HC.out.ntotal w10).mono ?_
                      rintro e w11 ⟨rfl, hxn⟩
                      have HX11 := Lib.hid (HX10.out.trans hxn)
                      clear hxn
                      go_wp2_with fail
                      refine (HC.out.nbalance 0 w11).mono ?_
                      rintro e w12 ⟨rfl, hxn⟩
                      have HX12 := Lib.hid (HX11.out.trans hxn)
                      clear hxn
                      go_wp2_with fail
                      refine (HC.out.nfees w12).mono ?_
                      rintro e w13 ⟨rfl, hxn⟩
                      have HX13 := Lib.hid (HX12.out.trans hxn)
                      clear hxn
                      go_wp2
                      go_ret
                      exact ⟨rfl, HX13.out⟩
end Go.Proofs.Ytoelkmmdnhnljaa

/-
  A map by account of two numbers each, as a call has it in memory: looked up, stored into, made, cloned, ranged over. Conditions: no more accounts than 2^20.
-/
namespace Go.Proofs.Ytoelkmmdnhnljaa
open Go.RowKit
open Pol (co)
open Go.Maps (Keyed)

abbrev KI : Keyed Try.prog 3 := Maps.int_keyed Try.underlying3
/-- What an element reads as. -/
def amt (f d : Int) : DataW Unit := .agg [.lit (.int .u64 f), .lit (.int .u64 d)]
def RA : Value → Option (DataW Unit × List MemPlace)
  | .agg cs => match cs.toList with
    | [.int .u64 f, .int .u64 d] => some (amt f d, [])
    | _ => none
  | _ => none
theorem RA_mk (f d : Int) : RA (.agg #[.int .u64 f, .int .u64 d]) = some (amt f d, []) := rfl
theorem RA_inv {v : Value} {y : DataW Unit × List MemPlace} (h : RA v = some y) : ∃ f d, v = .agg #[.int .u64 f, .int .u64 d] ∧ y = (amt f d, []) := by
  unfold RA at h
  split at h
  · rename_i cs
    split at h
    · rename_i f d hc
      injection h with h
      refine ⟨f, d, ?_, h.symm⟩
      congr 1
      exact Array.ext' hc
    · cases h
  · cases h
theorem amt_inj {a b c d : Int} (h : amt a b = amt c d) : a = c ∧ b = d := by
  unfold amt at h
  simp at h
  exact h
/-- The key of an account. -/
def ak (i : Nat) : Lit := .int .i64 (i : Int)
theorem ak_ne {i j : Nat} (h : i ≠ j) : ak i ≠ ak j := fun e => h (by unfold ak at e; injection e with _ e; omega)
theorem ak_key (i : Nat) : WideAt.IsKeyLit (ak i) := trivial
theorem ak_of {i : Nat} (h : i < 1048576) : keyOf Try.prog 3 (.int .i64 (i : Int)) = some (ak i) := Maps.keyOf_int_mk Try.underlying3 (by simp [Lit.wf, IntKind.min, IntKind.max, IntKind.signed, IntKind.bits]; omega)
/-- Block b is a map that has, of each of m accounts, the fees f and the deposits d. -/
def Hm (w : World) (b m : Nat) (f d : List Nat) : Prop :=
  ∃ D : DataW Unit, w.ownsMap Try.prog 3 RA b m D ∧ (∀ kl, Maps.has D kl = true → ∃ i : Nat, i < m ∧ kl = ak i) ∧ ∀ i, i < m → D.atKey (ak i) (amt 0 0) = amt ((co f i : Nat) : Int) ((co d i : Nat) : Int)
theorem nodup_le13 : ∀ (m : Nat) (l : List Nat), l.Nodup → (∀ x ∈ l, x < m) → l.length ≤ m
  | 0, l, _, h => by
    cases l with
    | nil => exact Nat.le_refl _
    | cons x l => exact absurd (h x (by simp)) (by omega)
  | m + 1, l, hn, h => by
    have h1 := nodup_le13 m (l.erase m) (hn.erase m) (fun x hx => by
      rw [hn.mem_erase_iff] at hx
      have := h x hx.2
      omega)
    rw [List.length_erase] at h1
    split at h1 <;> omega
theorem owns_tight {w : World} {b n : Nat} {D : DataW Unit} {k : TypeId} {P : Program} (h : w.ownsMap P k RA b n D) : w.ownsMap P k RA b (Maps.size D) D := by
  obtain ⟨es, clock, hb, F, _, rfl⟩ := h
  exact ⟨es, clock, hb, F, by simp [Maps.size, length_sorted], rfl⟩
theorem owns_le {w : World} {b n m : Nat} {D : DataW Unit} (h : w.ownsMap Try.prog 3 RA b n D) (hk : ∀ kl, Maps.has D kl = true → ∃ i : Nat, i < m ∧ kl = ak i) : w.ownsMap Try.prog 3 RA b m D := by
  refine (owns_tight h).mono ?_
  obtain ⟨es, rfl, hp, hl⟩ := World.ownsMap.entries h KI
  show es.length ≤ m
  have hin : ∀ p ∈ es, ∃ i : Nat, i < m ∧ p.1 = ak i := fun p hp' => hk p.1 (List.any_eq_true.2 ⟨p, hp', WideAt.sameKey_self (hl p hp')⟩)
  have h1 : ∀ l : List (Lit × DataW Unit), l.Pairwise (fun p q => p.1 ≠ q.1) → (∀ p ∈ l, ∃ i : Nat, i < m ∧ p.1 = ak i) → ∃ l' : List Nat, l'.length = l.length ∧ l'.Nodup ∧ (∀ x ∈ l', x < m) ∧ ∀ x ∈ l', ∃ p ∈ l, p.1 = ak x := fun l => by
    induction l with
    | nil => intro _ _; exact ⟨[], rfl, List.nodup_nil, by simp, by simp⟩
    | cons p l ih =>
      intro hp hin
      obtain ⟨hp1, hp2⟩ := List.pairwise_cons.1 hp
      obtain ⟨l', e1, e2, e3, e4⟩ := ih hp2 (fun q hq => hin q (List.mem_cons.2 (.inr hq)))
      obtain ⟨i, hi, he⟩ := hin p (List.mem_cons.2 (.inl rfl))
      refine ⟨i :: l', by simp [e1], List.nodup_cons.2 ⟨fun hm => ?_, e2⟩, fun x hx => ?_, fun x hx => ?_⟩
      · obtain ⟨q, hq, hq2⟩ := e4 i hm
        exact hp1 q hq (by rw [he, hq2])
      · rcases List.mem_cons.1 hx with e | e
        · rw [e]; exact hi
        · exact e3 x e
      · rcases List.mem_cons.1 hx with e | e
        · exact ⟨p, List.mem_cons.2 (.inl rfl), by rw [e]; exact he⟩
        · obtain ⟨q, hq, hq2⟩ := e4 x e
          exact ⟨q, List.mem_cons.2 (.inr hq), hq2⟩
  obtain ⟨l', e1, e2, e3, _⟩ := h1 es hp hin
  rw [← e1]
  exact nodup_le13 m l' e2 e3
theorem Hm.lt {w : World} {b m : Nat} {f d : List Nat} (h : Hm w b m f d) : b < w.heap.size := by
  obtain ⟨D, h1, _⟩ := h
  exact h1.lt
theorem Hm.stay {w w' : World} {b m : Nat} {f d : List Nat} (h : Hm w b m f d) (hk : w'.heap[b]? = w.heap[b]?) : Hm w' b m f d := by
  obtain ⟨D, ⟨es, clock, hb, F, hs, hD⟩, h2⟩ := h
  exact ⟨D, ⟨es, clock, hk.trans hb, F, hs, hD⟩, h2⟩
theorem amts_zero (w : World) : (zeroValue 63).run Try.prog w = .ok (.agg #[.int .u64 0, .int .u64 0]) w := rfl
/-- A look-up. -/
theorem Hm.look {w : World} {b m i : Nat} {f d : List Nat} (h : Hm w b m f d) (hi : i < m) (hm : m ≤ 1048576) :
    (Instr.lookup 50 (.map (some b)) (.int .i64 (i : Int)) false).run Try.prog w = .ok (.agg #[.int .u64 ((co f i : Nat) : Int), .int .u64 ((co d i : Nat) : Int)]) w := by
  obtain ⟨D, ho, _, hat⟩ := h
  obtain ⟨v, ps, hrun, hv⟩ := ho.lookup KI Try.underlying50 (amts_zero w) (RA_mk 0 0) (ak_of (i := i) (by omega))
  obtain ⟨a, c, rfl, hy⟩ := RA_inv hv
  rw [hat i hi] at hy
  obtain ⟨e1, e2⟩ := amt_inj (congrArg Prod.fst hy)
  rw [hrun, e1, e2]
/-- A store. -/
theorem Hm.store {w : World} {b m i x y : Nat} {f d : List Nat} (h : Hm w b m f d) (hi : i < m) (hm : m ≤ 1048576) (hf : f.length = m) (hd : d.length = m) :
    ∃ w', (Instr.mapUpdate 50 (.map (some b)) (.int .i64 (i : Int)) (.agg #[.int .u64 (x : Int), .int .u64 (y : Int)])).run Try.prog w = .ok () w' ∧ Hm w' b m (f.set i x) (d.set i y) ∧ w.grownBy w' (some b) ∧ w'.heap.size = w.heap.size := by
  obtain ⟨D, ho, hhas, hat⟩ := h
  obtain ⟨w', hrun, ho', ht⟩ := ho.store KI Try.underlying50 (by unfold maxLen; omega) (ak_of (i := i) (by omega)) (RA_mk (x : Int) (y : Int))
  have hM := ho.isMap
  have hhas' : ∀ kl, Maps.has (D.put (ak i) (amt (x : Int) (y : Int))) kl = true → ∃ j : Nat, j < m ∧ kl = ak j := fun kl hkl => by
    by_cases e : kl = ak i
    · exact ⟨i, hi, e⟩
    · rw [Maps.has_put_other e] at hkl
      exact hhas kl hkl
  refine ⟨w', hrun, ⟨_, owns_le ho' hhas', hhas', fun j hj => ?_⟩, ht.grown, ?_⟩
  · by_cases e : j = i
    · subst e
      rw [Maps.atKey_put_same hM (ak_key j), co_set13, co_set13, if_pos ⟨rfl, by omega⟩, if_pos ⟨rfl, by omega⟩]
    · rw [Maps.atKey_put_other (ak_ne e), hat j hj, co_set13, co_set13, if_neg (fun h => e h.1.symm), if_neg (fun h => e h.1.symm)]
  · obtain ⟨es, clock, es', clock', _, rfl⟩ := ht
    simp [Go.ChangeMaps.setBlock]
theorem Hm.made (w : World) (m : Nat) : Hm (w.alloc (.map #[] 0)) w.heap.size m (List.replicate m 0) (List.replicate m 0) := by
  refine ⟨.map [], (World.ownsMap_made w _ _ _).mono (Nat.zero_le _), fun kl h => by simp [Maps.has] at h, fun i _ => ?_⟩
  have e : co (List.replicate m 0) i = 0 := by
    unfold co
    rw [List.getElem?_replicate]
    split <;> rfl
  rw [e]
  rfl
/-- A clone. -/
theorem Hm.clone {w : World} {b m : Nat} {f d : List Nat} (h : Hm w b m f d) : ∃ es clock, w.heap[b]? = some (.map es clock) ∧ ∀ w' b', w'.heap[b']? = some (.map es clock) → Hm w' b' m f d := by
  obtain ⟨D, ⟨es, clock, hb, F, hs, hD⟩, h2⟩ := h
  exact ⟨es, clock, hb, fun w' b' hb' => ⟨D, ⟨es, clock, hb', F, hs, hD⟩, h2⟩⟩
end Go.Proofs.Ytoelkmmdnhnljaa
