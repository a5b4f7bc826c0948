/-
  What addMultiple of layer 2 does: a polynomial, times an element, added to a sum that lies somewhere in a block. Conditions: a field that New made, no more than 2^17 coefficients; the sum lies apart from the field and the polynomial.
-/
import Derived.Test.YtagdialceelggaaPTrim
import Derived.Test.YtagdialceelggaaFMul
import Derived.Test.YtagdialceelggaaQTail
namespace Go.Proofs.Ytagdialceelggaa
open Go.RowKit
open Pol (co Sm trim)

/-- The first n cells of block g are the bytes F, and may be written. -/
def Cells (w : World) (g n : Nat) (F : Nat → Nat) : Prop := ∀ i, i < n → w.cell? ⟨g, i, none⟩ = some (.int .u8 ((F i : Nat) : Int)) ∧ w.frozen? ⟨g, i, none⟩ = false
theorem Blk.cells {w : World} {g n : Nat} {F : Nat → Nat} (h : Blk w g n F) : Cells w g n F := fun i hi => ⟨h.cell i hi, h.frozen i⟩
theorem Cells.drewN {w : World} {g n : Nat} {F : Nat → Nat} (h : Cells w g n F) (k : Nat) : Cells (w.drewN k) g n F := h
theorem Cells.congr {w : World} {g n : Nat} {F F' : Nat → Nat} (h : Cells w g n F) (hf : ∀ i, i < n → F i = F' i) : Cells w g n F' := fun i hi => ⟨by rw [(h i hi).1, hf i hi], (h i hi).2⟩
theorem Cells.store {w : World} {g n : Nat} {F : Nat → Nat} (h : Cells w g n F) (k v : Nat) : Cells (w.setCell ⟨g, k, none⟩ (.int .u8 (v : Int))) g n (upd F k v) := fun i hi => by
  refine ⟨?_, by rw [World.frozen?_setCell]; exact (h i hi).2⟩
  unfold upd
  by_cases e : i = k
  · subst e
    rw [if_pos rfl]
    exact World.cell?_setCell_same' _ _ _ (by rw [(h i hi).1]; rfl)
  · rw [if_neg e, World.cell?_setCell_other _ _ _ _ (fun h => e (by cases h; rfl))]
    exact (h i hi).1
theorem Cells.keep {w w' : World} {g n : Nat} {F : Nat → Nat} {row : Option Nat} (h : Cells w g n F) (hg : w.grownBy w' row) (hne : some g ≠ row) : Cells w' g n F := fun i hi =>
  ⟨hg.cell (h i hi).1 hne, (World.frozen?_of_block (a := ⟨g, i, none⟩) (hg.block g (block_lt_of_cell (h i hi).1) hne)).trans (h i hi).2⟩
theorem Cells.ext {w w' : World} {g n : Nat} {F : Nat → Nat} (h : Cells w g n F) (hx : Ext w w') : Cells w' g n F := fun i hi =>
  ⟨(hx.below.cell (p := ⟨g, i, none⟩) (block_lt_of_cell (h i hi).1)).trans (h i hi).1, (hx.below.frozen (p := ⟨g, i, none⟩) (block_lt_of_cell (h i hi).1)).trans (h i hi).2⟩
theorem Cells.reads {w : World} {g n : Nat} {F : Nat → Nat} (h : Cells w g n F) (hs : ∀ i, i < n → F i < 256) : Rd w (some ⟨g, 0, none⟩) (tab n F) :=
  ⟨tab_sm n F hs, fun i hi => ⟨g, 0, rfl, by
    rw [tab_len] at hi
    rw [Nat.zero_add, (h i hi).1, co_tab, if_pos hi]⟩⟩
theorem Rd.keep {w w' : World} {A : Option Addr} {l : List Nat} {row : Option Nat} (h : Rd w A l) (hg : w.grownBy w' row) (hne : ∀ b o, A = some ⟨b, o, none⟩ → 0 < l.length → some b ≠ row) : Rd w' A l :=
  ⟨h.1, fun i hi => by
    obtain ⟨b, o, e, hc⟩ := h.2 i hi
    exact ⟨b, o, e, hg.cell hc (hne b o e (by omega))⟩⟩
theorem IsField.keep {w w' : World} {b : Nat} {row : Option Nat} (h : IsField w b) (hg : w.grownBy w' row) (hne : some b ≠ row) : IsField w' b :=
  ⟨fun i hi => hg.cell (h.1 i hi) hne, fun x hx => hg.cell (h.2 x hx) hne⟩
theorem grown_set (w : World) (g o : Nat) (v : Value) : w.grownBy (w.setCell ⟨g, o, none⟩ v) (some g) :=
  ⟨rfl, rfl, rfl, by simp [World.setCell], fun k _ hk => Below.heap_setCell _ _ _ k (fun e => hk (by rw [e]))⟩
theorem grown_drewN (w : World) (n : Nat) (row : Option Nat) : w.grownBy (w.drewN n) row := ⟨rfl, rfl, rfl, Nat.le_refl _, fun _ _ _ => rfl⟩
theorem Ext.grown {w w' : World} (h : Ext w w') (row : Option Nat) : w.grownBy w' row := ⟨h.below.os, h.below.tape, h.below.output, h.below.size, fun k hk _ => h.below.block k hk⟩

/-- s[l:] of bytes, where the capacity goes on. -/
theorem run_from_u8 (g o len cap l : Nat) (h : l ≤ len) (hc : l < cap) (W : World) :
    (Instr.slice 22 (.slice (some ⟨g, o, none⟩) len cap) (some (.int .i64 (l : Int))) none none).run Try.prog W = .ok (.slice (some ⟨g, o + l, none⟩) (len - l) (cap - l)) W := by
  obtain ⟨i0, hi, hz0, hz1, hz2⟩ := info_parts u8_info
  have he : Try.prog.elem 22 = 5 := by kernel_rfl
  rw [run_slice_l W 22 _ len cap (by rw [he]; exact Try.underlying22) .i64 (l : Int) (by omega) (by omega), he]
  simp [sizeOf, typeInfo, hi, hz1, Result.andThen, sliced, addr_add]
  omega

/-- From place o on the polynomial, times t, is added, k places of it. -/
def addm (o t : Nat) (a : List Nat) (F : Nat → Nat) (k i : Nat) : Nat := if o ≤ i ∧ i < o + k then F i ^^^ Gf.mul t (co a (i - o)) else F i
theorem addm_lt {o t : Nat} {a : List Nat} {F : Nat → Nat} {n : Nat} (h : ∀ i, i < n → F i < 256) (k i : Nat) (hi : i < n) : addm o t a F k i < 256 := by
  unfold addm
  split
  · exact Gf.xor_lt _ _ (h i hi) (Gf.mul_lt _ _)
  · exact h i hi
theorem addm_zero (o t : Nat) (a : List Nat) (F : Nat → Nat) (i : Nat) : F i = addm o t a F 0 i := by
  unfold addm; rw [if_neg (by omega)]
theorem addm_step (o t : Nat) (a : List Nat) (F : Nat → Nat) (k i : Nat) : upd (addm o t a F k) (o + k) (addm o t a F k (o + k) ^^^ Gf.mul t (co a k)) i = addm o t a F (k + 1) i := by
  unfold upd
  by_cases h : i = o + k
  · subst h
    rw [if_pos rfl]
    unfold addm
    rw [if_neg (by omega), if_pos (by omega), Nat.add_sub_cancel_left]
  · rw [if_neg h]
    unfold addm
    by_cases h' : o ≤ i ∧ i < o + k
    · rw [if_pos h', if_pos (by omega)]
    · rw [if_neg h', if_neg (by omega)]

/-- Nothing is handed back; block g's first n cells are F' now, all else is as it was. -/
def Turns (g n : Nat) (F' : Nat → Nat) (w : World) (e : Ending) (w' : World) : Prop := (∃ v, e = .returned v) ∧ Cells w' g n F' ∧ w.grownBy w' (some g)

set_option maxHeartbeats 800000 in
set_option maxRecDepth 100000 in
theorem paddm (f : Nat) (a : List Nat) (A : Option Addr) (g o n ls cs ca t : Nat) (F : Nat → Nat) (w : World) (hf : IsField w f) (ha : Rd w A a) (ht : t < 256) (hc : Cells w g n F) (hF : ∀ i, i < n → F i < 256)
    (hfg : f ≠ g) (hag : ∀ b o, A = some ⟨b, o, none⟩ → 0 < a.length → b ≠ g) (hls : a.length ≤ ls) (hon : o + a.length ≤ n) (hlsb : ls ≤ 1048576) :
    Calls Try.prog 34 #[.pointer (some ⟨f, 0, none⟩), .slice (some ⟨g, o, none⟩) ls cs, .slice A a.length ca, .int .u8 (t : Int)] w (Turns g n (addm o t a F a.length) w) := by
  generalize hm : a.length = m at *
  have HF := Lib.hid hf
  have HA := Lib.hid ha
  have HC := Lib.hid hc
  have HFF := Lib.hid hF
  have HM := Lib.hid hm
  have HAG := Lib.hid hag
  have HFG := Lib.hid hfg
  clear hf ha hc hF hm hag hfg
  go_enter Try.func34, Try.ntmps34
  go_wp2
  go_loopg [11] m (fun gk s wx => ∃ k : Nat, k + gk = m ∧ s = .int .i64 (k : Int) ∧ Cells wx g n (addm o t a F k) ∧ w.grownBy wx (some g))
  case atStart => exact ⟨0, by omega, rfl, HC.out.congr (fun i _ => addm_zero o t a F i), World.grownBy.refl _ _⟩
  case round =>
    obtain ⟨k, hkg, rfl, hcl, hg⟩ := hrel
    have HL := Lib.hid hcl
    have HG := Lib.hid hg
    clear hcl hg
    cases gk with
    | zero =>
      obtain rfl : m = k := by omega
      clear hkg
      go_wp2
      go_end0
      exact ⟨⟨_, rfl⟩, HL.out, HG.out⟩
    | succ gk =>
      have hk : k < m := by omega
      have hkI : (k : Int) < (m : Int) := by omega
      have hkL : (k : Int) < (ls : Int) := by omega
      have hr := HA.out.keep HG.out (fun b o' e h => fun h' => HAG.out b o' e (by have := HM.out; omega) (by cases h'; rfl))
      obtain ⟨b1, o1, e1, hc1⟩ := hr.2 k (by rw [HM.out]; exact hk)
      subst e1
      have hc2 := (HL.out (o + k) (by omega)).1
      have hfz := (HL.out (o + k) (by omega)).2
      have hfield := HF.out.keep HG.out (fun h => HFG.out (by cases h; rfl))
      have hmul := fun q => mul_any f t (co a k) (wr.drewN q) (hfield.drewN q) ht (HA.out.1 k)
      have hadd := fun q => add_is (addm o t a F k (o + k)) (Gf.mul t (co a k)) _ (addm_lt HFF.out k (o + k) (by omega)) (Gf.mul_lt _ _) rfl (wr.drewN q)
      have hst := fun q => ((HL.out.drewN q).store (o + k) (addm o t a F k (o + k) ^^^ Gf.mul t (co a k))).congr (F' := addm o t a F (k + 1)) (fun i _ => addm_step o t a F k i)
      have hgg := fun q => (HG.out.trans (grown_drewN wr q _)).trans (grown_set (wr.drewN q) g (o + k) (.int .u8 ((addm o t a F k (o + k) ^^^ Gf.mul t (co a k) : Nat) : Int)))
      have HMU := Lib.hid hmul
      have HAD := Lib.hid hadd
      have HST := Lib.hid hst
      have HGG := Lib.hid hgg
      clear hmul hadd hst hgg hfield hr
      go_wp2
      refine wp_region_quiet_tail 15 (fun w' => ∃ q, w' = wr.drewN q) (by kernel_rfl) (by kernel_rfl) ⟨1, rfl⟩ ?_
      simp only [List.take_succ_cons, List.take_zero, List.drop_succ_cons, List.drop_zero]
      repeat (quiet_step (first | (go_at_call 28; exact quiet_hands (HMU.out _)) | (go_at_call 27; exact quiet_same (HAD.out _))))
      refine wpQuiet_nil ?_
      rintro _ ⟨q, rfl⟩
      go_wp2
      go_roundg gk
      case measure => omega
      case rel => exact ⟨k + 1, by omega, by go_num, HST.out q, HGG.out q⟩
end Go.Proofs.Ytagdialceelggaa
