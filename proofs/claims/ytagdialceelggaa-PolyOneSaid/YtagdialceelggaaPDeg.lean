/-
  What Degree, trimmed and Trim of layer 2 do. Conditions: no more than 2^16 coefficients.
-/
import Derived.Test.YtagdialceelggaaBack
namespace Go.Proofs.Ytagdialceelggaa
open Go.RowKit Go.Shelf
open Pol (co Sm trim)
attribute [local go_sem] Oper.semAt_some

/-- At place i stands the coefficient. -/
def Is (l : List Nat) (i v : Nat) : Prop := v = co l i
theorem Rd.has {w : World} {A : Option Addr} {l : List Nat} (h : Rd w A l) : HasA (Is l) w A l.length := fun i hi => by
  obtain ⟨b, o, e, hc⟩ := h.2 i hi
  exact ⟨b, o, co l i, e, rfl, hc⟩
theorem Rd.block {w : World} {A : Option Addr} {l : List Nat} (h : Rd w A l) : ∀ b o, A = some ⟨b, o, none⟩ → 0 < l.length → b < w.heap.size := fun b o e hl => by
  obtain ⟨b', o', e', hc⟩ := h.2 0 hl
  rw [e] at e'
  cases e'
  exact block_lt_of_cell hc

theorem trim_all (l : List Nat) (ys : List (Pl l.length (Is l))) (h : ys.map (fun x => x.1.1) = downs l.length l.length) (hz : ∀ p ∈ ys, p.1.2 = 0) : trim l = [] := by
  refine (Pol.trim_nil_iff l).2 fun i => ?_
  by_cases hi : i < l.length
  · have hm := downs_mem l.length l.length i hi (by omega)
    rw [← h] at hm
    obtain ⟨p, hp, e⟩ := List.mem_map.1 hm
    rw [← e, ← show p.1.2 = co l p.1.1 from p.2.2]
    exact hz p hp
  · exact Pol.co_out l i (by omega)
theorem trim_at (l : List Nat) (ini : List (Pl l.length (Is l))) (last : Pl l.length (Is l)) (k : Nat) (h : (ini ++ [last]).map (fun x => x.1.1) = downs l.length k) (hk : k ≤ l.length) (hz : ∀ p ∈ ini, p.1.2 = 0) (hl : last.1.2 ≠ 0) : (trim l).length = last.1.1 + 1 := by
  cases k with
  | zero => simp [downs] at h
  | succ k =>
    rw [downs_succ, List.map_append] at h
    obtain ⟨h1, h2⟩ := List.append_inj' h rfl
    have h3 : last.1.1 = l.length - 1 - k := by simpa using h2
    refine Pol.trim_len_top l last.1.1 (by rw [← show last.1.2 = co l last.1.1 from last.2.2]; exact hl) fun i hi => ?_
    by_cases hil : i < l.length
    · have hm := downs_mem l.length k i hil (by omega)
      rw [← h1] at hm
      obtain ⟨p, hp, e⟩ := List.mem_map.1 hm
      rw [← e, ← show p.1.2 = co l p.1.1 from p.2.2]
      exact hz p hp
    · exact Pol.co_out l i (by omega)

set_option maxRecDepth 100000 in
set_option maxHeartbeats 2000000 in
theorem pdegree (l : List Nat) (A : Option Addr) (c : Nat) (w : World) (hr : Rd w A l) (hl : l.length ≤ 65536) :
    Calls Try.prog 13 #[.slice A l.length c] w (Tells (.int .i64 (((trim l).length : Int) - 1)) w) := by
  have HTA := Lib.hid (trim_all l)
  have HTB := Lib.hid (trim_at l)
  have HR := Lib.hid hr
  have hh := hr.has
  have hbk := hr.block
  generalize hlen : l.length = n at *
  have HN := Lib.hid hlen
  have HH := Lib.hid hh
  have HBK := Lib.hid hbk
  clear hlen hr hh hbk
  refine (callsIn_wide (n := 4)).1 ?_
  refine callsIn_of_wp_marks Try.func13 rfl trivial ?_ rfl
  simp only [Try.ntmps13, List.size_toArray, List.length_cons, List.length_nil, Nat.reduceAdd, Nat.reduceSub, Array.replicate_succ, Array.replicate_zero, List.push_toArray, List.append_toArray, List.nil_append, List.cons_append]
  gi_wp2_with (refine ⟨trivial, ?_⟩; gi_at_call 30; refine (back_in _ _ _ _ _).mono ?_; rintro e w' ⟨rfl, rfl⟩)
  have bR := Boxed.new w 3 (.int .i64 0)
  have bN := Boxed.new (w.alloc (.cells #[.int .i64 0] 3)) 22 (.slice A n c)
  rw [World.size_alloc] at bN
  have hB0 : Below w.heap.size w ((w.alloc (.cells #[.int .i64 0] 3)).alloc (.cells #[.slice A n c] 22)) := ((Below.refl _ w).alloc (Nat.le_refl _) _).alloc (by simp) _
  have hK0 : KpB 0 (.bool true) (Is l) A n w ((w.alloc (.cells #[.int .i64 0] 3)).alloc (.cells #[.slice A n c] 22)) := by
    refine ⟨fun e => (hB0.cell (p := ⟨0, 0, none⟩) (block_lt_of_cell e)).trans e, fun h i hi => ?_⟩
    obtain ⟨b, o, v, e, hv, hc⟩ := h i hi
    exact ⟨b, o, v, e, hv, (hB0.cell (p := ⟨b, o + i, none⟩) (block_lt_of_cell hc)).trans hc⟩
  refine wpIn_rangeFunc_ownG rfl (by omega) (gf := 39) (lb := #[.pointer (some ⟨w.heap.size + 1, 0, none⟩)]) rfl trivial (enters_of Try.func39 (by kernel_rfl) rfl)
    (back_stops _ (by omega) (w.heap.size + 1) n c A (Is l) (by omega) _ (by simp) (fun b o e h => Nat.lt_of_lt_of_le (HBK.out b o e h) hB0.size) bN.cell (hK0.2 HH.out))
    KpB.trans (KpB.put (by simp) (fun b o e h => Nat.lt_of_lt_of_le (HBK.out b o e h) hB0.size)) (Below.refl _ _) (fun _ => rfl)
    (fun pre W => ((∀ p ∈ pre, p.1.2 = 0) ∧ W.cell? ⟨w.heap.size, 0, none⟩ = some (.int .i64 0) ∧ W.frozen? ⟨w.heap.size, 0, none⟩ = false) ∧ Below w.heap.size w W)
    (fun c pre W => (c = .ret ∧ ∃ ini last, pre = ini ++ [last] ∧ (∀ p ∈ ini, p.1.2 = 0) ∧ last.1.2 ≠ 0 ∧ W.cell? ⟨w.heap.size, 0, none⟩ = some (.int .i64 (last.1.1 : Int))) ∧ Below w.heap.size w W)
    (OwnFrom.and (Own.from (fun s A B row hs hg hr => ⟨hs.1, cell_kept hs.2.1 hg hr, (frozen_kept hs.2.1 hg hr).trans hs.2.2⟩) _) (ownFrom_below (Nat.le_refl _) (by simp; omega)))
    (fun c => OwnFrom.and (Own.from (fun s A B row hs hg hr => by obtain ⟨hc, ini, last, e1, e2, e3, e4⟩ := hs; exact ⟨hc, ini, last, e1, e2, e3, cell_kept e4 hg hr⟩) _) (ownFrom_below (Nat.le_refl _) (by simp; omega)))
    ⟨⟨by simp, (bR.alloc _).cell, (bR.alloc _).frozen⟩, hB0⟩
    (fun x => { tmps := #[.slice A n c, undef, .pointer (some ⟨w.heap.size, 0, none⟩), .int .i64 (x.1.1 : Int), .int .u8 (x.1.2 : Int), .slice A n c, .func (.func 39) #[] #[.pointer (some ⟨w.heap.size + 1, 0, none⟩)], .int .i64 (x.1.1 : Int), .int .u8 (x.1.2 : Int), undef, undef, undef], defers := [] }) ?assign ?body ?done ?stop
  case assign =>
    intro l x W K hK
    dsimp only [plv]
    gi_wp2
    exact hK
  case body =>
    rintro l pre x W ⟨⟨hp, hcr, hfr⟩, hB⟩ _
    by_cases hx : x.1.2 = 0
    · have ht : (((x.1.2 : Nat) : Int) != 0) = false := by simp [hx]
      have HX := Lib.hid hx
      clear hx
      gi_wp2
      exact ⟨KeepsFrom.refl _ _, ⟨fun e => e, fun h => h⟩, ⟨fun p hp' => (List.mem_append.1 hp').elim (hp p) (fun e => by simp at e; subst e; exact HX.out), hcr, hfr⟩, hB⟩
    · have ht : (((x.1.2 : Nat) : Int) != 0) = true := by simp; omega
      have HX := Lib.hid hx
      clear hx
      gi_wp2
      exact ⟨(KeepsOthers.setCell _ _ _).from _, ⟨rfl, pre, x, rfl, hp, HX.out, World.cell?_setCell_same' _ _ _ (by rw [hcr]; rfl)⟩, hB.setCell (p := ⟨w.heap.size, 0, none⟩) (Nat.le_refl _) _⟩
  case done =>
    rintro D ys W hD hys ⟨⟨hne, hcr, hfr⟩, hB⟩ hK
    have HT := Lib.hid (HTA.out ys hys hne)
    gi_wp2
    have hK' := (KeepsOthers.setCell W ⟨w.heap.size, 0, none⟩ (.int .i64 (-1))).same D _ hK rfl
    refine ⟨by simp, .inl ⟨_, _, rfl, run_takeDeferred hK', ?_⟩⟩
    have hc5 := cell_kept (World.cell?_setCell_same' W ⟨w.heap.size, 0, none⟩ (.int .i64 (-1)) (by rw [hcr]; rfl)) (grownBy_putObj' _ D (.deferred none)) (fun r e => by cases e; exact ⟨_, hK', rfl⟩)
    refine ⟨.int .i64 (-1), ?_, by rw [HT.out]; rfl, ⟨(hB.setCell (p := ⟨w.heap.size, 0, none⟩) (Nat.le_refl _) _).trans (belowK_b (w := w) (Nat.le_refl _) _ D _ _ (by simp at hD; omega) hK' rfl rfl)⟩⟩
    simp [results, Try.f13, go_sem, hc5]
  case stop =>
    rintro D cc pre W hD ⟨k, hk, hpre⟩ ⟨⟨rfl, ini, last, rfl, e2, e3, hcr⟩, hB⟩ hK
    have HT := Lib.hid (HTB.out ini last k hpre hk e2 e3)
    gi_wp2
    refine ⟨by simp, .inl ⟨_, _, rfl, run_takeDeferred hK, ?_⟩⟩
    have hc5 := cell_kept hcr (grownBy_putObj' _ D (.deferred none)) (fun r e => by cases e; exact ⟨_, hK, rfl⟩)
    refine ⟨.int .i64 (last.1.1 : Int), ?_, ret_int (by rw [HT.out]; omega), ⟨hB.trans (belowK_b (w := w) (Nat.le_refl _) W D _ _ (by simp at hD; omega) hK rfl rfl)⟩⟩
    simp [results, Try.f13, go_sem, hc5]
end Go.Proofs.Ytagdialceelggaa
