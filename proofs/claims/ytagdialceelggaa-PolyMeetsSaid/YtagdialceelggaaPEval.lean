/-
  What Eval of layer 2 does: the value of a polynomial, from the greatest power down. Conditions: a field that New made, no more than 2^16 coefficients.
-/
import Derived.Test.YtagdialceelggaaPDeg
import Derived.Test.YtagdialceelggaaFMul
namespace Go.Proofs.Ytagdialceelggaa
open Go.RowKit Go.Shelf
open Pol (co Sm trim)
attribute [local go_sem] Oper.semAt_some

/-- The value so far. -/
def hor {n : Nat} {V : Nat → Nat → Prop} (x : Nat) (pre : List (Pl n V)) : Nat := pre.foldl (fun a p => Gf.mul a x ^^^ p.1.2) 0
theorem hor_snoc {n : Nat} {V : Nat → Nat → Prop} (x : Nat) (pre : List (Pl n V)) (p : Pl n V) : hor x (pre ++ [p]) = Gf.mul (hor x pre) x ^^^ p.1.2 := by simp [hor]
theorem hor_map {n : Nat} {V : Nat → Nat → Prop} (x : Nat) : ∀ (ys : List (Pl n V)) (a : Nat), ys.foldl (fun a p => Gf.mul a x ^^^ p.1.2) a = (ys.map fun p => p.1.2).foldl (fun a v => Gf.mul a x ^^^ v) a
  | [], _ => rfl
  | p :: ys, a => by simp only [List.foldl_cons, List.map_cons]; exact hor_map x ys _
theorem downs_co (l : List Nat) : (downs l.length l.length).map (co l) = l.reverse := by
  apply List.ext_getElem
  · simp [downs]
  · intro i h1 h2
    have hi : i < l.length := by simpa [downs] using h1
    simp only [downs, List.map_map, List.getElem_map, List.getElem_range, Function.comp, List.getElem_reverse]
    unfold co
    rw [List.getElem?_eq_getElem (by omega)]
    rfl
theorem fold_ev (x : Nat) : ∀ l : List Nat, l.foldr (fun v a => Gf.mul a x ^^^ v) 0 = Pol.ev l x
  | [] => rfl
  | v :: l => by rw [List.foldr_cons, fold_ev x l, Pol.ev, Nat.xor_comm, Gf.mul_comm]
theorem hor_all (l : List Nat) (x : Nat) (ys : List (Pl l.length (Is l))) (h : ys.map (fun p => p.1.1) = downs l.length l.length) : hor x ys = Pol.ev l x := by
  unfold hor
  rw [hor_map]
  have e : (ys.map fun p => p.1.2) = l.reverse := by
    rw [← downs_co, ← h, List.map_map]
    exact List.map_congr_left fun p _ => p.2.2
  rw [e, List.foldl_reverse, fold_ev]
theorem hor_lt {n : Nat} {l : List Nat} (hl : Sm l) (x : Nat) : ∀ (ys : List (Pl n (Is l))) (a : Nat), a < 256 → ys.foldl (fun a p => Gf.mul a x ^^^ p.1.2) a < 256
  | [], _, h => h
  | p :: ys, a, _ => hor_lt hl x ys _ (Gf.xor_lt _ _ (Gf.mul_lt _ _) (by rw [show p.1.2 = co l p.1.1 from p.2.2]; exact hl _))

set_option maxRecDepth 100000 in
set_option maxHeartbeats 2000000 in
theorem peval (f : Nat) (l : List Nat) (x : Nat) (A : Option Addr) (c : Nat) (w : World) (hf : IsField w f) (hr : Rd w A l) (hx : x < 256) (hl : l.length ≤ 65536) :
    Calls Try.prog 16 #[.pointer (some ⟨f, 0, none⟩), .slice A l.length c, .int .u8 (x : Int)] w (Tells (.int .u8 ((Pol.ev l x : Nat) : Int)) w) := by
  have HEV := Lib.hid (hor_all l x)
  have HF := Lib.hid hf
  have hh := hr.has
  have hbk := hr.block
  have HSM := Lib.hid hr.1
  generalize hlen : l.length = n at *
  have HN := Lib.hid hlen
  have HH := Lib.hid hh
  have HBK := Lib.hid hbk
  clear hlen hr hh hbk hf
  refine (callsIn_wide (n := 4)).1 ?_
  refine callsIn_of_wp_marks Try.func16 rfl trivial ?_ rfl
  simp only [Try.ntmps16, List.size_toArray, List.length_cons, List.length_nil, Nat.reduceAdd, Nat.reduceSub, Array.replicate_succ, Array.replicate_zero, List.push_toArray, List.append_toArray, List.nil_append, List.cons_append]
  gi_wp2_with (refine ⟨trivial, ?_⟩; gi_at_call 30; refine (back_in _ _ _ _ _).mono ?_; rintro e w' ⟨rfl, rfl⟩)
  have b1 := Boxed.new w 24 (.pointer (some ⟨f, 0, none⟩))
  have b2 := Boxed.new (w.alloc (.cells #[.pointer (some ⟨f, 0, none⟩)] 24)) 5 (.int .u8 (x : Int))
  have b3 := Boxed.new ((w.alloc (.cells #[.pointer (some ⟨f, 0, none⟩)] 24)).alloc (.cells #[.int .u8 (x : Int)] 5)) 5 (.int .u8 0)
  have bN := Boxed.new (((w.alloc (.cells #[.pointer (some ⟨f, 0, none⟩)] 24)).alloc (.cells #[.int .u8 (x : Int)] 5)).alloc (.cells #[.int .u8 0] 5)) 22 (.slice A n c)
  simp only [World.size_alloc] at b2 b3 bN
  obtain ⟨W0, hW0⟩ : ∃ W0, (((w.alloc (.cells #[.pointer (some ⟨f, 0, none⟩)] 24)).alloc (.cells #[.int .u8 (x : Int)] 5)).alloc (.cells #[.int .u8 0] 5)).alloc (.cells #[.slice A n c] 22) = W0 := ⟨_, rfl⟩
  have hB0 : Below w.heap.size w W0 := by
    rw [← hW0]
    exact ((((Below.refl _ w).alloc (Nat.le_refl _) _).alloc (by simp) _).alloc (by simp; omega) _).alloc (by simp; omega) _
  have hsz : W0.heap.size = w.heap.size + 4 := by rw [← hW0]; simp
  have c1 := (((b1.alloc (.cells #[.int .u8 (x : Int)] 5)).alloc (.cells #[.int .u8 0] 5)).alloc (.cells #[.slice A n c] 22))
  have c2 := ((b2.alloc (.cells #[.int .u8 0] 5)).alloc (.cells #[.slice A n c] 22))
  have c3 := b3.alloc (.cells #[.slice A n c] 22)
  rw [hW0] at c1 c2 c3 bN ⊢
  have hK0 : HasA (Is l) W0 A n := fun i hi => by
    obtain ⟨b, o, v, e, hv, hc⟩ := HH.out i hi
    exact ⟨b, o, v, e, hv, (hB0.cell (p := ⟨b, o + i, none⟩) (block_lt_of_cell hc)).trans hc⟩
  have HSZ := Lib.hid hsz
  clear hsz b1 b2 b3 hW0
  refine wpIn_rangeFunc_ownG rfl (by omega) (gf := 39) (lb := #[.pointer (some ⟨w.heap.size + 1 + 1 + 1, 0, none⟩)]) rfl trivial (enters_of Try.func39 (by kernel_rfl) rfl)
    (back_stops _ (by omega) (w.heap.size + 1 + 1 + 1) n c A (Is l) (by omega) W0 (by have := HSZ.out; omega) (fun b o e h => Nat.lt_of_lt_of_le (HBK.out b o e h) hB0.size) bN.cell hK0)
    KpB.trans (KpB.put (by have := HSZ.out; omega) (fun b o e h => Nat.lt_of_lt_of_le (HBK.out b o e h) hB0.size)) (Below.refl _ _) (fun _ => rfl)
    (fun pre W => (W.cell? ⟨w.heap.size, 0, none⟩ = some (.pointer (some ⟨f, 0, none⟩)) ∧ W.cell? ⟨w.heap.size + 1, 0, none⟩ = some (.int .u8 (x : Int)) ∧ W.cell? ⟨w.heap.size + 1 + 1, 0, none⟩ = some (.int .u8 ((hor x pre : Nat) : Int)) ∧ W.frozen? ⟨w.heap.size + 1 + 1, 0, none⟩ = false) ∧ Below w.heap.size w W)
    (fun _ _ _ => False)
    (OwnFrom.and (Own.from (fun s A B row hs hg hr => ⟨cell_kept hs.1 hg hr, cell_kept hs.2.1 hg hr, cell_kept hs.2.2.1 hg hr, (frozen_kept hs.2.2.1 hg hr).trans hs.2.2.2⟩) _) (ownFrom_below (Nat.le_refl _) (by have := HSZ.out; omega)))
    (fun _ _ _ _ _ hs _ _ => hs)
    ⟨⟨c1.cell, c2.cell, c3.cell, c3.frozen⟩, hB0⟩
    (fun y => { tmps := #[.pointer (some ⟨f, 0, none⟩), .slice A n c, .int .u8 (x : Int), .pointer (some ⟨w.heap.size, 0, none⟩), undef, .pointer (some ⟨w.heap.size + 1, 0, none⟩), .int .u8 0, .pointer (some ⟨w.heap.size + 1 + 1, 0, none⟩), undef, .int .u8 (y.1.2 : Int), .slice A n c, .func (.func 39) #[] #[.pointer (some ⟨w.heap.size + 1 + 1 + 1, 0, none⟩)], .int .i64 (y.1.1 : Int), .int .u8 (y.1.2 : Int), undef, undef, undef, undef, undef, undef, undef], defers := [] }) ?assign ?body ?done ?stop
  case assign =>
    intro l x W K hK
    dsimp only [plv]
    gi_wp2
    exact hK
  case body =>
    rintro lq pre y W ⟨⟨h1, h2, h3, h4⟩, hB⟩ _
    have hyv : y.1.2 < 256 := by rw [show y.1.2 = co l y.1.1 from y.2.2]; exact HSM.out _
    have hho : hor x pre < 256 := hor_lt HSM.out x pre 0 (by omega)
    have hmul := mul_is f (hor x pre) x _ W (HF.out.ext ⟨hB⟩) hho hx rfl
    have hadd := fun u => add_is (Gf.mul (hor x pre) x) y.1.2 _ (Gf.mul_lt _ _) hyv (hor_snoc x pre y).symm u
    have HM := Lib.hid hmul
    have HA := Lib.hid hadd
    have HB := Lib.hid hB
    clear hmul hadd hB
    gi_wp2_with (first | (refine ⟨trivial, ?_⟩; gi_at_call 28; refine (CallsIn.inRound lq (callsIn_wide.2 HM.out)).mono ?_; rintro e w' ⟨rfl, nq, rfl⟩) | (refine ⟨trivial, ?_⟩; gi_at_call 27; refine (CallsIn.inRound lq (callsIn_wide.2 (HA.out _))).mono ?_; rintro e w' ⟨rfl, rfl⟩))
    refine ⟨((keeps_drewN W nq).trans (KeepsOthers.setCell _ _ _)).from _, (KpB.drewN W nq).trans (KpB.set _ _ _ _ (by omega) (fun b o e h => by have := HBK.out b o e h; omega)), ⟨?_, ?_, ?_, ?_⟩, ?_⟩
    · exact (World.cell?_setCell_other _ _ _ _ (far_block _ _ _ _ (by omega))).trans h1
    · exact (World.cell?_setCell_other _ _ _ _ (far_block _ _ _ _ (by omega))).trans h2
    · exact World.cell?_setCell_same' _ _ _ (by rw [show (W.drewN nq).cell? _ = _ from h3]; rfl)
    · rw [World.frozen?_setCell]; exact h4
    · exact ((Ext.mk HB.out).drewN nq).below.setCell (p := ⟨w.heap.size + 1 + 1, 0, none⟩) (by simp; omega) _
  case done =>
    rintro D ys W hD hys ⟨⟨h1, h2, h3, h4⟩, hB⟩ hK
    have HT := Lib.hid (HEV.out ys hys)
    gi_wp2
    refine ⟨by simp, .inl ⟨_, _, rfl, run_takeDeferred hK, ?_⟩⟩
    exact ⟨_, results_tmp rfl _ _ _, by rw [← HT.out]; rfl, ⟨hB.trans (belowK_b (w := w) (Nat.le_refl _) W D _ _ (by have := HSZ.out; omega) hK rfl rfl)⟩⟩
  case stop =>
    rintro D c pre W _ _ h _
    exact h.elim
end Go.Proofs.Ytagdialceelggaa
