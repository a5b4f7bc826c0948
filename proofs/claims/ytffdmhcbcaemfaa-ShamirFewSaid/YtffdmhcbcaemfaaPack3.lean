/-
  Part 3 of the texts that the seat's proofs stand on; each part of it begins with its own sentence and conditions. Conditions: those that each theorem names.
-/
import Derived.Test.YtffdmhcbcaemfaaPack2
import Derived.BigRegion
import Derived.WalkMore
import Derived.RangeFuncBox
import Derived.OrdersIn
import Derived.RangeFuncCalls
import Derived.Deep.RegionHeld3
import Derived.Deep.DeepCutAuto

/-
  What Eval of layer 2 does: the value of a polynomial, from the greatest power down. Conditions: a field that New made, no more than 2^16 coefficients.
-/
namespace Go.Proofs.Ytffdmhcbcaemfaa
open Go.RowKit Go.Shelf
open Pol (co Sm trim)
attribute [local go_sem] Oper.semAt_some

/-- The value so far. -/
def hor {n : Nat} {V : Nat → Nat → Prop} (x : Nat) (pre : List (Pl n V)) : Nat := pre.foldl (fun a p => Gf.mul a x ^^^ p.1.2) 0
theorem hor_snoc {n : Nat} {V : Nat → Nat → Prop} (x : Nat) (pre : List (Pl n V)) (p : Pl n V) : hor x (pre ++ [p]) = Gf.mul (hor x pre) x ^^^ p.1.2 := by simp [hor]
theorem hor_map {n : Nat} {V : Nat → Nat → Prop} (x : Nat) : ∀ (ys : List (Pl n V)) (a : Nat), ys.foldl (fun a p => Gf.mul a x ^^^ p.1.2) a = (ys.map fun p => p.1.2).foldl (fun a v => Gf.mul a x ^^^ v) a
  | [], _ => rfl
  | p :: ys, a => by simp only [List.foldl_cons, List.map_cons]; exact hor_map x ys _
theorem downs_co (l : List Nat) : (downs l.length l.length).map (co l) = l.reverse := by
  apply List.ext_getElem
  · simp [downs]
  · intro i h1 h2
    have hi : i < l.length := by simpa [downs] using h1
    simp only [downs, List.map_map, List.getElem_map, List.getElem_range, Function.comp, List.getElem_reverse]
    unfold co
    rw [List.getElem?_eq_getElem (by omega)]
    rfl
theorem fold_ev (x : Nat) : ∀ l : List Nat, l.foldr (fun v a => Gf.mul a x ^^^ v) 0 = Pol.ev l x
  | [] => rfl
  | v :: l => by rw [List.foldr_cons, fold_ev x l, Pol.ev, Nat.xor_comm, Gf.mul_comm]
theorem hor_all (l : List Nat) (x : Nat) (ys : List (Pl l.length (Is l))) (h : ys.map (fun p => p.1.1) = downs l.length l.length) : hor x ys = Pol.ev l x := by
  unfold hor
  rw [hor_map]
  have e : (ys.map fun p => p.1.2) = l.reverse := by
    rw [← downs_co, ← h, List.map_map]
    exact List.map_congr_left fun p _ => p.2.2
  rw [e, List.foldl_reverse, fold_ev]
theorem hor_lt {n : Nat} {l : List Nat} (hl : Sm l) (x : Nat) : ∀ (ys : List (Pl n (Is l))) (a : Nat), a < 256 → ys.foldl (fun a p => Gf.mul a x ^^^ p.1.2) a < 256
  | [], _, h => h
  | p :: ys, a, _ => hor_lt hl x ys _ (Gf.xor_lt _ _ (Gf.mul_lt _ _) (by rw [show p.1.2 = co l p.1.1 from p.2.2]; exact hl _))

set_option maxRecDepth 100000 in
set_option maxHeartbeats 2000000 in
theorem peval (f : Nat) (l : List Nat) (x : Nat) (A : Option Addr) (c : Nat) (w : World) (hf : IsField w f) (hr : Rd w A l) (hx : x < 256) (hl : l.length ≤ 65536) :
    Calls Try.prog 47 #[.pointer (some ⟨f, 0, none⟩), .slice A l.length c, .int .u8 (x : Int)] w (Tells (.int .u8 ((Pol.ev l x : Nat) : Int)) w) := by
  have HEV := Lib.hid (hor_all l x)
  have HF := Lib.hid hf
  have hh := hr.has
  have hbk := hr.block
  have HSM := Lib.hid hr.1
  generalize hlen : l.length = n at *
  have HN := Lib.hid hlen
  have HH := Lib.hid hh
  have HBK := Lib.hid hbk
  clear hlen hr hh hbk hf
  refine (callsIn_wide (n := 4)).1 ?_
  refine callsIn_of_wp_marks Try.func47 rfl trivial ?_ rfl
  simp only [Try.ntmps47, List.size_toArray, List.length_cons, List.length_nil, Nat.reduceAdd, Nat.reduceSub, Array.replicate_succ, Array.replicate_zero, List.push_toArray, List.append_toArray, List.nil_append, List.cons_append]
  gi_wp2_with (refine ⟨trivial, ?_⟩; gi_at_call 56; refine (back_in _ _ _ _ _).mono ?_; rintro e w' ⟨rfl, rfl⟩)
  have b1 := Boxed.new w 26 (.pointer (some ⟨f, 0, none⟩))
  have b2 := Boxed.new (w.alloc (.cells #[.pointer (some ⟨f, 0, none⟩)] 26)) 5 (.int .u8 (x : Int))
  have b3 := Boxed.new ((w.alloc (.cells #[.pointer (some ⟨f, 0, none⟩)] 26)).alloc (.cells #[.int .u8 (x : Int)] 5)) 5 (.int .u8 0)
  have bN := Boxed.new (((w.alloc (.cells #[.pointer (some ⟨f, 0, none⟩)] 26)).alloc (.cells #[.int .u8 (x : Int)] 5)).alloc (.cells #[.int .u8 0] 5)) 22 (.slice A n c)
  simp only [World.size_alloc] at b2 b3 bN
  obtain ⟨W0, hW0⟩ : ∃ W0, (((w.alloc (.cells #[.pointer (some ⟨f, 0, none⟩)] 26)).alloc (.cells #[.int .u8 (x : Int)] 5)).alloc (.cells #[.int .u8 0] 5)).alloc (.cells #[.slice A n c] 22) = W0 := ⟨_, rfl⟩
  have hB0 : Below w.heap.size w W0 := by
    rw [← hW0]
    exact ((((Below.refl _ w).alloc (Nat.le_refl _) _).alloc (by simp) _).alloc (by simp; omega) _).alloc (by simp; omega) _
  have hsz : W0.heap.size = w.heap.size + 4 := by rw [← hW0]; simp
  have c1 := (((b1.alloc (.cells #[.int .u8 (x : Int)] 5)).alloc (.cells #[.int .u8 0] 5)).alloc (.cells #[.slice A n c] 22))
  have c2 := ((b2.alloc (.cells #[.int .u8 0] 5)).alloc (.cells #[.slice A n c] 22))
  have c3 := b3.alloc (.cells #[.slice A n c] 22)
  rw [hW0] at c1 c2 c3 bN ⊢
  have hK0 : HasA (Is l) W0 A n := fun i hi => by
    obtain ⟨b, o, v, e, hv, hc⟩ := HH.out i hi
    exact ⟨b, o, v, e, hv, (hB0.cell (p := ⟨b, o + i, none⟩) (block_lt_of_cell hc)).trans hc⟩
  have HSZ := Lib.hid hsz
  clear hsz b1 b2 b3 hW0
  refine wpIn_rangeFunc_ownG rfl (by omega) (gf := 66) (lb := #[.pointer (some ⟨w.heap.size + 1 + 1 + 1, 0, none⟩)]) rfl trivial (enters_of Try.func66 (by kernel_rfl) rfl)
    (back_stops _ (by omega) (w.heap.size + 1 + 1 + 1) n c A (Is l) (by omega) W0 (by have := HSZ.out; omega) (fun b o e h => Nat.lt_of_lt_of_le (HBK.out b o e h) hB0.size) bN.cell hK0)
    KpB.trans (KpB.put (by have := HSZ.out; omega) (fun b o e h => Nat.lt_of_lt_of_le (HBK.out b o e h) hB0.size)) (Below.refl _ _) (fun _ => rfl)
    (fun pre W => (W.cell? ⟨w.heap.size, 0, none⟩ = some (.pointer (some ⟨f, 0, none⟩)) ∧ W.cell? ⟨w.heap.size + 1, 0, none⟩ = some (.int .u8 (x : Int)) ∧ W.cell? ⟨w.heap.size + 1 + 1, 0, none⟩ = some (.int .u8 ((hor x pre : Nat) : Int)) ∧ W.frozen? ⟨w.heap.size + 1 + 1, 0, none⟩ = false) ∧ Below w.heap.size w W)
    (fun _ _ _ => False)
    (OwnFrom.and (Own.from (fun s A B row hs hg hr => ⟨cell_kept hs.1 hg hr, cell_kept hs.2.1 hg hr, cell_kept hs.2.2.1 hg hr, (frozen_kept hs.2.2.1 hg hr).trans hs.2.2.2⟩) _) (ownFrom_below (Nat.le_refl _) (by have := HSZ.out; omega)))
    (fun _ _ _ _ _ hs _ _ => hs)
    ⟨⟨c1.cell, c2.cell, c3.cell, c3.frozen⟩, hB0⟩
    (fun y => { tmps := #[.pointer (some ⟨f, 0, none⟩), .slice A n c, .int .u8 (x : Int), .pointer (some ⟨w.heap.size, 0, none⟩), undef, .pointer (some ⟨w.heap.size + 1, 0, none⟩), .int .u8 0, .pointer (some ⟨w.heap.size + 1 + 1, 0, none⟩), undef, .int .u8 (y.1.2 : Int), .slice A n c, .func (.func 66) #[] #[.pointer (some ⟨w.heap.size + 1 + 1 + 1, 0, none⟩)], .int .i64 (y.1.1 : Int), .int .u8 (y.1.2 : Int), undef, undef, undef, undef, undef, undef, undef], defers := [] }) ?assign ?body ?done ?stop
  case assign =>
    intro l x W K hK
    dsimp only [plv]
    gi_wp2
    exact hK
  case body =>
    rintro lq pre y W ⟨⟨h1, h2, h3, h4⟩, hB⟩ _
    have hyv : y.1.2 < 256 := by rw [show y.1.2 = co l y.1.1 from y.2.2]; exact HSM.out _
    have hho : hor x pre < 256 := hor_lt HSM.out x pre 0 (by omega)
    have hmul := mul_is f (hor x pre) x _ W (HF.out.ext ⟨hB⟩) hho hx rfl
    have hadd := fun u => add_is (Gf.mul (hor x pre) x) y.1.2 _ (Gf.mul_lt _ _) hyv (hor_snoc x pre y).symm u
    have HM := Lib.hid hmul
    have HA := Lib.hid hadd
    have HB := Lib.hid hB
    clear hmul hadd hB
    gi_wp2_with (first | (refine ⟨trivial, ?_⟩; gi_at_call 46; refine (CallsIn.inRound lq (callsIn_wide.2 HM.out)).mono ?_; rintro e w' ⟨rfl, nq, rfl⟩) | (refine ⟨trivial, ?_⟩; gi_at_call 45; refine (CallsIn.inRound lq (callsIn_wide.2 (HA.out _))).mono ?_; rintro e w' ⟨rfl, rfl⟩))
    refine ⟨((keeps_drewN W nq).trans (KeepsOthers.setCell _ _ _)).from _, (KpB.drewN W nq).trans (KpB.set _ _ _ _ (by omega) (fun b o e h => by have := HBK.out b o e h; omega)), ⟨?_, ?_, ?_, ?_⟩, ?_⟩
    · exact (World.cell?_setCell_other _ _ _ _ (far_block _ _ _ _ (by omega))).trans h1
    · exact (World.cell?_setCell_other _ _ _ _ (far_block _ _ _ _ (by omega))).trans h2
    · exact World.cell?_setCell_same' _ _ _ (by rw [show (W.drewN nq).cell? _ = _ from h3]; rfl)
    · rw [World.frozen?_setCell]; exact h4
    · exact ((Ext.mk HB.out).drewN nq).below.setCell (p := ⟨w.heap.size + 1 + 1, 0, none⟩) (by simp; omega) _
  case done =>
    rintro D ys W hD hys ⟨⟨h1, h2, h3, h4⟩, hB⟩ hK
    have HT := Lib.hid (HEV.out ys hys)
    gi_wp2
    refine ⟨by simp, .inl ⟨_, _, rfl, run_takeDeferred hK, ?_⟩⟩
    exact ⟨_, results_tmp rfl _ _ _, by rw [← HT.out]; rfl, ⟨hB.trans (belowK_b (w := w) (Nat.le_refl _) W D _ _ (by have := HSZ.out; omega) hK rfl rfl)⟩⟩
  case stop =>
    rintro D c pre W _ _ h _
    exact h.elim
end Go.Proofs.Ytffdmhcbcaemfaa

/-
  What value and share of layer 5 do: a participant's value of a byte's polynomial, and all of them. Conditions: a field that New made, a secret that can be dealt.
-/
namespace Go.Proofs.Ytffdmhcbcaemfaa
open Go.RowKit
open Pol (co Sm ev px py)

/-- Worlds that have all of u's blocks as they were. -/
def After (u w : World) : Prop := Ext u w

set_option maxHeartbeats 1600000 in
set_option maxRecDepth 100000 in
theorem h_value (f : Nat) (s c : List Nat) (d i p : Nat) (o : Int) (A B : Option Addr) (ca cb : Nat) (w : World) (hf : IsField w f) (hs : Rd w A s) (hc : Rd w B c) (hcb : c.length ≤ cb) (ho : o = (d : Int) + 1) (hd : d < 200) (hi : i < s.length) (hl : c.length = s.length * d) (hsl : s.length ≤ 4096) (hp : p < 200) :
    Calls Try.prog 31 #[.pointer (some ⟨f, 0, none⟩), .slice A s.length ca, .slice B c.length cb, .int .i64 o, .int .i64 (i : Int), .int .i64 (p : Int)] w (Tells (.int .u8 ((ev (pl s c d i) (p + 1) : Nat) : Int)) w) := by
  obtain ⟨a, ha⟩ : ∃ a, i * d = a := ⟨_, rfl⟩
  obtain ⟨b, hb⟩ : ∃ b, (i + 1) * d = b := ⟨_, rfl⟩
  have hbl : b ≤ c.length := by rw [hl, ← hb]; exact Nat.mul_le_mul_right d hi
  have hcl : c.length ≤ 4096 * 4096 := by rw [hl]; exact Nat.mul_le_mul hsl (by omega)
  have hab : b = a + d := by rw [← hb, ← ha, Nat.succ_mul]
  obtain ⟨X, hX, hXr⟩ := run_cut_u8 B c.length cb a b (by omega) (by omega)
  have e1 : IntKind.i64.wrap (o - 1) = (d : Int) := by rw [IntWalk.i64_in _ (by omega)]; omega
  have e2 : IntKind.i64.wrap ((i : Int) * (d : Int)) = (a : Int) := by rw [← Int.natCast_mul, ha]; exact IntWalk.i64_in _ (by omega)
  have e3 : IntKind.i64.wrap ((i : Int) + 1) = (i : Int) + 1 := IntWalk.i64_in _ (by omega)
  have e4 : IntKind.i64.wrap (((i : Int) + 1) * (d : Int)) = (b : Int) := by rw [show (i : Int) + 1 = ((i + 1 : Nat) : Int) from by omega, ← Int.natCast_mul, hb]; exact IntWalk.i64_in _ (by omega)
  obtain ⟨b1, o1, e, hc1⟩ := hs.2 i hi
  subst e
  rw [show b - a = d from by omega] at hX hXr
  have HXR := Lib.hid (hXr w c hc hbl)
  have hev : ev (pl s c d i) (p + 1) = co s i ^^^ Gf.mul (p + 1) (ev (tab d (fun j => co c (a + j))) (p + 1)) := by unfold pl; rw [ha]; rfl
  have hxb : co s i < 256 := hs.1 i
  have heb : ev (tab d (fun j => co c (a + j))) (p + 1) < 256 := Pol.ev_lt _ _ (tab_sm _ _ fun _ _ => hc.1 _)
  have HE := Lib.hid (fun (x : Nat) W (hW : Ext w W) (hx : x < 256) => show Calls Try.prog 47 #[.pointer (some ⟨f, 0, none⟩), .slice X d (cb - a), .int .u8 (x : Int)] W (Tells (.int .u8 ((ev (tab d (fun j => co c (a + j))) x : Nat) : Int)) W) from by
    have h := peval f (tab d (fun j => co c (a + j))) x X (cb - a) W (hf.ext hW) (HXR.out.ext hW) hx (by rw [tab_len]; omega)
    rwa [tab_len] at h)
  have HF := Lib.hid hf
  have HC1 := Lib.hid hc1
  have hiI : (i : Int) < (s.length : Int) := by omega
  obtain ⟨x, hx⟩ : ∃ x, co s i = x := ⟨_, rfl⟩
  obtain ⟨y, hy⟩ : ∃ y, ev (tab d (fun j => co c (a + j))) (p + 1) = y := ⟨_, rfl⟩
  obtain ⟨x1, hx1⟩ : ∃ x1, p + 1 = x1 := ⟨_, rfl⟩
  rw [hx1] at hev hy ⊢
  rw [hx, hy] at hev
  rw [hx] at hxb HC1
  have HE1 := Lib.hid (fun W (hW : Ext w W) => show Calls Try.prog 47 #[.pointer (some ⟨f, 0, none⟩), .slice X d (cb - a), .int .u8 (x1 : Int)] W (Tells (.int .u8 (y : Int)) W) from by
    have h := HE.out x1 W hW (by omega)
    rwa [hy] at h)
  have hyb : y < 256 := by rw [← hy, ← hx1]; exact heb
  have HP := Lib.hid (show Calls Try.prog 44 #[.int .i64 (p : Int)] w (Hands (.int .u8 (x1 : Int)) w) from hx1 ▸ h_pos p w hp)
  obtain ⟨z, hz⟩ : ∃ z, Gf.mul x1 y = z := ⟨_, rfl⟩
  have hzb : z < 256 := by rw [← hz]; exact Gf.mul_lt _ _
  have HM := Lib.hid (fun W (hW : Ext w W) => mul_is f x1 y z W (HF.out.ext hW) (by omega) hyb hz)
  rw [hz] at hev
  obtain ⟨r, hr⟩ : ∃ r, ev (pl s c d i) x1 = r := ⟨_, rfl⟩
  rw [hr] at hev ⊢
  have HA := Lib.hid (fun W => add_is x z r hxb hzb hev.symm W)
  obtain ⟨cc, hcc⟩ : ∃ cc, cb - a = cc := ⟨_, rfl⟩
  rw [hcc] at hX HE1
  clear hc1 hx hy hz hr hev heb hf hs hc hXr ha hb hl hab HE HXR hx1 hcc HF
  generalize s.length = n at *
  generalize c.length = m at *
  go_enter Try.func31, Try.ntmps31
  go_wp2_with fail
  refine HP.out.mono ?_
  rintro e w1 ⟨rfl, q1, rfl⟩
  have HX1 := Lib.hid ((Ext.refl w).drewN q1)
  have HC2 := Lib.hid (show (w.drewN q1).cell? ⟨b1, o1 + i, none⟩ = some (.int .u8 (x : Int)) from HC1.out)
  generalize w.drewN q1 = u at HX1 HC2 ⊢
  clear HC1 HP
  have FX := Lib.hid (show ∀ W, After u W → W.cell? ⟨b1, o1 + i, none⟩ = some (.int .u8 (x : Int)) from fun W hW => (Ext.below hW).cell (p := ⟨b1, o1 + i, none⟩) (block_lt_of_cell HC2.out) |>.trans HC2.out)
  have FE := Lib.hid (show ∀ W, After u W → Calls Try.prog 47 #[.pointer (some ⟨f, 0, none⟩), .slice X d cc, .int .u8 (x1 : Int)] W (fun e w' => e = .returned (.int .u8 (y : Int)) ∧ After u w') from fun W hW => (HE1.out W (HX1.out.trans hW)).mono fun _ _ h => ⟨h.1, Ext.trans hW h.2⟩)
  have FM := Lib.hid (show ∀ W, After u W → Calls Try.prog 46 #[.pointer (some ⟨f, 0, none⟩), .int .u8 (x1 : Int), .int .u8 (y : Int)] W (fun e w' => e = .returned (.int .u8 (z : Int)) ∧ After u w') from fun W hW => (HM.out W (HX1.out.trans hW)).mono fun _ _ h => ⟨h.1, Ext.trans hW h.tells.2⟩)
  have FA := Lib.hid (show ∀ W, After u W → Calls Try.prog 45 #[.int .u8 (x : Int), .int .u8 (z : Int)] W (fun e w' => e = .returned (.int .u8 (r : Int)) ∧ After u w') from fun W hW => (HA.out W).mono fun _ _ h => ⟨h.1, h.2 ▸ hW⟩)
  clear HE1 HM HA HC2
  go_wp2
  refine wp_region_quiet (C := After u) (by kernel_rfl) (by kernel_rfl) (show After u u.drew from (Ext.refl u).drew) ?_
  repeat (first
    | (refine wpQuiet_step (fun K hK => ?_); go_simp; refine ⟨_, fun _ _ => rfl, hK _ ?_⟩; clear hK K)
    | (refine wpQuiet_step (fun K hK => ?_); go_simp; refine ⟨.int .u8 (x : Int), fun W hW => ?_, hK _ ?_⟩; (focus (have h1 := FX.out W hW; go_simp; done)); clear hK K)
    | (refine wpQuiet_step (fun K hK => ?_); go_simp; refine ⟨_, fun W hW => FE.out W hW, hK _ ?_⟩; clear hK K)
    | (refine wpQuiet_step (fun K hK => ?_); go_simp; refine ⟨_, fun W hW => FM.out W hW, hK _ ?_⟩; clear hK K)
    | (refine wpQuiet_step (fun K hK => ?_); go_simp; refine ⟨_, fun W hW => FA.out W hW, hK _ ?_⟩; clear hK K))
  refine wpQuiet_nil ?_
  intro u2 hu2
  have HX2 := Lib.hid (HX1.out.trans hu2)
  clear hu2
  go_wp2
  go_ret
  exact ⟨rfl, HX2.out⟩
end Go.Proofs.Ytffdmhcbcaemfaa

/-
  What share and Deal of layer 5 do: a participant's bytes, and all shares of a secret that can be dealt. Conditions: a field that New made, no more than 2^12 bytes and coins.
-/
namespace Go.Proofs.Ytffdmhcbcaemfaa
open Go.RowKit
open Pol (co Sm ev px py)

/-- The first k values. -/
def firstk (F : Nat → Nat) (k : Nat) : Nat → Nat := fun i => if i < k then F i else 0
theorem firstk_step (F : Nat → Nat) (k : Nat) : upd (firstk F k) k (F k) = firstk F (k + 1) := by
  funext i
  unfold upd firstk
  by_cases e : i = k
  · rw [if_pos e, if_pos (by omega), e]
  · rw [if_neg e]
    by_cases h : i < k
    · rw [if_pos h, if_pos (by omega)]
    · rw [if_neg h, if_neg (by omega)]
def ShareE (n : Nat) (F : Nat → Nat) (w : World) (e : Ending) (w' : World) : Prop := e = .returned (.slice (some ⟨w.heap.size, 0, none⟩) n n) ∧ Blk w' w.heap.size n F ∧ Ext w w'

set_option maxHeartbeats 1600000 in
set_option maxRecDepth 100000 in
theorem h_share (f : Nat) (s c : List Nat) (d p : Nat) (o : Int) (A B : Option Addr) (ca cb : Nat) (w : World) (hf : IsField w f) (hs : Rd w A s) (hc : Rd w B c) (hcb : c.length ≤ cb) (ho : o = (d : Int) + 1) (hd : d < 200) (hl : c.length = s.length * d) (hsl : s.length ≤ 4096) (hp : p < 200) :
    Calls Try.prog 27 #[.pointer (some ⟨f, 0, none⟩), .slice A s.length ca, .slice B c.length cb, .int .i64 o, .int .i64 (p : Int)] w (ShareE s.length (fun i => ev (pl s c d i) (p + 1)) w) := by
  have HV := Lib.hid (fun i W (hi : i < s.length) (hW : Ext w W) => h_value f s c d i p o A B ca cb W (hf.ext hW) (hs.ext hW) (hc.ext hW) hcb ho hd hi hl hsl hp)
  unfold ShareE
  obtain ⟨F, hF⟩ : ∃ F : Nat → Nat, (fun i => ev (pl s c d i) (p + 1)) = F := ⟨_, rfl⟩
  have HVF := Lib.hid (fun i W (hi : i < s.length) (hW : Ext w W) => show Calls Try.prog 31 #[.pointer (some ⟨f, 0, none⟩), .slice A s.length ca, .slice B c.length cb, .int .i64 o, .int .i64 (i : Int), .int .i64 (p : Int)] W (Tells (.int .u8 ((F i : Nat) : Int)) W) from by
    rw [← hF]; exact HV.out i W hi hW)
  rw [hF]
  have HST := Lib.hid (firstk_step F)
  clear hf hs hc hl hF HV ho
  generalize s.length = n at *
  generalize c.length = m at *
  have hmk := fun W => run_make_u8 n (by omega) W
  go_enter Try.func27, Try.ntmps27
  go_wp2
  clear hmk
  go_loopg [18] n (fun gh s wx => ∃ k : Nat, k + gh = n ∧ s = .int .i64 (k : Int) ∧ Blk wx w.heap.size n (firstk F k) ∧ Ext w wx)
  case atStart => exact ⟨0, by omega, rfl, Blk.new w n (firstk F 0), (Ext.refl _).alloc _⟩
  case round =>
    obtain ⟨k, hkg, rfl, hblk, hx1⟩ := hrel
    have HX := Lib.hid hx1
    have HK := Lib.hid hblk
    clear hx1 hblk
    cases gk with
    | zero =>
      obtain rfl : k = n := by omega
      clear hkg
      go_wp2
      go_ret
      exact ⟨rfl, HK.out.congr (fun i hi => if_pos hi), HX.out⟩
    | succ gh =>
      have hk : k < n := by omega
      have hkI : (k : Int) < (n : Int) := by omega
      go_wp2_with fail
      refine (HVF.out k wr hk HX.out).mono ?_
      rintro e w2 ⟨rfl, hx2⟩
      have hc := (HK.out.ext hx2).cell k hk
      have hz := (HK.out.ext hx2).frozen k
      have hs := (HK.out.ext hx2).store k (F k)
      rw [HST.out k] at hs
      have HS := Lib.hid hs
      have HX2 := Lib.hid ((HX.out.trans hx2).setCell (p := ⟨w.heap.size, k, none⟩) (Nat.le_refl _) (.int .u8 ((F k : Nat) : Int)))
      clear hs hx2
      go_wp2
      go_roundg gh
      case measure => omega
      case rel => exact ⟨k + 1, by omega, by go_num, HS.out, HX2.out⟩

set_option maxHeartbeats 800000 in
set_option maxRecDepth 100000 in
theorem h_deal_odd (f : Nat) (s c : List Nat) (o m : Int) (A B : Option Addr) (ca cb : Nat) (w : World) (h : ¬ DealOk s c o m) :
    Calls Try.prog 12 #[.pointer (some ⟨f, 0, none⟩), .slice A s.length ca, .slice B c.length cb, .int .i64 o, .int .i64 m] w (GivesR [] 1 w) := by
  have HD := Lib.hid (h_dealable_no s.length c.length o m A B ca cb w h)
  clear h
  generalize s.length = n at *
  generalize c.length = k at *
  go_enter Try.func12, Try.ntmps12
  go_wp2_with fail
  refine HD.out.mono ?_
  rintro e w1 ⟨rfl, q1, rfl⟩
  go_wp2
  go_ret2
  exact ⟨_, rfl, rsl_none _, (Ext.refl w).drewN q1⟩

set_option maxHeartbeats 1600000 in
set_option maxRecDepth 100000 in
theorem h_deal (f : Nat) (s c : List Nat) (o : Int) (d n : Nat) (A B : Option Addr) (ca cb : Nat) (w : World) (hf : IsField w f) (hs : Rd w A s) (hc : Rd w B c) (hcb : c.length ≤ cb) (h : DealOk s c o (n : Int)) (ho : o = (d : Int) + 1) :
    Calls Try.prog 12 #[.pointer (some ⟨f, 0, none⟩), .slice A s.length ca, .slice B c.length cb, .int .i64 o, .int .i64 (n : Int)] w (GivesR (deal s c d n) 0 w) := by
  have HD := Lib.hid (h_dealable_yes s.length c.length o n A B ca cb w h)
  have hcl := h.len ho
  obtain ⟨h1, h2, h3, h4, h5⟩ := h
  have HS := Lib.hid (fun p W (hp : p < 200) (hW : Ext w W) => h_share f s c d p o A B ca cb W (hf.ext hW) (hs.ext hW) (hc.ext hW) hcb ho (by omega) hcl h4 hp)
  have HLT := Lib.hid (fun i x => Pol.ev_lt (pl s c d i) x (pl_sm hs.1 hc.1 d i))
  have HSL := Lib.hid (fun who => shr_len s c d who)
  have HSE := Lib.hid (fun who => show shr s c d who = tab s.length (fun i => ev (pl s c d i) (who + 1)) from rfl)
  have HDL := Lib.hid (deal_len s c d n)
  have HDR := Lib.hid (deal_ro s c d n)
  clear hf hs hc hcl h5 ho
  generalize s.length = ns at *
  generalize c.length = nc at *
  have hmr := fun W => run_make_rows n (by omega) W
  go_enter Try.func12, Try.ntmps12
  go_wp2_with fail
  refine HD.out.mono ?_
  rintro e w1 ⟨rfl, q1, rfl⟩
  have HX1 := Lib.hid ((Ext.refl w).drewN q1)
  generalize w.drewN q1 = w1 at HX1 ⊢
  clear HD
  go_wp2
  clear hmr
  go_loopg [23] n (fun gh v wx => ∃ k : Nat, k + gh = n ∧ v = .int .i64 (k : Int) ∧ RowsAt wx w1.heap.size n (shr s c d) k ∧ Ext w1 wx)
  case atStart => exact ⟨0, by omega, rfl, ⟨room_made w1 n, fun i hi => by omega⟩, (Ext.refl w1).alloc _⟩
  case round =>
    obtain ⟨k, hkg, rfl, hrow, hx⟩ := hrel
    have HR := Lib.hid hrow
    have HX := Lib.hid hx
    clear hrow hx
    cases gk with
    | zero =>
      obtain rfl : k = n := by omega
      clear hkg
      go_wp2
      go_ret2
      refine ⟨_, rfl, ⟨some ⟨w1.heap.size, 0, none⟩, k, (show Value.slice (some ⟨w1.heap.size, 0, none⟩) k k = Value.slice (some ⟨w1.heap.size, 0, none⟩) (deal s c d k).length k from by rw [HDL.out]), Nat.le_of_eq HDL.out, fun j hj => ?_⟩, HX1.out.trans HX.out⟩
      rw [HDL.out] at hj
      rw [HDR.out j hj]
      obtain ⟨B, c, h1, h2, h3, _⟩ := HR.out.row j hj
      exact ⟨w1.heap.size, 0, _, c, rfl, by rw [Nat.zero_add]; exact h1, h2, h3⟩
    | succ gh =>
      have hk : k < n := by omega
      have hkI : (k : Int) < (n : Int) := by omega
      go_wp2_with fail
      refine (HS.out k wr (by omega) (HX1.out.trans HX.out)).mono ?_
      rintro e w2 ⟨rfl, hblk, hx2⟩
      have hR := HR.out.ext hx2
      obtain ⟨⟨v0, hv0⟩, hf0⟩ := hR.room k hk
      have hgw : w1.heap.size < wr.heap.size := block_lt_of_cell (HR.out.room k hk).1.choose_spec
      have hrd := hblk.reads (fun i _ => HLT.out i (k + 1))
      rw [← HSE.out k] at hrd
      have HPUT := Lib.hid (hR.put hk (HSL.out k) (Nat.le_refl _) hrd (by omega))
      have HXP := Lib.hid ((HX.out.trans hx2).setCell (p := ⟨w1.heap.size, k, none⟩) (Nat.le_refl _) (.slice (some ⟨wr.heap.size, 0, none⟩) ns ns))
      clear hR hrd hblk hx2
      go_wp2
      go_roundg gh
      case measure => omega
      case rel => exact ⟨k + 1, by omega, by go_num, HPUT.out, HXP.out⟩
end Go.Proofs.Ytffdmhcbcaemfaa

/-
  What repeated of layer 4 does: it tells whether two points have one place. Conditions: no more than 2^20 points.
-/
namespace Go.Proofs.Ytffdmhcbcaemfaa
open Go.RowKit
open Pol (co Sm px py Apart)

/-- Whether a place was among the first i. -/
def sn (l : List (Nat × Nat)) : Nat → Nat → Bool
  | 0, _ => false
  | i + 1, x => px l i == x || sn l i x
theorem sn_yes {l : List (Nat × Nat)} {x : Nat} : ∀ {i}, sn l i x = true → ∃ j, j < i ∧ px l j = x
  | 0, h => by cases h
  | i + 1, h => by
    rw [sn, Bool.or_eq_true] at h
    rcases h with h | h
    · exact ⟨i, by omega, beq_iff_eq.1 h⟩
    · obtain ⟨j, hj, e⟩ := sn_yes h
      exact ⟨j, by omega, e⟩
theorem sn_no {l : List (Nat × Nat)} {x : Nat} : ∀ {i}, sn l i x = false → ∀ j, j < i → px l j ≠ x
  | 0, _, j, hj => by omega
  | i + 1, h, j, hj => by
    rw [sn, Bool.or_eq_false_iff] at h
    by_cases e : j = i
    · subst e; exact fun e' => by rw [e'] at h; simp at h
    · exact sn_no h.2 j (by omega)
/-- Marks as cells. -/
def sb (S : Nat → Bool) : Array Value := Array.ofFn (n := 256) fun i => Value.bool (S i.val)
theorem sb_size (S : Nat → Bool) : (sb S).size = 256 := by simp [sb]
theorem sb_at (S : Nat → Bool) (i : Nat) (h : i < 256) : (sb S)[i]? = some (.bool (S i)) := by simp [sb, h]
theorem sb_set (S S' : Nat → Bool) (k : Nat) (v : Bool) (h : ∀ i, S' i = if i = k then v else S i) : (sb S).setIfInBounds k (.bool v) = sb S' := by
  apply Array.ext (by simp [sb])
  intro i h1 h2
  have hi : i < (sb S).size := by simpa using h1
  rw [Array.getElem_setIfInBounds hi]
  simp only [sb, Array.getElem_ofFn, h i]
  by_cases e : k = i
  · subst e; simp
  · rw [if_neg e, if_neg (fun h => e h.symm)]
theorem zero_seen : (∀ w, (zeroValue 96).run Try.prog w = .ok (.agg (sb fun _ => false)) w) ∧ (Try.prog.info? 96).map (·.size) = some 256 := by
  have e : sb (fun _ => false) = Array.replicate 256 (.bool false) := by
    apply Array.ext (by simp [sb])
    intro i h1 h2
    simp [sb]
  rw [e]
  exact zero_of_info (by kernel_rfl)
def SBlk (w : World) (g : Nat) (S : Nat → Bool) : Prop := w.heap[g]? = some (.cells (sb S) 96 (0, 0))
theorem SBlk.cell {w : World} {g : Nat} {S : Nat → Bool} (h : SBlk w g S) (i : Nat) (hi : i < 256) : w.cell? ⟨g, i, none⟩ = some (.bool (S i)) := by rw [cell_of_row w g i _ _ _ h, sb_at S i hi]
theorem SBlk.frozen {w : World} {g : Nat} {S : Nat → Bool} (h : SBlk w g S) (i : Nat) : w.frozen? ⟨g, i, none⟩ = false := frozen_of_row w g i _ _ h
theorem SBlk.store {w : World} {g : Nat} {S S' : Nat → Bool} (h : SBlk w g S) (k : Nat) (v : Bool) (hs : ∀ i, S' i = if i = k then v else S i) : SBlk (w.setCell ⟨g, k, none⟩ (.bool v)) g S' := by
  unfold SBlk
  rw [heap_setCell_same w g k _ _ _ h, sb_set S S' k v hs]
theorem SBlk.lt {w : World} {g : Nat} {S : Nat → Bool} (h : SBlk w g S) : g < w.heap.size := by
  rcases Nat.lt_or_ge g w.heap.size with hlt | hge
  · exact hlt
  · unfold SBlk at h; rw [Array.getElem?_eq_none hge] at h; cases h
theorem SBlk.ext {w w' : World} {g : Nat} {S : Nat → Bool} (h : SBlk w g S) (hx : Ext w w') : SBlk w' g S := (hx.below.block g h.lt).trans h
/-- Whether two points have one place. -/
def RepE (l : List (Nat × Nat)) (w : World) (e : Ending) (w' : World) : Prop := (Apart l l.length ∧ Tells (.bool false) w e w') ∨ (¬ Apart l l.length ∧ Tells (.bool true) w e w')

set_option maxHeartbeats 800000 in
set_option maxRecDepth 100000 in
theorem w_repeated (l : List (Nat × Nat)) (A : Option Addr) (ca : Nat) (w : World) (ha : PRd w A l) (hl : l.length ≤ 1048576) :
    Calls Try.prog 49 #[.slice A l.length ca] w (RepE l w) := by
  unfold RepE
  generalize hnn : l.length = n at *
  have HA := Lib.hid ha
  have HN := Lib.hid hnn
  have hz := zero_seen.1
  clear ha hnn
  go_enter Try.func49, Try.ntmps49
  go_wp2
  clear hz
  go_loopg [8] n (fun g s wx => ∃ k : Nat, k + g = n ∧ s = .int .i64 (k : Int) ∧ SBlk wx w.heap.size (sn l k) ∧ Ext w wx ∧ Apart l k)
  case atStart => exact ⟨0, by omega, rfl, heap_alloc_new w _, (Ext.refl _).alloc _, fun i k _ hi => by omega⟩
  case round =>
    obtain ⟨k, hkg, rfl, hblk, hx, hap⟩ := hrel
    have HK := Lib.hid hblk
    have HX := Lib.hid hx
    have HP := Lib.hid hap
    clear hblk hx hap
    cases gk with
    | zero =>
      obtain rfl : k = n := by omega
      clear hkg
      go_wp2
      go_ret
      exact .inl ⟨HP.out, rfl, HX.out⟩
    | succ g =>
      have hk : k < n := by omega
      have hkI : (k : Int) < (n : Int) := by omega
      obtain ⟨b1, o1, e1, hc1, hc2⟩ := (HA.out.ext HX.out).2 k (by rw [HN.out]; exact hk)
      subst e1
      obtain ⟨hpx, hpy⟩ := HA.out.1 k
      obtain ⟨x, hxx⟩ : ∃ x, px l k = x := ⟨_, rfl⟩
      obtain ⟨y, hyy⟩ : ∃ y, py l k = y := ⟨_, rfl⟩
      rw [hxx] at hc1 hpx
      rw [hyy] at hc2 hpy
      have hxI : (x : Int) < 256 := by omega
      have hG := HK.out.lt
      have z0 := HK.out.ext ((Ext.refl wr).alloc (.cells #[.int .u8 (x : Int), .int .u8 (y : Int)] 77))
      have z1 := z0.cell x hpx
      have z2 := z0.frozen x
      clear z0
      cases hb : sn l k x with
      | true =>
        rw [hb] at z1
        obtain ⟨j, hj, ej⟩ := sn_yes hb
        have HNO := Lib.hid (show ¬ Apart l n from fun h => h k j hj hk (by rw [hxx, ej]))
        clear hb hj ej hxx hyy
        go_wp2
        go_ret
        exact .inr ⟨HNO.out, rfl, HX.out.alloc _⟩
      | false =>
        rw [hb] at z1
        have HNO := Lib.hid (sn_no hb)
        have hs := (HK.out.store (S' := sn l (k + 1)) x true (fun i => by
          rw [sn, hxx]
          by_cases e : i = x
          · subst e; simp
          · rw [if_neg e]
            have : (x == i) = false := by simp; exact fun h => e h.symm
            rw [this, Bool.false_or])).ext ((Ext.refl _).alloc (.cells #[.int .u8 (x : Int), .int .u8 (y : Int)] 77))
        have HS := Lib.hid hs
        have HXX := Lib.hid hxx
        clear hb hxx hyy hs
        go_wp2
        go_roundg g
        case measure => omega
        case rel => exact ⟨k + 1, by omega, by go_num, HS.out, (HX.out.setCell (p := ⟨w.heap.size, x, none⟩) (Nat.le_refl _) _).alloc _, fun i j h1 h2 => by
          by_cases e : i = k
          · subst e; rw [HXX.out]; exact fun e' => HNO.out j h1 e'.symm
          · exact HP.out i j h1 (by omega)⟩
end Go.Proofs.Ytffdmhcbcaemfaa

/-
  What Solve of layer 3 is to do, as one statement. Conditions: a field that New made, no more than 2^12 rows and elements.
-/
namespace Go.Proofs.Ytffdmhcbcaemfaa
open Go.RowKit
open Pol (co Sm)
open Lin (SolSome SolNone Cnt NotFree Free KL)

structure SolveSaid : Prop where
  odd : ∀ (f : Nat) (rows : List (List Nat)) (A : Option Addr) (c : Nat) (w : World), IsField w f → RRd w A rows → rows.length ≤ c → rows.length ≤ 4096 → (∀ i, i < rows.length → (ro rows i).length ≤ 4096) → ¬ Rt rows →
    Calls Try.prog 50 #[.pointer (some ⟨f, 0, none⟩), .slice A rows.length c] w (GivesE [] 1 w)
  solve : ∀ (f : Nat) (rows : List (List Nat)) (A : Option Addr) (c : Nat) (w : World), IsField w f → RRd w A rows → rows.length ≤ c → rows.length ≤ 4096 → (∀ i, i < rows.length → (ro rows i).length ≤ 4096) → Rt rows →
    Calls Try.prog 50 #[.pointer (some ⟨f, 0, none⟩), .slice A rows.length c] w (SolveE rows w)
/-! ### Kernels -/
theorem kr_iff (N : Nat) (rows : List (List Nat)) (x : Nat → Nat) : KR N rows x ↔ KL N rows x :=
  ⟨fun h r hr => by
    obtain ⟨i, hi, rfl⟩ := ro_mem hr
    exact h i hi, fun h i hi => h (ro rows i) (ro_in rows i hi)⟩
theorem kr_kl (N : Nat) (rows : List (List Nat)) : Lin.Alike (KR N rows) (KL N rows) := fun x _ => kr_iff N rows x
theorem kr_lin (N : Nat) (rows : List (List Nat)) (hb : Lin.Bytes rows) : Lin.IsLin (KR N rows) := by
  have h := Lin.kl_lin N rows hb
  exact ⟨fun x y hx hy h1 h2 => (kr_iff N rows _).2 (h.add x y hx hy ((kr_iff N rows _).1 h1) ((kr_iff N rows _).1 h2)), fun c x hc hx h1 => (kr_iff N rows _).2 (h.smul c x hc hx ((kr_iff N rows _).1 h1)),
    fun x y e h1 => (kr_iff N rows _).2 (h.cong x y e ((kr_iff N rows _).1 h1))⟩
theorem solve_is (C : SolveSaid) (f : Nat) (rows : List (List Nat)) (A : Option Addr) (c : Nat) (w : World) (hf : IsField w f) (hr : RRd w A rows) (hc : rows.length ≤ c) (hl : rows.length ≤ 4096) (hll : ∀ i, i < rows.length → (ro rows i).length ≤ 4096) (ht : Rt rows) (x : List Nat) (hx : SolSome (KR (wide rows) rows) (wide rows - 1) x) :
    Calls Try.prog 50 #[.pointer (some ⟨f, 0, none⟩), .slice A rows.length c] w (GivesE x 0 w) := (C.solve f rows A c w hf hr hc hl hll ht).mono fun _ _ h => by
  rcases h with ⟨y, hy, h⟩ | ⟨hn, _⟩
  · rwa [Lin.sol_one (kr_lin _ rows hr.sm) hy hx] at h
  · exact absurd hn hx.not_none
theorem solve_no (C : SolveSaid) (f : Nat) (rows : List (List Nat)) (A : Option Addr) (c : Nat) (w : World) (hf : IsField w f) (hr : RRd w A rows) (hc : rows.length ≤ c) (hl : rows.length ≤ 4096) (hll : ∀ i, i < rows.length → (ro rows i).length ≤ 4096) (ht : Rt rows) (hx : SolNone (KR (wide rows) rows) (wide rows - 1)) :
    Calls Try.prog 50 #[.pointer (some ⟨f, 0, none⟩), .slice A rows.length c] w (GivesE [] 7 w) := (C.solve f rows A c w hf hr hc hl hll ht).mono fun _ _ h => by
  rcases h with ⟨y, hy, _⟩ | ⟨_, h⟩
  · exact absurd hx hy.not_none
  · exact h
end Go.Proofs.Ytffdmhcbcaemfaa

/-
  The key equations as rows: what solves them, what it means that nothing does, and what the quotient tells. Conditions: no place is there twice; of the program's memory nothing is said.
-/
namespace Go.Proofs.Ytffdmhcbcaemfaa
open Go.RowKit
open Gf (mul)
open Pol (co Sm px py xs ev mulP trim Apart)
open Wel (Ap bad)
open Lin (dot ext1 By SolSome SolNone)

theorem xs_split (f : Nat → Nat) (a : Nat) : ∀ b, xs (a + b) f = xs a f ^^^ xs b (fun i => f (a + i))
  | 0 => by simp [xs]
  | b + 1 => by
    rw [← Nat.add_assoc]
    simp only [xs]
    rw [xs_split f a b, Nat.xor_assoc]
theorem co_app_left (a b : List Nat) (i : Nat) (h : i < a.length) : co (a ++ b) i = co a i := by unfold co; rw [List.getElem?_append_left h]
theorem co_app_right (a b : List Nat) (i : Nat) : co (a ++ b) (a.length + i) = co b i := by
  unfold co
  rw [List.getElem?_append_right (by omega), Nat.add_sub_cancel_left]
/-- A row times unknowns. -/
theorem eqr_dot (l : List (Nat × Nat)) (hl : ∀ i, px l i < 256 ∧ py l i < 256) (k v i : Nat) (Q E : List Nat) (hQ : Sm Q) (hE : Sm E) (hlQ : Q.length = k + v) (hlE : E.length = v + 1) (z : Nat → Nat) (hz1 : ∀ j, j < k + v → z j = co Q j) (hz2 : ∀ j, j < v + 1 → z (k + v + j) = co E j) :
    dot (k + 2 * v + 1) (co (eqr l k v i)) z = ev Q (px l i) ^^^ mul (py l i) (ev E (px l i)) := by
  obtain ⟨hx, hy⟩ := hl i
  unfold dot
  rw [show k + 2 * v + 1 = (k + v) + (v + 1) from by omega, xs_split]
  congr 1
  · rw [Pol.ev_pow Q _ hQ hx, hlQ]
    refine Pol.xs_congr _ fun j hj => ?_
    unfold eqr
    rw [co_app_left _ _ _ (by rw [tab_len]; exact hj), co_tab, if_pos hj, hz1 j hj, Gf.mul_comm]
  · rw [Pol.ev_pow E _ hE hx, hlE, Pol.mul_xs _ _ hy _ (fun j _ => Gf.mul_lt _ _)]
    refine Pol.xs_congr _ fun j hj => ?_
    unfold eqr
    have e := co_app_right (tab (k + v) (Gf.pow (px l i))) (tab (v + 1) (fun j => mul (py l i) (Gf.pow (px l i) j))) j
    rw [tab_len] at e
    rw [e, co_tab, if_pos hj, hz2 j hj, Gf.mul_assoc _ _ _ hy (Gf.pow_lt _ _) (hE j), Gf.mul_comm (Gf.pow _ _)]
theorem num_eqs (l : List (Nat × Nat)) (k v i : Nat) (h : i < l.length) : num (eqs l k v) i = co (eqr l k v i) := by
  funext j
  unfold num
  rw [eqs_ro l k v i h]
theorem kr_eqs (l : List (Nat × Nat)) (hl : ∀ i, px l i < 256 ∧ py l i < 256) (k v : Nat) (Q E : List Nat) (hQ : Sm Q) (hE : Sm E) (hlQ : Q.length = k + v) (hlE : E.length = v + 1) (z : Nat → Nat) (hz1 : ∀ j, j < k + v → z j = co Q j) (hz2 : ∀ j, j < v + 1 → z (k + v + j) = co E j) :
    KR (k + 2 * v + 1) (eqs l k v) z ↔ ∀ p ∈ l, ev Q p.1 = mul p.2 (ev E p.1) := by
  unfold KR Lin.Ker
  rw [eqs_len]
  constructor
  · intro h p hp
    obtain ⟨i, hi, e⟩ := List.mem_iff_getElem.1 hp
    have := h i hi
    rw [num_eqs l k v i hi, eqr_dot l hl k v i Q E hQ hE hlQ hlE z hz1 hz2, (Wel.px_at l i hi).1, (Wel.px_at l i hi).2, e] at this
    exact Gf.xor_zero_iff _ _ this
  · intro h i hi
    rw [num_eqs l k v i hi, eqr_dot l hl k v i Q E hQ hE hlQ hlE z hz1 hz2, (Wel.px_at l i hi).1, (Wel.px_at l i hi).2, h _ (List.getElem_mem hi), Nat.xor_self]
theorem eqs_wide (l : List (Nat × Nat)) (k v : Nat) (h : 0 < l.length) : wide (eqs l k v) = k + 2 * v + 1 := by unfold wide; rw [eqs_ro l k v 0 h, eqr_len]
theorem eqs_rt (l : List (Nat × Nat)) (k v : Nat) (h : 0 < l.length) : Rt (eqs l k v) := by
  refine ⟨by rw [eqs_len]; exact h, fun i hi => ?_⟩
  rw [eqs_len] at hi
  rw [eqs_ro l k v i hi, eqs_ro l k v 0 h, eqr_len, eqr_len]
  exact ⟨by omega, rfl⟩
/-- What the unknowns are. -/
def qOf (k v : Nat) (x : List Nat) : List Nat := x.take (k + v)
def eOf (k v : Nat) (x : List Nat) : List Nat := x.drop (k + v) ++ [1]
theorem qOf_len {k v : Nat} {x : List Nat} (h : x.length = k + 2 * v) : (qOf k v x).length = k + v := by unfold qOf; rw [List.length_take]; omega
theorem eOf_len {k v : Nat} {x : List Nat} (h : x.length = k + 2 * v) : (eOf k v x).length = v + 1 := by unfold eOf; rw [List.length_append, List.length_drop]; simp; omega
theorem qOf_sm {k v : Nat} {x : List Nat} (h : Sm x) : Sm (qOf k v x) := Pol.co_lt_of fun z hz => h.mem z (List.mem_of_mem_take hz)
theorem eOf_sm {k v : Nat} {x : List Nat} (h : Sm x) : Sm (eOf k v x) := Pol.co_lt_of fun z hz => by
  rcases List.mem_append.1 hz with hz | hz
  · exact h.mem z (List.mem_of_mem_drop hz)
  · simp at hz; omega
theorem eOf_top {k v : Nat} {x : List Nat} (h : x.length = k + 2 * v) : co (eOf k v x) v = 1 ∧ ∀ i, v < i → co (eOf k v x) i = 0 := by
  constructor
  · have := co_app_right (x.drop (k + v)) [1] 0
    rw [List.length_drop, show x.length - (k + v) + 0 = v from by omega] at this
    exact this
  · exact fun i hi => Pol.co_out _ _ (by rw [eOf_len h]; exact hi)
theorem sol_key {l : List (Nat × Nat)} (hl : ∀ i, px l i < 256 ∧ py l i < 256) {k v : Nat} {x : List Nat} (hx : SolSome (KR (k + 2 * v + 1) (eqs l k v)) (k + 2 * v) x) : ∀ p ∈ l, ev (qOf k v x) p.1 = mul p.2 (ev (eOf k v x) p.1) := by
  refine (kr_eqs l hl k v _ _ (qOf_sm hx.sm) (eOf_sm hx.sm) (qOf_len hx.len) (eOf_len hx.len) _ (fun j hj => ?_) (fun j hj => ?_)).1 hx.sol
  · unfold ext1
    rw [if_pos (by omega)]
    unfold qOf co
    rw [List.getElem?_take, if_pos hj]
  · unfold ext1
    by_cases e : j < v
    · rw [if_pos (by omega)]
      unfold eOf
      rw [co_app_left _ _ _ (by rw [List.length_drop, hx.len]; omega)]
      unfold co
      rw [List.getElem?_drop]
    · obtain rfl : j = v := by omega
      rw [if_neg (by omega), if_pos (by omega), (eOf_top hx.len).1]
theorem none_code {l : List (Nat × Nat)} (hap : Ap l) {k v : Nat} (hk : 1 ≤ k) (hn : SolNone (KR (k + 2 * v + 1) (eqs l k v)) (k + 2 * v)) : ∀ a, ¬ Wel.Code l k v a := fun a ha => by
  obtain ⟨E, h1, h2, h3, h4, h5⟩ := Wel.key_has hap k v hk ha.sm ha.top ha.few
  have hcut : ∀ (L : List Nat) (n : Nat), (∀ i, n ≤ i → co L i = 0) → ∀ i, co (tab n (co L)) i = co L i := fun L n h i => by
    rw [co_tab]
    split
    · rfl
    · rw [h i (by omega)]
  have hQ := hcut (mulP a E) (k + v) h4
  have hE := hcut E (v + 1) (fun i hi => h3 i (by omega))
  refine hn (fun j => if j < k + v then co (mulP a E) j else co E (j - (k + v))) (fun j => ?_) ?_
  · show (if j < k + v then co (mulP a E) j else co E (j - (k + v))) < 256
    split
    · exact Pol.Sm.mul a E j
    · exact h1 _
  · refine (kr_eqs l hap.psm k v (tab (k + v) (co (mulP a E))) (tab (v + 1) (co E)) (fun i => by rw [hQ]; exact Pol.Sm.mul a E i) (fun i => by rw [hE]; exact h1 i) (tab_len _ _) (tab_len _ _) _ (fun j hj => ?_) (fun j hj => ?_)).2 (fun p hp => ?_)
    · unfold ext1
      rw [if_pos (by omega), hQ]
      exact if_pos hj
    · rw [hE]
      unfold ext1
      by_cases e : j < v
      · rw [if_pos (by omega)]
        show (if k + v + j < k + v then co (mulP a E) (k + v + j) else co E (k + v + j - (k + v))) = co E j
        rw [if_neg (by omega), Nat.add_sub_cancel_left]
      · obtain rfl : j = v := by omega
        rw [if_neg (by omega), if_pos (by omega), h2]
    · rw [Pol.ev_congr _ _ _ hQ, Pol.ev_congr _ _ _ hE]
      exact h5 p hp
/-- What is left over tells that there is none. -/
theorem rest_code {l : List (Nat × Nat)} (hap : Ap l) {k v : Nat} (hk : 1 ≤ k) (hn : k + 2 * v ≤ l.length) {Q E q r : List Nat} (hQ : Sm Q) (hE : Sm E) (hlQ : Q.length = k + v) (hE1 : co E v = 1) (hEz : ∀ i, v < i → co E i = 0) (hkey : ∀ p ∈ l, ev Q p.1 = mul p.2 (ev E p.1))
    (hq : Sm q) (hm : ∀ j, co (mulP q E) j ^^^ co r j = co Q j) (hr : r.length ≤ v) (ht : trim r = r) (hne : r ≠ []) : ∀ a, ¬ Wel.Code l k v a := fun a ha => by
  have h := Wel.key_tells hap k v hk hn ha.sm hQ hE ha.top (fun i hi => Pol.co_out _ _ (by omega)) hEz ha.few hkey
  have := (Pol.div_one q a E r v hq ha.sm hE (by omega) hEz (fun i hi => Pol.co_out _ _ (by omega)) (fun j => by rw [hm, h])).2
  exact hne (by rw [← ht]; exact (Pol.trim_nil_iff r).2 this)
/-- Without a rest the quotient goes through all points but as many as may be wrong. -/
theorem quot_code {l : List (Nat × Nat)} (hap : Ap l) {k v : Nat} {Q E q : List Nat} (hE : Sm E) (hlQ : Q.length = k + v) (hE1 : co E v = 1) (hEz : ∀ i, v < i → co E i = 0) (hkey : ∀ p ∈ l, ev Q p.1 = mul p.2 (ev E p.1))
    (hq : Sm q) (hm : ∀ j, co (mulP q E) j = co Q j) (ht : trim q = q) : q.length ≤ k ∧ Wel.Code l k v (Wel.pad k q) := by
  have hz : ∀ i, k ≤ i → co q i = 0 := fun i hi => Decidable.byContradiction fun hne => by
    have h0 : trim q ≠ [] := fun e => hne ((Pol.trim_nil_iff q).1 e i)
    obtain ⟨t1, t2⟩ := Pol.top_of q h0
    have hge : i ≤ (trim q).length - 1 := Decidable.byContradiction fun hlt => hne (t2 i (by omega))
    have := Pol.mulP_top q E _ v t2 hEz
    rw [hm, Pol.co_out _ _ (by omega), hE1, Gf.mul_one _ (hq _)] at this
    exact t1 this.symm
  have hlen : q.length ≤ k := by rw [← ht]; exact Pol.trim_le q k hz
  refine ⟨hlen, Wel.pad_len k q hlen, fun i => by rw [Wel.co_pad]; exact hq i, ?_⟩
  rw [Wel.bad_congr (Wel.co_pad k q)]
  refine Decidable.byContradiction fun hlt => ?_
  have hsub : (((l.filter fun p => !Wel.ok q p).map (·.1)).take (v + 1)).Sublist (l.map (·.1)) := (List.take_sublist _ _).trans (List.Sublist.map _ List.filter_sublist)
  have hb : v < (l.filter fun p => !Wel.ok q p).length := by unfold Wel.bad at hlt; omega
  have := Pol.roots (v + 1) E (((l.filter fun p => !Wel.ok q p).map (·.1)).take (v + 1)) (by rw [List.length_take, List.length_map]; omega) (hap.one.sublist hsub) (fun x hx => by
    obtain ⟨p, hp, rfl⟩ := List.mem_map.1 (hsub.subset hx)
    exact (hap.sm p hp).1) hE (fun i hi => hEz i (by omega)) (fun x hx => by
    obtain ⟨p, hp, rfl⟩ := List.mem_map.1 (List.mem_of_mem_take hx)
    obtain ⟨h1, h2⟩ := List.mem_filter.1 hp
    have hno : ev q p.1 ≠ p.2 := fun e => by rw [Wel.ok_iff.2 e] at h2; simp at h2
    have hk := hkey p h1
    rw [← Pol.ev_congr _ _ _ hm, Pol.ev_mulP q E p.1 hq hE (hap.sm p h1).1] at hk
    exact Decidable.byContradiction fun hne => hno (Gf.mul_cancel _ _ _ (Pol.ev_lt q _ hq) (hap.sm p h1).2 (Pol.ev_lt E _ hE) hne hk)) v
  omega
end Go.Proofs.Ytffdmhcbcaemfaa

/-
  What rectangular of layer 3 does: it tells whether there are rows, and elements in them, as many in each. Conditions: no more than 2^16 elements and rows.
-/
namespace Go.Proofs.Ytffdmhcbcaemfaa
open Go.RowKit
open Pol (co Sm)

set_option maxHeartbeats 800000 in
set_option maxRecDepth 100000 in
theorem s_rect (rows : List (List Nat)) (A : Option Addr) (c : Nat) (w : World) (ha : RRd w A rows) (hl : rows.length ≤ 65536) (hll : ∀ i, i < rows.length → (ro rows i).length ≤ 65536) :
    Calls Try.prog 57 #[.slice A rows.length c] w (Says (Rt rows) w) := by
  generalize hn : rows.length = n at *
  have HA := Lib.hid ha
  have HN := Lib.hid hn
  have HLL := Lib.hid hll
  clear ha hn hll
  by_cases hz : n = 0
  · have tz : ((n : Int) == 0) = true := by simp [hz]
    have HZ := Lib.hid hz
    clear hz
    go_enter Try.func57, Try.ntmps57
    go_wp2
    go_ret
    exact .inr ⟨fun h => by have := h.1; have := HN.out; have := HZ.out; omega, rfl, 0, rfl⟩
  · have tz : ((n : Int) == 0) = false := by simp; omega
    have h0I : (0 : Int) < (n : Int) := by omega
    obtain ⟨b, o, B0, c0, rfl, hc0, hl0, _⟩ := HA.out 0 (by rw [HN.out]; omega)
    rw [Nat.add_zero] at hc0
    have hb2 := HLL.out 0 (by omega)
    obtain ⟨n0, hn0⟩ : ∃ n0, (ro rows 0).length = n0 := ⟨_, rfl⟩
    rw [hn0] at hc0 hl0 hb2
    have HN0 := Lib.hid hn0
    clear hn0
    by_cases hz0 : n0 = 0
    · have tz0 : ((n0 : Int) == 0) = true := by simp [hz0]
      have HZ := Lib.hid hz0
      clear hz0
      go_enter Try.func57, Try.ntmps57
      go_wp2
      go_ret
      exact .inr ⟨fun h => by have := (h.2 0 (by rw [HN.out]; omega)).1; have := HN0.out; have := HZ.out; omega, rfl, 0, rfl⟩
    · have tz0 : ((n0 : Int) == 0) = false := by simp; omega
      go_enter Try.func57, Try.ntmps57
      go_wp2
      go_loopg [17] n (fun g s wx => ∃ k : Nat, k + g = n ∧ s = .int .i64 (k : Int) ∧ wx = w ∧ ∀ i, i < k → (ro rows i).length = n0)
      case atStart => exact ⟨0, by omega, rfl, rfl, fun i hi => by omega⟩
      case round =>
        obtain ⟨k, hkg, rfl, rfl, hok⟩ := hrel
        have HOK := Lib.hid hok
        clear hok
        cases gk with
        | zero =>
          obtain rfl : k = n := by omega
          clear hkg
          go_wp2
          go_ret
          exact .inl ⟨⟨by rw [HN.out]; omega, fun i hi => by rw [HN.out] at hi; have := HOK.out i hi; have := HN0.out; omega⟩, rfl, 0, rfl⟩
        | succ g =>
          have hk : k < n := by omega
          have hkI : (k : Int) < (n : Int) := by omega
          obtain ⟨b', o', Bk, ck, e0, hck, hlk, _⟩ := HA.out k (by rw [HN.out]; exact hk)
          injection e0 with e0
          injection e0 with e1 e2
          subst e1; subst e2
          have hb1 := HLL.out k hk
          obtain ⟨nk, hnk⟩ : ∃ nk, (ro rows k).length = nk := ⟨_, rfl⟩
          rw [hnk] at hck hlk hb1
          have HNK := Lib.hid hnk
          clear hnk
          by_cases h2 : nk = n0
          · have t2 : ((nk : Int) != (n0 : Int)) = false := by subst h2; simp
            have H2 := Lib.hid h2
            clear h2
            go_wp2
            go_roundg g
            case measure => omega
            case rel => exact ⟨k + 1, by omega, by go_num, rfl, fun i hi => by
              by_cases e : i = k
              · subst e
                have := HNK.out
                have := H2.out
                omega
              · exact HOK.out i (by omega)⟩
          · have t2 : ((nk : Int) != (n0 : Int)) = true := by simp; omega
            go_wp2
            go_ret
            exact .inr ⟨fun h => by have := (h.2 k (by rw [HN.out]; exact hk)).2; have := HNK.out; have := HN0.out; omega, rfl, 0, rfl⟩
end Go.Proofs.Ytffdmhcbcaemfaa

/-
  Slices of ints that read as a list, and slices of ints of a call's own: what append does with them. Conditions: the lengths add up to no more than 2^20.
-/
namespace Go.Proofs.Ytffdmhcbcaemfaa
open Go.RowKit
open Pol (co Sm)

/-! ### Ints -/
theorem int_info : (Try.prog.info? 3).map (fun i => (i.zero, i.size, i.bytes)) = some (some (.int .i64 0), 1, 8) := by kernel_rfl
def iv (l : List Nat) : List Value := l.map fun x : Nat => Value.int .i64 (x : Int)
theorem iv_len (l : List Nat) : (iv l).length = l.length := by simp [iv]
theorem iv_at (l : List Nat) (i : Nat) (h : i < l.length) : (iv l)[i]? = some (.int .i64 ((co l i : Nat) : Int)) := by simp [iv, co, List.getElem?_eq_getElem h]
/-- From address A on lie the ints l. -/
def IRd (w : World) (A : Option Addr) (l : List Nat) : Prop := ∀ i, i < l.length → ∃ b o, A = some ⟨b, o, none⟩ ∧ w.cell? ⟨b, o + i, none⟩ = some (.int .i64 ((co l i : Nat) : Int))
theorem IRd.ext {w w' : World} {A : Option Addr} {l : List Nat} (h : IRd w A l) (hx : Ext w w') : IRd w' A l := fun i hi => by
  obtain ⟨b, o, e, hc⟩ := h i hi
  exact ⟨b, o, e, (hx.below.cell (p := ⟨b, o + i, none⟩) (block_lt_of_cell hc)).trans hc⟩
/-- A slice of ints of the call's own. -/
def IMine (w : World) (base : Nat) (v : Value) (l : List Nat) : Prop := w.ownsRow base 3 1 v l.length (iv l)
theorem IMine.nil (w : World) (base : Nat) : IMine w base (.slice none 0 0) [] := World.ownsRow_nil w base _ _
theorem IMine.slice {w : World} {base : Nat} {v : Value} {l : List Nat} (h : IMine w base v l) : ∃ B c, v = .slice B l.length c ∧ l.length ≤ c ∧ IRd w B l := by
  rcases h.2 with ⟨rfl, hn⟩ | ⟨g, cap, cur, rfl, _, hg, hnc, _, _, htake⟩
  · have : l = [] := List.eq_nil_of_length_eq_zero hn
    subst this
    exact ⟨none, 0, rfl, Nat.le_refl _, fun i hi => absurd hi (by simp)⟩
  · refine ⟨_, cap, rfl, hnc, fun i hi => ⟨g, 0, rfl, ?_⟩⟩
    rw [Nat.zero_add, cell_of_row w g i cur _ _ hg, ← iv_at l i hi, ← htake, List.getElem?_take, if_pos (by omega)]
    simp
theorem IMine.ext {w w' : World} {base : Nat} {v : Value} {l : List Nat} (h : IMine w base v l) (hx : Ext w w') : IMine w' base v l :=
  World.ownsRow.kept h (row := none) ⟨hx.below.os, hx.below.tape, hx.below.output, hx.below.size, fun k hk _ => hx.below.block k hk⟩ (by
    cases hb : v.ownBlock with
    | none => exact .inl rfl
    | some k => exact .inr (by simp))
theorem IMine.keep {w w' : World} {base : Nat} {v : Value} {l : List Nat} {row : Option Nat} (h : IMine w base v l) (hg : w.grownBy w' row) (hne : ∀ k, v.ownBlock = some k → some k ≠ row) : IMine w' base v l :=
  World.ownsRow.kept h hg (by
    cases hb : v.ownBlock with
    | none => exact .inl rfl
    | some k => exact .inr (hne k hb))
theorem IMine.block {w : World} {base : Nat} {v : Value} {l : List Nat} (h : IMine w base v l) : ∀ k, v.ownBlock = some k → base ≤ k ∧ k < w.heap.size := fun k hk => World.ownsRow.lt h k hk
set_option maxRecDepth 100000 in
theorem wpList_append_int {ops : Array Oper} {rest : List Oper} {o : Oper} {a : Act} {w : World} {Q : Exit → Act → World → Prop} (hgd : o.guard = none) (s x : Operand)
    (ho : o.op = .call { callee := .builtin .append, args := #[s, x], argTypes := #[74, 74] })
    (base : Nat) (v : Value) (l : List Nat) (n : Nat) (hs : a.eval s = v) (hown : IMine w base v l) (b c : Nat) (hx : a.eval x = .slice (some ⟨b, 0, none⟩) 1 c) (hr : w.cell? ⟨b, 0, none⟩ = some (.int .i64 (n : Int)))
    (hlen : l.length + 1 ≤ 1048576) (hbase : base ≤ w.heap.size)
    (h : ∀ v' w', IMine w' base v' (l ++ [n]) → w.grownBy w' v.ownBlock → (v'.ownBlock = v.ownBlock ∨ v'.ownBlock = some w.heap.size) → wpList Try.prog ops Q rest (a.put o.dst v') w') :
    wpList Try.prog ops Q (o :: rest) a w := by
  refine wpList_plain hgd fun K hK => ?_
  obtain ⟨i0, hi, hz0, hz1, hz2⟩ := info_parts int_info
  obtain ⟨v', w', h1, h2, h3, _, h5⟩ := run_append_own_at (P := Try.prog) w base 74 o.type 3 i0 (.int .i64 0) 1 8 Try.underlying74 hi hz0 hz1 hz2 rfl (by omega) v l.length (iv l) hown ⟨b, 0, none⟩ 1 c [.int .i64 (n : Int)] rfl
    (fun j u hu => by
      match j, hu with
      | 0, hu =>
        have e : (Value.int .i64 (n : Int)) = u := by simpa using hu
        rw [addr_add, ← e]
        exact hr) (fun u hu => by
      have e : u = Value.int .i64 (n : Int) := by simpa using hu
      rw [e]; rfl) (by unfold maxLen; omega) (by omega) hbase
  unfold Oper.wp execOp
  simp only [ho, resolve, invoke, builtin, Sem.run_bind, Sem.run_pure, Result.andThen_ok, List.map_toArray, List.map_cons, List.map_nil, hs, hx, h1]
  exact hK _ _ (h v' w' (by unfold IMine; rw [List.length_append, show iv (l ++ [n]) = iv l ++ [.int .i64 (n : Int)] from by simp [iv]]; exact h2) h3 h5)
end Go.Proofs.Ytffdmhcbcaemfaa

/-
  Worlds that differ in some blocks alone: what stays in the others. Conditions: none.
-/
namespace Go.Proofs.Ytffdmhcbcaemfaa
open Go.RowKit
open Pol (co Sm)

/-- What was there is as it was, but for the blocks of X. -/
structure Only (X : Nat → Prop) (w w' : World) : Prop where
  os : w'.os = w.os
  tape : w'.tape = w.tape
  output : w'.output = w.output
  size : w.heap.size ≤ w'.heap.size
  block : ∀ k, k < w.heap.size → ¬ X k → w'.heap[k]? = w.heap[k]?
theorem Only.refl (X : Nat → Prop) (w : World) : Only X w w := ⟨rfl, rfl, rfl, Nat.le_refl _, fun _ _ _ => rfl⟩
theorem Only.trans {X : Nat → Prop} {a b c : World} (h : Only X a b) (k : Only X b c) : Only X a c :=
  ⟨k.os.trans h.os, k.tape.trans h.tape, k.output.trans h.output, Nat.le_trans h.size k.size, fun i hi hx => (k.block i (Nat.lt_of_lt_of_le hi h.size) hx).trans (h.block i hi hx)⟩
theorem Only.of_grown {X : Nat → Prop} {w w' : World} {row : Option Nat} (h : w.grownBy w' row) (hr : ∀ k, row = some k → X k) : Only X w w' :=
  ⟨h.os, h.tape, h.output, h.size, fun k hk hx => h.block k hk (fun e => hx (hr k e.symm))⟩
theorem Only.of_ext {X : Nat → Prop} {w w' : World} (h : Ext w w') : Only X w w' := ⟨h.below.os, h.below.tape, h.below.output, h.below.size, fun k hk _ => h.below.block k hk⟩
theorem Only.drewN {X : Nat → Prop} {a w : World} (h : Only X a w) (n : Nat) : Only X a (w.drewN n) := ⟨h.os, h.tape, h.output, h.size, h.block⟩
theorem Only.mono {X Y : Nat → Prop} {w w' : World} (h : Only X w w') (hxy : ∀ k, k < w.heap.size → X k → Y k) : Only Y w w' := ⟨h.os, h.tape, h.output, h.size, fun k hk hy => h.block k hk (fun hx => hy (hxy k hk hx))⟩
theorem Only.ext {X : Nat → Prop} {a w w' : World} (h : Only X w w') (hx : Ext a w) (hX : ∀ k, X k → a.heap.size ≤ k) : Ext a w' :=
  ⟨hx.below.trans ⟨h.os, h.tape, h.output, h.size, fun k hk => h.block k (Nat.lt_of_lt_of_le hk hx.size) (fun hk' => by have := hX k hk'; omega)⟩⟩
theorem Only.cell {X : Nat → Prop} {w w' : World} (h : Only X w w') {b o : Nat} {v : Value} (hc : w.cell? ⟨b, o, none⟩ = some v) (hx : ¬ X b) : w'.cell? ⟨b, o, none⟩ = some v :=
  (World.cell?_of_block (a := ⟨b, o, none⟩) (h.block b (block_lt_of_cell hc) hx)).trans hc
theorem Only.frozen {X : Nat → Prop} {w w' : World} (h : Only X w w') {b o : Nat} (hb : b < w.heap.size) (hx : ¬ X b) : w'.frozen? ⟨b, o, none⟩ = w.frozen? ⟨b, o, none⟩ :=
  World.frozen?_of_block (a := ⟨b, o, none⟩) (h.block b hb hx)
theorem IsField.only {X : Nat → Prop} {w w' : World} {b : Nat} (h : IsField w b) (ho : Only X w w') (hx : ¬ X b) : IsField w' b :=
  ⟨fun i hi => ho.cell (h.1 i hi) hx, fun x hx' => ho.cell (h.2 x hx') hx⟩
theorem IMine.only {X : Nat → Prop} {w w' : World} {base : Nat} {v : Value} {l : List Nat} (h : IMine w base v l) (ho : Only X w w') (hx : ∀ k, v.ownBlock = some k → ¬ X k) : IMine w' base v l := by
  refine ⟨h.1, ?_⟩
  rcases h.2 with h0 | ⟨g, cap, cur, e, hb, hg, h3⟩
  · exact .inl h0
  · refine .inr ⟨g, cap, cur, e, hb, ?_, h3⟩
    rw [ho.block g ?_ (hx g (by rw [e]; rfl))]
    · exact hg
    · rcases Nat.lt_or_ge g w.heap.size with hlt | hge
      · exact hlt
      · rw [Array.getElem?_eq_none hge] at hg; cases hg
/-- The blocks of some rows. -/
def InRows (m : Nat) (blk : Nat → Nat) (b : Nat) : Prop := ∃ i, i < m ∧ b = blk i
/-- Bytes of a block from a place on, as a list. -/
theorem Cells.from {w : World} {g n : Nat} {F : Nat → Nat} (h : Cells w g n F) (hs : ∀ i, i < n → F i < 256) (c : Nat) (hc : c ≤ n) : Rd w (some ⟨g, c, none⟩) (tab (n - c) fun j => F (c + j)) :=
  ⟨tab_sm _ _ (fun i hi => hs (c + i) (by omega)), fun i hi => ⟨g, c, rfl, by
    rw [tab_len] at hi
    rw [(h (c + i) (by omega)).1, co_tab, if_pos hi]⟩⟩
end Go.Proofs.Ytffdmhcbcaemfaa

/-
  A list, times an element, added to bytes from some place on: as a function of the place; a call that turns a block's bytes so. Conditions: none.
-/
namespace Go.Proofs.Ytffdmhcbcaemfaa
open Go.RowKit
open Pol (co Sm)

/-- From place o on the polynomial, times t, is added, k places of it. -/
def addm (o t : Nat) (a : List Nat) (F : Nat → Nat) (k i : Nat) : Nat := if o ≤ i ∧ i < o + k then F i ^^^ Gf.mul t (co a (i - o)) else F i
theorem addm_lt {o t : Nat} {a : List Nat} {F : Nat → Nat} {n : Nat} (h : ∀ i, i < n → F i < 256) (k i : Nat) (hi : i < n) : addm o t a F k i < 256 := by
  unfold addm
  split
  · exact Gf.xor_lt _ _ (h i hi) (Gf.mul_lt _ _)
  · exact h i hi
theorem addm_zero (o t : Nat) (a : List Nat) (F : Nat → Nat) (i : Nat) : F i = addm o t a F 0 i := by
  unfold addm; rw [if_neg (by omega)]
theorem addm_step (o t : Nat) (a : List Nat) (F : Nat → Nat) (k i : Nat) : upd (addm o t a F k) (o + k) (addm o t a F k (o + k) ^^^ Gf.mul t (co a k)) i = addm o t a F (k + 1) i := by
  unfold upd
  by_cases h : i = o + k
  · subst h
    rw [if_pos rfl]
    unfold addm
    rw [if_neg (by omega), if_pos (by omega), Nat.add_sub_cancel_left]
  · rw [if_neg h]
    unfold addm
    by_cases h' : o ≤ i ∧ i < o + k
    · rw [if_pos h', if_pos (by omega)]
    · rw [if_neg h', if_neg (by omega)]

/-- Nothing is handed back; block g's first n cells are F' now, all else is as it was. -/
def Turns (g n : Nat) (F' : Nat → Nat) (w : World) (e : Ending) (w' : World) : Prop := (∃ v, e = .returned v) ∧ Cells w' g n F' ∧ w.grownBy w' (some g)
end Go.Proofs.Ytffdmhcbcaemfaa

/-
  What addMultiple of layer 3 does: a row, times an element, added to another one that lies somewhere in a block. Conditions: a field that New made, no more than 2^20 elements; the sum lies apart from the field and the row.
-/
namespace Go.Proofs.Ytffdmhcbcaemfaa
open Go.RowKit
open Pol (co Sm)

set_option maxHeartbeats 800000 in
set_option maxRecDepth 100000 in
theorem s_addm (f : Nat) (a : List Nat) (A : Option Addr) (g o n cs ca t : Nat) (F : Nat → Nat) (w : World) (hf : IsField w f) (ha : Rd w A a) (ht : t < 256) (hc : Cells w g n F) (hF : ∀ i, i < n → F i < 256)
    (hfg : f ≠ g) (hag : ∀ b o, A = some ⟨b, o, none⟩ → 0 < a.length → b ≠ g) (hon : o + a.length ≤ n) (hlb : a.length ≤ 1048576) :
    Calls Try.prog 71 #[.pointer (some ⟨f, 0, none⟩), .slice (some ⟨g, o, none⟩) a.length cs, .slice A a.length ca, .int .u8 (t : Int)] w (Turns g n (addm o t a F a.length) w) := by
  generalize hm : a.length = m at *
  have HF := Lib.hid hf
  have HA := Lib.hid ha
  have HC := Lib.hid hc
  have HFF := Lib.hid hF
  have HM := Lib.hid hm
  have HAG := Lib.hid hag
  have HFG := Lib.hid hfg
  clear hf ha hc hF hm hag hfg
  by_cases h0 : t = 0
  · have t0 : ((t : Int) == 0) = true := by simp [h0]
    have H0 := Lib.hid h0
    clear h0
    go_enter Try.func71, Try.ntmps71
    go_wp2
    go_end0
    exact ⟨⟨_, rfl⟩, HC.out.congr (fun i _ => by unfold addm; rw [H0.out, Gf.zero_mul, Nat.xor_zero]; split <;> rfl), World.grownBy.refl _ _⟩
  · have t0 : ((t : Int) == 0) = false := by simp; omega
    go_enter Try.func71, Try.ntmps71
    go_wp2
    go_loopg [13] m (fun gk s wx => ∃ k : Nat, k + gk = m ∧ s = .int .i64 (k : Int) ∧ Cells wx g n (addm o t a F k) ∧ w.grownBy wx (some g))
    case atStart => exact ⟨0, by omega, rfl, HC.out.congr (fun i _ => addm_zero o t a F i), World.grownBy.refl _ _⟩
    case round =>
      obtain ⟨k, hkg, rfl, hcl, hg⟩ := hrel
      have HL := Lib.hid hcl
      have HG := Lib.hid hg
      clear hcl hg
      cases gk with
      | zero =>
        obtain rfl : m = k := by omega
        clear hkg
        go_wp2
        go_end0
        exact ⟨⟨_, rfl⟩, HL.out, HG.out⟩
      | succ gk =>
        have hk : k < m := by omega
        have hkI : (k : Int) < (m : Int) := by omega
        have hr := HA.out.keep HG.out (fun b o' e h => fun h' => HAG.out b o' e (by have := HM.out; omega) (by cases h'; rfl))
        obtain ⟨b1, o1, e1, hc1⟩ := hr.2 k (by rw [HM.out]; exact hk)
        subst e1
        have hc2 := (HL.out (o + k) (by omega)).1
        have hfz := (HL.out (o + k) (by omega)).2
        have hfield := HF.out.keep HG.out (fun h => HFG.out (by cases h; rfl))
        have hmul := fun q => mul_any f t (co a k) (wr.drewN q) (hfield.drewN q) ht (HA.out.1 k)
        have hadd := fun q => add_is (addm o t a F k (o + k)) (Gf.mul t (co a k)) _ (addm_lt HFF.out k (o + k) (by omega)) (Gf.mul_lt _ _) rfl (wr.drewN q)
        have hst := fun q => ((HL.out.drewN q).store (o + k) (addm o t a F k (o + k) ^^^ Gf.mul t (co a k))).congr (F' := addm o t a F (k + 1)) (fun i _ => addm_step o t a F k i)
        have hgg := fun q => (HG.out.trans (grown_drewN wr q _)).trans (grown_set (wr.drewN q) g (o + k) (.int .u8 ((addm o t a F k (o + k) ^^^ Gf.mul t (co a k) : Nat) : Int)))
        have HMU := Lib.hid hmul
        have HAD := Lib.hid hadd
        have HST := Lib.hid hst
        have HGG := Lib.hid hgg
        clear hmul hadd hst hgg hfield hr
        go_wp2
        refine wp_region_quiet_tail 15 (fun w' => ∃ q, w' = wr.drewN q) (by kernel_rfl) (by kernel_rfl) ⟨1, rfl⟩ ?_
        simp only [List.take_succ_cons, List.take_zero, List.drop_succ_cons, List.drop_zero]
        repeat (quiet_step (first | (go_at_call 46; exact quiet_hands (HMU.out _)) | (go_at_call 45; exact quiet_same (HAD.out _))))
        refine wpQuiet_nil ?_
        rintro _ ⟨q, rfl⟩
        go_wp2
        go_roundg gk
        case measure => omega
        case rel => exact ⟨k + 1, by omega, by go_num, HST.out q, HGG.out q⟩
end Go.Proofs.Ytffdmhcbcaemfaa

/-
  What Div and Inv of a field do, of a field in memory and of a nil field. Conditions: none beyond the kinds of the arguments.
-/
namespace Go.Proofs.Ytffdmhcbcaemfaa
open Go.RowKit

theorem div_nil (x y : Int) (w : World) : Calls Try.prog 70 #[.pointer none, .int .u8 x, .int .u8 y] w (Hands (.tuple #[.int .u8 0, .int .i64 1]) w) := by
  go_enter Try.func70, Try.ntmps70
  go_wp2
  go_ret2
  exact ⟨rfl, 0, rfl⟩
theorem div_zero (b : Nat) (x : Int) (w : World) : Calls Try.prog 70 #[.pointer (some ⟨b, 0, none⟩), .int .u8 x, .int .u8 0] w (Hands (.tuple #[.int .u8 0, .int .i64 1]) w) := by
  go_enter Try.func70, Try.ntmps70
  go_wp2
  go_ret2
  exact ⟨rfl, 0, rfl⟩
set_option maxHeartbeats 400000 in
theorem div_any (b x y : Nat) (w : World) (hf : IsField w b) (hx : x < 256) (hy : y < 256) (y0 : y ≠ 0) :
    Calls Try.prog 70 #[.pointer (some ⟨b, 0, none⟩), .int .u8 (x : Int), .int .u8 (y : Int)] w (Hands (.tuple #[.int .u8 ((Gf.quo x y : Nat) : Int), .int .i64 0]) w) := by
  have h1 : ((y : Int) == 0) = false := by simpa using y0
  by_cases x0 : x = 0
  · subst x0
    rw [show Gf.quo 0 y = 0 from rfl]
    clear hf
    go_enter Try.func70, Try.ntmps70
    go_wp2
    go_ret2
    exact ⟨rfl, 0, rfl⟩
  have h0 : ((x : Int) == 0) = false := by simpa using x0
  have c1 := hf.2 x hx
  have c2 := hf.2 y hy
  have l1 := Gf.lg_lt x
  have l2 := Gf.lg_lt y
  have c3 := hf.1 ((Gf.lg x + 255 - Gf.lg y) % 255) (by omega)
  have xI : (x : Int) < 256 := by omega
  have yI : (y : Int) < 256 := by omega
  clear hf
  go_enter Try.func70, Try.ntmps70
  go_wp2
  go_quiet (fail)
  go_wp2
  go_ret2
  exact ⟨ret_two (by unfold Gf.quo; rw [if_neg x0]), nq, rfl⟩

/-! ### Inverses -/
theorem inv_nil (x : Int) (w : World) : Calls Try.prog 62 #[.pointer none, .int .u8 x] w (Hands (.tuple #[.int .u8 0, .int .i64 1]) w) := by
  go_enter Try.func62, Try.ntmps62
  go_wp2_with fail
  refine (div_nil _ _ _).mono ?_
  rintro e w' ⟨rfl, n, rfl⟩
  go_wp2
  go_ret2
  exact ⟨rfl, n, rfl⟩
theorem inv_zero (b : Nat) (w : World) : Calls Try.prog 62 #[.pointer (some ⟨b, 0, none⟩), .int .u8 0] w (Hands (.tuple #[.int .u8 0, .int .i64 1]) w) := by
  go_enter Try.func62, Try.ntmps62
  go_wp2_with fail
  refine (div_zero _ _ _).mono ?_
  rintro e w' ⟨rfl, n, rfl⟩
  go_wp2
  go_ret2
  exact ⟨rfl, n, rfl⟩
theorem inv_any (b y : Nat) (w : World) (hf : IsField w b) (hy : y < 256) (y0 : y ≠ 0) :
    Calls Try.prog 62 #[.pointer (some ⟨b, 0, none⟩), .int .u8 (y : Int)] w (Hands (.tuple #[.int .u8 ((Gf.quo 1 y : Nat) : Int), .int .i64 0]) w) := by
  have hc := div_any b 1 y w hf (by omega) hy y0
  have HC := Lib.hid hc
  clear hc hf
  go_enter Try.func62, Try.ntmps62
  go_wp2_with fail
  refine HC.out.mono ?_
  rintro e w' ⟨rfl, n, rfl⟩
  go_wp2
  go_ret2
  exact ⟨rfl, n, rfl⟩

theorem div_is (b x y v : Nat) (w : World) (hf : IsField w b) (hx : x < 256) (hy : y < 256) (y0 : y ≠ 0) (h : Gf.quo x y = v) :
    Calls Try.prog 70 #[.pointer (some ⟨b, 0, none⟩), .int .u8 (x : Int), .int .u8 (y : Int)] w (Hands (.tuple #[.int .u8 (v : Int), .int .i64 0]) w) := h ▸ div_any b x y w hf hx hy y0
theorem inv_is (b y v : Nat) (w : World) (hf : IsField w b) (hy : y < 256) (y0 : y ≠ 0) (h : Gf.quo 1 y = v) :
    Calls Try.prog 62 #[.pointer (some ⟨b, 0, none⟩), .int .u8 (y : Int)] w (Hands (.tuple #[.int .u8 (v : Int), .int .i64 0]) w) := h ▸ inv_any b y w hf hy y0
end Go.Proofs.Ytffdmhcbcaemfaa

/-
  What lead of layer 3 does: a row is divided by its element in a column, and taken off all others, from that column on. Conditions: a field that New made; rows in blocks of their own, apart from the field; the element is not 0.
-/
namespace Go.Proofs.Ytffdmhcbcaemfaa
open Go.RowKit
open Pol (co Sm)
open Lin (stepF)

/-- k elements from place c on, times v. -/
def scl (c v : Nat) (f : Nat → Nat) (k j : Nat) : Nat := if c ≤ j ∧ j < c + k then Gf.mul (f j) v else f j
theorem scl_lt {c v N : Nat} {f : Nat → Nat} (h : ∀ j, j < N → f j < 256) (k j : Nat) (hj : j < N) : scl c v f k j < 256 := by
  unfold scl
  split
  · exact Gf.mul_lt _ _
  · exact h j hj
theorem scl_zero (c v : Nat) (f : Nat → Nat) (j : Nat) : f j = scl c v f 0 j := by
  unfold scl; rw [if_neg (by omega)]
theorem scl_at (c v : Nat) (f : Nat → Nat) (k : Nat) : scl c v f k (c + k) = f (c + k) := by
  unfold scl; rw [if_neg (by omega)]
theorem scl_step (c v : Nat) (f : Nat → Nat) (k j : Nat) : upd (scl c v f k) (c + k) (Gf.mul (f (c + k)) v) j = scl c v f (k + 1) j := by
  unfold upd
  by_cases h : j = c + k
  · subst h
    rw [if_pos rfl]
    unfold scl
    rw [if_pos (by omega)]
  · rw [if_neg h]
    unfold scl
    by_cases h' : c ≤ j ∧ j < c + k
    · rw [if_pos h', if_pos (by omega)]
    · rw [if_neg h', if_neg (by omega)]
/-- The rows when the first k are done. -/
def ldF (F : Nat → Nat → Nat) (d c v k : Nat) (i j : Nat) : Nat :=
  if j < c then F i j else if i = d then Gf.mul (F d j) v else if i < k then F i j ^^^ Gf.mul (F i c) (Gf.mul (F d j) v) else F i j
/-- All rows. -/
def leadF (F : Nat → Nat → Nat) (d c : Nat) (i j : Nat) : Nat :=
  if j < c then F i j else if i = d then Gf.mul (F d j) (Gf.quo 1 (F d c)) else F i j ^^^ Gf.mul (F i c) (Gf.mul (F d j) (Gf.quo 1 (F d c)))
theorem lead_step (F : Nat → Nat → Nat) (d t c : Nat) (h0 : ∀ j, j < c → F t j = 0) (i j : Nat) : leadF (fun r => F (swp d t r)) d c i j = stepF F d t c i j := by
  have hd : swp d t d = t := by unfold swp; rw [if_pos rfl]
  have hi : ∀ j, i ≠ d → F (swp d t i) j = if i = t then F d j else F i j := fun j hi => by
    unfold swp
    rw [if_neg hi]
    split <;> rfl
  unfold leadF stepF
  dsimp only
  rw [hd]
  by_cases hj : j < c
  · rw [if_pos hj, h0 j hj, Gf.zero_mul, Gf.zero_mul, Nat.xor_zero]
    by_cases e : i = d
    · rw [if_pos e, e, hd, h0 j hj]
    · rw [if_neg e, hi j e]
  · rw [if_neg hj]
    by_cases e : i = d
    · rw [if_pos e, if_pos e]
    · rw [if_neg e, if_neg e, hi j e, hi c e, Gf.mul_comm _ (Gf.mul _ _)]

/-- Lead's answer. -/
def Leads (g m N : Nat) (blk : Nat → Nat) (F' : Nat → Nat → Nat) (w : World) (e : Ending) (w' : World) : Prop :=
  e = .returned (.int .i64 0) ∧ Mat w' g m N blk F' ∧ Only (InRows m blk) w w'

set_option maxHeartbeats 1600000 in
set_option maxRecDepth 100000 in
theorem s_lead (f g m N cr d c : Nat) (blk : Nat → Nat) (F : Nat → Nat → Nat) (w : World) (hf : IsField w f) (hm : Mat w g m N blk F) (hF : ∀ i j, F i j < 256) (hfb : ∀ i, i < m → blk i ≠ f)
    (hd : d < m) (hc : c < N) (hne : F d c ≠ 0) (hmb : m ≤ 65536) (hNb : N ≤ 65536) :
    Calls Try.prog 67 #[.pointer (some ⟨f, 0, none⟩), .slice (some ⟨g, 0, none⟩) m cr, .int .i64 (d : Int), .int .i64 (c : Int)] w (Leads g m N blk (leadF F d c) w) := by
  obtain ⟨v, hv⟩ : ∃ v, Gf.quo 1 (F d c) = v := ⟨_, rfl⟩
  have hvb : v < 256 := by rw [← hv]; exact Gf.quo_lt _ _
  have HINV := Lib.hid (fun W (h : IsField W f) => inv_is f (F d c) v W h (hF d c) hne hv)
  obtain ⟨cd, hcd, hfd, hNd⟩ := hm.row d hd
  have hcc := ((hm.has d hd) c hc).1
  have hdI : (d : Int) < (m : Int) := by omega
  have hcI : (c : Int) < (N : Int) := by omega
  have HF := Lib.hid hf
  have HM := Lib.hid hm
  have HFF := Lib.hid hF
  have HFB := Lib.hid hfb
  have HV := Lib.hid hv
  clear hf hm hF hfb hv hne
  go_enter Try.func67, Try.ntmps67
  go_wp2_with fail
  refine (HINV.out w HF.out).mono ?_
  rintro e w1 ⟨rfl, q1, rfl⟩
  have hcd1 : (w.drewN q1).cell? ⟨g, d, none⟩ = some (.slice (some ⟨blk d, 0, none⟩) N cd) := hcd
  have hsl := fun W => run_from_u8 (blk d) 0 N cd c (by omega) (by omega) W
  obtain ⟨L, hL⟩ : ∃ L, N - c = L := ⟨_, rfl⟩
  rw [Nat.zero_add, hL] at hsl
  have hL1 : c + L ≤ N := by omega
  have hL2 : N ≤ c + L := by omega
  have HLL := Lib.hid hL
  clear HINV hcd hcc hL
  go_wp2
  clear hsl
  obtain ⟨w1, hw1⟩ : ∃ w1, w.drewN q1 = w1 := ⟨_, rfl⟩
  rw [hw1]
  have HM1 := Lib.hid (show Mat w1 g m N blk F from hw1 ▸ HM.out.drewN q1)
  have HF1 := Lib.hid (show IsField w1 f from hw1 ▸ HF.out.drewN q1)
  have HO1 := Lib.hid (show Only (InRows m blk) w w1 from hw1 ▸ (Only.refl _ w).drewN q1)
  clear hw1 hcd1 HM HF
  go_loopg [38] L (fun gk s wx => ∃ k : Nat, k + gk = L ∧ s = .int .i64 (k : Int) ∧ Cells wx (blk d) N (scl c v (F d) k) ∧ w1.grownBy wx (some (blk d)))
  case atStart => exact ⟨0, by omega, rfl, (HM1.out.has d hd).congr (fun j _ => scl_zero c v (F d) j), World.grownBy.refl _ _⟩
  case round =>
    obtain ⟨k, hkg, rfl, hcl, hg⟩ := hrel
    have HL := Lib.hid hcl
    have HG := Lib.hid hg
    clear hcl hg
    cases gk with
    | succ gk =>
      have hk : k < L := by omega
      have hkI : (k : Int) < (L : Int) := by omega
      have hc1 := (HL.out (c + k) (by omega)).1
      have hfz := (HL.out (c + k) (by omega)).2
      rw [scl_at] at hc1
      have hfield := HF1.out.keep HG.out (fun h => HFB.out d hd (by injection h with h; exact h.symm))
      have HMU := Lib.hid (mul_any f (F d (c + k)) v wr hfield (HFF.out d (c + k)) hvb)
      clear hfield
      go_wp2_with fail
      refine HMU.out.mono ?_
      rintro e w2 ⟨rfl, q, rfl⟩
      have hc2 : (wr.drewN q).cell? ⟨blk d, c + k, none⟩ = some (.int .u8 ((F d (c + k) : Nat) : Int)) := hc1
      have hfz2 : (wr.drewN q).frozen? ⟨blk d, c + k, none⟩ = false := hfz
      have HST := Lib.hid (((HL.out.drewN q).store (c + k) (Gf.mul (F d (c + k)) v)).congr (F' := scl c v (F d) (k + 1)) (fun j _ => scl_step c v (F d) k j))
      have HGG := Lib.hid ((HG.out.trans (grown_drewN wr q _)).trans (grown_set (wr.drewN q) (blk d) (c + k) (.int .u8 ((Gf.mul (F d (c + k)) v : Nat) : Int))))
      go_wp2
      go_roundg gk
      case measure => omega
      case rel => exact ⟨k + 1, by omega, by go_num, HST.out, HGG.out⟩
    | zero =>
      obtain rfl : L = k := by omega
      clear hkg
      have hmat := HM1.out.turn d hd _ HG.out HL.out
      have hmat2 : Mat wr g m N blk (ldF F d c v 0) := hmat.congr (fun i _ j hj => by
        unfold ldF
        by_cases e : i = d
        · rw [if_pos e, if_pos e]
          unfold scl
          by_cases h : j < c
          · rw [if_pos h, if_neg (by omega), e]
          · rw [if_neg h, if_pos (by omega)]
        · rw [if_neg e, if_neg e, if_neg (Nat.not_lt_zero i)]
          split <;> rfl)
      have honly : Only (InRows m blk) w wr := HO1.out.trans (Only.of_grown HG.out (fun k e => ⟨d, hd, by injection e with e; exact e.symm⟩))
      have HM2 := Lib.hid hmat2
      have HO2 := Lib.hid honly
      have HF2 := Lib.hid (HF1.out.keep HG.out (fun h => HFB.out d hd (by injection h with h; exact h.symm)))
      obtain ⟨w3, hw3⟩ : ∃ w3, w3 = wr := ⟨_, rfl⟩
      subst hw3
      clear hmat hmat2 honly HL HG HM1 HF1 HO1
      go_wp2
      go_loopg [54] m (fun gk s wx => ∃ k : Nat, k + gk = m ∧ s = .int .i64 (k : Int) ∧ Mat wx g m N blk (ldF F d c v k) ∧ Only (InRows m blk) w3 wx)
      case atStart => exact ⟨0, by omega, rfl, HM2.out, Only.refl _ _⟩
      case round =>
        obtain ⟨k, hkg, rfl, hmk, hok⟩ := hrel
        have HMK := Lib.hid hmk
        have HOK := Lib.hid hok
        clear hmk hok
        cases gk with
        | zero =>
          obtain rfl : k = m := by omega
          clear hkg
          have hend : Mat wr g k N blk (leadF F d c) := HMK.out.congr (fun i hi j _ => by
            unfold ldF leadF
            rw [HV.out, if_pos hi])
          have HE := Lib.hid hend
          clear hend
          go_wp2
          go_ret
          exact ⟨rfl, HE.out, HO2.out.trans HOK.out⟩
        | succ gk =>
          have hk : k < m := by omega
          have hkI : (k : Int) < (m : Int) := by omega
          obtain ⟨ck, hck, hfk, hNk⟩ := HMK.out.row k hk
          by_cases hkd : k = d
          · have tkd : ((k : Int) != (d : Int)) = false := by subst hkd; simp
            have HKD := Lib.hid hkd
            clear hkd
            have hnx : Mat wr g m N blk (ldF F d c v (k + 1)) := HMK.out.congr (fun i _ j _ => by
              unfold ldF
              by_cases e : i = d
              · rw [if_pos e, if_pos e]
              · rw [if_neg e, if_neg e]
                by_cases e2 : i < k
                · rw [if_pos e2, if_pos (show i < k + 1 by omega)]
                · rw [if_neg e2, if_neg (show ¬ i < k + 1 by have := HKD.out; omega)])
            have HNX := Lib.hid hnx
            clear hnx
            go_wp2
            go_roundg gk
            case measure => omega
            case rel => exact ⟨k + 1, by omega, by go_num, HNX.out, HOK.out⟩
          · have tkd : ((k : Int) != (d : Int)) = true := by simp; omega
            have hbk : blk d ≠ blk k := fun e => hkd (HMK.out.one d k hd hk e).symm
            have hlb : ∀ i j, i < m → j < N → ldF F d c v k i j < 256 := fun i j _ _ => by
              unfold ldF
              split
              · exact HFF.out _ _
              · split
                · exact Gf.mul_lt _ _
                · split
                  · exact Gf.xor_lt _ _ (HFF.out _ _) (Gf.mul_lt _ _)
                  · exact HFF.out _ _
            have hkc : ldF F d c v k k c = F k c := by
              unfold ldF
              rw [if_neg (Nat.lt_irrefl _), if_neg hkd, if_neg (Nat.lt_irrefl _)]
            have hcc := ((HMK.out.has k hk) c hc).1
            rw [hkc] at hcc
            have hrd := (HMK.out.has d hd).from (fun j hj => hlb d j hd hj) c (by omega)
            have hfw := HF2.out.only HOK.out (fun ⟨i, hi, e⟩ => HFB.out i hi e.symm)
            have hct := fun q => s_addm f (tab (N - c) fun j => ldF F d c v k d (c + j)) (some ⟨blk d, c, none⟩) (blk k) c N (ck - c) (cd - c) (F k c) (ldF F d c v k k) (wr.drewN q) (hfw.drewN q) (hrd.drewN q) (HFF.out k c) ((HMK.out.has k hk).drewN q) (fun j hj => hlb k j hk hj)
              (fun e => HFB.out k hk e.symm) (fun b o e _ => by injection e with e; injection e with e _; rw [← e]; exact hbk) (by rw [tab_len]; omega) (by rw [tab_len]; omega)
            rw [tab_len, HLL.out] at hct
            have HNJ := Lib.hid (show ∀ j, j < N → addm c (F k c) (tab L fun j => ldF F d c v k d (c + j)) (ldF F d c v k k) L j = ldF F d c v (k + 1) k j from fun j hj => by
              unfold addm
              by_cases h : j < c
              · rw [if_neg (by omega)]
                unfold ldF
                rw [if_pos h, if_pos h]
              · rw [if_pos (by omega), co_tab, if_pos (by omega), show c + (j - c) = j from by omega]
                unfold ldF
                rw [if_neg h, if_neg hkd, if_neg (Nat.lt_irrefl _), if_neg h, if_pos rfl, if_neg h, if_neg hkd, if_pos (Nat.lt_succ_self _)])
            have hsl := fun W => run_from_u8 (blk k) 0 N ck c (by omega) (by omega) W
            rw [Nat.zero_add, HLL.out] at hsl
            have HCT := Lib.hid hct
            have HBK := Lib.hid hbk
            have HKD := Lib.hid hkd
            clear hct hrd hfw hlb hkc hbk hkd
            go_wp2
            refine wp_region_quiet_tail 9 (fun w' => ∃ q, w' = wr.drewN q) (by kernel_rfl) (by kernel_rfl) ⟨1, rfl⟩ ?_
            simp only [List.take_succ_cons, List.take_zero, List.drop_succ_cons, List.drop_zero]
            repeat (quiet_step (fail))
            refine wpQuiet_nil ?_
            rintro _ ⟨q, rfl⟩
            go_wp2_with fail
            refine (HCT.out q).mono ?_
            rintro e w4 ⟨⟨v4, rfl⟩, hc4, hg4⟩
            have hm4 := ((HMK.out.drewN q).turn k hk _ hg4 (hc4.congr HNJ.out)).congr (F' := ldF F d c v (k + 1)) (fun i _ j _ => by
              by_cases e : i = k
              · rw [if_pos e, e]
              · rw [if_neg e]
                unfold ldF
                by_cases e2 : i < k
                · rw [if_pos e2, if_pos (show i < k + 1 by omega)]
                · rw [if_neg e2, if_neg (show ¬ i < k + 1 by omega)])
            have HM4 := Lib.hid hm4
            have HO4 := Lib.hid ((HOK.out.drewN q).trans (Only.of_grown hg4 (fun b e => ⟨k, hk, by injection e with e; exact e.symm⟩)))
            clear hc4 hg4 hm4 hsl
            go_wp2
            go_roundg gk
            case measure => omega
            case rel => exact ⟨k + 1, by omega, by go_num, HM4.out, HO4.out⟩
end Go.Proofs.Ytffdmhcbcaemfaa

/-
  What reduce of layer 3 does: rows in blocks of their own are reduced in place, up to a column, and the columns of the first coefficients are told. Conditions: a field that New made, rows apart from it, no more than 2^16 elements and rows, at least one.
-/
namespace Go.Proofs.Ytffdmhcbcaemfaa
open Go.RowKit
open Pol (co Sm)
open Lin (Red stepF)

theorem Only.more {X : Nat → Prop} {a w w' : World} {row : Option Nat} (h : Only X a w) (hg : w.grownBy w' row) (hr : ∀ k, row = some k → a.heap.size ≤ k) : Only X a w' :=
  ⟨hg.os.trans h.os, hg.tape.trans h.tape, hg.output.trans h.output, Nat.le_trans h.size hg.size, fun k hk hx => (hg.block k (Nat.lt_of_lt_of_le hk h.size) (fun e => by have := hr k e.symm; omega)).trans (h.block k hk hx)⟩

/-- What reduce hands back: the columns; the rows are reduced. -/
def Reds (g m N cols : Nat) (blk : Nat → Nat) (K : (Nat → Nat) → Prop) (w : World) (e : Ending) (w' : World) : Prop :=
  ∃ (B : Option Addr) (cb : Nat) (ps : List Nat) (blk' : Nat → Nat) (F' : Nat → Nat → Nat), e = .returned (.tuple #[.slice B ps.length cb, .int .i64 0]) ∧ ps.length ≤ cb ∧ IRd w' B ps ∧ Mat w' g m N blk' F' ∧ Red m N cols K F' ps ∧ Only (fun b => b = g ∨ InRows m blk b) w w'

/-- Two rows have changed places: what lead needs, and what it leaves. -/
structure Swapped (g m N c d : Nat) (bl : Nat → Nat) (K : (Nat → Nat) → Prop) (ps : List Nat) (w W : World) (bl2 : Nat → Nat) (G2 : Nat → Nat → Nat) : Prop where
  mat : Mat W g m N bl2 G2
  red : Red m N (c + 1) K (leadF G2 d c) (ps ++ [c])
  inn : ∀ i, i < m → ∃ j, j < m ∧ bl2 i = bl j
  ne : G2 d c ≠ 0
  bytes : ∀ i j, G2 i j < 256
  grown : w.grownBy W (some g)
theorem swapped {g m N c d t cd ct : Nat} {bl : Nat → Nat} {K : (Nat → Nat) → Prop} {G : Nat → Nat → Nat} {ps : List Nat} {w : World} (hm : Mat w g m N bl G) (hr : Red m N c K G ps) (hd : ps.length = d) (hdt : d ≤ t) (htm : t < m) (hc : c < N) (hne : G t c ≠ 0) (hcd : N ≤ cd) (hct : N ≤ ct) :
    ∃ bl2 G2, Swapped g m N c d bl K ps w ((w.setCell ⟨g, d, none⟩ (.slice (some ⟨bl t, 0, none⟩) N ct)).setCell ⟨g, t, none⟩ (.slice (some ⟨bl d, 0, none⟩) N cd)).drew bl2 G2 :=
  ⟨_, _, {
    mat := (hm.swap d t (by omega) htm cd ct hcd hct).drewN 1
    red := by
      have h := hr.step hc t (by omega) htm hne
      rw [hd] at h
      rwa [show leadF (fun r => G (swp d t r)) d c = stepF G d t c from funext fun i => funext fun j => lead_step G d t c (fun j hj => hr.rest t (by omega) htm j hj) i j]
    inn := fun i hi => ⟨swp d t i, swp_lt (by omega) htm hi, rfl⟩
    ne := by
      show G (swp d t d) c ≠ 0
      rw [show swp d t d = t from by unfold swp; rw [if_pos rfl]]
      exact hne
    bytes := fun i j => hr.bytes _ _
    grown := ((grown_set w g d _).trans (grown_set _ g t _)).trans (grown_drewN _ 1 _) }⟩

set_option maxHeartbeats 4000000 in
set_option maxRecDepth 1000000 in
theorem s_reduce (f g m N cr cols : Nat) (blk : Nat → Nat) (K : (Nat → Nat) → Prop) (F : Nat → Nat → Nat) (w : World) (hf : IsField w f) (hm : Mat w g m N blk F) (hred : Red m N 0 K F []) (hfb : ∀ i, i < m → blk i ≠ f) (hfg : f ≠ g)
    (hm0 : 0 < m) (hN0 : 0 < N) (hcols : cols ≤ N) (hmb : m ≤ 65536) (hNb : N ≤ 65536) :
    Calls Try.prog 59 #[.pointer (some ⟨f, 0, none⟩), .slice (some ⟨g, 0, none⟩) m cr, .int .i64 (cols : Int)] w (Reds g m N cols blk K w) := by
  have hgl : g < w.heap.size := by obtain ⟨_, h, _⟩ := hm.row 0 hm0; exact block_lt_of_cell h
  have HBL := Lib.hid (fun i hi => hm.lt hN0 i hi)
  have HF := Lib.hid hf
  have HM := Lib.hid hm
  have HFB := Lib.hid hfb
  have HFG := Lib.hid hfg
  have HRED := Lib.hid hred
  clear hf hm hfb hfg hred
  go_enter Try.func59, Try.ntmps59
  go_wp2
  go_step3
  go_wp2
  go_step3
  go_wp2
  go_loopg [8, 15] cols (fun gh s8 s15 wx => ∃ (c : Nat) (F : Nat → Nat → Nat) (ps : List Nat) (bl : Nat → Nat), c + gh = cols ∧ s15 = .int .i64 (c : Int) ∧ IMine wx w.heap.size s8 ps ∧ Mat wx g m N bl F ∧ Red m N c K F ps ∧ (∀ i, i < m → InRows m blk (bl i)) ∧ Only (fun b => b = g ∨ InRows m blk b) w wx)
  case atStart => exact ⟨0, F, [], blk, by omega, rfl, World.ownsRow_lit w #[] 0 (Nat.le_refl _) (Nat.zero_le _) rfl, HM.out.ext ((Ext.refl w).alloc _), HRED.out, fun i hi => ⟨i, hi, rfl⟩, Only.of_ext ((Ext.refl w).alloc _)⟩
  case round =>
    obtain ⟨c, G, ps, bl, hcg, rfl, him, hmat, hrd, hin, hon⟩ := hrel
    have HIM := Lib.hid him
    have HMT := Lib.hid hmat
    have HRD := Lib.hid hrd
    have HIN := Lib.hid hin
    have HON := Lib.hid hon
    have hdm := hrd.few
    obtain ⟨B8, c8, rfl, hc8, hir⟩ := him.slice
    have HIR := Lib.hid hir
    clear him hmat hrd hin hon hir
    obtain ⟨d, hd⟩ : ∃ d, ps.length = d := ⟨_, rfl⟩
    rw [hd] at hdm HIM hc8 ⊢
    have HD := Lib.hid hd
    clear hd
    cases gk with
    | zero =>
      obtain rfl : c = cols := by omega
      clear hcg
      go_wp2
      go_ret2
      exact ⟨B8, c8, ps, bl, G, by rw [HD.out]; rfl, by rw [HD.out]; exact hc8, HIR.out, HMT.out, HRD.out, HON.out⟩
    | succ gh =>
      have hcI : (c : Int) < (cols : Int) := by omega
      have hcN : c < N := by omega
      have hcNI : (c : Int) < (N : Int) := by omega
      obtain ⟨wo, hwo⟩ : ∃ wo, wo = wr := ⟨_, rfl⟩
      subst hwo
      go_wp2
      go_loopg [8, 11] (m - d) (fun g2 s8 s11 wx => ∃ t : Nat, t + g2 = m ∧ d ≤ t ∧ s8 = .slice B8 d c8 ∧ s11 = .int .i64 (t : Int) ∧ wx = wo ∧ ∀ i, d ≤ i → i < t → G i c = 0)
      case atStart => exact ⟨d, by omega, Nat.le_refl _, rfl, rfl, rfl, fun i h1 h2 => by omega⟩
      case round =>
        obtain ⟨t, htg, hdt, rfl, rfl, rfl, hzz⟩ := hrel
        have HZZ := Lib.hid hzz
        clear hzz
        cases gk with
        | zero =>
          obtain rfl : t = m := by omega
          clear htg
          have hskip := HRD.out.skip hcN (fun i h1 h2 => HZZ.out i (by have := HD.out; omega) h2)
          have HSK := Lib.hid hskip
          clear hskip
          go_wp2
          go_roundg gh
          case measure => omega
          case rel => exact ⟨c + 1, G, ps, bl, by omega, by go_num, HIM.out, HMT.out, HSK.out, HIN.out, HON.out⟩
        | succ g2 =>
          have htm : t < m := by omega
          have htI : (t : Int) < (m : Int) := by omega
          have hdm' : d < m := by omega
          have hdI : (d : Int) < (m : Int) := by omega
          obtain ⟨ct, hct, hft, hNt⟩ := HMT.out.row t htm
          have hcc := ((HMT.out.has t htm) c hcN).1
          have hvb := HRD.out.bytes t c
          obtain ⟨x, hx⟩ : ∃ x, G t c = x := ⟨_, rfl⟩
          rw [hx] at hcc hvb
          by_cases h0 : x = 0
          · have t0 : ((x : Int) == 0) = true := by simp [h0]
            have H0 := Lib.hid (hx.trans h0)
            clear h0 hx
            go_wp2
            go_roundg g2
            case measure => omega
            case rel => exact ⟨t + 1, by omega, by omega, rfl, by go_num, rfl, fun i h1 h2 => by
              by_cases e : i = t
              · rw [e]; exact H0.out
              · exact HZZ.out i h1 (by omega)⟩
          · have t0 : ((x : Int) == 0) = false := by simp; omega
            have HX := Lib.hid hx
            have H0 := Lib.hid h0
            clear hx h0
            obtain ⟨cd, hcd, hfd, hNd⟩ := HMT.out.row d hdm'
            by_cases hdt' : d = t
            · obtain rfl := hdt'
              have hne := fun h => H0.out (HX.out.symm.trans h)
              obtain ⟨bl2, G2, hS⟩ := swapped HMT.out HRD.out HD.out (Nat.le_refl _) htm hcN hne hNd hNd
              have HS := Lib.hid hS
              clear hS hne
              go_wp2
              go_region
              obtain ⟨W2, hW2⟩ : ∃ W, ((wr.setCell ⟨g, d, none⟩ (.slice (some ⟨bl d, 0, none⟩) N cd)).setCell ⟨g, d, none⟩ (.slice (some ⟨bl d, 0, none⟩) N cd)).drew = W := ⟨_, rfl⟩
              rw [hW2] at HS ⊢
              have hfin : ∀ i, i < m → InRows m blk (bl2 i) := fun i hi => by
                obtain ⟨j, hj, e⟩ := HS.out.inn i hi
                rw [e]
                exact HIN.out j hj
              have hon2 : Only (fun b => b = g ∨ InRows m blk b) w W2 := HON.out.trans (Only.of_grown HS.out.grown (fun k e => by injection e with e; exact .inl e.symm))
              have hfw : IsField W2 f := HF.out.only hon2 (fun h => h.elim HFG.out (fun ⟨i, hi, e⟩ => HFB.out i hi e.symm))
              have hapart : ∀ k, Value.ownBlock (.slice B8 d c8) = some k → ¬ (k = g ∨ InRows m blk k) := fun k hk h => by
                have h1 := (HIM.out.block k hk).1
                rcases h with h | ⟨i, hi, h⟩
                · omega
                · have := HBL.out i hi
                  omega
              have him2 : IMine W2 w.heap.size (.slice B8 d c8) ps := HIM.out.only (X := fun b => b = g ∨ InRows m blk b) (Only.of_grown HS.out.grown (fun k e => by injection e with e; exact .inl e.symm)) hapart
              have HL := Lib.hid (s_lead f g m N cr d c bl2 G2 W2 hfw HS.out.mat HS.out.bytes (fun i hi e => by obtain ⟨j, hj, e'⟩ := hfin i hi; exact HFB.out j hj (e' ▸ e)) hdm' hcN HS.out.ne hmb hNb)
              have HON2 := Lib.hid hon2
              have HFIN := Lib.hid hfin
              have HAP := Lib.hid hapart
              have HIM2 := Lib.hid him2
              clear hW2 hfin hon2 hfw hapart him2 hct hft hcd hfd hcc HZZ
              go_wp2_with fail
              refine HL.out.mono ?_
              rintro e w5 ⟨rfl, hm5, ho5⟩
              have ho5' : Only (fun b => b = g ∨ InRows m blk b) W2 w5 := ho5.mono (fun k _ ⟨i, hi, e⟩ => .inr (e ▸ HFIN.out i hi))
              have HM5 := Lib.hid hm5
              have HON5 := Lib.hid (HON2.out.trans ho5')
              have HIM5 := Lib.hid (HIM2.out.only ho5' HAP.out)
              have hlen : ps.length + 1 ≤ 1048576 := by have := HD.out; omega
              clear hm5 ho5 ho5' HL
              go_wp2_with (at_builtin; refine wpList_append_int rfl (.tmp 57) (.tmp 59) rfl w.heap.size (.slice B8 d c8) ps c rfl (HIM5.out.ext ((Ext.refl _).alloc _)) w5.heap.size 1 rfl (by rw [cell_of_row _ _ _ _ _ _ (heap_alloc_new w5 _)]; rfl) hlen (by have := HON5.out.size; simp; omega) ?_; intro v' w9 hown' hg' hat')
              have hw5 := HON5.out.size
              have hgap : ∀ k, k < w.heap.size → some k ≠ Value.ownBlock (.slice B8 d c8) := fun k hk e => by
                have := (HIM5.out.block k e.symm).1
                omega
              have hbl2 : ∀ i, i < m → bl2 i < w.heap.size := fun i hi => by
                obtain ⟨j, hj, e⟩ := HFIN.out i hi
                rw [e]
                exact HBL.out j hj
              have hm9 := (HM5.out.ext ((Ext.refl w5).alloc (.cells #[.int .i64 (c : Int)] 3))).keep hg' (hgap g hgl) (fun i hi => hgap _ (hbl2 i hi))
              have hon9 := (HON5.out.trans (Only.of_ext ((Ext.refl w5).alloc (.cells #[.int .i64 (c : Int)] 3)))).more hg' (fun k e => (HIM5.out.block k e).1)
              have HM9 := Lib.hid hm9
              have HON9 := Lib.hid hon9
              have HOWN := Lib.hid hown'
              clear hown' hg' hat' hm9 hon9 hw5 hgap hbl2
              go_wp2
              go_roundg gh
              case measure => omega
              case rel => exact ⟨c + 1, leadF G2 d c, ps ++ [c], bl2, by omega, by go_num, HOWN.out, HM9.out, HS.out.red, HFIN.out, HON9.out⟩
            · skip
              have hne := fun h => H0.out (HX.out.symm.trans h)
              obtain ⟨bl2, G2, hS⟩ := swapped HMT.out HRD.out HD.out hdt htm hcN hne hNd hNt
              have HS := Lib.hid hS
              clear hS hne
              go_wp2
              go_region
              obtain ⟨W2, hW2⟩ : ∃ W, ((wr.setCell ⟨g, d, none⟩ (.slice (some ⟨bl t, 0, none⟩) N ct)).setCell ⟨g, t, none⟩ (.slice (some ⟨bl d, 0, none⟩) N cd)).drew = W := ⟨_, rfl⟩
              rw [hW2] at HS ⊢
              have hfin : ∀ i, i < m → InRows m blk (bl2 i) := fun i hi => by
                obtain ⟨j, hj, e⟩ := HS.out.inn i hi
                rw [e]
                exact HIN.out j hj
              have hon2 : Only (fun b => b = g ∨ InRows m blk b) w W2 := HON.out.trans (Only.of_grown HS.out.grown (fun k e => by injection e with e; exact .inl e.symm))
              have hfw : IsField W2 f := HF.out.only hon2 (fun h => h.elim HFG.out (fun ⟨i, hi, e⟩ => HFB.out i hi e.symm))
              have hapart : ∀ k, Value.ownBlock (.slice B8 d c8) = some k → ¬ (k = g ∨ InRows m blk k) := fun k hk h => by
                have h1 := (HIM.out.block k hk).1
                rcases h with h | ⟨i, hi, h⟩
                · omega
                · have := HBL.out i hi
                  omega
              have him2 : IMine W2 w.heap.size (.slice B8 d c8) ps := HIM.out.only (X := fun b => b = g ∨ InRows m blk b) (Only.of_grown HS.out.grown (fun k e => by injection e with e; exact .inl e.symm)) hapart
              have HL := Lib.hid (s_lead f g m N cr d c bl2 G2 W2 hfw HS.out.mat HS.out.bytes (fun i hi e => by obtain ⟨j, hj, e'⟩ := hfin i hi; exact HFB.out j hj (e' ▸ e)) hdm' hcN HS.out.ne hmb hNb)
              have HON2 := Lib.hid hon2
              have HFIN := Lib.hid hfin
              have HAP := Lib.hid hapart
              have HIM2 := Lib.hid him2
              clear hW2 hfin hon2 hfw hapart him2 hct hft hcd hfd hcc HZZ
              go_wp2_with fail
              refine HL.out.mono ?_
              rintro e w5 ⟨rfl, hm5, ho5⟩
              have ho5' : Only (fun b => b = g ∨ InRows m blk b) W2 w5 := ho5.mono (fun k _ ⟨i, hi, e⟩ => .inr (e ▸ HFIN.out i hi))
              have HM5 := Lib.hid hm5
              have HON5 := Lib.hid (HON2.out.trans ho5')
              have HIM5 := Lib.hid (HIM2.out.only ho5' HAP.out)
              have hlen : ps.length + 1 ≤ 1048576 := by have := HD.out; omega
              clear hm5 ho5 ho5' HL
              go_wp2_with (at_builtin; refine wpList_append_int rfl (.tmp 57) (.tmp 59) rfl w.heap.size (.slice B8 d c8) ps c rfl (HIM5.out.ext ((Ext.refl _).alloc _)) w5.heap.size 1 rfl (by rw [cell_of_row _ _ _ _ _ _ (heap_alloc_new w5 _)]; rfl) hlen (by have := HON5.out.size; simp; omega) ?_; intro v' w9 hown' hg' hat')
              have hw5 := HON5.out.size
              have hgap : ∀ k, k < w.heap.size → some k ≠ Value.ownBlock (.slice B8 d c8) := fun k hk e => by
                have := (HIM5.out.block k e.symm).1
                omega
              have hbl2 : ∀ i, i < m → bl2 i < w.heap.size := fun i hi => by
                obtain ⟨j, hj, e⟩ := HFIN.out i hi
                rw [e]
                exact HBL.out j hj
              have hm9 := (HM5.out.ext ((Ext.refl w5).alloc (.cells #[.int .i64 (c : Int)] 3))).keep hg' (hgap g hgl) (fun i hi => hgap _ (hbl2 i hi))
              have hon9 := (HON5.out.trans (Only.of_ext ((Ext.refl w5).alloc (.cells #[.int .i64 (c : Int)] 3)))).more hg' (fun k e => (HIM5.out.block k e).1)
              have HM9 := Lib.hid hm9
              have HON9 := Lib.hid hon9
              have HOWN := Lib.hid hown'
              clear hown' hg' hat' hm9 hon9 hw5 hgap hbl2
              go_wp2
              go_roundg gh
              case measure => omega
              case rel => exact ⟨c + 1, leadF G2 d c, ps ++ [c], bl2, by omega, by go_num, HOWN.out, HM9.out, HS.out.red, HFIN.out, HON9.out⟩
end Go.Proofs.Ytffdmhcbcaemfaa

/-
  What Solve of layer 3 does: the one solution whose free unknowns are 0, or its errors. Conditions: a field that New made, no more than 2^12 elements and rows.
-/
namespace Go.Proofs.Ytffdmhcbcaemfaa
open Go.RowKit
open Pol (co Sm)
open Lin (Red SolSome SolNone Cnt NotFree)

theorem num_lt {w : World} {A : Option Addr} {rows : List (List Nat)} (ha : RRd w A rows) (i k : Nat) : num rows i k < 256 := by
  unfold num
  by_cases h : i < rows.length
  · obtain ⟨_, _, _, _, _, _, _, hr⟩ := ha i h
    exact hr.1 k
  · unfold ro
    rw [List.getElem?_eq_none (by omega)]
    simp [Pol.co_nil]
/-- s[l:] of rows. -/
theorem run_from_rows (g o len cap l : Nat) (h : l ≤ len) : ∃ X, (l < cap → X = some (⟨g, o + l, none⟩ : Addr)) ∧ ∀ W,
    (Instr.slice 28 (.slice (some ⟨g, o, none⟩) len cap) (some (.int .i64 (l : Int))) none none).run Try.prog W = .ok (.slice X (len - l) (cap - l)) W := by
  obtain ⟨i0, hi, hz0, hz1, hz2⟩ := info_parts row_info
  have he : Try.prog.elem 28 = 22 := by kernel_rfl
  refine ⟨if cap = l then some ⟨g, o, none⟩ else some ⟨g, o + l, none⟩, fun hc => if_neg (by omega), fun W => ?_⟩
  rw [run_slice_l W 28 _ len cap (by rw [he]; exact Try.underlying28) .i64 (l : Int) (by omega) (by omega), he]
  simp [sizeOf, typeInfo, hi, hz1, Result.andThen, sliced, addr_add]

set_option maxHeartbeats 400000 in
theorem s_solve_odd (f : Nat) (rows : List (List Nat)) (A : Option Addr) (c : Nat) (w : World) (ha : RRd w A rows) (hl : rows.length ≤ 4096) (hll : ∀ i, i < rows.length → (ro rows i).length ≤ 4096) (h : ¬ Rt rows) :
    Calls Try.prog 50 #[.pointer (some ⟨f, 0, none⟩), .slice A rows.length c] w (GivesE [] 1 w) := by
  have HR := Lib.hid (s_rect rows A c w ha (by omega) (fun i hi => by have := hll i hi; omega))
  have HH := Lib.hid h
  clear ha hll h
  generalize rows.length = m at *
  go_enter Try.func50, Try.ntmps50
  go_wp2_with fail
  refine HR.out.mono ?_
  rintro e w1 (⟨hp, _⟩ | ⟨_, rfl, q, rfl⟩)
  · exact absurd hp HH.out
  · go_wp2
    go_ret2
    exact ⟨_, rfl, sl_none _, (Ext.refl w).drewN q⟩
/-- Reduce behind copied: what is known of both. -/
theorem s_reduce_copies (f : Nat) (rows : List (List Nat)) (A : Option Addr) (N cols : Nat) (w w2 w3 : World) (hf : IsField w f) (ha : RRd w A rows) (hx : Ext w w2) (g cg : Nat) (blk : Nat → Nat)
    (hm : Mat w3 g rows.length N blk (fun i => co (ro rows i))) (hx3 : Ext w2 w3) (hg : w2.heap.size ≤ g) (hb : ∀ i, i < rows.length → w2.heap.size ≤ blk i) (hm0 : 0 < rows.length) (hN0 : 0 < N) (hcols : cols ≤ N) (hmb : rows.length ≤ 65536) (hNb : N ≤ 65536) :
    Calls Try.prog 59 #[.pointer (some ⟨f, 0, none⟩), .slice (some ⟨g, 0, none⟩) rows.length cg, .int .i64 (cols : Int)] w3 (fun e w4 => ∃ (B : Option Addr) (cb : Nat) (ps : List Nat) (blk' : Nat → Nat) (F' : Nat → Nat → Nat), e = .returned (.tuple #[.slice B ps.length cb, .int .i64 0]) ∧ ps.length ≤ cb ∧ IRd w4 B ps ∧ Mat w4 g rows.length N blk' F' ∧ Red rows.length N cols (KR N rows) F' ps ∧ Ext w w4) := by
  have hfl := hf.lt
  have hsz := hx.size
  refine (s_reduce f g rows.length N cg cols blk (KR N rows) (fun i => co (ro rows i)) w3 (hf.ext (hx.trans hx3)) hm (Lin.red_start rows.length N (num rows) (fun i k => num_lt ha i k)) (fun i hi e => by have := hb i hi; omega) (fun e => by omega) hm0 hN0 hcols hmb hNb).mono ?_
  rintro e w4 ⟨B, cb, ps, blk', F', h1, h2, h3, h4, h5, h6⟩
  refine ⟨B, cb, ps, blk', F', h1, h2, h3, h4, h5, h6.ext (hx.trans hx3) (fun k hk => ?_)⟩
  rcases hk with hk | ⟨i, hi, hk⟩
  · omega
  · have := hb i hi
    omega

/-- What Solve answers of right rows: the solution fills a block of its own. -/
def SolveX (K : (Nat → Nat) → Prop) (n : Nat) (w : World) (e : Ending) (w' : World) : Prop :=
  (∃ x g, SolSome K n x ∧ e = .returned (.tuple #[.slice (some ⟨g, 0, none⟩) n n, .int .i64 0]) ∧ Rd w' (some ⟨g, 0, none⟩) x ∧ Ext w w') ∨ (SolNone K n ∧ GivesE [] 7 w e w')

set_option maxHeartbeats 2000000 in
set_option maxRecDepth 100000 in
theorem s_solve_x (f : Nat) (rows : List (List Nat)) (A : Option Addr) (ca : Nat) (w : World) (hf : IsField w f) (ha : RRd w A rows) (hml : rows.length ≤ 4096) (hll : ∀ i, i < rows.length → (ro rows i).length ≤ 4096) (h : Rt rows) :
    Calls Try.prog 50 #[.pointer (some ⟨f, 0, none⟩), .slice A rows.length ca] w (SolveX (KR (wide rows) rows) (wide rows - 1) w) := by
  have HR := Lib.hid (s_rect rows A ca w ha (by omega) (fun i hi => by have := hll i hi; omega))
  have hm := h.1
  obtain ⟨n, hn⟩ : ∃ n, wide rows = n + 1 := ⟨wide rows - 1, by have := (h.2 0 hm).1; unfold wide; omega⟩
  have hn1 : n + 1 ≤ 4096 := by rw [← hn]; exact hll 0 hm
  have hlen : ∀ i, i < rows.length → (ro rows i).length = n + 1 := fun i hi => by rw [(h.2 i hi).2, ← hn]; rfl
  have HCO := Lib.hid (fun W (hW : Ext w W) => s_copied rows A ca (n + 1) W (ha.ext hW) (by omega) hlen (by omega) (by omega))
  have HRED := Lib.hid (fun W w3 (hW : Ext w W) g cg blk h1 h2 h3 h4 => s_reduce_copies f rows A (n + 1) n w W w3 hf ha hW g cg blk h1 h2 h3 h4 hm (by omega) (by omega) (by omega) (by omega))
  obtain ⟨b0, o0, B0, c0, hA0, hc0, _, _⟩ := ha 0 hm
  rw [hlen 0 hm, Nat.add_zero] at hc0
  subst hA0
  rw [hn, Nat.add_sub_cancel]
  have HH := Lib.hid h
  have HC0 := Lib.hid hc0
  generalize KR (n + 1) rows = K at *
  generalize rows.length = m at *
  have hmI : (0 : Int) < (m : Int) := by omega
  clear hf ha hll h hlen hc0 hn
  go_enter Try.func50, Try.ntmps50
  go_wp2_with fail
  refine HR.out.mono ?_
  rintro e w1 (⟨_, rfl, q, rfl⟩ | ⟨hp, _⟩)
  rotate_left
  · exact absurd HH.out hp
  have hc1 : (w.drewN q).cell? ⟨b0, o0, none⟩ = some (.slice B0 (n + 1) c0) := HC0.out
  have hsub : ((n + 1 : Nat) : Int) - 1 = (n : Int) := by omega
  go_wp2_with fail
  refine (HCO.out (w.drewN q) ((Ext.refl w).drewN q)).mono ?_
  rintro e w3 ⟨g, cg, blk, rfl, hcg, hm3, hx3, hg3, hb3⟩
  have HRE := Lib.hid (HRED.out (w.drewN q) w3 ((Ext.refl w).drewN q) g cg blk hm3 hx3 hg3 hb3)
  clear hm3 hx3 hg3 hb3 hc1 HRED HCO HR HC0
  go_wp2_with fail
  refine HRE.out.mono ?_
  rintro e w2 ⟨B, cb, ps, bl, F, rfl, hcb, hir, hmat, hred, hx2⟩
  have HMT := Lib.hid hmat
  have HRD := Lib.hid hred
  have HIR := Lib.hid hir
  have HX2 := Lib.hid hx2
  have hdm := hred.few
  have hFb := Lib.hid hred.bytes
  clear hmat hred hir hx2 HRE
  obtain ⟨d, hd⟩ : ∃ d, ps.length = d := ⟨_, rfl⟩
  rw [hd] at hdm hcb ⊢
  have HD := Lib.hid hd
  clear hd
  obtain ⟨X, hX, hsl⟩ := run_from_rows g 0 m cg d hdm
  rw [Nat.zero_add] at hX
  obtain ⟨L, hL⟩ : ∃ L, m - d = L := ⟨_, rfl⟩
  have hL1 : d + L ≤ m := by omega
  have hL2 : m ≤ d + L := by omega
  rw [hL] at hsl
  have HLX := Lib.hid hX
  clear hL hX
  have hdmI : (d : Int) ≤ (m : Int) := by omega
  go_wp2
  clear hsl
  go_loopg [40] L (fun gh s wx => ∃ i : Nat, i + gh = L ∧ s = .int .i64 (i : Int) ∧ w2 = wx ∧ ∀ j, d ≤ j → j < d + i → F j n = 0)
  case atStart => exact ⟨0, by omega, rfl, rfl, fun j h1 h2 => by omega⟩
  case round =>
    obtain ⟨i, hig, rfl, rfl, hz⟩ := hrel
    have HZ := Lib.hid hz
    clear hz
    cases gk with
    | zero =>
      obtain rfl : L = i := by omega
      clear hig
      have hmk := fun W => run_make_u8 n (by omega) W
      go_wp2
      clear hmk
      go_loopg [54] d (fun gh s wx => ∃ k : Nat, k + gh = d ∧ s = .int .i64 (k : Int) ∧ Blk wx w2.heap.size n (outF F ps n k) ∧ Ext w2 wx)
      case atStart => exact ⟨0, by omega, rfl, Blk.new _ n (outF F ps n 0), (Ext.refl _).alloc _⟩
      case round =>
        obtain ⟨k, hkg, rfl, hblk, hx⟩ := hrel
        have HX := Lib.hid hx
        have HK := Lib.hid hblk
        clear hx hblk
        cases gk with
        | zero =>
          obtain rfl : k = d := by omega
          clear hkg
          have hsol := HRD.out.some (fun j h1 h2 => HZ.out j (by have := HD.out; omega) (by omega)) (outF F ps n k) (fun j hj => outF_at HRD.out n k (by have := HD.out; omega) (by have := HD.out; omega)) (fun j _ hno => outF_no k (by have := HD.out; omega) hno)
          have hrd := HK.out.reads (fun j _ => outF_lt hFb.out k j)
          have HSO := Lib.hid hsol
          have HRR := Lib.hid hrd
          clear hsol hrd
          go_wp2
          go_ret2
          exact .inl ⟨_, _, HSO.out, rfl, HRR.out, HX2.out.trans HX.out⟩
        | succ gh =>
          have hk : k < d := by omega
          have hkI : (k : Int) < (d : Int) := by omega
          have hkm : (k : Int) < (m : Int) := by omega
          obtain ⟨bi, oi, rfl, hci⟩ := (HIR.out.ext HX.out) k (by have := HD.out; omega)
          obtain ⟨ck, hck, _, hNk⟩ := (HMT.out.ext HX.out).row k (by omega)
          have hcv := (((HMT.out.ext HX.out).has k (by omega)) n (by omega)).1
          have hplt : co ps k < n := HRD.out.lt k (by have := HD.out; omega)
          obtain ⟨p, hp⟩ : ∃ p, co ps k = p := ⟨_, rfl⟩
          rw [hp] at hci hplt
          have hpI : (p : Int) < (n : Int) := by omega
          have hnI : (n : Int) < ((n + 1 : Nat) : Int) := by omega
          have hnI2 : (n : Int) < (n : Int) + 1 := by omega
          have hc2 := HK.out.cell p hplt
          have hfz := HK.out.frozen p
          have hst := HK.out.store p (F k n)
          have HST := Lib.hid (show Blk (wr.setCell ⟨w2.heap.size, p, none⟩ (.int .u8 ((F k n : Nat) : Int))) w2.heap.size n (outF F ps n (k + 1)) from by rw [outF, hp]; exact hst)
          have HEX := Lib.hid (HX.out.setCell (p := ⟨w2.heap.size, p, none⟩) (Nat.le_refl _) (.int .u8 ((F k n : Nat) : Int)))
          clear hst hp
          go_wp2
          go_roundg gh
          case measure => omega
          case rel => exact ⟨k + 1, by omega, by go_num, HST.out, HEX.out⟩
    | succ gh =>
      have hi : i < L := by omega
      have hiI : (i : Int) < (L : Int) := by omega
      have hXX := HLX.out (by omega)
      subst hXX
      obtain ⟨ck, hck, _, hNk⟩ := HMT.out.row (d + i) (by omega)
      have hcv := ((HMT.out.has (d + i) (by omega)) n (by omega)).1
      have hnI : (n : Int) < ((n + 1 : Nat) : Int) := by omega
      have hnI2 : (n : Int) < (n : Int) + 1 := by omega
      by_cases h0 : F (d + i) n = 0
      · have t0 : (((F (d + i) n : Nat) : Int) != 0) = false := by simp [h0]
        have H0 := Lib.hid h0
        clear h0
        go_wp2
        go_roundg gh
        case measure => omega
        case rel => exact ⟨i + 1, by omega, by go_num, rfl, fun j h1 h2 => by
          by_cases e : j = d + i
          · rw [e]; exact H0.out
          · exact HZ.out j h1 (by omega)⟩
      · have t0 : (((F (d + i) n : Nat) : Int) != 0) = true := by simp; omega
        have HNO := Lib.hid (HRD.out.none (i := d + i) (by have := HD.out; omega) (by omega) h0)
        clear h0
        go_wp2
        go_ret2
        exact .inr ⟨HNO.out, _, rfl, sl_none _, HX2.out⟩

theorem s_solve (f : Nat) (rows : List (List Nat)) (A : Option Addr) (ca : Nat) (w : World) (hf : IsField w f) (ha : RRd w A rows) (hml : rows.length ≤ 4096) (hll : ∀ i, i < rows.length → (ro rows i).length ≤ 4096) (h : Rt rows) :
    Calls Try.prog 50 #[.pointer (some ⟨f, 0, none⟩), .slice A rows.length ca] w (SolveE rows w) := (s_solve_x f rows A ca w hf ha hml hll h).mono fun e w' h => by
  rcases h with ⟨x, g, hx, he, hr, hw⟩ | h
  · exact .inl ⟨x, hx, _, he, ⟨_, _, by rw [hx.len], Nat.le_of_eq hx.len, hr⟩, hw⟩
  · exact .inr h

theorem solveSaid : SolveSaid where
  odd := fun f rows A c w _ hr _ hl hll ht => s_solve_odd f rows A c w hr hl hll ht
  solve := fun f rows A c w hf hr _ hl hll ht => s_solve f rows A c w hf hr hl hll ht
end Go.Proofs.Ytffdmhcbcaemfaa

/-
  Words for layer 2: a quotient with what is left, none, a list with an error number. Conditions: none.
-/
namespace Go.Proofs.Ytffdmhcbcaemfaa
open Go.RowKit
open Pol (co Sm px py Apart thr trim)

/-- A quotient and a rest. -/
def Quots (a b : List Nat) (w : World) (e : Ending) (w' : World) : Prop :=
  ∃ (vq vr : Value) (q r : List Nat), e = .returned (.tuple #[vq, vr, .int .i64 0]) ∧ Sl w' vq q ∧ Sl w' vr r ∧ trim q = q ∧ trim r = r ∧ (∀ j, co (Pol.mulP q b) j ^^^ co r j = co a j) ∧ r.length < (trim b).length ∧ q.length ≤ a.length ∧ Ext w w'
/-- No quotient. -/
def NoQuots (w : World) (e : Ending) (w' : World) : Prop := ∃ vq vr : Value, e = .returned (.tuple #[vq, vr, .int .i64 1]) ∧ Sl w' vq [] ∧ Sl w' vr [] ∧ Ext w w'
/-- A list, and a number. -/
def GivesTo (l : List Nat) (n : Int) (w : World) (e : Ending) (w' : World) : Prop := ∃ v : Value, e = .returned (.tuple #[v, .int .i64 n]) ∧ Sl w' v l ∧ Ext w w'
end Go.Proofs.Ytffdmhcbcaemfaa

/-
  What trimmed and Trim of layer 2 do. Conditions: no more than 2^16 coefficients.
-/
namespace Go.Proofs.Ytffdmhcbcaemfaa
open Go.RowKit
open Pol (co Sm trim)

theorem trim_take (l : List Nat) : trim l = l.take (trim l).length :=
  Pol.trim_of l _ (Pol.trim_len l) (fun i hi => by rw [← Pol.co_trim]; exact Pol.co_out _ i hi) (by
    by_cases h : trim l = []
    · exact .inl (by rw [h]; rfl)
    · exact .inr (Pol.trim_last l h))
theorem Rd.trim {w : World} {A : Option Addr} {l : List Nat} (h : Rd w A l) : Rd w A (Pol.trim l) := by
  have := h.take (Pol.trim l).length
  rwa [← trim_take] at this

/-- The same slice, without the zeros at its end. -/
def Cuts (A : Option Addr) (l : List Nat) (c : Nat) (w : World) (e : Ending) (w' : World) : Prop := e = .returned (.slice A (trim l).length c) ∧ Ext w w'

set_option maxHeartbeats 400000 in
theorem ptrimmed (l : List Nat) (A : Option Addr) (c : Nat) (w : World) (hr : Rd w A l) (hc : l.length ≤ c) (hl : l.length ≤ 65536) :
    Calls Try.prog 61 #[.slice A l.length c] w (Cuts A l c w) := by
  have hd := pdegree l A c w hr hl
  have ht := Pol.trim_len l
  unfold Cuts
  generalize (trim l).length = t at *
  generalize l.length = n at *
  have HD := Lib.hid hd
  have htc : t ≤ c := by omega
  have htI : (t : Int) ≤ (c : Int) := by omega
  clear hd hr
  cases A with
  | none =>
    go_enter Try.func61, Try.ntmps61
    go_wp2_with fail
    refine HD.out.mono ?_
    rintro e w1 ⟨rfl, hx⟩
    have HX := Lib.hid hx
    clear hx
    go_wp2
    go_ret
    exact ⟨rfl, HX.out⟩
  | some a =>
    go_enter Try.func61, Try.ntmps61
    go_wp2_with fail
    refine HD.out.mono ?_
    rintro e w1 ⟨rfl, hx⟩
    have HX := Lib.hid hx
    clear hx
    go_wp2
    go_ret
    exact ⟨rfl, HX.out⟩

theorem mine_nil (w : World) (base : Nat) : Mine w base (.slice none 0 0) [] := World.ownsRow_nil w base 5 1
theorem ptrim (l : List Nat) (A : Option Addr) (c : Nat) (w : World) (hr : Rd w A l) (hc : l.length ≤ c) (hl : l.length ≤ 65536) :
    Calls Try.prog 63 #[.slice A l.length c] w (Gives (trim l) w) := by
  have hd := ptrimmed l A c w hr hc hl
  have hrt := hr.trim
  have ht := Pol.trim_len l
  have hsm := hr.1.trim
  have HR := Lib.hid hrt
  have HD := Lib.hid hd
  have HS := Lib.hid hsm
  clear hd hrt hr hsm
  go_enter Try.func63, Try.ntmps63
  go_wp2_with fail
  refine HD.out.mono ?_
  rintro e w1 ⟨rfl, hx⟩
  have HX := Lib.hid hx
  clear hx
  go_wp2_with (at_builtin; refine wpList_append_rd rfl (.const (.slice none 0 0)) (.tmp 4) rfl w1.heap.size (.slice none 0 0) [] (trim l) rfl (mine_nil _ _) _ _ c rfl rfl (HR.out.ext HX.out) (by rw [List.length_nil]; omega) (by simp) ?_; intro v' w' hown' hg' hat')
  go_ret
  exact gives_of hown' rfl HS.out (HX.out.more hg' (by intro k hk; simp [Value.ownBlock] at hk))
end Go.Proofs.Ytffdmhcbcaemfaa

/-
  What addMultiple of layer 2 does: a polynomial, times an element, added to a sum that lies somewhere in a block. Conditions: a field that New made, no more than 2^17 coefficients; the sum lies apart from the field and the polynomial.
-/
namespace Go.Proofs.Ytffdmhcbcaemfaa
open Go.RowKit
open Pol (co Sm trim)

set_option maxHeartbeats 800000 in
set_option maxRecDepth 100000 in
theorem paddm (f : Nat) (a : List Nat) (A : Option Addr) (g o n ls cs ca t : Nat) (F : Nat → Nat) (w : World) (hf : IsField w f) (ha : Rd w A a) (ht : t < 256) (hc : Cells w g n F) (hF : ∀ i, i < n → F i < 256)
    (hfg : f ≠ g) (hag : ∀ b o, A = some ⟨b, o, none⟩ → 0 < a.length → b ≠ g) (hls : a.length ≤ ls) (hon : o + a.length ≤ n) (hlsb : ls ≤ 1048576) :
    Calls Try.prog 64 #[.pointer (some ⟨f, 0, none⟩), .slice (some ⟨g, o, none⟩) ls cs, .slice A a.length ca, .int .u8 (t : Int)] w (Turns g n (addm o t a F a.length) w) := by
  generalize hm : a.length = m at *
  have HF := Lib.hid hf
  have HA := Lib.hid ha
  have HC := Lib.hid hc
  have HFF := Lib.hid hF
  have HM := Lib.hid hm
  have HAG := Lib.hid hag
  have HFG := Lib.hid hfg
  clear hf ha hc hF hm hag hfg
  go_enter Try.func64, Try.ntmps64
  go_wp2
  go_loopg [11] m (fun gk s wx => ∃ k : Nat, k + gk = m ∧ s = .int .i64 (k : Int) ∧ Cells wx g n (addm o t a F k) ∧ w.grownBy wx (some g))
  case atStart => exact ⟨0, by omega, rfl, HC.out.congr (fun i _ => addm_zero o t a F i), World.grownBy.refl _ _⟩
  case round =>
    obtain ⟨k, hkg, rfl, hcl, hg⟩ := hrel
    have HL := Lib.hid hcl
    have HG := Lib.hid hg
    clear hcl hg
    cases gk with
    | zero =>
      obtain rfl : m = k := by omega
      clear hkg
      go_wp2
      go_end0
      exact ⟨⟨_, rfl⟩, HL.out, HG.out⟩
    | succ gk =>
      have hk : k < m := by omega
      have hkI : (k : Int) < (m : Int) := by omega
      have hkL : (k : Int) < (ls : Int) := by omega
      have hr := HA.out.keep HG.out (fun b o' e h => fun h' => HAG.out b o' e (by have := HM.out; omega) (by cases h'; rfl))
      obtain ⟨b1, o1, e1, hc1⟩ := hr.2 k (by rw [HM.out]; exact hk)
      subst e1
      have hc2 := (HL.out (o + k) (by omega)).1
      have hfz := (HL.out (o + k) (by omega)).2
      have hfield := HF.out.keep HG.out (fun h => HFG.out (by cases h; rfl))
      have hmul := fun q => mul_any f t (co a k) (wr.drewN q) (hfield.drewN q) ht (HA.out.1 k)
      have hadd := fun q => add_is (addm o t a F k (o + k)) (Gf.mul t (co a k)) _ (addm_lt HFF.out k (o + k) (by omega)) (Gf.mul_lt _ _) rfl (wr.drewN q)
      have hst := fun q => ((HL.out.drewN q).store (o + k) (addm o t a F k (o + k) ^^^ Gf.mul t (co a k))).congr (F' := addm o t a F (k + 1)) (fun i _ => addm_step o t a F k i)
      have hgg := fun q => (HG.out.trans (grown_drewN wr q _)).trans (grown_set (wr.drewN q) g (o + k) (.int .u8 ((addm o t a F k (o + k) ^^^ Gf.mul t (co a k) : Nat) : Int)))
      have HMU := Lib.hid hmul
      have HAD := Lib.hid hadd
      have HST := Lib.hid hst
      have HGG := Lib.hid hgg
      clear hmul hadd hst hgg hfield hr
      go_wp2
      refine wp_region_quiet_tail 15 (fun w' => ∃ q, w' = wr.drewN q) (by kernel_rfl) (by kernel_rfl) ⟨1, rfl⟩ ?_
      simp only [List.take_succ_cons, List.take_zero, List.drop_succ_cons, List.drop_zero]
      repeat (quiet_step (first | (go_at_call 46; exact quiet_hands (HMU.out _)) | (go_at_call 45; exact quiet_same (HAD.out _))))
      refine wpQuiet_nil ?_
      rintro _ ⟨q, rfl⟩
      go_wp2
      go_roundg gk
      case measure => omega
      case rel => exact ⟨k + 1, by omega, by go_num, HST.out q, HGG.out q⟩
end Go.Proofs.Ytffdmhcbcaemfaa

/-
  What Divide of layer 2 does by the zero polynomial: it answers an error. Conditions: a field that New made, no more than 2^16 coefficients.
-/
namespace Go.Proofs.Ytffdmhcbcaemfaa
open Go.RowKit
open Pol (co Sm trim)

theorem box_ext {w w' : World} {B : Nat} {t : TypeId} {v : Value} (h : Boxed w B t v) (hx : Ext w w') : Boxed w' B t v := (hx.below.block B h.lt).trans h
theorem box_far {w : World} {B g o : Nat} {t : TypeId} {v u : Value} (h : Boxed w B t v) (hne : B ≠ g) : Boxed (w.setCell ⟨g, o, none⟩ u) B t v := h.kept (grown_set w g o u) (fun e => hne (by cases e; rfl))
theorem box_drewN {w : World} {B : Nat} {t : TypeId} {v : Value} (h : Boxed w B t v) (n : Nat) : Boxed (w.drewN n) B t v := h
theorem box_alloc {w : World} {B : Nat} {t : TypeId} {v : Value} (h : Boxed w B t v) (o : Obj) : Boxed (w.alloc o) B t v := h.alloc o
theorem four_boxes (w : World) (t1 t2 t3 t4 : TypeId) (v1 v2 v3 v4 : Value) :
    Boxed ((((w.alloc (.cells #[v1] t1)).alloc (.cells #[v2] t2)).alloc (.cells #[v3] t3)).alloc (.cells #[v4] t4)) w.heap.size t1 v1 ∧
    Boxed ((((w.alloc (.cells #[v1] t1)).alloc (.cells #[v2] t2)).alloc (.cells #[v3] t3)).alloc (.cells #[v4] t4)) (w.heap.size + 1) t2 v2 ∧
    Boxed ((((w.alloc (.cells #[v1] t1)).alloc (.cells #[v2] t2)).alloc (.cells #[v3] t3)).alloc (.cells #[v4] t4)) (w.heap.size + 1 + 1) t3 v3 ∧
    Boxed ((((w.alloc (.cells #[v1] t1)).alloc (.cells #[v2] t2)).alloc (.cells #[v3] t3)).alloc (.cells #[v4] t4)) (w.heap.size + 1 + 1 + 1) t4 v4 := by
  have b1 := Boxed.new w t1 v1
  have b2 := Boxed.new (w.alloc (.cells #[v1] t1)) t2 v2
  have b3 := Boxed.new ((w.alloc (.cells #[v1] t1)).alloc (.cells #[v2] t2)) t3 v3
  have b4 := Boxed.new (((w.alloc (.cells #[v1] t1)).alloc (.cells #[v2] t2)).alloc (.cells #[v3] t3)) t4 v4
  simp only [World.size_alloc] at b2 b3 b4
  exact ⟨((b1.alloc _).alloc _).alloc _, (b2.alloc _).alloc _, b3.alloc _, b4⟩

set_option maxRecDepth 100000 in
set_option maxHeartbeats 1000000 in
theorem pdiv_zero (f : Nat) (a b : List Nat) (A B : Option Addr) (c d : Nat) (w : World) (hb : Rd w B b) (hcb : b.length ≤ d) (hlb : b.length ≤ 65536) (h0 : trim b = []) :
    Calls Try.prog 52 #[.pointer (some ⟨f, 0, none⟩), .slice A a.length c, .slice B b.length d] w (NoQuots w) := by
  have ht := fun u (hx : Ext w u) => ptrimmed b B d u (hb.ext hx) hcb hlb
  unfold Cuts at ht
  rw [h0, List.length_nil] at ht
  have HT := Lib.hid ht
  clear ht h0 hb
  go_enter Try.func52, Try.ntmps52
  go_wp2_with fail
  refine (HT.out _ ((((Ext.refl w).alloc _).alloc _).alloc _ |>.alloc _)).mono ?_
  rintro e w1 ⟨rfl, hx⟩
  obtain ⟨b1, b2, b3, b4⟩ := four_boxes w 26 22 22 22 (.pointer (some ⟨f, 0, none⟩)) (.slice B b.length d) (.slice none 0 0) (.slice none 0 0)
  have c2 := (box_ext b2 hx).cell
  have f2 := (box_ext b2 hx).frozen
  have k3 := box_far (box_ext b3 hx) (g := w.heap.size + 1) (o := 0) (u := .slice B 0 d) (by omega)
  have k4 := box_far (box_ext b4 hx) (g := w.heap.size + 1) (o := 0) (u := .slice B 0 d) (by omega)
  have k2 := (box_ext b2 hx).set (.slice B 0 d)
  have HX := Lib.hid ((((((Ext.refl w).alloc _).alloc _).alloc _ |>.alloc _).trans hx).setCell (p := ⟨w.heap.size + 1, 0, none⟩) (by simp) (.slice B 0 d))
  have HK3 := Lib.hid k3
  have HK4 := Lib.hid k4
  have HK2 := Lib.hid k2
  clear hx b1 b2 b3 b4 k2 k3 k4
  have c3 := HK3.out.cell
  have c4 := HK4.out.cell
  have f3 := HK3.out.frozen
  have f4 := HK4.out.frozen
  go_wp2_with fail
  have q3 := (box_far (HK3.out.set (.slice none 0 0)) (g := w.heap.size + 1 + 1 + 1) (o := 0) (u := .slice none 0 0) (by omega)).cell
  have q4 := ((box_far HK4.out (g := w.heap.size + 1 + 1) (o := 0) (u := .slice none 0 0) (by omega)).set (.slice none 0 0)).cell
  refine bodyPost_ret (v := .tuple #[.slice none 0 0, .slice none 0 0, .int .i64 1]) ?_ rfl ⟨_, _, rfl, ⟨none, 0, rfl, Nat.le_refl _, Rd.nil _ _⟩, ⟨none, 0, rfl, Nat.le_refl _, Rd.nil _ _⟩, ?_⟩
  · simp [results, Try.f52, go_sem, q3, q4]
  · exact (HX.out.setCell (p := ⟨w.heap.size + 1 + 1, 0, none⟩) (by simp; omega) _).setCell (p := ⟨w.heap.size + 1 + 1 + 1, 0, none⟩) (by simp; omega) _
end Go.Proofs.Ytffdmhcbcaemfaa

/-
  The plain mathematics of long division: what holds of the quotient's and the rest's coefficients behind some steps. Conditions: none.
-/
namespace Go.Proofs.Ytffdmhcbcaemfaa
open Pol (co Sm trim pc)

/-- Behind k steps of a division of ra by rb, whose last coefficient stands at place last. -/
structure DivInv (ra rb : List Nat) (nq last k : Nat) (fq fr : Nat → Nat) : Prop where
  low : ∀ i, i < nq - k → fq i = 0
  top : ∀ j, nq - k + last ≤ j → fr j = 0
  first : 0 < k → fq (nq - 1) ≠ 0
  sum : ∀ j, fr j ^^^ pc nq fq (co rb) j = co ra j
  out : ∀ j, ra.length ≤ j → fr j = 0

theorem divInv_start (ra rb : List Nat) (last : Nat) : DivInv ra rb (ra.length - last) last 0 (fun _ => 0) (co ra) where
  low := fun _ _ => rfl
  top := fun j hj => Pol.co_out ra j (by omega)
  first := fun h => by omega
  sum := fun j => by
    have : pc (ra.length - last) (fun _ => 0) (co rb) j = 0 := Pol.xs_zero _ fun i _ => by split <;> simp [Gf.zero_mul]
    rw [this, Nat.xor_zero]
  out := fun j hj => Pol.co_out ra j hj

theorem divInv_step (ra rb : List Nat) (last k : Nat) (fq fr : Nat → Nat) (hl : rb.length = last + 1) (hb0 : co rb last ≠ 0) (hrb : Sm rb) (hra : ra ≠ [] → co ra (ra.length - 1) ≠ 0)
    (hq : ∀ i, fq i < 256) (hr : ∀ j, fr j < 256) (h : DivInv ra rb (ra.length - last) last k fq fr) (hk : k < ra.length - last) :
    DivInv ra rb (ra.length - last) last (k + 1) (upd fq (ra.length - last - 1 - k) (Gf.mul (fr (ra.length - last - 1 - k + last)) (Gf.quo 1 (co rb last))))
      (addm (ra.length - last - 1 - k) (Gf.mul (fr (ra.length - last - 1 - k + last)) (Gf.quo 1 (co rb last))) rb fr rb.length) := by
  obtain ⟨p, hp⟩ : ∃ p, ra.length - last - 1 - k = p := ⟨_, rfl⟩
  obtain ⟨v, hv⟩ : ∃ v, Gf.mul (fr (p + last)) (Gf.quo 1 (co rb last)) = v := ⟨_, rfl⟩
  have hv256 : v < 256 := by rw [← hv]; exact Gf.mul_lt _ _
  rw [hp, hv]
  have hpn : p < ra.length - last := by omega
  have hfq0 : fq p = 0 := h.low p (by omega)
  have hcancel : Gf.mul v (co rb last) = fr (p + last) := by
    rw [← hv, Gf.mul_assoc _ _ _ (hr _) (Gf.quo_lt _ _) (hrb _), Gf.quo_mul 1 _ (by omega) (hrb _) hb0, Gf.mul_one _ (hr _)]
  constructor
  · intro i hi
    unfold upd
    rw [if_neg (by omega)]
    exact h.low i (by omega)
  · intro j hj
    unfold addm
    by_cases hj1 : j = p + last
    · subst hj1
      rw [if_pos (by omega), Nat.add_sub_cancel_left, hcancel, Nat.xor_self]
    · rw [if_neg (by omega)]
      exact h.top j (by omega)
  · intro _
    unfold upd
    by_cases hk0 : k = 0
    · subst hk0
      rw [if_pos (by omega), ← hv]
      have hra0 : ra ≠ [] := fun e => by rw [e] at hk; simp at hk
      have hfr : fr (p + last) = co ra (ra.length - 1) := by
        have hs := h.sum (p + last)
        have hz : pc (ra.length - last) fq (co rb) (p + last) = 0 := Pol.xs_zero _ fun i hi => by
          rw [h.low i (by omega), Gf.zero_mul]
          split <;> rfl
        rw [hz, Nat.xor_zero] at hs
        rw [hs]
        congr 1
        omega
      exact Gf.mul_ne _ _ (by rw [hfr]; exact hra hra0) (Gf.quo_ne 1 _ (by omega))
    · rw [if_neg (by omega)]
      exact h.first (by omega)
  · intro j
    have hu : pc (ra.length - last) (upd fq p v) (co rb) j = pc (ra.length - last) fq (co rb) j ^^^ (if p ≤ j then Gf.mul v (co rb (j - p)) else 0) := by
      have e : upd fq p v = fun i => if i = p then fq i ^^^ v else fq i := funext fun i => by
        unfold upd
        by_cases e : i = p
        · subst e
          rw [if_pos rfl, if_pos rfl, hfq0, Nat.zero_xor]
        · rw [if_neg e, if_neg e]
      rw [e]
      exact Pol.pc_update (ra.length - last) fq (co rb) p v j hpn hq hrb hv256
    rw [hu]
    unfold addm
    by_cases h1 : p ≤ j
    · rw [if_pos h1]
      by_cases h2 : j < p + rb.length
      · rw [if_pos ⟨h1, h2⟩, Pol.xor_swap, Nat.xor_self, Nat.xor_zero]
        exact h.sum j
      · rw [if_neg (by omega), Pol.co_out rb (j - p) (by omega), Gf.mul_zero, Nat.xor_zero]
        exact h.sum j
    · rw [if_neg h1, if_neg (by omega), Nat.xor_zero]
      exact h.sum j
  · intro j hj
    unfold addm
    rw [if_neg (by omega)]
    exact h.out j hj

theorem upd_lt {fq : Nat → Nat} {p v : Nat} (h : ∀ i, fq i < 256) (hv : v < 256) (i : Nat) : upd fq p v i < 256 := by
  unfold upd
  split
  · exact hv
  · exact h i
theorem addm_lt' {o t : Nat} {a : List Nat} {F : Nat → Nat} (h : ∀ i, F i < 256) (k i : Nat) : addm o t a F k i < 256 := addm_lt (n := i + 1) (fun j _ => h j) k i (by omega)
theorem divInv_next (ra rb : List Nat) (nq last p inv v : Nat) (ps : List Nat) (fq fr : Nat → Nat) (hnq : ra.length - last = nq) (hl : rb.length = last + 1) (hb0 : co rb last ≠ 0) (hrb : Sm rb) (hra : ra ≠ [] → co ra (ra.length - 1) ≠ 0)
    (hq : ∀ i, fq i < 256) (hr : ∀ j, fr j < 256) (hinv : Gf.quo 1 (co rb last) = inv) (hv : Gf.mul (fr (p + last)) inv = v) (hps : ps.length < nq) (h : ps = downs nq ps.length → DivInv ra rb nq last ps.length fq fr) :
    ps ++ [p] = downs nq (ps ++ [p]).length → DivInv ra rb nq last (ps ++ [p]).length (upd fq p v) (addm p v rb fr (last + 1)) := by
  intro e
  rw [List.length_append, List.length_singleton, downs_succ] at e
  obtain ⟨e1, e2⟩ := List.append_inj' e rfl
  have e3 : p = nq - 1 - ps.length := by simpa using e2
  have hs := divInv_step ra rb last ps.length fq fr hl hb0 hrb hra hq hr (by rw [hnq]; exact h e1) (by rw [hnq]; exact hps)
  rw [hnq, ← e3, hinv, hv, hl] at hs
  rw [List.length_append, List.length_singleton]
  exact hs

/-- What is left, at the end. -/
theorem divInv_end (a b : List Nat) (last : Nat) (fq fr : Nat → Nat) (hl : (trim b).length = last + 1) (h : DivInv (trim a) (trim b) ((trim a).length - last) last ((trim a).length - last) fq fr) :
    trim (tab ((trim a).length - last) fq) = tab ((trim a).length - last) fq ∧ (∀ j, co (Pol.mulP (tab ((trim a).length - last) fq) b) j ^^^ co (trim (tab (trim a).length fr)) j = co a j) ∧
      (trim (tab (trim a).length fr)).length < (trim b).length ∧ (tab ((trim a).length - last) fq).length ≤ a.length := by
  have hta := Pol.trim_len a
  have hco : ∀ j, co (tab (trim a).length fr) j = fr j := fun j => by
    rw [co_tab]
    split
    · rfl
    · exact (h.out j (by omega)).symm
  refine ⟨?_, fun j => ?_, ?_, ?_⟩
  · refine Pol.trim_fix _ ?_
    by_cases hz : (trim a).length - last = 0
    · rw [hz]; exact .inl rfl
    · refine .inr ?_
      rw [tab_len, co_tab, if_pos (by omega)]
      exact h.first (by omega)
  · rw [Pol.co_trim, hco, Pol.co_mulP_of _ _ ((trim a).length - last) j (by rw [tab_len]; exact Nat.le_refl _), ← Pol.co_trim a j, ← h.sum j, Nat.xor_comm]
    congr 1
    refine Pol.xs_congr _ fun i hi => ?_
    rw [co_tab, if_pos hi, Pol.co_trim]
  · rw [hl]
    refine Nat.lt_succ_of_le (Pol.trim_le _ _ fun j hj => ?_)
    rw [hco]
    exact h.top j (by omega)
  · rw [tab_len]; omega
end Go.Proofs.Ytffdmhcbcaemfaa

/-
  Trim of layer 2 once more: what it hands back lies in memory of its own, that may be written. Conditions: no more than 2^16 coefficients.
-/
namespace Go.Proofs.Ytffdmhcbcaemfaa
open Go.RowKit
open Pol (co Sm trim)

/-- A slice that reads as l, in a block of the call's own. -/
def OwnsR (l : List Nat) (w : World) (e : Ending) (w' : World) : Prop := ∃ A c g, e = .returned (.slice A l.length c) ∧ l.length ≤ c ∧ (0 < l.length → A = some ⟨g, 0, none⟩ ∧ w.heap.size ≤ g) ∧ Cells w' g l.length (co l) ∧ Ext w w'
theorem ownsR_of {w w' : World} {v : Value} {l : List Nat} (hm : Mine w' w.heap.size v l) (hx : Ext w w') : OwnsR l w (.returned v) w' := by
  rcases hm.2 with ⟨rfl, hn⟩ | ⟨g, cap, cur, rfl, hb, hg, hnc, _, _, htake⟩
  · have : l = [] := List.eq_nil_of_length_eq_zero hn
    subst this
    exact ⟨none, 0, 0, rfl, Nat.le_refl _, fun h => absurd h (by simp), fun i hi => absurd hi (by simp), hx⟩
  · refine ⟨_, cap, g, rfl, hnc, fun _ => ⟨rfl, hb⟩, fun i hi => ⟨?_, frozen_of_row w' g i cur _ hg⟩, hx⟩
    rw [cell_of_row w' g i cur _ _ hg, ← bv_at l i hi, ← htake, List.getElem?_take, if_pos (by omega)]
    simp
theorem ptrim_own (l : List Nat) (A : Option Addr) (c : Nat) (w : World) (hr : Rd w A l) (hc : l.length ≤ c) (hl : l.length ≤ 65536) :
    Calls Try.prog 63 #[.slice A l.length c] w (OwnsR (trim l) w) := by
  have hd := ptrimmed l A c w hr hc hl
  have hrt := hr.trim
  have ht := Pol.trim_len l
  have HR := Lib.hid hrt
  have HD := Lib.hid hd
  clear hd hrt hr
  go_enter Try.func63, Try.ntmps63
  go_wp2_with fail
  refine HD.out.mono ?_
  rintro e w1 ⟨rfl, hx⟩
  have HX := Lib.hid hx
  clear hx
  go_wp2_with (at_builtin; refine wpList_append_rd rfl (.const (.slice none 0 0)) (.tmp 4) rfl w.heap.size (.slice none 0 0) [] (trim l) rfl (mine_nil _ _) _ _ c rfl rfl (HR.out.ext HX.out) (by rw [List.length_nil]; omega) HX.out.size ?_; intro v' w' hown' hg' hat')
  go_ret
  exact ownsR_of hown' (HX.out.more hg' (by intro k hk; simp [Value.ownBlock] at hk))
end Go.Proofs.Ytffdmhcbcaemfaa

/-
  A region that draws its order, in the body of a loop over a function, by the laws for regions outside: of no program in particular. Conditions: no operation of it is a deferral, and what comes behind bears no memory run out.
-/
namespace Go.Proofs.Ytffdmhcbcaemfaa
open Go

section
variable {P : Program} {ops : Array Oper} {md : Region.Mode} {Q : Exit → Act → World → Prop}

def noDefer (ops : Array Oper) : Bool := ops.toList.all fun o => match o.op with
  | .defer _ => false
  | _ => true
theorem noDefer_at (h : noDefer ops = true) {i : Nat} {o : Oper} (ho : ops[i]? = some o) : ∀ c, o.op ≠ .defer c := fun c e => by
  have hm : o ∈ ops.toList := by
    obtain ⟨hi, rfl⟩ := Array.getElem?_eq_some_iff.1 ho
    simp
  have := List.all_eq_true.1 h o hm
  rw [e] at this
  cases this

theorem rowsIn_wide {n : Nat} {row : String} {args : Array Value} {w : World} {R : Value → World → Prop} (h : Rows P row args w R) : RowsIn Fence.wide n P row args w R := fun c cs _ => by
  obtain ⟨v, w', hR, hs⟩ := h c cs
  exact ⟨v, w', hR, stepsIn_wide.2 hs⟩
theorem uponIn_of {o : Oper} {a : Act} {K : Act → World → Prop} {l n : Nat} (r : Result Next) (h : o.upon P a K Q r) : o.uponIn (Fence.wide.inRound l) n P a K Q r := by
  cases r with
  | ok x w' =>
    cases x <;> simp only [Oper.upon, Oper.uponIn] at h ⊢
    all_goals first
      | exact h
      | exact ⟨(fun hd => by cases hd), CallsIn.inRound l (callsIn_wide.2 h)⟩
      | exact ⟨(fun hd => by cases hd), rowsIn_wide h⟩
  | halt x w' => cases x <;> simp only [Oper.upon, Oper.uponIn] at h ⊢ <;> exact h
theorem anyIn_of_any (hd : noDefer ops = true) (hQ : ¬ LetsOut Q) {l n : Nat} : ∀ (fuel : Nat) (listed : Array Bool) (a : Act) (w : World), wpAny P md ops Q fuel listed a w → wpAnyIn (Fence.wide.inRound l) n P md ops Q fuel listed a w
  | 0, _, _, _, h => h
  | fuel + 1, listed, a, w, h => by
    refine ⟨h.1, fun i hi => ?_⟩
    have hh := h.2 i hi
    unfold wpOp at hh
    unfold wpOpIn
    cases ho : ops[i]? with
    | none => rw [ho] at hh; exact anyIn_of_any hd hQ fuel _ a w hh
    | some o =>
      rw [ho] at hh
      simp only at hh ⊢
      by_cases hw : Region.wanted o (yielded ops a.tmps) = true
      · rw [if_pos hw] at hh ⊢
        rcases hh with hh | hh
        · refine ⟨fun _ _ => trivial, ?_⟩
          rw [show (Fence.wide.inRound l).round = some l from rfl, Oper.semAt_some l _ o (noDefer_at hd ho)]
          exact uponIn_of _ (Oper.wp_mono (fun a w => anyIn_of_any hd hQ fuel _ a w) hh)
        · exact absurd hh.2 hQ
      · rw [if_neg hw] at hh ⊢
        exact ⟨fun _ _ => trivial, anyIn_of_any hd hQ fuel _ _ w hh⟩

/-- Head quiet in a class, tail forced; in a round. -/
theorem wpIn_region_quiet_tail {id lq k : Nat} {a : Act} {w : World} {l : List Oper} (n : Nat) (C : World → Prop) (hm : P.follows .mixedOrders = true) (hB : Region.lexTailB .any l.toArray n = true) (hd : noDefer l.toArray = true) (hQ : ¬ LetsOut Q) (hC : C w.drew)
    (h : wpQuiet P l.toArray C (fun a' => ∀ w', C w' → wpList P l.toArray Q (l.drop n) a' w') (l.take n) a) : (Code.region id l.toArray true).wpIn (Fence.wide.inRound lq) k P Q a w :=
  wpIn_region_any hm (anyIn_of_any hd hQ _ _ _ _ (any_quiet_tail n C hB hC h))
end
end Go.Proofs.Ytffdmhcbcaemfaa

/-
  What Divide of layer 2 does: a quotient, and what is left, of a lesser degree. Conditions: a field that New made, no more than 2^16 coefficients.
-/
namespace Go.Proofs.Ytffdmhcbcaemfaa
open Go.RowKit Go.Shelf
open Pol (co Sm trim)
attribute [local go_sem] Oper.semAt_some

/-- The call's own variables, while it divides. -/
def Boxes (W : World) (s s9 s10 gq nq tr cr : Nat) (Ar : Option Addr) (f b0 o0 last d inv : Nat) : Prop :=
  Boxed W s 26 (.pointer (some ⟨f, 0, none⟩)) ∧ Boxed W (s + 1) 22 (.slice (some ⟨b0, o0, none⟩) (last + 1) d) ∧ Boxed W (s + 1 + 1) 22 (.slice (some ⟨gq, 0, none⟩) nq nq) ∧
    Boxed W (s + 1 + 1 + 1) 22 (.slice Ar tr cr) ∧ Boxed W s9 3 (.int .i64 (last : Int)) ∧ Boxed W s10 5 (.int .u8 (inv : Int))
theorem Boxes.keep {W W' : World} {s s9 s10 gq nq tr cr : Nat} {Ar : Option Addr} {f b0 o0 last d inv g : Nat} (h : Boxes W s s9 s10 gq nq tr cr Ar f b0 o0 last d inv) (hg : W.grownBy W' (some g)) (h1 : s + 1 + 1 + 1 < g) (h2 : s9 < g) (h3 : s10 < g) :
    Boxes W' s s9 s10 gq nq tr cr Ar f b0 o0 last d inv := by
  obtain ⟨k1, k2, k3, k4, k5, k6⟩ := h
  have ne : ∀ x, x < g → some x ≠ some g := fun x hx e => by cases e; omega
  exact ⟨Boxed.kept k1 hg (ne _ (by omega)), Boxed.kept k2 hg (ne _ (by omega)), Boxed.kept k3 hg (ne _ (by omega)), Boxed.kept k4 hg (ne _ (by omega)), Boxed.kept k5 hg (ne _ (by omega)), Boxed.kept k6 hg (ne _ (by omega))⟩
theorem box_own {W W' : World} {row : Option Nat} {B : Nat} {t : TypeId} {v : Value} (h : Boxed W B t v) (hg : W.grownBy W' row) (hr : ∀ r, row = some r → ∃ o : Obj, W.heap[r]? = some o ∧ o.isCells = false) : Boxed W' B t v :=
  Boxed.kept h hg (fun e => by
    obtain ⟨o, ho, hc⟩ := hr B e.symm
    rw [show W.heap[B]? = _ from h] at ho
    cases ho
    cases hc)
theorem cells_own {W W' : World} {row : Option Nat} {g n : Nat} {F : Nat → Nat} (h : Cells W g n F) (hg : W.grownBy W' row) (hr : ∀ r, row = some r → ∃ o : Obj, W.heap[r]? = some o ∧ o.isCells = false) : Cells W' g n F := fun i hi =>
  ⟨cell_kept (h i hi).1 hg hr, (frozen_kept (h i hi).1 hg hr).trans (h i hi).2⟩
theorem boxes_own {W W' : World} {row : Option Nat} {s s9 s10 gq nq tr cr : Nat} {Ar : Option Addr} {f b0 o0 last d inv : Nat} (h : Boxes W s s9 s10 gq nq tr cr Ar f b0 o0 last d inv) (hg : W.grownBy W' row) (hr : ∀ r, row = some r → ∃ o : Obj, W.heap[r]? = some o ∧ o.isCells = false) :
    Boxes W' s s9 s10 gq nq tr cr Ar f b0 o0 last d inv := by
  obtain ⟨k1, k2, k3, k4, k5, k6⟩ := h
  exact ⟨box_own k1 hg hr, box_own k2 hg hr, box_own k3 hg hr, box_own k4 hg hr, box_own k5 hg hr, box_own k6 hg hr⟩
/-- What holds between two rounds: the quotient's cells, and the rest's. -/
def DivSt (ra rb : List Nat) (gq nq gr tr last : Nat) (ps : List Nat) (W : World) : Prop :=
  ∃ fq fr, Cells W gq nq fq ∧ Cells W gr tr fr ∧ (∀ i, fq i < 256) ∧ (∀ j, fr j < 256) ∧ (ps = downs nq ps.length → DivInv ra rb nq last ps.length fq fr)
theorem divSt_own {W W' : World} {row : Option Nat} {ra rb : List Nat} {gq nq gr tr last : Nat} {ps : List Nat} (h : DivSt ra rb gq nq gr tr last ps W) (hg : W.grownBy W' row) (hr : ∀ r, row = some r → ∃ o : Obj, W.heap[r]? = some o ∧ o.isCells = false) : DivSt ra rb gq nq gr tr last ps W' := by
  obtain ⟨fq, fr, h1, h2, h3⟩ := h
  exact ⟨fq, fr, cells_own h1 hg hr, cells_own h2 hg hr, h3⟩
/-- A byte. -/
def Byte (_ v : Nat) : Prop := v < 256

set_option maxRecDepth 100000 in
set_option maxHeartbeats 4000000 in
theorem pdiv_some (f : Nat) (a b : List Nat) (A B : Option Addr) (c d : Nat) (w : World) (hf : IsField w f) (ha : Rd w A a) (hb : Rd w B b) (hca : a.length ≤ c) (hcb : b.length ≤ d) (hla : a.length ≤ 65536) (hlb : b.length ≤ 65536) (h0 : trim b ≠ []) :
    Calls Try.prog 52 #[.pointer (some ⟨f, 0, none⟩), .slice A a.length c, .slice B b.length d] w (Quots a b w) := by
  have htb := fun u (hx : Ext w u) => ptrimmed b B d u (hb.ext hx) hcb hlb
  have hta := fun u (hx : Ext w u) => ptrim_own a A c u (ha.ext hx) hca hla
  have hlb' := List.length_pos_iff.2 h0
  have hend := divInv_end a b
  have hstep := divInv_step (trim a) (trim b)
  have hstart := divInv_start (trim a) (trim b)
  have hrb := hb.trim
  have hra0 : trim a ≠ [] → co (trim a) ((trim a).length - 1) ≠ 0 := fun h => by rw [Pol.co_trim]; exact Pol.trim_last a h
  have hrb0 : co (trim b) ((trim b).length - 1) ≠ 0 := by rw [Pol.co_trim]; exact Pol.trim_last b h0
  have hla' := Pol.trim_len a
  have HSMA := Lib.hid ha.1.trim
  have hlb2 := Pol.trim_len b
  unfold Cuts at htb
  generalize hRA : trim a = ra at *
  generalize hRB : trim b = rb at *
  obtain ⟨last, hlast⟩ : ∃ last, rb.length = last + 1 := ⟨rb.length - 1, by omega⟩
  generalize hTR : ra.length = tr at *
  have hrs : Sm rb := hrb.1
  obtain ⟨p, hp⟩ : ∃ p, co rb last = p := ⟨_, rfl⟩
  have hp0 : p ≠ 0 := by rw [← hp]; rw [hlast] at hrb0; simpa using hrb0
  have hp256 : p < 256 := by rw [← hp]; exact hrs last
  obtain ⟨inv, hinv⟩ : ∃ v, Gf.quo 1 p = v := ⟨_, rfl⟩
  have hinv256 : inv < 256 := by rw [← hinv]; exact Gf.quo_lt _ _
  obtain ⟨b0, o0, hBA, hBC⟩ := hrb.addr hlb'
  subst hBA
  have hBl := hBC last (by omega)
  rw [hp] at hBl
  rw [hlast] at htb
  have HTB := Lib.hid htb
  have HTA := Lib.hid hta
  have HEND := Lib.hid hend
  have HSTEP := Lib.hid hstep
  have HSTART := Lib.hid hstart
  have HRB := Lib.hid hrb
  have HRA0 := Lib.hid hra0
  have HLAST := Lib.hid hlast
  have HTR := Lib.hid hTR
  have HRA := Lib.hid hRA
  have HRB' := Lib.hid hRB
  have HP := Lib.hid hp
  have HP0 := Lib.hid hp0
  have HINV := Lib.hid hinv
  have HF := Lib.hid hf
  have HBL := Lib.hid hBl
  have HRS := Lib.hid hrs
  clear htb hta hend hstep hstart hrb hra0 hlast hTR hRA hRB hp hp0 hinv hf hBl hrs hrb0 h0 hBC ha hb
  have hlasti : last ≤ 65536 := by have := HLAST.out; omega
  refine (callsIn_wide (n := 4)).1 ?_
  refine callsIn_of_wp_marks Try.func52 rfl trivial ?_ rfl
  refine wpIn_wide.2 ?_
  simp only [Try.ntmps52, List.size_toArray, List.length_cons, List.length_nil, Nat.reduceAdd, Nat.reduceSub, Array.replicate_succ, Array.replicate_zero, List.push_toArray, List.append_toArray, List.nil_append, List.cons_append]
  go_wp2_with fail
  refine (HTB.out _ ((((Ext.refl w).alloc _).alloc _).alloc _ |>.alloc _)).mono ?_
  rintro e w1 ⟨rfl, hx⟩
  obtain ⟨b1, b2, b3, b4⟩ := four_boxes w 26 22 22 22 (.pointer (some ⟨f, 0, none⟩)) (.slice (some ⟨b0, o0, none⟩) b.length d) (.slice none 0 0) (.slice none 0 0)
  have c2 := (box_ext b2 hx).cell
  have f2 := (box_ext b2 hx).frozen
  have k1 := box_far (box_ext b1 hx) (g := w.heap.size + 1) (o := 0) (u := .slice (some ⟨b0, o0, none⟩) (last + 1) d) (by omega)
  have k2 := (box_ext b2 hx).set (.slice (some ⟨b0, o0, none⟩) (last + 1) d)
  have k3 := box_far (box_ext b3 hx) (g := w.heap.size + 1) (o := 0) (u := .slice (some ⟨b0, o0, none⟩) (last + 1) d) (by omega)
  have k4 := box_far (box_ext b4 hx) (g := w.heap.size + 1) (o := 0) (u := .slice (some ⟨b0, o0, none⟩) (last + 1) d) (by omega)
  have HX := Lib.hid ((((((Ext.refl w).alloc _).alloc _).alloc _ |>.alloc _).trans hx).setCell (p := ⟨w.heap.size + 1, 0, none⟩) (by simp) (.slice (some ⟨b0, o0, none⟩) (last + 1) d))
  obtain ⟨w2, hw2⟩ : ∃ u, w1.setCell ⟨w.heap.size + 1, 0, none⟩ (.slice (some ⟨b0, o0, none⟩) (last + 1) d) = u := ⟨_, rfl⟩
  have HW2 := Lib.hid hw2
  have K1 := Lib.hid k1
  have K2 := Lib.hid k2
  have K3 := Lib.hid k3
  have K4 := Lib.hid k4
  clear hx b1 b2 b3 b4 k1 k2 k3 k4 hw2
  have t1 : (((last + 1 : Nat) : Int) == 0) = false := by simp; omega
  have t2 : ((last : Int) + 1 == 0) = false := by simp; omega
  go_wp2_with fail
  have e1 := box_alloc K1.out (.cells #[.int .i64 (last : Int)] 3)
  have e2 := box_alloc K2.out (.cells #[.int .i64 (last : Int)] 3)
  have e3 := box_alloc K3.out (.cells #[.int .i64 (last : Int)] 3)
  have e4 := box_alloc K4.out (.cells #[.int .i64 (last : Int)] 3)
  have e9 := Boxed.new (w1.setCell ⟨w.heap.size + 1, 0, none⟩ (.slice (some ⟨b0, o0, none⟩) (last + 1) d)) 3 (.int .i64 (last : Int))
  have hxu := HX.out.alloc (.cells #[.int .i64 (last : Int)] 3)
  have hss : (w1.setCell ⟨w.heap.size + 1, 0, none⟩ (.slice (some ⟨b0, o0, none⟩) (last + 1) d)).heap.size = w1.heap.size := by simp [World.setCell]
  have hs9 : w.heap.size + 1 + 1 + 1 < w1.heap.size := by have := K4.out.lt; rw [hss] at this; exact this
  rw [hss] at e9
  obtain ⟨u, hu⟩ : ∃ u, (w1.setCell ⟨w.heap.size + 1, 0, none⟩ (.slice (some ⟨b0, o0, none⟩) (last + 1) d)).alloc (.cells #[.int .i64 (last : Int)] 3) = u := ⟨_, rfl⟩
  rw [hu] at e1 e2 e3 e4 e9 hxu ⊢
  generalize w1.heap.size = s9 at e9 hs9 ⊢
  clear hu hss c2 f2 K1 K2 K3 K4 HX HW2 t1 t2
  have E1 := Lib.hid e1
  have E2 := Lib.hid e2
  have E3 := Lib.hid e3
  have E4 := Lib.hid e4
  have E9 := Lib.hid e9
  have HXU := Lib.hid hxu
  have q1 := e1.cell
  have q2 := e2.cell
  have q9 := e9.cell
  have qb : u.cell? ⟨b0, o0 + last, none⟩ = some (.int .u8 (p : Int)) := (hxu.below.cell (p := ⟨b0, o0 + last, none⟩) (block_lt_of_cell HBL.out)).trans HBL.out
  have n1 : ¬ (u.heap.size = w.heap.size) := by have := e1.lt; omega
  have n2 : ¬ (u.heap.size = w.heap.size + 1) := by have := e2.lt; omega
  have n9 : ¬ (u.heap.size = s9) := by have := e9.lt; omega
  have nb : ¬ (u.heap.size = b0) := by have h : b0 < u.heap.size := block_lt_of_cell qb; omega
  have hiv := fun W (hW : Ext u W) => inv_is f p inv W (HF.out.ext (hxu.trans hW)) hp256 HP0.out HINV.out
  have HIV := Lib.hid hiv
  clear hiv e1 e2 e3 e4 e9 hxu
  have hli : (last : Int) < (last : Int) + 1 := by omega
  go_region_held3 (fun w' => w'.cell? ⟨w.heap.size, 0, none⟩ = some (.pointer (some ⟨f, 0, none⟩)) ∧ w'.cell? ⟨w.heap.size + 1, 0, none⟩ = some (.slice (some ⟨b0, o0, none⟩) (last + 1) d) ∧
      w'.cell? ⟨s9, 0, none⟩ = some (.int .i64 (last : Int)) ∧ w'.cell? ⟨b0, o0 + last, none⟩ = some (.int .u8 (p : Int)))
    (first | go_keep)
    (first
      | (go_at_call 62; refine (HIV.out u.drew (Ext.refl u).drew).mono ?_; rintro e w4 ⟨rfl, q, hq⟩
         have z1 : w4.cell? ⟨w.heap.size, 0, none⟩ = some (.pointer (some ⟨f, 0, none⟩)) := by rw [hq]; exact q1
         have z2 : w4.cell? ⟨w.heap.size + 1, 0, none⟩ = some (.slice (some ⟨b0, o0, none⟩) (last + 1) d) := by rw [hq]; exact q2
         have z9 : w4.cell? ⟨s9, 0, none⟩ = some (.int .i64 (last : Int)) := by rw [hq]; exact q9
         have zb : w4.cell? ⟨b0, o0 + last, none⟩ = some (.int .u8 (p : Int)) := by rw [hq]; exact qb
         have m1 : ¬ (w4.heap.size = w.heap.size) := by rw [hq]; exact n1
         have m2 : ¬ (w4.heap.size = w.heap.size + 1) := by rw [hq]; exact n2
         have m9 : ¬ (w4.heap.size = s9) := by rw [hq]; exact n9
         have mb : ¬ (w4.heap.size = b0) := by rw [hq]; exact nb
         have HW4 := Lib.hid (show Ext u w4 from by rw [hq]; exact (Ext.refl u).drew.drewN q)
         have HS4 := Lib.hid (show w4.heap.size = u.heap.size from by rw [hq]; rfl)
         clear hq)
      | (go_at_call 62; refine (HIV.out (u.drew.alloc (.cells #[.int .u8 0] 5)) ((Ext.refl u).drew.alloc _)).mono ?_; rintro e w4 ⟨rfl, q, hq⟩
         have z1 : w4.cell? ⟨w.heap.size, 0, none⟩ = some (.pointer (some ⟨f, 0, none⟩)) := by rw [hq]; exact ((Ext.refl u).drew.alloc _).below.cell (p := ⟨w.heap.size, 0, none⟩) (block_lt_of_cell q1) |>.trans q1
         have z2 : w4.cell? ⟨w.heap.size + 1, 0, none⟩ = some (.slice (some ⟨b0, o0, none⟩) (last + 1) d) := by rw [hq]; exact ((Ext.refl u).drew.alloc _).below.cell (p := ⟨w.heap.size + 1, 0, none⟩) (block_lt_of_cell q2) |>.trans q2
         have z9 : w4.cell? ⟨s9, 0, none⟩ = some (.int .i64 (last : Int)) := by rw [hq]; exact ((Ext.refl u).drew.alloc _).below.cell (p := ⟨s9, 0, none⟩) (block_lt_of_cell q9) |>.trans q9
         have zb : w4.cell? ⟨b0, o0 + last, none⟩ = some (.int .u8 (p : Int)) := by rw [hq]; exact ((Ext.refl u).drew.alloc _).below.cell (p := ⟨b0, o0 + last, none⟩) (block_lt_of_cell qb) |>.trans qb
         have zz := (Boxed.new u.drew 5 (.int .u8 0))
         have zc : w4.cell? ⟨u.heap.size, 0, none⟩ = some (.int .u8 0) := by rw [hq]; exact zz.cell
         have zf : w4.frozen? ⟨u.heap.size, 0, none⟩ = false := by rw [hq]; exact zz.frozen
         have HZB := Lib.hid (show Boxed w4 u.heap.size 5 (.int .u8 0) from by rw [hq]; exact zz)
         have HW4 := Lib.hid (show Ext u w4 from by rw [hq]; exact ((Ext.refl u).drew.alloc _).drewN q)
         clear hq zz))
  clear m1 m2 m9 mb z1 z2 z9 zb n1 n2 n9 nb q1 q2 q9 qb
  obtain ⟨v, hv⟩ : ∃ v, w4.alloc (.cells #[.int .u8 (inv : Int)] 5) = v := ⟨_, rfl⟩
  have hxv : Ext u v := by rw [← hv]; exact HW4.out.alloc _
  have e10 : Boxed v w4.heap.size 5 (.int .u8 (inv : Int)) := by rw [← hv]; exact Boxed.new _ _ _
  have g10 : s9 < w4.heap.size := by rw [HS4.out]; exact E9.out.lt
  rw [hv]
  generalize w4.heap.size = s10 at e10 g10 ⊢
  clear hv HS4 HW4
  rotate_left
  clear z1 z2 z9 zb n1 n2 n9 nb q1 q2 q9 qb zc zf
  obtain ⟨v, hv⟩ : ∃ v, w4.setCell ⟨u.heap.size, 0, none⟩ (.int .u8 (inv : Int)) = v := ⟨_, rfl⟩
  have hxv : Ext u v := by rw [← hv]; exact HW4.out.setCell (p := ⟨u.heap.size, 0, none⟩) (Nat.le_refl _) _
  have e10 : Boxed v u.heap.size 5 (.int .u8 (inv : Int)) := by rw [← hv]; exact HZB.out.set _
  have g10 : s9 < u.heap.size := E9.out.lt
  rw [hv]
  generalize u.heap.size = s10 at e10 g10 ⊢
  clear hv HZB HW4
  all_goals
    have E1' := Lib.hid (box_ext E1.out hxv)
    have E2' := Lib.hid (box_ext E2.out hxv)
    have E3' := Lib.hid (box_ext E3.out hxv)
    have E4' := Lib.hid (box_ext E4.out hxv)
    have E9' := Lib.hid (box_ext E9.out hxv)
    have E10 := Lib.hid e10
    have HXV := Lib.hid (HXU.out.trans hxv)
    clear E1 E2 E3 E4 E9 e10 hxv HXU HIV hli
    go_wp2_with fail
    refine (HTA.out v HXV.out).mono ?_
    rintro e w5 ⟨Ar, cr, gr, he, hcr, hgr, hcl, hx5⟩
    rw [HTR.out] at he hcr hgr hcl
    subst he
    have F1 := Lib.hid (box_far (box_ext E1'.out hx5) (g := w.heap.size + 1 + 1 + 1) (o := 0) (u := .slice Ar tr cr) (by omega))
    have F2 := Lib.hid (box_far (box_ext E2'.out hx5) (g := w.heap.size + 1 + 1 + 1) (o := 0) (u := .slice Ar tr cr) (by omega))
    have F3 := Lib.hid (box_far (box_ext E3'.out hx5) (g := w.heap.size + 1 + 1 + 1) (o := 0) (u := .slice Ar tr cr) (by omega))
    have F4 := Lib.hid ((box_ext E4'.out hx5).set (.slice Ar tr cr))
    have F9 := Lib.hid (box_far (box_ext E9'.out hx5) (g := w.heap.size + 1 + 1 + 1) (o := 0) (u := .slice Ar tr cr) (by omega))
    have F10 := Lib.hid (box_far (box_ext E10.out hx5) (g := w.heap.size + 1 + 1 + 1) (o := 0) (u := .slice Ar tr cr) (by omega))
    have c4 := (box_ext E4'.out hx5).cell
    have f4 := (box_ext E4'.out hx5).frozen
    have hvs : s10 < v.heap.size := E10.out.lt
    have hgr' : 0 < tr → Ar = some ⟨gr, 0, none⟩ ∧ v.heap.size ≤ gr := hgr
    have HGR := Lib.hid hgr'
    have HX5 := Lib.hid hx5
    have HCL := Lib.hid hcl
    clear E1' E2' E3' E4' E9' E10 hgr hgr' hx5 hcl
    have HXX := Lib.hid ((HXV.out.trans HX5.out).setCell (p := ⟨w.heap.size + 1 + 1 + 1, 0, none⟩) (by simp; omega) (.slice Ar tr cr))
    go_upto_region 9 with (fail)
    obtain ⟨w6, hw6⟩ : ∃ u, w5.setCell ⟨w.heap.size + 1 + 1 + 1, 0, none⟩ (.slice Ar tr cr) = u := ⟨_, rfl⟩
    have hcl6 : Cells w6 gr tr (co ra) := by
      rw [← hw6]
      by_cases h0 : 0 < tr
      · exact HCL.out.keep (grown_set _ _ _ _) (fun e => by have := (HGR.out h0).2; cases e; omega)
      · exact fun i hi => absurd hi (by omega)
    have hs6 : v.heap.size ≤ w6.heap.size := by rw [← hw6]; simpa [World.setCell] using HX5.out.size
    have hgl : 0 < tr → gr < w6.heap.size := fun h => block_lt_of_cell (hcl6 0 h).1
    have HCL6 := Lib.hid hcl6
    have HGL := Lib.hid hgl
    rw [hw6] at F1 F2 F3 F4 F9 F10 HXX ⊢
    clear hw6 c4 f4 hcl6 hgl HCL HXV HX5
    obtain ⟨nq, hnq⟩ : ∃ nq, tr - last = nq := ⟨_, rfl⟩
    have k4 := F4.out.cell
    have k9 := F9.out.cell
    have G3 := Lib.hid (box_alloc F3.out (.cells (bt nq fun _ => 0) 5))
    have k3 := G3.out.cell
    have fr3 := G3.out.frozen
    have HNQ := Lib.hid hnq
    have hnq2 : nq ≤ tr := by omega
    have hnq3 : nq ≤ 65536 := by omega
    by_cases hge : last ≤ tr
    · have hmk := fun W => run_make_u8 nq (by omega) W
      have hcast : (nq : Int) = (tr : Int) - (last : Int) := by omega
      have hI : ¬ ((tr : Int) - (last : Int) < 0) := by omega
      have hI2 : (last : Int) ≤ (tr : Int) := by omega
      rw [hcast] at hmk
      clear hcast hnq
      go_wp2_with fail
      clear hmk hI hI2
      obtain ⟨w7, hw7⟩ : ∃ u, (w6.alloc (.cells (bt nq fun _ => 0) 5)).setCell ⟨w.heap.size + 1 + 1, 0, none⟩ (.slice (some ⟨w6.heap.size, 0, none⟩) nq nq) = u := ⟨_, rfl⟩
      have hbx : Boxes w7 w.heap.size s9 s10 w6.heap.size nq tr cr Ar f b0 o0 last d inv := by
        rw [← hw7]
        exact ⟨box_far (box_alloc F1.out _) (by omega), box_far (box_alloc F2.out _) (by omega), G3.out.set _, box_far (box_alloc F4.out _) (by omega), box_far (box_alloc F9.out _) (by omega), box_far (box_alloc F10.out _) (by omega)⟩
      have hcq : Cells w7 w6.heap.size nq (fun _ => 0) := by
        rw [← hw7]
        exact (Blk.new w6 nq (fun _ => 0)).cells.keep (grown_set _ _ _ _) (fun e => by injection e with e; omega)
      have hcr7 : Cells w7 gr tr (co ra) := by
        rw [← hw7]
        by_cases h0 : 0 < tr
        · exact (HCL6.out.keep (World.grownBy_alloc w6 _ none) (by simp)).keep (grown_set _ _ _ _) (fun e => by have := (HGR.out h0).2; cases e; omega)
        · exact fun i hi => absurd hi (by omega)
      have hx7 : Ext w w7 := by
        rw [← hw7]
        exact (HXX.out.alloc _).setCell (p := ⟨w.heap.size + 1 + 1, 0, none⟩) (by simp; omega) _
      have hs7 : w7.heap.size = w6.heap.size + 1 := by rw [← hw7]; simp [World.setCell]
      rw [hw7]
      have HS7 := Lib.hid hs7
      have HBX := Lib.hid hbx
      have HCQ := Lib.hid hcq
      have HCR := Lib.hid hcr7
      have HX7 := Lib.hid hx7
      clear hw7 hbx hcq hcr7 hx7 hs7 k3 k4 k9 fr3 G3 F1 F2 F3 F4 F9 F10 HXX HCL6
      have hs6' : s10 < w6.heap.size := by omega
      have hgl' : 0 < tr → gr < w6.heap.size := HGL.out
      have HGQ := Lib.hid hgl'
      clear hgl' HGL
      generalize w6.heap.size = gq at *
      refine (back_calls _ _ _ _).mono ?_
      rintro e w8 ⟨rfl, hw8⟩
      have hx8 : Ext w7 w8 := by rw [hw8]; exact (Ext.refl _).alloc _
      have hb8 : Boxed w8 w7.heap.size 22 (.slice (some ⟨gq, 0, none⟩) nq nq) := by rw [hw8]; exact Boxed.new _ _ _
      have hbs : gq < w7.heap.size := by rw [HS7.out]; omega
      have hb0 : b0 < w.heap.size := block_lt_of_cell HBL.out
      have hfl : f < w.heap.size := HF.out.lt
      obtain ⟨q1, q2, q3, q4, q5, q6⟩ := HBX.out
      have hbx8 : Boxes w8 w.heap.size s9 s10 gq nq tr cr Ar f b0 o0 last d inv := ⟨box_ext q1 hx8, box_ext q2 hx8, box_ext q3 hx8, box_ext q4 hx8, box_ext q5 hx8, box_ext q6 hx8⟩
      have hst8 : DivSt ra rb gq nq gr tr last [] w8 := ⟨fun _ => 0, co ra, HCQ.out.ext hx8, HCR.out.ext hx8, fun _ => (by decide : (0 : Nat) < 256), HSMA.out, fun _ => by have := HSTART.out last; rwa [HNQ.out] at this⟩
      have hxw8 : Ext w w8 := HX7.out.trans hx8
      have hlt8 : w7.heap.size < w8.heap.size := hb8.lt
      clear q1 q2 q3 q4 q5 q6 hw8 hx8
      generalize w7.heap.size = Bs at *
      have HB8 := Lib.hid hb8
      have HBX8 := Lib.hid hbx8
      have HST8 := Lib.hid hst8
      have HXW8 := Lib.hid hxw8
      clear hb8 hbx8 hst8 hxw8 HBX HCQ HCR HX7 HS7 HSTART
      go_wp2_with fail
      refine (wpIn_wide (n := 4)).1 ?_
      refine' wpIn_rangeFunc_ownG rfl (by omega) (gf := 66) (lb := #[.pointer (some ⟨Bs, 0, none⟩)]) rfl trivial (enters_of Try.func66 (by kernel_rfl) rfl)
        (back_stops _ (by omega) Bs nq nq (some ⟨gq, 0, none⟩) Byte (by omega) w8 hlt8 (fun b o e h => by cases e; omega) HB8.out.cell (fun i hi => by
          obtain ⟨fq, fr, h1, h2, h3, h4, h5⟩ := HST8.out
          exact ⟨gq, 0, fq i, rfl, h3 i, by rw [Nat.zero_add]; exact (h1 i hi).1⟩))
        KpB.trans (KpB.put hlt8 (fun b o e h => by cases e; omega)) (Below.refl _ _) (fun _ => rfl)
        (fun pre W => (DivSt ra rb gq nq gr tr last (pre.map fun x => x.1.1) W ∧ Boxes W w.heap.size s9 s10 gq nq tr cr Ar f b0 o0 last d inv) ∧ Below w.heap.size w W)
        (fun _ _ _ => False)
        (OwnFrom.and (Own.from (fun s A B row hs hg hr => ⟨divSt_own hs.1 hg hr, boxes_own hs.2 hg hr⟩) _) (ownFrom_below (Nat.le_refl _) (by omega)))
        (fun _ _ _ _ _ hs _ _ => hs)
        ⟨⟨HST8.out, HBX8.out⟩, HXW8.out.below⟩
        _ ?assign ?body ?done ?stop
      case assign =>
        intro l x W K hK
        dsimp only [plv]
        gi_wp2
        exact hK
      case body =>
        rintro lq pre ⟨⟨p', pv⟩, hp', hpv⟩ W ⟨⟨⟨fq, fr, hq, hr, hq256, hr256, hinvr⟩, hbx⟩, hB⟩ hlen
        have hpn : p' < nq := hp'
        have hpl : p' + last < tr := by have := HNQ.out; omega
        have htr : 0 < tr := by omega
        obtain ⟨hAr, hgrl⟩ := HGR.out htr
        have hgq := HGQ.out htr
        subst hAr
        obtain ⟨x1, x2, x3, x4, x5, x6⟩ := hbx
        have d1 := Boxed.cell x1
        have d3 := Boxed.cell x3
        have d4 := Boxed.cell x4
        have d5 := Boxed.cell x5
        have d6 := Boxed.cell x6
        have dr := (hr (p' + last) hpl).1
        have dq := (hq p' hpn).1
        have dqf := (hq p' hpn).2
        have hpI : (p' : Int) < (nq : Int) := by omega
        have hplI : ((p' + last : Nat) : Int) < (tr : Int) := by omega
        have hw := IntWalk.i64_in ((p' : Int) + (last : Int)) (by omega)
        obtain ⟨s, hs⟩ : ∃ s, p' + last = s := ⟨_, rfl⟩
        have hw2 : IntKind.i64.wrap ((p' : Int) + (last : Int)) = (s : Int) := by rw [hw]; omega
        rw [hs] at dr hplI
        obtain ⟨vv, hvv⟩ : ∃ vv, Gf.mul (fr s) inv = vv := ⟨_, rfl⟩
        have hvv256 : vv < 256 := by rw [← hvv]; exact Gf.mul_lt _ _
        have HM := Lib.hid (show ∀ q, Calls Try.prog 46 #[.pointer (some ⟨f, 0, none⟩), .int .u8 ((fr s : Nat) : Int), .int .u8 (inv : Int)] (W.drewN q) (Hands (.int .u8 (vv : Int)) (W.drewN q)) from fun q => mul_is f (fr s) inv vv (W.drewN q) ((HF.out.ext ⟨hB⟩).drewN q) (hr256 s) hinv256 hvv)
        have HVV := Lib.hid hvv
        have HSS := Lib.hid hs
        have HX1 := Lib.hid x1
        have HX2 := Lib.hid x2
        have HX3 := Lib.hid x3
        have HX4 := Lib.hid x4
        have HX5 := Lib.hid x5
        have HX6 := Lib.hid x6
        have HQ := Lib.hid hq
        have HR := Lib.hid hr
        have HQ256 := Lib.hid hq256
        have HR256 := Lib.hid hr256
        have HINVR := Lib.hid hinvr
        have HB := Lib.hid hB
        clear hvv hs hw x1 x2 x3 x4 x5 x6 hq hr hq256 hr256 hinvr hB
        gi_wp2
        refine wpIn_region_quiet_tail 12 (fun w' => ∃ q, w' = W.drewN q) (by kernel_rfl) (by kernel_rfl) (by kernel_rfl) (fun ⟨_, _, h⟩ => h) ⟨1, rfl⟩ ?_
        simp only [List.take_succ_cons, List.take_zero, List.drop_succ_cons, List.drop_zero]
        repeat (quiet_step (first | (go_at_call 46; exact quiet_hands (HM.out _))))
        refine wpQuiet_nil ?_
        rintro _ ⟨q, rfl⟩
        go_wp2
        obtain ⟨V, hV⟩ : ∃ V, (W.drewN q).setCell ⟨gq, p', none⟩ (.int .u8 (vv : Int)) = V := ⟨_, rfl⟩
        have hg1 : W.grownBy V (some gq) := by rw [← hV]; exact (grown_drewN W q _).trans (grown_set _ _ _ _)
        have hko1 : KeepsOthers W V := by rw [← hV]; exact (keeps_drewN W q).trans (KeepsOthers.setCell _ _ _)
        have hq1 : Cells V gq nq (upd fq p' vv) := by rw [← hV]; exact (HQ.out.drewN q).store p' vv
        have hr1 : Cells V gr tr fr := HR.out.keep hg1 (fun e => by injection e with e; omega)
        have hbx1 : Boxes V w.heap.size s9 s10 gq nq tr cr (some ⟨gr, 0, none⟩) f b0 o0 last d inv := Boxes.keep ⟨HX1.out, HX2.out, HX3.out, HX4.out, HX5.out, HX6.out⟩ hg1 (by omega) (by omega) (by omega)
        have hB1 : Below w.heap.size w V := HB.out.grown hg1 HB.out.size (fun k e => by injection e with e; omega)
        rw [hV]
        clear hV d1 d3 d4 d5 d6 dr dq dqf
        obtain ⟨x1, x2, x3, x4, x5, x6⟩ := hbx1
        have d1 := Boxed.cell x1
        have d2 := Boxed.cell x2
        have d3 := Boxed.cell x3
        have d4 := Boxed.cell x4
        have dq := (hq1 p' hpn).1
        rw [show upd fq p' vv p' = vv from by unfold upd; rw [if_pos rfl]] at dq
        have hsl := fun U => run_from_u8 gr 0 tr cr p' (by omega) (by omega) U
        rw [Nat.zero_add] at hsl
        have hrbV : Rd V (some ⟨b0, o0, none⟩) rb := HRB.out.ext ⟨hB1⟩
        have hct := fun k => paddm f rb (some ⟨b0, o0, none⟩) gr p' tr (tr - p') (cr - p') d vv fr (V.drewN k) ((HF.out.ext ⟨hB1⟩).drewN k) (hrbV.drewN k) hvv256 (hr1.drewN k) (fun j _ => HR256.out j)
          (by omega) (fun b o e h => by injection e with e; injection e with e1 e2; omega) (by have := HLAST.out; omega) (by have := HLAST.out; omega) (by omega)
        rw [HLAST.out] at hct
        have HCT := Lib.hid hct
        have HG1 := Lib.hid hg1
        have HKO := Lib.hid hko1
        have HQ1 := Lib.hid hq1
        have HR1 := Lib.hid hr1
        have HBX1 := Lib.hid (show Boxes V w.heap.size s9 s10 gq nq tr cr (some ⟨gr, 0, none⟩) f b0 o0 last d inv from ⟨x1, x2, x3, x4, x5, x6⟩)
        have HB1 := Lib.hid hB1
        clear hct hg1 hko1 hq1 hr1 hB1 hrbV x1 x2 x3 x4 x5 x6
        refine wpIn_region_quiet_tail 9 (fun w' => ∃ k, w' = V.drewN k) (by kernel_rfl) (by kernel_rfl) (by kernel_rfl) (fun ⟨_, _, h⟩ => h) ⟨1, rfl⟩ ?_
        simp only [List.take_succ_cons, List.take_zero, List.drop_succ_cons, List.drop_zero]
        repeat (quiet_step (fail))
        refine wpQuiet_nil ?_
        rintro _ ⟨k, rfl⟩
        go_wp2_with fail
        refine (HCT.out k).mono ?_
        rintro e U ⟨⟨v', rfl⟩, hcU, hgU⟩
        have hg2 : V.grownBy U (some gr) := (grown_drewN V k _).trans hgU
        have hqU : Cells U gq nq (upd fq p' vv) := HQ1.out.keep hg2 (fun e => by injection e with e; omega)
        have hbU := HBX1.out.keep hg2 (by omega) (by omega) (by omega)
        have hBU : Below w.heap.size w U := HB1.out.grown hg2 HB1.out.size (fun k e => by injection e with e; omega)
        have hkU : KeepsOthers V U := by
          refine ⟨hg2.size, fun i o hi ho => (hg2.block i (Array.getElem?_eq_some_iff.1 hi).1 (fun e => ?_)).trans hi⟩
          injection e with e
          subst e
          obtain ⟨o', ho', hc'⟩ := cells_of_cell (HR1.out 0 htr).1
          rw [show V.heap[i]? = some o' from ho'] at hi
          injection hi with hi
          subst hi
          rw [ho] at hc'
          cases hc'
        have HKU := Lib.hid hkU
        have HG2 := Lib.hid hg2
        have HQU := Lib.hid hqU
        have HBU := Lib.hid hbU
        have HBW := Lib.hid hBU
        have HCU := Lib.hid hcU
        clear hgU hkU hg2 hqU hbU hBU hcU
        go_wp2
        refine ⟨(HKO.out.trans HKU.out).from _, ⟨fun e => HG2.out.cell (HG1.out.cell e (fun h => by injection h with h; have h' : Bs = gq := h; omega)) (fun h => by injection h with h; have h' : Bs = gr := h; omega), fun _ i hi => ⟨gq, 0, upd fq p' vv i, rfl, upd_lt HQ256.out hvv256 i, by rw [Nat.zero_add]; exact (HQU.out i hi).1⟩⟩, ⟨?_, HBU.out⟩, HBW.out⟩
        refine ⟨upd fq p' vv, addm p' vv rb fr (last + 1), HQU.out, HCU.out, upd_lt HQ256.out hvv256, addm_lt' HR256.out _, ?_⟩
        rw [List.map_append]
        exact divInv_next ra rb nq last p' inv vv (pre.map fun x => x.1.1) fq fr (by rw [HTR.out]; exact HNQ.out) HLAST.out (by rw [HP.out]; exact HP0.out) HRS.out (by rw [HTR.out]; exact HRA0.out) HQ256.out HR256.out (by rw [HP.out]; exact HINV.out) (by rw [HSS.out]; exact HVV.out) (by rw [List.length_map]; exact hlen) HINVR.out
      case done =>
        rintro D ys W hD hys ⟨⟨⟨fq, fr, hq, hr, hq256, hr256, hinvr⟩, hbx⟩, hB⟩ hK
        have hyl : (ys.map fun x => x.1.1).length = nq := by rw [hys, downs_len]
        have hdi : DivInv ra rb nq last nq fq fr := by
          have := hinvr (by rw [hyl]; exact hys)
          rwa [hyl] at this
        have hend := HEND.out last fq fr HLAST.out (by rw [HNQ.out]; exact hdi)
        rw [HNQ.out] at hend
        obtain ⟨he1, he2, he3, he4⟩ := hend
        have hrd : Rd W Ar (tab tr fr) := by
          by_cases h0 : 0 < tr
          · rw [(HGR.out h0).1]
            exact hr.reads (fun i _ => hr256 i)
          · obtain rfl : tr = 0 := by omega
            exact Rd.nil _ _
        have hbk : 0 < tr → gr < w8.heap.size ∧ v.heap.size ≤ gr := fun h => ⟨by have := HGQ.out h; omega, (HGR.out h).2⟩
        have hqd : Rd W (some ⟨gq, 0, none⟩) (tab nq fq) := hq.reads (fun i _ => hq256 i)
        obtain ⟨x1, x2, x3, x4, x5, x6⟩ := hbx
        have hl3 := Boxed.lt x3
        have hl4 := Boxed.lt x4
        have hDW : D < W.heap.size := (Array.getElem?_eq_some_iff.1 hK).1
        have FQ := Lib.hid (show ∀ U, Ext W U → Boxed U (w.heap.size + 1 + 1) 22 (.slice (some ⟨gq, 0, none⟩) nq nq) from fun U hU => box_ext x3 hU)
        have FR := Lib.hid (show ∀ U, Ext W U → Boxed U (w.heap.size + 1 + 1 + 1) 22 (.slice Ar tr cr) from fun U hU => box_ext x4 hU)
        obtain ⟨tl, htl⟩ : ∃ tl, (trim (tab tr fr)).length = tl := ⟨_, rfl⟩
        have FC := Lib.hid (show ∀ U, Ext W U → Calls Try.prog 61 #[.slice Ar tr cr] U (fun e w' => e = .returned (.slice Ar tl cr) ∧ Ext W w') from fun U hU => by
          have h := ptrimmed (tab tr fr) Ar cr U (hrd.ext hU) (by rw [tab_len]; exact hcr) (by rw [tab_len]; omega)
          unfold Cuts at h
          rw [tab_len, htl] at h
          exact h.mono fun _ _ h => ⟨h.1, hU.trans h.2⟩)
        have HRD := Lib.hid hrd
        have HQD := Lib.hid hqd
        have HTL := Lib.hid htl
        have HE1 := Lib.hid he1
        have HE2 := Lib.hid he2
        have HE3 := Lib.hid he3
        have HE4 := Lib.hid he4
        have HBK := Lib.hid hbk
        have HBB := Lib.hid hB
        have HKK := Lib.hid hK
        have HDD := Lib.hid hD
        clear hyl hdi he1 he2 he3 he4 hrd hqd hbk x1 x2 x3 x4 x5 x6 htl hB hK hq hr hq256 hr256 hinvr hys hD
        go_wp2
        refine wp_region_quiet_tail 3 (fun w' => Ext W w') (by kernel_rfl) (by kernel_rfl) (Ext.refl W).drew ?_
        simp only [List.take_succ_cons, List.take_zero, List.drop_succ_cons, List.drop_zero]
        repeat (first
          | (refine wpQuiet_step (fun K hK => ?_); go_simp; refine ⟨.slice (some ⟨gq, 0, none⟩) nq nq, fun U hU => ?_, hK _ ?_⟩; (focus (have h1 := (FQ.out U hU).cell; go_simp; done)); clear hK K)
          | (refine wpQuiet_step (fun K hK => ?_); go_simp; refine ⟨.slice Ar tr cr, fun U hU => ?_, hK _ ?_⟩; (focus (have h1 := (FR.out U hU).cell; go_simp; done)); clear hK K)
          | (refine wpQuiet_step (fun K hK => ?_); go_simp; refine ⟨_, fun U hU => FC.out U hU, hK _ ?_⟩; clear hK K))
        refine wpQuiet_nil ?_
        intro U hU
        have g3 := (FQ.out U hU).cell
        have g4 := (FR.out U hU).cell
        have gf3 := (FQ.out U hU).frozen
        have gf4 := (FR.out U hU).frozen
        have HU := Lib.hid hU
        clear hU
        go_wp2
        obtain ⟨Z, hZ⟩ : ∃ Z, (U.setCell ⟨w.heap.size + 1 + 1, 0, none⟩ (.slice (some ⟨gq, 0, none⟩) nq nq)).setCell ⟨w.heap.size + 1 + 1 + 1, 0, none⟩ (.slice Ar tl cr) = Z := ⟨_, rfl⟩
        have hKU : U.heap[D]? = some (.deferred (some [])) := (HU.out.below.block D hDW).trans HKK.out
        have hKZ : Z.heap[D]? = some (.deferred (some [])) := by rw [← hZ]; exact ((KeepsOthers.setCell _ _ _).trans (KeepsOthers.setCell _ _ _)).same D _ hKU rfl
        have z3 : Boxed Z (w.heap.size + 1 + 1) 22 (.slice (some ⟨gq, 0, none⟩) nq nq) := by rw [← hZ]; exact box_far ((FQ.out U HU.out).set _) (by omega)
        have z4 : Boxed Z (w.heap.size + 1 + 1 + 1) 22 (.slice Ar tl cr) := by rw [← hZ]; exact (box_far (FR.out U HU.out) (by omega)).set _
        have zx : Ext w Z := by
          rw [← hZ]
          exact (((Ext.mk HBB.out).trans HU.out).setCell (p := ⟨w.heap.size + 1 + 1, 0, none⟩) (by simp; omega) _).setCell (p := ⟨w.heap.size + 1 + 1 + 1, 0, none⟩) (by simp; omega) _
        have hgZ := fun (B : Option Addr) (l : List Nat) (h : Rd U B l) (hne : ∀ b o, B = some ⟨b, o, none⟩ → 0 < l.length → w.heap.size + 1 + 1 + 1 < b ∧ b ≠ D) =>
          ((h.keep (grown_set U (w.heap.size + 1 + 1) 0 (.slice (some ⟨gq, 0, none⟩) nq nq)) (fun b o e hl h' => by have := hne b o e hl; injection h' with h'; omega)).keep
            (grown_set _ (w.heap.size + 1 + 1 + 1) 0 (.slice Ar tl cr)) (fun b o e hl h' => by have := hne b o e hl; injection h' with h'; omega)).keep
            (grownBy_putObj' _ D (.deferred none)) (fun b o e hl h' => by have := hne b o e hl; injection h' with h'; exact this.2 h')
        rw [hZ] at hgZ ⊢
        have y3 := cell_kept (Boxed.cell z3) (grownBy_putObj' _ D (.deferred none)) (fun r e => by cases e; exact ⟨_, hKZ, rfl⟩)
        have y4 := cell_kept (Boxed.cell z4) (grownBy_putObj' _ D (.deferred none)) (fun r e => by cases e; exact ⟨_, hKZ, rfl⟩)
        have hD8 := HDD.out
        have r3 := hgZ (some ⟨gq, 0, none⟩) (tab nq fq) (HQD.out.ext HU.out) (fun b o e hl => by injection e with e; injection e with e1 e2; omega)
        have r4 := (hgZ Ar (tab tr fr) (HRD.out.ext HU.out) (fun b o e hl => by
          rw [tab_len] at hl
          rw [(HGR.out hl).1] at e
          have := HBK.out hl
          injection e with e; injection e with e1 e2; omega)).trim
        have xz : Ext w (Z.putObj D (.deferred none)) := ⟨zx.below.trans (belowK_b (w := w) (Nat.le_refl _) Z D _ _ (by have := HXW8.out.size; omega) hKZ rfl rfl)⟩
        refine ⟨by simp, .inl ⟨_, _, rfl, run_takeDeferred hKZ, ?_⟩⟩
        refine ⟨.tuple #[.slice (some ⟨gq, 0, none⟩) nq nq, .slice Ar tl cr, .int .i64 0], ?_, _, _, tab nq fq, trim (tab tr fr), rfl, ⟨_, nq, by rw [tab_len], by rw [tab_len]; exact Nat.le_refl _, r3⟩, ⟨Ar, cr, by rw [HTL.out], ?_, r4⟩, HE1.out, Pol.trim_trim _, HE2.out, ?_, HE4.out, xz⟩
        · simp [results, Try.f52, go_sem, y3, y4]
        · have := Pol.trim_len (tab tr fr)
          rw [tab_len] at this
          omega
        · rw [HRB'.out]; exact HE3.out
      case stop =>
        rintro D c pre W _ _ h _
        exact h.elim
    · have hz : nq = 0 := by omega
      have hmk := fun W => run_make_u8 nq (by omega) W
      have hcast : (nq : Int) = 0 := by omega
      have hI : (tr : Int) - (last : Int) < 0 := by omega
      have hI2 : (tr : Int) < (last : Int) := by omega
      rw [hcast] at hmk
      clear hcast hnq hz
      go_wp2_with fail
      clear hmk hI hI2
      obtain ⟨w7, hw7⟩ : ∃ u, (w6.alloc (.cells (bt nq fun _ => 0) 5)).setCell ⟨w.heap.size + 1 + 1, 0, none⟩ (.slice (some ⟨w6.heap.size, 0, none⟩) nq nq) = u := ⟨_, rfl⟩
      have hbx : Boxes w7 w.heap.size s9 s10 w6.heap.size nq tr cr Ar f b0 o0 last d inv := by
        rw [← hw7]
        exact ⟨box_far (box_alloc F1.out _) (by omega), box_far (box_alloc F2.out _) (by omega), G3.out.set _, box_far (box_alloc F4.out _) (by omega), box_far (box_alloc F9.out _) (by omega), box_far (box_alloc F10.out _) (by omega)⟩
      have hcq : Cells w7 w6.heap.size nq (fun _ => 0) := by
        rw [← hw7]
        exact (Blk.new w6 nq (fun _ => 0)).cells.keep (grown_set _ _ _ _) (fun e => by injection e with e; omega)
      have hcr7 : Cells w7 gr tr (co ra) := by
        rw [← hw7]
        by_cases h0 : 0 < tr
        · exact (HCL6.out.keep (World.grownBy_alloc w6 _ none) (by simp)).keep (grown_set _ _ _ _) (fun e => by have := (HGR.out h0).2; cases e; omega)
        · exact fun i hi => absurd hi (by omega)
      have hx7 : Ext w w7 := by
        rw [← hw7]
        exact (HXX.out.alloc _).setCell (p := ⟨w.heap.size + 1 + 1, 0, none⟩) (by simp; omega) _
      have hs7 : w7.heap.size = w6.heap.size + 1 := by rw [← hw7]; simp [World.setCell]
      rw [hw7]
      have HS7 := Lib.hid hs7
      have HBX := Lib.hid hbx
      have HCQ := Lib.hid hcq
      have HCR := Lib.hid hcr7
      have HX7 := Lib.hid hx7
      clear hw7 hbx hcq hcr7 hx7 hs7 k3 k4 k9 fr3 G3 F1 F2 F3 F4 F9 F10 HXX HCL6
      have hs6' : s10 < w6.heap.size := by omega
      have hgl' : 0 < tr → gr < w6.heap.size := HGL.out
      have HGQ := Lib.hid hgl'
      clear hgl' HGL
      generalize w6.heap.size = gq at *
      refine (back_calls _ _ _ _).mono ?_
      rintro e w8 ⟨rfl, hw8⟩
      have hx8 : Ext w7 w8 := by rw [hw8]; exact (Ext.refl _).alloc _
      have hb8 : Boxed w8 w7.heap.size 22 (.slice (some ⟨gq, 0, none⟩) nq nq) := by rw [hw8]; exact Boxed.new _ _ _
      have hbs : gq < w7.heap.size := by rw [HS7.out]; omega
      have hb0 : b0 < w.heap.size := block_lt_of_cell HBL.out
      have hfl : f < w.heap.size := HF.out.lt
      obtain ⟨q1, q2, q3, q4, q5, q6⟩ := HBX.out
      have hbx8 : Boxes w8 w.heap.size s9 s10 gq nq tr cr Ar f b0 o0 last d inv := ⟨box_ext q1 hx8, box_ext q2 hx8, box_ext q3 hx8, box_ext q4 hx8, box_ext q5 hx8, box_ext q6 hx8⟩
      have hst8 : DivSt ra rb gq nq gr tr last [] w8 := ⟨fun _ => 0, co ra, HCQ.out.ext hx8, HCR.out.ext hx8, fun _ => (by decide : (0 : Nat) < 256), HSMA.out, fun _ => by have := HSTART.out last; rwa [HNQ.out] at this⟩
      have hxw8 : Ext w w8 := HX7.out.trans hx8
      have hlt8 : w7.heap.size < w8.heap.size := hb8.lt
      clear q1 q2 q3 q4 q5 q6 hw8 hx8
      generalize w7.heap.size = Bs at *
      have HB8 := Lib.hid hb8
      have HBX8 := Lib.hid hbx8
      have HST8 := Lib.hid hst8
      have HXW8 := Lib.hid hxw8
      clear hb8 hbx8 hst8 hxw8 HBX HCQ HCR HX7 HS7 HSTART
      go_wp2_with fail
      refine (wpIn_wide (n := 4)).1 ?_
      refine' wpIn_rangeFunc_ownG rfl (by omega) (gf := 66) (lb := #[.pointer (some ⟨Bs, 0, none⟩)]) rfl trivial (enters_of Try.func66 (by kernel_rfl) rfl)
        (back_stops _ (by omega) Bs nq nq (some ⟨gq, 0, none⟩) Byte (by omega) w8 hlt8 (fun b o e h => by cases e; omega) HB8.out.cell (fun i hi => by
          obtain ⟨fq, fr, h1, h2, h3, h4, h5⟩ := HST8.out
          exact ⟨gq, 0, fq i, rfl, h3 i, by rw [Nat.zero_add]; exact (h1 i hi).1⟩))
        KpB.trans (KpB.put hlt8 (fun b o e h => by cases e; omega)) (Below.refl _ _) (fun _ => rfl)
        (fun pre W => (DivSt ra rb gq nq gr tr last (pre.map fun x => x.1.1) W ∧ Boxes W w.heap.size s9 s10 gq nq tr cr Ar f b0 o0 last d inv) ∧ Below w.heap.size w W)
        (fun _ _ _ => False)
        (OwnFrom.and (Own.from (fun s A B row hs hg hr => ⟨divSt_own hs.1 hg hr, boxes_own hs.2 hg hr⟩) _) (ownFrom_below (Nat.le_refl _) (by omega)))
        (fun _ _ _ _ _ hs _ _ => hs)
        ⟨⟨HST8.out, HBX8.out⟩, HXW8.out.below⟩
        _ ?assign ?body ?done ?stop
      case assign =>
        intro l x W K hK
        dsimp only [plv]
        gi_wp2
        exact hK
      case body =>
        rintro lq pre ⟨⟨p', pv⟩, hp', hpv⟩ W _ _
        have hpn : p' < nq := hp'
        exact absurd hpn (by have := HNQ.out; omega)
      case done =>
        rintro D ys W hD hys ⟨⟨⟨fq, fr, hq, hr, hq256, hr256, hinvr⟩, hbx⟩, hB⟩ hK
        have hyl : (ys.map fun x => x.1.1).length = nq := by rw [hys, downs_len]
        have hdi : DivInv ra rb nq last nq fq fr := by
          have := hinvr (by rw [hyl]; exact hys)
          rwa [hyl] at this
        have hend := HEND.out last fq fr HLAST.out (by rw [HNQ.out]; exact hdi)
        rw [HNQ.out] at hend
        obtain ⟨he1, he2, he3, he4⟩ := hend
        have hrd : Rd W Ar (tab tr fr) := by
          by_cases h0 : 0 < tr
          · rw [(HGR.out h0).1]
            exact hr.reads (fun i _ => hr256 i)
          · obtain rfl : tr = 0 := by omega
            exact Rd.nil _ _
        have hbk : 0 < tr → gr < w8.heap.size ∧ v.heap.size ≤ gr := fun h => ⟨by have := HGQ.out h; omega, (HGR.out h).2⟩
        have hqd : Rd W (some ⟨gq, 0, none⟩) (tab nq fq) := hq.reads (fun i _ => hq256 i)
        obtain ⟨x1, x2, x3, x4, x5, x6⟩ := hbx
        have hl3 := Boxed.lt x3
        have hl4 := Boxed.lt x4
        have hDW : D < W.heap.size := (Array.getElem?_eq_some_iff.1 hK).1
        have FQ := Lib.hid (show ∀ U, Ext W U → Boxed U (w.heap.size + 1 + 1) 22 (.slice (some ⟨gq, 0, none⟩) nq nq) from fun U hU => box_ext x3 hU)
        have FR := Lib.hid (show ∀ U, Ext W U → Boxed U (w.heap.size + 1 + 1 + 1) 22 (.slice Ar tr cr) from fun U hU => box_ext x4 hU)
        obtain ⟨tl, htl⟩ : ∃ tl, (trim (tab tr fr)).length = tl := ⟨_, rfl⟩
        have FC := Lib.hid (show ∀ U, Ext W U → Calls Try.prog 61 #[.slice Ar tr cr] U (fun e w' => e = .returned (.slice Ar tl cr) ∧ Ext W w') from fun U hU => by
          have h := ptrimmed (tab tr fr) Ar cr U (hrd.ext hU) (by rw [tab_len]; exact hcr) (by rw [tab_len]; omega)
          unfold Cuts at h
          rw [tab_len, htl] at h
          exact h.mono fun _ _ h => ⟨h.1, hU.trans h.2⟩)
        have HRD := Lib.hid hrd
        have HQD := Lib.hid hqd
        have HTL := Lib.hid htl
        have HE1 := Lib.hid he1
        have HE2 := Lib.hid he2
        have HE3 := Lib.hid he3
        have HE4 := Lib.hid he4
        have HBK := Lib.hid hbk
        have HBB := Lib.hid hB
        have HKK := Lib.hid hK
        have HDD := Lib.hid hD
        clear hyl hdi he1 he2 he3 he4 hrd hqd hbk x1 x2 x3 x4 x5 x6 htl hB hK hq hr hq256 hr256 hinvr hys hD
        go_wp2
        refine wp_region_quiet_tail 3 (fun w' => Ext W w') (by kernel_rfl) (by kernel_rfl) (Ext.refl W).drew ?_
        simp only [List.take_succ_cons, List.take_zero, List.drop_succ_cons, List.drop_zero]
        repeat (first
          | (refine wpQuiet_step (fun K hK => ?_); go_simp; refine ⟨.slice (some ⟨gq, 0, none⟩) nq nq, fun U hU => ?_, hK _ ?_⟩; (focus (have h1 := (FQ.out U hU).cell; go_simp; done)); clear hK K)
          | (refine wpQuiet_step (fun K hK => ?_); go_simp; refine ⟨.slice Ar tr cr, fun U hU => ?_, hK _ ?_⟩; (focus (have h1 := (FR.out U hU).cell; go_simp; done)); clear hK K)
          | (refine wpQuiet_step (fun K hK => ?_); go_simp; refine ⟨_, fun U hU => FC.out U hU, hK _ ?_⟩; clear hK K))
        refine wpQuiet_nil ?_
        intro U hU
        have g3 := (FQ.out U hU).cell
        have g4 := (FR.out U hU).cell
        have gf3 := (FQ.out U hU).frozen
        have gf4 := (FR.out U hU).frozen
        have HU := Lib.hid hU
        clear hU
        go_wp2
        obtain ⟨Z, hZ⟩ : ∃ Z, (U.setCell ⟨w.heap.size + 1 + 1, 0, none⟩ (.slice (some ⟨gq, 0, none⟩) nq nq)).setCell ⟨w.heap.size + 1 + 1 + 1, 0, none⟩ (.slice Ar tl cr) = Z := ⟨_, rfl⟩
        have hKU : U.heap[D]? = some (.deferred (some [])) := (HU.out.below.block D hDW).trans HKK.out
        have hKZ : Z.heap[D]? = some (.deferred (some [])) := by rw [← hZ]; exact ((KeepsOthers.setCell _ _ _).trans (KeepsOthers.setCell _ _ _)).same D _ hKU rfl
        have z3 : Boxed Z (w.heap.size + 1 + 1) 22 (.slice (some ⟨gq, 0, none⟩) nq nq) := by rw [← hZ]; exact box_far ((FQ.out U HU.out).set _) (by omega)
        have z4 : Boxed Z (w.heap.size + 1 + 1 + 1) 22 (.slice Ar tl cr) := by rw [← hZ]; exact (box_far (FR.out U HU.out) (by omega)).set _
        have zx : Ext w Z := by
          rw [← hZ]
          exact (((Ext.mk HBB.out).trans HU.out).setCell (p := ⟨w.heap.size + 1 + 1, 0, none⟩) (by simp; omega) _).setCell (p := ⟨w.heap.size + 1 + 1 + 1, 0, none⟩) (by simp; omega) _
        have hgZ := fun (B : Option Addr) (l : List Nat) (h : Rd U B l) (hne : ∀ b o, B = some ⟨b, o, none⟩ → 0 < l.length → w.heap.size + 1 + 1 + 1 < b ∧ b ≠ D) =>
          ((h.keep (grown_set U (w.heap.size + 1 + 1) 0 (.slice (some ⟨gq, 0, none⟩) nq nq)) (fun b o e hl h' => by have := hne b o e hl; injection h' with h'; omega)).keep
            (grown_set _ (w.heap.size + 1 + 1 + 1) 0 (.slice Ar tl cr)) (fun b o e hl h' => by have := hne b o e hl; injection h' with h'; omega)).keep
            (grownBy_putObj' _ D (.deferred none)) (fun b o e hl h' => by have := hne b o e hl; injection h' with h'; exact this.2 h')
        rw [hZ] at hgZ ⊢
        have y3 := cell_kept (Boxed.cell z3) (grownBy_putObj' _ D (.deferred none)) (fun r e => by cases e; exact ⟨_, hKZ, rfl⟩)
        have y4 := cell_kept (Boxed.cell z4) (grownBy_putObj' _ D (.deferred none)) (fun r e => by cases e; exact ⟨_, hKZ, rfl⟩)
        have hD8 := HDD.out
        have r3 := hgZ (some ⟨gq, 0, none⟩) (tab nq fq) (HQD.out.ext HU.out) (fun b o e hl => by injection e with e; injection e with e1 e2; omega)
        have r4 := (hgZ Ar (tab tr fr) (HRD.out.ext HU.out) (fun b o e hl => by
          rw [tab_len] at hl
          rw [(HGR.out hl).1] at e
          have := HBK.out hl
          injection e with e; injection e with e1 e2; omega)).trim
        have xz : Ext w (Z.putObj D (.deferred none)) := ⟨zx.below.trans (belowK_b (w := w) (Nat.le_refl _) Z D _ _ (by have := HXW8.out.size; omega) hKZ rfl rfl)⟩
        refine ⟨by simp, .inl ⟨_, _, rfl, run_takeDeferred hKZ, ?_⟩⟩
        refine ⟨.tuple #[.slice (some ⟨gq, 0, none⟩) nq nq, .slice Ar tl cr, .int .i64 0], ?_, _, _, tab nq fq, trim (tab tr fr), rfl, ⟨_, nq, by rw [tab_len], by rw [tab_len]; exact Nat.le_refl _, r3⟩, ⟨Ar, cr, by rw [HTL.out], ?_, r4⟩, HE1.out, Pol.trim_trim _, HE2.out, ?_, HE4.out, xz⟩
        · simp [results, Try.f52, go_sem, y3, y4]
        · have := Pol.trim_len (tab tr fr)
          rw [tab_len] at this
          omega
        · rw [HRB'.out]; exact HE3.out
      case stop =>
        rintro D c pre W _ _ h _
        exact h.elim
end Go.Proofs.Ytffdmhcbcaemfaa
