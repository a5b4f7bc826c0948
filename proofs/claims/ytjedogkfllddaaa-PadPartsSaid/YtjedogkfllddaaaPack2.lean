/-
  Part 2 of the texts that the seat's proofs stand on; each part of it begins with its own sentence and conditions. Conditions: those that each theorem names.
-/
import Derived.Test.YtjedogkfllddaaaPack1

/-
  The law PadApart, walked, under what layer 7's functions are to do. Conditions: none.
-/
namespace Go.Proofs.Ytjedogkfllddaaa
open Go.RowKit
open Pol (co Sm)

theorem split_one {s d n m : Nat} (hn : n < 18446744073709551616) (hm : m < 18446744073709551616) : (mixn s n ^^^ d = mixn s m ^^^ d) ↔ n = m := by
  constructor
  · intro h
    have h1 := congrArg (fun t => t ^^^ d) h
    simp only [Nat.xor_assoc, Nat.xor_self, Nat.xor_zero] at h1
    exact mixn_one hn hm h1
  · intro h
    rw [h]
/-- What holds in the region 'a, b := s.Split(n), s.Split(m)', whichever of its operations are done. -/
structure AI (s d n m : Nat) (F : Nat → Nat) (u : World) (L : Nat → Bool) (x10 x11 x17 x18 x19 x20 x21 x22 : Value) (w : World) : Prop where
  ext : Ext u w
  p0 : L 0 = true → x17 = .agg #[.int .u64 (s : Int), .int .u64 (d : Int)]
  p1 : L 1 = true → x18 = .int .u64 (n : Int)
  p2 : L 2 = true → x19 = .agg #[.int .u64 ((F n : Nat) : Int), .int .u64 0]
  p3 : L 3 = true → x20 = .agg #[.int .u64 (s : Int), .int .u64 (d : Int)]
  p4 : L 4 = true → x21 = .int .u64 (m : Int)
  p5 : L 5 = true → x22 = .agg #[.int .u64 ((F m : Nat) : Int), .int .u64 0]
  p6 : L 6 = true → ∃ g, x10 = .pointer (some ⟨g, 0, none⟩) ∧ u.heap.size ≤ g ∧ Src w g (if L 8 = true then (F n : Int) else 0) 0
  p7 : L 7 = true → ∃ g, x11 = .pointer (some ⟨g, 0, none⟩) ∧ u.heap.size ≤ g ∧ Src w g (if L 9 = true then (F m : Int) else 0) 0
  p8 : L 8 = true → L 6 = true
  p9 : L 9 = true → L 7 = true
  far : L 6 = true → L 7 = true → x10 ≠ x11
theorem AI.set0 {s d n m : Nat} {F : Nat → Nat} {u : World} {L : Nat → Bool} {x10 x11 x17 x18 x19 x20 x21 x22 : Value} {w w' : World} (h : AI s d n m F u L x10 x11 x17 x18 x19 x20 x21 x22 w) (hx : Ext w w') : AI s d n m F u (fun j => j == 0 || L j) x10 x11 (.agg #[.int .u64 (s : Int), .int .u64 (d : Int)]) x18 x19 x20 x21 x22 w' :=
  ⟨h.ext.trans hx, fun _ => rfl, fun e => h.p1 (by simpa using e), fun e => h.p2 (by simpa using e), fun e => h.p3 (by simpa using e), fun e => h.p4 (by simpa using e), fun e => h.p5 (by simpa using e), fun e => by
    obtain ⟨g, e1, e2, e3⟩ := h.p6 (by simpa using e)
    exact ⟨g, e1, e2, by simpa using e3.ext hx⟩, fun e => by
    obtain ⟨g, e1, e2, e3⟩ := h.p7 (by simpa using e)
    exact ⟨g, e1, e2, by simpa using e3.ext hx⟩, fun e => by simpa using h.p8 (by simpa using e), fun e => by simpa using h.p9 (by simpa using e), fun e e2 => h.far (by simpa using e) (by simpa using e2)⟩
theorem AI.set1 {s d n m : Nat} {F : Nat → Nat} {u : World} {L : Nat → Bool} {x10 x11 x17 x18 x19 x20 x21 x22 : Value} {w w' : World} (h : AI s d n m F u L x10 x11 x17 x18 x19 x20 x21 x22 w) (hx : Ext w w') : AI s d n m F u (fun j => j == 1 || L j) x10 x11 x17 (.int .u64 (n : Int)) x19 x20 x21 x22 w' :=
  ⟨h.ext.trans hx, fun e => h.p0 (by simpa using e), fun _ => rfl, fun e => h.p2 (by simpa using e), fun e => h.p3 (by simpa using e), fun e => h.p4 (by simpa using e), fun e => h.p5 (by simpa using e), fun e => by
    obtain ⟨g, e1, e2, e3⟩ := h.p6 (by simpa using e)
    exact ⟨g, e1, e2, by simpa using e3.ext hx⟩, fun e => by
    obtain ⟨g, e1, e2, e3⟩ := h.p7 (by simpa using e)
    exact ⟨g, e1, e2, by simpa using e3.ext hx⟩, fun e => by simpa using h.p8 (by simpa using e), fun e => by simpa using h.p9 (by simpa using e), fun e e2 => h.far (by simpa using e) (by simpa using e2)⟩
theorem AI.set2 {s d n m : Nat} {F : Nat → Nat} {u : World} {L : Nat → Bool} {x10 x11 x17 x18 x19 x20 x21 x22 : Value} {w w' : World} (h : AI s d n m F u L x10 x11 x17 x18 x19 x20 x21 x22 w) (hx : Ext w w') : AI s d n m F u (fun j => j == 2 || L j) x10 x11 x17 x18 (.agg #[.int .u64 ((F n : Nat) : Int), .int .u64 0]) x20 x21 x22 w' :=
  ⟨h.ext.trans hx, fun e => h.p0 (by simpa using e), fun e => h.p1 (by simpa using e), fun _ => rfl, fun e => h.p3 (by simpa using e), fun e => h.p4 (by simpa using e), fun e => h.p5 (by simpa using e), fun e => by
    obtain ⟨g, e1, e2, e3⟩ := h.p6 (by simpa using e)
    exact ⟨g, e1, e2, by simpa using e3.ext hx⟩, fun e => by
    obtain ⟨g, e1, e2, e3⟩ := h.p7 (by simpa using e)
    exact ⟨g, e1, e2, by simpa using e3.ext hx⟩, fun e => by simpa using h.p8 (by simpa using e), fun e => by simpa using h.p9 (by simpa using e), fun e e2 => h.far (by simpa using e) (by simpa using e2)⟩
theorem AI.set3 {s d n m : Nat} {F : Nat → Nat} {u : World} {L : Nat → Bool} {x10 x11 x17 x18 x19 x20 x21 x22 : Value} {w w' : World} (h : AI s d n m F u L x10 x11 x17 x18 x19 x20 x21 x22 w) (hx : Ext w w') : AI s d n m F u (fun j => j == 3 || L j) x10 x11 x17 x18 x19 (.agg #[.int .u64 (s : Int), .int .u64 (d : Int)]) x21 x22 w' :=
  ⟨h.ext.trans hx, fun e => h.p0 (by simpa using e), fun e => h.p1 (by simpa using e), fun e => h.p2 (by simpa using e), fun _ => rfl, fun e => h.p4 (by simpa using e), fun e => h.p5 (by simpa using e), fun e => by
    obtain ⟨g, e1, e2, e3⟩ := h.p6 (by simpa using e)
    exact ⟨g, e1, e2, by simpa using e3.ext hx⟩, fun e => by
    obtain ⟨g, e1, e2, e3⟩ := h.p7 (by simpa using e)
    exact ⟨g, e1, e2, by simpa using e3.ext hx⟩, fun e => by simpa using h.p8 (by simpa using e), fun e => by simpa using h.p9 (by simpa using e), fun e e2 => h.far (by simpa using e) (by simpa using e2)⟩
theorem AI.set4 {s d n m : Nat} {F : Nat → Nat} {u : World} {L : Nat → Bool} {x10 x11 x17 x18 x19 x20 x21 x22 : Value} {w w' : World} (h : AI s d n m F u L x10 x11 x17 x18 x19 x20 x21 x22 w) (hx : Ext w w') : AI s d n m F u (fun j => j == 4 || L j) x10 x11 x17 x18 x19 x20 (.int .u64 (m : Int)) x22 w' :=
  ⟨h.ext.trans hx, fun e => h.p0 (by simpa using e), fun e => h.p1 (by simpa using e), fun e => h.p2 (by simpa using e), fun e => h.p3 (by simpa using e), fun _ => rfl, fun e => h.p5 (by simpa using e), fun e => by
    obtain ⟨g, e1, e2, e3⟩ := h.p6 (by simpa using e)
    exact ⟨g, e1, e2, by simpa using e3.ext hx⟩, fun e => by
    obtain ⟨g, e1, e2, e3⟩ := h.p7 (by simpa using e)
    exact ⟨g, e1, e2, by simpa using e3.ext hx⟩, fun e => by simpa using h.p8 (by simpa using e), fun e => by simpa using h.p9 (by simpa using e), fun e e2 => h.far (by simpa using e) (by simpa using e2)⟩
theorem AI.set5 {s d n m : Nat} {F : Nat → Nat} {u : World} {L : Nat → Bool} {x10 x11 x17 x18 x19 x20 x21 x22 : Value} {w w' : World} (h : AI s d n m F u L x10 x11 x17 x18 x19 x20 x21 x22 w) (hx : Ext w w') : AI s d n m F u (fun j => j == 5 || L j) x10 x11 x17 x18 x19 x20 x21 (.agg #[.int .u64 ((F m : Nat) : Int), .int .u64 0]) w' :=
  ⟨h.ext.trans hx, fun e => h.p0 (by simpa using e), fun e => h.p1 (by simpa using e), fun e => h.p2 (by simpa using e), fun e => h.p3 (by simpa using e), fun e => h.p4 (by simpa using e), fun _ => rfl, fun e => by
    obtain ⟨g, e1, e2, e3⟩ := h.p6 (by simpa using e)
    exact ⟨g, e1, e2, by simpa using e3.ext hx⟩, fun e => by
    obtain ⟨g, e1, e2, e3⟩ := h.p7 (by simpa using e)
    exact ⟨g, e1, e2, by simpa using e3.ext hx⟩, fun e => by simpa using h.p8 (by simpa using e), fun e => by simpa using h.p9 (by simpa using e), fun e e2 => h.far (by simpa using e) (by simpa using e2)⟩
theorem AI.set6 {s d n m : Nat} {F : Nat → Nat} {u : World} {L : Nat → Bool} {x10 x11 x17 x18 x19 x20 x21 x22 : Value} {w : World} (h : AI s d n m F u L x10 x11 x17 x18 x19 x20 x21 x22 w) (hL : L 6 = false) : AI s d n m F u (fun j => j == 6 || L j) (.pointer (some ⟨w.heap.size, 0, none⟩)) x11 x17 x18 x19 x20 x21 x22 (w.alloc (.cells #[.int .u64 0, .int .u64 0] 25)) :=
  ⟨h.ext.alloc _, fun e => h.p0 (by simpa using e), fun e => h.p1 (by simpa using e), fun e => h.p2 (by simpa using e), fun e => h.p3 (by simpa using e), fun e => h.p4 (by simpa using e), fun e => h.p5 (by simpa using e), fun _ => ⟨w.heap.size, rfl, h.ext.size, by
    have h8 : L 8 = false := by
      cases hb : L 8 with
      | false => rfl
      | true => rw [h.p8 hb] at hL; cases hL
    rw [show (8 == 6 || L 8) = false from by rw [h8]; rfl]
    exact Src.new w 0 0⟩, fun e => by
    obtain ⟨g, e1, e2, e3⟩ := h.p7 (by simpa using e)
    exact ⟨g, e1, e2, by simpa using e3.ext ((Ext.refl w).alloc _)⟩, fun e => by simp, fun e => by simpa using h.p9 (by simpa using e), fun _ e2 => by
    obtain ⟨g, e1, _, e3⟩ := h.p7 (by simpa using e2)
    have := block_lt_of_cell e3.1.1
    rw [e1]
    intro h'
    injection h' with h'
    injection h' with h'
    injection h' with h'
    dsimp only at this
    omega⟩
theorem AI.set7 {s d n m : Nat} {F : Nat → Nat} {u : World} {L : Nat → Bool} {x10 x11 x17 x18 x19 x20 x21 x22 : Value} {w : World} (h : AI s d n m F u L x10 x11 x17 x18 x19 x20 x21 x22 w) (hL : L 7 = false) : AI s d n m F u (fun j => j == 7 || L j) x10 (.pointer (some ⟨w.heap.size, 0, none⟩)) x17 x18 x19 x20 x21 x22 (w.alloc (.cells #[.int .u64 0, .int .u64 0] 25)) :=
  ⟨h.ext.alloc _, fun e => h.p0 (by simpa using e), fun e => h.p1 (by simpa using e), fun e => h.p2 (by simpa using e), fun e => h.p3 (by simpa using e), fun e => h.p4 (by simpa using e), fun e => h.p5 (by simpa using e), fun e => by
    obtain ⟨g, e1, e2, e3⟩ := h.p6 (by simpa using e)
    exact ⟨g, e1, e2, by simpa using e3.ext ((Ext.refl w).alloc _)⟩, fun _ => ⟨w.heap.size, rfl, h.ext.size, by
    have h8 : L 9 = false := by
      cases hb : L 9 with
      | false => rfl
      | true => rw [h.p9 hb] at hL; cases hL
    rw [show (9 == 7 || L 9) = false from by rw [h8]; rfl]
    exact Src.new w 0 0⟩, fun e => by simpa using h.p8 (by simpa using e), fun e => by simp, fun e2 _ => by
    obtain ⟨g, e1, _, e3⟩ := h.p6 (by simpa using e2)
    have := block_lt_of_cell e3.1.1
    rw [e1]
    intro h'
    injection h' with h'
    injection h' with h'
    injection h' with h'
    dsimp only at this
    omega⟩
theorem AI.set8 {s d n m : Nat} {F : Nat → Nat} {u : World} {L : Nat → Bool} {x11 x17 x18 x19 x20 x21 x22 : Value} {w : World} {g : Nat} {q : Int} (h : AI s d n m F u L (.pointer (some ⟨g, 0, none⟩)) x11 x17 x18 x19 x20 x21 x22 w) (hk : L 6 = true) (hg : u.heap.size ≤ g) (h0 : Src w g q 0) : AI s d n m F u (fun j => j == 8 || L j) (.pointer (some ⟨g, 0, none⟩)) x11 x17 x18 x19 x20 x21 x22 ((w.setCell ⟨g, 0, none⟩ (.int .u64 ((F n : Nat) : Int))).setCell ⟨g, 1, none⟩ (.int .u64 0)) :=
  ⟨(h.ext.setCell (p := ⟨g, 0, none⟩) hg _).setCell (p := ⟨g, 1, none⟩) hg _, fun e => h.p0 (by simpa using e), fun e => h.p1 (by simpa using e), fun e => h.p2 (by simpa using e), fun e => h.p3 (by simpa using e), fun e => h.p4 (by simpa using e), fun e => h.p5 (by simpa using e), fun _ => ⟨g, rfl, hg, by
    have h' := h0.store (F n : Int) 0
    simpa using h'⟩, fun e => by
    obtain ⟨g', e1, e2, e3⟩ := h.p7 (by simpa using e)
    have hne : g' ≠ g := fun e' => h.far hk (by simpa using e) (by rw [e1, e'])
    exact ⟨g', e1, e2, by simpa using (e3.other hne 0 _).other hne 1 _⟩, fun _ => by simpa using hk, fun e => by simpa using h.p9 (by simpa using e), fun e e2 => h.far (by simpa using e) (by simpa using e2)⟩
theorem AI.set9 {s d n m : Nat} {F : Nat → Nat} {u : World} {L : Nat → Bool} {x10 x17 x18 x19 x20 x21 x22 : Value} {w : World} {g : Nat} {q : Int} (h : AI s d n m F u L x10 (.pointer (some ⟨g, 0, none⟩)) x17 x18 x19 x20 x21 x22 w) (hk : L 7 = true) (hg : u.heap.size ≤ g) (h0 : Src w g q 0) : AI s d n m F u (fun j => j == 9 || L j) x10 (.pointer (some ⟨g, 0, none⟩)) x17 x18 x19 x20 x21 x22 ((w.setCell ⟨g, 0, none⟩ (.int .u64 ((F m : Nat) : Int))).setCell ⟨g, 1, none⟩ (.int .u64 0)) :=
  ⟨(h.ext.setCell (p := ⟨g, 0, none⟩) hg _).setCell (p := ⟨g, 1, none⟩) hg _, fun e => h.p0 (by simpa using e), fun e => h.p1 (by simpa using e), fun e => h.p2 (by simpa using e), fun e => h.p3 (by simpa using e), fun e => h.p4 (by simpa using e), fun e => h.p5 (by simpa using e), fun e => by
    obtain ⟨g', e1, e2, e3⟩ := h.p6 (by simpa using e)
    have hne : g' ≠ g := fun e' => h.far (by simpa using e) hk (by rw [e1, e'])
    exact ⟨g', e1, e2, by simpa using (e3.other hne 0 _).other hne 1 _⟩, fun _ => ⟨g, rfl, hg, by
    have h' := h0.store (F m : Int) 0
    simpa using h'⟩, fun e => by simpa using h.p8 (by simpa using e), fun _ => by simpa using hk, fun e e2 => h.far (by simpa using e) (by simpa using e2)⟩
def AIA (s d n m : Nat) (F : Nat → Nat) (g0 : Nat) (u : World) (L : Nat → Bool) (a : Act) (w : World) : Prop :=
  ∃ x10 x11 x17 x18 x19 x20 x21 x22, a = ⟨#[.int .u64 (s : Int), .int .u64 (d : Int), .int .u64 (n : Int), .int .u64 (m : Int), undef, undef, undef, undef, .bool false, .pointer (some ⟨g0, 0, none⟩), x10, x11, .bool true, .bool false, .int .u64 (s : Int), .int .u64 (d : Int), .agg #[.int .u64 (s : Int), .int .u64 (d : Int)], x17, x18, x19, x20, x21, x22, undef, undef, undef, undef, undef, undef, undef, undef, undef, undef, undef, undef, undef, undef, undef, undef, undef], []⟩ ∧ AI s d n m F u L x10 x11 x17 x18 x19 x20 x21 x22 w

set_option maxHeartbeats 1600000 in
set_option maxRecDepth 100000 in
theorem apart7_walk (C : PadSaid) (s d n m : Nat) (w : World) (hs : s < 18446744073709551616) (hd : d < 18446744073709551616) (hn : n < 18446744073709551616) (hm : m < 18446744073709551616) :
    Calls Try.prog 7 #[.int .u64 (s : Int), .int .u64 (d : Int), .int .u64 (n : Int), .int .u64 (m : Int)] w (Holds w) := by
  have HAW := Lib.hid (fun u => awake7 C u)
  obtain ⟨F, hF⟩ : ∃ F : Nat → Nat, (fun q => mixn s q ^^^ d) = F := ⟨_, rfl⟩
  have HSP := Lib.hid (fun (q : Nat) u (hq : q < 18446744073709551616) => show Calls Try.prog 16 #[.agg #[.int .u64 (s : Int), .int .u64 (d : Int)], .int .u64 (q : Int)] u (Tells (.agg #[.int .u64 ((F q : Nat) : Int), .int .u64 0]) u) from by
    have h := C.split s d q u hs hd hq
    rwa [show mixn s q ^^^ d = F q from congrFun hF q] at h)
  have HONE := Lib.hid (show F n = F m ↔ n = m from by
    have h := split_one (s := s) (d := d) hn hm
    rwa [show mixn s n ^^^ d = F n from congrFun hF n, show mixn s m ^^^ d = F m from congrFun hF m] at h)
  clear C hF
  go_enter Try.func7, Try.ntmps7
  go_wp2_with fail
  refine (HAW.out w).mono ?_
  rintro e w1 ⟨rfl, hx1⟩
  have HX1 := Lib.hid hx1
  clear hx1
  go_wp2
  obtain ⟨z0, z1⟩ := src_new w1 (s : Int) (d : Int)
  have HX2 := Lib.hid (HX1.out.alloc (.cells #[.int .u64 (s : Int), .int .u64 (d : Int)] 25))
  generalize w1.alloc (.cells #[.int .u64 (s : Int), .int .u64 (d : Int)] 25) = u at HX2 z0 z1 ⊢
  have HKS := Lib.hid (fun (w' : World) (h : Ext u w') => src_keep ⟨z0, z1⟩ h)
  generalize w1.heap.size = g0 at HKS ⊢
  clear z0 z1
  refine wp_region_inv (AIA s d n m F g0 u) (by kernel_rfl) (by kernel_rfl) ⟨_, _, _, _, _, _, _, _, rfl, ?_⟩ ?_ ?_
  · exact ⟨(Ext.refl u).drew, fun h => by simp at h, fun h => by simp at h, fun h => by simp at h, fun h => by simp at h, fun h => by simp at h, fun h => by simp at h, fun h => by simp at h, fun h => by simp at h, fun h => by simp at h, fun h => by simp at h, fun h => by simp at h⟩
  · intro i o ho L a w2 hI hL haft
    obtain ⟨x10, x11, x17, x18, x19, x20, x21, x22, rfl, h⟩ := hI
    have HH := Lib.hid h
    obtain ⟨z0, z1⟩ := HKS.out w2 h.ext
    clear h
    match i, ho, hL with
    | 0, ho, hL =>
      obtain rfl : _ = o := Option.some.inj ho
      clear ho haft hL
      go_wp2
      exact ⟨_, _, _, _, _, _, _, _, rfl, HH.out.set0 (Ext.refl _)⟩
    | 1, ho, hL =>
      obtain rfl : _ = o := Option.some.inj ho
      clear ho haft hL
      go_wp2
      exact ⟨_, _, _, _, _, _, _, _, rfl, HH.out.set1 (Ext.refl _)⟩
    | 2, ho, hL =>
      obtain rfl : _ = o := Option.some.inj ho
      have l0 := haft ⟨0, .data⟩ (by simp) (by kernel_rfl)
      have l1 := haft ⟨1, .data⟩ (by simp) (by kernel_rfl)
      obtain rfl := HH.out.p0 l0
      obtain rfl := HH.out.p1 l1
      clear ho haft hL l0 l1
      go_wp2_with fail
      refine (HSP.out n w2 hn).mono ?_
      rintro e w3 ⟨rfl, hx3⟩
      have HX3 := Lib.hid hx3
      clear hx3
      go_wp2
      exact ⟨_, _, _, _, _, _, _, _, rfl, HH.out.set2 HX3.out⟩
    | 3, ho, hL =>
      obtain rfl : _ = o := Option.some.inj ho
      clear ho haft hL
      go_wp2
      exact ⟨_, _, _, _, _, _, _, _, rfl, HH.out.set3 (Ext.refl _)⟩
    | 4, ho, hL =>
      obtain rfl : _ = o := Option.some.inj ho
      clear ho haft hL
      go_wp2
      exact ⟨_, _, _, _, _, _, _, _, rfl, HH.out.set4 (Ext.refl _)⟩
    | 5, ho, hL =>
      obtain rfl : _ = o := Option.some.inj ho
      have l0 := haft ⟨3, .data⟩ (by simp) (by kernel_rfl)
      have l1 := haft ⟨4, .data⟩ (by simp) (by kernel_rfl)
      obtain rfl := HH.out.p3 l0
      obtain rfl := HH.out.p4 l1
      clear ho haft hL l0 l1
      go_wp2_with fail
      refine (HSP.out m w2 hm).mono ?_
      rintro e w3 ⟨rfl, hx3⟩
      have HX3 := Lib.hid hx3
      clear hx3
      go_wp2
      exact ⟨_, _, _, _, _, _, _, _, rfl, HH.out.set5 HX3.out⟩
    | 6, ho, hL =>
      obtain rfl : _ = o := Option.some.inj ho
      have HL := Lib.hid hL
      clear ho haft hL
      go_wp2
      exact ⟨_, _, _, _, _, _, _, _, rfl, HH.out.set6 HL.out⟩
    | 7, ho, hL =>
      obtain rfl : _ = o := Option.some.inj ho
      have HL := Lib.hid hL
      clear ho haft hL
      go_wp2
      exact ⟨_, _, _, _, _, _, _, _, rfl, HH.out.set7 HL.out⟩
    | 8, ho, hL =>
      obtain rfl : _ = o := Option.some.inj ho
      have l6 := haft ⟨6, .data⟩ (by simp) (by kernel_rfl)
      have l2 := haft ⟨2, .data⟩ (by simp) (by kernel_rfl)
      obtain rfl := HH.out.p2 l2
      obtain ⟨g, rfl, hg, hs0⟩ := HH.out.p6 l6
      have HS := Lib.hid (HH.out.set8 l6 hg hs0)
      obtain ⟨⟨c0, c1⟩, f0, f1⟩ := hs0
      clear ho haft hL l6 l2 hg
      go_wp2
      exact ⟨_, _, _, _, _, _, _, _, rfl, HS.out⟩
    | 9, ho, hL =>
      obtain rfl : _ = o := Option.some.inj ho
      have l6 := haft ⟨7, .data⟩ (by simp) (by kernel_rfl)
      have l2 := haft ⟨5, .data⟩ (by simp) (by kernel_rfl)
      obtain rfl := HH.out.p5 l2
      obtain ⟨g, rfl, hg, hs0⟩ := HH.out.p7 l6
      have HS := Lib.hid (HH.out.set9 l6 hg hs0)
      obtain ⟨⟨c0, c1⟩, f0, f1⟩ := hs0
      clear ho haft hL l6 l2 hg
      go_wp2
      exact ⟨_, _, _, _, _, _, _, _, rfl, HS.out⟩
    | i + 10, ho, _ => simp at ho
  · intro L a w2 hall hI
    obtain ⟨x10, x11, x17, x18, x19, x20, x21, x22, rfl, h⟩ := hI
    obtain ⟨g1, rfl, _, hs1⟩ := h.p6 (hall 6 (by decide))
    obtain ⟨g2, rfl, _, hs2⟩ := h.p7 (hall 7 (by decide))
    rw [if_pos (hall 8 (by decide))] at hs1
    rw [if_pos (hall 9 (by decide))] at hs2
    obtain ⟨⟨c0, c1⟩, _, _⟩ := hs1
    obtain ⟨⟨c2, c3⟩, _, _⟩ := hs2
    have HX := Lib.hid (HX2.out.trans h.ext)
    clear h hall
    by_cases e : n = m
    · subst e
      clear HONE
      go_wp2
      go_ret
      exact ⟨rfl, HX.out⟩
    · have t1 : (((F n : Nat) : Int) == ((F m : Nat) : Int)) = false := beq_eq_false_iff_ne.2 (fun h => e (HONE.out.1 (by omega)))
      have t2 : ((n : Int) == (m : Int)) = false := beq_eq_false_iff_ne.2 (by omega)
      clear e HONE
      go_wp2
      go_ret
      exact ⟨rfl, HX.out⟩
end Go.Proofs.Ytjedogkfllddaaa

/-
  The law PadNumbers, walked, under what layer 7's functions are to do. Conditions: none.
-/
namespace Go.Proofs.Ytjedogkfllddaaa
open Go.RowKit
open Pol (co Sm)

set_option maxHeartbeats 1600000 in
set_option maxRecDepth 100000 in
theorem numbers7_walk (C : PadSaid) (s p : Nat) (w : World) (hs : s < 18446744073709551616) (hp : p < 65536) :
    Calls Try.prog 8 #[.int .u64 (s : Int), .int .u16 (p : Int)] w (Holds w) := by
  have HAW := Lib.hid (fun u => awake7 C u)
  obtain ⟨q, hq⟩ : ∃ q, p / 8 = q := ⟨_, rfl⟩
  obtain ⟨r, hr⟩ : ∃ r, p % 8 = r := ⟨_, rfl⟩
  obtain ⟨a, ha⟩ : ∃ a, q * 8 = a := ⟨_, rfl⟩
  have har : a + r = p := by omega
  have eq1 : Int.tdiv (p : Int) 8 = (q : Int) := by rw [Int.tdiv_eq_ediv_of_nonneg (by omega)]; omega
  have er1 : Int.tmod (p : Int) 8 = (r : Int) := by rw [Int.tmod_eq_emod_of_nonneg (by omega)]; omega
  have ea : IntKind.u64.wrap ((q : Int) * 8) = (a : Int) := by rw [IntWalk.u64_in _ (by omega)]; omega
  have HS1 := Lib.hid (fun u => show Calls Try.prog 15 #[.agg #[.int .u64 (s : Int), .int .u64 0], .int .u64 (p : Int)] u (Tells (.agg #[.int .u64 (s : Int), .int .u64 (p : Int)]) u) from by
    have h := C.skip s 0 p u hs (by omega) (by omega)
    rw [Nat.zero_add, Nat.mod_eq_of_lt (by omega)] at h
    exact h)
  have HS2 := Lib.hid (fun u => show Calls Try.prog 15 #[.agg #[.int .u64 (s : Int), .int .u64 0], .int .u64 (a : Int)] u (Tells (.agg #[.int .u64 (s : Int), .int .u64 (a : Int)]) u) from by
    have h := C.skip s 0 a u hs (by omega) (by omega)
    rw [Nat.zero_add, Nat.mod_eq_of_lt (by omega)] at h
    exact h)
  have HB := Lib.hid (fun u => show Calls Try.prog 10 #[.agg #[.int .u64 (s : Int), .int .u64 (p : Int)], .int .i64 1] u (BytesE s p 1 u) from C.bytes s p 1 u hs (by omega) (by omega) (by omega))
  have HN := Lib.hid (fun u => C.next s a u hs (by omega))
  have hX := num8_lt s a 8
  have hXM : num8 s a 8 < 18446744073709551616 := by have : (256 : Nat) ^ 8 = 18446744073709551616 := by decide
                                                     omega
  have hby := num8_byte s a 8 r (by omega)
  rw [har, show p % 18446744073709551616 = p from Nat.mod_eq_of_lt (by omega)] at hby
  have HC0 := Lib.hid (show co (coins7 s p 1) 0 = coin s p from by unfold coins7; rw [co_tab, if_pos (by omega), Nat.add_zero, Nat.mod_eq_of_lt (by omega)])
  have HCL := Lib.hid (coins7_len s p 1)
  unfold BytesE at HB
  generalize num8 s a 8 = X at *
  obtain ⟨y, hy⟩ : ∃ y, coin s p = y := ⟨_, rfl⟩
  rw [hy] at hby HC0
  have hye : (X : Int) / 2 ^ (r * 8) % 256 = (y : Int) := by
    rw [← hby, show (256 : Nat) ^ r = 2 ^ (r * 8) from by rw [Nat.mul_comm, Nat.pow_mul], Int.natCast_emod, Int.natCast_ediv, Int.natCast_pow]
    rfl
  obtain ⟨p1, hp1⟩ : ∃ p1, (p + 1) % 18446744073709551616 = p1 := ⟨_, rfl⟩
  obtain ⟨a8, ha8⟩ : ∃ a8, (a + 8) % 18446744073709551616 = a8 := ⟨_, rfl⟩
  rw [hp1] at HB
  rw [ha8] at HN
  have hXI : (X : Int) < 18446744073709551616 := by omega
  have ty : ((y : Int) == (y : Int)) = true := by simp
  have hr8 : r < 8 := by omega
  have hq13 : q < 8192 := by omega
  have hpI : (p : Int) < 65536 := by omega
  clear C hq hr ha har hby hy hp1 ha8 hX
  go_enter Try.func8, Try.ntmps8
  go_wp2_with fail
  refine (HAW.out w).mono ?_
  rintro e w1 ⟨rfl, hx1⟩
  have HX1 := Lib.hid hx1
  clear hx1
  go_wp2_with fail
  refine (HS1.out _).mono ?_
  rintro e w2 ⟨rfl, hx2⟩
  have HX2 := Lib.hid (((Ext.refl w1).alloc _).trans hx2)
  have HZ2 := Lib.hid (src_keep (src_new w1 (s : Int) 0) hx2)
  clear hx2
  go_wp2_with fail
  refine (HB.out _).mono ?_
  rintro e w3 ⟨B3, c3, rfl, hc3, hr3, hx3⟩
  have HX3 := Lib.hid (HX2.out.trans hx3)
  obtain ⟨b1, o1, e1, hc1⟩ := hr3.2 0 (by rw [HCL.out]; omega)
  subst e1
  rw [HC0.out, Nat.add_zero] at hc1
  have HC1 := Lib.hid hc1
  obtain ⟨z0, z1⟩ := src_keep (src_keep HZ2.out hx3) ((Ext.refl w3).alloc (.cells #[.int .u64 (s : Int), .int .u64 (p1 : Int)] 25))
  clear hx3 hr3 hc1
  go_wp2_with fail
  refine (HS2.out _).mono ?_
  rintro e w4 ⟨rfl, hx4⟩
  have HX4 := Lib.hid (HX3.out.trans (((Ext.refl w3).alloc _).trans hx4))
  have hx34 := ((Ext.refl w3).alloc (.cells #[.int .u64 (s : Int), .int .u64 (p1 : Int)] 25)).trans hx4
  have HC4 := Lib.hid ((hx34.below.cell (p := ⟨b1, o1, none⟩) (block_lt_of_cell HC1.out)).trans HC1.out)
  clear hx4 hx34 z0 z1
  go_wp2_with fail
  refine (HN.out _).mono ?_
  rintro e w5 ⟨rfl, hx5⟩
  have HX5 := Lib.hid (HX4.out.trans hx5)
  have hx5' := hx5.alloc (.cells #[.int .u64 (s : Int), .int .u64 (a8 : Int)] 25)
  have hc5 : (w5.alloc (.cells #[.int .u64 (s : Int), .int .u64 (a8 : Int)] 25)).cell? ⟨b1, o1, none⟩ = some (.int .u8 (y : Int)) := (hx5'.below.cell (p := ⟨b1, o1, none⟩) (block_lt_of_cell HC4.out)).trans HC4.out
  clear hx5 hx5'
  go_wp2
  go_ret
  exact ⟨rfl, HX1.out.trans (HX5.out.alloc _)⟩
end Go.Proofs.Ytjedogkfllddaaa
