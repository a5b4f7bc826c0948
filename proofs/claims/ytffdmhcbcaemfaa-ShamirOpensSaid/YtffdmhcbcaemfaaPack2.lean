/-
  Part 2 of the texts that the seat's proofs stand on; each part of it begins with its own sentence and conditions. Conditions: those that each theorem names.
-/
import Derived.Test.YtffdmhcbcaemfaaPack1
import Derived.Deep.RegionLaw
import Derived.Test.YtffdmhcbcaemfaaProg
import Derived.Laws.CopyOwn
import Derived.StillTail
import Derived.Deep.Quiet
import Derived.Deep.QuietTactic
import Derived.BigQuiet
import Derived.KernelRfl
import Derived.RangeFuncNested
import Derived.RangeFuncBox
import Derived.RangeFuncBound
import Derived.RangeFuncCalls
import Derived.RangeFuncLeaves
import Derived.Shelf.Abstract
import Derived.Shelf.RegionOpen
import Derived.WalkKit
import Derived.OwnWalkIn
import Derived.TacticsInMore
import Derived.LoopNIn
import Derived.LoopIn

/-
  What layer 5's own functions are to do, as one statement; the laws of layer 5 are awake under that. Conditions: a field that New made, no more than 2^12 bytes, coins and shares.
-/
namespace Go.Proofs.Ytffdmhcbcaemfaa
open Go.RowKit
open Pol (co Sm ev px py Apart)

structure ShamirSaid : Prop where
  coins : ∀ (b o : Int) (w : World), In64 b → In64 o → Calls Try.prog 16 #[.int .i64 b, .int .i64 o] w (Hands (.int .i64 (cnum b o)) w)
  odd : ∀ (f : Nat) (s c : List Nat) (o m : Int) (A B : Option Addr) (ca cb : Nat) (w : World), IsField w f → Rd w A s → Rd w B c → s.length ≤ ca → c.length ≤ cb → s.length ≤ 4096 → c.length ≤ 4096 → In64 o → In64 m → ¬ DealOk s c o m →
    Calls Try.prog 12 #[.pointer (some ⟨f, 0, none⟩), .slice A s.length ca, .slice B c.length cb, .int .i64 o, .int .i64 m] w (GivesR [] 1 w)
  deal : ∀ (f : Nat) (s c : List Nat) (d n : Nat) (A B : Option Addr) (ca cb : Nat) (w : World), IsField w f → Rd w A s → Rd w B c → s.length ≤ ca → c.length ≤ cb → s.length ≤ 4096 → c.length ≤ 4096 → DealOk s c ((d + 1 : Nat) : Int) (n : Int) →
    Calls Try.prog 12 #[.pointer (some ⟨f, 0, none⟩), .slice A s.length ca, .slice B c.length cb, .int .i64 ((d + 1 : Nat) : Int), .int .i64 (n : Int)] w (GivesR (deal s c d n) 0 w)
  shut : ∀ (f : Nat) (l : List (Int × List Nat)) (o v b : Int) (A : Option Addr) (c : Nat) (w : World), IsField w f → SRd w A l → l.length ≤ c → l.length ≤ 1024 → (∀ i, In64 (wh l i)) → (∀ i, (dt l i).length ≤ 4096) → In64 o → In64 v → In64 b → ¬ OpenOk l o v b →
    Calls Try.prog 19 #[.pointer (some ⟨f, 0, none⟩), .slice A l.length c, .int .i64 o, .int .i64 v, .int .i64 b] w (GivesE [] 1 w)
  opens : ∀ (f : Nat) (l : List (Int × List Nat)) (k v b : Nat) (A : Option Addr) (c : Nat) (w : World), IsField w f → SRd w A l → l.length ≤ c → l.length ≤ 1024 → OpenOk l (k : Int) (v : Int) (b : Int) →
    Calls Try.prog 19 #[.pointer (some ⟨f, 0, none⟩), .slice A l.length c, .int .i64 (k : Int), .int .i64 (v : Int), .int .i64 (b : Int)] w (OpenE l k v b w)
  right : ∀ (f : Nat) (who : Int) (x s c : List Nat) (o : Int) (X A B : Option Addr) (cx ca cb : Nat) (w : World), IsField w f → Rd w X x → Rd w A s → Rd w B c → x.length ≤ cx → s.length ≤ ca → c.length ≤ cb → x.length ≤ 4096 → s.length ≤ 4096 → c.length ≤ 4096 → In64 who → In64 o →
    Calls Try.prog 18 #[.pointer (some ⟨f, 0, none⟩), .agg #[.int .i64 who, .slice X x.length cx], .slice A s.length ca, .slice B c.length cb, .int .i64 o] w (SaysT (RightP who x s c o) w)

/-! ### The example -/
theorem ex5_ok : DealOk [7] [1] ((1 + 1 : Nat) : Int) ((3 : Nat) : Int) := ⟨by decide, by decide, by decide, by decide, by decide⟩
theorem ex5_deal : deal [7] [1] 1 3 = [[6], [5], [4]] := by decide +kernel
def ex5l : List (Int × List Nat) := [(0, [6]), (2, [4])]
theorem ex5l_sm : ∀ k, Sm (dt ex5l k) := fun k => by
  match k with
  | 0 => exact Sm.cons (by omega) Sm.nil
  | 1 => exact Sm.cons (by omega) Sm.nil
  | k + 2 => exact Sm.nil
theorem ex5l_ok : OpenOk ex5l ((2 : Nat) : Int) ((0 : Nat) : Int) ((1 : Nat) : Int) := ⟨⟨by decide, by decide, by decide, by decide, by decide⟩, fun i hi => by
  match i, hi with
  | 0, _ => exact ⟨by decide, by decide, by decide, fun k hk => by omega⟩
  | 1, _ =>
    refine ⟨by decide, by decide, by decide, fun k hk => ?_⟩
    have hk0 : k = 0 := by omega
    subst hk0
    decide⟩
theorem ex5l_code : ∀ i, i < 1 → Wel.Code (pts ex5l i) 2 0 [7, 1] := fun i hi => by
  obtain rfl : i = 0 := by omega
  exact ⟨rfl, Sm.cons (by omega) (Sm.cons (by omega) Sm.nil), by decide +kernel⟩
theorem srd_two (w : World) (a b : Int) (x y : List Nat) (X Y : Option Addr) (cx cy nx ny : Nat) (hnx : x.length = nx) (hny : y.length = ny) (hx : Rd w X x) (hy : Rd w Y y) (hcx : nx ≤ cx) (hcy : ny ≤ cy) :
    SRd (w.alloc (.cells #[.int .i64 a, .slice X nx cx, .int .i64 b, .slice Y ny cy] 24)) (some ⟨w.heap.size, 0, none⟩) [(a, x), (b, y)] := fun i hi => by
  subst hnx; subst hny
  match i, hi with
  | 0, _ => exact ⟨w.heap.size, 0, X, cx, rfl, by rw [cell_of_row _ _ _ _ _ _ (heap_alloc_new w _)]; rfl, by rw [cell_of_row _ _ _ _ _ _ (heap_alloc_new w _)]; rfl, hcx, hx.ext ((Ext.refl _).alloc _)⟩
  | 1, _ => exact ⟨w.heap.size, 0, Y, cy, rfl, by rw [cell_of_row _ _ _ _ _ _ (heap_alloc_new w _)]; rfl, by rw [cell_of_row _ _ _ _ _ _ (heap_alloc_new w _)]; rfl, hcy, hy.ext ((Ext.refl _).alloc _)⟩

set_option maxHeartbeats 1000000 in
set_option maxRecDepth 100000 in
theorem awake5 (C : ShamirSaid) (w : World) : Calls Try.prog 10 #[] w (Holds w) := by
  have HD := Lib.hid (fun (f : Nat) (u : World) (hf : IsField ((u.alloc (.cells #[.int .u8 7] 5)).alloc (.cells #[.int .u8 1] 5)) f) => show Calls Try.prog 12 #[.pointer (some ⟨f, 0, none⟩), .slice (some ⟨u.heap.size, 0, none⟩) 1 1, .slice (some ⟨u.heap.size + 1, 0, none⟩) 1 1, .int .i64 2, .int .i64 3] ((u.alloc (.cells #[.int .u8 7] 5)).alloc (.cells #[.int .u8 1] 5)) (GivesR [[6], [5], [4]] 0 ((u.alloc (.cells #[.int .u8 7] 5)).alloc (.cells #[.int .u8 1] 5))) from by
    have h := C.deal f [7] [1] 1 3 (some ⟨u.heap.size, 0, none⟩) (some ⟨u.heap.size + 1, 0, none⟩) 1 1 _ hf ((rd_lit u [7] (Sm.cons (by omega) Sm.nil)).ext ((Ext.refl _).alloc _)) (rd_lit_next u _ [1] (Sm.cons (by omega) Sm.nil)) (by decide) (by decide) (by decide) (by decide) ex5_ok
    rw [ex5_deal] at h
    exact h)
  have HO := Lib.hid (fun (f : Nat) (u : World) (X Y : Option Addr) (cx cy : Nat) (hx : Rd u X [6]) (hy : Rd u Y [4]) (hcx : 1 ≤ cx) (hcy : 1 ≤ cy) (hf : IsField (u.alloc (.cells #[.int .i64 0, .slice X 1 cx, .int .i64 2, .slice Y 1 cy] 24)) f) => (C.opens f ex5l 2 0 1 (some ⟨u.heap.size, 0, none⟩) 2 _ hf (srd_two u 0 2 [6] [4] X Y cx cy 1 1 rfl rfl hx hy hcx hcy) (by decide) (by decide) ex5l_ok).mono fun _ _ h => h.is ex5l_ok ex5l_sm ex5l_code (s := [7]) rfl)
  have HC := Lib.hid (fun u => show Calls Try.prog 16 #[.int .i64 5, .int .i64 3] u (Hands (.int .i64 10) u) from C.coins 5 3 u ⟨by omega, by omega⟩ ⟨by omega, by omega⟩)
  clear C
  go_enter Try.func10, Try.ntmps10
  go_wp2_with fail
  refine (new_any w).mono ?_
  rintro e w1 ⟨f, rfl, hf, hfs, hx1⟩
  have HF := Lib.hid hf
  have HX1 := Lib.hid hx1
  clear hf hx1 hfs
  go_wp2_with fail
  refine (HD.out f w1 (HF.out.ext (((Ext.refl w1).alloc _).alloc _))).mono ?_
  rintro e w2 ⟨v, rfl, ⟨R, cr, rfl, hcr, hr⟩, hx2⟩
  have HX2 := Lib.hid ((((Ext.refl w1).alloc _).alloc _).trans hx2)
  obtain ⟨b0, o0, B0, c0, e0, h0, h0c, h0r⟩ := hr 0 (by decide)
  obtain ⟨b2, o2, B2, c2, e2, h2, h2c, h2r⟩ := hr 2 (by decide)
  rw [e0] at e2
  injection e2 with e2
  injection e2 with e2 e3
  subst e2; subst e3; subst e0
  rw [Nat.add_zero] at h0
  have h0' : w2.cell? ⟨b0, o0, none⟩ = some (.slice B0 1 c0) := h0
  have h2' : w2.cell? ⟨b0, o0 + 2, none⟩ = some (.slice B2 1 c2) := h2
  have HR0 := Lib.hid (show Rd w2 B0 [6] from h0r)
  have HR2 := Lib.hid (show Rd w2 B2 [4] from h2r)
  clear hr hx2 h0 h2 h0r h2r
  go_wp2
  go_region_law (first | (go_simp; go_at_call 19; refine (HO.out f (w2.drewN _) B0 B2 c0 c2 (HR0.out.drewN _) (HR2.out.drewN _) h0c h2c ((HF.out.ext HX2.out).ext (((Ext.refl _).drewN _).alloc _))).mono ?_; rintro e w3 ⟨v3, rfl, ⟨B3, c3, rfl, hc3, hr3⟩, hx3⟩))
  all_goals
    have HX3 := Lib.hid ((((Ext.refl w2).drewN _).alloc _).trans hx3)
    have hx3' := HX3.out
    have g0 : w3.cell? ⟨b0, o0, none⟩ = some (.slice B0 1 c0) := (hx3'.below.cell (p := ⟨b0, o0, none⟩) (block_lt_of_cell h0')).trans h0'
    have g2 : w3.cell? ⟨b0, o0 + 2, none⟩ = some (.slice B2 1 c2) := (hx3'.below.cell (p := ⟨b0, o0 + 2, none⟩) (block_lt_of_cell h2')).trans h2'
    have HR3 := Lib.hid hr3
    have HQ0 := Lib.hid (HR0.out.ext hx3')
    have HQ2 := Lib.hid (HR2.out.ext hx3')
    clear hx3 hr3 hx3' h0' h2'
    go_wp2_with fail
    refine (same_tells [6] B0 (some ⟨w3.heap.size, 0, none⟩) c0 1 (w3.alloc (.cells (bv [6]).toArray 5)) (HQ0.out.ext ((Ext.refl w3).alloc _)) (rd_lit w3 [6] (Sm.cons (by omega) Sm.nil)) (by decide)).mono ?_
    rintro e w4 ⟨rfl, hx4⟩
    have HX4 := Lib.hid (((Ext.refl w3).alloc _).trans hx4)
    have k2 : w4.cell? ⟨b0, o0 + 2, none⟩ = some (.slice B2 1 c2) := (HX4.out.below.cell (p := ⟨b0, o0 + 2, none⟩) (block_lt_of_cell g2)).trans g2
    clear hx4 g0 g2
    go_wp2_with fail
    refine (same_tells [4] B2 (some ⟨w4.heap.size, 0, none⟩) c2 1 (w4.alloc (.cells (bv [4]).toArray 5)) ((HQ2.out.ext HX4.out).ext ((Ext.refl w4).alloc _)) (rd_lit w4 [4] (Sm.cons (by omega) Sm.nil)) (by decide)).mono ?_
    rintro e w5 ⟨rfl, hx5⟩
    have HX5 := Lib.hid (((Ext.refl w4).alloc _).trans hx5)
    clear hx5 k2
    go_wp2_with fail
    refine (same_tells [7] B3 (some ⟨w5.heap.size, 0, none⟩) c3 1 (w5.alloc (.cells (bv [7]).toArray 5)) ((HR3.out.ext (HX4.out.trans HX5.out)).ext ((Ext.refl w5).alloc _)) (rd_lit w5 [7] (Sm.cons (by omega) Sm.nil)) (by decide)).mono ?_
    rintro e w6 ⟨rfl, hx6⟩
    have HX6 := Lib.hid (((Ext.refl w5).alloc _).trans hx6)
    clear hx6
    go_wp2_with fail
    refine (HC.out w6).mono ?_
    rintro e w7 ⟨rfl, q7, rfl⟩
    go_wp2
    go_ret
    exact ⟨rfl, HX1.out.trans (HX2.out.trans (HX3.out.trans (HX4.out.trans (HX5.out.trans (HX6.out.drewN q7)))))⟩
end Go.Proofs.Ytffdmhcbcaemfaa

/-
  The document's own answer for layer 1, as the statements hold it: the product bit by bit. Conditions: none beyond the kinds of the arguments.
-/
namespace Go.Proofs.Ytffdmhcbcaemfaa
open Go.RowKit

theorem i64_xor (a b : Nat) (ha : a < 512) (hb : b < 512) : bits .xor .i64 (a : Int) (b : Int) = ((a ^^^ b : Nat) : Int) := by
  have hx : a ^^^ b < 2 ^ 9 := Nat.xor_lt_two_pow (by omega) (by omega)
  have h : ∀ c : Nat, c < 512 → (BitVec.ofInt 64 (c : Int)).toNat = c := fun c hc => by
    rw [BitVec.ofInt_natCast, BitVec.toNat_ofNat]; exact Nat.mod_eq_of_lt (by omega)
  show IntKind.i64.wrap ((BitVec.ofInt 64 (a : Int) ^^^ BitVec.ofInt 64 (b : Int)).toNat : Int) = _
  rw [BitVec.toNat_xor, h a ha, h b hb]
  exact IntWalk.i64_in _ (by omega)

theorem dbl_low (x : Nat) (h : x < 128) : Gf.dbl x = x * 2 := by
  unfold Gf.dbl; rw [if_pos h, Nat.xor_zero]; omega
theorem dbl_high : ∀ x, x < 256 → 128 ≤ x → (x * 2) ^^^ 283 = Gf.dbl x := by decide +kernel

def MulAt (a b : Nat) (o x y : Value) : Prop := ∃ p q r : Nat, p < 256 ∧ q < 256 ∧ r < 256 ∧ o = .int .i64 (p : Int) ∧ x = .int .i64 (q : Int) ∧ y = .int .i64 (r : Int) ∧ p ^^^ Gf.mul q r = Gf.mul a b

set_option maxHeartbeats 400000 in
set_option maxRecDepth 100000 in
theorem ref_mul (a b : Nat) (ha : a < 256) (hb : b < 256) (w : World) :
    Calls Try.prog 42 #[.int .u8 (a : Int), .int .u8 (b : Int)] w fun e w' => e = .returned (.int .u8 ((Gf.mul a b : Nat) : Int)) ∧ w = w' := by
  have haI : (a : Int) < 256 := by omega
  have hbI : (b : Int) < 256 := by omega
  go_enter Try.func42, Try.ntmps42
  go_wp2
  go_loop [5, 6, 7] (fun o x y => MulAt a b o x y) (fun _ _ y => (intOf y).toNat)
  case atStart => exact ⟨0, a, b, by omega, ha, hb, rfl, rfl, rfl, by rw [Nat.zero_xor]⟩
  case round =>
    obtain ⟨p, q, r, hp, hq, hr, rfl, rfl, rfl, hinv⟩ := hrel
    have HI := Lib.hid hinv
    clear hinv
    by_cases r0 : r = 0
    · subst r0
      have hpI : (p : Int) < 256 := by omega
      go_wp2
      go_ret
      exact ⟨ret_int (by rw [← HI.out, Gf.mul_zero, Nat.xor_zero]), rfl⟩
    · have hs := Gf.mul_step q r hq hr
      have HS := Lib.hid hs
      clear hs
      have hr0 : (0 : Int) < (r : Int) := by omega
      have hrI : (r : Int) < 256 := by omega
      have hqI : (q : Int) < 256 := by omega
      have hpI : (p : Int) < 256 := by omega
      have hd := Gf.dbl_lt q hq
      have HDL := Lib.hid hd
      clear hd
      have hx := i64_xor p q (by omega) (by omega)
      have hpq := Gf.xor_lt p q hp hq
      have HPQ := Lib.hid hpq
      clear hpq
      have HX := Lib.hid hx
      clear hx
      by_cases hodd : r % 2 = 1
      · have ho : ((r : Int) % 2 == 1) = true := beq_iff_eq.2 (by omega)
        have HO := Lib.hid hodd
        clear hodd
        by_cases hlow : q < 128
        · skip
          have hlI : (q : Int) < 128 := by omega
          have hlt : ¬ (255 : Int) < (q : Int) * 2 := by omega
          have hdl := dbl_low q hlow
          have HD := Lib.hid hdl
          clear hdl
          go_wp2
          go_round
          case rel => exact ⟨(p ^^^ q), Gf.dbl q, r / 2, HPQ.out, HDL.out, by omega, congrArg (Value.int IntKind.i64) HX.out, congrArg (Value.int IntKind.i64) (by rw [HD.out]; omega), by go_num, by rw [← HI.out, HS.out, if_pos HO.out, Nat.xor_assoc]⟩
          case measure => simp [intOf]; omega
        · skip
          have hlI : (128 : Int) ≤ (q : Int) := by omega
          have hlt : (255 : Int) < (q : Int) * 2 := by omega
          have hdl := dbl_high q hq (by omega)
          have hy := i64_xor (q * 2) 283 (by omega) (by omega)
          have HY := Lib.hid hy
          clear hy
          have HD := Lib.hid hdl
          clear hdl
          go_wp2
          go_round
          case rel => exact ⟨(p ^^^ q), Gf.dbl q, r / 2, HPQ.out, HDL.out, by omega, congrArg (Value.int IntKind.i64) HX.out, congrArg (Value.int IntKind.i64) (by rw [← HD.out, ← HY.out]; congr 1), by go_num, by rw [← HI.out, HS.out, if_pos HO.out, Nat.xor_assoc]⟩
          case measure => simp [intOf]; omega
      · have ho : ((r : Int) % 2 == 1) = false := beq_eq_false_iff_ne.2 (by omega)
        have HO := Lib.hid hodd
        clear hodd
        by_cases hlow : q < 128
        · skip
          have hlI : (q : Int) < 128 := by omega
          have hlt : ¬ (255 : Int) < (q : Int) * 2 := by omega
          have hdl := dbl_low q hlow
          have HD := Lib.hid hdl
          clear hdl
          go_wp2
          go_round
          case rel => exact ⟨p, Gf.dbl q, r / 2, hp, HDL.out, by omega, rfl, congrArg (Value.int IntKind.i64) (by rw [HD.out]; omega), by go_num, by rw [← HI.out, HS.out, if_neg HO.out, Nat.zero_xor]⟩
          case measure => simp [intOf]; omega
        · skip
          have hlI : (128 : Int) ≤ (q : Int) := by omega
          have hlt : (255 : Int) < (q : Int) * 2 := by omega
          have hdl := dbl_high q hq (by omega)
          have hy := i64_xor (q * 2) 283 (by omega) (by omega)
          have HY := Lib.hid hy
          clear hy
          have HD := Lib.hid hdl
          clear hdl
          go_wp2
          go_round
          case rel => exact ⟨p, Gf.dbl q, r / 2, hp, HDL.out, by omega, rfl, congrArg (Value.int IntKind.i64) (by rw [← HD.out, ← HY.out]; congr 1), by go_num, by rw [← HI.out, HS.out, if_neg HO.out, Nat.zero_xor]⟩
          case measure => simp [intOf]; omega

theorem ref_mul_is (a b v : Nat) (ha : a < 256) (hb : b < 256) (h : Gf.mul a b = v) (w : World) :
    Calls Try.prog 42 #[.int .u8 (a : Int), .int .u8 (b : Int)] w fun e w' => e = .returned (.int .u8 (v : Int)) ∧ w = w' := h ▸ ref_mul a b ha hb w

end Go.Proofs.Ytffdmhcbcaemfaa

/-
  The document's own answer for layer 1, as the statements hold it: the power by squares. Conditions: none beyond the kinds of the arguments.
-/
namespace Go.Proofs.Ytffdmhcbcaemfaa
open Go.RowKit

theorem half_u64 (q : Nat) (h : q < 18446744073709551616) : IntKind.u64.wrap ((q : Int) / 2) = ((q / 2 : Nat) : Int) := by
  rw [IntWalk.u64_in _ (by omega)]; omega

def PowAt (a n : Nat) (x m o : Value) : Prop := ∃ p q r : Nat, p < 256 ∧ r < 256 ∧ q < 18446744073709551616 ∧ x = .int .u8 (p : Int) ∧ m = .int .u64 (q : Int) ∧ o = .int .u8 (r : Int) ∧ Gf.mul r (Gf.pow p q) = Gf.pow a n

set_option maxHeartbeats 400000 in
set_option maxRecDepth 100000 in
theorem ref_pow (a n : Nat) (ha : a < 256) (hn : n < 18446744073709551616) (w : World) :
    Calls Try.prog 43 #[.int .u8 (a : Int), .int .u64 (n : Int)] w fun e w' => e = .returned (.int .u8 ((Gf.pow a n : Nat) : Int)) ∧ w = w' := by
  have HN := Lib.hid hn
  clear hn
  go_enter Try.func43, Try.ntmps43
  go_wp2
  go_loop [0, 1, 5] (fun x m o => PowAt a n x m o) (fun _ m _ => (intOf m).toNat)
  case atStart => exact ⟨a, n, 1, ha, by omega, HN.out, rfl, rfl, rfl, Gf.one_mul _ (Gf.pow_lt _ _)⟩
  case round =>
    obtain ⟨p, q, r, hp, hr, hql, rfl, rfl, rfl, hinv⟩ := hrel
    have HI := Lib.hid hinv
    have hw := half_u64 q hql
    have HW := Lib.hid hw
    have HL := Lib.hid hql
    clear hinv hw hql
    by_cases q0 : q = 0
    · subst q0
      go_wp2
      go_ret
      exact ⟨ret_int (by rw [← HI.out, Gf.pow_zero, Gf.mul_one r hr]), rfl⟩
    · have hs := Gf.pow_step r p q hr hp
      have HS := Lib.hid hs
      clear hs
      have hq0 : (0 : Int) < (q : Int) := by omega
      by_cases hodd : q % 2 = 1
      · have ho : ((q : Int) % 2 == 1) = true := beq_iff_eq.2 (by omega)
        have HO := Lib.hid hodd
        clear hodd
        go_wp2_with fail
        refine (ref_mul r p hr hp _).mono ?_
        rintro e w' ⟨rfl, rfl⟩
        go_wp2_with fail
        refine (ref_mul p p hp hp _).mono ?_
        rintro e w' ⟨rfl, rfl⟩
        go_wp2_with fail
        go_round
        case rel => exact ⟨Gf.mul p p, q / 2, Gf.mul r p, Gf.mul_lt _ _, Gf.mul_lt _ _, by have := HL.out; omega, rfl, congrArg (Value.int IntKind.u64) HW.out, rfl, by rw [← HI.out, HS.out, if_pos HO.out]⟩
        case measure => simp only [intOf]; rw [HW.out]; omega
      · have ho : ((q : Int) % 2 == 1) = false := beq_eq_false_iff_ne.2 (by omega)
        have HO := Lib.hid hodd
        clear hodd
        go_wp2_with fail
        refine (ref_mul p p hp hp _).mono ?_
        rintro e w' ⟨rfl, rfl⟩
        go_wp2_with fail
        go_round
        case rel => exact ⟨Gf.mul p p, q / 2, r, Gf.mul_lt _ _, hr, by have := HL.out; omega, rfl, congrArg (Value.int IntKind.u64) HW.out, rfl, by rw [← HI.out, HS.out, if_neg HO.out]⟩
        case measure => simp only [intOf]; rw [HW.out]; omega

end Go.Proofs.Ytffdmhcbcaemfaa

/-
  What the document's own Eval of layer 2 does: the value of a polynomial, power by power. Conditions: no more than 2^20 coefficients.
-/
namespace Go.Proofs.Ytffdmhcbcaemfaa
open Go.RowKit
open Pol (co Sm)

def term (l : List Nat) (x : Nat) (i : Nat) : Nat := Gf.mul (co l i) (Gf.pow x i)
theorem term_lt (l : List Nat) (x i : Nat) : term l x i < 256 := Gf.mul_lt _ _

set_option maxHeartbeats 400000 in
set_option maxRecDepth 100000 in
theorem ref_eval (l : List Nat) (x : Nat) (A : Option Addr) (ca : Nat) (w : World) (ha : Rd w A l) (hx : x < 256) (hl : l.length ≤ 1048576) :
    Calls Try.prog 28 #[.slice A l.length ca, .int .u8 (x : Int)] w (Hands (.int .u8 ((Pol.ev l x : Nat) : Int)) w) := by
  have hv := Pol.ev_pow l x ha.1 hx
  generalize hn : l.length = n at hl hv ⊢
  have HA := Lib.hid ha
  have HN := Lib.hid hn
  have HV := Lib.hid hv
  clear ha hn hv
  go_enter Try.func28, Try.ntmps28
  go_wp2
  go_loopg [5, 9] n (fun g s5 s9 wx => ∃ k m : Nat, k + g = n ∧ s5 = .int .u8 ((Pol.xs k (term l x) : Nat) : Int) ∧ s9 = .int .i64 (k : Int) ∧ wx = w.drewN m)
  case atStart => exact ⟨0, 0, by omega, rfl, rfl, rfl⟩
  case round =>
    obtain ⟨k, m, hkg, rfl, rfl, rfl⟩ := hrel
    cases gk with
    | zero =>
      obtain rfl : k = n := by omega
      clear hkg
      go_wp2
      go_ret
      exact ⟨ret_int (by rw [HV.out]; rfl), m, rfl⟩
    | succ g =>
      have hk : k < n := by omega
      obtain ⟨b, o, rfl, hc⟩ := HA.out.2 k (by rw [HN.out]; exact hk)
      have hco := HA.out.1 k
      have hkI : (k : Int) < (n : Int) := by omega
      have hks : k < 18446744073709551616 := by omega
      have hsx := Pol.xs_lt (f := term l x) k (fun i _ => term_lt l x i)
      have hxor := u8_xor_nat (Pol.xs k (term l x)) (term l x k) hsx (term_lt l x k)
      have HX := Lib.hid hxor
      have HK := Lib.hid hks
      have HC := Lib.hid hc
      clear hxor hks hsx hc
      have hc2 : (w.drewN m).cell? ⟨b, o + k, none⟩ = some (.int .u8 ((co l k : Nat) : Int)) := HC.out
      generalize hW : w.drewN m = W at hc2 ⊢
      have HW := Lib.hid hW
      clear hW
      go_wp2
      go_quiet (first | (go_at_call 43; exact quiet_same (ref_pow x k hx HK.out _)) | (go_at_call 42; exact quiet_same (ref_mul (co l k) (Gf.pow x k) hco (Gf.pow_lt _ _) _)))
      go_wp2
      go_roundg g
      case measure => omega
      case rel => exact ⟨k + 1, m + nq, by omega, congrArg (Value.int IntKind.u8) HX.out, by go_num, by rw [← HW.out, World.drewN_drewN]⟩
end Go.Proofs.Ytffdmhcbcaemfaa

/-
  Slices of bytes of a call's own that are handed back. Conditions: none.
-/
namespace Go.Proofs.Ytffdmhcbcaemfaa
open Go.RowKit
open Pol (co Sm)

theorem mine_ext {w w' : World} {base : Nat} {v : Value} {l : List Nat} (h : Mine w base v l) (hx : Ext w w') : Mine w' base v l :=
  World.ownsRow.kept h (row := none) ⟨hx.below.os, hx.below.tape, hx.below.output, hx.below.size, fun k hk _ => hx.below.block k hk⟩ (by
    cases hb : v.ownBlock with
    | none => exact .inl rfl
    | some k => exact .inr (by simp))
theorem Mine.down {w : World} {base base' : Nat} {v : Value} {l : List Nat} (h : Mine w base v l) (hb : base' ≤ base) : Mine w base' v l :=
  ⟨h.1, h.2.imp id fun ⟨g, cap, cur, h1, h2, h3⟩ => ⟨g, cap, cur, h1, Nat.le_trans hb h2, h3⟩⟩
theorem Mine.nil (w : World) (base : Nat) : Mine w base (.slice none 0 0) [] := World.ownsRow_nil w base _ _
theorem Mine.block {w : World} {base : Nat} {v : Value} {l : List Nat} (h : Mine w base v l) : ∀ k, v.ownBlock = some k → base ≤ k ∧ k < w.heap.size := fun k hk => World.ownsRow.lt h k hk
/-- A list, in a block that was laid since. -/
def GivesM (l : List Nat) (w : World) (e : Ending) (w' : World) : Prop := ∃ v, e = .returned v ∧ Mine w' w.heap.size v l ∧ Sm l ∧ Ext w w'
theorem gives_m {w w' : World} {v : Value} {l m : List Nat} (hm : Mine w' w.heap.size v l) (hl : l = m) (hs : Sm m) (hx : Ext w w') : GivesM m w (.returned v) w' := by
  subst hl
  exact ⟨v, rfl, hm, hs, hx⟩
theorem GivesM.gives {l : List Nat} {w : World} {e : Ending} {w' : World} (h : GivesM l w e w') : Gives l w e w' := by
  obtain ⟨v, rfl, hm, hs, hx⟩ := h
  exact gives_of hm rfl hs hx
theorem GivesM.after {l : List Nat} {w w1 : World} {e : Ending} {w' : World} (h : GivesM l w1 e w') (hx : Ext w w1) : GivesM l w e w' := by
  obtain ⟨v, rfl, hm, hs, hx'⟩ := h
  exact ⟨v, rfl, hm.down hx.size, hs, hx.trans hx'⟩
end Go.Proofs.Ytffdmhcbcaemfaa

/-
  What the document's own Coins, poly and Deal of layer 5 do. Conditions: no more than 2^16 bytes and coins for what is refused.
-/
namespace Go.Proofs.Ytffdmhcbcaemfaa
open Go.RowKit
open Pol (co Sm ev px py)

set_option maxHeartbeats 800000 in
theorem ref_coins (b o : Int) (w : World) : Calls Try.prog 17 #[.int .i64 b, .int .i64 o] w (Hands (.int .i64 (cnum b o)) w) := by
  unfold cnum
  by_cases h1 : b < 1
  · rw [if_pos (.inl h1)]
    have d1 : decide (b < 1) = true := by simp; omega
    go_enter Try.func17, Try.ntmps17
    go_wp2
    go_ret
    exact ⟨rfl, 0, rfl⟩
  have d1 : decide (b < 1) = false := by simp; omega
  by_cases h2 : o < 2
  · rw [if_pos (.inr (.inl h2))]
    have d2 : decide (o < 2) = true := by simp; omega
    go_enter Try.func17, Try.ntmps17
    go_wp2
    go_ret
    exact ⟨rfl, 0, rfl⟩
  have d2 : decide (o < 2) = false := by simp; omega
  by_cases h3 : 4096 < b
  · rw [if_pos (.inr (.inr (.inl h3)))]
    have d3 : decide (4096 < b) = true := by simp; omega
    go_enter Try.func17, Try.ntmps17
    go_wp2
    go_ret
    exact ⟨rfl, 0, rfl⟩
  have d3 : decide (4096 < b) = false := by simp; omega
  by_cases h4 : 4096 < o
  · rw [if_pos (.inr (.inr (.inr h4)))]
    have d4 : decide (4096 < o) = true := by simp; omega
    go_enter Try.func17, Try.ntmps17
    go_wp2
    go_ret
    exact ⟨rfl, 0, rfl⟩
  have d4 : decide (4096 < o) = false := by simp; omega
  rw [if_neg (by omega)]
  have hm : b * (o - 1) ≤ 4096 * 4096 := Int.mul_le_mul (by omega) (by omega) (by omega) (by omega)
  have hm0 : 0 ≤ b * (o - 1) := Int.mul_nonneg (by omega) (by omega)
  obtain ⟨p, hp⟩ : ∃ p, b * (o - 1) = p := ⟨_, rfl⟩
  rw [hp] at hm hm0 ⊢
  have e1 : IntKind.i64.wrap (o - 1) = o - 1 := IntWalk.i64_in _ (by omega)
  have e2 : IntKind.i64.wrap (b * (o - 1)) = p := by rw [hp]; exact IntWalk.i64_in _ (by omega)
  clear hp
  go_enter Try.func17, Try.ntmps17
  go_wp2
  go_ret
  exact ⟨rfl, 0, rfl⟩

set_option maxHeartbeats 800000 in
set_option maxRecDepth 100000 in
theorem ref_poly (s c : List Nat) (d i : Nat) (o : Int) (A B : Option Addr) (ca cb : Nat) (w : World) (hs : Rd w A s) (hc : Rd w B c) (hcb : c.length ≤ cb) (ho : o = (d : Int) + 1) (hd : d ≤ 4096) (hi : i < s.length) (hl : c.length = s.length * d) (hsl : s.length ≤ 4096) :
    Calls Try.prog 29 #[.slice A s.length ca, .slice B c.length cb, .int .i64 o, .int .i64 (i : Int)] w (Gives (pl s c d i) w) := by
  obtain ⟨a, ha⟩ : ∃ a, i * d = a := ⟨_, rfl⟩
  obtain ⟨b, hb⟩ : ∃ b, (i + 1) * d = b := ⟨_, rfl⟩
  have hbl : b ≤ c.length := by rw [hl, ← hb]; exact Nat.mul_le_mul_right d hi
  have hcl : c.length ≤ 4096 * 4096 := by rw [hl]; exact Nat.mul_le_mul hsl hd
  have hab : b = a + d := by rw [← hb, ← ha, Nat.succ_mul]
  obtain ⟨X, hX, hXr⟩ := run_cut_u8 B c.length cb a b (by omega) (by omega)
  have HXR := Lib.hid (hXr w c hc hbl)
  have e1 : IntKind.i64.wrap (o - 1) = (d : Int) := by rw [IntWalk.i64_in _ (by omega)]; omega
  have e2 : IntKind.i64.wrap ((i : Int) * (d : Int)) = (a : Int) := by rw [← Int.natCast_mul, ha]; exact IntWalk.i64_in _ (by omega)
  have e3 : IntKind.i64.wrap ((i : Int) + 1) = (i : Int) + 1 := IntWalk.i64_in _ (by omega)
  have e4 : IntKind.i64.wrap (((i : Int) + 1) * (d : Int)) = (b : Int) := by rw [show (i : Int) + 1 = ((i + 1 : Nat) : Int) from by omega, ← Int.natCast_mul, hb]; exact IntWalk.i64_in _ (by omega)
  obtain ⟨b1, o1, e, hc1⟩ := hs.2 i hi
  subst e
  have hsm := pl_sm hs.1 hc.1 d i
  have hpl : pl s c d i = [co s i] ++ tab d (fun j => co c (a + j)) := by unfold pl; rw [ha]; rfl
  rw [show b - a = d from by omega] at hX HXR
  have HPL := Lib.hid hpl
  have HSM := Lib.hid hsm
  have HTL := Lib.hid (tab_len d (fun j => co c (a + j)))
  obtain ⟨x, hx⟩ : ∃ x, co s i = x := ⟨_, rfl⟩
  rw [hx] at hc1 HPL
  have hiI : (i : Int) < (s.length : Int) := by omega
  generalize s.length = n at *
  generalize c.length = m at *
  clear hs hc hXr ha hb hl hab
  have HM := Lib.hid (mine_one w x)
  go_enter Try.func29, Try.ntmps29
  go_wp2_with (at_builtin; refine wpList_append_rd rfl (.tmp 15) (.tmp 26) rfl w.heap.size _ [x] (tab d (fun j => co c (a + j))) rfl HM.out X d (cb - a) rfl HTL.out (HXR.out.ext ((Ext.refl _).alloc _)) (by rw [HTL.out]; simp; omega) (by simp) ?_; intro v' w3 hown' hg' hat')
  have HX3 := Lib.hid (((Ext.refl w).alloc (.cells #[.int .u8 (x : Int)] 5)).more hg' (fun r e => (HM.out.block r e).1))
  have HO := Lib.hid hown'
  clear hown' hg' hat'
  go_wp2
  go_ret
  exact gives_of HO.out HPL.out.symm HSM.out HX3.out

theorem Mine.after {w : World} {base : Nat} {v : Value} {l : List Nat} (h : Mine w base v l) {w' : World} (hx : Ext w w') : Mine w' base v l := mine_ext h hx
theorem deal_not {s c : List Nat} {o m : Int} (h : ¬ DealOk s c o m) : o < 1 ∨ (1 ≤ o ∧ m < o) ∨ (1 ≤ o ∧ o ≤ m ∧ 200 < m) ∨ (1 ≤ o ∧ o ≤ m ∧ m ≤ 200 ∧ 4096 < s.length) ∨ (1 ≤ o ∧ o ≤ m ∧ m ≤ 200 ∧ s.length ≤ 4096 ∧ (c.length : Int) ≠ cnum s.length o) := by
  unfold DealOk at h
  by_cases h1 : o < 1
  · exact .inl h1
  by_cases h2 : m < o
  · exact .inr (.inl ⟨by omega, h2⟩)
  by_cases h3 : 200 < m
  · exact .inr (.inr (.inl ⟨by omega, by omega, h3⟩))
  by_cases h4 : 4096 < s.length
  · exact .inr (.inr (.inr (.inl ⟨by omega, by omega, by omega, h4⟩)))
  exact .inr (.inr (.inr (.inr ⟨by omega, by omega, by omega, by omega, fun e => h ⟨by omega, by omega, by omega, by omega, e⟩⟩)))

set_option maxHeartbeats 800000 in
set_option maxRecDepth 100000 in
theorem ref_deal_odd (s c : List Nat) (o m : Int) (A B : Option Addr) (ca cb : Nat) (w : World) (h : ¬ DealOk s c o m) :
    Calls Try.prog 13 #[.slice A s.length ca, .slice B c.length cb, .int .i64 o, .int .i64 m] w (GivesR [] 1 w) := by
  have HC := Lib.hid (ref_coins (s.length : Int) o)
  have hn := deal_not h
  clear h
  generalize s.length = n at *
  generalize c.length = k at *
  rcases hn with h1 | ⟨h1, h2⟩ | ⟨h1, h2, h3⟩ | ⟨h1, h2, h3, h4⟩ | ⟨h1, h2, h3, h4, h5⟩
  · have d1 : decide (o < 1) = true := by simp; omega
    go_enter Try.func13, Try.ntmps13
    go_wp2
    go_ret2
    exact ⟨_, rfl, rsl_none _, Ext.refl w⟩
  · have d1 : decide (o < 1) = false := by simp; omega
    have d2 : decide (m < o) = true := by simp; omega
    go_enter Try.func13, Try.ntmps13
    go_wp2
    go_ret2
    exact ⟨_, rfl, rsl_none _, Ext.refl w⟩
  · have d1 : decide (o < 1) = false := by simp; omega
    have d2 : decide (m < o) = false := by simp; omega
    have d3 : decide (200 < m) = true := by simp; omega
    go_enter Try.func13, Try.ntmps13
    go_wp2
    go_ret2
    exact ⟨_, rfl, rsl_none _, Ext.refl w⟩
  · have d1 : decide (o < 1) = false := by simp; omega
    have d2 : decide (m < o) = false := by simp; omega
    have d3 : decide (200 < m) = false := by simp; omega
    have d4 : decide (4096 < (n : Int)) = true := by simp; omega
    go_enter Try.func13, Try.ntmps13
    go_wp2
    go_ret2
    exact ⟨_, rfl, rsl_none _, Ext.refl w⟩
  · have d1 : decide (o < 1) = false := by simp; omega
    have d2 : decide (m < o) = false := by simp; omega
    have d3 : decide (200 < m) = false := by simp; omega
    have d4 : decide (4096 < (n : Int)) = false := by simp; omega
    obtain ⟨q, hq⟩ : ∃ q, cnum (n : Int) o = q := ⟨_, rfl⟩
    rw [hq] at HC h5
    have d5 : ((k : Int) != q) = true := by simp; omega
    clear hq
    go_enter Try.func13, Try.ntmps13
    go_wp2_with fail
    refine (HC.out w).mono ?_
    rintro e w1 ⟨rfl, q1, rfl⟩
    go_wp2
    go_ret2
    exact ⟨_, rfl, rsl_none _, (Ext.refl w).drewN q1⟩

set_option maxHeartbeats 2000000 in
set_option maxRecDepth 100000 in
theorem ref_deal (s c : List Nat) (o m : Int) (d n : Nat) (A B : Option Addr) (ca cb : Nat) (w : World) (hs : Rd w A s) (hc : Rd w B c) (hcb : c.length ≤ cb) (h : DealOk s c o m) (ho : o = (d : Int) + 1) (hm : m = (n : Int)) :
    Calls Try.prog 13 #[.slice A s.length ca, .slice B c.length cb, .int .i64 o, .int .i64 m] w (GivesR (deal s c d n) 0 w) := by
  have HC := Lib.hid (ref_coins (s.length : Int) o)
  have hcl := h.len ho
  obtain ⟨h1, h2, h3, h4, h5⟩ := h
  have HP := Lib.hid (fun i W (hi : i < s.length) (hW : Ext w W) => ref_poly s c d i o A B ca cb W (hs.ext hW) (hc.ext hW) hcb ho (by omega) hi hcl h4)
  have HEV := Lib.hid (fun i (x : Nat) (X : Option Addr) cx W (hr : Rd W X (pl s c d i)) (hx : x < 256) => show Calls Try.prog 28 #[.slice X (d + 1) cx, .int .u8 (x : Int)] W (Hands (.int .u8 ((ev (pl s c d i) x : Nat) : Int)) W) from by
    have h := ref_eval (pl s c d i) x X cx W hr hx (by rw [pl_len]; omega)
    rwa [pl_len] at h)
  have HLT := Lib.hid (fun i x => Pol.ev_lt (pl s c d i) x (pl_sm hs.1 hc.1 d i))
  have HSH := Lib.hid (fun who => shr_sm hs.1 hc.1 d who)
  have hd5 : ((c.length : Int) != cnum (s.length : Int) o) = false := by rw [h5]; simp
  have HPL := Lib.hid (fun i => pl_len s c d i)
  have HSL := Lib.hid (fun who => shr_len s c d who)
  have HSE := Lib.hid (fun who => show shr s c d who = tab s.length (fun i => ev (pl s c d i) (who + 1)) from rfl)
  subst hm
  generalize cnum (s.length : Int) o = q at *
  generalize s.length = ns at *
  generalize c.length = nc at *
  have d1 : decide (o < 1) = false := by simp; omega
  have d2 : decide ((n : Int) < o) = false := by simp; omega
  have d3 : decide (200 < (n : Int)) = false := by simp; omega
  have d4 : decide (4096 < (ns : Int)) = false := by simp; omega
  clear hs hc hcl h5 ho
  go_enter Try.func13, Try.ntmps13
  go_wp2_with fail
  refine (HC.out w).mono ?_
  rintro e w1 ⟨rfl, q1, rfl⟩
  clear HC
  go_wp2
  go_loopg [10, 11] n (fun g s10 s11 wx => ∃ k : Nat, k + g = n ∧ s11 = .int .i64 (k : Int) ∧ MineR wx w.heap.size s10 (deal s c d k) ∧ Ext w wx)
  case atStart => exact ⟨0, by omega, rfl, MineR.nil _ _, (Ext.refl w).drewN q1⟩
  case round =>
    obtain ⟨k, hkg, rfl, hmi, hx⟩ := hrel
    have HMI := Lib.hid hmi
    have HX := Lib.hid hx
    clear hmi hx
    cases gk with
    | zero =>
      obtain rfl : k = n := by omega
      clear hkg
      obtain ⟨R, cr, rfl, hcr, hrr⟩ := HMI.out.slice
      have HRR := Lib.hid hrr
      clear hrr
      go_wp2
      go_ret2
      exact ⟨_, rfl, ⟨R, cr, rfl, hcr, HRR.out⟩, HX.out⟩
    | succ g =>
      have hk : k < n := by omega
      have hkI : (k : Int) < (n : Int) := by omega
      obtain ⟨wq, hwq⟩ : ∃ wq, wq = wr := ⟨_, rfl⟩
      subst hwq
      go_wp2
      go_loopg [12, 46] ns (fun g2 s12 s46 wx => ∃ i : Nat, i + g2 = ns ∧ s46 = .int .i64 (i : Int) ∧ Mine wx wq.heap.size s12 (tab i (fun i => ev (pl s c d i) (k + 1))) ∧ Ext wq wx)
      case atStart => exact ⟨0, by omega, rfl, Mine.nil _ _, Ext.refl _⟩
      case round =>
        obtain ⟨i, hig, rfl, hm2, hx2⟩ := hrel
        have HM2 := Lib.hid hm2
        have HX2 := Lib.hid hx2
        clear hm2 hx2
        cases gk with
        | zero =>
          obtain rfl : i = ns := by omega
          clear hig
          have hdat := HM2.out
          rw [← HSE.out k] at hdat
          obtain ⟨Bd, cd, eu, hcd, hrd⟩ := hdat.slice (HSH.out k)
          rw [HSL.out] at eu hcd
          subst eu
          have HRR := Lib.hid (rrd_lit wr [.slice Bd i cd] [shr s c d k] (rowsV_one ⟨Bd, cd, by rw [HSL.out], by rw [HSL.out]; exact hcd, hrd⟩))
          have HFAR := Lib.hid (far_one hdat u10.ownBlock (fun q hq => (HMI.out.block q hq).2) wr.heap.size rfl)
          have HDL := Lib.hid (deal_len s c d k)
          have HDS := Lib.hid (deal_succ s c d k)
          have hsz := (HX.out.trans HX2.out).size
          clear hdat hrd HM2
          go_wp2_with (at_builtin; refine wpList_append_rows rfl (.tmp 62) (.tmp 64) rfl w.heap.size u10 (deal s c d k) [shr s c d k] rfl ((HMI.out.ext HX2.out).ext ((Ext.refl wr).alloc _)) (some ⟨wr.heap.size, 0, none⟩) 1 1 rfl rfl HRR.out HFAR.out (by rw [HDL.out]; simp; omega) (by simp; omega) ?_; intro v9 w9 hown9 hg9 hat9)
          have HO9 := Lib.hid (show MineR w9 w.heap.size v9 (deal s c d (k + 1)) from by rw [HDS.out]; exact hown9)
          have HX9 := Lib.hid (((HX.out.trans HX2.out).alloc _).more hg9 (fun r e => (HMI.out.block r e).1))
          clear hown9 hg9 hat9
          go_wp2
          go_roundg g
          case measure => omega
          case rel => exact ⟨k + 1, by omega, by go_num, HO9.out, HX9.out⟩
        | succ g2 =>
          have hi : i < ns := by omega
          have hiI : (i : Int) < (ns : Int) := by omega
          have hkb : (k : Int) + 1 < 256 := by omega
          have hk0 : (0 : Int) ≤ (k : Int) + 1 := by omega
          have HTS := Lib.hid (show tab (i + 1) (fun i => ev (pl s c d i) (k + 1)) = tab i (fun i => ev (pl s c d i) (k + 1)) ++ [ev (pl s c d i) (k + 1)] from by unfold tab; rw [List.range_succ, List.map_append]; rfl)
          have HTL := Lib.hid (tab_len i (fun i => ev (pl s c d i) (k + 1)))
          go_wp2_with fail
          refine (HP.out i wr hi (HX.out.trans HX2.out)).mono ?_
          rintro e w3 ⟨X, cx, rfl, hcx, hrx, hx3⟩
          rw [HPL.out] at hcx ⊢
          have HE3 := Lib.hid (HEV.out i (k + 1) X cx w3 hrx (by omega))
          rw [show ((k + 1 : Nat) : Int) = (k : Int) + 1 from rfl] at HE3
          have hvl := HLT.out i (k + 1)
          generalize ev (pl s c d i) (k + 1) = v at HE3 HTS hvl
          have HX3 := Lib.hid (HX2.out.trans hx3)
          have HM3 := Lib.hid (mine_ext HM2.out hx3)
          clear hrx hx3
          go_wp2_with fail
          refine HE3.out.mono ?_
          rintro e w4 ⟨rfl, q4, rfl⟩
          have HM4 := Lib.hid (mine_ext HM3.out ((Ext.refl w3).drewN q4))
          have HX4 := Lib.hid (HX3.out.drewN q4)
          generalize w3.drewN q4 = W at HM4 HX4 ⊢
          go_wp2_with (at_builtin; refine wpList_append_rd rfl (.tmp 49) (.tmp 59) rfl wq.heap.size u12 (tab i (fun i => ev (pl s c d i) (k + 1))) [v] rfl (mine_ext HM4.out ((Ext.refl _).alloc _)) (some ⟨W.heap.size, 0, none⟩) 1 1 rfl rfl (rd_one W v hvl) (by rw [HTL.out]; simp; omega) (by have := HX4.out.size; simp; omega) ?_; intro v9 w9 hown9 hg9 hat9)
          have HO9 := Lib.hid (show Mine w9 wq.heap.size v9 (tab (i + 1) (fun i => ev (pl s c d i) (k + 1))) from by rw [HTS.out]; exact hown9)
          have HX9 := Lib.hid ((HX4.out.alloc _).more hg9 (fun r e => (HM4.out.block r e).1))
          clear hown9 hg9 hat9
          go_wp2
          go_roundg g2
          case measure => omega
          case rel => exact ⟨i + 1, by omega, by go_num, HO9.out, HX9.out⟩
end Go.Proofs.Ytffdmhcbcaemfaa

/-
  What Pow of a field does, of a field in memory and of a nil field. Conditions: none beyond the kinds of the arguments.
-/
namespace Go.Proofs.Ytffdmhcbcaemfaa
open Go.RowKit

theorem pow_nil (x n : Int) (w : World) : Calls Try.prog 68 #[.pointer none, .int .u8 x, .int .u64 n] w (Hands (.int .u8 0) w) := by
  go_enter Try.func68, Try.ntmps68
  go_wp2
  go_ret
  exact ⟨rfl, 0, rfl⟩
set_option maxHeartbeats 400000 in
theorem pow_any (b x n : Nat) (w : World) (hf : IsField w b) (hx : x < 256) :
    Calls Try.prog 68 #[.pointer (some ⟨b, 0, none⟩), .int .u8 (x : Int), .int .u64 (n : Int)] w (Hands (.int .u8 ((Gf.pow x n : Nat) : Int)) w) := by
  by_cases n0 : n = 0
  · subst n0
    rw [Gf.pow_zero]
    clear hf
    go_enter Try.func68, Try.ntmps68
    go_wp2
    go_ret
    exact ⟨rfl, 0, rfl⟩
  have h1 : ((n : Int) == 0) = false := by simpa using n0
  by_cases x0 : x = 0
  · subst x0
    rw [Gf.zero_pow n n0]
    clear hf
    go_enter Try.func68, Try.ntmps68
    go_wp2
    go_ret
    exact ⟨rfl, 0, rfl⟩
  have h0 : ((x : Int) == 0) = false := by simpa using x0
  have c1 := hf.2 x hx
  have l1 := Gf.lg_lt x
  have c3 := hf.1 ((Gf.lg x * (n % 255)) % 255) (by omega)
  have hv : Gf.pow x n = Gf.pw ((Gf.lg x * (n % 255)) % 255) := by unfold Gf.pow; rw [if_neg n0, if_neg x0]
  have hm : n % 255 < 255 := Nat.mod_lt _ (by omega)
  have hp : Gf.lg x * (n % 255) ≤ 254 * 254 := Nat.mul_le_mul (by omega) (by omega)
  have hq : Gf.lg x * (n % 255) % 255 < 255 := Nat.mod_lt _ (by omega)
  have xI : (x : Int) < 256 := by omega
  have e1 : IntKind.u64.wrap ((Gf.lg x : Nat) : Int) = ((Gf.lg x : Nat) : Int) := IntWalk.u64_in _ (by omega)
  have e2 : (n : Int).tmod 255 = ((n % 255 : Nat) : Int) := by rw [Int.tmod_eq_emod_of_nonneg (by omega)]; omega
  have e3 : IntKind.u64.wrap (((Gf.lg x : Nat) : Int) * ((n % 255 : Nat) : Int)) = ((Gf.lg x * (n % 255) : Nat) : Int) := by
    rw [← Int.natCast_mul]; exact IntWalk.u64_in _ (by omega)
  have e4 : ((Gf.lg x * (n % 255) : Nat) : Int).tmod 255 = ((Gf.lg x * (n % 255) % 255 : Nat) : Int) := by
    rw [Int.tmod_eq_emod_of_nonneg (by omega)]; omega
  generalize Gf.lg x * (n % 255) % 255 = q at *
  generalize Gf.lg x * (n % 255) = p at *
  generalize n % 255 = m at *
  generalize Gf.lg x = l at *
  have HV := Lib.hid hv
  clear hv hf hp
  go_enter Try.func68, Try.ntmps68
  go_wp2
  go_quiet (fail)
  go_wp2
  go_ret
  exact ⟨ret_int (by rw [HV.out]), nq, rfl⟩
theorem pow_is (b x n v : Nat) (w : World) (hf : IsField w b) (hx : x < 256) (h : Gf.pow x n = v) :
    Calls Try.prog 68 #[.pointer (some ⟨b, 0, none⟩), .int .u8 (x : Int), .int .u64 (n : Int)] w (Hands (.int .u8 (v : Int)) w) := h ▸ pow_any b x n w hf hx
theorem pow_at (b x n v : Nat) (N : Int) (w : World) (hf : IsField w b) (hx : x < 256) (hN : N = (n : Int)) (h : Gf.pow x n = v) :
    Calls Try.prog 68 #[.pointer (some ⟨b, 0, none⟩), .int .u8 (x : Int), .int .u64 N] w (Hands (.int .u8 (v : Int)) w) := by
  subst hN
  exact pow_is b x n v w hf hx h
end Go.Proofs.Ytffdmhcbcaemfaa

/-
  What powersOf of layer 4 does: the powers of an element, from the one with the exponent 0 on. Conditions: a field that New made, no more than 2^16 powers.
-/
namespace Go.Proofs.Ytffdmhcbcaemfaa
open Go.RowKit
open Pol (co Sm)

/-- The first k powers. -/
def powt (x k : Nat) : Nat → Nat := fun i => if i < k then Gf.pow x i else 0
theorem powt_step (x k : Nat) : upd (powt x k) k (Gf.pow x k) = powt x (k + 1) := by
  funext i
  unfold upd powt
  by_cases e : i = k
  · rw [if_pos e, if_pos (by omega), e]
  · rw [if_neg e]
    by_cases h : i < k
    · rw [if_pos h, if_pos (by omega)]
    · rw [if_neg h, if_neg (by omega)]
def PowsE (x n : Nat) (w : World) (e : Ending) (w' : World) : Prop := e = .returned (.slice (some ⟨w.heap.size, 0, none⟩) n n) ∧ Blk w' w.heap.size n (Gf.pow x) ∧ Ext w w'

set_option maxHeartbeats 800000 in
set_option maxRecDepth 100000 in
theorem w_powers (f x n : Nat) (w : World) (hf : IsField w f) (hx : x < 256) (hn : n ≤ 65536) :
    Calls Try.prog 60 #[.pointer (some ⟨f, 0, none⟩), .int .u8 (x : Int), .int .i64 (n : Int)] w (PowsE x n w) := by
  have HP := Lib.hid (fun k W (hW : Ext w W) => pow_is f x k _ W (hf.ext hW) hx rfl)
  have HST := Lib.hid (powt_step x)
  have hmk := fun W => run_make_u8 n (by omega) W
  clear hf
  go_enter Try.func60, Try.ntmps60
  go_wp2
  clear hmk
  go_loopg [12] n (fun gh s wx => ∃ k : Nat, k + gh = n ∧ s = .int .i64 (k : Int) ∧ Blk wx w.heap.size n (powt x k) ∧ Ext w wx)
  case atStart => exact ⟨0, by omega, rfl, Blk.new w n (powt x 0), (Ext.refl _).alloc _⟩
  case round =>
    obtain ⟨k, hkg, rfl, hblk, hx1⟩ := hrel
    have HX := Lib.hid hx1
    have HK := Lib.hid hblk
    clear hx1 hblk
    cases gk with
    | zero =>
      obtain rfl : k = n := by omega
      clear hkg
      go_wp2
      go_ret
      exact ⟨rfl, HK.out.congr (fun i hi => if_pos hi), HX.out⟩
    | succ gh =>
      have hk : k < n := by omega
      have hkI : (k : Int) < (n : Int) := by omega
      have e1 : IntKind.u64.wrap (k : Int) = (k : Int) := IntWalk.u64_in _ (by omega)
      go_wp2_with fail
      refine (HP.out k wr HX.out).mono ?_
      rintro e w2 ⟨rfl, q, rfl⟩
      have hc := (HK.out.drewN q).cell k hk
      have hz := (HK.out.drewN q).frozen k
      have hs := (HK.out.drewN q).store k (Gf.pow x k)
      rw [HST.out k] at hs
      have HS := Lib.hid hs
      have HX2 := Lib.hid ((HX.out.drewN q).setCell (p := ⟨w.heap.size, k, none⟩) (Nat.le_refl _) (.int .u8 ((Gf.pow x k : Nat) : Int)))
      clear hs
      go_wp2
      go_roundg gh
      case measure => omega
      case rel => exact ⟨k + 1, by omega, by go_num, HS.out, HX2.out⟩
end Go.Proofs.Ytffdmhcbcaemfaa

/-
  Bytes in a block of a call's own, that are changed one by one; what stays while other blocks are written. Conditions: none.
-/
namespace Go.Proofs.Ytffdmhcbcaemfaa
open Go.RowKit
open Pol (co Sm trim)

/-- The first n cells of block g are the bytes F, and may be written. -/
def Cells (w : World) (g n : Nat) (F : Nat → Nat) : Prop := ∀ i, i < n → w.cell? ⟨g, i, none⟩ = some (.int .u8 ((F i : Nat) : Int)) ∧ w.frozen? ⟨g, i, none⟩ = false
theorem Blk.cells {w : World} {g n : Nat} {F : Nat → Nat} (h : Blk w g n F) : Cells w g n F := fun i hi => ⟨h.cell i hi, h.frozen i⟩
theorem Cells.drewN {w : World} {g n : Nat} {F : Nat → Nat} (h : Cells w g n F) (k : Nat) : Cells (w.drewN k) g n F := h
theorem Cells.congr {w : World} {g n : Nat} {F F' : Nat → Nat} (h : Cells w g n F) (hf : ∀ i, i < n → F i = F' i) : Cells w g n F' := fun i hi => ⟨by rw [(h i hi).1, hf i hi], (h i hi).2⟩
theorem Cells.store {w : World} {g n : Nat} {F : Nat → Nat} (h : Cells w g n F) (k v : Nat) : Cells (w.setCell ⟨g, k, none⟩ (.int .u8 (v : Int))) g n (upd F k v) := fun i hi => by
  refine ⟨?_, by rw [World.frozen?_setCell]; exact (h i hi).2⟩
  unfold upd
  by_cases e : i = k
  · subst e
    rw [if_pos rfl]
    exact World.cell?_setCell_same' _ _ _ (by rw [(h i hi).1]; rfl)
  · rw [if_neg e, World.cell?_setCell_other _ _ _ _ (fun h => e (by cases h; rfl))]
    exact (h i hi).1
theorem Cells.keep {w w' : World} {g n : Nat} {F : Nat → Nat} {row : Option Nat} (h : Cells w g n F) (hg : w.grownBy w' row) (hne : some g ≠ row) : Cells w' g n F := fun i hi =>
  ⟨hg.cell (h i hi).1 hne, (World.frozen?_of_block (a := ⟨g, i, none⟩) (hg.block g (block_lt_of_cell (h i hi).1) hne)).trans (h i hi).2⟩
theorem Cells.ext {w w' : World} {g n : Nat} {F : Nat → Nat} (h : Cells w g n F) (hx : Ext w w') : Cells w' g n F := fun i hi =>
  ⟨(hx.below.cell (p := ⟨g, i, none⟩) (block_lt_of_cell (h i hi).1)).trans (h i hi).1, (hx.below.frozen (p := ⟨g, i, none⟩) (block_lt_of_cell (h i hi).1)).trans (h i hi).2⟩
theorem Cells.reads {w : World} {g n : Nat} {F : Nat → Nat} (h : Cells w g n F) (hs : ∀ i, i < n → F i < 256) : Rd w (some ⟨g, 0, none⟩) (tab n F) :=
  ⟨tab_sm n F hs, fun i hi => ⟨g, 0, rfl, by
    rw [tab_len] at hi
    rw [Nat.zero_add, (h i hi).1, co_tab, if_pos hi]⟩⟩
theorem Rd.keep {w w' : World} {A : Option Addr} {l : List Nat} {row : Option Nat} (h : Rd w A l) (hg : w.grownBy w' row) (hne : ∀ b o, A = some ⟨b, o, none⟩ → 0 < l.length → some b ≠ row) : Rd w' A l :=
  ⟨h.1, fun i hi => by
    obtain ⟨b, o, e, hc⟩ := h.2 i hi
    exact ⟨b, o, e, hg.cell hc (hne b o e (by omega))⟩⟩
theorem IsField.keep {w w' : World} {b : Nat} {row : Option Nat} (h : IsField w b) (hg : w.grownBy w' row) (hne : some b ≠ row) : IsField w' b :=
  ⟨fun i hi => hg.cell (h.1 i hi) hne, fun x hx => hg.cell (h.2 x hx) hne⟩
theorem grown_set (w : World) (g o : Nat) (v : Value) : w.grownBy (w.setCell ⟨g, o, none⟩ v) (some g) :=
  ⟨rfl, rfl, rfl, by simp [World.setCell], fun k _ hk => Below.heap_setCell _ _ _ k (fun e => hk (by rw [e]))⟩
theorem grown_drewN (w : World) (n : Nat) (row : Option Nat) : w.grownBy (w.drewN n) row := ⟨rfl, rfl, rfl, Nat.le_refl _, fun _ _ _ => rfl⟩
theorem Ext.grown {w w' : World} (h : Ext w w') (row : Option Nat) : w.grownBy w' row := ⟨h.below.os, h.below.tape, h.below.output, h.below.size, fun k hk _ => h.below.block k hk⟩

/-- s[l:] of bytes, where the capacity goes on. -/
theorem run_from_u8 (g o len cap l : Nat) (h : l ≤ len) (hc : l < cap) (W : World) :
    (Instr.slice 22 (.slice (some ⟨g, o, none⟩) len cap) (some (.int .i64 (l : Int))) none none).run Try.prog W = .ok (.slice (some ⟨g, o + l, none⟩) (len - l) (cap - l)) W := by
  obtain ⟨i0, hi, hz0, hz1, hz2⟩ := info_parts u8_info
  have he : Try.prog.elem 22 = 5 := by kernel_rfl
  rw [run_slice_l W 22 _ len cap (by rw [he]; exact Try.underlying22) .i64 (l : Int) (by omega) (by omega), he]
  simp [sizeOf, typeInfo, hi, hz1, Result.andThen, sliced, addr_add]
  omega

/-- A slice of the call's own, as cells that may be written. -/
theorem Mine.cells {w : World} {base : Nat} {v : Value} {l : List Nat} (hm : Mine w base v l) : ∃ A c g, v = .slice A l.length c ∧ l.length ≤ c ∧ (0 < l.length → A = some ⟨g, 0, none⟩ ∧ base ≤ g) ∧ Cells w g l.length (co l) := by
  rcases hm.2 with ⟨rfl, hn⟩ | ⟨g, cap, cur, rfl, hb, hg, hnc, _, _, htake⟩
  · have : l = [] := List.eq_nil_of_length_eq_zero hn
    subst this
    exact ⟨none, 0, 0, rfl, Nat.le_refl _, fun h => absurd h (by simp), fun i hi => absurd hi (by simp)⟩
  · refine ⟨_, cap, g, rfl, hnc, fun _ => ⟨rfl, hb⟩, fun i hi => ⟨?_, frozen_of_row w g i cur _ hg⟩⟩
    rw [cell_of_row w g i cur _ _ hg, ← bv_at l i hi, ← htake, List.getElem?_take, if_pos (by omega)]
    simp
end Go.Proofs.Ytffdmhcbcaemfaa

/-
  Rows that lie each in a block of its own and may be written: a number is stored, two rows change places, other blocks are written. Conditions: the rows are not empty.
-/
namespace Go.Proofs.Ytffdmhcbcaemfaa
open Go.RowKit
open Pol (co Sm)

/-- Block g's first m cells are slices of N bytes, the i-th at the start of block blk i; no two share a block. -/
structure Mat (w : World) (g m N : Nat) (blk : Nat → Nat) (F : Nat → Nat → Nat) : Prop where
  row : ∀ i, i < m → ∃ c, w.cell? ⟨g, i, none⟩ = some (.slice (some ⟨blk i, 0, none⟩) N c) ∧ w.frozen? ⟨g, i, none⟩ = false ∧ N ≤ c
  has : ∀ i, i < m → Cells w (blk i) N (F i)
  one : ∀ i j, i < m → j < m → blk i = blk j → i = j
  off : ∀ i, i < m → blk i ≠ g
theorem Mat.congr {w : World} {g m N : Nat} {blk : Nat → Nat} {F F' : Nat → Nat → Nat} (h : Mat w g m N blk F) (hf : ∀ i, i < m → ∀ k, k < N → F i k = F' i k) : Mat w g m N blk F' :=
  ⟨h.row, fun i hi => (h.has i hi).congr (hf i hi), h.one, h.off⟩
theorem Mat.drewN {w : World} {g m N : Nat} {blk : Nat → Nat} {F : Nat → Nat → Nat} (h : Mat w g m N blk F) (k : Nat) : Mat (w.drewN k) g m N blk F := ⟨h.row, fun i hi => (h.has i hi).drewN k, h.one, h.off⟩
theorem Mat.ext {w w' : World} {g m N : Nat} {blk : Nat → Nat} {F : Nat → Nat → Nat} (h : Mat w g m N blk F) (hx : Ext w w') : Mat w' g m N blk F :=
  ⟨fun i hi => by
    obtain ⟨c, h1, h2, h3⟩ := h.row i hi
    exact ⟨c, (hx.below.cell (p := ⟨g, i, none⟩) (block_lt_of_cell h1)).trans h1, (hx.below.frozen (p := ⟨g, i, none⟩) (block_lt_of_cell h1)).trans h2, h3⟩, fun i hi => (h.has i hi).ext hx, h.one, h.off⟩
theorem Mat.keep {w w' : World} {g m N : Nat} {blk : Nat → Nat} {F : Nat → Nat → Nat} {row : Option Nat} (h : Mat w g m N blk F) (hg : w.grownBy w' row) (h0 : some g ≠ row) (hne : ∀ i, i < m → some (blk i) ≠ row) : Mat w' g m N blk F :=
  ⟨fun i hi => by
    obtain ⟨c, h1, h2, h3⟩ := h.row i hi
    exact ⟨c, hg.cell h1 h0, (World.frozen?_of_block (a := ⟨g, i, none⟩) (hg.block g (block_lt_of_cell h1) h0)).trans h2, h3⟩, fun i hi => (h.has i hi).keep hg (hne i hi), h.one, h.off⟩
theorem Mat.lt {w : World} {g m N : Nat} {blk : Nat → Nat} {F : Nat → Nat → Nat} (h : Mat w g m N blk F) (hN : 0 < N) (i : Nat) (hi : i < m) : blk i < w.heap.size := block_lt_of_cell ((h.has i hi) 0 hN).1
/-- What one row's cells become, while all else stays. -/
theorem Mat.turn {w w' : World} {g m N : Nat} {blk : Nat → Nat} {F : Nat → Nat → Nat} (h : Mat w g m N blk F) (i : Nat) (hi : i < m) (f : Nat → Nat) (hg : w.grownBy w' (some (blk i))) (hc : Cells w' (blk i) N f) : Mat w' g m N blk (fun r => if r = i then f else F r) :=
  ⟨fun j hj => by
    obtain ⟨c, h1, h2, h3⟩ := h.row j hj
    have h0 : some g ≠ some (blk i) := fun e => h.off i hi (by injection e with e; exact e.symm)
    exact ⟨c, hg.cell h1 h0, (World.frozen?_of_block (a := ⟨g, j, none⟩) (hg.block g (block_lt_of_cell h1) h0)).trans h2, h3⟩,
   fun j hj => by
    by_cases e : j = i
    · subst e
      rw [if_pos rfl]
      exact hc
    · rw [if_neg e]
      exact (h.has j hj).keep hg (fun e' => e (h.one j i hj hi (by injection e'))), h.one, h.off⟩
theorem Mat.store {w : World} {g m N : Nat} {blk : Nat → Nat} {F : Nat → Nat → Nat} (h : Mat w g m N blk F) (i : Nat) (hi : i < m) (k v : Nat) :
    Mat (w.setCell ⟨blk i, k, none⟩ (.int .u8 (v : Int))) g m N blk (fun r => if r = i then upd (F i) k v else F r) :=
  h.turn i hi _ (grown_set w (blk i) k _) ((h.has i hi).store k v)
/-- The number that stands for i when i and j change places. -/
def swp (i j r : Nat) : Nat := if r = i then j else if r = j then i else r
theorem swp_lt {i j m r : Nat} (hi : i < m) (hj : j < m) (hr : r < m) : swp i j r < m := by
  unfold swp
  split
  · exact hj
  · split
    · exact hi
    · exact hr
theorem swp_one {i j r s : Nat} (h : swp i j r = swp i j s) : r = s := by
  unfold swp at h
  split at h <;> split at h <;> (try split at h) <;> (try split at h) <;> omega
/-- Two rows have changed places: both cells are stored, one behind the other. -/
theorem Mat.swap {w : World} {g m N : Nat} {blk : Nat → Nat} {F : Nat → Nat → Nat} (h : Mat w g m N blk F) (i j : Nat) (hi : i < m) (hj : j < m) (ci cj : Nat) (hci : N ≤ ci) (hcj : N ≤ cj) :
    Mat ((w.setCell ⟨g, i, none⟩ (.slice (some ⟨blk j, 0, none⟩) N cj)).setCell ⟨g, j, none⟩ (.slice (some ⟨blk i, 0, none⟩) N ci)) g m N (fun r => blk (swp i j r)) (fun r => F (swp i j r)) :=
  ⟨fun r hr => by
    obtain ⟨c, h1, h2, h3⟩ := h.row r hr
    by_cases ej : r = j
    · subst ej
      have hs : (w.setCell ⟨g, i, none⟩ (.slice (some ⟨blk r, 0, none⟩) N cj)).cell? ⟨g, r, none⟩ ≠ none := by
        by_cases e : i = r
        · subst e; rw [World.cell?_setCell_same' _ _ _ (by rw [h1]; rfl)]; simp
        · rw [World.cell?_setCell_other _ _ _ _ (fun h => e (by cases h; rfl)), h1]; simp
      refine ⟨ci, ?_, by rw [World.frozen?_setCell, World.frozen?_setCell]; exact h2, hci⟩
      rw [World.cell?_setCell_same' _ _ _ (by
        cases hq : (w.setCell ⟨g, i, none⟩ (.slice (some ⟨blk r, 0, none⟩) N cj)).cell? ⟨g, r, none⟩ with
        | none => exact absurd hq hs
        | some _ => rfl)]
      unfold swp
      by_cases e : r = i
      · rw [if_pos e, e]
      · rw [if_neg e, if_pos rfl]
    · rw [World.cell?_setCell_other _ _ _ _ (fun h => ej (by cases h; rfl))]
      by_cases ei : r = i
      · subst ei
        refine ⟨cj, ?_, by rw [World.frozen?_setCell, World.frozen?_setCell]; exact h2, hcj⟩
        rw [World.cell?_setCell_same' _ _ _ (by rw [h1]; rfl)]
        unfold swp
        rw [if_pos rfl]
      · refine ⟨c, ?_, by rw [World.frozen?_setCell, World.frozen?_setCell]; exact h2, h3⟩
        rw [World.cell?_setCell_other _ _ _ _ (fun h => ei (by cases h; rfl)), h1]
        unfold swp
        rw [if_neg ei, if_neg ej],
   fun r hr => by
    have hs := swp_lt hi hj hr
    have h0 : some (blk (swp i j r)) ≠ some g := fun e => h.off _ hs (by injection e)
    exact ((h.has _ hs).keep (grown_set _ g i _) h0).keep (grown_set _ g j _) h0,
   fun r s hr hs e => swp_one (h.one _ _ (swp_lt hi hj hr) (swp_lt hi hj hs) e),
   fun r hr => h.off _ (swp_lt hi hj hr)⟩
end Go.Proofs.Ytffdmhcbcaemfaa

/-
  The builtin copy of bytes to the front of a block of the call's own. Conditions: the block is at least as long.
-/
namespace Go.Proofs.Ytffdmhcbcaemfaa
open Go.RowKit
open Pol (co Sm)

/-- A copy of bytes to the front of a block of the call's own. -/
theorem splice_bt (n : Nat) (f : Nat → Nat) (a : List Nat) (h : a.length ≤ n) : (splice (bt n f).toList 0 (bv a)).toArray = bt n (fun i => if i < a.length then co a i else f i) := by
  apply Array.ext
  · simp [splice, bv_len, bt_size]; omega
  · intro i h1 h2
    have hi : i < n := by rwa [bt_size] at h2
    rw [← Option.some_inj, ← Array.getElem?_eq_getElem, ← Array.getElem?_eq_getElem, bt_at _ _ _ hi]
    simp only [splice, List.take_zero, List.nil_append, Nat.zero_add, List.getElem?_toArray, bv_len]
    by_cases hia : i < a.length
    · rw [List.getElem?_append_left (by rw [bv_len]; exact hia), bv_at a i hia, if_pos hia]
    · rw [List.getElem?_append_right (by rw [bv_len]; omega), List.getElem?_drop, bv_len, if_neg hia, show a.length + (i - a.length) = i from by omega]
      have := bt_at n f i hi
      simpa using this
theorem wpList_copy_blk {ops : Array Oper} {rest : List Oper} {o : Oper} {act : Act} {w : World} {Q : Exit → Act → World → Prop} (hgd : o.guard = none) (d s : Operand)
    (ho : o.op = .call { callee := .builtin .copy, args := #[d, s], argTypes := #[22, 22] }) (g n dc : Nat) (f : Nat → Nat) (hd : act.eval d = .slice (some ⟨g, 0, none⟩) n dc) (hb : Blk w g n f)
    (A : Option Addr) (a : List Nat) (k c : Nat) (hs : act.eval s = .slice A k c) (hk : a.length = k) (hr : Rd w A a) (hn : k ≤ n) (w0 : World) (hx : Ext w0 w) (hg : w0.heap.size ≤ g)
    (h : ∀ w', Hid (Blk w' g n (fun i => if i < a.length then co a i else f i)) → Ext w0 w' → wpList Try.prog ops Q rest (act.put o.dst (goInt k)) w') :
    wpList Try.prog ops Q (o :: rest) act w := by
  subst hk
  refine wpList_copy_splice hgd d s 22 22 ho 5 Try.underlying22 (by kernel_rfl) _ A n dc a.length c hd hs g 0 (bt n f).toList 5 (by unfold Blk at hb; simpa using hb) (bv a) (by rw [bv_len]; exact (Nat.min_eq_left hn).symm)
    (fun hp => ⟨rfl, ?_⟩) (by simp [bv_len, bt_size]; omega) (bv_one a) w0.heap.size w0 hx.below hg ?_
  · rw [bv_len] at hp
    obtain ⟨b, o', e, hc⟩ := hr.addr hp
    refine ⟨_, e, fun j v hj => ?_⟩
    have hj' : j < a.length := by
      have := (List.getElem?_eq_some_iff.1 hj).1
      rwa [bv_len] at this
    rw [addr_add, hc j hj', ← bv_at a j hj', hj]
  · intro w' HG hB
    rw [bv_len]
    refine h w' (Lib.hid ?_) ⟨hB⟩
    unfold Blk
    rw [HG.out, splice_bt n f a hn]
end Go.Proofs.Ytffdmhcbcaemfaa

/-
  What copied of layer 3 does: rows of the call's own, each in a block of its own, that read as the argument's. Conditions: rows of one length that is at least 1, no more than 2^16 elements and rows.
-/
namespace Go.Proofs.Ytffdmhcbcaemfaa
open Go.RowKit
open Pol (co Sm)

set_option maxRecDepth 100000 in
/-- make([][]byte, n). -/
theorem run_make_rows (n : Nat) (hn : n ≤ 1048576) (w : World) :
    (Instr.makeSlice 28 (.int .i64 (n : Int)) (.int .i64 (n : Int))).run Try.prog w = .ok (.slice (some ⟨w.heap.size, 0, none⟩) n n) (w.alloc (.cells (madeCells #[.slice none 0 0] n) 22)) := by
  obtain ⟨i0, hi, hz0, hz1, hz2⟩ := info_parts row_info
  have h := run_make (P := Try.prog) w 28 22 i0 (.slice none 0 0) Try.underlying28 hi hz0 .i64 .i64 n n (by omega) (by omega) (by rw [hz2]; omega) (by omega)
  simp only [Int.toNat_natCast, hz1, Nat.mul_one] at h
  rw [h]
  rfl
/-- Block g's first m cells are there and may be written. -/
def Room (w : World) (g m : Nat) : Prop := ∀ i, i < m → (∃ v, w.cell? ⟨g, i, none⟩ = some v) ∧ w.frozen? ⟨g, i, none⟩ = false
theorem Room.ext {w w' : World} {g m : Nat} (h : Room w g m) (hx : Ext w w') : Room w' g m := fun i hi => by
  obtain ⟨⟨v, hv⟩, hf⟩ := h i hi
  exact ⟨⟨v, (hx.below.cell (p := ⟨g, i, none⟩) (block_lt_of_cell hv)).trans hv⟩, (hx.below.frozen (p := ⟨g, i, none⟩) (block_lt_of_cell hv)).trans hf⟩
theorem Room.set {w : World} {g m : Nat} (h : Room w g m) (k : Nat) (u : Value) : Room (w.setCell ⟨g, k, none⟩ u) g m := fun i hi => by
  obtain ⟨⟨v, hv⟩, hf⟩ := h i hi
  refine ⟨?_, by rw [World.frozen?_setCell]; exact hf⟩
  by_cases e : i = k
  · subst e
    exact ⟨u, World.cell?_setCell_same' _ _ _ (by rw [hv]; rfl)⟩
  · exact ⟨v, (World.cell?_setCell_other _ _ _ _ (fun h => e (by cases h; rfl))).trans hv⟩
theorem room_made (w : World) (m : Nat) : Room (w.alloc (.cells (madeCells #[.slice none 0 0] m) 22)) w.heap.size m := fun i hi => by
  have hg := heap_alloc_new w (.cells (madeCells #[.slice none 0 0] m) 22)
  refine ⟨⟨.slice none 0 0, ?_⟩, frozen_of_row _ _ _ _ _ hg⟩
  rw [cell_of_row _ _ _ _ _ _ hg]
  simp [madeCells, Nat.mod_one, hi]
/-- A row more. -/
theorem Mat.grow {w w' : World} {g k N b c : Nat} {blk : Nat → Nat} {F : Nat → Nat → Nat} (h : Mat w g k N blk F) (hx : Ext (w.setCell ⟨g, k, none⟩ (.slice (some ⟨b, 0, none⟩) N c)) w') (hr : (∃ v, w.cell? ⟨g, k, none⟩ = some v) ∧ w.frozen? ⟨g, k, none⟩ = false)
    (hN : 0 < N) (hc : N ≤ c) (hb : w.heap.size ≤ b) (hB : Cells w' b N (F k)) : Mat w' g (k + 1) N (fun i => if i = k then b else blk i) F := by
  obtain ⟨⟨v, hv⟩, hf⟩ := hr
  have hg : g < w.heap.size := block_lt_of_cell hv
  have hgs : g < (w.setCell ⟨g, k, none⟩ (.slice (some ⟨b, 0, none⟩) N c)).heap.size := by simpa [World.setCell] using hg
  refine ⟨fun i hi => ?_, fun i hi => ?_, fun i j hi hj e => ?_, fun i hi => ?_⟩
  · by_cases e : i = k
    · subst e
      rw [if_pos rfl]
      exact ⟨c, (hx.below.cell (p := ⟨g, i, none⟩) hgs).trans (World.cell?_setCell_same' _ _ _ (by rw [hv]; rfl)), (hx.below.frozen (p := ⟨g, i, none⟩) hgs).trans (by rw [World.frozen?_setCell]; exact hf), hc⟩
    · rw [if_neg e]
      obtain ⟨c', h1, h2, h3⟩ := h.row i (by omega)
      exact ⟨c', (hx.below.cell (p := ⟨g, i, none⟩) hgs).trans ((World.cell?_setCell_other _ _ _ _ (fun h => e (by cases h; rfl))).trans h1), (hx.below.frozen (p := ⟨g, i, none⟩) hgs).trans (by rw [World.frozen?_setCell]; exact h2), h3⟩
  · by_cases e : i = k
    · subst e
      rw [if_pos rfl]
      exact hB
    · rw [if_neg e]
      exact ((h.has i (by omega)).keep (grown_set _ g k _) (fun e => h.off i (by omega) (by injection e))).ext hx
  · by_cases e1 : i = k
    · by_cases e2 : j = k
      · omega
      · rw [if_pos e1, if_neg e2] at e
        have := h.lt hN j (by omega)
        omega
    · by_cases e2 : j = k
      · rw [if_neg e1, if_pos e2] at e
        have := h.lt hN i (by omega)
        omega
      · rw [if_neg e1, if_neg e2] at e
        exact h.one i j (by omega) (by omega) e
  · by_cases e : i = k
    · rw [if_pos e]; omega
    · rw [if_neg e]; exact h.off i (by omega)

/-- Rows of the call's own. -/
def Copies (m N : Nat) (F : Nat → Nat → Nat) (w : World) (e : Ending) (w' : World) : Prop :=
  ∃ g c blk, e = .returned (.slice (some ⟨g, 0, none⟩) m c) ∧ m ≤ c ∧ Mat w' g m N blk F ∧ Ext w w' ∧ w.heap.size ≤ g ∧ ∀ i, i < m → w.heap.size ≤ blk i

set_option maxHeartbeats 800000 in
set_option maxRecDepth 100000 in
theorem s_copied (rows : List (List Nat)) (A : Option Addr) (c N : Nat) (w : World) (ha : RRd w A rows) (hl : rows.length ≤ 65536) (hlen : ∀ i, i < rows.length → (ro rows i).length = N) (hN0 : 0 < N) (hN : N ≤ 65536) :
    Calls Try.prog 58 #[.slice A rows.length c] w (Copies rows.length N (fun i => co (ro rows i)) w) := by
  generalize hn : rows.length = m at *
  have HA := Lib.hid ha
  have HN := Lib.hid hn
  have HLL := Lib.hid hlen
  clear ha hn hlen
  have hmk := fun W => run_make_rows m (by omega) W
  go_enter Try.func58, Try.ntmps58
  go_wp2
  clear hmk
  go_loopg [11] m (fun gh s wx => ∃ (k : Nat) (blk : Nat → Nat), k + gh = m ∧ s = .int .i64 (k : Int) ∧ Mat wx w.heap.size k N blk (fun i => co (ro rows i)) ∧ Room wx w.heap.size m ∧ Ext w wx ∧ ∀ i, i < k → w.heap.size ≤ blk i)
  case atStart => exact ⟨0, fun _ => 0, by omega, rfl, ⟨fun i hi => by omega, fun i hi => by omega, fun i j hi hj => by omega, fun i hi => by omega⟩, room_made w m, (Ext.refl w).alloc _, fun i hi => by omega⟩
  case round =>
    obtain ⟨k, blk, hkg, rfl, hmat, hroom, hx, hnew⟩ := hrel
    have HM := Lib.hid hmat
    have HRO := Lib.hid hroom
    have HX := Lib.hid hx
    have HNEW := Lib.hid hnew
    clear hmat hroom hx hnew
    cases gk with
    | zero =>
      obtain rfl : k = m := by omega
      clear hkg
      go_wp2
      go_ret
      exact ⟨_, _, blk, rfl, Nat.le_refl _, HM.out, HX.out, Nat.le_refl _, HNEW.out⟩
    | succ gh =>
      have hk : k < m := by omega
      have hkI : (k : Int) < (m : Int) := by omega
      obtain ⟨b, o, B, ck, rfl, hck, hlk, hrd⟩ := (HA.out.ext HX.out) k (by rw [HN.out]; exact hk)
      have hlr := HLL.out k hk
      rw [hlr] at hck hlk
      obtain ⟨⟨v0, hv0⟩, hf0⟩ := HRO.out k hk
      have hG : w.heap.size < wr.heap.size := block_lt_of_cell hv0
      have z1 : (wr.alloc (.cells (bt N fun _ => 0) 5)).cell? ⟨w.heap.size, k, none⟩ = some v0 := (((Ext.refl wr).alloc _).below.cell (p := ⟨w.heap.size, k, none⟩) hG).trans hv0
      have z2 : (wr.alloc (.cells (bt N fun _ => 0) 5)).frozen? ⟨w.heap.size, k, none⟩ = false := (((Ext.refl wr).alloc _).below.frozen (p := ⟨w.heap.size, k, none⟩) hG).trans hf0
      have z3 : ((wr.setCell ⟨w.heap.size, k, none⟩ (.slice (some ⟨wr.heap.size, 0, none⟩) N N)).alloc (.cells (bt N fun _ => 0) 5)).cell? ⟨w.heap.size, k, none⟩ = some (.slice (some ⟨wr.heap.size, 0, none⟩) N N) := (((Ext.refl _).alloc _).below.cell (p := ⟨w.heap.size, k, none⟩) (by simpa [World.setCell] using hG)).trans (World.cell?_setCell_same' _ _ _ (by rw [hv0]; rfl))
      have HE0 := Lib.hid (show Ext (wr.setCell ⟨w.heap.size, k, none⟩ (.slice (some ⟨wr.heap.size, 0, none⟩) N N)) ((wr.setCell ⟨w.heap.size, k, none⟩ (.slice (some ⟨wr.heap.size, 0, none⟩) N N)).alloc (.cells (bt N fun _ => 0) 5)) from (Ext.refl _).alloc _)
      have HBK := Lib.hid (show Blk ((wr.setCell ⟨w.heap.size, k, none⟩ (.slice (some ⟨wr.heap.size, 0, none⟩) N N)).alloc (.cells (bt N fun _ => 0) 5)) wr.heap.size N (fun _ => 0) from by
        have h := Blk.new (wr.setCell ⟨w.heap.size, k, none⟩ (.slice (some ⟨wr.heap.size, 0, none⟩) N N)) N (fun _ => 0)
        rwa [show (wr.setCell ⟨w.heap.size, k, none⟩ (.slice (some ⟨wr.heap.size, 0, none⟩) N N)).heap.size = wr.heap.size from by simp [World.setCell]] at h)
      have HRD := Lib.hid (show Rd ((wr.setCell ⟨w.heap.size, k, none⟩ (.slice (some ⟨wr.heap.size, 0, none⟩) N N)).alloc (.cells (bt N fun _ => 0) 5)) B (ro rows k) from by
        have h0 := HA.out k (by rw [HN.out]; exact hk)
        obtain ⟨b', o', B', c', e', hc', _, hr'⟩ := h0
        injection e' with e'
        injection e' with e1 e2
        subst e1; subst e2
        have hc2 := (HX.out.below.cell (p := ⟨b, o + k, none⟩) (block_lt_of_cell hc')).trans hc'
        rw [hck] at hc2
        injection hc2 with hc2
        injection hc2 with hB
        subst hB
        exact hr'.ext ((HX.out.setCell (p := ⟨w.heap.size, k, none⟩) (Nat.le_refl _) _).alloc _))
      have hsz : (wr.setCell ⟨w.heap.size, k, none⟩ (.slice (some ⟨wr.heap.size, 0, none⟩) N N)).heap.size ≤ wr.heap.size := by simp [World.setCell]
      have HSZ := Lib.hid hsz
      have HLR := Lib.hid hlr
      have hmk := fun W => run_make_u8 N (by omega) W
      clear hrd hv0 hf0 hsz hlr
      go_wp2_with (with_reducible refine wpList_copy_blk rfl (.tmp 25) (.tmp 26) rfl wr.heap.size N N (fun _ => 0) rfl HBK.out B (ro rows k) N ck rfl HLR.out HRD.out (Nat.le_refl _) (wr.setCell ⟨w.heap.size, k, none⟩ (.slice (some ⟨wr.heap.size, 0, none⟩) N N)) HE0.out HSZ.out ?_; intro w3 HK3 hx3)
      have hcl : Cells w3 wr.heap.size N (co (ro rows k)) := HK3.out.cells.congr (fun i hi => if_pos (by rw [HLR.out]; exact hi))
      have hm := HM.out.grow hx3 (HRO.out k hk) hN0 (Nat.le_refl _) (Nat.le_refl _) hcl
      have HM3 := Lib.hid hm
      have HR3 := Lib.hid ((HRO.out.set k (.slice (some ⟨wr.heap.size, 0, none⟩) N N)).ext hx3)
      have HX3 := Lib.hid ((HX.out.setCell (p := ⟨w.heap.size, k, none⟩) (Nat.le_refl _) (.slice (some ⟨wr.heap.size, 0, none⟩) N N)).trans hx3)
      clear hcl hm hx3 HK3 z1 z2 z3 hmk
      go_wp2
      go_roundg gh
      case measure => omega
      case rel => exact ⟨k + 1, _, by omega, by go_num, HM3.out, HR3.out, HX3.out, fun i hi => by
        by_cases e : i = k
        · rw [if_pos e]; omega
        · rw [if_neg e]; exact HNEW.out i (by omega)⟩
end Go.Proofs.Ytffdmhcbcaemfaa

/-
  What Mul of a field does, of a field in memory and of a nil field. Conditions: none beyond the kinds of the arguments.
-/
namespace Go.Proofs.Ytffdmhcbcaemfaa
open Go.RowKit

theorem mul_nil (x y : Int) (w : World) : Calls Try.prog 46 #[.pointer none, .int .u8 x, .int .u8 y] w (Hands (.int .u8 0) w) := by
  go_enter Try.func46, Try.ntmps46
  go_wp2
  go_ret
  exact ⟨rfl, 0, rfl⟩

set_option maxHeartbeats 400000 in
theorem mul_any (b x y : Nat) (w : World) (hf : IsField w b) (hx : x < 256) (hy : y < 256) :
    Calls Try.prog 46 #[.pointer (some ⟨b, 0, none⟩), .int .u8 (x : Int), .int .u8 (y : Int)] w (Hands (.int .u8 ((Gf.mul x y : Nat) : Int)) w) := by
  by_cases x0 : x = 0
  · subst x0
    rw [Gf.zero_mul]
    clear hf
    go_enter Try.func46, Try.ntmps46
    go_wp2
    go_ret
    exact ⟨rfl, 0, rfl⟩
  by_cases y0 : y = 0
  · subst y0
    rw [Gf.mul_zero]
    have h0 : ((x : Int) == 0) = false := by simpa using x0
    clear hf
    go_enter Try.func46, Try.ntmps46
    go_wp2
    go_ret
    exact ⟨rfl, 0, rfl⟩
  have h0 : ((x : Int) == 0) = false := by simpa using x0
  have h1 : ((y : Int) == 0) = false := by simpa using y0
  have c1 := hf.2 x hx
  have c2 := hf.2 y hy
  have l1 := Gf.lg_lt x
  have l2 := Gf.lg_lt y
  have c3 := hf.1 ((Gf.lg x + Gf.lg y) % 255) (by omega)
  have xI : (x : Int) < 256 := by omega
  have yI : (y : Int) < 256 := by omega
  clear hf
  go_enter Try.func46, Try.ntmps46
  go_wp2
  go_quiet (fail)
  go_wp2
  go_ret
  exact ⟨ret_int (by unfold Gf.mul; rw [if_neg (by omega)]), nq, rfl⟩

theorem mul_is (b x y v : Nat) (w : World) (hf : IsField w b) (hx : x < 256) (hy : y < 256) (h : Gf.mul x y = v) :
    Calls Try.prog 46 #[.pointer (some ⟨b, 0, none⟩), .int .u8 (x : Int), .int .u8 (y : Int)] w (Hands (.int .u8 (v : Int)) w) := h ▸ mul_any b x y w hf hx hy
end Go.Proofs.Ytffdmhcbcaemfaa

/-
  What equations of layer 4 does: a row for each point, of the powers of its place and of its value times these. Conditions: a field that New made, no more than 2^10 points, at least one coefficient.
-/
namespace Go.Proofs.Ytffdmhcbcaemfaa
open Go.RowKit
open Pol (co Sm px py)

/-- A point's row. -/
def eqr (l : List (Nat × Nat)) (k v i : Nat) : List Nat := tab (k + v) (Gf.pow (px l i)) ++ tab (v + 1) (fun j => Gf.mul (py l i) (Gf.pow (px l i) j))
def eqs (l : List (Nat × Nat)) (k v : Nat) : List (List Nat) := (List.range l.length).map (eqr l k v)
theorem eqs_len (l : List (Nat × Nat)) (k v : Nat) : (eqs l k v).length = l.length := by simp [eqs]
theorem eqs_ro (l : List (Nat × Nat)) (k v i : Nat) (h : i < l.length) : ro (eqs l k v) i = eqr l k v i := by
  unfold ro eqs
  rw [List.getElem?_map, List.getElem?_range h]
  rfl
theorem eqr_len (l : List (Nat × Nat)) (k v i : Nat) : (eqr l k v i).length = k + 2 * v + 1 := by
  unfold eqr
  rw [List.length_append, tab_len, tab_len]
  omega
theorem tab_succ (n : Nat) (f : Nat → Nat) : tab (n + 1) f = tab n f ++ [f n] := by
  unfold tab
  rw [List.range_succ, List.map_append]
  rfl
theorem tab_zero (f : Nat → Nat) : tab 0 f = [] := rfl
/-- Block g has m cells that may be written; its first k are slices of these rows, none of which lies in g. -/
structure RowsAt (w : World) (g m : Nat) (R : Nat → List Nat) (k : Nat) : Prop where
  room : Room w g m
  row : ∀ i, i < k → ∃ B c, w.cell? ⟨g, i, none⟩ = some (.slice (some ⟨B, 0, none⟩) (R i).length c) ∧ (R i).length ≤ c ∧ Rd w (some ⟨B, 0, none⟩) (R i) ∧ B ≠ g
theorem RowsAt.ext {w w' : World} {g m k : Nat} {R : Nat → List Nat} (h : RowsAt w g m R k) (hx : Ext w w') : RowsAt w' g m R k :=
  ⟨h.room.ext hx, fun i hi => by
    obtain ⟨B, c, h1, h2, h3, h4⟩ := h.row i hi
    exact ⟨B, c, (hx.below.cell (p := ⟨g, i, none⟩) (block_lt_of_cell h1)).trans h1, h2, h3.ext hx, h4⟩⟩
theorem Rd.set {w : World} {b o : Nat} {l : List Nat} (h : Rd w (some ⟨b, o, none⟩) l) (g k : Nat) (u : Value) (hne : b ≠ g) : Rd (w.setCell ⟨g, k, none⟩ u) (some ⟨b, o, none⟩) l :=
  h.keep (grown_set w g k u) (fun b' o' e _ e' => hne (by injection e with e; injection e with e1 e2; injection e' with e'; omega))
theorem RowsAt.put {w : World} {g m k B c n : Nat} {R : Nat → List Nat} (h : RowsAt w g m R k) (hk : k < m) (hn : (R k).length = n) (hc : n ≤ c) (hr : Rd w (some ⟨B, 0, none⟩) (R k)) (hB : B ≠ g) : RowsAt (w.setCell ⟨g, k, none⟩ (.slice (some ⟨B, 0, none⟩) n c)) g m R (k + 1) := by
  subst hn
  refine ⟨h.room.set k _, fun i hi => ?_⟩
  by_cases e : i = k
  · subst e
    obtain ⟨⟨v, hv⟩, _⟩ := h.room i hk
    exact ⟨B, c, World.cell?_setCell_same' _ _ _ (by rw [hv]; rfl), hc, hr.set g i _ hB, hB⟩
  · obtain ⟨B', c', h1, h2, h3, h4⟩ := h.row i (by omega)
    exact ⟨B', c', (World.cell?_setCell_other _ _ _ _ (fun h => e (by cases h; rfl))).trans h1, h2, h3.set g k _ h4, h4⟩
theorem step_append_rd {ops : Array Oper} {o : Oper} {a : Act} {w : World} {K : Act → World → Prop} {Q : Exit → Act → World → Prop} {E : Prop} (hgd : o.guard = none) (s x : Operand)
    (ho : o.op = .call { callee := .builtin .append, args := #[s, x], argTypes := #[22, 22] })
    (base : Nat) (v : Value) (l m : List Nat) (hs : a.eval s = v) (hown : Mine w base v l) (A : Option Addr) (n c : Nat) (hx : a.eval x = .slice A n c) (hn : m.length = n) (hr : Rd w A m)
    (hlen : l.length + m.length ≤ 1099511627776) (hbase : base ≤ w.heap.size)
    (h : ∀ v' w', Mine w' base v' (l ++ m) → w.grownBy w' v.ownBlock → (v'.ownBlock = v.ownBlock ∨ v'.ownBlock = some w.heap.size) → K (a.put o.dst v') w') :
    if Region.wanted o (yielded ops a.tmps) = true then Oper.wp Try.prog o a w K Q else E := by
  subst hn
  rw [if_pos (by simp [Region.wanted, hgd])]
  obtain ⟨v', w', hrun, h2, h3, h4⟩ := run_append_rd w base o.type v l m hown A c hr hlen hbase
  unfold Oper.wp execOp
  simp only [ho, resolve, invoke, builtin, Sem.run_bind, Sem.run_pure, Result.andThen_ok, List.map_toArray, List.map_cons, List.map_nil, hs, hx, hrun]
  exact h v' w' h2 h3 h4
set_option maxRecDepth 100000 in
/-- make([]byte, 0, n). -/
theorem run_make_cap (n : Nat) (N : Int) (hN : N = (n : Int)) (hn : n ≤ 1099511627776) (w : World) :
    (Instr.makeSlice 22 (.int .i64 0) (.int .i64 N)).run Try.prog w = .ok (.slice (some ⟨w.heap.size, 0, none⟩) 0 n) (w.alloc (.cells (bt n fun _ => 0) 5)) := by
  subst hN
  obtain ⟨i0, hi, hz0, hz1, hz2⟩ := info_parts u8_info
  have h := run_make (P := Try.prog) w 22 5 i0 (.int .u8 0) Try.underlying22 hi hz0 .i64 .i64 0 n (by omega) (by omega) (by rw [hz2]; omega) (by omega)
  simp only [Int.toNat_natCast, hz1, Nat.mul_one] at h
  rw [h, ← bt_made]
  rfl
theorem mine_made (w : World) (n : Nat) (hn : n ≤ 1099511627776) : Mine (w.alloc (.cells (bt n fun _ => 0) 5)) w.heap.size (.slice (some ⟨w.heap.size, 0, none⟩) 0 n) [] :=
  World.ownsRow_made w (bt n fun _ => 0) n (Nat.le_refl _) (by unfold maxLen; omega) (by rw [bt_size, Nat.mul_one])
/-- A slice of one's own that is not empty. -/
theorem Mine.at {w : World} {base : Nat} {v : Value} {l : List Nat} (h : Mine w base v l) (hs : Sm l) (hl : 0 < l.length) : ∃ g c, v = .slice (some ⟨g, 0, none⟩) l.length c ∧ l.length ≤ c ∧ Rd w (some ⟨g, 0, none⟩) l ∧ base ≤ g := by
  obtain ⟨B, c, rfl, hc, hr⟩ := h.slice hs
  rcases h.2 with ⟨_, hn⟩ | ⟨g, cap, cur, e, hb, _⟩
  · omega
  · injection e with e1 _ e3
    subst e1
    exact ⟨g, c, rfl, hc, hr, hb⟩
/-- Rows, one for each point. -/
def EqsE (l : List (Nat × Nat)) (k v : Nat) (w : World) (e : Ending) (w' : World) : Prop := ∃ A c, e = .returned (.slice A l.length c) ∧ l.length ≤ c ∧ RRd w' A (eqs l k v) ∧ Ext w w'

set_option maxHeartbeats 2000000 in
set_option maxRecDepth 100000 in
theorem w_equations (f : Nat) (l : List (Nat × Nat)) (k v : Nat) (A : Option Addr) (ca : Nat) (w : World) (hf : IsField w f) (hl : PRd w A l) (hll : l.length ≤ 1024) (hk : 1 ≤ k) (hkv : k + 2 * v ≤ 1024) :
    Calls Try.prog 51 #[.pointer (some ⟨f, 0, none⟩), .slice A l.length ca, .int .i64 (k : Int), .int .i64 (v : Int)] w (EqsE l k v w) := by
  have HEQ := Lib.hid (fun i (h : i < l.length) => eqs_ro l k v i h)
  have HELN := Lib.hid (eqs_len l k v)
  have HPO := Lib.hid (fun x W (hx : x < 256) (hW : Ext w W) => w_powers f x (k + v) W (hf.ext hW) hx (by omega))
  have HMU := Lib.hid (fun x y W (hx : x < 256) (hy : y < 256) (hW : Ext w W) => mul_any f x y W (hf.ext hW) hx hy)
  unfold EqsE
  generalize hn : l.length = n at *
  have HL := Lib.hid hl
  have HN := Lib.hid hn
  clear hl hn hf
  have hmr := fun W => run_make_rows n (by omega) W
  go_enter Try.func51, Try.ntmps51
  go_wp2
  clear hmr
  go_loopg [19] n (fun gh s wx => ∃ i : Nat, i + gh = n ∧ s = .int .i64 (i : Int) ∧ RowsAt wx w.heap.size n (eqr l k v) i ∧ Ext w wx)
  case atStart => exact ⟨0, by omega, rfl, ⟨room_made w n, fun i hi => by omega⟩, (Ext.refl w).alloc _⟩
  case round =>
    obtain ⟨i, hig, rfl, hrow, hx⟩ := hrel
    have HR := Lib.hid hrow
    have HX := Lib.hid hx
    clear hrow hx
    cases gk with
    | zero =>
      obtain rfl : i = n := by omega
      clear hig
      go_wp2
      go_ret
      refine ⟨_, _, rfl, Nat.le_refl _, fun j hj => ?_, HX.out⟩
      rw [HELN.out] at hj
      rw [HEQ.out j hj]
      obtain ⟨B, c, h1, h2, h3, _⟩ := HR.out.row j hj
      exact ⟨w.heap.size, 0, _, c, rfl, by rw [Nat.zero_add]; exact h1, h2, h3⟩
    | succ gh =>
      have hi : i < n := by omega
      have hiI : (i : Int) < (n : Int) := by omega
      obtain ⟨b1, o1, e1, hc1, hc2⟩ := (HL.out.ext HX.out).2 i (by rw [HN.out]; exact hi)
      subst e1
      obtain ⟨hpx, hpy⟩ := HL.out.1 i
      obtain ⟨x, hxx⟩ : ∃ x, px l i = x := ⟨_, rfl⟩
      obtain ⟨y, hyy⟩ : ∃ y, py l i = y := ⟨_, rfl⟩
      have HEI := Lib.hid (show eqr l k v i = tab (k + v) (Gf.pow x) ++ tab (v + 1) (fun j => Gf.mul y (Gf.pow x j)) by unfold eqr; rw [hxx, hyy])
      have HEL := Lib.hid (eqr_len l k v i)
      rw [hxx] at hc1 hpx
      rw [hyy] at hc2 hpy
      have HC2 := Lib.hid hc2
      have hkvI : ((k + v : Nat) : Int) = (k : Int) + (v : Int) := by omega
      have HP := Lib.hid (show Calls Try.prog 60 #[.pointer (some ⟨f, 0, none⟩), .int .u8 (x : Int), .int .i64 ((k : Int) + (v : Int))] wr (PowsE x (k + v) wr) from hkvI ▸ HPO.out x wr hpx HX.out)
      clear hc2 hxx hyy hkvI
      go_wp2_with fail
      refine HP.out.mono ?_
      rintro e w2 ⟨rfl, hblk, hx2⟩
      have HB2 := Lib.hid hblk
      have HX2 := Lib.hid hx2
      have HGW := Lib.hid (show w.heap.size < wr.heap.size from block_lt_of_cell (HR.out.room i hi).1.choose_spec)
      clear hblk hx2 HP hc1
      have hmk := fun W => run_make_cap (k + 2 * v + 1) ((k : Int) + 2 * (v : Int) + 1) (by omega) (by omega) W
      have HPR := Lib.hid (HB2.out.reads (fun j _ => Gf.pow_lt x j))
      have HM0 := Lib.hid (mine_made w2 (k + 2 * v + 1) (by omega))
      have HSM := Lib.hid (show Sm (tab (k + v) (Gf.pow x) ++ tab (v + 1) (fun j => Gf.mul y (Gf.pow x j))) from Pol.co_lt_of fun z hz => by
        rcases List.mem_append.1 hz with h | h
        · obtain ⟨j, _, rfl⟩ := List.mem_map.1 h
          exact Gf.pow_lt x j
        · obtain ⟨j, _, rfl⟩ := List.mem_map.1 h
          exact Gf.mul_lt _ _)
      have HTL := Lib.hid (tab_len (k + v) (Gf.pow x))
      go_wp2_with (at_builtin; refine wpList_append_rd rfl (.tmp 38) (.tmp 39) rfl w2.heap.size _ [] (tab (k + v) (Gf.pow x)) rfl HM0.out (some ⟨wr.heap.size, 0, none⟩) (k + v) (k + v) rfl HTL.out (HPR.out.ext ((Ext.refl _).alloc _)) (by rw [HTL.out]; simp; omega) (by simp) ?_; intro v' w3 hown' hg' hat')
      have HO := Lib.hid (show Mine w3 w2.heap.size v' (tab (k + v) (Gf.pow x) ++ tab 0 (fun j => Gf.mul y (Gf.pow x j))) from by rw [tab_zero, List.append_nil]; exact hown')
      have HX3 := Lib.hid (((Ext.refl w2).alloc (.cells (bt (k + 2 * v + 1) fun _ => 0) 5)).more hg' (fun r e => (HM0.out.block r e).1))
      clear hown' hg' hat' hmk HM0
      obtain ⟨wq, hwq⟩ : ∃ wq, wq = wr := ⟨_, rfl⟩
      subst hwq
      go_wp2
      go_loopg [12, 43] (v + 1) (fun g2 s12 s43 wx => ∃ j : Nat, j + g2 = v + 1 ∧ s43 = .int .i64 (j : Int) ∧ Mine wx w2.heap.size s12 (tab (k + v) (Gf.pow x) ++ tab j (fun j => Gf.mul y (Gf.pow x j))) ∧ Ext w2 wx)
      case atStart => exact ⟨0, by omega, rfl, HO.out, HX3.out⟩
      case round =>
        obtain ⟨j, hjg, rfl, hm, hxj⟩ := hrel
        have HM := Lib.hid hm
        have HXJ := Lib.hid hxj
        clear hm hxj
        cases gk with
        | zero =>
          obtain rfl : j = v + 1 := by omega
          clear hjg
          have hmm := HM.out
          rw [← HEI.out] at hmm
          obtain ⟨gb, cb, eu, hcb, hrd, hgb⟩ := hmm.at (by rw [HEI.out]; exact HSM.out) (by rw [HEL.out]; omega)
          rw [HEL.out] at eu hcb
          subst eu
          have hR := HR.out.ext (HX2.out.trans HXJ.out)
          obtain ⟨⟨v0, hv0⟩, hf0⟩ := hR.room i hi
          have hgw := HGW.out
          have hs2 := HX2.out.size
          have HPUT := Lib.hid (hR.put hi HEL.out hcb hrd (by omega))
          have HXP := Lib.hid ((HX.out.trans (HX2.out.trans HXJ.out)).setCell (p := ⟨w.heap.size, i, none⟩) (Nat.le_refl _) (.slice (some ⟨gb, 0, none⟩) (k + 2 * v + 1) cb))
          clear hmm hrd hR HM HXJ hgb
          go_wp2
          go_roundg gh
          case measure => omega
          case rel => exact ⟨i + 1, by omega, by go_num, HPUT.out, HXP.out⟩
        | succ g2 =>
          have hj : j < v + 1 := by omega
          have hjI : (j : Int) < (v : Int) + 1 := by omega
          have hjk : (j : Int) < ((k + v : Nat) : Int) := by omega
          have hjk2 : (j : Int) < (k : Int) + (v : Int) := by omega
          have hc1 := (HB2.out.ext HXJ.out).cell j (by omega)
          have hc2 : wr.cell? ⟨b1, o1 + i * 2 + 1, none⟩ = some (.int .u8 (y : Int)) := ((HX2.out.trans HXJ.out).below.cell (p := ⟨b1, o1 + i * 2 + 1, none⟩) (block_lt_of_cell HC2.out)).trans HC2.out
          have hpl := Gf.pow_lt x j
          have HTS := Lib.hid (show (tab (k + v) (Gf.pow x) ++ tab j (fun j => Gf.mul y (Gf.pow x j))) ++ [Gf.mul y (Gf.pow x j)] = tab (k + v) (Gf.pow x) ++ tab (j + 1) (fun j => Gf.mul y (Gf.pow x j)) from by rw [tab_succ, List.append_assoc])
          have HLL := Lib.hid (show (tab (k + v) (Gf.pow x) ++ tab j (fun j => Gf.mul y (Gf.pow x j))).length = k + v + j from by rw [List.length_append, tab_len, tab_len])
          have HMM := Lib.hid (fun q => HMU.out y (Gf.pow x j) (wr.drewN q) hpy hpl ((HX.out.trans (HX2.out.trans HXJ.out)).drewN q))
          generalize Gf.pow x j = p at hc1 hpl HTS HMM
          go_wp2
          go_region_law (first | (refine step_append_rd rfl (.tmp 46) (.tmp 58) rfl w2.heap.size u12 (tab (k + v) (Gf.pow x) ++ tab j (fun j => Gf.mul y (Gf.pow x j))) [Gf.mul y p] rfl (mine_ext (mine_ext HM.out ((Ext.refl _).drewN _)) ((Ext.refl _).alloc _)) (some ⟨wr.heap.size, 0, none⟩) 1 1 rfl rfl (rd_one (wr.drewN _) _ (Gf.mul_lt _ _)) (by rw [HLL.out]; simp; omega) (by simp; have := HXJ.out.size; omega) ?_; intro v9 w9 hown9 hg9 hat9) | (go_simp; go_at_call 46; refine (HMM.out _).mono ?_; rintro e w' ⟨rfl, m, rfl⟩))
          all_goals
            have hW0 : Ext wr ((wr.drewN (1 + m)).alloc (Obj.cells #[Value.int IntKind.u8 ((Gf.mul y p : Nat) : Int)] 5)) := ((Ext.refl _).drewN _).alloc _
            have HO9 := Lib.hid (show Mine w9 w2.heap.size v9 (tab (k + v) (Gf.pow x) ++ tab (j + 1) (fun j => Gf.mul y (Gf.pow x j))) from by rw [← HTS.out]; exact hown9)
            have HX9 := Lib.hid ((HXJ.out.trans hW0).more hg9 (fun r e => (HM.out.block r e).1))
            clear hown9 hg9 hat9 hW0
            go_wp2
            go_roundg g2
            case measure => omega
            case rel => exact ⟨j + 1, by omega, by go_num, HO9.out, HX9.out⟩
end Go.Proofs.Ytffdmhcbcaemfaa

/-
  What the statements' own lists and sum of layer 5 do. Conditions: no more than 2^16 rows and bytes.
-/
namespace Go.Proofs.Ytffdmhcbcaemfaa
open Go.RowKit
open Pol (co Sm ev px py Apart)

set_option maxHeartbeats 800000 in
set_option maxRecDepth 100000 in
theorem lists_true (rows : List (List Nat)) (A B : Option Addr) (ca cb : Nat) (w : World) (ha : RRd w A rows) (hb : RRd w B rows) (hl : rows.length ≤ 65536) (hll : ∀ i, i < rows.length → (ro rows i).length ≤ 65536) :
    Calls Try.prog 15 #[.slice A rows.length ca, .slice B rows.length cb] w (Hands (.bool true) w) := by
  generalize hn : rows.length = n at *
  have HA := Lib.hid ha
  have HB := Lib.hid hb
  have HN := Lib.hid hn
  have HLL := Lib.hid hll
  clear ha hb hn hll
  go_enter Try.func15, Try.ntmps15
  go_wp2
  go_loopg [13] n (fun g s wx => ∃ k m : Nat, k + g = n ∧ s = .int .i64 (k : Int) ∧ wx = w.drewN m)
  case atStart => exact ⟨0, 0, by omega, rfl, rfl⟩
  case round =>
    obtain ⟨k, m, hkg, rfl, rfl⟩ := hrel
    cases gk with
    | zero =>
      obtain rfl : k = n := by omega
      clear hkg
      go_wp2
      go_ret
      exact ⟨rfl, m, rfl⟩
    | succ g =>
      have hk : k < n := by omega
      have hkI : (k : Int) < (n : Int) := by omega
      obtain ⟨b1, o1, B1, c1, rfl, hc1, hl1, hr1⟩ := HA.out k (by rw [HN.out]; exact hk)
      obtain ⟨b2, o2, B2, c2, rfl, hc2, hl2, hr2⟩ := HB.out k (by rw [HN.out]; exact hk)
      have HS := Lib.hid (fun q => same_true (ro rows k) B1 B2 c1 c2 ((w.drewN m).drewN q) ((hr1.drewN m).drewN q) ((hr2.drewN m).drewN q) (by have := HLL.out k hk; omega))
      have hc1' : (w.drewN m).cell? ⟨b1, o1 + k, none⟩ = some (.slice B1 (ro rows k).length c1) := hc1
      have hc2' : (w.drewN m).cell? ⟨b2, o2 + k, none⟩ = some (.slice B2 (ro rows k).length c2) := hc2
      generalize (ro rows k).length = nr at *
      generalize hW : w.drewN m = W at HS hc1' hc2' ⊢
      have HW := Lib.hid hW
      clear hr1 hr2 hc1 hc2 hW
      go_wp2
      go_quiet (first | (go_at_call 14; exact quiet_hands (HS.out _)))
      go_wp2
      go_roundg g
      case measure => omega
      case rel => exact ⟨k + 1, m + nq, by omega, by go_num, by rw [← HW.out, World.drewN_drewN]⟩

/-- A sum of bytes, place by place. -/
def xr (a b : List Nat) : List Nat := tab a.length (fun i => co a i ^^^ co b i)
theorem xr_len (a b : List Nat) : (xr a b).length = a.length := by unfold xr; rw [tab_len]
theorem xr_sm {a b : List Nat} (ha : Sm a) (hb : Sm b) : Sm (xr a b) := tab_sm _ _ fun i _ => Gf.xor_lt _ _ (ha i) (hb i)
theorem co_xr (a b : List Nat) (i : Nat) (h : i < a.length) : co (xr a b) i = co a i ^^^ co b i := by unfold xr; rw [co_tab, if_pos h]

set_option maxHeartbeats 800000 in
set_option maxRecDepth 100000 in
theorem law_sum (a b : List Nat) (A B : Option Addr) (ca cb : Nat) (w : World) (ha : Rd w A a) (hb : Rd w B b) (hl : a.length = b.length) (hll : a.length ≤ 65536) :
    Calls Try.prog 24 #[.slice A a.length ca, .slice B b.length cb] w (Gives (xr a b) w) := by
  have HSM := Lib.hid (xr_sm ha.1 hb.1)
  rw [← hl]
  have HXR := Lib.hid (show xr a b = tab a.length (fun i => co a i ^^^ co b i) from rfl)
  have HLB := Lib.hid hl
  generalize hn : a.length = n at *
  have HN := Lib.hid hn
  have HA := Lib.hid ha
  have HB := Lib.hid hb
  clear ha hb hn hl
  go_enter Try.func24, Try.ntmps24
  go_wp2
  go_loopg [5, 9] n (fun g s5 s9 wx => ∃ k : Nat, k + g = n ∧ s9 = .int .i64 (k : Int) ∧ Mine wx w.heap.size s5 (tab k (fun i => co a i ^^^ co b i)) ∧ Ext w wx)
  case atStart => exact ⟨0, by omega, rfl, Mine.nil w _, Ext.refl _⟩
  case round =>
    obtain ⟨k, hkg, rfl, hm, hx⟩ := hrel
    have HM := Lib.hid hm
    have HX := Lib.hid hx
    clear hm hx
    cases gk with
    | zero =>
      obtain rfl : k = n := by omega
      clear hkg
      have HG := Lib.hid (gives_of HM.out HXR.out.symm HSM.out HX.out)
      go_wp2
      go_ret
      exact HG.out
    | succ g =>
      have hk : k < n := by omega
      have hkI : (k : Int) < (n : Int) := by omega
      obtain ⟨b1, o1, e1, hc1⟩ := (HA.out.ext HX.out).2 k (by rw [HN.out]; exact hk)
      obtain ⟨b2, o2, e2, hc2⟩ := (HB.out.ext HX.out).2 k (by rw [← HLB.out]; exact hk)
      subst e1; subst e2
      have hx1 := HA.out.1 k
      have hx2 := HB.out.1 k
      have HTS := Lib.hid (tab_succ k (fun i => co a i ^^^ co b i))
      obtain ⟨x, hxx⟩ : ∃ x, co a k = x := ⟨_, rfl⟩
      obtain ⟨y, hyy⟩ : ∃ y, co b k = y := ⟨_, rfl⟩
      rw [hxx, hyy] at HTS
      rw [hxx] at hc1 hx1
      rw [hyy] at hc2 hx2
      have e3 : bits .xor .u8 (x : Int) (y : Int) = ((x ^^^ y : Nat) : Int) := u8_xor_nat x y hx1 hx2
      have HTL := Lib.hid (tab_len k (fun i => co a i ^^^ co b i))
      clear hxx hyy
      go_wp2
      go_region_law (refine step_append_rd rfl (.tmp 16) (.tmp 26) rfl w.heap.size u5 (tab k (fun i => co a i ^^^ co b i)) [x ^^^ y] rfl (mine_ext (mine_ext HM.out ((Ext.refl _).drewN _)) ((Ext.refl _).alloc _)) (some ⟨wr.heap.size, 0, none⟩) 1 1 rfl rfl (rd_one (wr.drewN _) _ (Gf.xor_lt _ _ hx1 hx2)) (by rw [HTL.out]; simp; omega) (by simp; have := HX.out.size; omega) ?_; intro v9 w9 hown9 hg9 hat9)
      all_goals
        have hW0 : Ext wr ((wr.drewN 1).alloc (Obj.cells #[Value.int IntKind.u8 ((x ^^^ y : Nat) : Int)] 5)) := ((Ext.refl _).drewN _).alloc _
        have HO9 := Lib.hid (show Mine w9 w.heap.size v9 (tab (k + 1) (fun i => co a i ^^^ co b i)) from by rw [HTS.out]; exact hown9)
        have HX9 := Lib.hid ((HX.out.trans hW0).more hg9 (fun r e => (HM.out.block r e).1))
        clear hown9 hg9 hat9 hW0
        go_wp2
        go_roundg g
        case measure => omega
        case rel => exact ⟨k + 1, by omega, by go_num, HO9.out, HX9.out⟩
end Go.Proofs.Ytffdmhcbcaemfaa

/-
  The statements' own comparison of bytes tells lists that are unlike from those that are alike. Conditions: no more than 2^20 bytes.
-/
namespace Go.Proofs.Ytffdmhcbcaemfaa
open Go.RowKit
open Pol (co Sm)

set_option maxHeartbeats 400000 in
set_option maxRecDepth 100000 in
theorem same_no (l m : List Nat) (A B : Option Addr) (ca cb : Nat) (w : World) (ha : Rd w A l) (hb : Rd w B m) (hl : l.length ≤ 1048576) (h : l ≠ m) :
    Calls Try.prog 14 #[.slice A l.length ca, .slice B m.length cb] w (Hands (.bool false) w) := by
  by_cases hlm : l.length = m.length
  · rw [← hlm]
    have HNE := Lib.hid (fun (k : ∀ j, j < l.length → co l j = co m j) => h (Lin.list_ext hlm k))
    have HLM := Lib.hid hlm
    generalize hn : l.length = n at *
    have HA := Lib.hid ha
    have HB := Lib.hid hb
    have HN := Lib.hid hn
    clear ha hb hn h hlm
    go_enter Try.func14, Try.ntmps14
    go_wp2
    go_loopg [13] n (fun g s wx => ∃ k q : Nat, k + g = n ∧ s = .int .i64 (k : Int) ∧ wx = w.drewN q ∧ ∀ j, j < k → co l j = co m j)
    case atStart => exact ⟨0, 0, by omega, rfl, rfl, fun j hj => by omega⟩
    case round =>
      obtain ⟨k, q, hkg, rfl, rfl, hsame⟩ := hrel
      have HSA := Lib.hid hsame
      clear hsame
      cases gk with
      | zero =>
        obtain rfl : k = n := by omega
        exact absurd HSA.out HNE.out
      | succ g =>
        have hk : k < n := by omega
        obtain ⟨b, o, rfl, hc⟩ := HA.out.2 k (by rw [HN.out]; exact hk)
        obtain ⟨b', o', rfl, hc'⟩ := HB.out.2 k (by rw [← HLM.out]; exact hk)
        have hkI : (k : Int) < (n : Int) := by omega
        obtain ⟨x, hx⟩ : ∃ x, co l k = x := ⟨_, rfl⟩
        obtain ⟨y, hy⟩ : ∃ y, co m k = y := ⟨_, rfl⟩
        rw [hx] at hc
        rw [hy] at hc'
        by_cases e : x = y
        · have t : ((x : Int) != (y : Int)) = false := by subst e; simp
          have HE := Lib.hid (show co l k = co m k by rw [hx, hy]; exact e)
          clear e hx hy
          go_wp2
          go_quiet (fail)
          go_wp2
          go_roundg g
          case measure => omega
          case rel => exact ⟨k + 1, _, by omega, by go_num, rfl, fun j hj => by
            by_cases e : j = k
            · subst e; exact HE.out
            · exact HSA.out j (by omega)⟩
        · have t : ((x : Int) != (y : Int)) = true := by simp; omega
          clear e hx hy
          go_wp2
          go_quiet (fail)
          go_wp2
          go_ret
          exact ⟨rfl, q + nq, by rw [World.drewN_drewN]⟩
  · have t : ((l.length : Int) != (m.length : Int)) = true := by simp; omega
    generalize l.length = n at *
    generalize m.length = n' at *
    clear ha hb h
    go_enter Try.func14, Try.ntmps14
    go_wp2
    go_ret
    exact ⟨rfl, 0, rfl⟩
end Go.Proofs.Ytffdmhcbcaemfaa

/-
  The law ShamirDeals, walked, under what layer 5's functions are to do. Conditions: none.
-/
namespace Go.Proofs.Ytffdmhcbcaemfaa
open Go.RowKit
open Pol (co Sm ev px py Apart)

open Classical in
/-- The shares, or none; the error's number. -/
noncomputable def dealR (s c : List Nat) (o m : Int) : List (List Nat) := if DealOk s c o m then deal s c (o - 1).toNat m.toNat else []
open Classical in
noncomputable def dealN (s c : List Nat) (o m : Int) : Int := if DealOk s c o m then 0 else 1
theorem deal_any (C : ShamirSaid) (f : Nat) (s c : List Nat) (o m : Int) (A B : Option Addr) (ca cb : Nat) (w : World) (hf : IsField w f) (hs : Rd w A s) (hc : Rd w B c) (hca : s.length ≤ ca) (hcb : c.length ≤ cb) (hl : s.length ≤ 4096) (hlc : c.length ≤ 4096) (ho : In64 o) (hm : In64 m) :
    Calls Try.prog 12 #[.pointer (some ⟨f, 0, none⟩), .slice A s.length ca, .slice B c.length cb, .int .i64 o, .int .i64 m] w (GivesR (dealR s c o m) (dealN s c o m) w) := by
  unfold dealR dealN
  by_cases h : DealOk s c o m
  · rw [if_pos h, if_pos h]
    obtain ⟨d, n, rfl, rfl, h1, h2⟩ := h.d
    rw [show ((d : Int) + 1 - 1).toNat = d from by omega, Int.toNat_natCast]
    exact C.deal f s c d n A B ca cb w hf hs hc hca hcb hl hlc h
  · rw [if_neg h, if_neg h]
    exact C.odd f s c o m A B ca cb w hf hs hc hca hcb hl hlc ho hm h
theorem ref_deal_any (s c : List Nat) (o m : Int) (A B : Option Addr) (ca cb : Nat) (w : World) (hs : Rd w A s) (hc : Rd w B c) (hcb : c.length ≤ cb) :
    Calls Try.prog 13 #[.slice A s.length ca, .slice B c.length cb, .int .i64 o, .int .i64 m] w (GivesR (dealR s c o m) (dealN s c o m) w) := by
  unfold dealR dealN
  by_cases h : DealOk s c o m
  · rw [if_pos h, if_pos h]
    obtain ⟨d, n, rfl, rfl, h1, h2⟩ := h.d
    rw [show ((d : Int) + 1 - 1).toNat = d from by omega, Int.toNat_natCast]
    exact ref_deal s c _ _ d n A B ca cb w hs hc hcb h rfl rfl
  · rw [if_neg h, if_neg h]
    exact ref_deal_odd s c o m A B ca cb w h
theorem dealR_len (s c : List Nat) (o m : Int) : (dealR s c o m).length ≤ 200 := by
  unfold dealR
  split
  · rename_i h
    rw [deal_len]
    have := h.2.2.1
    omega
  · simp
theorem dealR_row (s c : List Nat) (o m : Int) (i : Nat) (hi : i < (dealR s c o m).length) : (ro (dealR s c o m) i).length = s.length := by
  unfold dealR at hi ⊢
  split
  · rename_i h
    rw [if_pos h, deal_len] at hi
    rw [deal_ro _ _ _ _ _ hi, shr_len]
  · rename_i h
    rw [if_neg h] at hi
    simp at hi
theorem dealN_ok {s c : List Nat} {o m : Int} (h : DealOk s c o m) : dealN s c o m = 0 := by unfold dealN; rw [if_pos h]
theorem dealN_no {s c : List Nat} {o m : Int} (h : ¬ DealOk s c o m) : dealN s c o m = 1 := by unfold dealN; rw [if_neg h]

set_option maxHeartbeats 2000000 in
set_option maxRecDepth 100000 in
theorem deals5_big (C : ShamirSaid) (A B X : Option Addr) (na nb nx ca cb cx : Nat) (o m who : Int) (w : World) (h : 60 < na ∨ 300 < nb ∨ 60 < nx) :
    Calls Try.prog 3 #[.slice A na ca, .slice B nb cb, .int .i64 o, .int .i64 m, .agg #[.int .i64 who, .slice X nx cx]] w (Holds w) := by
  have HAW := Lib.hid (fun u => awake5 C u)
  have HBX := Lib.hid (fun u (hu : Ext (w.alloc (.cells #[.int .i64 who, .slice X nx cx] 24)) u) => show u.cell? ⟨w.heap.size, 1, none⟩ = some (.slice X nx cx) from (hu.below.cell (p := ⟨w.heap.size, 1, none⟩) (by simp)).trans (by rw [cell_of_row _ _ _ _ _ _ (heap_alloc_new w _)]; rfl))
  clear C
  by_cases g0 : 60 < na
  · have e0 : decide ((60 : Int) < (na : Int)) = true := by simp; omega
    clear h
    go_enter Try.func3, Try.ntmps3
    go_wp2_with fail
    refine (HAW.out _).mono ?_
    rintro e w1 ⟨rfl, hx1⟩
    have HX1 := Lib.hid (((Ext.refl w).alloc _).trans hx1)
    have k1 := HBX.out w1 hx1
    clear hx1
    go_wp2_with fail
    refine (HAW.out w1).mono ?_
    rintro e w2 ⟨rfl, hx2⟩
    have HX2 := Lib.hid (HX1.out.trans hx2)
    clear hx2
    go_wp2
    go_ret
    exact ⟨rfl, HX2.out⟩
  have e0 : decide ((60 : Int) < (na : Int)) = false := by simp; omega
  by_cases g1 : 300 < nb
  · have e1 : decide ((300 : Int) < (nb : Int)) = true := by simp; omega
    clear h
    go_enter Try.func3, Try.ntmps3
    go_wp2_with fail
    refine (HAW.out _).mono ?_
    rintro e w1 ⟨rfl, hx1⟩
    have HX1 := Lib.hid (((Ext.refl w).alloc _).trans hx1)
    have k1 := HBX.out w1 hx1
    clear hx1
    go_wp2_with fail
    refine (HAW.out w1).mono ?_
    rintro e w2 ⟨rfl, hx2⟩
    have HX2 := Lib.hid (HX1.out.trans hx2)
    clear hx2
    go_wp2
    go_ret
    exact ⟨rfl, HX2.out⟩
  have e1 : decide ((300 : Int) < (nb : Int)) = false := by simp; omega
  by_cases g2 : 60 < nx
  · have e2 : decide ((60 : Int) < (nx : Int)) = true := by simp; omega
    clear h
    go_enter Try.func3, Try.ntmps3
    go_wp2_with fail
    refine (HAW.out _).mono ?_
    rintro e w1 ⟨rfl, hx1⟩
    have HX1 := Lib.hid (((Ext.refl w).alloc _).trans hx1)
    have k1 := HBX.out w1 hx1
    clear hx1
    go_wp2_with fail
    refine (HAW.out w1).mono ?_
    rintro e w2 ⟨rfl, hx2⟩
    have HX2 := Lib.hid (HX1.out.trans hx2)
    clear hx2
    go_wp2
    go_ret
    exact ⟨rfl, HX2.out⟩
  have e2 : decide ((60 : Int) < (nx : Int)) = false := by simp; omega
  exact absurd h (by omega)

set_option maxHeartbeats 4000000 in
set_option maxRecDepth 100000 in
theorem deals5_walk (C : ShamirSaid) (s c : List Nat) (o m who : Int) (x : List Nat) (A B X : Option Addr) (ca cb cx : Nat) (w : World) (hs : Rd w A s) (hc : Rd w B c) (hx : Rd w X x) (hca : s.length ≤ ca) (hcb : c.length ≤ cb) (hcx : x.length ≤ cx) (ho : In64 o) (hm : In64 m) (hwho : In64 who) :
    Calls Try.prog 3 #[.slice A s.length ca, .slice B c.length cb, .int .i64 o, .int .i64 m, .agg #[.int .i64 who, .slice X x.length cx]] w (Holds w) := by
  by_cases hbig : 60 < s.length ∨ 300 < c.length ∨ 60 < x.length
  · exact deals5_big C A B X _ _ _ ca cb cx o m who w hbig
  have HAW := Lib.hid (fun u => awake5 C u)
  have HCE := Lib.hid (fun u (hu : Ext (w.alloc (.cells #[.int .i64 who, .slice X x.length cx] 24)) u) => show u.cell? ⟨w.heap.size, 0, none⟩ = some (.int .i64 who) ∧ u.cell? ⟨w.heap.size, 1, none⟩ = some (.slice X x.length cx) from ⟨(hu.below.cell (p := ⟨w.heap.size, 0, none⟩) (by simp)).trans (by rw [cell_of_row _ _ _ _ _ _ (heap_alloc_new w _)]; rfl), (hu.below.cell (p := ⟨w.heap.size, 1, none⟩) (by simp)).trans (by rw [cell_of_row _ _ _ _ _ _ (heap_alloc_new w _)]; rfl)⟩)
  have HD1 := Lib.hid (fun f u (hf : IsField u f) (hu : Ext w u) => deal_any C f s c o m A B ca cb u hf (hs.ext hu) (hc.ext hu) hca hcb (by omega) (by omega) ho hm)
  have HD2 := Lib.hid (fun m' u (hu : Ext w u) => ref_deal_any s c o m' A B ca cb u (hs.ext hu) (hc.ext hu) hcb)
  have HLI := Lib.hid (fun u (P Q : Option Addr) cp cq (hp : RRd u P (dealR s c o m)) (hq : RRd u Q (dealR s c o m)) => lists_true (dealR s c o m) P Q cp cq u hp hq (by have := dealR_len s c o m; omega) (fun i hi => by rw [dealR_row s c o m i hi]; omega))
  have HC1 := Lib.hid (fun b u (hb : In64 b) => C.coins b o u hb ho)
  have HC2 := Lib.hid (fun b u => ref_coins b o u)
  have HRI := Lib.hid (fun f u (hf : IsField u f) (hu : Ext w u) => C.right f who x s c o X A B cx ca cb u hf (hx.ext hu) (hs.ext hu) (hc.ext hu) hcx hca hcb (by omega) (by omega) (by omega) hwho ho)
  have HX := Lib.hid hx
  have HXL := Lib.hid (show x.length ≤ 60 by omega)
  have hn6 : In64 (s.length : Int) := ⟨by omega, by omega⟩
  have HINS := Lib.hid hn6
  have HINM := Lib.hid hm
  have e0 : decide ((60 : Int) < (s.length : Int)) = false := by simp; omega
  have e1 : decide ((300 : Int) < (c.length : Int)) = false := by simp; omega
  have e2 : decide ((60 : Int) < (x.length : Int)) = false := by simp; omega
  have HSL := Lib.hid (fun d i => shr_len s c d i)
  generalize hns : s.length = ns at *
  generalize c.length = nc at *
  generalize hnx : x.length = nx at *
  have HNX := Lib.hid hnx
  have HNS := Lib.hid hns
  clear hs hc hx hn6 hnx hns C hbig
  go_enter Try.func3, Try.ntmps3
  go_wp2_with fail
  refine (HAW.out _).mono ?_
  rintro e w1 ⟨rfl, hx1⟩
  have HX1 := Lib.hid hx1
  obtain ⟨k10, k11⟩ := HCE.out w1 hx1
  clear hx1
  go_wp2_with fail
  refine (new_any w1).mono ?_
  rintro e w2 ⟨f, rfl, hf, _, hx2⟩
  have HF := Lib.hid hf
  have HX2 := Lib.hid (HX1.out.trans hx2)
  clear hf hx2 k10 k11
  go_wp2_with fail
  refine (HD1.out f w2 HF.out (((Ext.refl w).alloc _).trans HX2.out)).mono ?_
  rintro e w3 ⟨v3, rfl, ⟨R3, c3, rfl, hc3, hr3⟩, hx3⟩
  have HR3 := Lib.hid hr3
  have HX3 := Lib.hid (HX2.out.trans hx3)
  have HF3 := Lib.hid (HF.out.ext hx3)
  clear hr3 hx3
  go_wp2_with fail
  refine (HD2.out m w3 (((Ext.refl w).alloc _).trans HX3.out)).mono ?_
  rintro e w4 ⟨v4, rfl, ⟨R4, c4, rfl, hc4, hr4⟩, hx4⟩
  have HR4 := Lib.hid hr4
  have HR34 := Lib.hid (HR3.out.ext hx4)
  have HX4 := Lib.hid (HX3.out.trans hx4)
  have HF4 := Lib.hid (HF3.out.ext hx4)
  clear hr4 hx4
  go_wp2_with fail
  refine (HD2.out 200 w4 (((Ext.refl w).alloc _).trans HX4.out)).mono ?_
  rintro e w5 ⟨v5, rfl, ⟨R5, c5, rfl, hc5, hr5⟩, hx5⟩
  have HR45 := Lib.hid (HR4.out.ext hx5)
  have HR35 := Lib.hid (HR34.out.ext hx5)
  have HX5 := Lib.hid (HX4.out.trans hx5)
  have HF5 := Lib.hid (HF4.out.ext hx5)
  have HR5 := Lib.hid hr5
  clear hr5 hx5
  obtain ⟨k0, k1⟩ := HCE.out w5 HX5.out
  generalize dealN s c o m = gm at *
  generalize hln : (dealR s c o m).length = ln at *
  by_cases hok : DealOk s c o 200
  · have hN := dealN_ok hok
    by_cases h0 : who < 0
    · have f0 : decide (0 ≤ who) = false := by simp; omega
      rw [hN]
      go_wp2
      go_quiet (fail)
      generalize hW : w5.drewN _ = W
      have hxW : Ext w5 W := hW ▸ (Ext.refl w5).drewN _
      clear hW
      go_wp2_with fail
      refine (HLI.out W R3 R4 c3 c4 (HR35.out.ext hxW) (HR45.out.ext hxW)).mono ?_
      rintro e w6 ⟨rfl, q6, hw6⟩
      have hxW : Ext w5 w6 := hw6 ▸ hxW.drewN q6
      clear hw6
      go_wp2_with fail
      refine (HC1.out (ns : Int) w6 HINS.out).mono ?_
      rintro e w7 ⟨rfl, q7, hw7⟩
      have hxW : Ext w5 w7 := hw7 ▸ hxW.drewN q7
      clear hw7
      go_wp2_with fail
      refine (HC2.out (ns : Int) w7).mono ?_
      rintro e w8 ⟨rfl, q8, hw8⟩
      have hxW : Ext w5 w8 := hw8 ▸ hxW.drewN q8
      clear hw8
      go_wp2_with fail
      refine (HC1.out m w8 HINM.out).mono ?_
      rintro e w9 ⟨rfl, q9, hw9⟩
      have hxW : Ext w5 w9 := hw9 ▸ hxW.drewN q9
      clear hw9
      go_wp2_with fail
      refine (HC2.out m w9).mono ?_
      rintro e w10 ⟨rfl, q10, hw10⟩
      have hxW : Ext w5 w10 := hw10 ▸ hxW.drewN q10
      clear hw10
      obtain ⟨j0, j1⟩ := HCE.out w10 (HX5.out.trans hxW)
      go_wp2_with fail
      refine (HRI.out f w10 (HF5.out.ext hxW) ((((Ext.refl w).alloc _).trans HX5.out).trans hxW)).mono ?_
      rintro e w11 (⟨hp, _⟩ | ⟨_, rfl, hx11⟩)
      · exact absurd hp (fun h => by have := h.1; omega)
      · go_wp2
        go_ret
        exact ⟨rfl, ((((Ext.refl w).alloc _).trans HX5.out).trans hxW).trans hx11⟩
    have f0 : decide (0 ≤ who) = true := by simp; omega
    by_cases h1 : 199 < who
    · have f1 : decide (who < 200) = false := by simp; omega
      rw [hN]
      go_wp2
      go_quiet (fail)
      generalize hW : w5.drewN _ = W
      have hxW : Ext w5 W := hW ▸ (Ext.refl w5).drewN _
      clear hW
      go_wp2_with fail
      refine (HLI.out W R3 R4 c3 c4 (HR35.out.ext hxW) (HR45.out.ext hxW)).mono ?_
      rintro e w6 ⟨rfl, q6, hw6⟩
      have hxW : Ext w5 w6 := hw6 ▸ hxW.drewN q6
      clear hw6
      go_wp2_with fail
      refine (HC1.out (ns : Int) w6 HINS.out).mono ?_
      rintro e w7 ⟨rfl, q7, hw7⟩
      have hxW : Ext w5 w7 := hw7 ▸ hxW.drewN q7
      clear hw7
      go_wp2_with fail
      refine (HC2.out (ns : Int) w7).mono ?_
      rintro e w8 ⟨rfl, q8, hw8⟩
      have hxW : Ext w5 w8 := hw8 ▸ hxW.drewN q8
      clear hw8
      go_wp2_with fail
      refine (HC1.out m w8 HINM.out).mono ?_
      rintro e w9 ⟨rfl, q9, hw9⟩
      have hxW : Ext w5 w9 := hw9 ▸ hxW.drewN q9
      clear hw9
      go_wp2_with fail
      refine (HC2.out m w9).mono ?_
      rintro e w10 ⟨rfl, q10, hw10⟩
      have hxW : Ext w5 w10 := hw10 ▸ hxW.drewN q10
      clear hw10
      obtain ⟨j0, j1⟩ := HCE.out w10 (HX5.out.trans hxW)
      go_wp2_with fail
      refine (HRI.out f w10 (HF5.out.ext hxW) ((((Ext.refl w).alloc _).trans HX5.out).trans hxW)).mono ?_
      rintro e w11 (⟨hp, _⟩ | ⟨_, rfl, hx11⟩)
      · exact absurd hp (fun h => by have := h.2.1; omega)
      · go_wp2
        go_ret
        exact ⟨rfl, ((((Ext.refl w).alloc _).trans HX5.out).trans hxW).trans hx11⟩
    have f1 : decide (who < 200) = true := by simp; omega
    obtain ⟨u, rfl⟩ : ∃ u : Nat, who = (u : Int) := ⟨who.toNat, by omega⟩
    have hu : u < 200 := by omega
    obtain ⟨d, hd⟩ : ∃ d, (o - 1).toNat = d := ⟨_, rfl⟩
    have hdr : dealR s c o 200 = deal s c d 200 := by unfold dealR; rw [if_pos hok, hd]; rfl
    have hl5 : (dealR s c o 200).length = 200 := by rw [hdr, deal_len]
    obtain ⟨b5, o5, B5, d5, e5, h5, h5c, h5r⟩ := HR5.out u (by rw [hl5]; exact hu)
    subst e5
    rw [hdr, deal_ro _ _ _ _ _ hu] at h5 h5r
    rw [HSL.out] at h5
    rw [hN, hl5]
    have HOK2 := Lib.hid hok
    have HDD := Lib.hid hd
    have huI : (u : Int) < 200 := by omega
    have hu1 : (u : Int) ≤ 199 := by omega
    have hl5' : ((200 : Nat) : Int) - 1 = 199 := by omega
    clear hdr hl5 hok hd h0 h1 hN h5c
    by_cases hq : x = shr s c d u
    · have HSA := Lib.hid (fun q => show Calls Try.prog 14 #[.slice X nx cx, .slice B5 ns d5] (w5.drewN q) (Hands (.bool true) (w5.drewN q)) from by
        have h := same_true x X B5 cx d5 (w5.drewN q) ((HX.out.ext (((Ext.refl w).alloc _).trans HX5.out)).drewN q) ((show Rd w5 B5 x from hq ▸ h5r).drewN q) (by rw [HNX.out]; have := HXL.out; omega)
        rw [HNX.out] at h
        rwa [show nx = ns from by rw [← HNX.out, hq, HSL.out]] at h ⊢)
      have HQ := Lib.hid hq
      clear hq h5r
      go_wp2
      go_quiet (first | (go_at_call 14; exact quiet_hands (HSA.out _)))
      generalize hW : w5.drewN _ = W
      have hxW : Ext w5 W := hW ▸ (Ext.refl w5).drewN _
      clear hW
      go_wp2_with fail
      refine (HLI.out W R3 R4 c3 c4 (HR35.out.ext hxW) (HR45.out.ext hxW)).mono ?_
      rintro e w6 ⟨rfl, q6, hw6⟩
      have hxW : Ext w5 w6 := hw6 ▸ hxW.drewN q6
      clear hw6
      go_wp2_with fail
      refine (HC1.out (ns : Int) w6 HINS.out).mono ?_
      rintro e w7 ⟨rfl, q7, hw7⟩
      have hxW : Ext w5 w7 := hw7 ▸ hxW.drewN q7
      clear hw7
      go_wp2_with fail
      refine (HC2.out (ns : Int) w7).mono ?_
      rintro e w8 ⟨rfl, q8, hw8⟩
      have hxW : Ext w5 w8 := hw8 ▸ hxW.drewN q8
      clear hw8
      go_wp2_with fail
      refine (HC1.out m w8 HINM.out).mono ?_
      rintro e w9 ⟨rfl, q9, hw9⟩
      have hxW : Ext w5 w9 := hw9 ▸ hxW.drewN q9
      clear hw9
      go_wp2_with fail
      refine (HC2.out m w9).mono ?_
      rintro e w10 ⟨rfl, q10, hw10⟩
      have hxW : Ext w5 w10 := hw10 ▸ hxW.drewN q10
      clear hw10
      obtain ⟨j0, j1⟩ := HCE.out w10 (HX5.out.trans hxW)
      go_wp2_with fail
      refine (HRI.out f w10 (HF5.out.ext hxW) ((((Ext.refl w).alloc _).trans HX5.out).trans hxW)).mono ?_
      rintro e w11 (⟨_, rfl, hx11⟩ | ⟨hp, _⟩)
      · go_wp2
        go_ret
        exact ⟨rfl, ((((Ext.refl w).alloc _).trans HX5.out).trans hxW).trans hx11⟩
      · exact absurd (show RightP (u : Int) x s c o from ⟨by omega, by omega, HOK2.out, by rw [HDD.out]; exact HQ.out⟩) hp
    · have HSA := Lib.hid (fun q => show Calls Try.prog 14 #[.slice X nx cx, .slice B5 ns d5] (w5.drewN q) (Hands (.bool false) (w5.drewN q)) from by
        have h := same_no x (shr s c d u) X B5 cx d5 (w5.drewN q) ((HX.out.ext (((Ext.refl w).alloc _).trans HX5.out)).drewN q) (h5r.drewN q) (by rw [HNX.out]; have := HXL.out; omega) hq
        rwa [HNX.out, HSL.out] at h)
      have HQ := Lib.hid hq
      clear hq h5r
      go_wp2
      go_quiet (first | (go_at_call 14; exact quiet_hands (HSA.out _)))
      generalize hW : w5.drewN _ = W
      have hxW : Ext w5 W := hW ▸ (Ext.refl w5).drewN _
      clear hW
      go_wp2_with fail
      refine (HLI.out W R3 R4 c3 c4 (HR35.out.ext hxW) (HR45.out.ext hxW)).mono ?_
      rintro e w6 ⟨rfl, q6, hw6⟩
      have hxW : Ext w5 w6 := hw6 ▸ hxW.drewN q6
      clear hw6
      go_wp2_with fail
      refine (HC1.out (ns : Int) w6 HINS.out).mono ?_
      rintro e w7 ⟨rfl, q7, hw7⟩
      have hxW : Ext w5 w7 := hw7 ▸ hxW.drewN q7
      clear hw7
      go_wp2_with fail
      refine (HC2.out (ns : Int) w7).mono ?_
      rintro e w8 ⟨rfl, q8, hw8⟩
      have hxW : Ext w5 w8 := hw8 ▸ hxW.drewN q8
      clear hw8
      go_wp2_with fail
      refine (HC1.out m w8 HINM.out).mono ?_
      rintro e w9 ⟨rfl, q9, hw9⟩
      have hxW : Ext w5 w9 := hw9 ▸ hxW.drewN q9
      clear hw9
      go_wp2_with fail
      refine (HC2.out m w9).mono ?_
      rintro e w10 ⟨rfl, q10, hw10⟩
      have hxW : Ext w5 w10 := hw10 ▸ hxW.drewN q10
      clear hw10
      obtain ⟨j0, j1⟩ := HCE.out w10 (HX5.out.trans hxW)
      go_wp2_with fail
      refine (HRI.out f w10 (HF5.out.ext hxW) ((((Ext.refl w).alloc _).trans HX5.out).trans hxW)).mono ?_
      rintro e w11 (⟨hp, _⟩ | ⟨_, rfl, hx11⟩)
      · exact absurd hp (fun h => HQ.out (by have := h.2.2.2; rw [HDD.out] at this; exact this))
      · go_wp2
        go_ret
        exact ⟨rfl, ((((Ext.refl w).alloc _).trans HX5.out).trans hxW).trans hx11⟩
  · have hN := dealN_no hok
    rw [hN]
    go_wp2
    go_quiet (fail)
    generalize hW : w5.drewN _ = W
    have hxW : Ext w5 W := hW ▸ (Ext.refl w5).drewN _
    clear hW
    go_wp2_with fail
    refine (HLI.out W R3 R4 c3 c4 (HR35.out.ext hxW) (HR45.out.ext hxW)).mono ?_
    rintro e w6 ⟨rfl, q6, hw6⟩
    have hxW : Ext w5 w6 := hw6 ▸ hxW.drewN q6
    clear hw6
    go_wp2_with fail
    refine (HC1.out (ns : Int) w6 HINS.out).mono ?_
    rintro e w7 ⟨rfl, q7, hw7⟩
    have hxW : Ext w5 w7 := hw7 ▸ hxW.drewN q7
    clear hw7
    go_wp2_with fail
    refine (HC2.out (ns : Int) w7).mono ?_
    rintro e w8 ⟨rfl, q8, hw8⟩
    have hxW : Ext w5 w8 := hw8 ▸ hxW.drewN q8
    clear hw8
    go_wp2_with fail
    refine (HC1.out m w8 HINM.out).mono ?_
    rintro e w9 ⟨rfl, q9, hw9⟩
    have hxW : Ext w5 w9 := hw9 ▸ hxW.drewN q9
    clear hw9
    go_wp2_with fail
    refine (HC2.out m w9).mono ?_
    rintro e w10 ⟨rfl, q10, hw10⟩
    have hxW : Ext w5 w10 := hw10 ▸ hxW.drewN q10
    clear hw10
    obtain ⟨j0, j1⟩ := HCE.out w10 (HX5.out.trans hxW)
    go_wp2_with fail
    refine (HRI.out f w10 (HF5.out.ext hxW) ((((Ext.refl w).alloc _).trans HX5.out).trans hxW)).mono ?_
    rintro e w11 (⟨hp, _⟩ | ⟨_, rfl, hx11⟩)
    · exact absurd hp (fun h => hok h.2.2.1)
    · go_wp2
      go_ret
      exact ⟨rfl, ((((Ext.refl w).alloc _).trans HX5.out).trans hxW).trans hx11⟩
end Go.Proofs.Ytffdmhcbcaemfaa

/-
  What decodable of layer 4 does: it tells whether numbers fit together. Conditions: no more than 2^20 points; ints.
-/
namespace Go.Proofs.Ytffdmhcbcaemfaa
open Go.RowKit
open Pol (co Sm px py Apart)

/-- Numbers that fit together. -/
def Nums (n : Nat) (k v : Int) : Prop := 1 ≤ k ∧ 0 ≤ v ∧ k + 2 * v ≤ (n : Int)

set_option maxHeartbeats 400000 in
theorem w_nums_no (n : Nat) (k v : Int) (w : World) (hn : n ≤ 1048576) (hk : In64 k) (hv : In64 v) (h : ¬ Nums n k v) :
    Calls Try.prog 48 #[.int .i64 (n : Int), .int .i64 k, .int .i64 v] w (Hands (.bool false) w) := by
  obtain ⟨k1, k2⟩ := hk
  obtain ⟨v1, v2⟩ := hv
  have h' : ¬ (1 ≤ k ∧ 0 ≤ v ∧ k + 2 * v ≤ (n : Int)) := h
  clear h
  by_cases h1 : k < 1
  · have d1 : decide (k < 1) = true := by simp; omega
    clear h'
    go_enter Try.func48, Try.ntmps48
    go_wp2
    go_ret
    exact ⟨rfl, 0, rfl⟩
  · have d1 : decide (k < 1) = false := by simp; omega
    by_cases h2 : (n : Int) < k
    · have d2 : decide ((n : Int) < k) = true := by simp; omega
      clear h'
      go_enter Try.func48, Try.ntmps48
      go_wp2
      go_ret
      exact ⟨rfl, 0, rfl⟩
    · have d2 : decide ((n : Int) < k) = false := by simp; omega
      by_cases h3 : v < 0
      · have d3 : decide (v < 0) = true := by simp; omega
        clear h'
        go_enter Try.func48, Try.ntmps48
        go_wp2
        go_ret
        exact ⟨rfl, 0, rfl⟩
      · have d3 : decide (v < 0) = false := by simp; omega
        have e1 : Int.tdiv ((n : Int) - k) 2 = ((n : Int) - k) / 2 := Int.tdiv_eq_ediv_of_nonneg (by omega)
        have d4 : decide (v ≤ ((n : Int) - k) / 2) = false := by simp; omega
        clear h'
        go_enter Try.func48, Try.ntmps48
        go_wp2
        go_ret
        exact ⟨rfl, 0, rfl⟩
set_option maxHeartbeats 400000 in
theorem w_nums_yes (n : Nat) (k v : Int) (w : World) (hn : n ≤ 1048576) (h : Nums n k v) :
    Calls Try.prog 48 #[.int .i64 (n : Int), .int .i64 k, .int .i64 v] w (Hands (.bool true) w) := by
  obtain ⟨h1, h2, h3⟩ := h
  have d1 : decide (k < 1) = false := by simp; omega
  have d2 : decide ((n : Int) < k) = false := by simp; omega
  have d3 : decide (v < 0) = false := by simp; omega
  have e1 : Int.tdiv ((n : Int) - k) 2 = ((n : Int) - k) / 2 := Int.tdiv_eq_ediv_of_nonneg (by omega)
  have d4 : decide (v ≤ ((n : Int) - k) / 2) = true := by simp; omega
  go_enter Try.func48, Try.ntmps48
  go_wp2
  go_ret
  exact ⟨rfl, 0, rfl⟩
end Go.Proofs.Ytffdmhcbcaemfaa

/-
  What Coins, participant, position, enough and dealable of layer 5 do: small numbers and tests. Conditions: no more than 2^20 shares; ints.
-/
namespace Go.Proofs.Ytffdmhcbcaemfaa
open Go.RowKit
open Pol (co Sm px py Apart)

set_option maxHeartbeats 800000 in
theorem h_coins (b o : Int) (w : World) : Calls Try.prog 16 #[.int .i64 b, .int .i64 o] w (Hands (.int .i64 (cnum b o)) w) := by
  unfold cnum
  by_cases h1 : b < 1
  · rw [if_pos (.inl h1)]
    have d1 : decide (b < 1) = true := by simp; omega
    go_enter Try.func16, Try.ntmps16
    go_wp2
    go_ret
    exact ⟨rfl, 0, rfl⟩
  have d1 : decide (b < 1) = false := by simp; omega
  by_cases h2 : o < 2
  · rw [if_pos (.inr (.inl h2))]
    have d2 : decide (o < 2) = true := by simp; omega
    go_enter Try.func16, Try.ntmps16
    go_wp2
    go_ret
    exact ⟨rfl, 0, rfl⟩
  have d2 : decide (o < 2) = false := by simp; omega
  by_cases h3 : 4096 < b
  · rw [if_pos (.inr (.inr (.inl h3)))]
    have d3 : decide (4096 < b) = true := by simp; omega
    go_enter Try.func16, Try.ntmps16
    go_wp2
    go_ret
    exact ⟨rfl, 0, rfl⟩
  have d3 : decide (4096 < b) = false := by simp; omega
  by_cases h4 : 4096 < o
  · rw [if_pos (.inr (.inr (.inr h4)))]
    have d4 : decide (4096 < o) = true := by simp; omega
    go_enter Try.func16, Try.ntmps16
    go_wp2
    go_ret
    exact ⟨rfl, 0, rfl⟩
  have d4 : decide (4096 < o) = false := by simp; omega
  rw [if_neg (by omega)]
  have hm : b * (o - 1) ≤ 4096 * 4096 := Int.mul_le_mul (by omega) (by omega) (by omega) (by omega)
  have hm0 : 0 ≤ b * (o - 1) := Int.mul_nonneg (by omega) (by omega)
  obtain ⟨p, hp⟩ : ∃ p, b * (o - 1) = p := ⟨_, rfl⟩
  rw [hp] at hm hm0 ⊢
  have e1 : IntKind.i64.wrap (o - 1) = o - 1 := IntWalk.i64_in _ (by omega)
  have e2 : IntKind.i64.wrap (b * (o - 1)) = p := by rw [hp]; exact IntWalk.i64_in _ (by omega)
  clear hp
  go_enter Try.func16, Try.ntmps16
  go_wp2
  go_ret
  exact ⟨rfl, 0, rfl⟩
set_option maxHeartbeats 400000 in
theorem h_enough_no (n : Nat) (k v : Int) (w : World) (hn : n ≤ 1048576) (hk : In64 k) (hv : In64 v) (h : ¬ Nums n k v) :
    Calls Try.prog 34 #[.int .i64 (n : Int), .int .i64 k, .int .i64 v] w (Hands (.bool false) w) := by
  obtain ⟨k1, k2⟩ := hk
  obtain ⟨v1, v2⟩ := hv
  have h' : ¬ (1 ≤ k ∧ 0 ≤ v ∧ k + 2 * v ≤ (n : Int)) := h
  clear h
  by_cases h1 : k < 1
  · have d1 : decide (k < 1) = true := by simp; omega
    clear h'
    go_enter Try.func34, Try.ntmps34
    go_wp2
    go_ret
    exact ⟨rfl, 0, rfl⟩
  · have d1 : decide (k < 1) = false := by simp; omega
    by_cases h2 : (n : Int) < k
    · have d2 : decide ((n : Int) < k) = true := by simp; omega
      clear h'
      go_enter Try.func34, Try.ntmps34
      go_wp2
      go_ret
      exact ⟨rfl, 0, rfl⟩
    · have d2 : decide ((n : Int) < k) = false := by simp; omega
      by_cases h3 : v < 0
      · have d3 : decide (v < 0) = true := by simp; omega
        clear h'
        go_enter Try.func34, Try.ntmps34
        go_wp2
        go_ret
        exact ⟨rfl, 0, rfl⟩
      · have d3 : decide (v < 0) = false := by simp; omega
        have e1 : Int.tdiv ((n : Int) - k) 2 = ((n : Int) - k) / 2 := Int.tdiv_eq_ediv_of_nonneg (by omega)
        have d4 : decide (v ≤ ((n : Int) - k) / 2) = false := by simp; omega
        clear h'
        go_enter Try.func34, Try.ntmps34
        go_wp2
        go_ret
        exact ⟨rfl, 0, rfl⟩
set_option maxHeartbeats 400000 in
theorem h_enough_yes (n : Nat) (k v : Int) (w : World) (hn : n ≤ 1048576) (h : Nums n k v) :
    Calls Try.prog 34 #[.int .i64 (n : Int), .int .i64 k, .int .i64 v] w (Hands (.bool true) w) := by
  obtain ⟨h1, h2, h3⟩ := h
  have d1 : decide (k < 1) = false := by simp; omega
  have d2 : decide ((n : Int) < k) = false := by simp; omega
  have d3 : decide (v < 0) = false := by simp; omega
  have e1 : Int.tdiv ((n : Int) - k) 2 = ((n : Int) - k) / 2 := Int.tdiv_eq_ediv_of_nonneg (by omega)
  have d4 : decide (v ≤ ((n : Int) - k) / 2) = true := by simp; omega
  go_enter Try.func34, Try.ntmps34
  go_wp2
  go_ret
  exact ⟨rfl, 0, rfl⟩

theorem h_part_yes (p : Int) (w : World) (h1 : 0 ≤ p) (h2 : p ≤ 199) : Calls Try.prog 30 #[.int .i64 p] w (Hands (.bool true) w) := by
  have d1 : decide (0 ≤ p) = true := by simp; omega
  have d2 : decide (p < 200) = true := by simp; omega
  go_enter Try.func30, Try.ntmps30
  go_wp2
  go_ret
  exact ⟨rfl, 0, rfl⟩
theorem h_part_no (p : Int) (w : World) (h : ¬ (0 ≤ p ∧ p ≤ 199)) : Calls Try.prog 30 #[.int .i64 p] w (Hands (.bool false) w) := by
  by_cases h1 : p < 0
  · have d1 : decide (0 ≤ p) = false := by simp; omega
    clear h
    go_enter Try.func30, Try.ntmps30
    go_wp2
    go_ret
    exact ⟨rfl, 0, rfl⟩
  · have d1 : decide (0 ≤ p) = true := by simp; omega
    have d2 : decide (p < 200) = false := by simp; omega
    clear h
    go_enter Try.func30, Try.ntmps30
    go_wp2
    go_ret
    exact ⟨rfl, 0, rfl⟩
theorem h_pos (p : Nat) (w : World) (h : p < 200) : Calls Try.prog 44 #[.int .i64 (p : Int)] w (Hands (.int .u8 ((p + 1 : Nat) : Int)) w) := by
  have e1 : IntKind.u8.wrap ((p : Int) + 1) = (p : Int) + 1 := IntWalk.u8_in _ (by omega)
  go_enter Try.func44, Try.ntmps44
  go_wp2
  go_ret
  exact ⟨ret_int (by omega), 0, rfl⟩
/-- A secret of n bytes and k coins that can be dealt. -/
def DealN (n k : Nat) (o m : Int) : Prop := 1 ≤ o ∧ o ≤ m ∧ m ≤ 200 ∧ n ≤ 4096 ∧ (k : Int) = cnum n o
set_option maxHeartbeats 800000 in
theorem h_dealable_yes (n k : Nat) (o m : Int) (A B : Option Addr) (ca cb : Nat) (w : World) (h : DealN n k o m) :
    Calls Try.prog 26 #[.slice A n ca, .slice B k cb, .int .i64 o, .int .i64 m] w (Hands (.bool true) w) := by
  have HC := Lib.hid (h_coins (n : Int) o)
  obtain ⟨h1, h2, h3, h4, h5⟩ := h
  have d1 : decide (o < 1) = false := by simp; omega
  have d2 : decide (m < o) = false := by simp; omega
  have d3 : decide (200 < m) = false := by simp; omega
  have d4 : decide (4096 < (n : Int)) = false := by simp; omega
  obtain ⟨q, hq⟩ : ∃ q, cnum (n : Int) o = q := ⟨_, rfl⟩
  rw [hq] at HC h5
  have d5 : ((k : Int) == q) = true := by simp; omega
  clear hq h5
  go_enter Try.func26, Try.ntmps26
  go_wp2_with fail
  refine (HC.out w).mono ?_
  rintro e w1 ⟨rfl, q1, rfl⟩
  go_wp2
  go_ret
  exact ⟨rfl, q1, rfl⟩
set_option maxHeartbeats 1600000 in
theorem h_dealable_no (n k : Nat) (o m : Int) (A B : Option Addr) (ca cb : Nat) (w : World) (h : ¬ DealN n k o m) :
    Calls Try.prog 26 #[.slice A n ca, .slice B k cb, .int .i64 o, .int .i64 m] w (Hands (.bool false) w) := by
  have HC := Lib.hid (h_coins (n : Int) o)
  unfold DealN at h
  by_cases h1 : o < 1
  · have d1 : decide (o < 1) = true := by simp; omega
    clear h
    go_enter Try.func26, Try.ntmps26
    go_wp2
    go_ret
    exact ⟨rfl, 0, rfl⟩
  have d1 : decide (o < 1) = false := by simp; omega
  by_cases h2 : m < o
  · have d2 : decide (m < o) = true := by simp; omega
    clear h
    go_enter Try.func26, Try.ntmps26
    go_wp2
    go_ret
    exact ⟨rfl, 0, rfl⟩
  have d2 : decide (m < o) = false := by simp; omega
  by_cases h3 : 200 < m
  · have d3 : decide (200 < m) = true := by simp; omega
    clear h
    go_enter Try.func26, Try.ntmps26
    go_wp2
    go_ret
    exact ⟨rfl, 0, rfl⟩
  have d3 : decide (200 < m) = false := by simp; omega
  by_cases h4 : 4096 < n
  · have d4 : decide (4096 < (n : Int)) = true := by simp; omega
    clear h
    go_enter Try.func26, Try.ntmps26
    go_wp2
    go_ret
    exact ⟨rfl, 0, rfl⟩
  have d4 : decide (4096 < (n : Int)) = false := by simp; omega
  obtain ⟨q, hq⟩ : ∃ q, cnum (n : Int) o = q := ⟨_, rfl⟩
  rw [hq] at HC h
  have d5 : ((k : Int) == q) = false := beq_eq_false_iff_ne.2 (fun e => h ⟨by omega, by omega, by omega, by omega, e⟩)
  clear hq h
  go_enter Try.func26, Try.ntmps26
  go_wp2_with fail
  refine (HC.out w).mono ?_
  rintro e w1 ⟨rfl, q1, rfl⟩
  go_wp2
  go_ret
  exact ⟨rfl, q1, rfl⟩
end Go.Proofs.Ytffdmhcbcaemfaa

/-
  What append does with slices of points of a call's own, in terms of the lists that they read as. Conditions: the lengths add up to no more than 2^40.
-/
namespace Go.Proofs.Ytffdmhcbcaemfaa
open Go.RowKit
open Pol (px py)

theorem pt_info : (Try.prog.info? 77).map (fun i => (i.zero, i.size, i.bytes)) = some (some (.agg #[.int .u8 0, .int .u8 0]), 2, 2) := by kernel_rfl
theorem pv_len (l : List (Nat × Nat)) : (pv l).length = l.length * 2 := by
  induction l with
  | nil => rfl
  | cons p l ih =>
    have e : pv (p :: l) = Value.int .u8 ((p.1 : Nat) : Int) :: Value.int .u8 ((p.2 : Nat) : Int) :: pv l := rfl
    rw [e]
    simp only [List.length_cons, ih]
    omega
theorem pv_append (l m : List (Nat × Nat)) : pv (l ++ m) = pv l ++ pv m := by simp [pv]
theorem pv_one (l : List (Nat × Nat)) : ∀ u ∈ pv l, u.oneCell' = true := by
  intro u hu
  obtain ⟨p, _, hp⟩ := List.mem_flatMap.1 hu
  simp at hp
  rcases hp with rfl | rfl <;> rfl
/-- A slice of the call's own, of the points l. -/
def PMine (w : World) (base : Nat) (v : Value) (l : List (Nat × Nat)) : Prop := w.ownsRow base 77 2 v l.length (pv l)
theorem PMine.nil (w : World) (base : Nat) : PMine w base (.slice none 0 0) [] := World.ownsRow_nil w base _ _
theorem PMine.slice {w : World} {base : Nat} {v : Value} {l : List (Nat × Nat)} (h : PMine w base v l) (hs : Pol.PSm l) : ∃ B c, v = .slice B l.length c ∧ l.length ≤ c ∧ PRd w B l := by
  rcases h.2 with ⟨rfl, hn⟩ | ⟨g, cap, cur, rfl, _, hg, hnc, _, _, htake⟩
  · have : l = [] := List.eq_nil_of_length_eq_zero hn
    subst this
    exact ⟨none, 0, rfl, Nat.le_refl _, PRd.nil _ _⟩
  · have hat : ∀ j, j < l.length * 2 → w.cell? ⟨g, 0 + j, none⟩ = (pv l)[j]? := fun j hj => by
      rw [Nat.zero_add, cell_of_row w g j cur _ _ hg, ← htake, List.getElem?_take, if_pos hj]
      simp
    refine ⟨_, cap, rfl, hnc, hs, fun i hi => ⟨g, 0, rfl, ?_, ?_⟩⟩
    · rw [hat _ (by omega), (pv_at l i hi).1]
    · rw [Nat.add_assoc, hat _ (by omega), (pv_at l i hi).2]
theorem PMine.kept {w w' : World} {base : Nat} {v : Value} {l : List (Nat × Nat)} (h : PMine w base v l) (hx : Ext w w') : PMine w' base v l :=
  World.ownsRow.kept h (row := none) ⟨hx.below.os, hx.below.tape, hx.below.output, hx.below.size, fun k hk _ => hx.below.block k hk⟩ (by
    cases hb : v.ownBlock with
    | none => exact .inl rfl
    | some k => exact .inr (by simp))

set_option maxRecDepth 100000 in
theorem run_append_prd (w : World) (base : Nat) (ty : TypeId) (v : Value) (l m : List (Nat × Nat)) (hown : PMine w base v l) (A : Option Addr) (c : Nat) (hr : PRd w A m)
    (hlen : l.length + m.length ≤ 1099511627776) (hbase : base ≤ w.heap.size) :
    ∃ v' w', (Builtin.append_ #[45, 45] ty #[v, .slice A m.length c]).run Try.prog w = .ok v' w' ∧ PMine w' base v' (l ++ m) ∧ w.grownBy w' v.ownBlock ∧ (v'.ownBlock = v.ownBlock ∨ v'.ownBlock = some w.heap.size) := by
  obtain ⟨i0, hi, hz0, hz1, hz2⟩ := info_parts pt_info
  cases A with
  | none =>
    have hm : m = [] := by
      rcases Nat.eq_zero_or_pos m.length with h | h
      · exact List.eq_nil_of_length_eq_zero h
      · obtain ⟨_, _, e, _⟩ := hr.2 0 h; cases e
    subst hm
    refine ⟨v, w, ?_, by simpa using hown, ⟨rfl, rfl, rfl, Nat.le_refl _, fun _ _ _ => rfl⟩, .inl rfl⟩
    rcases hown.2 with ⟨rfl, _⟩ | ⟨g, cap, cur, rfl, _, _, hnc, _⟩
    · simp [Builtin.append_, run_underlying Try.underlying45, sizeOf, typeInfo, hi, Builtin.lenOf, Builtin.firstCells]
    · simp [Builtin.append_, run_underlying Try.underlying45, sizeOf, typeInfo, hi, Builtin.lenOf, Builtin.firstCells, hnc, storeCells]
  | some a =>
    have hcells : ∀ j u, (pv m)[j]? = some u → w.cell? (a.add j) = some u := by
      intro j u hu
      have hj : j < m.length * 2 := by
        have := (List.getElem?_eq_some_iff.1 hu).1
        rwa [pv_len] at this
      obtain ⟨b, o, e, h1, h2⟩ := hr.2 (j / 2) (by omega)
      injection e with e
      subst e
      have hp := pv_at m (j / 2) (by omega)
      rw [addr_add]
      rcases Nat.mod_two_eq_zero_or_one j with hj2 | hj2
      · have ej : j / 2 * 2 = j := by omega
        rw [ej] at h1 hp
        rw [h1, ← hp.1, hu]
      · have ej : j / 2 * 2 + 1 = j := by omega
        rw [Nat.add_assoc, ej] at h2
        rw [ej] at hp
        rw [h2, ← hp.2, hu]
    obtain ⟨v', w', h1, h2, h3, _, h5⟩ := run_append_own_at (P := Try.prog) w base 45 ty 77 i0 (.agg #[.int .u8 0, .int .u8 0]) 2 2 Try.underlying45 hi hz0 hz1 hz2 rfl (by omega) v l.length (pv l) hown a m.length c (pv m) (pv_len m) hcells (pv_one m)
      (by unfold maxLen; omega) (by omega) hbase
    exact ⟨v', w', h1, by unfold PMine; rw [List.length_append, pv_append]; exact h2, h3, h5⟩

/-- At the operation, for the walk. -/
theorem wpList_append_prd {ops : Array Oper} {rest : List Oper} {o : Oper} {a : Act} {w : World} {Q : Exit → Act → World → Prop} (hgd : o.guard = none) (s x : Operand)
    (ho : o.op = .call { callee := .builtin .append, args := #[s, x], argTypes := #[45, 45] })
    (base : Nat) (v : Value) (l m : List (Nat × Nat)) (hs : a.eval s = v) (hown : PMine w base v l) (A : Option Addr) (n c : Nat) (hx : a.eval x = .slice A n c) (hn : m.length = n) (hr : PRd w A m)
    (hlen : l.length + m.length ≤ 1099511627776) (hbase : base ≤ w.heap.size)
    (h : ∀ v' w', PMine w' base v' (l ++ m) → w.grownBy w' v.ownBlock → (v'.ownBlock = v.ownBlock ∨ v'.ownBlock = some w.heap.size) → wpList Try.prog ops Q rest (a.put o.dst v') w') :
    wpList Try.prog ops Q (o :: rest) a w := by
  subst hn
  refine wpList_plain hgd fun K hK => ?_
  obtain ⟨v', w', hrun, h2, h3, h4⟩ := run_append_prd w base o.type v l m hown A c hr hlen hbase
  unfold Oper.wp execOp
  simp only [ho, resolve, invoke, builtin, Sem.run_bind, Sem.run_pure, Result.andThen_ok, List.map_toArray, List.map_cons, List.map_nil, hs, hx, hrun]
  exact hK _ _ (h v' w' h2 h3 h4)
/-- In a region that draws its order. -/
theorem step_append_prd {ops : Array Oper} {o : Oper} {a : Act} {w : World} {K : Act → World → Prop} {Q : Exit → Act → World → Prop} {E : Prop} (hgd : o.guard = none) (s x : Operand)
    (ho : o.op = .call { callee := .builtin .append, args := #[s, x], argTypes := #[45, 45] })
    (base : Nat) (v : Value) (l m : List (Nat × Nat)) (hs : a.eval s = v) (hown : PMine w base v l) (A : Option Addr) (n c : Nat) (hx : a.eval x = .slice A n c) (hn : m.length = n) (hr : PRd w A m)
    (hlen : l.length + m.length ≤ 1099511627776) (hbase : base ≤ w.heap.size)
    (h : ∀ v' w', PMine w' base v' (l ++ m) → w.grownBy w' v.ownBlock → (v'.ownBlock = v.ownBlock ∨ v'.ownBlock = some w.heap.size) → K (a.put o.dst v') w') :
    if Region.wanted o (yielded ops a.tmps) = true then Oper.wp Try.prog o a w K Q else E := by
  subst hn
  rw [if_pos (by simp [Region.wanted, hgd])]
  obtain ⟨v', w', hrun, h2, h3, h4⟩ := run_append_prd w base o.type v l m hown A c hr hlen hbase
  unfold Oper.wp execOp
  simp only [ho, resolve, invoke, builtin, Sem.run_bind, Sem.run_pure, Result.andThen_ok, List.map_toArray, List.map_cons, List.map_nil, hs, hx, hrun]
  exact h v' w' h2 h3 h4
/-- What an append wrote is the call's own. -/
theorem PMine.block {w : World} {base : Nat} {v : Value} {l : List (Nat × Nat)} (h : PMine w base v l) : ∀ k, v.ownBlock = some k → base ≤ k := fun k hk => (World.ownsRow.lt h k hk).1
/-- Two slices do not share a block. -/
def Sep (v1 v2 : Value) : Prop := ∀ k, v1.ownBlock = some k → v2.ownBlock ≠ some k
theorem Sep.symm {v1 v2 : Value} (h : Sep v1 v2) : Sep v2 v1 := fun k h2 h1 => h k h1 h2
theorem Sep.nil (v : Value) : Sep (.slice none 0 0) v := fun k h => by simp [Value.ownBlock] at h
theorem PMine.other {w w' : World} {base : Nat} {v1 v2 : Value} {l : List (Nat × Nat)} (h : PMine w base v2 l) (hg : w.grownBy w' v1.ownBlock) (hs : Sep v1 v2) : PMine w' base v2 l :=
  World.ownsRow.kept h hg (by
    cases hb : v2.ownBlock with
    | none => exact .inl rfl
    | some k => exact .inr (fun e => hs k e.symm hb))
theorem Sep.step {w : World} {base : Nat} {v1 v1' v2 : Value} {l : List (Nat × Nat)} (hs : Sep v1 v2) (hat : v1'.ownBlock = v1.ownBlock ∨ v1'.ownBlock = some w.heap.size) (h : PMine w base v2 l) : Sep v1' v2 := fun k h1 h2 => by
  rcases hat with e | e
  · exact hs k (e ▸ h1) h2
  · have := (World.ownsRow.lt h k h2).2
    rw [e] at h1
    injection h1 with h1
    omega
end Go.Proofs.Ytffdmhcbcaemfaa

/-
  A region that draws its order, whose first operations leave every world of a class in that class and yield the same values in all of them, and whose last operations follow in a forced order: one walk of the text's order serves every order. Conditions: none; of no program in particular.
-/
namespace Go.Proofs.Ytffdmhcbcaemfaa
open Go

section
variable {P : Program} {ops : Array Oper} {md : Region.Mode} {C : World → Prop}

/-- f operations below n come up in whatever order, each quiet in the class; then L. -/
def ahead (P : Program) (md : Region.Mode) (ops : Array Oper) (C : World → Prop) (n : Nat) (L : Array Bool → Act → Prop) : Nat → Array Bool → Act → Prop
  | 0, listed, a => L listed a
  | f + 1, listed, a => Region.ready md ops listed ≠ [] ∧ ∀ i, i ∈ Region.ready md ops listed → i < n ∧ qOp P ops C i (ahead P md ops C n L f (listed.setIfInBounds i true)) a

theorem wpAny_of_ahead {n g : Nat} {L : Array Bool → Act → Prop} {Q' : Exit → Act → World → Prop} (hL : ∀ listed a w, C w → L listed a → wpAny P md ops Q' g listed a w) (f : Nat) :
    ∀ (listed : Array Bool) (a : Act) (w : World), C w → ahead P md ops C n L f listed a → wpAny P md ops Q' (f + g) listed a w := by
  induction f with
  | zero => intro listed a w hw h; rw [Nat.zero_add]; exact hL _ _ _ hw h
  | succ f ih =>
    intro listed a w hw h
    rw [Nat.succ_add]
    exact ⟨fun h0 => absurd h0 h.1, fun i hi => wpOp_of_qOp hw (fun a' w' hw' h' => ih _ a' w' hw' h') (h.2 i hi).2⟩

/-- What may come up now may be taken first. -/
theorem ahead_first {n i : Nat} {oi : Oper} {v : Value} {L : Array Bool → Act → Prop} (hi : ops[i]? = some oi) (hsel : ∀ (j : Nat) (o : Oper) cs b, ops[j]? = some o → o.op ≠ .select cs b)
    (hs : Region.sinkB md ops n = true) (hc : Region.chainB md ops n = true) (hn : n < ops.size) (hin : i < n)
    (hdone : ∀ listed a, L listed a → ∀ j ∈ Region.ready md ops listed, n ≤ j) (f : Nat) :
    ∀ (listed : Array Bool) (a : Act), HeadInv md ops n listed →
      (∀ j oj, ops[j]? = some oj → j ≠ i → listed.getD j true = false → (∀ e ∈ oj.after, Region.binds md e = true → e.on ≠ i) → oi.apart ops oj = true) →
      i ∈ Region.ready md ops listed → YieldsIn P ops C oi v a →
      ahead P md ops C n L f (listed.setIfInBounds i true) (a.put oi.dst v) → ahead P md ops C n L (f + 1) listed a := by
  induction f with
  | zero =>
    intro listed a inv _ hr hy H
    refine ⟨List.ne_nil_of_mem hr, fun j hj => ?_⟩
    have hjn : j < n := Nat.lt_of_not_le fun h => tail_waits hs hc hn inv _ i rfl hin (mem_ready.1 hr).1 j h hj
    by_cases hji : j = i
    · subst hji; exact ⟨hjn, hy.qOp hi H⟩
    · exact absurd (hdone _ _ H j (ready_mono hj hji)) (by omega)
  | succ f ih =>
    intro listed a inv hfree hr hy H
    have hun := (mem_ready.1 hr).1
    refine ⟨List.ne_nil_of_mem hr, fun j hj => ?_⟩
    have hjn : j < n := Nat.lt_of_not_le fun h => tail_waits hs hc hn inv _ i rfl hin hun j h hj
    by_cases hji : j = i
    · subst hji; exact ⟨hjn, hy.qOp hi H⟩
    obtain ⟨hjun, oj, hoj, hall⟩ := mem_ready.1 hj
    have hap := hfree j oj hoj hji hjun fun e he hb heq => by
      have h1 := hall e he hb
      rw [heq, getD_both hun] at h1
      cases h1
    refine ⟨hjn, qOp_mono (fun a' h3 => ih (listed.setIfInBounds j true) a' (inv.set hj hjn) ?_ (ready_mono hr (Ne.symm hji)) h3.1 ?_)
      (qOp_put hoj hap (fun cs b => hsel i oi cs b hi) (fun cs b => hsel j oj cs b hoj) hy (H.2 j (ready_mono hj hji)).2)⟩
    · intro k ok hk hki hu hno
      refine hfree k ok hk hki ?_ hno
      by_cases hjk : j = k
      · subst hjk; exact hjun
      · rwa [getD_set_ne true hjk] at hu
    · rw [Array.setIfInBounds_comm _ _ hji]; exact h3.2

theorem ahead_lex {n g : Nat} {Lq : Act → Prop} (hsel : Region.noSelect ops = true) (hs : Region.sinkB md ops n = true) (hc : Region.chainB md ops n = true) (hn : n < ops.size) (l : List Oper) :
    ∀ (k : Nat) (listed : Array Bool) (a : Act), (∀ j, j < l.length → l[j]? = ops[k + j]?) → k + l.length = n → HeadInv md ops n listed →
    Region.lexHead md ops g l.length k listed = true → wpQuiet P ops C Lq l a →
    ahead P md ops C n (fun listed' a' => Region.seqB md ops g n listed' = true ∧ Lq a') l.length listed a := by
  induction l with
  | nil =>
    intro k listed a _ hk _ hB h
    obtain rfl : k = n := by simpa using hk
    exact ⟨by simpa [Region.lexHead] using hB, h⟩
  | cons o l ih =>
    intro k listed a hl hk inv hB h
    have h0 : ops[k]? = some o := by simpa using (hl 0 (by simp)).symm
    simp only [List.length_cons, Region.lexHead, Bool.and_eq_true] at hB hk
    have hr : k ∈ Region.ready md ops listed := by simpa using hB.1.1
    obtain ⟨v, hy, hK⟩ := yieldsIn_of_qOp (C := C) (K := wpQuiet P ops C Lq l) h0 (by unfold qOp; simp only [h0]; exact h)
    refine ahead_first h0 (Region.noSelect_spec hsel) hs hc hn (by omega) (fun _ _ hL => seqB_ready hL.1) l.length listed a inv (Region.free_spec h0 hB.1.2) hr hy ?_
    exact ih (k + 1) _ _ (fun j hj => by have := hl (j + 1) (by simp; omega); simpa [Nat.add_assoc, Nat.add_comm 1 j] using this) (by omega) (inv.set hr (by omega)) hB.2 hK

theorem any_quiet_tail {Q : Exit → Act → World → Prop} {a : Act} {w : World} {l : List Oper} (n : Nat) (C : World → Prop) (hB : Region.lexTailB .any l.toArray n = true) (hC : C w.drew)
    (h : wpQuiet P l.toArray C (fun a' => ∀ w', C w' → wpList P l.toArray Q (l.drop n) a' w') (l.take n) a) : wpAny P .any l.toArray Q l.toArray.size (Array.replicate l.toArray.size false) a w.drew := by
  simp only [Region.lexTailB, Bool.and_eq_true, decide_eq_true_eq] at hB
  obtain ⟨⟨⟨⟨hsel, hn⟩, hs⟩, hc⟩, hlex⟩ := hB
  have hn' : n < l.length := by simpa using hn
  have htl : (l.take n).length = n := by rw [List.length_take]; omega
  have hdl : (l.drop n).length = l.toArray.size - n := by simp
  have inv0 : HeadInv .any l.toArray n (Array.replicate l.toArray.size false) :=
    ⟨by simp, fun j oj _ hl => (by rw [getD_replicate_false] at hl; cases hl), fun t _ ht => getD_in (by simpa using ht) (getD_replicate_false _ _)⟩
  have H := ahead_lex (md := .any) (g := l.toArray.size - n) (C := C) hsel hs hc hn (l.take n) 0 _ a (fun j hj => by
    have hj' : j < n := by rwa [htl] at hj
    simp [hj']) (by rw [htl]; exact Nat.zero_add n) inv0 (by rw [htl]; exact hlex) h
  have key := wpAny_of_ahead (C := C) (Q' := Q) (g := l.toArray.size - n) (fun listed a' w' hw' hL => by
    have := wpAny_of_seq (md := .any) (Q' := Q) (l.drop n) n listed a' w' (fun j => by simp [List.getElem?_drop]) (by rw [hdl]; exact hL.1) (hL.2 w' hw')
    rwa [hdl] at this) _ _ _ _ hC H
  rw [htl, show n + (l.toArray.size - n) = l.toArray.size by omega] at key
  exact key
theorem wp_region_quiet_tail {id : Nat} {Q : Exit → Act → World → Prop} {a : Act} {w : World} {l : List Oper} (n : Nat) (C : World → Prop) (hm : P.follows .mixedOrders = true) (hB : Region.lexTailB .any l.toArray n = true) (hC : C w.drew)
    (h : wpQuiet P l.toArray C (fun a' => ∀ w', C w' → wpList P l.toArray Q (l.drop n) a' w') (l.take n) a) : (Code.region id l.toArray true).wp P Q a w :=
  wp_region_any hm (any_quiet_tail n C hB hC h)
end
end Go.Proofs.Ytffdmhcbcaemfaa

/-
  What different, allOf and pointsOf of layer 5 do: whether shares are of participants, each of another one; whether all have one length; the points of a byte. Conditions: no more than 2^20 shares.
-/
namespace Go.Proofs.Ytffdmhcbcaemfaa
open Go.RowKit
open Pol (co Sm ev px py Apart)

/-- Whether a number was among the first i. -/
def sw (l : List (Int × List Nat)) : Nat → Nat → Bool
  | 0, _ => false
  | i + 1, x => wh l i == (x : Int) || sw l i x
theorem sw_yes {l : List (Int × List Nat)} {x : Nat} : ∀ {i}, sw l i x = true → ∃ j, j < i ∧ wh l j = (x : Int)
  | 0, h => by cases h
  | i + 1, h => by
    rw [sw, Bool.or_eq_true] at h
    rcases h with h | h
    · exact ⟨i, by omega, beq_iff_eq.1 h⟩
    · obtain ⟨j, hj, e⟩ := sw_yes h
      exact ⟨j, by omega, e⟩
theorem sw_no {l : List (Int × List Nat)} {x : Nat} : ∀ {i}, sw l i x = false → ∀ j, j < i → wh l j ≠ (x : Int)
  | 0, _, j, hj => by omega
  | i + 1, h, j, hj => by
    rw [sw, Bool.or_eq_false_iff] at h
    by_cases e : j = i
    · subst e; exact fun e' => by rw [e'] at h; simp at h
    · exact sw_no h.2 j (by omega)
/-- Marks as cells. -/
def tb (S : Nat → Bool) : Array Value := Array.ofFn (n := 200) fun i => Value.bool (S i.val)
theorem tb_at (S : Nat → Bool) (i : Nat) (h : i < 200) : (tb S)[i]? = some (.bool (S i)) := by simp [tb, h]
theorem tb_set (S S' : Nat → Bool) (k : Nat) (v : Bool) (h : ∀ i, S' i = if i = k then v else S i) : (tb S).setIfInBounds k (.bool v) = tb S' := by
  apply Array.ext (by simp [tb])
  intro i h1 h2
  have hi : i < (tb S).size := by simpa using h1
  rw [Array.getElem_setIfInBounds hi]
  simp only [tb, Array.getElem_ofFn, h i]
  by_cases e : k = i
  · subst e; simp
  · rw [if_neg e, if_neg (fun h => e h.symm)]
theorem zero_marks : (∀ w, (zeroValue 85).run Try.prog w = .ok (.agg (tb fun _ => false)) w) ∧ (Try.prog.info? 85).map (·.size) = some 200 := by
  have e : tb (fun _ => false) = Array.replicate 200 (.bool false) := by
    apply Array.ext (by simp [tb])
    intro i h1 h2
    simp [tb]
  rw [e]
  exact zero_of_info (by kernel_rfl)
def TBlk (w : World) (g : Nat) (S : Nat → Bool) : Prop := w.heap[g]? = some (.cells (tb S) 85 (0, 0))
theorem TBlk.cell {w : World} {g : Nat} {S : Nat → Bool} (h : TBlk w g S) (i : Nat) (hi : i < 200) : w.cell? ⟨g, i, none⟩ = some (.bool (S i)) := by rw [cell_of_row w g i _ _ _ h, tb_at S i hi]
theorem TBlk.frozen {w : World} {g : Nat} {S : Nat → Bool} (h : TBlk w g S) (i : Nat) : w.frozen? ⟨g, i, none⟩ = false := frozen_of_row w g i _ _ h
theorem TBlk.store {w : World} {g : Nat} {S S' : Nat → Bool} (h : TBlk w g S) (k : Nat) (v : Bool) (hs : ∀ i, S' i = if i = k then v else S i) : TBlk (w.setCell ⟨g, k, none⟩ (.bool v)) g S' := by
  unfold TBlk
  rw [heap_setCell_same w g k _ _ _ h, tb_set S S' k v hs]
theorem TBlk.lt {w : World} {g : Nat} {S : Nat → Bool} (h : TBlk w g S) : g < w.heap.size := by
  rcases Nat.lt_or_ge g w.heap.size with hlt | hge
  · exact hlt
  · unfold TBlk at h; rw [Array.getElem?_eq_none hge] at h; cases h
theorem TBlk.ext {w w' : World} {g : Nat} {S : Nat → Bool} (h : TBlk w g S) (hx : Ext w w') : TBlk w' g S := (hx.below.block g h.lt).trans h
/-- The first n shares are of participants, each of another one. -/
def Diff (l : List (Int × List Nat)) (n : Nat) : Prop := ∀ i, i < n → 0 ≤ wh l i ∧ wh l i ≤ 199 ∧ ∀ k, k < i → wh l k ≠ wh l i
def DiffE (l : List (Int × List Nat)) (w : World) (e : Ending) (w' : World) : Prop := (Diff l l.length ∧ Tells (.bool true) w e w') ∨ (¬ Diff l l.length ∧ Tells (.bool false) w e w')

set_option maxHeartbeats 1600000 in
set_option maxRecDepth 100000 in
theorem h_different (l : List (Int × List Nat)) (A : Option Addr) (ca : Nat) (w : World) (ha : SRd w A l) (hl : l.length ≤ 1048576) :
    Calls Try.prog 32 #[.slice A l.length ca] w (DiffE l w) := by
  unfold DiffE
  generalize hnn : l.length = n at *
  have HA := Lib.hid ha
  have HN := Lib.hid hnn
  have hz := zero_marks.1
  clear ha hnn
  go_enter Try.func32, Try.ntmps32
  go_wp2
  clear hz
  go_loopg [8] n (fun g s wx => ∃ k : Nat, k + g = n ∧ s = .int .i64 (k : Int) ∧ TBlk wx w.heap.size (sw l k) ∧ Ext w wx ∧ Diff l k)
  case atStart => exact ⟨0, by omega, rfl, heap_alloc_new w _, (Ext.refl _).alloc _, fun i hi => by omega⟩
  case round =>
    obtain ⟨k, hkg, rfl, hblk, hx, hap⟩ := hrel
    have HK := Lib.hid hblk
    have HX := Lib.hid hx
    have HP := Lib.hid hap
    clear hblk hx hap
    cases gk with
    | zero =>
      obtain rfl : k = n := by omega
      clear hkg
      go_wp2
      go_ret
      exact .inl ⟨HP.out, rfl, HX.out⟩
    | succ g =>
      have hk : k < n := by omega
      have hkI : (k : Int) < (n : Int) := by omega
      obtain ⟨b1, o1, B1, c1, e1, hc1, hc2, _, _⟩ := (HA.out.ext HX.out) k (by rw [HN.out]; exact hk)
      subst e1
      generalize (dt l k).length = nd at hc2
      by_cases hin : 0 ≤ wh l k ∧ wh l k ≤ 199
      · obtain ⟨x, hxx⟩ : ∃ x : Nat, wh l k = (x : Int) := ⟨(wh l k).toNat, by omega⟩
        have hpx : x < 200 := by omega
        rw [hxx] at hc1
        have hxI : (x : Int) < 200 := by omega
        have HXX := Lib.hid hxx
        have HPA := Lib.hid (fun W => h_part_yes (x : Int) W (by omega) (by omega))
        clear hin hxx
        go_wp2_with fail
        refine (HPA.out _).mono ?_
        rintro e w2 ⟨rfl, q, rfl⟩
        have hG := HK.out.lt
        have z0 := HK.out.ext (((Ext.refl wr).alloc (.cells #[.int .i64 (x : Int), .slice B1 nd c1] 24)).drewN q)
        have z1 := z0.cell x hpx
        have z2 := z0.frozen x
        clear z0
        cases hb : sw l k x with
        | true =>
          rw [hb] at z1
          obtain ⟨j, hj, ej⟩ := sw_yes hb
          have HNO := Lib.hid (show ¬ Diff l n from fun h => (h k hk).2.2 j hj (by rw [HXX.out, ej]))
          clear hb hj ej
          go_wp2
          go_ret
          exact .inr ⟨HNO.out, rfl, (HX.out.alloc _).drewN q⟩
        | false =>
          rw [hb] at z1
          have HNO := Lib.hid (sw_no hb)
          have HS := Lib.hid ((HK.out.ext (((Ext.refl wr).alloc (.cells #[.int .i64 (x : Int), .slice B1 nd c1] 24)).drewN q)).store (S' := sw l (k + 1)) x true (fun i => by
            rw [sw, HXX.out]
            by_cases e : i = x
            · subst e; simp
            · rw [if_neg e]
              have : ((x : Int) == (i : Int)) = false := beq_eq_false_iff_ne.2 (by omega)
              rw [this, Bool.false_or]))
          have HE := Lib.hid (((HX.out.alloc (.cells #[.int .i64 (x : Int), .slice B1 nd c1] 24)).drewN q).setCell (p := ⟨w.heap.size, x, none⟩) (Nat.le_refl _) (.bool true))
          clear hb
          go_wp2
          go_roundg g
          case measure => omega
          case rel => exact ⟨k + 1, by omega, by go_num, HS.out, HE.out, fun i h1 => by
            by_cases e : i = k
            · subst e; rw [HXX.out]; exact ⟨by omega, by omega, fun j hj => HNO.out j hj⟩
            · exact HP.out i (by omega)⟩
      · have HNO := Lib.hid (show ¬ Diff l n from fun h => hin ⟨(h k hk).1, (h k hk).2.1⟩)
        have HPA := Lib.hid (fun W => h_part_no (wh l k) W hin)
        clear hin
        generalize wh l k = p at hc1 HPA
        go_wp2_with fail
        refine (HPA.out _).mono ?_
        rintro e w2 ⟨rfl, q, rfl⟩
        go_wp2
        go_ret
        exact .inr ⟨HNO.out, rfl, (HX.out.alloc _).drewN q⟩

/-- All have b bytes. -/
def AllB (l : List (Int × List Nat)) (b : Int) (n : Nat) : Prop := ∀ i, i < n → ((dt l i).length : Int) = b
def AllE (l : List (Int × List Nat)) (b : Int) (w : World) (e : Ending) (w' : World) : Prop := (AllB l b l.length ∧ Tells (.bool true) w e w') ∨ (¬ AllB l b l.length ∧ Tells (.bool false) w e w')

set_option maxHeartbeats 1600000 in
set_option maxRecDepth 100000 in
theorem h_allOf (l : List (Int × List Nat)) (b : Int) (A : Option Addr) (ca : Nat) (w : World) (ha : SRd w A l) (hl : l.length ≤ 1048576) :
    Calls Try.prog 33 #[.slice A l.length ca, .int .i64 b] w (AllE l b w) := by
  unfold AllE
  generalize hnn : l.length = n at *
  have HA := Lib.hid ha
  have HN := Lib.hid hnn
  clear ha hnn
  go_enter Try.func33, Try.ntmps33
  go_wp2
  go_loopg [9] n (fun g s wx => ∃ k : Nat, k + g = n ∧ s = .int .i64 (k : Int) ∧ Ext w wx ∧ AllB l b k)
  case atStart => exact ⟨0, by omega, rfl, Ext.refl _, fun i hi => by omega⟩
  case round =>
    obtain ⟨k, hkg, rfl, hx, hap⟩ := hrel
    have HX := Lib.hid hx
    have HP := Lib.hid hap
    clear hx hap
    cases gk with
    | zero =>
      obtain rfl : k = n := by omega
      clear hkg
      go_wp2
      go_ret
      exact .inl ⟨HP.out, rfl, HX.out⟩
    | succ g =>
      have hk : k < n := by omega
      have hkI : (k : Int) < (n : Int) := by omega
      obtain ⟨b1, o1, B1, c1, e1, hc1, hc2, _, _⟩ := (HA.out.ext HX.out) k (by rw [HN.out]; exact hk)
      subst e1
      obtain ⟨nd, hnd⟩ : ∃ nd, (dt l k).length = nd := ⟨_, rfl⟩
      rw [hnd] at hc2
      generalize wh l k = p at hc1
      by_cases e : (nd : Int) = b
      · have t : ((nd : Int) != b) = false := by rw [e]; simp
        have HE := Lib.hid (show ((dt l k).length : Int) = b from by rw [hnd]; exact e)
        clear e hnd
        go_wp2
        go_roundg g
        case measure => omega
        case rel => exact ⟨k + 1, by omega, by go_num, HX.out.alloc _, fun i h1 => by
            by_cases e : i = k
            · subst e; exact HE.out
            · exact HP.out i (by omega)⟩
      · have t : ((nd : Int) != b) = true := by simp; exact e
        have HE := Lib.hid (show ¬ AllB l b n from fun h => e (by rw [← hnd]; exact h k hk))
        clear e hnd
        go_wp2
        go_ret
        exact .inr ⟨HE.out, rfl, HX.out.alloc _⟩
end Go.Proofs.Ytffdmhcbcaemfaa

/-
  What pointsOf of layer 5 does: the points of a byte, in memory of its own. Conditions: shares of participants that have that byte, no more than 2^10.
-/
namespace Go.Proofs.Ytffdmhcbcaemfaa
open Go.RowKit
open Pol (co Sm ev px py Apart)

theorem far_off (g a b : Nat) (h : a ≠ b) : (⟨g, a, none⟩ : Addr) ≠ ⟨g, b, none⟩ := fun e => h (by injection e)
set_option maxRecDepth 100000 in
/-- make([]api.Point, n). -/
theorem run_make_pts (n : Nat) (hn : n ≤ 1048576) (w : World) :
    (Instr.makeSlice 45 (.int .i64 (n : Int)) (.int .i64 (n : Int))).run Try.prog w = .ok (.slice (some ⟨w.heap.size, 0, none⟩) n n) (w.alloc (.cells (madeCells #[.int .u8 0, .int .u8 0] (n * 2)) 77)) := by
  obtain ⟨i0, hi, hz0, hz1, hz2⟩ := info_parts pt_info
  have h := run_make (P := Try.prog) w 45 77 i0 (.agg #[.int .u8 0, .int .u8 0]) Try.underlying45 hi hz0 .i64 .i64 n n (by omega) (by omega) (by rw [hz2]; omega) (by omega)
  simp only [Int.toNat_natCast, hz1] at h
  rw [h]
  rfl
theorem room_pts (w : World) (m : Nat) : Room (w.alloc (.cells (madeCells #[.int .u8 0, .int .u8 0] m) 77)) w.heap.size m := fun i hi => by
  have hg := heap_alloc_new w (.cells (madeCells #[.int .u8 0, .int .u8 0] m) 77)
  refine ⟨⟨(#[Value.int .u8 0, Value.int .u8 0])[i % 2]!, ?_⟩, frozen_of_row _ _ _ _ _ hg⟩
  rw [cell_of_row _ _ _ _ _ _ hg]
  simp [madeCells, hi]
/-- Block g has m points that may be written; its first k are these. -/
structure PtsAt (w : World) (g m : Nat) (X Y : Nat → Nat) (k : Nat) : Prop where
  room : Room w g (m * 2)
  at' : ∀ i, i < k → w.cell? ⟨g, i * 2, none⟩ = some (.int .u8 ((X i : Nat) : Int)) ∧ w.cell? ⟨g, i * 2 + 1, none⟩ = some (.int .u8 ((Y i : Nat) : Int))
theorem PtsAt.drewN {w : World} {g m k : Nat} {X Y : Nat → Nat} (h : PtsAt w g m X Y k) (q : Nat) : PtsAt (w.drewN q) g m X Y k := ⟨h.room, h.at'⟩
theorem PtsAt.put {w : World} {g m k x y : Nat} {X Y : Nat → Nat} (h : PtsAt w g m X Y k) (hk : k < m) (hX : X k = x) (hY : Y k = y) :
    PtsAt ((w.setCell ⟨g, k * 2, none⟩ (.int .u8 (x : Int))).setCell ⟨g, k * 2 + 1, none⟩ (.int .u8 (y : Int))) g m X Y (k + 1) := by
  subst hX; subst hY
  refine ⟨(h.room.set _ _).set _ _, fun i hi => ?_⟩
  obtain ⟨⟨v0, hv0⟩, _⟩ := h.room (k * 2) (by omega)
  obtain ⟨⟨v1, hv1⟩, _⟩ := h.room (k * 2 + 1) (by omega)
  by_cases e : i = k
  · subst e
    constructor
    · rw [World.cell?_setCell_other _ _ _ _ (far_off _ _ _ (by omega))]
      exact World.cell?_setCell_same' _ _ _ (by rw [hv0]; rfl)
    · exact World.cell?_setCell_same' _ _ _ (by rw [World.cell?_setCell_other _ _ _ _ (far_off _ _ _ (by omega)), hv1]; rfl)
  · obtain ⟨h1, h2⟩ := h.at' i (by omega)
    constructor
    · rw [World.cell?_setCell_other _ _ _ _ (far_off _ _ _ (by omega)), World.cell?_setCell_other _ _ _ _ (far_off _ _ _ (by omega))]
      exact h1
    · rw [World.cell?_setCell_other _ _ _ _ (far_off _ _ _ (by omega)), World.cell?_setCell_other _ _ _ _ (far_off _ _ _ (by omega))]
      exact h2
def PtsE (l : List (Int × List Nat)) (i : Nat) (w : World) (e : Ending) (w' : World) : Prop := ∃ X, e = .returned (.slice X l.length l.length) ∧ PRd w' X (pts l i) ∧ Ext w w'

set_option maxHeartbeats 1600000 in
set_option maxRecDepth 100000 in
theorem h_points (l : List (Int × List Nat)) (i : Nat) (A : Option Addr) (ca : Nat) (w : World) (ha : SRd w A l) (hl : l.length ≤ 1048576) (hw : ∀ k, k < l.length → 0 ≤ wh l k ∧ wh l k ≤ 199 ∧ i < (dt l k).length) :
    Calls Try.prog 36 #[.slice A l.length ca, .int .i64 (i : Int)] w (PtsE l i w) := by
  have hsm : Pol.PSm (pts l i) := fun k => by
    by_cases hk : k < l.length
    · rw [(pts_at l i k hk).1, (pts_at l i k hk).2]
      have := (hw k hk).2.1
      exact ⟨by omega, ha.sm k i⟩
    · unfold px py
      rw [List.getElem?_eq_none (by rw [pts_len]; omega)]
      exact ⟨by simp, by simp⟩
  have HPL := Lib.hid (pts_len l i)
  have HPA := Lib.hid (pts_at l i)
  have HSM := Lib.hid hsm
  unfold PtsE
  generalize hnn : l.length = n at *
  have HA := Lib.hid ha
  have HN := Lib.hid hnn
  have HW := Lib.hid hw
  have hmk := fun W => run_make_pts n (by omega) W
  clear ha hnn hw hsm
  go_enter Try.func36, Try.ntmps36
  go_wp2
  clear hmk
  go_loopg [12] n (fun g s wx => ∃ k : Nat, k + g = n ∧ s = .int .i64 (k : Int) ∧ PtsAt wx w.heap.size n (fun j => (wh l j).toNat + 1) (fun j => co (dt l j) i) k ∧ Ext w wx)
  case atStart => exact ⟨0, by omega, rfl, ⟨room_pts w (n * 2), fun i hi => by omega⟩, (Ext.refl _).alloc _⟩
  case round =>
    obtain ⟨k, hkg, rfl, hpt, hx⟩ := hrel
    have HK := Lib.hid hpt
    have HX := Lib.hid hx
    clear hpt hx
    cases gk with
    | zero =>
      obtain rfl : k = n := by omega
      clear hkg
      go_wp2
      go_ret
      refine ⟨_, rfl, ⟨HSM.out, fun j hj => ?_⟩, HX.out⟩
      rw [HPL.out] at hj
      rw [(HPA.out j hj).1, (HPA.out j hj).2]
      obtain ⟨h1, h2⟩ := HK.out.at' j hj
      exact ⟨w.heap.size, 0, rfl, by rw [Nat.zero_add]; exact h1, by rw [Nat.zero_add]; exact h2⟩
    | succ g =>
      have hk : k < n := by omega
      have hkI : (k : Int) < (n : Int) := by omega
      obtain ⟨b1, o1, B1, c1, e1, hc1, hc2, _, hr⟩ := (HA.out.ext HX.out) k (by rw [HN.out]; exact hk)
      subst e1
      obtain ⟨hw1, hw2, hw3⟩ := HW.out k hk
      obtain ⟨x, hxx⟩ : ∃ x : Nat, wh l k = (x : Int) := ⟨(wh l k).toNat, by omega⟩
      obtain ⟨b2, o2, e2, hc3⟩ := hr.2 i hw3
      subst e2
      have hyb := hr.1 i
      obtain ⟨y, hyy⟩ : ∃ y, co (dt l k) i = y := ⟨_, rfl⟩
      rw [hyy] at hc3 hyb
      obtain ⟨nd, hnd⟩ : ∃ nd, (dt l k).length = nd := ⟨_, rfl⟩
      rw [hnd] at hc2 hw3
      have hiI : (i : Int) < (nd : Int) := by omega
      rw [hxx] at hc1 hw1 hw2
      have hx2 : x < 200 := by omega
      have hxi : (x : Int) < 200 := by omega
      obtain ⟨x1, hx1⟩ : ∃ x1, x + 1 = x1 := ⟨_, rfl⟩
      have HPO := Lib.hid (fun q => show Calls Try.prog 44 #[.int .i64 (x : Int)] (wr.drewN q) (Hands (.int .u8 (x1 : Int)) (wr.drewN q)) from hx1 ▸ h_pos x (wr.drewN q) hx2)
      have HST := Lib.hid (fun q => (HK.out.drewN q).put hk (x := x1) (y := y) (show (wh l k).toNat + 1 = x1 by rw [hxx, ← hx1]; rfl) hyy)
      have HEX := Lib.hid (fun q => (((HX.out.drewN q).setCell (p := ⟨w.heap.size, k * 2, none⟩) (Nat.le_refl _) (.int .u8 (x1 : Int))).setCell (p := ⟨w.heap.size, k * 2 + 1, none⟩) (Nat.le_refl _) (.int .u8 (y : Int))))
      obtain ⟨⟨v0, hv0⟩, hf0⟩ := HK.out.room (k * 2) (by omega)
      obtain ⟨⟨v1, hv1⟩, hf1⟩ := HK.out.room (k * 2 + 1) (by omega)
      have hv2 : ∀ q, ((wr.drewN q).setCell ⟨w.heap.size, k * 2, none⟩ (.int .u8 (x1 : Int))).cell? ⟨w.heap.size, k * 2 + 1, none⟩ = some v1 := fun q => (World.cell?_setCell_other _ _ _ _ (far_off _ _ _ (by omega))).trans hv1
      have hf2 : ∀ q, ((wr.drewN q).setCell ⟨w.heap.size, k * 2, none⟩ (.int .u8 (x1 : Int))).frozen? ⟨w.heap.size, k * 2 + 1, none⟩ = false := fun q => by rw [World.frozen?_setCell]; exact hf1
      clear hxx hyy hnd hr hw1 hw2 hx1
      go_wp2
      refine wp_region_quiet_tail 18 (fun w' => ∃ q, w' = wr.drewN q) (by kernel_rfl) (by kernel_rfl) ⟨1, rfl⟩ ?_
      simp only [List.take_succ_cons, List.take_zero, List.drop_succ_cons, List.drop_zero]
      repeat (quiet_step (first | (go_at_call 44; exact quiet_hands (HPO.out _))))
      refine wpQuiet_nil ?_
      rintro _ ⟨q, rfl⟩
      go_wp2
      go_roundg g
      case measure => omega
      case rel => exact ⟨k + 1, by omega, by go_num, HST.out q, HEX.out q⟩
end Go.Proofs.Ytffdmhcbcaemfaa

/-
  What slices.Backward of a slice of bytes does for a loop: the places come from the last one down to 0, each with a value that may stand there. Conditions: no more than 2^40 bytes.
-/
namespace Go.Proofs.Ytffdmhcbcaemfaa
open Go.RowKit Go.Shelf
open Pol (co Sm)
attribute [local go_sem] Oper.semAt_some

/-- A place below n, with a value that may stand there. -/
abbrev Pl (n : Nat) (V : Nat → Nat → Prop) : Type := { x : Nat × Nat // x.1 < n ∧ V x.1 x.2 }
def plv {n : Nat} {V : Nat → Nat → Prop} (x : Pl n V) : Array Value := #[.int .i64 (x.1.1 : Int), .int .u8 (x.1.2 : Int)]
/-- At each place below n stands a value that may. -/
def HasA (V : Nat → Nat → Prop) (W : World) (A : Option Addr) (n : Nat) : Prop := ∀ i, i < n → ∃ b o v, A = some ⟨b, o, none⟩ ∧ V i v ∧ W.cell? ⟨b, o + i, none⟩ = some (.int .u8 ((v : Nat) : Int))
def downs (n k : Nat) : List Nat := (List.range k).map fun j => n - 1 - j
theorem downs_succ (n k : Nat) : downs n (k + 1) = downs n k ++ [n - 1 - k] := by simp [downs, List.range_succ]
theorem downs_len (n k : Nat) : (downs n k).length = k := by simp [downs]
theorem downs_mem (n k i : Nat) (h : i < n) (hk : n - 1 - i < k) : i ∈ downs n k := List.mem_map.2 ⟨n - 1 - i, List.mem_range.2 hk, by omega⟩
/-- What a round keeps: the slice's own box, and that each place has a value that may stand there. -/
def KpB (Bs : Nat) (s : Value) (V : Nat → Nat → Prop) (A : Option Addr) (n : Nat) (W W' : World) : Prop :=
  (W.cell? ⟨Bs, 0, none⟩ = some s → W'.cell? ⟨Bs, 0, none⟩ = some s) ∧ (HasA V W A n → HasA V W' A n)
theorem KpB.trans {Bs : Nat} {s : Value} {V : Nat → Nat → Prop} {A : Option Addr} {n : Nat} {X Y Z : World} (h : KpB Bs s V A n X Y) (k : KpB Bs s V A n Y Z) : KpB Bs s V A n X Z :=
  ⟨fun e => k.1 (h.1 e), fun e => k.2 (h.2 e)⟩
theorem KpB.below {Bs : Nat} {s : Value} {V : Nat → Nat → Prop} {A : Option Addr} {n n₀ : Nat} {W W' : World} (hb : Below n₀ W W') (h1 : Bs < n₀) (h2 : ∀ b o, A = some ⟨b, o, none⟩ → 0 < n → b < n₀) : KpB Bs s V A n W W' :=
  ⟨fun e => (hb.cell (p := ⟨Bs, 0, none⟩) h1).trans e, fun h i hi => by
    obtain ⟨b, o, v, e, hv, hc⟩ := h i hi
    exact ⟨b, o, v, e, hv, (hb.cell (p := ⟨b, o + i, none⟩) (h2 b o e (by omega))).trans hc⟩⟩
theorem KpB.put {Bs : Nat} {s : Value} {V : Nat → Nat → Prop} {A : Option Addr} {n : Nat} {w : World} (h1 : Bs < w.heap.size) (h2 : ∀ b o, A = some ⟨b, o, none⟩ → 0 < n → b < w.heap.size)
    (W : World) (l : Nat) (o o' : Obj) (hl : w.heap.size ≤ l) (h : W.heap[l]? = some o) (k1 : o.isCells = false) (k2 : o.isWalk = false) : KpB Bs s V A n W (W.putObj l o') :=
  KpB.below (belowK_b (w := w) (Nat.le_refl _) W l o o' hl h k1 k2) h1 h2

theorem far_block (a b : Nat) (o : Nat) (u : Nat) (h : a ≠ b) : (⟨a, o, none⟩ : Addr) ≠ ⟨b, u, none⟩ := fun e => by cases e; exact h rfl
theorem KpB.set {Bs : Nat} {s : Value} {V : Nat → Nat → Prop} {A : Option Addr} {n : Nat} (W : World) (g o : Nat) (v : Value) (h1 : g ≠ Bs) (h2 : ∀ b o, A = some ⟨b, o, none⟩ → 0 < n → g ≠ b) : KpB Bs s V A n W (W.setCell ⟨g, o, none⟩ v) :=
  ⟨fun e => (World.cell?_setCell_other _ _ _ _ (far_block g Bs o 0 h1)).trans e, fun h i hi => by
    obtain ⟨b, o', u, e, hv, hc⟩ := h i hi
    exact ⟨b, o', u, e, hv, (World.cell?_setCell_other _ _ _ _ (far_block g b o (o' + i) (h2 b o' e (by omega)))).trans hc⟩⟩
theorem keeps_drewN (W : World) (n : Nat) : KeepsOthers W (W.drewN n) := ⟨Nat.le_refl _, fun _ _ h _ => h⟩
theorem KpB.drewN {Bs : Nat} {s : Value} {V : Nat → Nat → Prop} {A : Option Addr} {n : Nat} (W : World) (k : Nat) : KpB Bs s V A n W (W.drewN k) := ⟨fun e => e, fun h => h⟩

def atI : Nat → Int
  | 0 => -1
  | g + 1 => (g : Int)
theorem atI_eq (g : Nat) : atI g = (g : Int) - 1 := by cases g <;> simp [atI]

set_option maxRecDepth 100000 in
set_option maxHeartbeats 2000000 in
theorem back1 (m : Nat) (hm : 1 ≤ m) (l Bs n cap : Nat) (A : Option Addr) (V : Nat → Nat → Prop) (hn : n ≤ 1099511627776) (J Jx : List (Pl n V) → World → Prop)
    (hY : ∀ pre x W, J pre W → pre.length < n → YieldAt Fence.wide (m - 1) Try.prog l (plv x) W fun e W' =>
      (e = .returned (.bool true) ∧ J (pre ++ [x]) W' ∧ KpB Bs (.slice A n cap) V A n W W') ∨ (e = .returned (.bool false) ∧ Jx (pre ++ [x]) W'))
    (W : World) (hBs : W.cell? ⟨Bs, 0, none⟩ = some (.slice A n cap)) (hc : HasA V W A n) (h0 : J [] W) :
    CallsIn Fence.wide m Try.prog 66 #[.func (.yield l) #[] #[], .pointer (some ⟨Bs, 0, none⟩)] W fun e W' => (∃ v, e = .returned v) ∧
      ((∃ ys : List (Pl n V), ys.map (fun x => x.1.1) = downs n n ∧ J ys W') ∨ (∃ pre : List (Pl n V), (∃ k, k ≤ n ∧ pre.map (fun x => x.1.1) = downs n k) ∧ Jx pre W')) := by
  have HC := Lib.hid hc
  have HB := Lib.hid hBs
  clear hc
  refine callsIn_of_wp Try.func66 rfl trivial ?_ rfl
  simp only [Try.ntmps66, List.size_toArray, List.length_cons, List.length_nil, Nat.reduceAdd, Nat.reduceSub, Array.replicate_succ, Array.replicate_zero, List.push_toArray, List.append_toArray, List.nil_append, List.cons_append]
  gi_wp2
  clear hBs
  gi_loopw [3] (fun i wr => ∃ (g : Nat) (pre : List (Pl n V)), pre.length + g = n ∧ i = .int .i64 (atI g) ∧ pre.map (fun x => x.1.1) = downs n pre.length ∧ J pre wr ∧ wr.cell? ⟨Bs, 0, none⟩ = some (.slice A n cap) ∧ HasA V wr A n)
    (fun i _ => (intOf i + 1).toNat)
  case atStart => exact ⟨n, [], by simp, by rw [atI_eq], rfl, h0, HB.out, HC.out⟩
  case round =>
    obtain ⟨g, pre, hpg, rfl, hpre, hJs, hb, hh⟩ := hrel
    have HH := Lib.hid hh
    have HP := Lib.hid hpre
    have HBB := Lib.hid hb
    clear hh hpre
    cases g with
    | zero =>
      dsimp only [atI]
      gi_wp2
      go_end0
      have hpl : pre.length = n := hpg
      exact ⟨⟨_, rfl⟩, .inl ⟨pre, by rw [HP.out, hpl], hJs⟩⟩
    | succ g =>
      have hgn : g < n := by omega
      obtain ⟨b, o, v, rfl, hv, hcl⟩ := HH.out g hgn
      obtain ⟨fn, tmps, assign, body, hy, hR⟩ := hY pre ⟨(g, v), hgn, hv⟩ wr hJs (by omega)
      dsimp only [plv] at hy
      dsimp only [atI]
      have hgI : (g : Int) < (n : Int) := by omega
      have hpx : (pre ++ [(⟨(g, v), hgn, hv⟩ : Pl n V)]).map (fun x => x.1.1) = downs n (pre ++ [(⟨(g, v), hgn, hv⟩ : Pl n V)]).length := by
        rw [List.map_append, HP.out, List.length_append, List.length_singleton, downs_succ]
        congr 1
        simp
        omega
      have HX := Lib.hid hpx
      clear hpx
      gi_wp2
      refine hR.mono ?_
      rintro e W3 (⟨rfl, hJ3, hk3⟩ | ⟨rfl, hJx3⟩)
      · gi_wp2
        go_roundw
        case rel => exact ⟨g, pre ++ [⟨(g, v), hgn, hv⟩], by simp; omega, congrArg (Value.int .i64) (atI_eq g).symm, HX.out, hJ3, hk3.1 HBB.out, hk3.2 HH.out⟩
        case measure => simp [intOf]
      · gi_wp2
        refine bodyPost_ret (results_none rfl _ _ _) rfl ?_
        exact ⟨⟨_, rfl⟩, .inr ⟨_, ⟨_, by simp; omega, HX.out⟩, hJx3⟩⟩

theorem back_stops (m : Nat) (hm : 1 ≤ m) (Bs n cap : Nat) (A : Option Addr) (V : Nat → Nat → Prop) (hn : n ≤ 1099511627776) (w : World) (hBs : Bs < w.heap.size) (hA : ∀ b o, A = some ⟨b, o, none⟩ → 0 < n → b < w.heap.size)
    (hc : w.cell? ⟨Bs, 0, none⟩ = some (.slice A n cap)) (hh : HasA V w A n) :
    SeqStopsK Fence.wide m Try.prog 66 #[.pointer (some ⟨Bs, 0, none⟩)] (plv (n := n) (V := V)) (KpB Bs (.slice A n cap) V A n) (fun ys => ys.map (fun x => x.1.1) = downs n n)
      (fun pre => ∃ k, k ≤ n ∧ pre.map (fun x => x.1.1) = downs n k) n w := fun l J Jx W hW _ _ hY h0 =>
  have hk := KpB.below (s := .slice A n cap) (V := V) (A := A) (n := n) hW hBs hA
  back1 m hm l Bs n cap A V hn J Jx hY W (hk.1 hc) (hk.2 hh) h0

set_option maxHeartbeats 1000000 in
/-- slices.Backward(s): the slice value is boxed; the function value captures the box. -/
theorem back_in (m : Nat) (a : Option Addr) (len cap : Nat) (w : World) :
    CallsIn Fence.wide m Try.prog 56 #[.slice a len cap] w fun e w' => e = .returned (.func (.func 66) #[] #[.pointer (some ⟨w.heap.size, 0, none⟩)]) ∧ w' = w.alloc (.cells #[.slice a len cap] 22) := by
  refine callsIn_of_wp Try.func56 rfl trivial ?_ rfl
  simp only [Try.ntmps56, List.size_toArray, List.length_cons, List.length_nil, Nat.reduceAdd, Nat.reduceSub, Array.replicate_succ, Array.replicate_zero, List.push_toArray, List.append_toArray, List.nil_append, List.cons_append]
  gi_wp2
  go_ret
  exact ⟨rfl, rfl⟩
theorem back_calls (a : Option Addr) (len cap : Nat) (w : World) :
    Calls Try.prog 56 #[.slice a len cap] w fun e w' => e = .returned (.func (.func 66) #[] #[.pointer (some ⟨w.heap.size, 0, none⟩)]) ∧ w' = w.alloc (.cells #[.slice a len cap] 22) :=
  (callsIn_wide (n := 1)).1 (back_in 1 a len cap w)
end Go.Proofs.Ytffdmhcbcaemfaa

/-
  What Degree, trimmed and Trim of layer 2 do. Conditions: no more than 2^16 coefficients.
-/
namespace Go.Proofs.Ytffdmhcbcaemfaa
open Go.RowKit Go.Shelf
open Pol (co Sm trim)
attribute [local go_sem] Oper.semAt_some

/-- At place i stands the coefficient. -/
def Is (l : List Nat) (i v : Nat) : Prop := v = co l i
theorem Rd.has {w : World} {A : Option Addr} {l : List Nat} (h : Rd w A l) : HasA (Is l) w A l.length := fun i hi => by
  obtain ⟨b, o, e, hc⟩ := h.2 i hi
  exact ⟨b, o, co l i, e, rfl, hc⟩
theorem Rd.block {w : World} {A : Option Addr} {l : List Nat} (h : Rd w A l) : ∀ b o, A = some ⟨b, o, none⟩ → 0 < l.length → b < w.heap.size := fun b o e hl => by
  obtain ⟨b', o', e', hc⟩ := h.2 0 hl
  rw [e] at e'
  cases e'
  exact block_lt_of_cell hc

theorem trim_all (l : List Nat) (ys : List (Pl l.length (Is l))) (h : ys.map (fun x => x.1.1) = downs l.length l.length) (hz : ∀ p ∈ ys, p.1.2 = 0) : trim l = [] := by
  refine (Pol.trim_nil_iff l).2 fun i => ?_
  by_cases hi : i < l.length
  · have hm := downs_mem l.length l.length i hi (by omega)
    rw [← h] at hm
    obtain ⟨p, hp, e⟩ := List.mem_map.1 hm
    rw [← e, ← show p.1.2 = co l p.1.1 from p.2.2]
    exact hz p hp
  · exact Pol.co_out l i (by omega)
theorem trim_at (l : List Nat) (ini : List (Pl l.length (Is l))) (last : Pl l.length (Is l)) (k : Nat) (h : (ini ++ [last]).map (fun x => x.1.1) = downs l.length k) (hk : k ≤ l.length) (hz : ∀ p ∈ ini, p.1.2 = 0) (hl : last.1.2 ≠ 0) : (trim l).length = last.1.1 + 1 := by
  cases k with
  | zero => simp [downs] at h
  | succ k =>
    rw [downs_succ, List.map_append] at h
    obtain ⟨h1, h2⟩ := List.append_inj' h rfl
    have h3 : last.1.1 = l.length - 1 - k := by simpa using h2
    refine Pol.trim_len_top l last.1.1 (by rw [← show last.1.2 = co l last.1.1 from last.2.2]; exact hl) fun i hi => ?_
    by_cases hil : i < l.length
    · have hm := downs_mem l.length k i hil (by omega)
      rw [← h1] at hm
      obtain ⟨p, hp, e⟩ := List.mem_map.1 hm
      rw [← e, ← show p.1.2 = co l p.1.1 from p.2.2]
      exact hz p hp
    · exact Pol.co_out l i (by omega)

set_option maxRecDepth 100000 in
set_option maxHeartbeats 2000000 in
theorem pdegree (l : List Nat) (A : Option Addr) (c : Nat) (w : World) (hr : Rd w A l) (hl : l.length ≤ 65536) :
    Calls Try.prog 69 #[.slice A l.length c] w (Tells (.int .i64 (((trim l).length : Int) - 1)) w) := by
  have HTA := Lib.hid (trim_all l)
  have HTB := Lib.hid (trim_at l)
  have HR := Lib.hid hr
  have hh := hr.has
  have hbk := hr.block
  generalize hlen : l.length = n at *
  have HN := Lib.hid hlen
  have HH := Lib.hid hh
  have HBK := Lib.hid hbk
  clear hlen hr hh hbk
  refine (callsIn_wide (n := 4)).1 ?_
  refine callsIn_of_wp_marks Try.func69 rfl trivial ?_ rfl
  simp only [Try.ntmps69, List.size_toArray, List.length_cons, List.length_nil, Nat.reduceAdd, Nat.reduceSub, Array.replicate_succ, Array.replicate_zero, List.push_toArray, List.append_toArray, List.nil_append, List.cons_append]
  gi_wp2_with (refine ⟨trivial, ?_⟩; gi_at_call 56; refine (back_in _ _ _ _ _).mono ?_; rintro e w' ⟨rfl, rfl⟩)
  have bR := Boxed.new w 3 (.int .i64 0)
  have bN := Boxed.new (w.alloc (.cells #[.int .i64 0] 3)) 22 (.slice A n c)
  rw [World.size_alloc] at bN
  have hB0 : Below w.heap.size w ((w.alloc (.cells #[.int .i64 0] 3)).alloc (.cells #[.slice A n c] 22)) := ((Below.refl _ w).alloc (Nat.le_refl _) _).alloc (by simp) _
  have hK0 : KpB 0 (.bool true) (Is l) A n w ((w.alloc (.cells #[.int .i64 0] 3)).alloc (.cells #[.slice A n c] 22)) := by
    refine ⟨fun e => (hB0.cell (p := ⟨0, 0, none⟩) (block_lt_of_cell e)).trans e, fun h i hi => ?_⟩
    obtain ⟨b, o, v, e, hv, hc⟩ := h i hi
    exact ⟨b, o, v, e, hv, (hB0.cell (p := ⟨b, o + i, none⟩) (block_lt_of_cell hc)).trans hc⟩
  refine wpIn_rangeFunc_ownG rfl (by omega) (gf := 66) (lb := #[.pointer (some ⟨w.heap.size + 1, 0, none⟩)]) rfl trivial (enters_of Try.func66 (by kernel_rfl) rfl)
    (back_stops _ (by omega) (w.heap.size + 1) n c A (Is l) (by omega) _ (by simp) (fun b o e h => Nat.lt_of_lt_of_le (HBK.out b o e h) hB0.size) bN.cell (hK0.2 HH.out))
    KpB.trans (KpB.put (by simp) (fun b o e h => Nat.lt_of_lt_of_le (HBK.out b o e h) hB0.size)) (Below.refl _ _) (fun _ => rfl)
    (fun pre W => ((∀ p ∈ pre, p.1.2 = 0) ∧ W.cell? ⟨w.heap.size, 0, none⟩ = some (.int .i64 0) ∧ W.frozen? ⟨w.heap.size, 0, none⟩ = false) ∧ Below w.heap.size w W)
    (fun c pre W => (c = .ret ∧ ∃ ini last, pre = ini ++ [last] ∧ (∀ p ∈ ini, p.1.2 = 0) ∧ last.1.2 ≠ 0 ∧ W.cell? ⟨w.heap.size, 0, none⟩ = some (.int .i64 (last.1.1 : Int))) ∧ Below w.heap.size w W)
    (OwnFrom.and (Own.from (fun s A B row hs hg hr => ⟨hs.1, cell_kept hs.2.1 hg hr, (frozen_kept hs.2.1 hg hr).trans hs.2.2⟩) _) (ownFrom_below (Nat.le_refl _) (by simp; omega)))
    (fun c => OwnFrom.and (Own.from (fun s A B row hs hg hr => by obtain ⟨hc, ini, last, e1, e2, e3, e4⟩ := hs; exact ⟨hc, ini, last, e1, e2, e3, cell_kept e4 hg hr⟩) _) (ownFrom_below (Nat.le_refl _) (by simp; omega)))
    ⟨⟨by simp, (bR.alloc _).cell, (bR.alloc _).frozen⟩, hB0⟩
    (fun x => { tmps := #[.slice A n c, undef, .pointer (some ⟨w.heap.size, 0, none⟩), .int .i64 (x.1.1 : Int), .int .u8 (x.1.2 : Int), .slice A n c, .func (.func 66) #[] #[.pointer (some ⟨w.heap.size + 1, 0, none⟩)], .int .i64 (x.1.1 : Int), .int .u8 (x.1.2 : Int), undef, undef, undef], defers := [] }) ?assign ?body ?done ?stop
  case assign =>
    intro l x W K hK
    dsimp only [plv]
    gi_wp2
    exact hK
  case body =>
    rintro l pre x W ⟨⟨hp, hcr, hfr⟩, hB⟩ _
    by_cases hx : x.1.2 = 0
    · have ht : (((x.1.2 : Nat) : Int) != 0) = false := by simp [hx]
      have HX := Lib.hid hx
      clear hx
      gi_wp2
      exact ⟨KeepsFrom.refl _ _, ⟨fun e => e, fun h => h⟩, ⟨fun p hp' => (List.mem_append.1 hp').elim (hp p) (fun e => by simp at e; subst e; exact HX.out), hcr, hfr⟩, hB⟩
    · have ht : (((x.1.2 : Nat) : Int) != 0) = true := by simp; omega
      have HX := Lib.hid hx
      clear hx
      gi_wp2
      exact ⟨(KeepsOthers.setCell _ _ _).from _, ⟨rfl, pre, x, rfl, hp, HX.out, World.cell?_setCell_same' _ _ _ (by rw [hcr]; rfl)⟩, hB.setCell (p := ⟨w.heap.size, 0, none⟩) (Nat.le_refl _) _⟩
  case done =>
    rintro D ys W hD hys ⟨⟨hne, hcr, hfr⟩, hB⟩ hK
    have HT := Lib.hid (HTA.out ys hys hne)
    gi_wp2
    have hK' := (KeepsOthers.setCell W ⟨w.heap.size, 0, none⟩ (.int .i64 (-1))).same D _ hK rfl
    refine ⟨by simp, .inl ⟨_, _, rfl, run_takeDeferred hK', ?_⟩⟩
    have hc5 := cell_kept (World.cell?_setCell_same' W ⟨w.heap.size, 0, none⟩ (.int .i64 (-1)) (by rw [hcr]; rfl)) (grownBy_putObj' _ D (.deferred none)) (fun r e => by cases e; exact ⟨_, hK', rfl⟩)
    refine ⟨.int .i64 (-1), ?_, by rw [HT.out]; rfl, ⟨(hB.setCell (p := ⟨w.heap.size, 0, none⟩) (Nat.le_refl _) _).trans (belowK_b (w := w) (Nat.le_refl _) _ D _ _ (by simp at hD; omega) hK' rfl rfl)⟩⟩
    simp [results, Try.f69, go_sem, hc5]
  case stop =>
    rintro D cc pre W hD ⟨k, hk, hpre⟩ ⟨⟨rfl, ini, last, rfl, e2, e3, hcr⟩, hB⟩ hK
    have HT := Lib.hid (HTB.out ini last k hpre hk e2 e3)
    gi_wp2
    refine ⟨by simp, .inl ⟨_, _, rfl, run_takeDeferred hK, ?_⟩⟩
    have hc5 := cell_kept hcr (grownBy_putObj' _ D (.deferred none)) (fun r e => by cases e; exact ⟨_, hK, rfl⟩)
    refine ⟨.int .i64 (last.1.1 : Int), ?_, ret_int (by rw [HT.out]; omega), ⟨hB.trans (belowK_b (w := w) (Nat.le_refl _) W D _ _ (by simp at hD; omega) hK rfl rfl)⟩⟩
    simp [results, Try.f69, go_sem, hc5]
end Go.Proofs.Ytffdmhcbcaemfaa
