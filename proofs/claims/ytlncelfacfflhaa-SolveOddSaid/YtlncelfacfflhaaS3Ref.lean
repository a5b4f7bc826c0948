/-
  What the document's own small functions of layer 3 do: a row times an element, the sum of two rows, whether rows are right, whether elements solve all equations. Conditions: no more than 2^16 elements and rows.
-/
import Derived.Test.YtlncelfacfflhaaRowSl
import Derived.Test.YtlncelfacfflhaaRefMul
import Derived.Test.YtlncelfacfflhaaRed
import Derived.Test.YtlncelfacfflhaaQTail
import Derived.StillTailTactics
namespace Go.Proofs.Ytlncelfacfflhaa
open Go.RowKit
open Pol (co Sm)

def part (k : Nat) (f : Nat → Nat) (i : Nat) : Nat := if i < k then f i else 0
theorem part_step (k : Nat) (f : Nat → Nat) (i : Nat) : upd (part k f) k (f k) i = part (k + 1) f i := by
  unfold upd part
  by_cases h : i = k
  · subst h; rw [if_pos rfl, if_pos (by omega)]
  · rw [if_neg h]
    by_cases h' : i < k
    · rw [if_pos h', if_pos (by omega)]
    · rw [if_neg h', if_neg (by omega)]
/-- A new list, in a block that was laid since. -/
def Fresh (l : List Nat) (w : World) (e : Ending) (w' : World) : Prop := ∃ B c, e = .returned (.slice B l.length c) ∧ l.length ≤ c ∧ Rd w' B l ∧ (∀ b o, B = some ⟨b, o, none⟩ → w.heap.size ≤ b) ∧ Ext w w'

set_option maxHeartbeats 800000 in
set_option maxRecDepth 100000 in
theorem ref_scaled (l : List Nat) (A : Option Addr) (ca y : Nat) (w : World) (ha : Rd w A l) (hy : y < 256) (hl : l.length ≤ 65536) :
    Calls Try.prog 28 #[.slice A l.length ca, .int .u8 (y : Int)] w (Fresh (tab l.length (fun k => Gf.mul (co l k) y)) w) := by
  generalize hn : l.length = n at *
  have hmk := fun W => run_make_u8 n (by omega) W
  have HA := Lib.hid ha
  have HN := Lib.hid hn
  clear ha hn
  go_enter Try.func28, Try.ntmps28
  go_wp2
  clear hmk
  go_loopg [12] n (fun g s wx => ∃ k : Nat, k + g = n ∧ s = .int .i64 (k : Int) ∧ Blk wx w.heap.size n (part k (fun k => Gf.mul (co l k) y)) ∧ Ext w wx)
  case atStart => exact ⟨0, by omega, rfl, (Blk.new w n (fun _ => 0)).congr (fun i _ => by unfold part; rw [if_neg (by omega)]), (Ext.refl _).alloc _⟩
  case round =>
    obtain ⟨k, hkg, rfl, hblk, hx⟩ := hrel
    have HX := Lib.hid hx
    have HK := Lib.hid hblk
    clear hx hblk
    cases gk with
    | zero =>
      obtain rfl : k = n := by omega
      clear hkg
      have hr := (HK.out.congr (f' := fun k => Gf.mul (co l k) y) (fun i hi => by unfold part; rw [if_pos hi])).reads (fun i _ => Gf.mul_lt _ _)
      have HR := Lib.hid hr
      clear hr
      go_wp2
      go_ret
      exact ⟨some ⟨w.heap.size, 0, none⟩, k, by rw [tab_len]; rfl, by rw [tab_len]; exact Nat.le_refl _, HR.out, fun b o e => by injection e with e; injection e with e _; omega, HX.out⟩
    | succ g =>
      have hk : k < n := by omega
      have hkI : (k : Int) < (n : Int) := by omega
      obtain ⟨b1, o1, e1, hc⟩ := (HA.out.ext HX.out).2 k (by rw [HN.out]; exact hk)
      subst e1
      have hc2 := HK.out.cell k hk
      have hfz := HK.out.frozen k
      have hst := (HK.out.store k (Gf.mul (co l k) y)).congr (f' := part (k + 1) (fun k => Gf.mul (co l k) y)) (fun i _ => part_step k (fun k => Gf.mul (co l k) y) i)
      have HU := Lib.hid hst
      have hext := HX.out.setCell (p := ⟨w.heap.size, k, none⟩) (Nat.le_refl _) (.int .u8 ((Gf.mul (co l k) y : Nat) : Int))
      have HE := Lib.hid hext
      have HM := Lib.hid (fun W => ref_mul (co l k) y (HA.out.1 k) hy W)
      clear hst hext
      go_wp2_with fail
      refine (HM.out _).mono ?_
      rintro e w2 ⟨rfl, rfl⟩
      go_wp2
      go_roundg g
      case measure => omega
      case rel => exact ⟨k + 1, by omega, by go_num, HU.out, HE.out⟩

set_option maxHeartbeats 800000 in
set_option maxRecDepth 100000 in
theorem ref_plus (a b : List Nat) (A B : Option Addr) (ca cb : Nat) (w : World) (ha : Rd w A a) (hb : Rd w B b) (hl : a.length ≤ 65536) (hlb : b.length = a.length) :
    Calls Try.prog 29 #[.slice A a.length ca, .slice B b.length cb] w (Fresh (tab a.length (fun k => co a k ^^^ co b k)) w) := by
  rw [hlb]
  generalize hn : a.length = n at *
  have hmk := fun W => run_make_u8 n (by omega) W
  have HA := Lib.hid ha
  have HB := Lib.hid hb
  have HN := Lib.hid hn
  have HNB := Lib.hid hlb
  clear ha hb hn hlb
  go_enter Try.func29, Try.ntmps29
  go_wp2
  clear hmk
  go_loopg [12] n (fun g s wx => ∃ k : Nat, k + g = n ∧ s = .int .i64 (k : Int) ∧ Blk wx w.heap.size n (part k (fun k => co a k ^^^ co b k)) ∧ Ext w wx)
  case atStart => exact ⟨0, by omega, rfl, (Blk.new w n (fun _ => 0)).congr (fun i _ => by unfold part; rw [if_neg (by omega)]), (Ext.refl _).alloc _⟩
  case round =>
    obtain ⟨k, hkg, rfl, hblk, hx⟩ := hrel
    have HX := Lib.hid hx
    have HK := Lib.hid hblk
    clear hx hblk
    cases gk with
    | zero =>
      obtain rfl : k = n := by omega
      clear hkg
      have hr := (HK.out.congr (f' := fun k => co a k ^^^ co b k) (fun i hi => by unfold part; rw [if_pos hi])).reads (fun i _ => Gf.xor_lt _ _ (HA.out.1 i) (HB.out.1 i))
      have HR := Lib.hid hr
      clear hr
      go_wp2
      go_ret
      exact ⟨some ⟨w.heap.size, 0, none⟩, k, by rw [tab_len]; rfl, by rw [tab_len]; exact Nat.le_refl _, HR.out, fun b o e => by injection e with e; injection e with e _; omega, HX.out⟩
    | succ g =>
      have hk : k < n := by omega
      have hkI : (k : Int) < (n : Int) := by omega
      obtain ⟨b1, o1, e1, hc⟩ := (HA.out.ext HX.out).2 k (by rw [HN.out]; exact hk)
      subst e1
      obtain ⟨b2, o2, e2, hc'⟩ := (HB.out.ext HX.out).2 k (by rw [HNB.out]; exact hk)
      subst e2
      have hc2 := HK.out.cell k hk
      have hfz := HK.out.frozen k
      have hxor := u8_xor_nat (co a k) (co b k) (HA.out.1 k) (HB.out.1 k)
      have hst := ((HK.out.drewN 1).store k (co a k ^^^ co b k)).congr (f' := part (k + 1) (fun k => co a k ^^^ co b k)) (fun i _ => part_step k (fun k => co a k ^^^ co b k) i)
      have HU := Lib.hid hst
      have hext := (HX.out.drewN 1).setCell (p := ⟨w.heap.size, k, none⟩) (Nat.le_refl _) (.int .u8 ((co a k ^^^ co b k : Nat) : Int))
      have HE := Lib.hid hext
      clear hst hext
      go_wp2
      go_still_tail 12, (by kernel_rfl)
      change wpList _ _ _ _ _ wr.drew
      go_wp2
      go_roundg g
      case measure => omega
      case rel => exact ⟨k + 1, by omega, by go_num, HU.out, HE.out⟩
end Go.Proofs.Ytlncelfacfflhaa
