/-
  What the document's own Twice of layer 2 does: it tells whether two points have one place. Conditions: no more than 2^20 points.
-/
import Derived.Test.YtagdialceelggaaPts
namespace Go.Proofs.Ytagdialceelggaa
open Go.RowKit
open Pol (px py Apart)

set_option maxHeartbeats 400000 in
set_option maxRecDepth 100000 in
theorem ref_twice_no (l : List (Nat × Nat)) (A : Option Addr) (ca : Nat) (w : World) (ha : PRd w A l) (hl : l.length ≤ 1048576) (hn : Apart l l.length) :
    Calls Try.prog 25 #[.slice A l.length ca] w (Hands (.bool false) w) := by
  generalize hnn : l.length = n at *
  have HA := Lib.hid ha
  have HN := Lib.hid hnn
  have HD := Lib.hid hn
  clear ha hnn hn
  go_enter Try.func25, Try.ntmps25
  go_wp2
  go_loopg [7] n (fun g s wx => ∃ i m : Nat, i + g = n ∧ s = .int .i64 (i : Int) ∧ wx = w.drewN m ∧ Apart l i)
  case atStart => exact ⟨0, 0, by omega, rfl, rfl, fun i k _ hi => by omega⟩
  case round =>
    obtain ⟨i, m, hig, rfl, rfl, hap⟩ := hrel
    have HP := Lib.hid hap
    clear hap
    cases gk with
    | zero =>
      obtain rfl : n = i := by omega
      clear hig
      go_wp2
      go_ret
      exact ⟨rfl, m, rfl⟩
    | succ g =>
      have hiI : (i : Int) < (n : Int) := by omega
      go_wp2
      go_loopg [4] i (fun g s wx => ∃ k m : Nat, k + g = i ∧ s = .int .i64 (k : Int) ∧ wx = w.drewN m ∧ ∀ k', k' < k → px l i ≠ px l k')
      case atStart => exact ⟨0, m, by omega, rfl, rfl, fun k' h => by omega⟩
      case round =>
        obtain ⟨k, m, hkg, rfl, rfl, hno⟩ := hrel
        have HO := Lib.hid hno
        clear hno
        cases gk with
        | zero =>
          obtain rfl : i = k := by omega
          clear hkg
          go_wp2
          go_roundg g
          case measure => omega
          case rel => exact ⟨i + 1, m, by omega, by go_num, rfl, fun i' k' h1 h2 => by
            by_cases e : i' = i
            · subst e; exact HO.out k' h1
            · exact HP.out i' k' h1 (by omega)⟩
        | succ h =>
          have hk : k < i := by omega
          have hkI : (k : Int) < (i : Int) := by omega
          have hknI : (k : Int) < (n : Int) := by omega
          obtain ⟨b1, o1, e1, hc1, _⟩ := HA.out.2 i (by rw [HN.out]; omega)
          subst e1
          obtain ⟨b2, o2, e2, hc2, _⟩ := HA.out.2 k (by rw [HN.out]; omega)
          injection e2 with e2
          injection e2 with e3 e4
          subst e3
          subst e4
          have d1 : (w.drewN m).cell? ⟨b1, o1 + i * 2, none⟩ = some (.int .u8 ((px l i : Nat) : Int)) := hc1
          have d2 : (w.drewN m).cell? ⟨b1, o1 + k * 2, none⟩ = some (.int .u8 ((px l k : Nat) : Int)) := hc2
          clear hc1 hc2
          generalize hW : w.drewN m = W at d1 d2 ⊢
          have HW := Lib.hid hW
          clear hW
          by_cases hq : px l i = px l k
          · have ht : (((px l i : Nat) : Int) == ((px l k : Nat) : Int)) = true := beq_iff_eq.2 (by omega)
            have HQ := Lib.hid hq
            exact absurd hq (HD.out i k (by omega) (by omega))
          · have ht : (((px l i : Nat) : Int) == ((px l k : Nat) : Int)) = false := beq_eq_false_iff_ne.2 (by omega)
            have HQ := Lib.hid hq
            clear hq
            go_wp2
            go_quiet (fail)
            go_wp2
            go_roundg h
            case measure => omega
            case rel => exact ⟨k + 1, m + nq, by omega, by go_num, by rw [← HW.out, World.drewN_drewN], fun k' h' => by
              by_cases e : k' = k
              · subst e; exact HQ.out
              · exact HO.out k' (by omega)⟩

set_option maxHeartbeats 400000 in
set_option maxRecDepth 100000 in
theorem ref_twice_yes (l : List (Nat × Nat)) (A : Option Addr) (ca : Nat) (w : World) (ha : PRd w A l) (hl : l.length ≤ 1048576) (hn : ¬ Apart l l.length) :
    Calls Try.prog 25 #[.slice A l.length ca] w (Hands (.bool true) w) := by
  generalize hnn : l.length = n at *
  have HA := Lib.hid ha
  have HN := Lib.hid hnn
  have HD := Lib.hid hn
  clear ha hnn hn
  go_enter Try.func25, Try.ntmps25
  go_wp2
  go_loopg [7] n (fun g s wx => ∃ i m : Nat, i + g = n ∧ s = .int .i64 (i : Int) ∧ wx = w.drewN m ∧ Apart l i)
  case atStart => exact ⟨0, 0, by omega, rfl, rfl, fun i k _ hi => by omega⟩
  case round =>
    obtain ⟨i, m, hig, rfl, rfl, hap⟩ := hrel
    have HP := Lib.hid hap
    clear hap
    cases gk with
    | zero =>
      obtain rfl : n = i := by omega
      clear hig
      exact absurd HP.out HD.out
    | succ g =>
      have hiI : (i : Int) < (n : Int) := by omega
      go_wp2
      go_loopg [4] i (fun g s wx => ∃ k m : Nat, k + g = i ∧ s = .int .i64 (k : Int) ∧ wx = w.drewN m ∧ ∀ k', k' < k → px l i ≠ px l k')
      case atStart => exact ⟨0, m, by omega, rfl, rfl, fun k' h => by omega⟩
      case round =>
        obtain ⟨k, m, hkg, rfl, rfl, hno⟩ := hrel
        have HO := Lib.hid hno
        clear hno
        cases gk with
        | zero =>
          obtain rfl : i = k := by omega
          clear hkg
          go_wp2
          go_roundg g
          case measure => omega
          case rel => exact ⟨i + 1, m, by omega, by go_num, rfl, fun i' k' h1 h2 => by
            by_cases e : i' = i
            · subst e; exact HO.out k' h1
            · exact HP.out i' k' h1 (by omega)⟩
        | succ h =>
          have hk : k < i := by omega
          have hkI : (k : Int) < (i : Int) := by omega
          have hknI : (k : Int) < (n : Int) := by omega
          obtain ⟨b1, o1, e1, hc1, _⟩ := HA.out.2 i (by rw [HN.out]; omega)
          subst e1
          obtain ⟨b2, o2, e2, hc2, _⟩ := HA.out.2 k (by rw [HN.out]; omega)
          injection e2 with e2
          injection e2 with e3 e4
          subst e3
          subst e4
          have d1 : (w.drewN m).cell? ⟨b1, o1 + i * 2, none⟩ = some (.int .u8 ((px l i : Nat) : Int)) := hc1
          have d2 : (w.drewN m).cell? ⟨b1, o1 + k * 2, none⟩ = some (.int .u8 ((px l k : Nat) : Int)) := hc2
          clear hc1 hc2
          generalize hW : w.drewN m = W at d1 d2 ⊢
          have HW := Lib.hid hW
          clear hW
          by_cases hq : px l i = px l k
          · have ht : (((px l i : Nat) : Int) == ((px l k : Nat) : Int)) = true := beq_iff_eq.2 (by omega)
            have HQ := Lib.hid hq
            clear hq
            go_wp2
            go_quiet (fail)
            go_wp2
            go_ret
            exact ⟨rfl, _, by rw [← HW.out, World.drewN_drewN]⟩
          · have ht : (((px l i : Nat) : Int) == ((px l k : Nat) : Int)) = false := beq_eq_false_iff_ne.2 (by omega)
            have HQ := Lib.hid hq
            clear hq
            go_wp2
            go_quiet (fail)
            go_wp2
            go_roundg h
            case measure => omega
            case rel => exact ⟨k + 1, m + nq, by omega, by go_num, by rw [← HW.out, World.drewN_drewN], fun k' h' => by
              by_cases e : k' = k
              · subst e; exact HQ.out
              · exact HO.out k' (by omega)⟩
end Go.Proofs.Ytagdialceelggaa
