/-
  What rectangular of layer 3 does: it tells whether there are rows, and elements in them, as many in each. Conditions: no more than 2^16 elements and rows.
-/
import Derived.Test.YtlncelfacfflhaaS3Right
namespace Go.Proofs.Ytlncelfacfflhaa
open Go.RowKit
open Pol (co Sm)

set_option maxHeartbeats 800000 in
set_option maxRecDepth 100000 in
theorem s_rect (rows : List (List Nat)) (A : Option Addr) (c : Nat) (w : World) (ha : RRd w A rows) (hl : rows.length ≤ 65536) (hll : ∀ i, i < rows.length → (ro rows i).length ≤ 65536) :
    Calls Try.prog 24 #[.slice A rows.length c] w (Says (Rt rows) w) := by
  generalize hn : rows.length = n at *
  have HA := Lib.hid ha
  have HN := Lib.hid hn
  have HLL := Lib.hid hll
  clear ha hn hll
  by_cases hz : n = 0
  · have tz : ((n : Int) == 0) = true := by simp [hz]
    have HZ := Lib.hid hz
    clear hz
    go_enter Try.func24, Try.ntmps24
    go_wp2
    go_ret
    exact .inr ⟨fun h => by have := h.1; have := HN.out; have := HZ.out; omega, rfl, 0, rfl⟩
  · have tz : ((n : Int) == 0) = false := by simp; omega
    have h0I : (0 : Int) < (n : Int) := by omega
    obtain ⟨b, o, B0, c0, rfl, hc0, hl0, _⟩ := HA.out 0 (by rw [HN.out]; omega)
    rw [Nat.add_zero] at hc0
    have hb2 := HLL.out 0 (by omega)
    obtain ⟨n0, hn0⟩ : ∃ n0, (ro rows 0).length = n0 := ⟨_, rfl⟩
    rw [hn0] at hc0 hl0 hb2
    have HN0 := Lib.hid hn0
    clear hn0
    by_cases hz0 : n0 = 0
    · have tz0 : ((n0 : Int) == 0) = true := by simp [hz0]
      have HZ := Lib.hid hz0
      clear hz0
      go_enter Try.func24, Try.ntmps24
      go_wp2
      go_ret
      exact .inr ⟨fun h => by have := (h.2 0 (by rw [HN.out]; omega)).1; have := HN0.out; have := HZ.out; omega, rfl, 0, rfl⟩
    · have tz0 : ((n0 : Int) == 0) = false := by simp; omega
      go_enter Try.func24, Try.ntmps24
      go_wp2
      go_loopg [17] n (fun g s wx => ∃ k : Nat, k + g = n ∧ s = .int .i64 (k : Int) ∧ wx = w ∧ ∀ i, i < k → (ro rows i).length = n0)
      case atStart => exact ⟨0, by omega, rfl, rfl, fun i hi => by omega⟩
      case round =>
        obtain ⟨k, hkg, rfl, rfl, hok⟩ := hrel
        have HOK := Lib.hid hok
        clear hok
        cases gk with
        | zero =>
          obtain rfl : k = n := by omega
          clear hkg
          go_wp2
          go_ret
          exact .inl ⟨⟨by rw [HN.out]; omega, fun i hi => by rw [HN.out] at hi; have := HOK.out i hi; have := HN0.out; omega⟩, rfl, 0, rfl⟩
        | succ g =>
          have hk : k < n := by omega
          have hkI : (k : Int) < (n : Int) := by omega
          obtain ⟨b', o', Bk, ck, e0, hck, hlk, _⟩ := HA.out k (by rw [HN.out]; exact hk)
          injection e0 with e0
          injection e0 with e1 e2
          subst e1; subst e2
          have hb1 := HLL.out k hk
          obtain ⟨nk, hnk⟩ : ∃ nk, (ro rows k).length = nk := ⟨_, rfl⟩
          rw [hnk] at hck hlk hb1
          have HNK := Lib.hid hnk
          clear hnk
          by_cases h2 : nk = n0
          · have t2 : ((nk : Int) != (n0 : Int)) = false := by subst h2; simp
            have H2 := Lib.hid h2
            clear h2
            go_wp2
            go_roundg g
            case measure => omega
            case rel => exact ⟨k + 1, by omega, by go_num, rfl, fun i hi => by
              by_cases e : i = k
              · subst e
                have := HNK.out
                have := H2.out
                omega
              · exact HOK.out i (by omega)⟩
          · have t2 : ((nk : Int) != (n0 : Int)) = true := by simp; omega
            go_wp2
            go_ret
            exact .inr ⟨fun h => by have := (h.2 k (by rw [HN.out]; exact hk)).2; have := HNK.out; have := HN0.out; omega, rfl, 0, rfl⟩
end Go.Proofs.Ytlncelfacfflhaa
