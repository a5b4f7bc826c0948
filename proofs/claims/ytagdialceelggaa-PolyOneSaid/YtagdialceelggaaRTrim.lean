/- What the document's own Trim of layer 2 does: the list without the zeros at its end, in memory of its own. Conditions: no more than 2^20 bytes. -/
import Derived.Test.YtagdialceelggaaAppend
namespace Go.Proofs.Ytagdialceelggaa
open Go.RowKit
open Pol (co Sm)

set_option maxHeartbeats 400000 in
set_option maxRecDepth 100000 in
theorem ref_trim (l : List Nat) (A : Option Addr) (ca : Nat) (w : World) (ha : Rd w A l) (hc : l.length ≤ ca) (hl : l.length ≤ 1048576) :
    Calls Try.prog 12 #[.slice A l.length ca] w (Gives (Pol.trim l) w) := by
  generalize hn : l.length = n at hc hl ⊢
  have HA := Lib.hid ha
  have HN := Lib.hid hn
  clear ha hn
  go_enter Try.func12, Try.ntmps12
  go_wp2
  go_loopg [3] n (fun g s wx => g ≤ n ∧ s = .int .i64 (g : Int) ∧ wx = w ∧ ∀ i, g ≤ i → co l i = 0)
  case atStart => exact ⟨Nat.le_refl _, rfl, rfl, fun i hi => Pol.co_out l i (by rw [HN.out]; exact hi)⟩
  case round =>
    obtain ⟨hgn, rfl, rfl, hz⟩ := hrel
    have HZ := Lib.hid hz
    clear hz
    cases gk with
    | zero =>
      have HD := Lib.hid (Or.inl rfl : (0 = 0 ∨ co l (0 - 1) ≠ 0))
      have hr := HA.out.take 0
      have hz : (l.take 0).length = 0 := by rw [List.length_take, HN.out]; omega
      have ht : Pol.trim l = l.take 0 := Pol.trim_of l 0 (by rw [HN.out]; omega) HZ.out HD.out
      have hs := HA.out.1.trim
      have HR := Lib.hid hr
      have HL := Lib.hid hz
      have HT := Lib.hid ht
      have HS := Lib.hid hs
      have HM := Lib.hid (mine_empty wr)
      clear hr hz ht hs
      go_wp2_with (at_builtin; refine wpList_append_rd rfl (.tmp 18) (.tmp 21) rfl wr.heap.size (.slice (some ⟨wr.heap.size, 0, none⟩) 0 0) [] (l.take 0) rfl HM.out _ _ ca rfl HL.out (HR.out.ext ((Ext.refl _).alloc _)) (by rw [HL.out, List.length_nil]; omega) (by simp) ?_; intro v' w' hown' hg' hat')
      go_ret
      exact gives_of hown' (by rw [HT.out]; rfl) HS.out (((Ext.refl _).alloc _).more hg' (by intro k hk; simp [Value.ownBlock] at hk; omega))
    | succ g =>
      obtain ⟨b, o, rfl, hcl⟩ := HA.out.2 g (by rw [HN.out]; omega)
      have hgI : (0 : Int) < (g : Int) + 1 := by omega
      by_cases h0 : co l g = 0
      · have ht : (((co l g : Nat) : Int) == 0) = true := beq_iff_eq.2 (by omega)
        have H0 := Lib.hid h0
        clear h0
        go_wp2
        go_roundg g
        case measure => omega
        case rel => exact ⟨by omega, by go_num, rfl, fun i hi => by
          by_cases e : i = g
          · subst e; exact H0.out
          · exact HZ.out i (by omega)⟩
      · have ht : (((co l g : Nat) : Int) == 0) = false := beq_eq_false_iff_ne.2 (by omega)
        have HD := Lib.hid (Or.inr h0 : (g + 1 = 0 ∨ co l (g + 1 - 1) ≠ 0))
        clear h0
        have hr := HA.out.take (g + 1)
        have hz : (l.take (g + 1)).length = (g + 1) := by rw [List.length_take, HN.out]; omega
        have hq : Pol.trim l = l.take (g + 1) := Pol.trim_of l (g + 1) (by rw [HN.out]; omega) HZ.out HD.out
        have hs := HA.out.1.trim
        have HR := Lib.hid hr
        have HL := Lib.hid hz
        have HT := Lib.hid hq
        have HS := Lib.hid hs
        have HM := Lib.hid (mine_empty wr)
        clear hr hz hq hs
        go_wp2_with (at_builtin; refine wpList_append_rd rfl (.tmp 18) (.tmp 21) rfl wr.heap.size (.slice (some ⟨wr.heap.size, 0, none⟩) 0 0) [] (l.take (g + 1)) rfl HM.out _ _ ca rfl HL.out (HR.out.ext ((Ext.refl _).alloc _)) (by rw [HL.out, List.length_nil]; omega) (by simp) ?_; intro v' w' hown' hg' hat')
        go_ret
        exact gives_of hown' (by rw [HT.out]; rfl) HS.out (((Ext.refl _).alloc _).more hg' (by intro k hk; simp [Value.ownBlock] at hk; omega))
end Go.Proofs.Ytagdialceelggaa
