/-
  Trim of layer 2 once more: what it hands back lies in memory of its own, that may be written. Conditions: no more than 2^16 coefficients.
-/
import Derived.Test.YtagdialceelggaaPAddM
namespace Go.Proofs.Ytagdialceelggaa
open Go.RowKit
open Pol (co Sm trim)

/-- A slice that reads as l, in a block of the call's own. -/
def OwnsR (l : List Nat) (w : World) (e : Ending) (w' : World) : Prop := ∃ A c g, e = .returned (.slice A l.length c) ∧ l.length ≤ c ∧ (0 < l.length → A = some ⟨g, 0, none⟩ ∧ w.heap.size ≤ g) ∧ Cells w' g l.length (co l) ∧ Ext w w'
theorem ownsR_of {w w' : World} {v : Value} {l : List Nat} (hm : Mine w' w.heap.size v l) (hx : Ext w w') : OwnsR l w (.returned v) w' := by
  rcases hm.2 with ⟨rfl, hn⟩ | ⟨g, cap, cur, rfl, hb, hg, hnc, _, _, htake⟩
  · have : l = [] := List.eq_nil_of_length_eq_zero hn
    subst this
    exact ⟨none, 0, 0, rfl, Nat.le_refl _, fun h => absurd h (by simp), fun i hi => absurd hi (by simp), hx⟩
  · refine ⟨_, cap, g, rfl, hnc, fun _ => ⟨rfl, hb⟩, fun i hi => ⟨?_, frozen_of_row w' g i cur _ hg⟩, hx⟩
    rw [cell_of_row w' g i cur _ _ hg, ← bv_at l i hi, ← htake, List.getElem?_take, if_pos (by omega)]
    simp
theorem ptrim_own (l : List Nat) (A : Option Addr) (c : Nat) (w : World) (hr : Rd w A l) (hc : l.length ≤ c) (hl : l.length ≤ 65536) :
    Calls Try.prog 15 #[.slice A l.length c] w (OwnsR (trim l) w) := by
  have hd := ptrimmed l A c w hr hc hl
  have hrt := hr.trim
  have ht := Pol.trim_len l
  have HR := Lib.hid hrt
  have HD := Lib.hid hd
  clear hd hrt hr
  go_enter Try.func15, Try.ntmps15
  go_wp2_with fail
  refine HD.out.mono ?_
  rintro e w1 ⟨rfl, hx⟩
  have HX := Lib.hid hx
  clear hx
  go_wp2_with (at_builtin; refine wpList_append_rd rfl (.const (.slice none 0 0)) (.tmp 4) rfl w.heap.size (.slice none 0 0) [] (trim l) rfl (mine_nil _ _) _ _ c rfl rfl (HR.out.ext HX.out) (by rw [List.length_nil]; omega) HX.out.size ?_; intro v' w' hown' hg' hat')
  go_ret
  exact ownsR_of hown' (HX.out.more hg' (by intro k hk; simp [Value.ownBlock] at hk))
end Go.Proofs.Ytagdialceelggaa
